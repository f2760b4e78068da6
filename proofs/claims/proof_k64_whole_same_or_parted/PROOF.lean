import PyProof.Rows.All
import Wide.All
import OpenK.AllK
import Wide.FinOn
import Lean
import PyProof.EqAt
import PyProof.EqKinds
import PyProof.TupleCall
import PyProof.NeKinds
import PyProof.NsDelKeeps
import KE.KRevSl
import PyProof.StrWalks
import PyProof.ConsumeWalk
import PyProof.SumWalk
import PyProof.Rows.SortStr
import PyProof.SumWalkG
import PyProof.StrCalls2
import PyProof.StrLawsIdx
import PyProof.WalkInts
import PyProof.StrOps2
import PyProof.SliceStr2
import PyProof.Draws
import PyProof.EnumMake
import PyProof.Rows.SetFrom
import PyProof.SetRoads
import PyProof.WalksMore
import PyProof.ListRange
import PyProof.TupleOfSeq
import PyProof.TupleOfGen
import PyProof.Rows.SortShell
import PyProof.ZipIter
import PyProof.DictStraight
import PyProof.TupleKey
import PyProof.DictRoadsH
import PyProof.DictTruth
import PyProof.Rows.TupTab
import KE.KTabLook
import PyProof.FString
import PyProof.CallStr
import KE.KIntText
import PyProof.Rows.Range3
import PyProof.DictRoads
import PyProof.Rows.StrNews2
import KE.KDictOf
import KE.KMinKey
import PySem.Challenge.RW_worldfind_k64_whole_same_or_parted
set_option Elab.async false
set_option linter.all false
set_option maxRecDepth 100000
set_option compiler.extract_closed false
set_option bootstrap.genMatcherCode false
noncomputable section
open List renaming length_map → Aa, getElem?_eq_some_iff → Aa0, mem_cons_of_mem → Aa2, range → Aa3, getElem?_eq_getElem → Aa4, mem_cons_self → Aa5, length_append → Aa6, length_cons → Aa7, replicate → Ab, mem_append_right → Ab0, map_cons → Ab1, mem_range → Ab4, mem_map → Ab6, lookup_cons → Ab7, mem_cons → Ab8, getElem?_set_self → Ab9, getElem?_map → Ac, size_toArray → Ac0, mem_singleton → Ac2, mem_of_getElem? → Ac4, getD_eq_getElem?_getD → Ac5, mem_append → Ac8, getElem?_append_left → Ac9, mem_append_left → Ad, map_map → Ad1, any_eq_true → Ad2, length_nil → Ad3, set_set → Ad8, getElem?_append_right → Ad9, append_assoc → Ae, map_append → Ae0, length_set → Ae1, length_replicate → Ae2, append_nil → Ae3, getElem?_set_ne → Ae4, nil_append → Ae7, map_nil → Af0, replicate_succ → Af2, length_range → Af3, length_take → Af6, length_drop → Af7, isEmpty_iff → Af8, flatMap_cons → Ag0, any_cons → Ag9, range_succ_eq_map → Ah3, nodup_cons → Ai, map_congr_left → Ai1, getElem?_replicate → Ai2, not_mem_nil → Ai4, eq_nil_of_length_eq_zero → Ai5, all_eq_true → Ai6, take_of_length_le → Ai7, mem_filter → Ai9, lookup → Aj, length_filter_le → Aj0, nodup_append → Aj3, range_eq_range' → Aj7, filterMap_cons → Aj9, pairwise_cons → Ak2, foldl_cons → Ak3, any_eq_false → Ak7, range'_succ → Al2, mem_flatMap → Al3, getElem_mem → Al4, filter_cons → Al5, all_cons → Al6, range' → Al7, length_zip → Al8, getElem_of_mem → Al9, drop_eq_getElem_cons → Am4, reverse_cons → Am6, getElem?_take_of_lt → Am7, sum_cons → Am9, set_append_right → An2, range_succ → An3, getElem?_toArray → An4, filter_map → An5, all_map → An6, length_reverse → Ao4, Pairwise → Ao7, any_map → Ap2, take_length → Ap5, cons_append → Ap6
open Bool renaming and_eq_true → Aa1, false_ne_true → Ac3, true_and → Ae5, or_eq_true → Ae8, false_and → Ae9, not_eq_true' → Ag6, and_false → Ah7, false_eq_true → Ak4, eq_false_iff → Ak8, true_or → Am2, not_false → Ao3, or_eq_true_iff → Ao5, not_true → Ao8, not_eq_true → Ap7, noConfusion → Ap8
open PySem.W renaming Frag → Aa8, kia_one → Af1, keepIn → Ah5, emptyDict → Ah8, instObj → Ak, findIn → Ak6, plainGet → Am5, cellsFrom_some → Am8, lookIn → An1, plainGet_of → An7, callWith_K → Ao0, kitx_list → Ao6
open Nat renaming le_refl → Aa9, lt_of_lt_of_le → Ab3, le_trans → Ab5, ne_of_lt → Ac6, pow_le_pow_right → Ad0, two_pow_pos → Ad4, testBit_two_pow → Ad7, zero_le → Ae6, testBit_or → Af, and_two_pow_sub_one_eq_mod → Af4, mul_le_mul → Af5, zero_testBit → Af9, lt_succ_self → Ag, le_of_lt → Ag1, testBit_two_pow_sub_one → Ag3, le_succ → Ag4, not_lt_zero → Ag7, testBit_mod_two_pow → Ah, testBit_div_two_pow → Ah0, testBit_and → Ah2, lt_of_le_of_lt → Ah6, lt_irrefl → Ai3, testBit_lt_two_pow → Ai8, mod_lt → Aj5, eq_of_testBit_eq → Aj8, zero_add → Ak0, testBit_two_pow_self → Ak1, min_eq_left → Ak5, or_lt_two_pow → Ak9, le_of_eq → Al1, div_add_mod → Am, sub_self → Am3, add_sub_cancel_left → An, mul_comm → An8, not_le → Ao, pow_lt_pow_right → Ao1, mul_le_mul_right → Ao2, sub_le → Ap0, le_succ_of_le → Ap1, ne_of_gt → Ap3, add_comm → Ap4
open PySem.Heap renaming get?_push_of_some → Ab2, lt_size → Ac1, get?_push_size → Ac7, SameBut → Aj1, size_push → Al, get?_update_other → An0
open Int renaming toNat_natCast → Ad5, eq_ofNat_of_zero_le → Ah1, fdiv_eq_ediv_of_nonneg → Am0, emod_nonneg → An9, natCast_nonneg → Ao9, emod_lt_of_pos → Ap
open Option renaming some → Ad6, bind_some → Ag2, map_eq_some_iff → Ag5, bind_eq_some_iff → Ag8, isSome_iff_exists → Ah9, isNone_iff_eq_none → Aj6, getD_some → Al0
open Classical renaming choose_spec → Ah4, byContradiction → Aj2, choose → Aj4, propDecidable → Am1
open Array renaming length_toList → Ai0
open Decidable renaming decide → u9
open Option renaming some → k0, none → y0
open Bool renaming true → u0, false → k9
namespace L2
open PySem PySem.Spec PyProof.Rows
abbrev c3:=Sum Int Str
def mj:c3->Value->Bool
 | .inl k,v=>Value.isInt k v
 | .inr x,v=>Value.isStrOf x v
def ER (w:World):c3->Int
 | .inl k=>hashInt k
 | .inr x=>hashStr w x
def Qd: ∀ {k}{v},mj k v=u0->(∃ i t,k=Sum.inl i/\v=Value.int i t)\/(∃ x t,k=Sum.inr x/\v=Value.str x t)
 | .inl i,v,h=>by
  obtain⟨t,e⟩:=Value.isInt_shape h
  exact .inl ⟨i,t,rfl,e⟩
 | .inr x,v,h=>by
  obtain⟨t,e⟩:=Value.isStrOf_shape h
  exact .inr ⟨x,t,rfl,e⟩
def FE (x) (t):mj (.inr x) (.str x t)=true:=by simp [mj,Value.isStrOf]
def En (a b):u9 ((Sum.inl a:c3)=Sum.inl b)=(a==b):=by grind
def DS (a b):u9 ((Sum.inr a:c3)=Sum.inr b)=u9 (a=b):=by simp
def HD (a) (b):u9 ((Sum.inl a:c3)=Sum.inr b)=false:=decide_eq_false (λq=>nomatch q)
def Ej (a) (b):u9 ((Sum.inr a:c3)=Sum.inl b)=false:=decide_eq_false (λq=>nomatch q)
noncomputable def zE (prog:Program) (w:World):PySem.KeyKind prog w c3 where
 is:=mj
 hash:=ER w
 inj:=λv a b g d=>by
  rcases Qd g with⟨i,t,rfl,rfl⟩ | ⟨x,t,rfl,rfl⟩
  .rcases Qd d with⟨j,u,rfl,e⟩ | ⟨y,u,rfl,e⟩
   .injection e with e1 _;rw [e1]
   .exact nomatch e
  .rcases Qd d with⟨j,u,rfl,e⟩ | ⟨y,u,rfl,e⟩
   .exact nomatch e
   .injection e with e1 _;rw [e1]
 byValue:=λk v h=>by
  rcases Qd h with⟨i,t,rfl,rfl⟩ | ⟨x,t,rfl,rfl⟩<;>rfl
 pyHash:=λc h=>by
  rcases Qd c with⟨i,t,rfl,rfl⟩ | ⟨x,t,rfl,rfl⟩
  .exact wpAny_pyHash_int h
  .exact wpAny_pyHash_str h
 eqBool:=λf c h=>by
  rcases Qd f with⟨i,t,rfl,rfl⟩ | ⟨x,t,rfl,rfl⟩
  .rcases Qd c with⟨j,u,rfl,rfl⟩ | ⟨y,u,rfl,rfl⟩
   .rw [En]at h;exact wpAny_eqBool_int h
   .rw [HD]at h;exact SeqAt.EqAt.int_str i t y u _ _ _ _ h
  .rcases Qd c with⟨j,u,rfl,rfl⟩ | ⟨y,u,rfl,rfl⟩
   .rw [Ej]at h;exact SeqAt.EqAt.str_int x t j u _ _ _ _ h
   .rw [DS]at h;exact wpAny_eqBool_str h
 «strs» :=λk x t v h=>by
  rcases Qd h with⟨i,u,rfl,e⟩ | ⟨y,u,rfl,e⟩
  .exact nomatch e
  .injection e with e1 _
   subst e1
   cases v<;>rfl
def Xl (prog) (w) (x) (t):(zE prog w).is (.inr x) (.str x t)=true:=FE x t
inductive V where
 | au | bl (b:Bool) | int (i:Int) | str (x:Str) | i5 (b:Array UInt8) | g9 (b:UInt64) | ref (a:Addr) | ty (n:String)
 deriving DecidableEq
def RelV:V->Value->Prop
 | .au,u=>u=Value.none
 | .bl b,u=>u=Value.bool b
 | .int i,u=> ∃t,u=Value.int i t
 | .str x,u=> ∃t,u=Value.str x t
 | .i5 b,u=> ∃t,u=Value.bytes b t
 | .g9 b,u=> ∃t,u=Value.float b t
 | .ref a,u=>u=Value.ref a
 | .ty n,u=>u=Value.type n
abbrev Vals:List V->List Value->Prop:=Paired RelV
theorem Vals.length (r:Vals xs us):xs.length=us.length:=Paired.length r
theorem Vals.get: ∀ {xs}{us}{i:Nat}{x},Vals xs us->xs[i]? =k0 x-> ∃u,us[i]? =k0 u/\RelV x u
 | _,_,_,_,.nil,e=>by simp at e
 | _,_,0,_,.cons r _,e=>by simp at e;subst e;exact⟨_,rfl,r⟩
 | _,_,i+1,x,.cons _ t,e=>by
  obtain⟨u,b,a⟩:=Vals.get t (by simpa using e)
  exact⟨u,by simpa using b,a⟩
theorem Vals.set (r:RelV x u): ∀ {xs}{j} i,Vals xs j->Vals (xs.set i x) (j.set i u)
 | _,_,_,.nil=> .nil
 | _,_,0,.cons _ t=> .cons r t
 | _,_,i+1,.cons q t=> .cons q (Vals.set r i t)
theorem Vals.append: ∀ {xs ys}{i ws},Vals xs i->Vals ys ws->Vals (xs++ys) (i++ws)
 | _,_,_,_,.nil,s=>s
 | _,_,_,_,.cons r t,s=> .cons r (Vals.append t s)
theorem Vals.take: ∀ {xs}{i}(n),Vals xs i->Vals (xs.take n) (i.take n)
 | _,_,0,_=> .nil
 | _,_,_+1,.nil=> .nil
 | _,_,n+1,.cons r t=> .cons r (Vals.take n t)
theorem Vals.drop: ∀ {xs}{i}(n),Vals xs i->Vals (xs.drop n) (i.drop n)
 | _,_,0,r=>r
 | _,_,_+1,.nil=> .nil
 | _,_,n+1,.cons _ t=>Vals.drop n t
def cz:Option V->Option Value->Prop
 | some v,k0 u=>RelV v u
 | none,none=>True
 | _,_=>False
def KV {a:Type}:List (a×V)->List (a×Value)->Prop:=Paired λ(p:a×V) (q:a×Value)=>p.1=q.1/\RelV p.2 q.2
def kV:c3->V
 | .inl i=> .int i
 | .inr x=> .str x
inductive HO where
 | lst (xs:List V)
 | tup (xs:List V)
 | dK (kvs:List (c3×V)) | dT (kvs:List (List c3×V))
 | set (S:Int->Bool) (n:Nat)
 | ins (C dx:Addr) (fs:List (Str×V))
 | own (x:Addr)
 | xd (fs:List (Str×V))
 | met (f x:Addr)
 | iX (lo hi:Int)
 | eu (o:Obj) (u:HO)
 | iK (ps:Array Value)
 | ext (φ:Heap->Prop)
abbrev Hp:=Addr->Option HO
def aP (H:Hp) (a:Addr) (o:HO):Hp:=λb=>if b=a then k0 o else H b
def wc :aP H a o a=k0 o:=by unfold aP;rw [if_pos rfl]
def Qa (h:b≠a):aP H a o b=H b:=by unfold aP;rw [if_neg h]
def Zb {H:Hp}(h:H a=k0 o) (h':H b=y0):a≠b:=by
 intro e;subst e;rw [h]at h';cases h'
def c7 (h:Heap) (a:Addr) (b:Array Value):Prop:= ∃o,h.get? a=some o/\o.cls= .type "tuple" /\o.dict=none/\ ∃n,o.data= .seq b n
def c7.is (p:c7 h a u8):IsTup h a u8:=let ⟨o,e,c,_,n,d⟩:=p; ⟨o,e,c,n,d⟩
theorem c7.lt (p:c7 h a u8):a<h.objs.size:=p.is.lt
def c7.new (h:Heap) (u8):c7 (h.push { cls:= .type "tuple",data:= .seq u8 }) h.objs.size u8:=⟨_,Heap.get?_push_size _ rfl,rfl,rfl,_,rfl⟩
section
variable (P:Program) (w:World)
def a8 (H:Hp) (h:Heap) (a:Addr):HO->Prop
 | .lst xs=>xs.length<=sizeLine/\ ∃(b:List Value) (n:Nat),Vals xs b/\h.get? a=k0 { cls:= .type "list",data:= .seq b.toArray n }
 | .tup xs=>xs.length<=sizeLine/\ ∃b:List Value,Vals xs b/\c7 h a b.toArray
 | .dK kvs=>kvs.length<=sizeLine/\(a==sysModules)=k9/\ ∃d,KV kvs d/\h.DictOf (zE P w) a d
 | .dT kvs=>kvs.length<=sizeLine/\(a==sysModules)=k9/\ ∃xs:List (List c3×Addr×Value),
  Paired (λ(p:List c3×V) (q:List c3×Addr×Value)=>p.1=q.1/\H q.2.1=k0 (.tup (p.1.map kV))/\RelV p.2 q.2.2) kvs xs ∧
  ∃o es e,h.get? a=k0 o/\o.ExactDict/\o.data= .dict es e/\es.toList=xs.map (entryOfKey (tupleKind (zE P w)))/\(xs.map (·.1)).Nodup
 | .set S n=>h.SetOf (intKind P w) a S n
 | .ins C dx fs=>H dx=k0 (.own a)/\fs.length<=1000/\dx≠a/\h.get? a=k0 (Ak C dx) ∧
  ∃mA,h.Ns1 dx mA/\(∀ f,cz (fs.lookup f) (mA f))/\PySem.Within mA (fs.map (·.1))
 | .own _=> ∃o,h.get? a=k0 o
 | .xd fs=> ∃mA,h.Ns1 a mA/\ ∀f,cz (fs.lookup f) (mA f)
 | .iX lo hi=> ∃t u v,h.get? a=k0 { cls:= .type "range",data:= .fields #[.int lo t,.int hi u,.int 1 v] }
 | .eu o u=>h.get? a=k0 o/\a8 H h a u
 | .iK ps=>h.get? a=k0 { cls:= .none,data:= .fields ps }
 | .met f x=>h.get? a=k0 (PySem.W.methodObj (.ref f) (.ref x))
 | .ext c=>c h/\(∃ o,h.get? a=k0 o)/\ ∀h1 h2:Heap,c h1->(∀ o,h1.get? a=k0 o->h2.get? a=k0 o)->c h2
def cY (H:Hp) (h:Heap):Prop:= ∀a o,H a=k0 o->a8 P w H h a o
end
section
variable {P:Program}{w:World}{H H':Hp}{h h':Heap}{a:Addr}{o:HO}
theorem a8.lt (x:a8 P w H h a o):a<h.objs.size:=by
 cases o with
 | lst c=>obtain⟨_,_,_,_,e⟩:=x;exact Ac1 e
 | tup c=>obtain⟨_,_,_,p⟩:=x;exact p.lt
 | dK b=>obtain⟨_,_,_,_,o,_,_,e,_⟩:=x;exact Ac1 e
 | dT b=>obtain⟨_,_,_,_,o,_,_,e,_⟩:=x;exact Ac1 e
 | set S n=>obtain⟨o,_,_,_,e,_⟩:=x;exact Ac1 e
 | ins C i fs=>obtain⟨_,_,_,e,_⟩:=x;exact Ac1 e
 | own y=>obtain⟨_,e⟩:=x;exact Ac1 e
 | xd fs=>obtain⟨_,⟨_,_,_,e,_⟩,_⟩:=x;exact Ac1 e
 | iX g k=>obtain⟨_,_,_,e⟩:=x;exact Ac1 e
 | eu d u=>obtain⟨e,_⟩:=x;exact Ac1 e
 | iK j=>exact Ac1 (x)
 | met f y=>exact Ac1 (x)
 | ext l=>obtain⟨_,⟨_,e⟩,_⟩:=x;exact Ac1 e
theorem Paired.kW : ∀ {i}{l₂},Paired F i l₂->(∀ a b,F a b->G a b)->Paired G i l₂
 | _,_,.nil,_=> .nil
 | _,_,.cons r t,f=> .cons (f _ _ r) (Paired.kW t f)
def a8.dN (x:a8 P w H h a o) (k: ∀b u,(b=a\/H b=k0 (.own a))->h.get? b=k0 u->h'.get? b=k0 u)
 (D: ∀b,H b=k0 (.own a)->H' b=k0 (.own a)) (F: ∀b xs,H b=k0 (.tup xs)->H' b=k0 (.tup xs)):a8 P w H' h' a o:=by
 induction o with
 | lst xs=>obtain⟨z,l,n,r,e⟩:=x;exact⟨z,l,n,r,k _ _ (.inl rfl) e⟩
 | tup xs=>obtain⟨z,l,r,g,e,c⟩:=x;exact⟨z,l,r,g,k _ _ (.inl rfl) e,c⟩
 | dK s=>obtain⟨z,y,E,r,g,j,i,e,c⟩:=x;exact⟨z,y,E,r,g,j,i,k _ _ (.inl rfl) e,c⟩
 | dT s=>
  obtain⟨z,y,xs,r,g,j,i,e,c⟩:=x
  exact⟨z,y,xs,Paired.kW r λp q z=>⟨z.1,F _ _ z.2.1,z.2.2⟩,g,j,i,k _ _ (.inl rfl) e,c⟩
 | set S n=>obtain⟨g,j,i,t,e,c⟩:=x;exact⟨g,j,i,t,k _ _ (.inl rfl) e,c⟩
 | ins C J fs=>
  obtain⟨d,z,ne,e,A,⟨m,j,i,e2,c⟩,r⟩:=x
  exact⟨D _ d,z,ne,k _ _ (.inl rfl) e,A,⟨m,j,i,k _ _ (.inr d) e2,c⟩,r⟩
 | own y=>obtain⟨g,e⟩:=x;exact⟨g,k _ _ (.inl rfl) e⟩
 | xd fs=>obtain⟨A,⟨m,j,i,e,c⟩,r⟩:=x;exact⟨A,⟨m,j,i,k _ _ (.inl rfl) e,c⟩,r⟩
 | iX I L=>obtain⟨t,u,v,e⟩:=x;exact⟨t,u,v,k _ _ (.inl rfl) e⟩
 | eu g u G=>obtain⟨e,q⟩:=x;exact⟨k _ _ (.inl rfl) e,G q⟩
 | iK K=>
  have e:=x
  exact k a _ (.inl rfl) e
 | met f y=>
  have e:=x
  exact k a _ (.inl rfl) e
 | ext M=>obtain⟨p,⟨o,e⟩,B⟩:=x;exact⟨B _ _ p λo q=>k _ _ (.inl rfl) q,⟨o,k _ _ (.inl rfl) e⟩,B⟩
theorem cY.lt (x:cY P w H h) (e:H a=k0 o):a<h.objs.size:=(x a o e).lt
def cY.fresh (x:cY P w H h) (e:h.objs.size<=a):H a=none:=by
 cases q:H a with
 | none=>rfl
 | some u=>exact absurd (Ab3 (x.lt q) e) (Ai3 _)
def cY.kept (x:cY P w H h) (k: ∀b u,h.get? b=k0 u->h'.get? b=k0 u):cY P w H h':=λa o e=>
 (x a o e).dN (λb u _ q=>k b u q) (λ_ q=>q) λ_ _ q=>q
def cY.laid (x:cY P w H h) (k: ∀b u,h.get? b=k0 u->h'.get? b=k0 u) (g:h.objs.size<=a) (new:a8 P w (aP H a o) h' a o):cY P w (aP H a o) h':=λb u e=>by
 have f:=x.fresh g
 by_cases d:b=a
 .subst d;rw [wc]at e;cases e;exact new
 .rw [Qa d]at e
  exact(x b u e).dN (λc v _ q=>k c v q) (λc q=>by rw [Qa (Zb q f)];exact q) λc i q=>by rw [Qa (Zb q f)];exact q
end
def Rd (H:Hp) (a:Addr) (u:HO):Prop:=H a=k0 u\/ ∃o,H a=k0 (.eu o u)
def Rd.ok (r:Rd H a u) (x:cY P w H h):a8 P w H h a u:=by
 obtain r | ⟨o,r⟩:=r
 .exact x a u r
 .obtain⟨_,q⟩:=x a _ r
  exact q
def l7:Option HO->Prop
 | some (.lst _)=>True
 | some (.dK _)=>True
 | some (.dT _)=>True
 | some (.set _ _)=>True
 | some (.ins _ _ _)=>True
 | some (.ext _)=>True
 | _=>False
section
variable {P:Program}{w:World}{H:Hp}{h h':Heap}{x e:Addr}{o':HO}
def cY.write (ok:cY P w H h) (i:l7 (H x)) (o:e=x\/H e=k0 (.own x)) (k: ∀b u,b≠e->h.get? b=k0 u->h'.get? b=k0 u) (m: ∃u,h'.get? e=k0 u)
 (new:a8 P w (aP H x o') h' x o'):cY P w (aP H x o') h':=λb u q=>by
 have d: ∀c y,H c=k0 (.own y)->c≠x:=λc y r z=>by subst z;rw [r]at i;exact i
 have f: ∀c g,H c=k0 (.tup g)->c≠x:=λc g r z=>by subst z;rw [r]at i;exact i
 by_cases j:b=x
 .subst j;rw [wc]at q;cases q;exact new
 .rw [Qa j]at q
  by_cases a:b=e
  .have n:H b=k0 (.own x):=by
    obtain z | z:=o
    .exact absurd (a.trans z) j
    .rw [a];exact z
   rw [q]at n;cases n
   obtain⟨v,p⟩:=m
   exact⟨v,by rw [a];exact p⟩
  .refine(ok b u q).dN (λc v l r=>k c v ?_ r) (λc r=>by rw [Qa (d c b r)];exact r) λc g r=>by rw [Qa (f c g r)];exact r
   obtain rfl | l:=l
   .exact a
   .rintro rfl
    obtain z | z:=o
    .exact d c b l z
    .rw [l]at z;cases z;exact j rfl
end
structure Un (fs ex:List Addr) (H H':Hp) (h h':Heap):Prop where
 keep: ∀b o,h.get? b=k0 o->H b=y0->b∉fs->b∉ex->h'.get? b=k0 o
 slot: ∀b o,h.get? b=k0 o->H b=y0->b∈fs->b∉ex-> ∃sl,h'.get? b=k0 { o with slots:=sl }
 free: ∀b o,h.get? b=k0 o->H b=y0->b∉ex->H' b=y0
 there: ∀b o,h.get? b=k0 o->b∉ex-> ∃o',h'.get? b=k0 o'
 eF: ∀b xs,H b=k0 (.tup xs)->H' b=k0 (.tup xs)
 d3: ∀b o u,H b=k0 (.eu o u)->H' b=k0 (.eu o u)
 eI: ∀b ps,H b=k0 (.iK ps)-> ∃more,H' b=k0 (.iK (ps++more))
section
variable {fs fs' ex ex':List Addr}{H H1 H2:Hp}{h h1 h2 h':Heap}{a x e:Addr}{o:HO}
def Un.any (u:Un fs ex H H1 h h1)(q:h.get? b=k0 ob) (n:H b=y0) (c:b∉ex): ∃sl,h1.get? b=k0 { ob with slots:=sl }:=by
 by_cases a:b∈fs
 .exact u.slot b ob q n a c
 .exact⟨ob.slots,u.keep b ob q n a c⟩
def Un.kept (k: ∀b u,h.get? b=k0 u->h'.get? b=k0 u):Un fs ex H H h h':=
 ⟨λb a q _ _ _=>k b a q,λb a q _ _ _=>⟨a.slots,k b a q⟩,λ_ _ _ n _=>n,λb a q _=>⟨a,k b a q⟩,λ_ _ q=>q,λ_ _ _ q=>q,λ_ c q=>⟨#[],by rw [q];simp⟩⟩
def Un.refl:Un fs ex H H h h:=Un.kept λ_ _ q=>q
def Un.laid (k: ∀b u,h.get? b=k0 u->h'.get? b=k0 u) (e:h.objs.size<=a) (c:H a=y0):Un fs ex H (aP H a o) h h' where
 keep:=λb u q _ _ _=>k b u q
 slot:=λb u q _ _ _=>⟨u.slots,k b u q⟩
 free:=λb u q n _=>by rw [Qa (Ac6 (Ab3 (Ac1 q) e))];exact n
 there:=λb u q _=>⟨u,k b u q⟩
 eF:=λb d q=>by rw [Qa (Zb q c)];exact q
 d3:=λb u d q=>by rw [Qa (Zb q c)];exact q
 eI:=λb f q=>⟨#[],by rw [Qa (Zb q c),q];simp⟩
def Un.write (c:l7 (H x)) (l:e=x\/H e=k0 (.own x)) (k: ∀b u,b≠e->h.get? b=k0 u->h'.get? b=k0 u) (f: ∃u,h'.get? e=k0 u):Un fs ex H (aP H x o) h h':=by
 have i: ∀b,H b=y0->b≠x:=λb n z=>by subst z;rw [n]at c;exact c
 have g: ∀b,H b=y0->b≠e:=λb n z=>by
  subst z
  obtain r | r:=l
  .exact i b n r
  .rw [n]at r;cases r
 have d: ∀b u,H b=k0 u-> ¬l7 (k0 u)->b≠x:=λb u q nm z=>by subst z;rw [q]at c;exact nm c
 refine⟨λb u q n _ _=>k b u (g b n) q,λb u q n _ _=>⟨u.slots,k b u (g b n) q⟩,λb u q n _=>by rw [Qa (i b n)];exact n,λb u q _=> ?_,
  λb j q=>by rw [Qa (d b _ q λz=>z)];exact q,λb u j q=>by rw [Qa (d b _ q λz=>z)];exact q,λb m q=>⟨#[],by rw [Qa (d b _ q λz=>z),q];simp⟩⟩
 by_cases a:b=e
 .subst a;exact f
 .exact⟨u,k b u a q⟩
end
def rO (h:Heap) (H:Hp):List Addr:=(Aa3 h.objs.size).filter λa=>(H a).isSome
def ke (h:Heap) (H:Hp):Heap:=PySem.W.hideAll h (rO h H)
def Df (h) (H):(ke h H).objs.size=h.objs.size:=PySem.W.hideAll_size _ _
def D8 (e:h.get? b=k0 o) (n:H b=y0):(ke h H).get? b=k0 o:=
 PySem.W.hideAll_get _ e λa=>by
  have q:=(Ai9.mp a).2
  rw [n]at q;simp at q
def Ir (e:(ke h H).get? b=k0 o):h.get? b=k0 o/\H b=none:=by
 have a:=PySem.W.of_hideAll _ e
 refine⟨a,?_⟩
 cases q:H b with
 | none=>rfl
 | some x=>
  have c:b∈rO h H:=Ai9.mpr ⟨Ab4.mpr (Ac1 a),by simp [q]⟩
  have z:(ke h H).get? b=none:=PySem.W.hideAll_none _ c
  rw [z]at e;cases e
noncomputable def LW (g h:Heap) (L:Addr):List (Addr×Obj):=(Aa3 h.objs.size).filterMap λa=>if a=L\/(g.get? a).isSome=u0 then y0 else(h.get? a).map λo=>(a,o)
def Jp (g h:Heap) (L d:Addr):List (Addr×Obj):=(LW g h L).filter λp=>u9 (p.1≠d)
structure Mod (K:Aa8) (mg:Str->Option Value) (base:Heap):Prop where
 lu:K.In base
 glob:base.Ns mainGlobals mg
 blt: ∃mb,base.Ns builtinsNs mb/\ ∀x:Str,x≠ "__name__" ->mb x=bootBuiltins x
 nolimit:base.NoLimit
structure Cx where
 prog:Program
 w:World
 K:Aa8
 mg:Str->Option Value
 base:Heap
 A:Around
 N:List Str
 s₀:Shared
 H₀:Hp
 env:Env
 outer:List Env
 stack:List Env
 ex:List Addr
 fn:Str->Bool
 calm:Bool
 pn:List (Addr×Obj)
 xe:Value->Shared->Prop
def fy (l:List Env):List Addr:=l.filterMap (·.frame)
abbrev Cx.fs (X:Cx):List Addr:=fy X.outer
def mM (sc:Scope) (x:Str):Prop:=sc.names.lookup x=k0 .local\/sc.names.lookup x=k0 .cell\/sc.names.lookup x=k0 .free
def ky (sc:Scope) (x:Str):Prop:=sc.names.lookup x=k0 .local\/sc.names.lookup x=k0 .cell
def Cw (env:Env) (h:Heap) (m:Str->Option Value) (x:Str) (u:Value):Prop:=
 (env.kindOf x=k0 .local/\m x=k0 u)\/((env.kindOf x=k0 .cell\/env.kindOf x=k0 .free)/\ ∃c,env.cells.lookup x=k0 c/\h.IsCell c (k0 u))
structure Cx.Ok (X:Cx):Prop where
 mod:Mod X.K X.mg X.base
 kind:X.env.scope.kind= .function
 glob:X.env.globals=mainGlobals
 blt:X.env.builtins=builtinsNs
 above:X.s₀.heap.objs.size<=X.env.locals
 inj: ∀x y c,X.env.cells.lookup x=k0 c->X.env.cells.lookup y=k0 c->x=y
 has: ∀x,(X.env.kindOf x=k0 .cell\/X.env.kindOf x=k0 .free)-> ∃c,X.env.cells.lookup x=k0 c
 oa: ∀x c,X.fn x=u0->X.env.cells.lookup x=k0 c->X.s₀.heap.objs.size<=c
 hd:X.calm=u0->X.A.handled=y0
 frames:X.A.frames=k0 X.stack
 mh:X.stack=X.outer\/(X.stack=X.env::X.outer/\X.env.frame=k0 X.env.locals)
 vk: ∀b∈X.ex,b≠X.env.locals/\ ∀x c,X.env.cells.lookup x=k0 c->c≠b
 bs: ∀b o,X.base.get? b=k0 o->X.s₀.heap.get? b=k0 o/\X.H₀ b=y0
 hJ:X.base.objs.size<=X.s₀.heap.objs.size
 iq: ∀b o,X.base.get? b=k0 o->b∉X.ex
 iM: ∀b∈X.ex,b∉X.fs
 de:X.s₀.heap.FunFrames X.base X.outer
 kJ: ∀b∈X.fs,X.H₀ b=y0
structure Inv (X:Cx) (pins:List (Addr×Obj)) (U:List (Option V)) (H:Hp) (s:Shared):Prop where
 ok:X.Ok
 os:s.os=X.s₀.os
 bare:AllBare s.gens
 base:Un X.fs X.ex X.H₀ H X.s₀.heap s.heap
 loc: ∃m,s.heap.Ns X.env.locals m/\ ∀(i:Nat) (x:Str) (v:V),X.N[i]? =k0 x->U[i]? =k0 (k0 v)->mM X.env.scope x-> ∃u,RelV v u/\Cw X.env s.heap m x u
 cell: ∀x c,X.env.cells.lookup x=k0 c-> ∃v,s.heap.IsCell c v
 free:H X.env.locals=y0
 cF: ∀x c,X.env.cells.lookup x=k0 c->H c=y0
 pin: ∀p∈X.pn++pins,s.heap.get? p.1=k0 p.2/\H p.1=y0/\p.1≠X.env.locals/\p.1∉X.fs/\ ∀v,p.2.data≠ .cell v
 a0:cY X.prog X.w H s.heap
 len:U.length=X.N.length
section
variable {X:Cx}{pins:List (Addr×Obj)}{U:List (Option V)}{H H':Hp}{s:Shared}{h':Heap}
def Cx.Ok.n0 (ok:X.Ok)(e:X.base.get? b=k0 o):b∉X.fs:=λa=>by
 have:=(ok.de.mem a).1
 rw [e]at this;cases this
theorem Inv.bs (I:Inv X pins U H s): ∀b o,X.base.get? b=k0 o->s.heap.get? b=k0 o/\H b=none:=λb o e=>
 ⟨I.base.keep b o (I.ok.bs b o e).1 (I.ok.bs b o e).2 (I.ok.n0 e) (I.ok.iq b o e),I.base.free b o (I.ok.bs b o e).1 (I.ok.bs b o e).2 (I.ok.iq b o e)⟩
def Inv.bk (I:Inv X pins U H s): ∀b o,X.base.get? b=k0 o->s.heap.get? b=k0 o:=λb o e=>(I.bs b o e).1
theorem Inv.mod (I:Inv X pins U H s):Mod X.K X.mg X.base:=I.ok.mod
def Inv.cu (I:Inv X pins U H s):X.K.In s.heap:=I.ok.mod.lu.keeps I.bk
theorem Inv.lt (I:Inv X pins U H s):X.env.locals<s.heap.objs.size:=let ⟨_,a,_⟩:=I.loc;a.lt
def Inv.sz (I:Inv X pins U H s):X.s₀.heap.objs.size<=s.heap.objs.size:=Ab5 I.ok.above (Ag1 I.lt)
def Inv.ny (I:Inv X pins U H s)(h:s.heap.objs.size<=a):a∉X.fs:=λb=>by
 obtain⟨_,o,c,_⟩:=I.ok.de.mem b
 exact absurd (Ab3 (Ac1 c) (Ab5 I.sz h)) (Ai3 _)
def Inv.ik (I:Inv X pins U H s): ∀x c,X.env.cells.lookup x=k0 c->c≠X.env.locals:=λx c e z=>by
 obtain⟨v,o,d,f⟩:=I.cell x c e
 obtain⟨m,⟨i,h,g,a,b,_⟩,_⟩:=I.loc
 rw [z,a]at d;cases d;rw [b]at f;cases f
theorem Inv.de (I:Inv X pins U H s):s.heap.FunFrames X.base X.outer:=by
 have all: ∀ l,(∀ b∈fy l,b∈X.fs)->X.s₀.heap.FunFrames X.base l->s.heap.FunFrames X.base l:=by
  intro l
  induction l with
  | nil=>intro _ _;trivial
  | cons g r m=>
   intro f p
   obtain⟨h,⟨L,o,c,k,j,i⟩,n⟩:=p
   have a:=f L (by unfold fy;rw [Aj9,c];exact Aa5)
   obtain⟨sl,e⟩:=I.base.slot L o j (I.ok.kJ L a) a λz=>I.ok.iM L z a
   exact⟨h,⟨L,_,c,k,e,i⟩,m (λb d=>f b (by unfold fy;rw [Aj9,c];exact Aa2 _ d)) n⟩
 exact all X.outer (λ_ d=>d) I.ok.de
theorem Inv.stack (I:Inv X pins U H s):s.heap.FunFrames X.base X.stack:=by
 obtain e | ⟨e,a⟩:=I.ok.mh
 .rw [e];exact I.de
 .rw [e]
  obtain⟨m,b,_⟩:=I.loc
  refine .cons (by rw [I.ok.kind];decide) a b ?_ I.de
  exact Heap.get?_none_of_le (Ab5 I.ok.hJ I.ok.above)
def Inv.dC (I:Inv X pins U H s): ∀b∈fy X.stack,b∈X.env.locals::X.fs:=λb a=>by
 obtain e | ⟨e,c⟩:=I.ok.mh
 .rw [e]at a;exact Aa2 _ a
 .rw [e]at a
  unfold fy at a
  rw [Aj9,c]at a
  exact a
def Inv.eZ (I:Inv X pins U H s): ∀b∈fy X.stack,H b=none:=λb a=>by
 rcases Ab8.mp (I.dC b a)with e | a
 .rw [e];exact I.free
 .obtain⟨_,o,c,_⟩:=I.ok.de.mem a
  exact I.base.free b o c (I.ok.kJ b a) λz=>I.ok.iM b z a
def Inv.step {ch:List Addr}(I:Inv X pins U H s)
 (h: ∀b∈ch,(b∈X.ex\/X.s₀.heap.objs.size<=b)/\b≠X.env.locals/\(∀ x c,X.env.cells.lookup x=k0 c->c≠b)/\ ∀p∈X.pn++pins,p.1≠b)
 (keep: ∀b o,b≠X.env.locals->b∉X.fs->b∉ch->s.heap.get? b=k0 o->H b=y0->h'.get? b=k0 o)
 (w: ∀b o,b≠X.env.locals->b∈X.fs->b∉ch->s.heap.get? b=k0 o->H b=y0-> ∃sl,h'.get? b=k0 { o with slots:=sl }) (f: ∀b o,b∉ch->s.heap.get? b=k0 o->H b=y0->H' b=y0)
 (there: ∀b o,b∉ch->s.heap.get? b=k0 o-> ∃o',h'.get? b=k0 o')
 (D: ∀b xs,H b=k0 (.tup xs)->H' b=k0 (.tup xs)) (B: ∀b o u,H b=k0 (.eu o u)->H' b=k0 (.eu o u)) (E: ∀b ps,H b=k0 (.iK ps)-> ∃more,H' b=k0 (.iK (ps++more)))
 (ns: ∀m,s.heap.Ns X.env.locals m->h'.Ns X.env.locals m) (F:cY X.prog X.w H' h') (N:AllBare g'):
 Inv X pins U H' { s with heap:=h',gens:=g',drawn:=d',toks:=t' }:=by
 have C: ∀b o,X.s₀.heap.get? b=k0 o->b≠X.env.locals:=λb o e=>Ac6 (Ab3 (Ac1 e) I.ok.above)
 have t: ∀b o,X.s₀.heap.get? b=k0 o->b∉X.ex->b∉ch:=λb o e a y=>by
  obtain z | z:=(h b y).1
  .exact a z
  .exact absurd (Ab3 (Ac1 e) z) (Ai3 _)
 have j: ∀x c,X.env.cells.lookup x=k0 c-> ∀v,s.heap.IsCell c v->h'.IsCell c v:=by
  rintro x c e v ⟨o,A,J⟩
  have g:=λz=>(h c z).2.2.1 x c e rfl
  by_cases L:c∈X.fs
  .obtain⟨sl,q⟩:=w c o (I.ik x c e) L g A (I.cF x c e)
   exact⟨_,q,J⟩
  .exact⟨o,keep c o (I.ik x c e) L g A (I.cF x c e),J⟩
 refine⟨I.ok,I.os,N,⟨λb o e n y a=> ?_,λb o e n y a=> ?_,λb o e n a=> ?_,λb o e a=> ?_,λb xs e=>D b xs (I.base.eF b xs e),λb o xs e=>B b o xs (I.base.d3 b o xs e),λb ps e=> ?_⟩,?_,λx c e=> ?_,?_,λx c e=> ?_,λp M=> ?_,F,I.len⟩
 .exact keep b o (C b o e) y (t b o e a) (I.base.keep b o e n y a) (I.base.free b o e n a)
 .obtain⟨sl,e1⟩:=I.base.slot b o e n y a
  obtain⟨G,e2⟩:=w b _ (C b o e) y (t b o e a) e1 (I.base.free b o e n a)
  exact⟨G,e2⟩
 .obtain⟨o',e1⟩:=I.base.there b o e a
  exact f b o' (t b o e a) e1 (I.base.free b o e n a)
 .obtain⟨o',e1⟩:=I.base.there b o e a
  exact there b o' (t b o e a) e1
 .obtain⟨O,e1⟩:=I.base.eI b ps e
  obtain⟨S,e2⟩:=E b _ e1
  exact⟨O++S,by rw [e2,Array.append_assoc]⟩
 .obtain⟨m,Q,R⟩:=I.loc
  refine⟨m,ns m Q,λi x v e1 e2 P=> ?_⟩
  obtain⟨u,r,l⟩:=R i x v e1 e2 P
  refine⟨u,r,?_⟩
  obtain l | ⟨k,c,e,z⟩:=l
  .exact .inl l
  .exact .inr ⟨k,c,e,j x c e _ z⟩
 .obtain⟨v,z⟩:=I.cell x c e
  exact⟨v,j x c e v z⟩
 .obtain⟨m,⟨o,_,_,A,_⟩,_⟩:=I.loc
  exact f _ o (λz=>(h _ z).2.1 rfl) A I.free
 .obtain⟨v,o,A,J⟩:=I.cell x c e
  exact f c o (λz=>(h c z).2.2.1 x c e rfl) A (I.cF x c e)
 .obtain⟨e,n,ne,K,d⟩:=I.pin p M
  have g:=λz=>(h p.1 z).2.2.2 p M rfl
  exact⟨keep p.1 p.2 ne K g e n,f p.1 p.2 g e n,ne,K,d⟩
def Inv.un (I:Inv X pins U H s) (u:Un X.fs [] H H' s.heap h') (d:cY X.prog X.w H' h'):Inv X pins U H' { s with heap:=h',toks:=t' }:=by
 obtain⟨m,⟨o,t,l,h,r⟩,_⟩:=id I.loc
 obtain⟨sl,k⟩:=u.any h I.free (by simp)
 exact I.step (ch:= []) (λ_ z=>nomatch z) (λb o _ g _ e n=>u.keep b o e n g (by simp)) (λb o _ g _ e n=>u.slot b o e n g (by simp)) (λb o _ e n=>u.free b o e n (by simp)) (λb o _ e=>u.there b o e (by simp)) u.eF u.d3 u.eI (λq j=>by
  obtain⟨p,f,c,a,i⟩:=j
  rw [h]at a;cases a
  exact⟨_,f,c,k,i⟩) d I.bare
def Inv.call (I:Inv X pins U H s) (u:Un (fy X.stack) ch H H' s.heap h') (i:cY X.prog X.w H' h') (t:AllBare g')
 (d: ∀b∈ch,(b∈X.ex\/X.s₀.heap.objs.size<=b)/\b≠X.env.locals/\(∀ x c,X.env.cells.lookup x=k0 c->c≠b)/\ ∀p∈X.pn++pins,p.1≠b):
 Inv X pins U H' { s with heap:=h',gens:=g',drawn:=d',toks:=t' }:=by
 obtain⟨m,⟨o,B,w,k,r⟩,_⟩:=id I.loc
 obtain⟨sl,h⟩:=u.any k I.free λz=>(d _ z).2.1 rfl
 exact I.step d (λb o h v a e n=>u.keep b o e n (λz=>(Ab8.mp (I.dC b z)).elim h v) a) (λb o _ _ a e n=>u.any e n a) (λb o a e n=>u.free b o e n a) (λb o a e=>u.there b o e a) u.eF u.d3 u.eI (λA q=>by
  obtain⟨y,j,g,f,l⟩:=q
  rw [k]at f;cases f
  exact⟨_,j,g,h,l⟩) i t
def Inv.turned (I:Inv X pins U H s) (k: ∀b o,b≠it->s.heap.get? b=k0 o->h'.get? b=k0 o) (t:H it=y0) (f:it≠X.env.locals)
 (h1:it∈X.ex\/X.s₀.heap.objs.size<=it) (y: ∀x c,X.env.cells.lookup x=k0 c->c≠it) (j: ∀p∈X.pn++pins,p.1≠it):Inv X pins U H { s with heap:=h',toks:=t' }:=by
 have d: ∀b u,H b=k0 u->b≠it:=λb u e z=>by rw [z,t]at e;cases e
 refine I.step (ch:= [it]) (λb w=> ?_) (λb o _ _ a e _=>k b o (λz=>a (by simp [z])) e) (λb o _ _ a e _=>⟨o.slots,k b o (λz=>a (by simp [z])) e⟩) (λ_ _ _ _ n=>n)
  (λb o a e=>⟨o,k b o (λz=>a (by simp [z])) e⟩) (λ_ _ e=>e) (λ_ _ _ e=>e) (λb A e=>⟨#[],by rw [e];simp⟩) (λm g=> ?_) (λb u e=> ?_) I.bare
 .have e:=by simpa using w
  subst e
  exact⟨h1,f,y,j⟩
 .obtain⟨o,l,h,i,r⟩:=g
  exact⟨o,l,h,k _ o (Ne.symm f) i,r⟩
 .refine(I.a0 b u e).dN (λc v a q=>k c v ?_ q) (λ_ q=>q) λ_ _ q=>q
  obtain z | z:=a
  .rw [z];exact d b u e
  .exact d c _ z
def Inv.tok (I:Inv X pins U H s) (t):Inv X pins U H { s with toks:=t }:=I.un Un.refl I.a0
theorem Inv.kept (I:Inv X pins U H s) (k: ∀b u,s.heap.get? b=k0 u->h'.get? b=k0 u):Inv X pins U H { s with heap:=h',toks:=t' }:=I.un (Un.kept k) (I.a0.kept k)
theorem Inv.laid (I:Inv X pins U H s) (k: ∀b u,s.heap.get? b=k0 u->h'.get? b=k0 u) (c:s.heap.objs.size<=a) (new:a8 X.prog X.w (aP H a o) h' a o):
 Inv X pins U (aP H a o) { s with heap:=h',toks:=t' }:=I.un (Un.laid k c (I.a0.fresh c)) (I.a0.laid k c new)
theorem Inv.write (I:Inv X pins U H s) (c:l7 (H x)) (d:e=x\/H e=k0 (.own x)) (k: ∀b u,b≠e->s.heap.get? b=k0 u->h'.get? b=k0 u) (a: ∃u,h'.get? e=k0 u)
 (new:a8 X.prog X.w (aP H x o) h' x o):Inv X pins U (aP H x o) { s with heap:=h',toks:=t' }:=I.un (Un.write c d k a) (I.a0.write c d k a new)
def Inv.bR (I:Inv X pins U H s) (h: ∀p∈pins',s.heap.get? p.1=k0 p.2/\H p.1=y0/\p.1≠X.env.locals/\p.1∉X.fs/\ ∀v,p.2.data≠ .cell v):Inv X pins' U H s:=
 ⟨I.ok,I.os,I.bare,I.base,I.loc,I.cell,I.free,I.cF,λp a=>(Ac8.mp a).elim (λz=>I.pin p (Ad _ z)) (h p),I.a0,I.len⟩
def uu {N:List Str}(c:N.Nodup){i j:Nat}(a:N[i]? =k0 x) (b:N[j]? =k0 x):i=j:=by
 obtain⟨e,e1⟩:=Aa0.mp a
 obtain⟨d,e2⟩:=Aa0.mp b
 exact(List.getElem_inj c).mp (e1.trans e2.symm)
def LM (I:Inv X pins U H s) (hN:X.N.Nodup) (P:X.N[i]? =k0 x) (t:ky X.env.scope x) (r:RelV v u)
 (h: ∀s',Inv X pins (U.set i (k0 v)) H s'->(∃ a,Aj1 a s.heap s'.heap/\(a=X.env.locals\/X.env.cells.lookup x=k0 a))->Q () s') (hf:X.fn x=u0\/X.env.scope.names.lookup x=k0 .local:=by first | exact .inl rfl | exact .inr rfl | assumption):wpAny M A (storeName X.env x u) Q E s:=by
 obtain⟨m,hn,hl⟩:=id I.loc
 have N:(X.env.scope.kind== .class||(X.env.scope.kind== .module&&X.env.locals != X.env.globals))=false:=by rw [I.ok.kind];rfl
 have O:i<U.length:=by rw [I.len];exact(Aa0.mp P).1
 have ik:=I.ik
 have g: ∀ {a}{G},(∃ o,s.heap.get? a=k0 o/\H a=y0)->Aj1 a s.heap G->cY X.prog X.w H G:=λ{a G} ha f b ob e=>by
  obtain⟨_,_,w⟩:=ha
  refine(I.a0 b ob e).dN (λc T l q=>(f.2 c ?_).trans q) (λ_ q=>q) λ_ _ q=>q
  rintro rfl
  rcases l with rfl | l
  .rw [w]at e;cases e
  .rw [w]at l;cases l
 rcases t with B | B
 .refine wpAny_storeName_local B hn (λG hn' f=> ?_) N
  obtain⟨oL,_,_,V,_⟩:=id hn
  refine h _ ⟨I.ok,I.os,I.bare,⟨λb o e n D t=> ?_,λb o e n D t=> ?_,I.base.free,λb o e t=> ?_,I.base.eF,I.base.d3,I.base.eI⟩,⟨_,hn',λj y Z e1 e2 e3=> ?_⟩,λy c e=> ?_,I.free,I.cF,λp hp=> ?_,g ⟨oL,V,I.free⟩ f,by simpa using I.len⟩ ⟨_,f,.inl rfl⟩
  .exact(f.2 b (Ac6 (Ab3 (Ac1 e) I.ok.above))).trans (I.base.keep b o e n D t)
  .obtain⟨sl,e1⟩:=I.base.slot b o e n D t
   exact⟨sl,(f.2 b (Ac6 (Ab3 (Ac1 e) I.ok.above))).trans e1⟩
  .obtain⟨Y,e1⟩:=I.base.there b o e t
   exact⟨Y,(f.2 b (Ac6 (Ab3 (Ac1 e) I.ok.above))).trans e1⟩
  .by_cases F:j=i
   .subst F
    rw [P]at e1;cases e1
    rw [Ab9 O]at e2
    cases e2
    exact⟨u,r,.inl ⟨B,by simp⟩⟩
   .rw [Ae4 (Ne.symm F)]at e2
    obtain⟨u',W,q⟩:=hl j y Z e1 e2 e3
    refine⟨u',W,?_⟩
    rcases q with⟨k,e⟩ | ⟨k,c,e,z⟩
    .refine .inl ⟨k,?_⟩
     have:y≠x:=λe=>F (uu hN e1 (e▸P))
     simp [this,e]
    .exact .inr ⟨k,c,e,z.sameBut f (ik y c e)⟩
  .obtain⟨T,z⟩:=I.cell y c e
   exact⟨T,z.sameBut f (ik y c e)⟩
  .obtain⟨e,n,ne,nf,d⟩:=I.pin p hp
   exact⟨(f.2 p.1 ne).trans e,n,ne,nf,d⟩
 .have C:X.fn x=true:=by
   rcases hf with z | z
   .exact z
   .rw [z]at B;cases B
  obtain⟨c,l⟩:=I.ok.has x (.inl B)
  obtain⟨T,z⟩:=I.cell x c l
  refine wpAny_storeName_cell I.ok.kind B l z (λG R f=> ?_)
  obtain⟨oc,J,L⟩:=id z
  refine h { s with heap:=G } ⟨I.ok,I.os,I.bare,⟨λb o e n D t=> ?_,λb o e n D t=> ?_,I.base.free,λb o e t=> ?_,I.base.eF,I.base.d3,I.base.eI⟩,⟨m,hn.sameBut f (Ne.symm (ik x c l)),λj y Z e1 e2 e3=> ?_⟩,λy S e=> ?_,I.free,I.cF,λp hp=> ?_,g ⟨oc,J,I.cF x c l⟩ f,by simpa using I.len⟩ ⟨c,f,.inr l⟩
  .exact(f.2 b (Ac6 (Ab3 (Ac1 e) (I.ok.oa x c C l)))).trans (I.base.keep b o e n D t)
  .obtain⟨sl,e1⟩:=I.base.slot b o e n D t
   exact⟨sl,(f.2 b (Ac6 (Ab3 (Ac1 e) (I.ok.oa x c C l)))).trans e1⟩
  .obtain⟨Y,e1⟩:=I.base.there b o e t
   exact⟨Y,(f.2 b (Ac6 (Ab3 (Ac1 e) (I.ok.oa x c C l)))).trans e1⟩
  .by_cases F:j=i
   .subst F
    rw [P]at e1;cases e1
    rw [Ab9 O]at e2
    cases e2
    exact⟨u,r,.inr ⟨.inl B,c,l,R⟩⟩
   .rw [Ae4 (Ne.symm F)]at e2
    obtain⟨u',W,q⟩:=hl j y Z e1 e2 e3
    refine⟨u',W,?_⟩
    rcases q with q | ⟨k,S,e,z'⟩
    .exact .inl q
    .refine .inr ⟨k,S,e,z'.sameBut f ?_⟩
     rintro rfl
     exact F (uu hN e1 (I.ok.inj _ _ _ e l▸P))
  .by_cases K:S=c
   .subst K;exact⟨_,R⟩
   .obtain⟨w2,z2⟩:=I.cell y S e
    exact⟨w2,z2.sameBut f K⟩
  .obtain⟨e,n,ne,nf,d⟩:=I.pin p hp
   refine⟨(f.2 p.1 ?_).trans e,n,ne,nf,d⟩
   intro q
   rw [q,J]at e
   exact d T (by rw [← (Ad6.inj e)];exact L)
def XR (I:Inv X pins U H s) (e:X.N.Nodup) (c:X.N[i]? =k0 x) (a:ky X.env.scope x) (r:RelV v u)
 (h: ∀s',Inv X pins (U.set i (k0 v)) H s'->Q () s') (b:X.fn x=u0\/X.env.scope.names.lookup x=k0 .local:=by first | exact .inl rfl | exact .inr rfl | assumption):wpAny M A (storeName X.env x u) Q E s:=
 LM I e c a r (λs' d _=>h s' d) b
def Inv.lG (I:Inv X pins U H s) (f:s'.os=s.os) (u:Un (fy X.stack) ch H H' s.heap s'.heap) (d:cY X.prog X.w H' s'.heap) (g:AllBare s'.gens)
 (a: ∀b∈ch,(b∈X.ex\/X.s₀.heap.objs.size<=b)/\b≠X.env.locals/\(∀ x c,X.env.cells.lookup x=k0 c->c≠b)/\ ∀p∈X.pn++pins,p.1≠b):Inv X pins U H' s':=by
 obtain⟨i,j,h,k,l⟩:=s'
 have e:=f
 subst e
 exact I.call u d g a
end
abbrev XK:=Value->Option Addr->Hp->Prop
abbrev St:=List (Option V)
abbrev VK:=V->Hp->Prop
abbrev TE:=St->Hp->VK->Prop
abbrev TT:=St->Hp->(Bool->Hp->Prop)->Prop
abbrev TA:=St->Hp->(List V->Hp->Prop)->Prop
structure ip where
 nx:St->Hp->Prop
 rt:VK
 bk:St->Hp->Prop:=λ_ _=>False
 ct:St->Hp->Prop:=λ_ _=>False
abbrev TS:=ip->St->Hp->Prop
def EP (X:Cx) (a:List (Addr×Obj)) (U:St) (Q:VK) (u:Value) (b:Shared):Prop:= ∃v H',Inv X a U H' b/\RelV v u/\Q v H'
def TP (X:Cx) (a:List (Addr×Obj)) (U:St) (Q:Bool->Hp->Prop) (b:Bool) (c:Shared):Prop:= ∃H',Inv X a U H' c/\Q b H'
def AP (X:Cx) (a:List (Addr×Obj)) (U:St) (Q:List V->Hp->Prop) (c:List Value) (d:Shared):Prop:= ∃b H',Inv X a U H' d/\Vals b c/\Q b H'
def SP (X:Cx) (a:List (Addr×Obj)) (D:ip) (f:Flow) (c:Shared):Prop:=
 match f with
 | .next=> ∃b H',Inv X a b H' c/\D.nx b H'
 | .brk=> ∃b H',Inv X a b H' c/\D.bk b H'
 | .cont=> ∃b H',Inv X a b H' c/\D.ct b H'
 | .ret u=> ∃v b H',Inv X a b H' c/\RelV v u/\D.rt v H'
def PE (X:Cx) (e:Expr) (t:TE):Prop:=
 ∀(pins:List (Addr×Obj)) (s:Shared) (U:St) (H:Hp) (Q:VK),Inv X pins U H s->t U H Q->wpAny (model X.prog X.w) X.A (eval e X.env) (EP X pins U Q) X.xe s
def PT (X:Cx) (e:Expr) (t:TT):Prop:=
 ∀(pins:List (Addr×Obj)) (s:Shared) (U:St) (H:Hp) (Q:Bool->Hp->Prop),Inv X pins U H s->t U H Q->wpAny (model X.prog X.w) X.A (isTrue e X.env (eval e X.env)) (TP X pins U Q) X.xe s
def PW (X:Cx) (e:Expr) (t:TT):Prop:=
 ∀(a:Sem Value) (pins:List (Addr×Obj)) (s:Shared) (U:St) (H:Hp) (Q:Bool->Hp->Prop),Inv X pins U H s->t U H Q->wpAny (model X.prog X.w) X.A (isTrue e X.env a) (TP X pins U Q) X.xe s
def PW.pt (h:PW X e t):PT X e t:=h _
def PA (X:Cx) (es:List Expr) (t:TA):Prop:=
 ∀(pos:Pos) (pins:List (Addr×Obj)) (s:Shared) (U:St) (H:Hp) (Q:List V->Hp->Prop),Inv X pins U H s->t U H Q->wpAny (model X.prog X.w) X.A (spliced (backTo pos (starEach es X.env))) (AP X pins U Q) X.xe s
def PS (X:Cx) (st:Stmt) (t:TS):Prop:=
 ∀(pins:List (Addr×Obj)) (s:Shared) (U:St) (H:Hp) (D:ip),Inv X pins U H s->t D U H->wpAny (model X.prog X.w) X.A (exec st X.env) (SP X pins D) X.xe s
def dk (X:Cx) (st:List Stmt) (t:TS):Prop:=
 ∀(pins:List (Addr×Obj)) (s:Shared) (U:St) (H:Hp) (D:ip),Inv X pins U H s->t D U H->wpAny (model X.prog X.w) X.A (execs st X.env) (SP X pins D) X.xe s
def aO (h:wpAny M A t Q E s) (b: ∀a s,Q a s->Q' a s):wpAny M A t Q' E s:=wpAny_mono h b λ_ _ x=>x
section
variable {X:Cx}
def bin (m:PE X a ta) (n:PE X b tb){R:V->V->Hp->Prop}(I:Inv X pins U H s) (h:ta U H λx H1=>tb U H1 λy H2=>R x y H2)
 {f:Value->Value->Sem α}
 (e: ∀v u L x y H2,Inv X pins U H2 L->RelV x v->RelV y u->R x y H2->wpAny (model X.prog X.w) X.A (f v u) Q X.xe L):
 wpAny (model X.prog X.w) X.A (eval a X.env) (λv j=>wpAny (model X.prog X.w) X.A (eval b X.env) (λu i=>wpAny (model X.prog X.w) X.A (f v u) Q X.xe i) X.xe j) X.xe s:=by
 exact aO (m pins s U H _ I h) λv p ⟨x,H1,o,k,d⟩=> aO (n pins p U H1 _ o d) λu L ⟨y,H2,g,c,l⟩=> e v u L x y H2 g k c l
def m9 (i:Nat):TE:=λU H Q=> ∃v,U[i]? =k0 (k0 v)/\Q v H
def tC (v:V):TE:=λ_ H Q=>Q v H
def XI (q:X.N[i]? =some x) (n:mM X.env.scope x) (g:(x==("__debug__" :Str))=false:=by decide) (f:(x==("__classdict__" :Str))=false:=by decide):PE X (.Name x pos) (m9 i):=by
 intro d s U H Q I h
 obtain⟨v,e,h⟩:=h
 obtain⟨m,o,p⟩:=I.loc
 obtain⟨u,r,l⟩:=p i x v q e n
 have fin:EP X d U Q u s:=⟨v,H,I,r,h⟩
 obtain⟨b,k⟩ | ⟨b,c,j,a⟩:=l
 .exact wpAny_Name (wpAny_loadName_local I.ok.kind b o k fin) g
 .obtain b | b:=b
  .exact wpAny_Name (wpAny_loadName_cell I.ok.kind b j a fin) g
  .exact wpAny_Name (wpAny_loadName_free I.ok.kind b j a fin f) g
def yV {i j pos}:PE X (.Constant (.int i) j pos) (tC (.int i)):=λ_ _ _ H _ I h=>wpAny_Constant_int ⟨.int i,H,I.tok _,⟨_,rfl⟩,h⟩
def FR {b j pos}:PE X (.Constant (.bool b) j pos) (tC (.bl b)):=λ_ _ _ H _ I h=>Constant_bool ⟨.bl b,H,I,rfl,h⟩
def LZ {j pos}:PE X (.Constant .none j pos) (tC .au):=λ_ _ _ H _ I h=>Constant_none ⟨.au,H,I,rfl,h⟩
def nX {x j pos}:PE X (.Constant (.str x) j pos) (tC (.str x)):=λ_ _ _ H _ I h=>Calls.Constant_str ⟨.str x,H,I.tok _,⟨_,rfl⟩,h⟩
def Gl (X:Cx) (x:Str):Prop:=X.env.kindOf x=k0 .globalImplicit
def XU (I:Inv X pins U H s) (b:Gl X x) (a:X.mg x=k0 u) (h:Q u s)
 (c:(x==("__debug__" :Str))=false:=by decide):wpAny (model X.prog X.w) X.A (eval (.Name x pos) X.env) Q E s:=
 Calls.Name_function_global I.ok.kind b (Calls.loadGlobal_global (by rw [I.ok.glob];exact I.mod.glob.keeps I.bk) a h) c
def qB (I:Inv X pins U H s) (c:Gl X x) (a:X.mg x=y0) (e:bootBuiltins x=k0 u) (h:Q u s)
 (g:x≠ "__name__" :=by decide) (f:(x==("__debug__" :Str))=false:=by decide):wpAny (model X.prog X.w) X.A (eval (.Name x pos) X.env) Q E s:=by
 obtain⟨i,d,b⟩:=I.mod.blt
 exact Calls.Name_function_global I.ok.kind c (Calls.loadGlobal_builtin (by rw [I.ok.glob];exact I.mod.glob.keeps I.bk) a (by rw [I.ok.blt];exact d.keeps I.bk) ((b x g).trans e) h) f
def tU (b:Gl X x) (a:X.mg x=some u) (r:RelV v u) (c:(x==("__debug__" :Str))=false:=by decide):PE X (.Name x pos) (tC v):=
 λ_ _ _ H _ I h=>XU I b a ⟨v,H,I,r,h⟩ c
def rD (b:Gl X x) (a:X.mg x=none) (d:bootBuiltins x=some u) (r:RelV v u) (c:x≠ "__name__" :=by decide) (e:(x==("__debug__" :Str))=false:=by decide):PE X (.Name x pos) (tC v):=
 λ_ _ _ H _ I h=>qB I b a d ⟨v,H,I,r,h⟩ c e
variable {a b:Expr}{ta tb:TE}{pos:Pos}
def PC (X:Cx) (e:CmpOp) (a b:Expr) (t:TE):Prop:=
 ∀(pins:List (Addr×Obj)) (s:Shared) (U:St) (H:Hp) (Q:VK),Inv X pins U H s->t U H Q →
  wpAny (model X.prog X.w) X.A (eval a X.env) (λv d=>wpAny (model X.prog X.w) X.A (eval b X.env) (λu c=>wpAny (model X.prog X.w) X.A (compareOp e v u) (EP X pins U Q) X.xe c) X.xe d) X.xe s
def tI (b)(h:op≠ .In) (a:op≠ .NotIn):behindInMarks op b=false:=by
 have e1:(op==CmpOp.In)=false:=by cases op<;>first | rfl | exact absurd rfl h
 have e2:(op==CmpOp.NotIn)=false:=by cases op<;>first | rfl | exact absurd rfl a
 cases b<;>simp [behindInMarks,e1,e2]
def BM (a:TE):TE:=λU H Q=>a U H λx H1=>Q (.bl (u9 (x= .au))) H1
def Ct (a:TE):TE:=λU H Q=>a U H λx H1=>Q (.bl (!u9 (x= .au))) H1
def RelV.d7 (r:RelV x v):(v==Value.none)=u9 (x= .au):=by
 cases x with
 | au=>cases r;rfl
 | bl _=>cases r;rfl
 | int _=>obtain⟨t,rfl⟩:=r;rfl
 | str _=>obtain⟨t,rfl⟩:=r;rfl
 | i5 _=>obtain⟨t,rfl⟩:=r;rfl
 | g9 _=>obtain⟨t,rfl⟩:=r;rfl
 | ref _=>cases r;rfl
 | ty _=>cases r;rfl
def y4 {j pos'}(f:PE X a ta):PC X .Is a (.Constant .none j pos') (BM ta):=by
 intro b s U H Q I h
 refine aO (f b s U H _ I h) ?_
 rintro v i ⟨x,g,e,c,d⟩
 exact Constant_none (is_none_gen ⟨.bl _,g,e,by rw [c.d7];rfl,d⟩)
def pU {j pos'}(f:PE X a ta):PC X .IsNot a (.Constant .none j pos') (Ct ta):=by
 intro b s U H Q I h
 refine aO (f b s U H _ I h) ?_
 rintro v i ⟨x,g,e,c,d⟩
 exact Constant_none (isnot_none_gen ⟨.bl _,g,e,by rw [c.d7];rfl,d⟩)
def tB (t:TE):TT:=λU H Q=>t U H λx H1=> ∃c,x= .bl c/\Q c H1
def rz (h:PC X op a b t) (h1:behindInMarks op b=false:=by first | exact tI _ (by decide) (by decide) | rfl):PE X (.Compare a [op] [b] pos) t:=λc s U H Q I d=>wpAny_Compare1 (h c s U H Q I d) h1
def tf (h:PC X op a b t) (h1:behindInMarks op b=false:=by first | exact tI _ (by decide) (by decide) | rfl):PT X (.Compare a [op] [b] pos) (tB t):=by
 intro e s U H Q I f
 refine wpAny_isTrue_Compare1 (aO (h e s U H _ I f) λv o h1=>aO h1 λu m l=>aO l λc n ⟨x,i,k,j,g⟩=> ?_) h1
 obtain⟨d,rfl,q⟩:=g
 cases j
 exact wpAny_truthy_bool ⟨i,k,q⟩
variable {tA tB':TT}{Jp:List Expr}
def F5 (t u:TT):TT:=λU H Q=>t U H λc H1=>if c=u0 then u U H1 Q else Q k9 H1
def EV (t u:TT):TT:=λU H Q=>t U H λc H1=>if c=u0 then Q u0 H1 else u U H1 Q
def BC (t:TT):TT:=λU H Q=>t U H λc H1=>Q (!c) H1
def CV (d:PT X a tA):PW X (.BoolOp .And [a] pos) tA:=by
 intro g b s U H Q I h
 refine isTrue_and (aO (d b s U H Q I h) λc f e=> ?_)
 cases c with
 | true=>exact isTrue_and_nil e
 | false=>exact e
def HF (d:PT X a tA):PW X (.BoolOp .Or [a] pos) tA:=by
 intro g b s U H Q I h
 refine isTrue_or (aO (d b s U H Q I h) λc f e=> ?_)
 cases c with
 | false=>exact isTrue_or_nil e
 | true=>exact e
def EZ (k:PT X a tA) (i:PW X (.BoolOp .And (b::Jp) pos) tB'):PW X (.BoolOp .And (a::b::Jp) pos) (F5 tA tB'):=by
 intro l d s U H Q I h
 refine isTrue_and (aO (k d s U H _ I h) ?_)
 rintro c j ⟨g,f,e⟩
 cases c with
 | true=>exact i l d j U g Q f e
 | false=>exact⟨g,f,e⟩
def LN (k:PT X a tA) (i:PW X (.BoolOp .Or (b::Jp) pos) tB'):PW X (.BoolOp .Or (a::b::Jp) pos) (EV tA tB'):=by
 intro l d s U H Q I h
 refine isTrue_or (aO (k d s U H _ I h) ?_)
 rintro c j ⟨g,f,e⟩
 cases c with
 | true=>exact⟨g,f,e⟩
 | false=>exact i l d j U g Q f e
def MT (e:PT X a tA):PT X (.UnaryOp .Not a pos) (BC tA):=by
 intro b s U H Q I h
 exact isTrue_not (e b s U H (λc d=>Q (!c) d) I h)
def vZ {op}(h:PE X a t):PE X (.BoolOp op [a] pos) t:=λb s U H Q I c=>BoolOp_one (h b s U H Q I c)
end
def bu (K:Aa8) (H:Hp) (a:Addr) (xs:List V):Prop:=
 Rd H a (.lst xs) ∨
  ∃(o:Obj) (b:Array Value) (n:Nat),K.lookup a=some o/\o.cls= .type "list" /\o.dict=none/\o.data= .seq b n/\b.size<=sizeLine/\Vals xs b.toList
def cj (K:Aa8) (H:Hp) (a:Addr) (xs:List V):Prop:=
 Rd H a (.tup xs) ∨
  ∃(o:Obj) (b:Array Value) (n:Nat),K.lookup a=k0 o/\o.cls= .type "tuple" /\o.data= .seq b n/\b.size<=sizeLine/\Vals xs b.toList
noncomputable def Eo:Value->Option V
 | .none=>k0 .au
 | .bool b=>k0 (.bl b)
 | .int i _=>k0 (.int i)
 | .str x _=>k0 (.str x)
 | .bytes b _=>k0 (.i5 b)
 | .float b _=>k0 (.g9 b)
 | .ref a=>k0 (.ref a)
 | .type n=>k0 (.ty n)
 | _=>y0
def RelV.abs (r:RelV x u):Eo u=k0 x:=by
 cases x with
 | au=>cases r;rfl
 | bl _=>cases r;rfl
 | int _=>obtain⟨t,rfl⟩:=r;rfl
 | str _=>obtain⟨t,rfl⟩:=r;rfl
 | i5 _=>obtain⟨t,rfl⟩:=r;rfl
 | g9 _=>obtain⟨t,rfl⟩:=r;rfl
 | ref _=>cases r;rfl
 | ty _=>cases r;rfl
theorem RelV.inj (r:RelV x u) (q:RelV y u):x=y:=Ad6.inj (r.abs.symm.trans q.abs)
theorem Vals.inj: ∀ {xs ys}{i},Vals xs i->Vals ys i->xs=ys
 | _,_,_,.nil,.nil=>rfl
 | _,_,_,.cons r t,.cons a b=>by rw [r.inj a,Vals.inj t b]
section
variable {X:Cx}{pins:List (Addr×Obj)}{U:St}{H:Hp}{s:Shared}{a:Addr}{xs ys:List V}
def bu.of {K:Aa8}(h:H a=k0 (.lst xs)):bu K H a xs:= .inl (.inl h)
def Inv.list (I:Inv X pins U H s) (h:bu X.K H a xs): ∃i:List Value,Vals xs i/\PlainL s.heap a i.toArray/\xs.length<=sizeLine:=by
 obtain h | ⟨o,i,n,b,f,d,c,g,r⟩:=h
 .obtain⟨z,i,n,r,e⟩:=h.ok I.a0
  exact⟨i,r,⟨_,n,e,rfl,rfl,rfl⟩,z⟩
 .refine⟨i.toList,r,⟨o,n,I.cu a o b,f,d,by simpa using c⟩,?_⟩
  have e:=r.length
  simp [Ai0]at e
  lia
def Inv.tuple (I:Inv X pins U H s) (h:cj X.K H a xs): ∃i:List Value,Vals xs i/\IsTup s.heap a i.toArray/\xs.length<=sizeLine:=by
 obtain h | ⟨o,i,n,b,d,c,f,r⟩:=h
 .obtain⟨z,i,r,p⟩:=h.ok I.a0
  exact⟨i,r,p.is,z⟩
 .refine⟨i.toList,r,⟨o,I.cu a o b,d,n,by simpa using c⟩,?_⟩
  have e:=r.length
  simp [Ai0]at e
  lia
def Inv.d4 (I:Inv X pins U H s) (h:bu X.K H a xs) (h':bu X.K H a ys):xs=ys:=by
 obtain⟨c,r,⟨o,n,e,_,_,d⟩,_⟩:=I.list h
 obtain⟨b,i,⟨k,l,g,_,_,f⟩,_⟩:=I.list h'
 rw [e]at g;cases g
 rw [d]at f
 injection f with j _
 have:c=b:=by simpa using congrArg Array.toList j
 subst this
 exact r.inj i
def Inv.dz (I:Inv X pins U H s) (h:cj X.K H a xs) (h':cj X.K H a ys):xs=ys:=by
 obtain⟨c,r,⟨o,e,_,n,d⟩,_⟩:=I.tuple h
 obtain⟨b,i,⟨k,g,_,l,f⟩,_⟩:=I.tuple h'
 rw [e]at g;cases g
 rw [d]at f
 injection f with j _
 have:c=b:=by simpa using congrArg Array.toList j
 subst this
 exact r.inj i
end
section
variable {X:Cx}{st:Stmt}{Jp:List Stmt}{t u:TS}{e:Expr}{te:TE}{pos:Pos}
def DD:TS:=λD U H=>D.nx U H
def Ep (t u:TS):TS:=λD U H=>t { D with nx:=u D } U H
def KW:dk X [] DD:=λ_ _ U H _ I h=>wpAny_execs_nil ⟨U,H,I,h⟩
def Ay (h1:PS X st t) (d:dk X Jp u):dk X (st::Jp) (Ep t u):=by
 intro a s U H D I h
 refine wpAny_execs_cons (aO (h1 a s U H { D with nx:=u D } I h) λf e q=> ?_)
 cases f with
 | next=>
  obtain⟨b,c,g,q⟩:=q
  exact d a e b c D g q
 | ret v=>exact q
 | brk=>exact q
 | cont=>exact q
def Inv.quiet (I:Inv X pins U H s):interactive X.env=false:=by simp [interactive,I.ok.kind]
def HE (a:TE):TS:=λD U H=>a U H λ_ H1=>D.nx U H1
def jS (f:PE X e te) (b:swapsWith e y0 pos.line X.env=pure false:=by rfl):PS X (.Expr e pos) (HE te):=by
 intro a s U H D I h
 exact wpAny_Expr_any (aO (f a s U H _ I h) λv j ⟨x,g,d,i,c⟩=>⟨U,g,d,c⟩) I.quiet b
def LA (a:TE):TS:=λD U H=>a U H D.rt
def yg (f:PE X e te):PS X (.Return (k0 e) pos) (LA te):=by
 intro a s U H D I h
 exact wpAny_Return_some (aO (f a s U H _ I h) λv i ⟨x,g,d,b,c⟩=>⟨x,U,g,d,b,c⟩)
def AF (c:TT) (t u:TS):TS:=λD U H=>c U H λb H1=>if b=u0 then t D U H1 else u D U H1
def DR (m:PT X c tc) (l:dk X a t) (k:dk X b u):PS X (.If c a b pos) (AF tc t u):=by
 intro e s U H D I h
 refine wpAny_If (aO (m e s U H _ I h) ?_)
 rintro d i ⟨j,g,f⟩
 cases d with
 | true=>exact l e i U j D g f
 | false=>exact k e i U j D g f
end
abbrev TG:=V->St->Hp->(St->Hp->Prop)->Prop
abbrev kT:=List V->St->Hp->(St->Hp->Prop)->Prop
def PG (X:Cx) (a:Expr) (t:TG):Prop:=
 ∀(pins:List (Addr×Obj)) (s:Shared) (U:St) (H:Hp) (v:V) (u:Value) (Q:St->Hp->Prop),Inv X pins U H s->RelV v u->t v U H Q →
  wpAny (model X.prog X.w) X.A (assign a X.env u) (λ_ s'=> ∃b H',Inv X pins b H' s'/\Q b H') X.xe s
def lr (X:Cx) (d:List Expr) (t:kT):Prop:=
 ∀(pins:List (Addr×Obj)) (s:Shared) (U:St) (H:Hp) (c:List V) (a:List Value) (Q:St->Hp->Prop),Inv X pins U H s->Vals c a->t c U H Q →
  wpAny (model X.prog X.w) X.A (assignInOrder ((assignEach d X.env).map (·.2)) a) (λ_ s'=> ∃b H',Inv X pins b H' s'/\Q b H') X.xe s
abbrev vM:=V->V->V->Hp->(Hp->Prop)->Prop
def pN (X:Cx) (t:vM):Prop:=
 ∀(pins:List (Addr×Obj)) (s:Shared) (U:St) (H:Hp) (o i v:V) (b a u:Value) (Q:Hp->Prop),Inv X pins U H s->RelV o b->RelV i a->RelV v u->t o i v H Q →
  wpAny (model X.prog X.w) X.A (setItem b a u) (λ_ s'=> ∃H',Inv X pins U H' s'/\Q H') X.xe s
section
variable {X:Cx}{pos:Pos}
def X5 (i:Nat):TG:=λv U H Q=>Q (U.set i (k0 v)) H
def W6 (e:X.N.Nodup) (d:X.N[i]? =k0 x) (b:ky X.env.scope x) (c:X.fn x=u0\/X.env.scope.names.lookup x=k0 .local:=by first | exact .inl rfl | exact .inr rfl | assumption):PG X (.Name x pos) (X5 i):=by
 intro a s U H v u Q I r h
 exact wpAny_assign_Name (XR I e d b r (λg f=>⟨_,H,f,h⟩) c)
def Mv:kT:=λa U H Q=>a= []/\Q U H
def CD (t:TG) (u:kT):kT:=λb U H Q=> ∃v r,b=v::r/\t v U H λa H'=>u r a H' Q
def sr:lr X [] Mv:=by
 intro a s U H c b Q I r h
 obtain⟨e,h⟩:=h
 subst e
 cases r
 exact assignInOrder_nil ⟨U,H,I,h⟩
def qV (h1:PG X e t) (j:lr X es u)
 (b:(assignEach (e::es) X.env).map (·.2)=assign e X.env::(assignEach es X.env).map (·.2):=by rfl):lr X (e::es) (CD t u):=by
 intro a s U H m l Q I r h
 obtain⟨v,n,e1,h⟩:=h
 subst e1
 cases r with
 | cons r d=>
  rw [b]
  exact assignInOrder_cons (aO (h1 a s U H _ _ _ I r h) λ_ k ⟨g,f,i,c⟩=> j a k g f _ _ Q i d c)
def IE (K:Aa8) (n:Nat) (t:kT):TG:=λv U H Q=> ∃a xs,v= .ref a/\cj K H a xs/\xs.length=n/\t xs U H Q
def yo (l:X.calm=u0) (h:lr X es t)
 (q:(assignEach es X.env).length=n:=by rfl) (d:(assignEach es X.env).findIdx? (·.1)=none:=by rfl):PG X (.Tuple es k pos) (IE X.K n t):=by
 intro c s U H v u Q I r f
 obtain⟨a,g,e1,j,x,f⟩:=f
 subst e1
 cases r
 obtain⟨p,rv,m,z⟩:=I.tuple j
 refine assign_Tuple_tuple (I.ok.hd l) m (by simp [q,←x,rv.length]) d λi w=> ?_
 have y:Inv X c U H { s with heap:=i }:=I.kept λb o e=>w b o (Ac6 (Ac1 e)) e
 exact h c _ U H g _ Q y (by simp_all) f
def Dd (b c:TE) (t:vM):TG:=λv U H Q=>b U H λo H1=>c U H1 λi H2=>t o i v H2 λa=>Q U a
def mu (p:PE X o to) (B:PE X i ti) (b:pN X t)
 (z: ∀v,assign (.Subscript o i pos) X.env v=(do
   let j ←holding [v] (eval o X.env)
   let L ←holding [v,j] (eval i X.env)
   standAt pos
   holding [v,j,L] (setItem j L v)
   release [v,j,L] []):=by intro _;rfl):PG X (.Subscript o i pos) (Dd to ti t):=by
 intro a s U H v u Q I r h
 rw [z]
 exact wpAny_bind (wpAny_holding (aO (p a s U H _ I h) λj C ⟨x,m,A,q,k⟩=> wpAny_bind (wpAny_holding (aO (B a C U m _ A k) λL c ⟨y,f,n,d,w⟩=> wpAny_bind (wpAny_standAt (wpAny_bind (wpAny_holding (aO (b a c U f x y v j L u _ n q d r w) λ_ D ⟨g,l,e⟩=> wpAny_release ⟨U,g,l,e⟩))))))))
def gX (a:TE) (g:TG):TS:=λD U H=>a U H λx H1=>g x U H1 D.nx
def wY (l:PE X e te) (c:PG X tg g) (b:swapsWithSole [tg] e pos.line X.env=pure false:=by rfl) (d:swappedStores [tg] e X.env=pure none:=by rfl)
 (h1:(assignEach [tg] X.env).map (·.2)= [assign tg X.env]:=by rfl):PS X (.Assign [tg] e pos) (gX te g):=by
 intro a s U H D I h
 refine wpAny_Assign_stores (aO (l a s U H _ I h) λv m ⟨x,i,k,j,f⟩=> ?_) b d
 rw [h1]
 exact aO (c a m U i x v _ k j f) λ_ n q=>q
def CH (o:X.N.Nodup) (n:X.N[i]? =k0 x) (l:ky X.env.scope x) (m:PE X e te) (b:swapsWith e (k0 (.Name x pos')) pos.line X.env=pure false:=by rfl) (d:X.fn x=u0\/X.env.scope.names.lookup x=k0 .local:=by first | exact .inl rfl | exact .inr rfl | assumption):
 PS X (.Assign [.Name x pos'] e pos) (gX te (X5 i)):=by
 intro a s U H D I h
 exact wpAny_Assign_Name (aO (m a s U H _ I h) λv q ⟨y,f,k,j,c⟩=> XR k o n l j (λp g=>⟨_,f,g,c⟩) d) b
end
section
variable {X:Cx}{pos:Pos}
def KH (c:TT) (tb:TS):TS:=λD U H=> ∃W:Nat->St->Hp->Prop,(∃ m,W m U H)/\ ∀m U H,W m U H →
 c U H λb H1=>if b=u0 then ∃N:St->Hp->Prop,(∀ a H',N a H'-> ∃d,d<m/\W d a H')/\tb { D with nx:=N,ct:=N,bk:=D.nx } U H1 else D.nx U H1
def B6 (y:PassesOwn (model X.prog X.w) X.A X.env X.xe) (E:PT X c tc) (G:dk X body tb):PS X (.While c body [] pos) (KH tc tb):=by
 intro a s U H D I h
 obtain⟨W,⟨L,C⟩,g⟩:=h
 refine wpAny_While (codeAny_whileLoop (λn F=> ∃t x,Inv X a t x F/\W n t x) ?_ L ⟨U,H,I,C⟩)
 rintro n K ⟨j,u,J,A⟩
 refine wpAny_passesOwn y (aO (E a K j u _ J (g n j u A)) ?_)
 rintro b B ⟨r,w,k⟩
 cases b with
 | true=>
  obtain⟨N,z,k⟩:=k
  refine wpAny_passesOwn y (aO (G a B j r _ w k) λf M i=> ?_)
  cases f with
  | next=>
   obtain⟨e,d,p,q⟩:=i
   obtain⟨o,l,m⟩:=z e d q
   exact⟨o,l,e,d,p,m⟩
  | cont=>
   obtain⟨e,d,p,q⟩:=i
   obtain⟨o,l,m⟩:=z e d q
   exact⟨o,l,e,d,p,m⟩
  | brk=>exact i
  | ret v=>exact i
 | false=>
  exact wpAny_execs_nil ⟨j,r,w,k⟩
end
structure It where
 go:Nat->Hp->Prop
 fi:Nat->Hp->V->Hp->Prop
 stop:Nat->Hp->Prop
def bA (X:Cx) (a:List (Addr×Obj)) (H:Hp) (b:Addr):Prop:=
 H b=y0/\b≠X.env.locals/\b∉X.fs/\(b∈X.ex\/X.s₀.heap.objs.size<=b)/\(∀ x c,X.env.cells.lookup x=k0 c->c≠b)/\ ∀p∈X.pn++a,p.1≠b
def Inv.c8 (I:Inv X pins U H s) (a:s.heap.objs.size<=b) (f:H' b=y0):bA X pins H' b:=by
 refine⟨f,Ap3 (Ab3 I.lt a),I.ny a,.inr (Ab5 I.sz a),λx c e z=> ?_,λp d z=> ?_⟩
 .obtain⟨v,q⟩:=I.cell x c e
  exact absurd (Ab3 q.lt (by simp_all)) (Ai3 _)
 .exact absurd (Ab3 (Ac1 (I.pin p d).1) (by simp_all)) (Ai3 _)
structure kj (P:Program) (w:World) (K:Aa8) (tg:Expr) (J:It) (fp:List Addr) (it:Addr) (tn:Nat->Heap->Prop):Prop where
 mem:it∈fp
 obj: ∀i h,tn i h-> ∀b∈fp,∃o,h.get? b=k0 o/\ ∀v,o.data≠ .cell v
 keep: ∀i h h',tn i h->(∀ b∈fp,∀o,h.get? b=k0 o->h'.get? b=k0 o)->tn i h'
 item: ∀(X:Cx),X.prog=P->X.w=w->X.K=K->X.calm=u0-> ∀(i:Nat) (pins:List (Addr×Obj)) (s:Shared) (U:St) (H:Hp) (E:Value->Shared->Prop),Inv X pins U H s->(∀ b∈fp,bA X pins H b)->tn i s.heap->J.go i H →
  wpAny (model P w) X.A (pyNext (.ref it)) (λr s1=> ∃u,r=k0 u ∧
   wpAny (model P w) X.A (letOwnedTupleGo tg (.ref it) u) (λ_ s2=> ∃x H',Inv X pins U H' s2/\RelV x u/\J.fi i H x H'/\tn (i+1) s2.heap/\ ∀b∈fp,H' b=y0) E s1) E s
 done: ∀(X:Cx),X.prog=P->X.w=w->X.K=K->X.calm=u0-> ∀(i:Nat) (pins:List (Addr×Obj)) (s:Shared) (U:St) (H:Hp) (E:Value->Shared->Prop),Inv X pins U H s->(∀ b∈fp,bA X pins H b)->tn i s.heap->J.stop i H →
  wpAny (model P w) X.A (pyNext (.ref it)) (λr s1=>r=y0/\Inv X pins U H s1) E s
 self: ∀(A:Around) (i:Nat) (s:Shared) (Q:Value->Shared->Prop) (E:Value->Shared->Prop),tn i s.heap->Q (.ref it) s->wpAny (model P w) A (pyIter (.ref it)) Q E s
abbrev TI:=St->Hp->(It->Hp->Prop)->Prop
def rA (X:Cx) (a:List (Addr×Obj)) (U:St) (g:Expr) (R:It->Hp->Prop) (c:Value) (d:Shared):Prop:=
 ∃(e:Addr) (fp:List Addr) (f:Nat->Heap->Prop) (J:It) (H':Hp),c= .ref e/\Inv X a U H' d/\kj X.prog X.w X.K g J fp e f/\f 0 d.heap/\(∀ b∈fp,bA X a H' b)/\R J H'
def PI (X:Cx) (d a:Expr) (b:TI):Prop:=
 ∀(pins:List (Addr×Obj)) (s:Shared) (U:St) (H:Hp) (R:It->Hp->Prop),Inv X pins U H s->b U H R →
  wpAny (model X.prog X.w) X.A (eval a X.env) (λv c=>wpAny (model X.prog X.w) X.A (pyIter v) (rA X pins U d R) X.xe c) X.xe s
def nt (b:s.heap.get? it=k0 o) (c:o.cls= .type n) (d:o.data= .fields vs)
 (e: ["enumerate", "zip", "dict_itemiterator", "dict_reverseitemiterator", "odict_iterator", "itertools.zip_longest", "itertools.pairwise"].contains n=false) (a:Q () s):wpAny M A (letOwnedTupleGo tg (.ref it) u) Q E s:=by
 cases tg<;>first
  | exact wpAny_pure a
  | (cases u<;>first
      | exact wpAny_pure a
      | (refine wpAny_bind (wpAny_load b ?_)
         rw [c,d]
         show wpAny M A (if _=u0 then _ else _) Q E s
         rw [if_neg (by lia)]
         exact wpAny_pure a))
noncomputable def ib (K:Aa8) (a:Addr):It:=
 ⟨λi H=> ∃xs x,bu K H a xs/\xs[i]? =k0 x,λi H x H'=>H'=H/\ ∀xs,bu K H a xs->xs[i]? =k0 x,λi H=> ∃xs,bu K H a xs/\xs.length<=i⟩
noncomputable def kH (K:Aa8) (a:Addr):It:=
 ⟨λi H=> ∃xs x,cj K H a xs/\xs[i]? =k0 x,λi H x H'=>H'=H/\ ∀xs,cj K H a xs->xs[i]? =k0 x,λi H=> ∃xs,cj K H a xs/\xs.length<=i⟩
def mL (a:Int) (n:Nat):It:=⟨λi _=>i<n,λi H x H'=>H'=H/\x= .int (a+i),λi _=>n<=i⟩
def D1 {K:Aa8}(a it):kj P w K tg (ib K a) [it] it (λi h=>h.IsListIter it a i) where
 mem:=by simp
 obj:=λi h f b j=>by
  have e:=by simpa using j
  subst e
  obtain⟨o,e,c,d⟩:=f
  exact⟨o,e,λv z=>by rw [d]at z;cases z⟩
 keep:=λi h q f k=>f.at λo e=>k it (by simp) o e
 item:=by
  intro X L y C M i g s U H E I n f r
  subst L y C
  obtain⟨N,x,m,G⟩:=r
  obtain⟨D,rv,p,S⟩:=I.list m
  obtain⟨u,Q,Y⟩:=rv.get G
  obtain⟨t,J,T,F,B,A⟩:=n it (by simp)
  refine wpAny_pyNext_list_item f p.isList (by simpa using Q) λq l V=> ?_
  have W:Inv X g U H { s with heap:=q }:=I.turned (λb o j e=>(V.2 b j).trans e) t J F B A
  obtain⟨o,e,c,d⟩:=id l
  exact⟨u,rfl,nt e c d (by decide) ⟨x,H,W,Y,⟨rfl,λZ R=>by rw [I.d4 R m];exact G⟩,l,λb j=>(n b j).1⟩⟩
 done:=by
  intro X L y C M i g s U H E I n f r
  subst L y C
  obtain⟨N,m,G⟩:=r
  obtain⟨D,rv,p,S⟩:=I.list m
  obtain⟨t,J,T,F,B,A⟩:=n it (by simp)
  have hl:=rv.length
  exact wpAny_pyNext_list_end (I.ok.hd M) f p.isList (by simp;lia) λq O=>⟨rfl,I.turned (λb o j e=>O b o j e) t J F B A⟩
 self:=λ_ _ _ _ _ f h=>wpAny_pyIter_listiter f h
def Mw {K:Aa8}(a it):kj P w K tg (kH K a) [it] it (λi h=>h.IsTupleIter it a i) where
 mem:=by simp
 obj:=λi h f b j=>by
  have e:=by simpa using j
  subst e
  obtain⟨o,e,c,d⟩:=f
  exact⟨o,e,λv z=>by rw [d]at z;cases z⟩
 keep:=λi h q f k=>f.at λo e=>k it (by simp) o e
 item:=by
  intro X L y C M i g s U H E I n f r
  subst L y C
  obtain⟨N,x,m,G⟩:=r
  obtain⟨D,rv,p,S⟩:=I.tuple m
  obtain⟨u,Q,Y⟩:=rv.get G
  obtain⟨t,J,T,F,B,A⟩:=n it (by simp)
  refine wpAny_pyNext_tuple_item f (p) (by simpa using Q) λq l V=> ?_
  have W:Inv X g U H { s with heap:=q }:=I.turned (λb o j e=>(V.2 b j).trans e) t J F B A
  obtain⟨o,e,c,d⟩:=id l
  exact⟨u,rfl,nt e c d (by decide) ⟨x,H,W,Y,⟨rfl,λZ R=>by rw [I.dz R m];exact G⟩,l,λb j=>(n b j).1⟩⟩
 done:=by
  intro X L y C M i g s U H E I n f r
  subst L y C
  obtain⟨N,m,G⟩:=r
  obtain⟨D,rv,p,S⟩:=I.tuple m
  obtain⟨t,J,T,F,B,A⟩:=n it (by simp)
  have hl:=rv.length
  exact wpAny_pyNext_tuple_end (I.ok.hd M) f (p) (by simp;lia) λq O=>⟨rfl,I.turned (λb o j e=>O b o j e) t J F B A⟩
 self:=λ_ _ _ _ _ f h=>wpAny_pyIter_tupleiter f h
def Ax {K:Aa8}(it) (lo) (n):kj P w K tg (mL lo n) [it] it (λi h=>IsRangeIter h it (lo+(i:Nat)*1) ((n:Int)-(i:Nat)) 1) where
 mem:=by simp
 obj:=λi h a b d=>by
  have e:=by simpa using d
  subst e
  exact⟨_,a,λv z=>by
   have J:=z
   cases J⟩
 keep:=λi h j a k=>k it (by simp) _ a
 item:=by
  intro X B y A x i c s U H E I g a l
  subst B y A
  obtain⟨m,u,G,r,q,p⟩:=g it (by simp)
  have W:=Walks.range (prog:=X.prog) (w:=X.w) (I.ok.hd x) it lo 1 n
  refine W.item i s _ _ l a λv j C F f M=> ?_
  obtain⟨t,rfl⟩:=F
  have L:Inv X c U H { s with heap:=j,toks:=C }:=I.turned (λb o d e=>M b o (by simpa using d) e) m u r q p
  refine⟨_,rfl,nt f rfl rfl (by decide) ⟨.int (lo+i),H,L,⟨t,?_⟩,⟨rfl,rfl⟩,f,λb d=>(g b d).1⟩⟩
  rw [Int.mul_one]
 done:=by
  intro X B y A x i c s U H E I g a l
  obtain⟨m,u,G,r,q,p⟩:=g it (by simp)
  exact wpAny_pyNext_range_end (I.ok.hd x) a (by have:n<=i:=l;lia) λj D=>⟨rfl,I.turned (λb o d e=>D b o d e) m u r q p⟩
 self:=λ_ _ _ _ _ a h=>wpAny_pyIter_rangeiter a h
section
variable {X:Cx}{tg:Expr}
def H9 {a c:Int}(I:Inv X pins U H s) (h1: -(2 ^ 62)<=a) (h:a<2 ^ 62) (g: -(2 ^ 62)<=c) (i:c<2 ^ 62)
 (q:R (mL a (c-a).toNat) H):wpAny (model X.prog X.w) X.A (pyIter (.ref s.heap.objs.size)) (rA X pins U tg R) E { s with heap:=s.heap.push { cls:= .type "range",data:= .fields #[.int a t,.int c u,.int 1 v] },toks:=tk }:=by
 refine wpAny_pyIter_range (IsRange.new ..) (small_one h1 h g i) ?_
 have d:Inv X pins U H { s with heap:=s.heap.push { cls:= .type "range",data:= .fields #[.int a t,.int c u,.int 1 v] },toks:=tk }:=I.kept fun b o e=>Heap.get?_push_of_some _ e
 refine⟨(s.heap.push { cls:= .type "range",data:= .fields #[.int a t,.int c u,.int 1 v] }).objs.size,[(s.heap.push { cls:= .type "range",data:= .fields #[.int a t,.int c u,.int 1 v] }).objs.size],_,_,H,rfl,
  d.kept λb o e=>Ab2 _ e,Ax _ a (c-a).toNat,?_,λb f=> ?_,q⟩
 .have e1:a+ (0:Nat)*1=a:=by simp
  have e2: (c-a).toNat- (0:Nat)=Builtin.Range.rangeSize a c 1:=by rw [rangeSize_one];split<;>lia
  rw [e1,e2]
  exact Ac7 _ rfl
 .have e:b=(s.heap.push { cls:= .type "range",data:= .fields #[.int a t,.int c u,.int 1 v] }).objs.size:=by simpa using f
  subst e
  exact d.c8 (Aa9 _) (d.a0.fresh (Aa9 _))
def CU (b:TA):TI:=λU H R=>b U H λa H1=> ∃j:Int,a= [.int j]/\ -(2 ^ 62)<=j/\j<2 ^ 62/\R (mL 0 j.toNat) H1
def Fg (g:Gl X "range") (f:X.mg "range" =none) (m:PA X [a] ta) (d:starEach [a] X.env= [(false,eval a X.env)]:=by rfl):PI X tg (.Call (.Name "range" p) [a] [] pos) (CU ta):=by
 intro b s U H R I h
 refine Call_ (qB I g f boot_range (PyProof.Rows.callWith_type1 (aO (m pos b s U H _ I h) λo w ⟨v,u,n,k,c⟩=> ?_) d rfl))
 obtain⟨j,e,c,l,q⟩:=c
 subst e
 cases k with
 | cons r i=>
  cases i
  obtain⟨t,rfl⟩:=r
  exact call_range_1 (H9 n (by lia) (by lia) c l (by simp_all))
def L5 (c:TI) (g:TG) (tb:TS):TS:=λD U H=>c U H λJ H1=> ∃W:Nat->Nat->St->Hp->Prop,(∃ m,W 0 m U H1)/\ ∀i m U H,W i m U H →
 (J.stop i H/\D.nx U H)\/(J.go i H/\ ∃N:St->Hp->Prop,(∀ a H',N a H'-> ∃b,b<m/\W (i+1) b a H')/\ ∀x H',J.fi i H x H'->g x U H' λd H2=>tb { D with nx:=N,ct:=N,bk:=D.nx } d H2)
def WN (a:List Addr) (h:Heap):List (Addr×Obj):=a.filterMap λb=>(h.get? b).map λo=>(b,o)
def Zg (a:b∈fp) (e:h.get? b=k0 o):(b,o)∈WN fp h:=List.mem_filterMap.mpr ⟨b,a,by rw [e];rfl⟩
def QZ (c:p∈WN fp h):p.1∈fp/\h.get? p.1=k0 p.2:=by
 obtain⟨b,a,e⟩:=List.mem_filterMap.mp c
 cases q:h.get? b with
 | none=>rw [q]at e;cases e
 | some o=>
  rw [q]at e
  have d:=Ad6.inj e
  subst d
  exact⟨a,q⟩
def Inv.pinned (I:Inv X pins U H s) (g: ∀b∈fp,bA X pins H b) (f: ∀b∈fp,∃o,s.heap.get? b=k0 o/\ ∀v,o.data≠ .cell v):Inv X (pins++WN fp s.heap) U H s:=
 I.bR λp k=>(Ac8.mp k).elim (λz=>I.pin p (Ab0 _ z)) λz=>by
  obtain⟨a,e⟩:=QZ z
  obtain⟨i,h,j,_⟩:=g p.1 a
  obtain⟨o,c,d⟩:=f p.1 a
  rw [e]at c;cases c
  exact⟨e,i,h,j,d⟩
def Inv.bI (I:Inv X (pins++pl) U H s):Inv X pins U H s:=I.bR λp a=>I.pin p (Ab0 _ (Ad _ a))
def Lq (F:PassesOwn (model X.prog X.w) X.A X.env X.xe) (hc:X.calm=u0) (hi:PI X tg iter wi) (hg:PG X tg g) (p:dk X body tb)
 (hs: ∀x,foldedSetIterable iter X.env x=pure x:=by intro _;rfl):PS X (.For tg iter body [] pos) (L5 wi g tb):=by
 intro a s U H D I h
 refine wpAny_For (aO (hi a s U H _ I h) λv s1 h1=>aO h1 λitv s2 h2=> ?_) hs
 obtain⟨it,L,tn,J,H2,e,I2,T,O,Z,W,⟨m0,w0⟩,C⟩:=h2
 subst e
 have j: ∀ {t},(∀ b∈L,t b=y0)-> ∀b∈L,bA X a t b:=λhn b p=>⟨hn b p,(Z b p).2⟩
 refine codeAny_forLoop_any (λn R=> ∃i G t,Inv X a G t R/\tn i R.heap/\(∀ b∈L,t b=y0)/\W i n G t) ?_ m0 ⟨0,U,H2,I2,O,λb p=>(Z b p).1,w0⟩
 rintro n S ⟨i,B,K,V,E,z,w3⟩
 obtain⟨stop,qn⟩ | ⟨go,N,hN,step⟩:=C i n B K w3
 .refine wpAny_passesOwn F (aO (T.done X rfl rfl rfl hc i a S B K X.xe V (j z) E stop) ?_)
  rintro r s4 ⟨P,I4⟩
  subst P
  exact wpAny_execs_nil ⟨B,K,I4,qn⟩
 .refine wpAny_passesOwn F (aO (T.item X rfl rfl rfl hc i a S B K X.xe V (j z) E go) ?_)
  rintro r s4 ⟨u,P,h4⟩
  subst P
  refine wpAny_passesOwn F (aO h4 λ_ s5 ⟨x,Y,I5,r5,y5,y,M⟩=> wpAny_passesOwn F (aO (hg _ s5 B Y x u _ (I5.pinned (j M) (T.obj _ _ y)) r5 (step x Y y5)) λ_ s6 ⟨U6,H6,I6,q6⟩=> wpAny_passesOwn F (aO (p _ s6 U6 H6 _ I6 q6) λf Q w=> ?_)))
  have q: ∀ {c}{k},Inv X _ c k Q->N c k-> ∃m,m<n/\ ∃i G t,Inv X a G t Q/\tn i Q.heap/\(∀ b∈L,t b=y0)/\W i m G t:=λ{c k} l A=>by
   obtain⟨m',hm,w7⟩:=hN c k A
   refine⟨m',hm,i+1,c,k,l.bI,T.keep _ _ _ y λb p o e=>(l.pin _ (Ab0 _ (Ab0 _ (Zg p e)))).1,λb p=> ?_,w7⟩
   obtain⟨o,e,d⟩:=T.obj _ _ y b p
   exact(l.pin _ (Ab0 _ (Ab0 _ (Zg p e)))).2.1
  cases f with
  | next=>obtain⟨c,k,l,A⟩:=w;exact q l A
  | cont=>obtain⟨c,k,l,A⟩:=w;exact q l A
  | brk=>obtain⟨c,k,l,w⟩:=w;exact⟨c,k,l.bI,w⟩
  | ret v=>obtain⟨x7,c,k,l,r7,w⟩:=w;exact⟨x7,c,k,l.bI,r7,w⟩
end
abbrev R2:=V->V->Hp->VK->Prop
def b0 (X:Cx) (f:Value->Value->Sem Value) (r:R2):Prop:=
 ∀(pins:List (Addr×Obj)) (s:Shared) (U:St) (H:Hp) (x y:V) (v u:Value) (Q:VK),Inv X pins U H s->RelV x v->RelV y u->r x y H Q →
  wpAny (model X.prog X.w) X.A (f v u) (EP X pins U Q) X.xe s
def mS (X:Cx) (f:Value->Sem Value) (r:V->Hp->VK->Prop):Prop:=
 ∀(pins:List (Addr×Obj)) (s:Shared) (U:St) (H:Hp) (x:V) (v:Value) (Q:VK),Inv X pins U H s->RelV x v->r x H Q →
  wpAny (model X.prog X.w) X.A (f v) (EP X pins U Q) X.xe s
def ju (X:Cx) (f:Value) (r:List V->Hp->VK->Prop):Prop:=
 ∀(pins:List (Addr×Obj)) (s:Shared) (U:St) (H:Hp) (xs:List V) (a:List Value) (Q:VK),Inv X pins U H s->Vals xs a->r xs H Q →
  wpAny (model X.prog X.w) X.A (call f a) (EP X pins U Q) X.xe s
def Bv (X:Cx) (r:V->Hp->(Bool->Hp->Prop)->Prop):Prop:=
 ∀(pins:List (Addr×Obj)) (s:Shared) (U:St) (H:Hp) (x:V) (v:Value) (Q:Bool->Hp->Prop),Inv X pins U H s->RelV x v->r x H Q →
  wpAny (model X.prog X.w) X.A (truthy v) (TP X pins U Q) X.xe s
def lH (r:R2) (a tb:TE):TE:=λU H Q=>a U H λx H1=>tb U H1 λy H2=>r x y H2 Q
def C4 (r:V->Hp->VK->Prop) (a:TE):TE:=λU H Q=>a U H λx H1=>r x H1 Q
def rI (C:Int->Int->Prop) (g:Int->Int->V):R2:=λx y H Q=> ∃i j,x= .int i/\y= .int j/\C i j/\Q (g i j) H
def fX (g:Int->Int->V):R2:=λx y H Q=> ∃i j,x= .int i/\y= .int j/\Q (g i j) H
def rU (g:Int->V):V->Hp->VK->Prop:=λx H Q=> ∃i,x= .int i/\Q (g i) H
section
variable {X:Cx}{a b c:Expr}{ta tb tc:TE}{pos:Pos}
def nV (m:PE X a ta) (n:PE X b tb){R:V->V->Hp->Prop}(I:Inv X pins U H s)
 (h:ta U H λx H1=>tb U H1 λy H2=>R x y H2){f:Value->Value->Sem Value}
 (e: ∀v u L x y H2,Inv X pins U H2 L->RelV x v->RelV y u->R x y H2->wpAny (model X.prog X.w) X.A (f v u) Q X.xe L):
 wpAny (model X.prog X.w) X.A (eval a X.env) (λv j=>wpAny (model X.prog X.w) X.A (eval b X.env) (λu i=>wpAny (model X.prog X.w) X.A (f v u) Q X.xe i) X.xe j) X.xe s:=by
 exact aO (m pins s U H _ I h) λv p ⟨x,H1,o,k,d⟩=> aO (n pins p U H1 _ o d) λu L ⟨y,H2,g,c,l⟩=> e v u L x y H2 g k c l
def AB (g:b0 X (binaryOp op) r) (i:PE X a ta) (j:PE X b tb):PE X (.BinOp a op b pos) (lH r ta tb):=by
 intro c s U H Q I h
 exact wpAny_BinOp (nV i j I h λv u d x y e f k l q=>g c d U e x y v u Q f k l q)
def oq (c:mS X (unaryOp op) r) (i:PE X a ta):PE X (.UnaryOp op a pos) (C4 r ta):=by
 intro b s U H Q I h
 exact UnaryOp_ (aO (i b s U H _ I h) λv g ⟨x,j,f,d,e⟩=>c b g U j x v Q f d e)
def kG {g:Int->Int->Int}
 (a: ∀ i j t u s Q E,C i j->Q (.int (g i j) s.toks) { s with toks:=s.toks+1 }->wpAny (model X.prog X.w) X.A (f (.int i t) (.int j u)) Q E s):
 b0 X f (rI C λi j=> .int (g i j)):=by
 intro b s U H x y v u Q I e k h
 obtain⟨i,j,rfl,rfl,d,q⟩:=h
 obtain⟨t,rfl⟩:=e
 obtain⟨c,rfl⟩:=k
 exact a i j t c s _ _ d ⟨.int _,H,I.tok _,⟨_,rfl⟩,q⟩
def kY {g:Int->Int->Int}
 (a: ∀ i j t u s Q E,Q (.int (g i j) s.toks) { s with toks:=s.toks+1 }->wpAny (model X.prog X.w) X.A (f (.int i t) (.int j u)) Q E s):
 b0 X f (fX λi j=> .int (g i j)):=by
 intro b s U H x y v u Q I d e h
 obtain⟨i,j,rfl,rfl,q⟩:=h
 obtain⟨t,rfl⟩:=d
 obtain⟨c,rfl⟩:=e
 exact a i j t c s _ _ ⟨.int _,H,I.tok _,⟨_,rfl⟩,q⟩
def mq {g:Int->Int->Bool}
 (a: ∀ i j t u s Q E,Q (.bool (g i j)) s->wpAny (model X.prog X.w) X.A (f (.int i t) (.int j u)) Q E s):
 b0 X f (fX λi j=> .bl (g i j)):=by
 intro b s U H x y v u Q I d e h
 obtain⟨i,j,rfl,rfl,q⟩:=h
 obtain⟨t,rfl⟩:=d
 obtain⟨c,rfl⟩:=e
 exact a i j t c s _ _ ⟨.bl _,H,I,rfl,q⟩
def uM (i j:Int):Prop:=0<j/\j<1073741824
def rR (i j:Int):Prop:=0<=j/\j<=1000000/\i.natAbs<2 ^ 64
def i6 (i j:Int):Prop:=(-(2 ^ 64)<i/\i<2 ^ 64)\/(-(2 ^ 64)<j/\j<2 ^ 64)
def i6.ok (h:i6 i j):IntMulOk i j:=by
 obtain⟨a,b⟩ | ⟨a,b⟩:=h
 .exact .of_left (intBits_le_64 a b)
 .exact .of_right (intBits_le_64 a b)
def B8 (k):(0:Int)<=2 ^ k:=by
 exact Ao9 _
def LD:b0 X (binaryOp .Add) (fX λi j=> .int (i+j)):=kY λ_ _ _ _ _ _ _ q=>add_int q
def LC:b0 X (binaryOp .Sub) (fX λi j=> .int (i-j)):=kY λ_ _ _ _ _ _ _ q=>sub_int q
def Dt:b0 X (binaryOp .Mult) (rI i6 λi j=> .int (i*j)):=kG λ_ _ _ _ _ _ _ a q=>mul_int q a.ok
def IX:b0 X (binaryOp .FloorDiv) (rI uM λi j=> .int (i / j)):=kG λi j _ _ _ _ _ a q=>by
 have c:=a.1
 have b:=a.2
 exact floordiv_int (by lia) (by rw [Am0 i (by lia)];exact q) (.inl (PyProof.noPylong_small (by lia)))
def Bn:b0 X (binaryOp .Mod) (rI (λ_ j=>0<j) λi j=> .int (i % j)):=kG λi j _ _ _ _ _ a q=>by
 have b:=a
 exact mod_int' (by lia) (by rw [Int.fmod_eq_emod_of_nonneg i (by lia)];exact q)
def Ft:b0 X (binaryOp .Pow) (rI rR λi j=> .int (i ^ j.toNat)):=kG λ_ _ _ _ _ _ _ a q=>pow_int_small a.1 a.2.1 a.2.2 q
def DN:b0 X (binaryOp .LShift) (rI rR λi j=> .int (i*2 ^ j.toNat)):=kG λ_ _ _ _ _ _ _ a q=>lshift_int_small a.1 a.2.1 a.2.2 q
def Im:b0 X (binaryOp .RShift) (rI (λ_ j=>0<=j) λi j=> .int (i / 2 ^ j.toNat)):=kG λi j _ _ _ _ _ a q=>
 rshift_int a (by rw [Am0 i (B8 _)];exact q)
def MZ:b0 X (binaryOp .BitAnd) (fX λi j=> .int (Builtin.bitAnd i j)):=kY λ_ _ _ _ _ _ _ q=>and_int q
def BU:b0 X (binaryOp .BitOr) (fX λi j=> .int (Builtin.bitOr i j)):=kY λ_ _ _ _ _ _ _ q=>or_int q
def EB:b0 X (binaryOp .BitXor) (fX λi j=> .int (Builtin.bitXor i j)):=kY λ_ _ _ _ _ _ _ q=>xor_int q
def uK {g:Int->Int}
 (a: ∀ i t s Q E,Q (.int (g i) s.toks) { s with toks:=s.toks+1 }->wpAny (model X.prog X.w) X.A (f (.int i t)) Q E s):
 mS X f (rU λi=> .int (g i)):=by
 intro b s U H x v Q I c h
 obtain⟨i,rfl,q⟩:=h
 obtain⟨t,rfl⟩:=c
 exact a i t s _ _ ⟨.int _,H,I.tok _,⟨_,rfl⟩,q⟩
def p7:mS X (unaryOp .USub) (rU λi=> .int (-i)):=uK λ_ _ _ _ _ q=>neg_int q
def ET:mS X (unaryOp .Invert) (rU λi=> .int (Builtin.bitNot i)):=uK λ_ _ _ _ _ q=>invert_int q
end
section
variable {X:Cx}{a b c:Expr}{ta tb tc:TE}{pos:Pos}
def mP (I:Inv X pins U H s) (q:Q (.bl k) H) (e:k=k'):EP X pins U Q (.bool k') s:=by
 subst e
 exact⟨.bl k,H,I,rfl,q⟩
def Ib:b0 X (compareOp .Lt) (fX λi j=> .bl (u9 (i<j))):=mq λ_ _ _ _ _ _ _ q=>lt_int q
def FQ:b0 X (compareOp .LtE) (fX λi j=> .bl (u9 (i<=j))):=mq λ_ _ _ _ _ _ _ q=>le_int q
def HQ:b0 X (compareOp .Gt) (fX λi j=> .bl (u9 (j<i))):=mq λ_ _ _ _ _ _ _ q=>gt_int q
def D6:b0 X (compareOp .GtE) (fX λi j=> .bl (u9 (j<=i))):=mq λ_ _ _ _ _ _ _ q=>ge_int q
def yZ (i:b0 X (compareOp op) r) (j:PE X a ta) (k:PE X b tb) (d:behindInMarks op b=k9):PE X (.Compare a [op] [b] pos) (lH r ta tb):=by
 intro c s U H Q I h
 exact wpAny_Compare1 (nV j k I h λv u e x y f g l m q=>i c e U f x y v u Q g l m q) d
def ub (t:TE):TT:=λU H Q=>t U H λx H'=> ∃k,x= .bl k/\Q k H'
def tS (t:b0 X (compareOp op) r) (C:PE X a ta) (D:PE X b tb) (f:behindInMarks op b=k9):PT X (.Compare a [op] [b] pos) (ub (lH r ta tb)):=by
 intro d s U H Q I h
 refine wpAny_isTrue_Compare1 (aO (C d s U H _ I h) λv F ⟨x,p,E,w,n⟩=>aO (D d F U p _ E n) λu g ⟨y,l,q,i,A⟩=>
  aO (t d g U l x y v u _ q w i A) λc G ⟨z,m,o,B,k,e,j⟩=> ?_) f
 subst e
 cases B
 exact wpAny_truthy_bool ⟨m,o,j⟩
def nQ (r r':R2) (e tb b:TE):TE:=λU H Q=>e U H λx H1=>tb U H1 λy H2=>r x y H2 λz a=> ∃k,z= .bl k ∧
 (if k=u0 then b U a λc d=>r' y c d Q else Q (.bl k9) a)
def AK (B:b0 X (compareOp op) r) (g:b0 X (compareOp op') r') (L:PE X a ta) (O:PE X b tb) (T:PE X c tc)
 (n:lastMarks [op,op'] [b,c]=false:=by with_unfolding_all rfl):PE X (.Compare a [op,op'] [b,c] pos) (nQ r r' ta tb tc):=by
 intro f s U H Q I h
 refine Compare_chain (aO (L f s U H _ I h) λv S ⟨x,w,P,C,q⟩=>chain_link (aO (O f S U w _ P q) λu o ⟨y,p,A,i,F⟩=>
  aO (B f o U p x y v u _ A C i F) λd K ⟨z,l,m,J,k,e,j⟩=> ?_)) n
 subst e
 cases J
 refine wpAny_truthy_bool ?_
 cases k with
 | false=>exact ite_ff ⟨.bl k9,l,m,rfl,j⟩
 | true=>exact ite_tt (chain_last (aO (T f K U l _ m j) λR E ⟨N,t,D,G,M⟩=>g f E U t y N u R Q D i G M))
def HC (D:b0 X (compareOp op) r) (g:b0 X (compareOp op') r') (R:PE X a ta) (V:PE X b tb) (hc:PE X c tc)
 (n:lastMarks [op,op'] [b,c]=false:=by with_unfolding_all rfl):PT X (.Compare a [op,op'] [b,c] pos) (ub (nQ r r' ta tb tc)):=by
 intro f s U H Q I h
 refine isTrue_chain (aO (R f s U H _ I h) λv s1 ⟨x,A,W,E,q⟩=>test_link (aO (V f s1 U A _ W q) λu o ⟨y,p,C,i,L⟩=>
  aO (D f o U p x y v u _ C E i L) λd P ⟨z,l,m,N,k,e,j⟩=> ?_)) n
 subst e
 cases N
 refine wpAny_truthy_bool ?_
 cases k with
 | false=>
  obtain⟨k',O,B⟩:=j
  cases O
  exact ite_ff ⟨l,m,B⟩
 | true=>
  refine ite_tt (test_last (aO (hc f P U l _ m j) λY K ⟨T,t,J,M,S⟩=>aO (g f K U t y T u Y _ J i M S) ?_))
  rintro d' s5 ⟨z2,G,F,w,k2,e2,Z⟩
  subst e2
  cases w
  exact wpAny_truthy_bool ⟨G,F,Z⟩
def iY (K:Aa8) (x:V) (H:Hp) (k:Bool):Prop:=
 match x with
 | .au=>k=k9
 | .bl b=>k=b
 | .int i=>k=(i != 0)
 | .str y=>y.length<=sizeLine/\k=((y.length:Int) != 0)
 | .i5 y=>y.size<=sizeLine/\k=((y.size:Int) != 0)
 | .ref p=>(∃ xs,bu K H p xs/\k= !xs.isEmpty)\/(∃ xs,cj K H p xs/\k= !xs.isEmpty)\/ ∃kvs,H p=k0 (.dK kvs)/\k= !kvs.isEmpty
 | _=>False
def C6 (r:KV kvs vs):(!vs.isEmpty)= !kvs.isEmpty:=by
 cases r<;>rfl
def zQ (r:Vals xs its):(!its.toArray.isEmpty)= !xs.isEmpty:=by
 cases r<;>simp
def jK:(sizeLine:Nat)<2 ^ 63:=by rw [sizeLine_eq];decide
def mz:Bv X (λx H Q=> ∃k,iY X.K x H k/\Q k H):=by
 intro n s U H x v Q I d h
 obtain⟨k,e,q⟩:=h
 have B:=jK
 have A:=sizeLine_eq
 cases x with
 | au=>
  cases d
  have a:=e
  subst a
  exact truthy_none ⟨H,I,q⟩
 | bl b=>
  cases d
  have a:=e
  subst a
  exact wpAny_truthy_bool ⟨H,I,q⟩
 | int i=>
  obtain⟨t,rfl⟩:=d
  have a:=e
  subst a
  exact PySem.P.truthy_int ⟨H,I,q⟩
 | str y=>
  obtain⟨t,rfl⟩:=d
  obtain⟨w,a⟩:y.length<=sizeLine/\k=(_ != 0):=e
  subst a
  exact PySem.P.truthy_str (by lia) ⟨H,I.tok _,q⟩
 | i5 y=>
  obtain⟨t,rfl⟩:=d
  obtain⟨w,a⟩:y.size<=sizeLine/\k=(_ != 0):=e
  subst a
  exact PySem.W.truthy_bytes (by lia) ⟨H,I.tok _,q⟩
 | ref p=>
  cases d
  have a:=e
  rcases a with⟨u,g,a⟩ | ⟨u,g,a⟩ | ⟨f,g,a⟩
  .subst a
   obtain⟨l,r,pl,o⟩:=I.list g
   have c:=r.length
   exact wpAny_truthy_list pl.isList (by simp only [Ac0];lia) ⟨H,I.tok _,by rw [zQ r];exact q⟩
  .subst a
   obtain⟨l,r,pl,o⟩:=I.tuple g
   have c:=r.length
   exact truthy_tuple pl (by simp only [Ac0];lia) ⟨H,I.tok _,by rw [zQ r];exact q⟩
  .subst a
   obtain⟨o,z,j,r,m⟩:f.length<=sizeLine/\(p==sysModules)=k9/\ ∃j,KV f j/\s.heap.DictOf _ p j:=I.a0 p _ g
   have c:=Paired.length r
   exact wpAny_truthy_dict z m (by lia) ⟨H,I.tok _,by rw [C6 r];exact q⟩
 | _=>exact(e).elim
def F4 (f:PE X a ta) (j: ∀i,isTrue a X.env i=(do let v ←i;standAt a.pos;holding [v] (truthy v))):
 PT X a (λU H Q=>ta U H λx H'=> ∃k,iY X.K x H' k/\Q k H'):=by
 intro b s U H Q I h
 exact isTrue_plain (aO (f b s U H _ I h) λv l ⟨x,d,g,e,c⟩=>mz b l U d x v Q g e c) (j _)
def KI:b0 X (binaryOp .Add) (λx y H Q=> ∃i j,x= .str i/\y= .str j/\i.length+j.length<=sizeLine/\Q (.str (i++j)) H):=by
 intro a s U H x y v u Q I d e h
 obtain⟨i,j,rfl,rfl,c,q⟩:=h
 obtain⟨t,rfl⟩:=d
 obtain⟨b,rfl⟩:=e
 exact add_str (λb f=>⟨.str _,H,I.tok _,⟨_,rfl⟩,q⟩) c
def jN (r:Vals [x] us): ∃u,us= [u]/\RelV x u:=by
 cases r with
 | cons b a=>cases a;exact⟨_,rfl,b⟩
def o9 (r:Vals [x,y] us): ∃u i,us= [u,i]/\RelV x u/\RelV y i:=by
 cases r with
 | cons a d=>
  cases d with
  | cons c b=>cases b;exact⟨_,_,rfl,a,c⟩
def j5:ju X (.type "int") (fun xs H Q=>(∃ i,xs= [.int i]/\Q (.int i) H)\/ ∃k,xs= [.bl k]/\Q (.int (if k then 1 else 0)) H):=by
 intro a s U H xs c Q I r h
 obtain⟨i,rfl,q⟩ | ⟨k,rfl,q⟩:=h
 .obtain⟨u,rfl,t,rfl⟩:=jN r
  exact call_int_int ⟨.int i,H,I,⟨_,rfl⟩,q⟩
 .obtain⟨u,rfl,b⟩:=jN r
  cases b
  exact call_int_bool ⟨.int _,H,I.tok _,⟨_,rfl⟩,q⟩
def Q8:ju X (.builtin "divmod") (fun xs H Q=> ∃i j,xs= [.int i,.int j]/\uM i j/\ ∀p,H p=none->Q (.ref p) (aP H p (.tup [.int (i / j),.int (i % j)]))):=by
 intro a s U H xs c Q I r h
 obtain⟨i,j,rfl,⟨f,k⟩,q⟩:=h
 obtain⟨u,g,rfl,⟨t,rfl⟩,⟨d,rfl⟩⟩:=o9 r
 refine divmod_int (by lia) ?_ (.inl (PyProof.noPylong_small (by lia)))
 rw [Am0 i (by lia),Int.fmod_eq_emod_of_nonneg i (by lia)]
 refine⟨.ref s.heap.objs.size,_,?_,rfl,q _ (I.a0.fresh (Aa9 _))⟩
 refine I.laid (λb o e=>Ab2 _ e) (Aa9 _) ⟨by simp only [Aa7,Ad3];decide,[.int _ s.toks,.int _ (s.toks+1)],.cons ⟨_,rfl⟩ (.cons ⟨_,rfl⟩ .nil),?_⟩
 exact⟨_,Ac7 s.heap rfl,rfl,rfl,0,rfl⟩
end
structure eC (h:Heap) (x dx C:Addr) (mA:Str->Option Value):Prop where
 obj:h.get? x=k0 (Ak C dx)
 ns:h.Ns1 dx mA
 ne:dx≠x
def Ls {h:Heap}(n:h.Ns1 dx mA): ∃i,h.get? dx=k0 i/\ ∀name,An1 name i=k0 (mA name):=by
 obtain⟨o,c,m,k,l,g,_,d⟩:=n
 refine⟨o,k,λname=> ?_⟩
 have e:=d name
 unfold nsFind findBy at e
 rw [← Array.find?_toList]at e
 unfold An1
 rw [l]
 dsimp only
 split
 .rename_i y q
  rw [q]at e
  exact congrArg k0 e
 .rename_i q
  rw [q]at e
  have a:c.toList.any (·.refKey)=false:=by
   rw [Ak7]
   intro y j
   obtain⟨z,t,b⟩:=g y (Array.mem_toList_iff.mp j)
   simp [DictEntry.refKey,b]
  have f: ¬c.toList.any (·.refKey)=true:=by rw [a];exact Ac3
  rw [if_neg f]
  exact congrArg k0 e
def eC.look (I:eC h x dx C mA): ∃i,PySem.W.InstAt h x (Ak C dx) C (k0 i)/\ ∀name,An1 name i=k0 (mA name):=
 let ⟨i,a,b⟩:=Ls I.ns
 ⟨i,⟨I.obj,rfl,rfl,a⟩,b⟩
section
variable {prog:Program}{w:World}{A:Around}{E:Value->Shared->Prop}{s:Shared}{K:Aa8}{x dx C f:Addr}{mA:Str->Option Value}{name:Str}{v:Value}
def Eb (X:K.In s.heap) (I:eC s.heap x dx C mA) (d:Am5 K C name=u0) (b:PySem.W.hasDictIn K C=u0)
 (e:Ak6 K (.ref C) name=k0 y0) (f:mA name=k0 v) (a:PySem.W.handedIn v=u0) (h:Q v { s with toks:=s.toks+1 }):
 wpAny (model prog w) A (getAttr (.ref x) name expr) Q E s:=by
 obtain⟨g,J,c⟩:=I.look
 exact PySem.W.get_value X J (An7 d).1 (PySem.W.findObj_own b e rfl (by rw [c,f])) a h
def Ha (X:K.In s.heap) (I:eC s.heap x dx C mA) (a:Am5 K C name=u0)
 (b:Ak6 K (.ref C) name=k0 (k0 (.ref f))) (e:PySem.W.isFn K (.ref f)=u0) (g:mA name=y0) (h:Q (.ref f,[.ref x]) s):
 wpAny (model prog w) A (getMethod (.ref x) name pl) Q E s:=by
 obtain⟨c,J,d⟩:=I.look
 exact PySem.W.method_fn X J (An7 a).1 (An7 a).2 b (beq_iff_eq.mp e) (by show(An1 name c).map _=k0 k9;rw [d,g];rfl) h
def Fm (X:K.In s.heap) (I:eC s.heap x dx C mA)
 (i:PySem.W.findIn K (.ref C) "__setattr__" =some (some (.builtin "object.__setattr__"))) (p:PySem.W.plainOver K C=true) (m:PySem.W.takerIn K C name=some none) (n:PySem.W.hasDictIn K C=true)
 (j:PySem.Within mA ns) (k:ns.length<=sizeLine)
 (h: ∀h',eC h' x dx C (λy=>if y=name then k0 v else mA y)->Aj1 dx s.heap h'->Q () { s with heap:=h',toks:=s.toks+2 }):
 wpAny (model prog w) A (setAttr (.ref x) name v) Q E s:=by
 obtain⟨r,J,u⟩:=I.look
 refine PySem.W.set_plain X J i (PySem.W.osa_open X J p m λb=> ?_)
 obtain⟨cd,q,e⟩:=PySem.W.any_some n
 refine wpAny_bind (wpAny_pure (wpAny_bind (wpAny_bind (wpAny_loadPart I.obj (wpAny_bind (PySem.W.Looks.here (PySem.W.looks_clsIn X q) ?_))))))
 rw [e]
 refine wpAny_pure (wpAny_bind (wpAny_pure (wpAny_bind (wpAny_nsSet1 I.ns λh' c a=> ?_))))
 obtain⟨t,o,l,f,g,d⟩:=c.count (PySem.Within.cons name v j)
 refine wpAny_bind (wpAny_lookBehind f (by rw [g];exact pastItsLine_dict (Ab5 d (by simp_all))) ?_)
 exact wpAny_pure (h _ ⟨(a.2 _ (Ne.symm I.ne)).trans I.obj,c,I.ne⟩ a)
def K3 (X:K.In s.heap) (b:PySem.W.makesIn K C=u0)
 (e:PySem.W.findIn K (.ref C) "__init__" =some (some (.ref f))) (c:PySem.W.typeIn K (.ref f)=some (.type "function"))
 (h:codeAny (model prog w) (A.under (.builtin "type.__call__" ⟨.ref C::vs,kw⟩)) (.call (.ref f) ⟨.ref (s.heap.objs.size+1)::vs,kw⟩) (PySem.W.InitBack (s.heap.objs.size+1) R)
   { s with heap:=(s.heap.push Ah8).push (Ak C s.heap.objs.size) }):
 codeAny (model prog w) A (.call (.ref C) ⟨vs,kw⟩) R s:=by
 obtain⟨i,g,d,t,j⟩:=s
 exact PySem.W.make_core (PySem.W.makes_of X b) (PySem.W.looks_findIn X e) (λa=>PySem.W.bind_fn X a c) (.inl rfl) h
end
noncomputable def aW (f:Str) (v:V):List (Str×V)->List (Str×V)
 | []=> [(f,v)]
 | (g,x)::r=>if g=f then(g,v)::r else(g,x)::aW f v r
theorem JK (f g) (v): ∀fs:List (Str×V),(aW f v fs).lookup g=if g=f then k0 v else fs.lookup g
 | []=>by
  show Aj g [(f,v)]=_
  by_cases h:g=f
  .have a:=beq_iff_eq.mpr h
   simp only [Aj,a,if_pos h]
  .have a:=beq_eq_false_iff_ne.mpr h
   simp only [Aj,a,if_neg h]
 | (k,x)::r=>by
  have c:=JK f g v r
  rw [show aW f v ((k,x)::r)=(if k=f then(k,v)::r else(k,x)::aW f v r)from rfl]
  by_cases b:k=f
  .rw [if_pos b]
   by_cases h:g=k
   .have a:=beq_iff_eq.mpr h
    simp only [Aj,a,if_pos (h.trans b)]
   .have a:=beq_eq_false_iff_ne.mpr h
    simp only [Aj,a,if_neg (λe:g=f=>h (e.trans b.symm))]
  .rw [if_neg b]
   by_cases h:g=k
   .have a:=beq_iff_eq.mpr h
    simp only [Aj,a,if_neg (λe:g=f=>b (h.symm.trans e))]
   .have a:=beq_eq_false_iff_ne.mpr h
    simp only [Aj,a]
    exact c
theorem ZL (f) (v): ∀fs:List (Str×V),f∈(aW f v fs).map (·.1)/\ ∀g,g∈fs.map (·.1)->g∈(aW f v fs).map (·.1)
 | []=>⟨by simp [aW],λg h=>by simp at h⟩
 | (k,x)::r=>by
  obtain⟨i1,i2⟩:=ZL f v r
  rw [show aW f v ((k,x)::r)=(if k=f then(k,v)::r else(k,x)::aW f v r)from rfl]
  by_cases a:k=f
  .rw [if_pos a]
   subst a
   exact⟨by simp,λg h=>by simpa using h⟩
  .rw [if_neg a]
   refine⟨?_,λg h=> ?_⟩
   .rw [Ab1]
    exact Aa2 _ i1
   .rw [Ab1]at h ⊢
    rcases Ab8.mp h with e | e
    .exact Ab8.mpr (.inl e)
    .exact Aa2 _ (i2 g e)
theorem zJ (f) (v): ∀fs:List (Str×V),(aW f v fs).length<=fs.length+1
 | []=>by simp [aW]
 | (k,x)::r=>by
  have b:=zJ f v r
  rw [show aW f v ((k,x)::r)=(if k=f then(k,v)::r else(k,x)::aW f v r)from rfl]
  by_cases a:k=f
  .rw [if_pos a,Aa7,Aa7];lia
  .rw [if_neg a,Aa7,Aa7];lia
def cz.some_of (r:cz (k0 v) o): ∃u,o=k0 u/\RelV v u:=by
 cases o with
 | none=>exact(r).elim
 | some u=>exact⟨u,rfl,r⟩
def cz.none_of (r:cz y0 o):o=none:=by
 cases o with
 | none=>rfl
 | some u=>exact(r).elim
def HB (r:RelV v u):PySem.W.handedIn u=true:=by
 cases v with
 | au=>cases (r);rfl
 | bl b=>cases (r);rfl
 | int i=>obtain⟨t,e⟩:=(r);cases e;rfl
 | str x=>obtain⟨t,e⟩:=(r);cases e;rfl
 | i5 b=>obtain⟨t,e⟩:=(r);cases e;rfl
 | g9 b=>obtain⟨t,e⟩:=(r);cases e;rfl
 | ref a=>cases (r);rfl
 | ty n=>cases (r);rfl
section
variable {P:Program}{w:World}{H H':Hp}{h h':Heap}{a C dx:Addr}{fs fs':List (Str×V)}
def JS (b:cY P w H h) (e:H a=k0 (.ins C dx fs)): ∃mA,eC h a dx C mA/\(∀ f,cz (fs.lookup f) (mA f))/\PySem.Within mA (fs.map (·.1))/\fs.length<=1000/\H dx=k0 (.own a):=by
 obtain⟨d,z,ne,c,mA,n,r,q⟩:=(show a8 P w H h a (.ins C dx fs)from b a _ e)
 exact⟨mA,⟨c,n,ne⟩,r,q,z,d⟩
end
structure d0 (K:Aa8) (C:Addr):Prop where
 pg:Am5 K C Str.empty=u0
 hd:PySem.W.hasDictIn K C=u0
 po:PySem.W.plainOver K C=u0
 sa:PySem.W.findIn K (.ref C) "__setattr__" =some (some (.builtin "object.__setattr__"))
def d0.get {K:Aa8}(c:d0 K C) (f):Am5 K C f=true:=c.pg
def b3 (K:Aa8) (C:Addr) (f:Str):Prop:=Ak6 K (.ref C) f=k0 y0
def b3.lg {K:Aa8}(n:b3 K C f):PySem.W.takerIn K C f=k0 none:=by
 unfold PySem.W.takerIn
 rw [show Ak6 K _ f=k0 y0 from n]
 rfl
structure Nf (K:Aa8) (C:Addr) (f:Str) (v:V) (u:Value):Prop where
 at_:Ak6 K (.ref C) f=k0 (k0 u)
 rel:RelV v u
 get:PySem.W.specialIn K u "__get__" =some none
 cp:PySem.W.copiedNames.contains f=k9
structure l3 (K:Aa8) (C:Addr) (m:Str) (f:Addr):Prop where
 at_:Ak6 K (.ref C) m=k0 (k0 (.ref f))
 fn:PySem.W.isFn K (.ref f)=u0
 kp:Ah5 K (.ref f)=u0
section
variable {X:Cx}{pins:List (Addr×Obj)}{U:St}{H:Hp}{s:Shared}{a C dx:Addr}{fs:List (Str×V)}{f:Str}{v:V}{A:Around}{E:Value->Shared->Prop}
def D7 (I:Inv X pins U H s) (e:H a=k0 (.ins C dx fs)) (c:d0 X.K C) (n:b3 X.K C f) (l:fs.lookup f=k0 v)
 (h: ∀u s',Inv X pins U H s'->RelV v u->Q u s'):wpAny (model X.prog X.w) A (getAttr (.ref a) f b) Q E s:=by
 obtain⟨i,O,r,_,_,_⟩:=JS I.a0 e
 obtain⟨u,g,d⟩:=cz.some_of (by rw [← l];exact r f)
 exact Eb I.cu O (c.get f) c.hd n g (HB d) (h u _ (I.tok _) d)
def K9 (I:Inv X pins U H s) (e:H a=k0 (.ins C dx fs)) (c:d0 X.K C) (k:l3 X.K C m g) (l:fs.lookup m=y0)
 (h:Q (.ref g,[.ref a]) s):wpAny (model X.prog X.w) A (getMethod (.ref a) m pl) Q E s:=by
 obtain⟨d,O,r,_,_,_⟩:=JS I.a0 e
 have b:=cz.none_of (by rw [← l];exact r m)
 exact Ha I.cu O (c.get m) k.at_ k.fn b h
def MI (I:Inv X pins U H s) (e:H a=k0 (.ins C dx fs)) (c:d0 X.K C) (n:b3 X.K C f) (D:fs.length<1000) (x:RelV y u)
 (h: ∀s',Inv X pins U (aP H a (.ins C dx (aW f y fs))) s'->Q () s'):wpAny (model X.prog X.w) A (setAttr (.ref a) f u) Q E s:=by
 obtain⟨m,O,r,j,_,i⟩:=JS I.a0 e
 have p:(fs.map (·.1)).length<=sizeLine:=by rw [Aa,sizeLine_eq];lia
 refine Fm I.cu O c.sa c.po n.lg c.hd j p λk d w=>h _ ?_
 have B: ∃o,k.get? dx=k0 o:=let ⟨o,_,_,t,_⟩:=d.ns; ⟨o,t⟩
 refine I.write (by rw [e];exact True.intro) (.inr i) (λb q v z=>(w.2 b v).trans z) B ?_
 refine⟨by rw [Qa O.ne];exact i,?_,O.ne,d.obj,_,d.ns,λg=> ?_,λg l=> ?_⟩
 .have:=zJ f y fs;lia
 .show cz _ _
  rw [JK]
  by_cases q:g=f
  .rw [if_pos q,if_pos q];exact x
  .rw [if_neg q,if_neg q];exact r g
 .by_cases q:g=f
  .rw [q];exact(ZL f y fs).1
  .refine(ZL f y fs).2 g (j g λz=>l ?_)
   show(if g=f then k0 u else m g)=y0
   rw [if_neg q];exact z
def Inv.made (I:Inv X pins U H s):Inv X pins U (aP (aP H s.heap.objs.size (.own (s.heap.objs.size+1))) (s.heap.objs.size+1) (.ins C s.heap.objs.size []))
 { s with heap:=(s.heap.push Ah8).push (Ak C s.heap.objs.size) }:=by
 have e1:(s.heap.push Ah8).get? s.heap.objs.size=k0 Ah8:=Ac7 s.heap rfl
 have e2:=by
  have:=Ac7 (s.heap.push Ah8) (o:=Ak C s.heap.objs.size) rfl
  rwa [Al]at this
 have c:(s.heap.push Ah8).Ns s.heap.objs.size (λ_=>y0):=⟨Ah8, #[],_,e1,rfl,(λe a=>absurd a (by simp)),λ_=>rfl⟩
 refine (I.laid (o:= .own _) (t':=s.toks) (λb u q=>Ab2 _ q) (Aa9 _) ⟨_,e1⟩).laid (λb u q=>Ab2 _ q) (Al1 (Al _ _)) ?_
 have ne:s.heap.objs.size≠s.heap.objs.size+1:=Ac6 (Ag _)
 refine⟨by rw [Qa ne,wc],Ae6 _,ne,e2,λ_=>y0,(Heap.Ns1.of_empty c).at λo q=>Ab2 _ q,λ_=>True.intro,λy d=>absurd rfl d⟩
def A4 (a:attributeBase e f env (eval e env)=eval e env)
 (h:wpAny (model prog w) A (eval e env) (λo i=>wpAny (model prog w) A (getAttr o f u0) Q E i) E s):wpAny (model prog w) A (eval (.Attribute e f pos) env) Q E s:=
 Attribute_any_ h (by rw [arm_eval_Attribute,a])
end
def EF (K:Aa8) (b:TE) (f:Str):TE:=λU H Q=>b U H λx H1=> ∃a C dx fs v,x= .ref a/\H1 a=k0 (.ins C dx fs)/\d0 K C/\b3 K C f/\fs.lookup f=k0 v/\Q v H1
def FH (K:Aa8) (c b:TE) (f:Str):TS:=λD U H=>b U H λy H1=>c U H1 λx H2=> ∃a C dx fs,x= .ref a/\H2 a=k0 (.ins C dx fs)/\d0 K C/\b3 K C f/\fs.length<1000 ∧
 D.nx U (aP H2 a (.ins C dx (aW f y fs)))
section
variable {X:Cx}{o e value:Expr}{f:Str}{pos pos' tpos:Pos}{ta tv:TE}
def IG (p:PE X e ta) (j:attributeBase e f X.env (eval e X.env)=eval e X.env):PE X (.Attribute e f pos) (EF X.K ta f):=by
 intro b s U H Q I h
 refine A4 j (aO (p b s U H _ I h) ?_)
 rintro u y ⟨x,g,m,k,a,C,t,fs,v,ex,d,c,n,l,q⟩
 subst ex
 obtain rfl:u=Value.ref a:=k
 exact D7 m d c n l λw r i o=>⟨v,g,i,o,q⟩
def sG (r:PE X o ta) (g:PE X value tv) (e:swapsWith value (k0 (.Attribute o f pos')) pos.line X.env=pure k9):PS X (.Assign [.Attribute o f pos'] value pos) (FH X.K ta tv f):=by
 intro b s U H D I h
 refine plainObj_wpAny_Assign_Attribute (aO (g b s U H _ I h) λu w ⟨y,j,v,z,q⟩=>aO (r b w U j _ v q) λp A ⟨x,B,k,t,a,C,E,fs,ex,d,c,n,l,m⟩=> ?_) e
 subst ex
 obtain rfl:p=Value.ref a:=t
 exact MI k d c n l z λF i=>⟨U,_,i,m⟩
end
section
variable {X:Cx}{pins:List (Addr×Obj)}{U:St}{H:Hp}{s:Shared}{A:Around}{E:Value->Shared->Prop}{Q:Value->Shared->Prop}{c:Value}{b:Bool}
inductive fB (K:Aa8) (H:Hp):V->Value->Prop where
 | au:fB K H .au (.type "NoneType")
 | bl (x:Bool):fB K H (.bl x) (.type "bool")
 | int (i:Int):fB K H (.int i) (.type "int")
 | str (x:Str):fB K H (.str x) (.type "str")
 | g9 (x:UInt64):fB K H (.g9 x) (.type "float")
 | lst {a:Addr}{xs:List V}(e:H a=k0 (.lst xs)):fB K H (.ref a) (.type "list")
 | eu {a:Addr}{o:Obj}{xs:List V}(e:H a=k0 (.eu o (.lst xs))):fB K H (.ref a) (.type "list")
 | tup {a:Addr}{xs:List V}(e:H a=k0 (.tup xs)):fB K H (.ref a) (.type "tuple")
 | dK {a:Addr}{kvs:List (c3×V)}(e:H a=k0 (.dK kvs)):fB K H (.ref a) (.type "dict")
 | dT {a:Addr}{kvs:List (List c3×V)}(e:H a=k0 (.dT kvs)):fB K H (.ref a) (.type "dict")
 | ins {a C dx:Addr}{fs:List (Str×V)}(e:H a=some (.ins C dx fs)) (cl:d0 K C) (ha:PySem.W.findIn K (.ref C) "__class__" =some (some (.builtin "object.__class__")))
  (hn:PySem.W.specialIn K (.builtin "object.__class__") "__get__" =some (some (.builtin "getset_descriptor.__get__"))) (htk:PySem.W.takesIn K (.builtin "object.__class__")=some true)
  (hm:PySem.W.mroIn K C (.type "object")=some true):fB K H (.ref a) (.ref C)
def Zj (I:Inv X pins U H s) (f:RelV x u) (ty:fB X.K H x t) (e:PySem.W.kitOne X.K t c=k0 b) (h: ∀tk,Q (.bool b) { s with toks:=tk }):
 wpAny (model X.prog X.w) A (call (.builtin "isinstance") [u,c]) Q E s:=by
 cases ty with
 | au=>cases (show u=Value.none from f);exact Af1 PySem.W.kitx_none I.cu True.intro e (λz=>nomatch z) h
 | bl y=>cases (show u=Value.bool y from f);exact Af1 PySem.W.kitx_bool I.cu True.intro e (λz=>nomatch z) h
 | int i=>obtain⟨t,q⟩:=(show ∃t,u=Value.int i t from f);cases q;exact Af1 PySem.W.kitx_int I.cu True.intro e (λz=>nomatch z) h
 | str y=>obtain⟨t,q⟩:=(show ∃t,u=Value.str y t from f);cases q;exact Af1 PySem.W.kitx_str I.cu True.intro e (λz=>nomatch z) h
 | g9 y=>obtain⟨t,q⟩:=(show ∃t,u=Value.float y t from f);cases q;exact Af1 PySem.W.kitx_float I.cu True.intro e (λz=>nomatch z) h
 | @lst a k d=>
  cases (show u=Value.ref a from f)
  obtain⟨_,_,n,_,g⟩:=(show a8 X.prog X.w H s.heap a (.lst k)from I.a0 a _ d)
  exact Af1 Ao6 I.cu ⟨_,g,rfl⟩ e (λz=>nomatch z) h
 | @eu a B k d=>
  cases (show u=Value.ref a from f)
  obtain⟨_,_,_,n,_,g⟩:=(show a8 X.prog X.w H s.heap a (.eu B _)from I.a0 a _ d)
  exact Af1 Ao6 I.cu ⟨_,g,rfl⟩ e (λz=>nomatch z) h
 | @tup a k d=>
  cases (show u=Value.ref a from f)
  obtain⟨_,_,_,p⟩:=(show a8 X.prog X.w H s.heap a (.tup k)from I.a0 a _ d)
  obtain⟨o,g,l,_⟩:=p
  exact Af1 PySem.W.kitx_tuple I.cu ⟨o,g,l⟩ e (λz=>nomatch z) h
 | @dK a j d=>
  cases (show u=Value.ref a from f)
  obtain⟨_,_,N,_,p⟩:=(show a8 X.prog X.w H s.heap a (.dK j)from I.a0 a _ d)
  obtain⟨o,D,w,g,l,_⟩:=p
  exact Af1 PySem.W.kitx_dict I.cu ⟨o,g,l.1⟩ e (λz=>nomatch z) h
 | @dT a j d=>
  cases (show u=Value.ref a from f)
  obtain⟨_,_,k,_,o,D,w,g,l,_⟩:=(show a8 X.prog X.w H s.heap a (.dT j)from I.a0 a _ d)
  exact Af1 PySem.W.kitx_dict I.cu ⟨o,g,l.1⟩ e (λz=>nomatch z) h
 | @ins a C M fs d r F G m v=>
  cases (show u=Value.ref a from f)
  obtain⟨L,O,_⟩:=JS I.a0 d
  obtain⟨K,J,_⟩:=O.look
  exact Af1 (PySem.W.kitx_own (r.get _) r.hd F G m v) I.cu J e (λz=>nomatch z) h
end
structure bg (k:Nat) (A:Around):Prop where
 hd:A.handled=y0
 dp:A.depth+k+5<recursionLimit
 un:A.units+16*k+200<cLine
def bg.mono (r:bg k A) (h:j<=k):bg j A:=⟨r.hd,by have:=r.dp;lia,by have:=r.un;lia⟩
theorem bg.deeper (r:bg (k+1) A) (env):bg k (A.deeper env):=
 ⟨r.hd,by have:=r.dp;show A.depth+1+k+5<_;lia,by have:=r.un;show A.units+3+16*k+200<_;lia⟩
theorem bg.in1 (r:bg (k+1) A):bg k A.in1:=
 ⟨r.hd,by have:=r.dp;lia,by have:=r.un;lia⟩
def L6 {A:Around}:(A.under (.builtin "type.__call__" ⟨.ref C::us,kw⟩)).depth=A.depth+1:=by
 first | rfl | simp [guardIds]
def BX {A:Around}:(A.under (.builtin "type.__call__" ⟨.ref C::us,kw⟩)).units=A.units+1:=by
 first | rfl | simp [Code.isFrame]
def bg.make (r:bg (k+1) A) (C) (us) (kw):bg k (A.under (.builtin "type.__call__" ⟨.ref C::us,kw⟩)):=
 ⟨r.hd,by have:=r.dp;rw [L6];lia,by have:=r.un;rw [BX];lia⟩
theorem bg.depth (r:bg k A):A.depth<recursionLimit:=by have:=r.dp;lia
def mH:TA:=λ_ H Q=>Q [] H
def oD (a:TE) (tr:TA):TA:=λU H Q=>a U H λx H1=>tr U H1 λxs H2=>Q (x::xs) H2
section
variable {X:Cx}{e:Expr}{es:List Expr}{te:TE}{t:TA}{pos:Pos}
def Wn:PA X [] mH:=λ_ _ _ _ H Q I h=>Calls.spliced_nil ⟨[],H,I,.nil,h⟩
def Xf (m:PE X e te) (n:PA X es t) (c:starEach (e::es) X.env=(k9,eval e X.env)::starEach es X.env:=by rfl):PA X (e::es) (oD te t):=by
 intro b a s U H Q I h
 rw [c]
 exact Calls.spliced_cons (aO (m a s U H _ I h) λu p ⟨x,i,o,k,g⟩=> aO (n b a p U i _ o g) λr v ⟨d,f,j,q,l⟩=>⟨x::d,f,j,.cons k q,l⟩)
def Io (t:TA):TE:=λU H Q=>t U H λxs H1=>xs.length<=sizeLine/\ ∀p,H1 p=y0->Q (.ref p) (aP H1 p (.tup xs))
def BW (t:TA):TE:=λU H Q=>t U H λxs H1=>xs.length<=sizeLine/\ ∀p,H1 p=y0->Q (.ref p) (aP H1 p (.lst xs))
def IZ {x1}(h:PA X es t):PE X (.Tuple es x1 pos) (Io t):=by
 intro a s U H Q I g
 refine wpAny_Tuple_spliced (aO (h pos a s U H _ I g) λf d ⟨j,i,c,r,z,q⟩=>⟨by rw [← r.length];exact z,?_⟩)
 refine⟨.ref d.heap.objs.size,aP i d.heap.objs.size _,c.laid (λb u e=>Ab2 _ e) (Aa9 _) ?_,rfl,q _ (c.a0.fresh (Aa9 _))⟩
 exact⟨z,f,r,⟨_,Ac7 _ rfl,rfl,rfl,_,rfl⟩⟩
def BH (h:PA X es t):PE X (.List es pos) (BW t):=by
 intro a s U H Q I g
 refine wpAny_List_spliced (aO (h pos a s U H _ I g) λf d ⟨j,i,c,r,z,q⟩=>⟨by rw [← r.length];exact z,?_⟩)
 refine⟨.ref d.heap.objs.size,aP i d.heap.objs.size _,c.laid (λb u e=>Ab2 _ e) (Aa9 _) ?_,rfl,q _ (c.a0.fresh (Aa9 _))⟩
 exact⟨z,f,0,r,Ac7 _ rfl⟩
end
abbrev Sp:=List V->Hp->VK->XK->Prop
abbrev gu:=List Env->Hp->Shared->XK->Value->Shared->Prop
structure dt (P:Program) (w:World) (K:Aa8) (mg:Str->Option Value) (base:Heap) (A:Around) (outer:List Env) (s:Shared) (H:Hp):Prop where
 frames:A.frames=k0 outer
 mod:Mod K mg base
 bs: ∀b o,base.get? b=k0 o->s.heap.get? b=k0 o/\H b=y0
 hJ:base.objs.size<=s.heap.objs.size
 de:s.heap.FunFrames base outer
 kJ: ∀b∈fy outer,H b=y0
 a0:cY P w H s.heap
 bare:AllBare s.gens
def CE (a:List Env) (P:Program) (w:World) (H:Hp) (s:Shared) (Q:VK) (u:Value) (b:Shared):Prop:=
 ∃v H',b.os=s.os/\AllBare b.gens/\Un (fy a) [] H H' s.heap b.heap/\cY P w H' b.heap/\RelV v u/\Q v H'
def CR (c:gu) (a:List Env) (P:Program) (w:World) (H:Hp) (s:Shared) (Q:VK) (E:XK) (r:Result) (b:Shared):Prop:=
 match r with
 | .ok (.ret u)=>CE a P w H s Q u b
 | .ok _=>False
 | .error e=>c a H s E e b
structure XG (P:Program) (w:World) (K:Aa8) (mg:Str->Option Value) (base:Heap) (CX:gu) (k:Nat) (f:Addr) (fd:FuncData) (ps:List Str) (sp:Sp):Prop where
 len: ∀vs H Q E,sp vs H Q E->vs.length=ps.length
 run: ∀(A:Around) (outer:List Env) (s:Shared) (H:Hp) (args:Args) (us:List Value) (vs:List V) (Q:VK) (E:XK),bg k A->dt P w K mg base A outer s H->BindsTo s fd args (ps.zip us)->Vals vs us->sp vs H Q E →
  codeAny (model P w) A (.call (.ref f) args) (CR CX outer P w H s Q E) s
def dt.make {K:Aa8}(e:dt P w K mg base A outer s H) (C:Addr) (a:List Value) (b:List (Str×Value)):
 dt P w K mg base (A.under (.builtin "type.__call__" ⟨.ref C::a,b⟩)) outer s H:=⟨by first | exact e.frames | (simpa [pushEnvs]using e.frames),e.mod,e.bs,e.hJ,e.de,e.kJ,e.a0,e.bare⟩
theorem dt.in1 {K:Aa8}(e:dt P w K mg base A outer s H):
 dt P w K mg base A.in1 outer s H:=⟨e.frames,e.mod,e.bs,e.hJ,e.de,e.kJ,e.a0,e.bare⟩
section
variable {X:Cx}{pins:List (Addr×Obj)}{U:St}{H:Hp}{s s':Shared}
def Inv.iE (I:Inv X pins U H s):dt X.prog X.w X.K X.mg X.base X.A X.stack s H:=
 ⟨I.ok.frames,I.ok.mod,I.bs,Ab5 I.ok.hJ I.sz,I.stack,I.eZ,I.a0,I.bare⟩
def Inv.after (I:Inv X pins U H s) (h:CE X.stack X.prog X.w H s Q u s'):EP X pins U Q u s':=by
 obtain⟨v,f,i,a,un,e,r,q⟩:=h
 obtain⟨j,g,d,t,c⟩:=s'
 obtain rfl:c=s.os:=i
 exact⟨v,f,I.call un e a (λb z=>absurd z (by simp)),r,q⟩
end
def uF (b:Sp) (a:List V) (E:XK) (t:TA):TE:=λU H Q=>t U H λc H1=>b (c++a) H1 Q E
def A8 (C:Addr) (m:Str) (c:Sp) (b:List V) (E:XK) (e:TE) (t:TA):TE:=λU H Q=>e U H λx H1=> ∃a dx fs,x= .ref a/\H1 a=k0 (.ins C dx fs)/\fs.lookup m=y0 ∧
 t U H1 λd H2=>c (x::(d++b)) H2 Q E
def M8 (C:Addr) (b:Sp) (a:List V) (E:XK) (t:TA):TE:=λU H Q=>t U H λc H1=> ∀x dx,H1 x=y0->H1 dx=y0->dx≠x →
 b (.ref x::(c++a)) (aP (aP H1 dx (.own x)) x (.ins C dx [])) (λv H2=>v= .au/\Q (.ref x) H2) E
def Binds (K:Aa8) (b:FuncData) (ps:List Str) (ds:List Value):Prop:=
 ∀(s:Shared) (a:List Value),K.In s.heap->(a++ds).length=ps.length->BindsTo s b ⟨a,[]⟩ (ps.zip (a++ds))
def Binds.all {K:Aa8}(h: ∀i:List Value,i.length=ps.length->bindArgs fd ⟨i,[]⟩=pure (ps.zip i)):Binds K fd ps []:=λs i _ a=>by
 rw [Ae3]at a ⊢
 exact .of_eq (h i a)
def wG (a:gu) (X:Cx) (E:XK):Prop:= ∀(pins:List (Addr×Obj)) (U:St) (H:Hp) (s:Shared) (e:Value) (s':Shared),Inv X pins U H s->a X.stack H s E e s'->X.xe e s'
section
variable {X:Cx}{CX:gu}{k:Nat}{f C:Addr}{fd:FuncData}{ps:List Str}{sp:Sp}{dvs:List V}{ds:List Value}{E:XK}{x m:Str}{p pos apos:Pos}{e o:Expr}{es:List Expr}{ta:TE}{t:TA}
def pM (F:XG X.prog X.w X.K X.mg X.base CX k f fd ps sp) (d:bg k X.A) (c:Binds X.K fd ps ds) (m:Vals dvs ds) (g:wG CX X E)
 (I:Inv X pins U H s) (r:Vals vs us) (h:sp (vs++dvs) H Q E):wpAny (model X.prog X.w) X.A (call (.ref f) us) (EP X pins U Q) X.xe s:=by
 have b:=r.append m
 have i:(us++ds).length=ps.length:=by rw [← b.length];exact F.len _ _ _ _ h
 refine wpAny_call (codeAny_mono (F.run X.A X.stack s H ⟨us,[]⟩ _ _ Q E d I.iE (c s us I.cu i) b h) λr l a=> ?_)
 cases r with
 | error e=>exact g pins U H s e l I a
 | ok j=>
  cases j with
  | ret u=>exact I.after a
  | next=>exact False.elim a
  | brk=>exact False.elim a
  | cont=>exact False.elim a
def Iz (F:XG X.prog X.w X.K X.mg X.base CX k f fd ps sp) (n:bg k X.A) (i:Gl X x) (g:X.mg x=k0 (.ref f)) (j:Ah5 X.K (.ref f)=u0) (m:Binds X.K fd ps ds) (v:Vals dvs ds) (o:wG CX X E)
 (l:PA X (e::es) t) (b:(x==("__debug__" :Str))=false:=by decide) (u:starEach (e::es) X.env=(false,eval e X.env)::starEach es X.env:=by rfl) (c:(backTo pos (starEach es X.env)).any (·.1)=false:=by rfl):
 PE X (.Call (.Name x p) (e::es) [] pos) (uF sp dvs E t):=by
 intro a s U H Q I h
 exact wpAny_Call_Name_kw (XU I i g (Ao0 I.ok.mod.lu j (aO (l pos a s U H _ I h) λw A ⟨z,y,d,r,q⟩=>⟨d.cu,pM F n m v o d r q⟩) u c) b)
def AA (F:XG X.prog X.w X.K X.mg X.base CX k f fd ps sp) (e:bg k X.A) (j:Gl X x) (g:X.mg x=k0 (.ref f)) (c:Ah5 X.K (.ref f)=u0) (d:Binds X.K fd ps ds) (l:Vals dvs ds) (i:wG CX X E)
 (a:(x==("__debug__" :Str))=false:=by decide):PE X (.Call (.Name x p) [] [] pos) (uF sp dvs E mH):=by
 intro b s U H Q I h
 exact wpAny_Call_Name_kw (XU I j g (PySem.W.callWith_K0 I.cu c (pM F e d l i I .nil h)) a)
def BQ (K:PE X o ta) (c:d0 X.K C) (i:l3 X.K C m f) (F:XG X.prog X.w X.K X.mg X.base CX k f fd ps sp) (G:bg k X.A) (B:Binds X.K fd ps ds) (N:Vals dvs ds) (J:wG CX X E) (A:PA X (e::es) t)
 (d:starEach (e::es) X.env=(k9,eval e X.env)::starEach es X.env:=by rfl) (g:(backTo pos (starEach es X.env)).any (·.1)=false:=by rfl)
 (z:eval (.Call (.Attribute o m apos) (e::es) [] pos) X.env=(do
   let L ←eval o X.env
   standAt apos.atName
   let (f,first) ←holding [L] (getMethod L m pl)
   callWith pos f first (backTo pos (starEach (e::es) X.env)) (backToKw pos (keywordEach [] X.env))):=by rfl):
 PE X (.Call (.Attribute o m apos) (e::es) [] pos) (A8 C m sp dvs E ta t):=by
 intro b s U H Q I h
 refine PySem.W.methodCall_KW (aO (K b s U H _ I h) λu M ⟨x,w,p,D,a,S,fs,ex,v,l,q⟩=> ?_) z
 subst ex
 obtain rfl:u=Value.ref a:=D
 exact K9 p v c i l (Ao0 I.ok.mod.lu i.kp (aO (A pos b M U w _ p q) λO P ⟨n,R,j,r,y⟩=>⟨j.cu,pM (vs:= .ref a::n) F G B N J j (.cons rfl r) y⟩) d g)
structure Mk (K:Aa8) (C f:Addr):Prop where
 makes:PySem.W.makesIn K C=u0
 init:PySem.W.findIn K (.ref C) "__init__" =some (some (.ref f))
 fn:PySem.W.isFn K (.ref f)=u0
 kp:Ah5 K (.ref C)=u0
def E9 (M:Mk X.K C f) (F:XG X.prog X.w X.K X.mg X.base CX k f fd ps sp) (p:bg (k+1) X.A) (o:Binds X.K fd ps ds) (w:Vals dvs ds)
 (q:wG CX X E) (I:Inv X pins U H s) (r:Vals vs us)
 (h: ∀x dx,H x=y0->H dx=y0->dx≠x->sp (.ref x::(vs++dvs)) (aP (aP H dx (.own x)) x (.ins C dx [])) (λv H2=>v= .au/\Q (.ref x) H2) E):
 wpAny (model X.prog X.w) X.A (call (.ref C) us) (EP X pins U Q) X.xe s:=by
 have d:=h _ s.heap.objs.size (I.a0.fresh (Ag4 _)) (I.a0.fresh (Aa9 _)) (Ac6 (Ag _))
 have b:=Inv.made (C:=C) I
 have c:Vals (V.ref (s.heap.objs.size+1)::(vs++dvs)) _:= .cons rfl (r.append w)
 have t:=by
  have e:=c.length
  rw [F.len _ _ _ _ d]at e
  exact e.symm
 refine wpAny_call (K3 I.cu M.makes M.init (beq_iff_eq.mp M.fn) (codeAny_mono (F.run _ X.stack _ _ ⟨Value.ref _::us,[]⟩ _ _ _ E (p.make C us [])
  (b.iE.make C us []) (o _ _ b.cu t) c d) λr n a=> ?_))
 cases r with
 | error e=>exact q pins U _ _ e n b a
 | ok i=>
  cases i with
  | ret u=>
   obtain⟨v,m,j,rv,l,g⟩:=b.after a
   subst l
   exact⟨rv,⟨V.ref _,m,j,rfl,g⟩⟩
  | next=>exact False.elim a
  | brk=>exact False.elim a
  | cont=>exact False.elim a
def AX (M:Mk X.K C f) (F:XG X.prog X.w X.K X.mg X.base CX k f fd ps sp) (m:bg (k+1) X.A) (i:Gl X x) (g:X.mg x=k0 (.ref C)) (l:Binds X.K fd ps ds) (u:Vals dvs ds) (n:wG CX X E)
 (j:PA X (e::es) t) (b:(x==("__debug__" :Str))=false:=by decide) (o:starEach (e::es) X.env=(false,eval e X.env)::starEach es X.env:=by rfl) (c:(backTo pos (starEach es X.env)).any (·.1)=false:=by rfl):
 PE X (.Call (.Name x p) (e::es) [] pos) (M8 C sp dvs E t):=by
 intro a s U H Q I h
 exact wpAny_Call_Name_kw (XU I i g (Ao0 I.ok.mod.lu M.kp (aO (j pos a s U H _ I h) λv z ⟨y,w,d,r,q⟩=>⟨d.cu,E9 M F m l u n d r q⟩) o c) b)
end
def PK (X:Cx) (a:List Keyword) (t:TA):Prop:=
 ∀(pos:Pos) (pins:List (Addr×Obj)) (s:Shared) (U:St) (H:Hp) (Q:List V->Hp->Prop),Inv X pins U H s->t U H Q->wpAny (model X.prog X.w) X.A (evalAll ((backToKw pos (keywordEach a X.env)).map (·.2))) (AP X pins U Q) X.xe s
section
variable {X:Cx}{CX:gu}{k:Nat}{f C:Addr}{fd:FuncData}{ps ks:List Str}{sp:Sp}{E:XK}{x m:Str}{p pos apos kpos:Pos}{e o:Expr}{es:List Expr}{kws:List Keyword}{te ta:TE}{t tk:TA}{nm:Option Str}
def IF:PK X [] mH:=λ_ _ _ _ H Q I h=>wpAny_evalAll_nil ⟨[],H,I,.nil,h⟩
def Bd (l:PE X e te) (m:PK X kws t):PK X (⟨nm,e,kpos⟩::kws) (oD te t):=by
 intro b a s U H Q I h
 exact wpAny_evalAll_cons (wpAny_bind (aO (l a s U H _ I h) λu o ⟨x,g,n,j,f⟩=>wpAny_bind (wpAny_standAt (wpAny_pure (aO (m b a o U g _ n f) λq r ⟨c,d,i,p,k⟩=>⟨x::c,d,i,.cons j p,k⟩)))))
structure Nn (K:Aa8) (fd:FuncData) (ps ks:List Str) (g:List Value->List Value->List Value) (gV:List V->List V->List V):Prop where
 to: ∀(s:Shared) (us ws:List Value),K.In s.heap->(g us ws).length=ps.length->BindsTo s fd ⟨us,ks.zip ws⟩ (ps.zip (g us ws))
 rel: ∀ {vs:List V}{us:List Value}{zs:List V}{ws:List Value},Vals vs us->Vals zs ws->Vals (gV vs zs) (g us ws)
variable {g:List Value->List Value->List Value}{gV:List V->List V->List V}
end
structure jD (N P:List Str) (sc:Scope):Prop where
 kind:sc.kind= .function
 co:sc.isCoroutine=k9
 gen:sc.isGenerator=k9
 nd:N.Nodup
 pre:N.take P.length=P
 par: ∀x∈P,sc.names.lookup x=k0 .local\/sc.names.lookup x=k0 .cell
 iG: ∀y∈sc.names,y.2≠ .free
theorem W3 {a:Str->Option NameKind}: ∀ {i}{m},(∀ v,(x,v)∉i)->bindL a i m x=m x
 | [],_,_=>rfl
 | (n,v)::r,m,h=>by
  unfold bindL
  rw [W3 λw b=>h w (Aa2 _ b)]
  split
  .have:x≠n:=by rintro rfl;exact h v Aa5
   simp [this]
  .rfl
theorem Z4 {a:Str->Option NameKind}: ∀ {i}{m},(∀ v,(x,v)∉i)->bindC a i m x=m x
 | [],_,_=>rfl
 | (n,v)::r,m,h=>by
  unfold bindC
  rw [Z4 λw b=>h w (Aa2 _ b)]
  split
  .rfl
  .have:x≠n:=by rintro rfl;exact h v Aa5
   simp [this]
theorem XX {a:Str->Option NameKind}: ∀ {P:List Str}{vs}{i:Nat}{m},P.Nodup->P[i]? =k0 x->vs[i]? =k0 v->a x=k0 .local →
 bindL a (P.zip vs) m x=k0 v
 | [],_,_,_,_,h,_,_=>by simp at h
 | _::_,[],_,_,_,_,h,_=>by simp at h
 | p::P,w::vs,0,m,e,c,b,d=>by
  simp at c b;subst c;subst b
  show bindL a ((p,w)::P.zip vs) m p=_
  unfold bindL
  rw [W3 λv f=>(Ai.mp e).1 (List.of_mem_zip f).1,if_pos d]
  simp
 | p::P,w::vs,i+1,m,e,c,b,d=>by
  unfold bindL
  exact XX (Ai.mp e).2 (by simpa using c) (by simpa using b) d
theorem wZ {a:Str->Option NameKind}: ∀ {P:List Str}{vs}{i:Nat}{m},P.Nodup->P[i]? =k0 x->vs[i]? =k0 v->a x≠k0 .local →
 bindC a (P.zip vs) m x=k0 v
 | [],_,_,_,_,h,_,_=>by simp at h
 | _::_,[],_,_,_,_,h,_=>by simp at h
 | p::P,w::vs,0,m,e,c,b,d=>by
  simp at c b;subst c;subst b
  show bindC a ((p,w)::P.zip vs) m p=_
  unfold bindC
  rw [Z4 λv f=>(Ai.mp e).1 (List.of_mem_zip f).1,if_neg d]
  simp
 | p::P,w::vs,i+1,m,e,c,b,d=>by
  unfold bindC
  exact wZ (Ai.mp e).2 (by simpa using c) (by simpa using b) d
def start (N:List Str) (vs:List V):St:=vs.map k0++Ab (N.length-vs.length) y0
noncomputable def hC (CX:gu) (P:Program) (w:World) (K:Aa8) (mg:Str->Option Value) (base:Heap) (N:List Str) (k7:Str) (scope:Scope) (f:Addr) (cd:Value) (A:Around) (outer:List Env) (s:Shared) (H:Hp) (E:XK):Cx where
 prog:=P
 w:=w
 K:=K
 mg:=mg
 base:=base
 A:=A.deeper (envOfC k7 scope s.heap.objs.size f cd)
 N:=N
 s₀:=s
 H₀:=H
 env:=envOfC k7 scope s.heap.objs.size f cd
 outer:=outer
 stack:=envOfC k7 scope s.heap.objs.size f cd::outer
 ex:= []
 calm:=u0
 fn:=λ_=>u0
 pn:= []
 xe:=λe s'=>wpAny (model P w) (A.deeper (envOfC k7 scope s.heap.objs.size f cd)) (leaving (envOfC k7 scope s.heap.objs.size f cd) e) (λ_ s''=>CX outer H s E e s'') (λe' s''=>CX outer H s E e' s'') s'
def vU {sc:Scope}(h:sc.names.lookup x=k0 .cell): ∃c,(cellsFrom n sc.names []).lookup x=k0 c:=by
 exact Ah9.mp (Am8 sc.names n [] (.inl h))
def LR {K:Aa8}
 (S:jD N ps scope) (hd:A.handled=y0) (e0:dt P w K mg base A outer s H) (hl:vs.length=ps.length) (r:Vals vs us)
 (x:InCallC s s.heap.objs.size (bindL (envOfC k7 scope s.heap.objs.size f cd).kindOf (ps.zip us) λ_=>y0) (cellsFrom (s.heap.objs.size+1) scope.names []) (bindC (envOfC k7 scope s.heap.objs.size f cd).kindOf (ps.zip us) λ_=>y0) s1):
 Inv (hC CX P w K mg base N k7 scope f cd A outer s H E) [] (start N vs) H s1:=by
 have hpl:ps.length<=N.length:=by have:=congrArg List.length S.pre;rw [Af6]at this;lia
 obtain⟨h1,tk,rfl,hk⟩:=x.done
 have noA: ∀b:Addr,b∉(hC CX P w K mg base N k7 scope f cd A outer s H E).ex:=λb z=>absurd (show b∈([]:List Addr)from z) (by simp)
 refine⟨⟨e0.mod,S.kind,rfl,rfl,Aa9 _,λy z c h1 h2=> ?_,λy hy=> ?_,λy c _ h=> ?_,λ_=>hd,Around.frames_deeper e0.frames,.inr ⟨rfl,rfl⟩,λb z=>absurd z (noA b),e0.bs,e0.hJ,λb _ _=>noA b,λb z=>absurd z (noA b),e0.de,e0.kJ⟩,
  rfl,e0.bare,Un.kept hk,⟨_,x.toInCall.ns,λi y v h1 h2 h3=> ?_⟩,λy c h=>⟨_,x.cell y c h⟩,e0.a0.fresh (Aa9 _),λy c h=> ?_,λp hp=>absurd (show p∈([]:List _)from hp) (by simp),e0.a0.kept hk,?_⟩
 .exact name_of_addr x.apart (PySem.mem_of_lookup h1) (PySem.mem_of_lookup h2)
 .have hy:scope.names.lookup y=k0 .cell\/scope.names.lookup y=k0 .free:=hy
  obtain hy | hy:=hy
  .exact vU hy
  .exact absurd rfl (S.iG _ (PySem.mem_of_lookup hy))
 .exact Ag1 (x.above y c (PySem.mem_of_lookup h))
 .have hi:i<vs.length:=by
   unfold start at h2
   by_cases hi:i<vs.length
   .exact hi
   .rw [Ad9 (by simpa using hi)]at h2
    rw [Ai2]at h2
    split at h2<;>cases h2
  have ha:vs[i]? =k0 v:=by
   unfold start at h2
   rw [Ac9 (by simpa using hi),Ac]at h2
   cases e:vs[i]? with
   | none=>rw [e]at h2;cases h2
   | some a=>rw [e]at h2;cases h2;rfl
  obtain⟨u,hu,rv⟩:=r.get ha
  have hp:ps[i]? =k0 y:=by
   rw [← S.pre,Am7 (by lia)];exact h1
  have ndP:ps.Nodup:=by rw [← S.pre];exact S.nd.sublist (List.take_sublist _ _)
  refine⟨u,rv,?_⟩
  rcases S.par y (Ac4 hp)with k | k
  .exact .inl ⟨k,XX ndP hp hu k⟩
  .obtain⟨c,e⟩:=vU (n:=s.heap.objs.size+1) k
   refine .inr ⟨.inl k,c,e,?_⟩
   have q:=x.cell y c e
   rw [wZ ndP hp hu (by show scope.names.lookup y≠_;rw [k];decide)]at q
   exact q
 .exact e0.a0.fresh (Ag1 (x.above y c (PySem.mem_of_lookup h)))
 .unfold start
  show _=N.length
  rw [Aa6,Aa,Ae2]
  lia
def Er {K:Aa8}{dV kV doc pm cdv ct oc:Value}
 (lk:K.lookup f=k0 ⟨oc,od,.func (PySem.W.fnOf name k7 params body scope dV kV doc pm an cdv ct),osl⟩) (hcd:PySem.W.codeIn K cdv k7=u0) (S:jD N ps scope)
 (len: ∀vs H Q E,sp vs H Q E->vs.length=ps.length)
 (hbody: ∀ A outer s H vs Q E,bg k (A.deeper (envOfC k7 scope s.heap.objs.size f cdv))->sp vs H Q E →
   ∃t,dk (hC CX P w K mg base N k7 scope f cdv A outer s H E) body t/\t { nx:=λ_ H'=>Q .au H',rt:=Q } (start N vs) H):
 XG P w K mg base CX (k+1) f (PySem.W.fnOf name k7 params body scope dV kV doc pm an cdv ct) ps sp:=by
 refine⟨len,λA outer s H args us vs Q E hr e0 hb r hsp=> ?_⟩
 have KX:=e0.mod.lu.keeps λb o e=>(e0.bs b o e).1
 have hkind: ∀y∈ps.zip us,scope.names.lookup y.1=k0 .local\/(scope.names.lookup y.1=k0 .cell/\((cellsFrom (s.heap.objs.size+1) scope.names []).lookup y.1).isSome=u0):=by
  rintro ⟨n,v⟩ hy
  obtain q | q:=S.par n (List.of_mem_zip hy).1
  .exact .inl q
  .exact .inr ⟨q,Am8 _ _ _ (.inl q)⟩
 refine codeAny_call_function hr.depth (KX _ _ lk) rfl S.co S.gen rfl (PySem.W.codeRec_of KX hcd) (hb _ _ _ _ (wpAny_newFunctionEnv_cells S.kind hkind λenv he s1 x=> ?_))
 subst he
 refine⟨(e0.mod.nolimit.keeps λb o e=>(e0.bs b o e).1).keeps x.toInCall.keep,codeAny_func ?_⟩
 obtain⟨t,ht,hq⟩:=hbody A outer s H vs Q E (hr.deeper _) hsp
 have I:Inv (hC CX P w K mg base N k7 scope f cdv A outer s H E) [] _ H s1:=LR S hr.hd e0 (len _ _ _ _ hsp) r x
 refine wpAny_mono (ht [] s1 _ H _ I hq) (λfl s' hs=> ?_) λe s' hs=>hs
 have fin: ∀ {U'}{H'}{v}{u},Inv (hC CX P w K mg base N k7 scope f cdv A outer s H E) [] U' H' s'->RelV v u->Q v H'->CE outer P w H s Q u s':=
  λ{U' H' v u} J rv q=>⟨v,H',J.os,J.bare,J.base,J.a0,rv,q⟩
 cases fl with
 | ret u=>
  obtain⟨v,U',H',J,rv,q⟩:=hs
  exact fin J rv q
 | next=>
  obtain⟨U',H',J,q⟩:=hs
  exact fin (v:=V.au) J rfl q
 | brk=>
  obtain⟨_,_,_,q⟩:=hs
  exact False.elim q
 | cont=>
  obtain⟨_,_,_,q⟩:=hs
  exact False.elim q
section
variable {X:Cx}{x:Str}{p pos:Pos}{e:Expr}{es:List Expr}{t:TA}{id T:String}{r:List V->Hp->VK->Prop}
def pQ (r:List V->Hp->VK->Prop) (t:TA):TE:=λU H Q=>t U H λa H1=>r a H1 Q
def Qn (w:ju X (.builtin id) r) (g:Gl X x) (f:X.mg x=none) (i:bootBuiltins x=some (.builtin id)) (n:PA X (e::es) t) (o:x≠ "__name__" :=by decide) (b:(x==("__debug__" :Str))=false:=by decide)
 (u:starEach (e::es) X.env=(k9,eval e X.env)::starEach es X.env:=by rfl) (c:(backTo pos (starEach es X.env)).any (·.1)=false:=by rfl):PE X (.Call (.Name x p) (e::es) [] pos) (pQ r t):=by
 intro a s U H Q I h
 exact wpAny_Call_Name_kw (qB I g f i (PyProof.Rows.callWith_builtin1 (aO (n pos a s U H _ I h) λd v ⟨m,k,q,l,j⟩=>w a v U k m d Q q l j) u c) o b)
def zz (w:ju X (.type T) r) (g:Gl X x) (f:X.mg x=none) (i:bootBuiltins x=some (.type T)) (n:PA X (e::es) t) (o:x≠ "__name__" :=by decide) (b:(x==("__debug__" :Str))=false:=by decide)
 (u:starEach (e::es) X.env=(k9,eval e X.env)::starEach es X.env:=by rfl) (c:(backTo pos (starEach es X.env)).any (·.1)=false:=by rfl):PE X (.Call (.Name x p) (e::es) [] pos) (pQ r t):=by
 intro a s U H Q I h
 exact wpAny_Call_Name_kw (qB I g f i (PyProof.Rows.callWith_type1 (aO (n pos a s U H _ I h) λd v ⟨m,k,q,l,j⟩=>w a v U k m d Q q l j) u c) o b)
end
end L2
namespace HT
open PySem PyProof.Rows
section
variable {prog:Program}{w:World}{A:Around}{E:Value->Shared->Prop}{s:Shared}
def gR (u:IsTup s.heap t vs.toArray) (v:IsTup s.heap b ws.toArray) (m:vs≠ [])
 (h1:ws= []->Q (.ref t) s) (x:ws≠ []->Q (.ref s.heap.objs.size) { s with heap:=s.heap.push { cls:= .type "tuple",data:= .seq (vs++ws).toArray } })
 (q:vs.length+ws.length<=sizeLine):wpAny (model prog w) A (binaryOp .Add (.ref t) (.ref b)) Q E s:=by
 obtain⟨⟨j,dd,i,sl⟩,f,r,n,y⟩:=id u
 obtain⟨⟨p,d,g,c⟩,a,l,o,k⟩:=id v
 subst r y l k
 have e:vs.toArray++ws.toArray=(vs++ws).toArray:=by simp
 by_cases h:ws= []
 .exact concat_meets ⟨_,f,rfl⟩ ⟨_,a,rfl⟩ noFill_tuple_add seq_tuple_add PySem.F.slot_tuple_add PySem.F.entry_tuple_add (PySem.F.args_tuple_add_2 _ _)
   (tuple_addW1 t b vs.toArray ws.toArray n o dd d sl c (by simpa using m) (by simp [h])) ⟨f,a,h1 h⟩
 .refine concat_meets ⟨_,f,rfl⟩ ⟨_,a,rfl⟩ noFill_tuple_add seq_tuple_add PySem.F.slot_tuple_add PySem.F.entry_tuple_add (PySem.F.args_tuple_add_2 _ _)
   (tuple_addW2 t b vs.toArray ws.toArray n o dd d sl c (by simpa using m) (by simp_all) (by simp_all)) ⟨f,a,?_⟩
  rw [e]
  exact x h
def aZ (n d:Nat):Option Int->Nat
 | none=>d
 | some v=>if v<0 then(v+(n:Int)).toNat else min v.toNat n
def Lj (n d) (b:d<=n) (o):aZ n d o<=n:=by
 cases o with
 | none=>exact b
 | some v=>
  show(if v<0 then(v+ n).toNat else min v.toNat n)<=n
  by_cases a:v<0
  .rw [if_pos a];lia
  .rw [if_neg a];exact Nat.min_le_right _ _
def rr (v) (n d:Nat):(if v<0 then max (v+(n:Int)) 0 else min v (n:Int))=((aZ n d (k0 v):Nat):Int):=by
 show(if v<0 then max _ 0 else min v n)=(((if v<0 then(v+ n).toNat else min v.toNat n)))
 by_cases a:v<0
 .simp only [if_pos a];lia
 .simp [if_neg a];lia
def Ii (b a) (n:Nat):Builtin.Slice.sliceAdjust b a 1 (n:Int)=(((aZ n 0 b:Nat):Int),((aZ n n a:Nat):Int)):=by
 have c: ¬(1<0):=by lia
 refine Prod.ext ?_ ?_
 .cases b with
  | none=>rfl
  | some v=>exact rr v n 0
 .cases a with
  | none=>rfl
  | some v=>exact rr v n n
def CA (i j:Nat):Builtin.Slice.slicePlaces (i:Int) (j:Int) 1=j-i:=by
 unfold Builtin.Slice.slicePlaces
 have a: 1>0:=by lia
 simp [Int.ediv_one]
 split<;>lia
def qO (p:IsPart v o) (h:Q o s):wpAny (model prog w) A (Builtin.Slice.slicePartIndex v) Q E s:=by
 cases p with
 | none=>exact slicePart_none h
 | int i t=>exact slicePart_int h
def bJ {a d:Option Int}{Q:Int×Int×Nat->Shared->Prop}(e:s.heap.IsSliceOf sl vl vu .none) (pl:IsPart vl a) (f:IsPart vu d)
 (h:Q (((aZ n 0 a:Nat):Int),1,aZ n n d-aZ n 0 a) s):wpAny (model prog w) A (Builtin.Slice.sliceApplied (.ref sl) (pure (n:Int))) Q E s:=by
 obtain⟨i,b,g,c⟩:=id e
 refine wpAny_bind (wpAny_bind (wpAny_field b c (x:=vl) rfl (wpAny_bind (wpAny_field b c (x:=vu) rfl (wpAny_bind (wpAny_field b c rfl (wpAny_pure (wpAny_bind (slicePart_none (wpAny_bind (qO pl (wpAny_bind (qO f (wpAny_bind (wpAny_pure ?_)))))))))))))))
 show wpAny _ _ (match Builtin.Slice.sliceAdjust a d 1 (n:Int)with | (a,d)=>pure (a,(1:Int),Builtin.Slice.slicePlaces a d 1)) _ _ s
 rw [Ii a d n]
 show wpAny _ _ (pure _) _ _ s
 rw [CA]
 exact wpAny_pure h
def Lm (xs:Array Value) (i k:Nat):((Aa3 k).filterMap λ(m:Nat)=>xs[((i:Int)+(m:Int)*1).toNat]?).toArray=((xs.toList.drop i).take k).toArray:=by
 have e:(λ(m:Nat)=>xs[(i+(m:Int)*1).toNat]?)=λm=>xs[i+m]? :=by
  funext m
  have:(i+(m:Int)*1).toNat=i+m:=by lia
  rw [this]
 rw [e]
 have:=pick_run xs i k
 rw [List.filterMap_map]at this
 have e2:((λx=>xs[x]?)∘λx=>i+x)=λm=>xs[i+m]? :=rfl
 rw [e2]at this
 rw [this]
def cE {a c:Option Int}(d:IsTup s.heap t u8) (j:s.heap.IsSliceOf sl vl vu .none) (pl:IsPart vl a) (n:IsPart vu c)
 (l: ¬(aZ u8.size 0 a=0/\aZ u8.size u8.size c=u8.size))
 (h:Q (.ref s.heap.objs.size) { s with heap:=s.heap.push { cls:= .type "tuple",data:= .seq ((u8.toList.drop (aZ u8.size 0 a)).take (aZ u8.size u8.size c-aZ u8.size 0 a)).toArray } })
 (m:u8.size<=sizeLine):wpAny (model prog w) A (getItem (.ref t) (.ref sl)) Q E s:=by
 have b:=by
  show((u8.toList.drop (aZ u8.size 0 a)).take (aZ u8.size u8.size c-aZ u8.size 0 a)).toArray.size<=sizeLine
  rw [Ac0,Af6,Af7,Ai0]
  lia
 have u:aZ u8.size u8.size c<=u8.size:=Lj _ _ (Aa9 _) c
 obtain⟨o,e,i,k⟩:=id j
 have f:s.TypeIs (.ref sl) "slice" :=⟨o,e,i⟩
 unfold getItem
 try with_reducible refine wpAny_holding ?_
 refine wpAny_bind (wpAny_sequenceKey d.typeIs rfl ?_)
 refine wpAny_bind (wpAny_callSpecial?_slot d.typeIs PyProof.Rows.slot_tuple_getitem
  (wpAny_call_entry PyProof.Rows.slot_tuple_getitem d.typeIs entry_tuple_getitem ?_ (args_tuple_getitem _ _)))
 show wpAny _ _ (Builtin.Tuple.tupleItemsOf _ >>= _) _ _ s
 refine wpAny_bind (tupleItemsOf_ d (wpAny_bind (wpAny_typeOf f (wpAny_bind (bJ j pl n ?_)))))
 have g: ¬((((aZ u8.size 0 a:Nat):Int)==0&&(1:Int)==1&&(aZ u8.size u8.size c-aZ u8.size 0 a)==u8.size)=u0):=by
  intro q
  rw [Aa1,Aa1]at q
  have p:=eq_of_beq q.1.1
  have r:=eq_of_beq q.2
  exact l ⟨by lia,by lia⟩
 show wpAny _ _ (if _=u0 then _ else _) _ _ s
 rw [if_neg g,Lm]
 first
  | exact wpAny_bind _
  | exact wpAny_bind (wpAny_newObj_type (wpAny_bind (wpAny_pure (wpAny_pure ⟨_,rfl,wpAny_pure h⟩))) b)
  | exact wpAny_bind _
  | exact wpAny_bind _
end
end HT
namespace L2
open PySem PySem.Spec PyProof.Rows
abbrev TO:=St->Hp->(Option Int->Hp->Prop)->Prop
def PO (X:Cx) (e:Option Expr) (t:TO):Prop:=
 ∀(pins:List (Addr×Obj)) (s:Shared) (U:St) (H:Hp) (Q:Option Int->Hp->Prop),Inv X pins U H s->t U H Q →
  wpAny (model X.prog X.w) X.A (evalPart e X.env) (λu s'=> ∃o H',Inv X pins U H' s'/\IsPart u o/\Q o H') X.xe s
def FN:TO:=λ_ H Q=>Q y0 H
def IW (t:TE):TO:=λU H Q=>t U H λx H1=> ∃i,x= .int i/\Q (k0 i) H1
section
variable {X:Cx}{e:Expr}{te:TE}{lo hi:Option Expr}{tl th:TO}{pos p2:Pos}
def rb:PO X y0 FN:=by
 intro a s U H Q I h
 exact wpAny_pure ⟨y0,H,I,.none,h⟩
def XQ (h:PE X e te):PO X (k0 e) (IW te):=by
 intro a s U H Q I b
 refine aO (h a s U H _ I b) ?_
 rintro u j ⟨x,d,g,f,c⟩
 obtain⟨i,rfl,q⟩:=c
 obtain⟨t,rfl⟩:=f
 exact⟨k0 i,d,g,.int i t,q⟩
def gx (X:Cx) (r:V->Option Int->Option Int->Hp->VK->Prop):Prop:=
 ∀(pins:List (Addr×Obj)) (s:Shared) (U:St) (H:Hp) (x:V) (v a b:Value) (lo hi:Option Int) (sl:Addr) (Q:VK),Inv X pins U H s->RelV x v->s.heap.IsSliceOf sl a b .none->IsPart a lo->IsPart b hi->r x lo hi H Q →
  ∃T id,typeLookup (.type T) "__getitem__" =pure (some (.builtin id))/\s.TypeIs v T/\wpAny (model X.prog X.w) X.A (getItem v (.ref sl)) (EP X pins U Q) X.xe s
def gx.or (h:gx X r) (h':gx X r'):gx X (λx lo hi H Q=>r x lo hi H Q\/r' x lo hi H Q):=by
 intro a s U H x v d e lo hi sl Q I f b pl c q
 obtain q | q:=q
 .exact h a s U H x v d e lo hi sl Q I f b pl c q
 .exact h' a s U H x v d e lo hi sl Q I f b pl c q
def Fb (r:V->Option Int->Option Int->Hp->VK->Prop) (d:TE) (c b:TO):TE:=λU H Q=>d U H λx H1=>c U H1 λl H2=>b U H2 λu a=>r x l u a Q
def WQ (E:gx X r) (J:PE X e te) (G:PO X lo tl) (n:PO X hi th):PE X (.Subscript e (.Slice lo hi y0 p2) pos) (Fb r te tl th):=by
 intro a s U H Q I h
 refine Subscript_ (aO (J a s U H _ I h) λv K ⟨x,y,F,A,p⟩=> wpAny_Slice (aO (G a K U y _ F p) λd i ⟨l,o,z,pl,B⟩=>aO (n a i U o _ z B) λf c ⟨u,g,w,t,j⟩=> wpAny_pure ?_))
 have C:Inv X a U g { c with heap:=c.heap.push { cls:= .type "slice",data:= .fields #[d,f,.none] } }:=w.kept fun b L q=>Heap.get?_push_of_some _ q
 obtain⟨T,id,m,D,k⟩:=E a { c with heap:=c.heap.push { cls:= .type "slice",data:= .fields #[d,f,.none] } } U g x v d f l u c.heap.objs.size Q C A (Heap.IsSliceOf.new ..) pl t j
 exact tail_any D m k (by with_unfolding_all rfl)
noncomputable def lJ (xs:List V) (a b:Option Int):List V:=(xs.drop (HT.aZ xs.length 0 a)).take (HT.aZ xs.length xs.length b-HT.aZ xs.length 0 a)
def QJ (xs) (lo hi):(lJ xs lo hi).length<=xs.length:=by
 unfold lJ
 rw [Af6,Af7]
 lia
def oh (K:Aa8):V->Option Int->Option Int->Hp->VK->Prop:=λx lo hi H Q=> ∃a xs,x= .ref a/\cj K H a xs ∧
 ¬(HT.aZ xs.length 0 lo=0/\HT.aZ xs.length xs.length hi=xs.length)/\ ∀p,H p=y0->Q (.ref p) (aP H p (.tup (lJ xs lo hi)))
def K4:gx X (oh X.K):=by
 intro f s U H x v u w m p sl Q I n j pl l h
 obtain⟨a,e,rfl,o,k,q⟩:=h
 cases n
 obtain⟨d,r,i,g⟩:=I.tuple o
 have c:d.toArray.size=e.length:=by rw [Ac0];exact r.length.symm
 refine⟨"tuple",_,PyProof.Rows.slot_tuple_getitem.lookup,i.typeIs,?_⟩
 refine HT.cE i j pl l (by rw [c];exact k) ?_ (by rw [c];exact g)
 rw [c]
 refine⟨.ref s.heap.objs.size,_,I.laid (λb t q=>Ab2 _ q) (Aa9 _) ?_,rfl,q _ (I.a0.fresh (Aa9 _))⟩
 exact⟨Ab5 (QJ e m p) g,_,(r.drop _).take _,c7.new _ _⟩
def HK (K:Aa8):R2:=λx y H Q=> ∃a b xs ys,x= .ref a/\y= .ref b/\cj K H a xs/\cj K H b ys/\xs≠ []/\xs.length+ys.length<=sizeLine ∧
 (ys= []->Q (.ref a) H)/\(ys≠ []-> ∀p,H p=y0->Q (.ref p) (aP H p (.tup (xs++ys))))
def Vals.dE (r:Vals xs us):us= []↔xs= []:=by
 cases r with
 | nil=>simp
 | cons _ _=>simp
def Me:b0 X (binaryOp .Add) (HK X.K):=by
 intro e s U H x y v u Q I n t h
 obtain⟨a,b,A,C,rfl,rfl,k,m,o,f,i,j⟩:=h
 cases n
 cases t
 obtain⟨l,d,p,_⟩:=I.tuple k
 obtain⟨g,c,r,_⟩:=I.tuple m
 refine HT.gR p r (λz=>o (d.dE.mp z)) (λz=>⟨.ref a,H,I,rfl,i (c.dE.mp z)⟩) (λz=> ?_) (by rw [← d.length,←c.length];exact f)
 refine⟨.ref s.heap.objs.size,_,I.laid (λb B q=>Ab2 _ q) (Aa9 _) ?_,rfl,j (λw=>z (c.dE.mpr w)) _ (I.a0.fresh (Aa9 _))⟩
 exact⟨by rw [Aa6];exact f,_,d.append c,c7.new _ _⟩
end
noncomputable def dv (n:Nat) (i:Int):Option Nat:=if 0<=i then(if i<n then k0 i.toNat else y0)else if -(n:Int)<=i then k0 (i+n).toNat else y0
def aQ {a:Type}(xs:List a) (i:Int):Option a:=(dv xs.length i).bind λj=>xs[j]?
def ug (h:dv n i=k0 j):seqIndex? i n=k0 j/\j<n/\ -(n:Int)<=i/\i<n:=by
 unfold dv at h
 by_cases b:0<=i
 .rw [if_pos b]at h
  by_cases a:i<n
  .rw [if_pos a]at h
   exact⟨by rw [seqIndex_of b a,(Ad6.inj h)],by lia,by lia,a⟩
  .rw [if_neg a]at h;cases h
 .rw [if_neg b]at h
  by_cases a: - n<=i
  .rw [if_pos a]at h
   exact⟨by rw [seqIndex_neg (by lia) a,(Ad6.inj h)],by lia,a,by lia⟩
  .rw [if_neg a]at h;cases h
def W8 (h:aQ xs i=k0 v): ∃j,seqIndex? i xs.length=k0 j/\xs[j]? =k0 v/\j<xs.length/\ -(xs.length:Int)<=i/\i<xs.length:=by
 unfold aQ at h
 cases e:dv xs.length i with
 | none=>rw [e]at h;cases h
 | some j=>
  rw [e]at h
  obtain⟨c,b,a,d⟩:=ug e
  exact⟨j,c,h,b,a,d⟩
def Zd {j:Nat}(h:xs[j]? =k0 v):aQ xs (j:Int)=k0 v:=by
 have a:=(Aa0.mp h).1
 have e:dv xs.length j=k0 j:=by
  unfold dv
  rw [if_pos (by lia),if_pos (by lia)];simp
 unfold aQ;rw [e];exact h
def sS (b:Expr):Prop:= ∀o i,subscripted b k9 o i=operate [o,i] (getItem o i)
def gr (X:Cx) (r:R2):Prop:=
 ∀(value a:Expr) (pins:List (Addr×Obj)) (s:Shared) (U:St) (H:Hp) (x y:V) (v u:Value) (Q:VK),Inv X pins U H s->RelV x v->RelV y u->r x y H Q →
  subscripted a k9 v u=operate [v,u] (getItem v u)->wpAny (model X.prog X.w) X.A (subscriptTail value a v u) (EP X pins U Q) X.xe s
def pB (X:Cx) (id:String) (r:V->List V->Hp->VK->Prop):Prop:=
 ∀(pins:List (Addr×Obj)) (s:Shared) (U:St) (H:Hp) (x:V) (xs:List V) (v:Value) (a:List Value) (Q:VK),Inv X pins U H s->RelV x v->Vals xs a->r x xs H Q →
  wpAny (model X.prog X.w) X.A (call (.builtin id) (v::a)) (EP X pins U Q) X.xe s
section
variable {X:Cx}{a b:Expr}{ta tb:TE}{pos:Pos}
def gr.or (h:gr X r) (h':gr X r'):gr X (λx y H Q=>r x y H Q\/r' x y H Q):=by
 intro a b c s U H x y v u Q I e f q d
 obtain q | q:=q
 .exact h a b c s U H x y v u Q I e f q d
 .exact h' a b c s U H x y v u Q I e f q d
def oN (l:gr X r) (i:PE X a ta) (j:PE X b tb) (d:sS b):PE X (.Subscript a b pos) (lH r ta tb):=by
 intro c s U H Q I h
 exact Subscript_ (nV i j I h λv u e x y f g k m q=>l a b c e U f x y v u Q g k m q (d _ _))
def sD (K:Aa8):R2:=λx y H Q=> ∃p xs i v,x= .ref p/\y= .int i/\bu K H p xs/\aQ xs i=k0 v/\Q v H
def sF (K:Aa8):R2:=λx y H Q=> ∃p xs i v,x= .ref p/\y= .int i/\cj K H p xs/\aQ xs i=k0 v/\Q v H
def tE:R2:=λx y H Q=> ∃z i c,x= .str z/\y= .int i/\z.length<=sizeLine/\aQ z.cps.toList i=k0 c/\Q (.str ⟨#[c]⟩) H
def gG:gr X (sD X.K):=by
 intro f d a s U H x y v u Q I o D h k
 obtain⟨p,F,i,z,rfl,rfl,m,B,q⟩:=h
 cases o
 obtain⟨t,rfl⟩:=D
 obtain⟨e,r,pl,J⟩:=I.list m
 obtain⟨j,b,C,G,E,n⟩:=W8 B
 obtain⟨w,ew,c⟩:=r.get C
 have A:=r.length
 have K:=jK
 have fin:EP X a U Q w s:=⟨z,H,I,c,q⟩
 by_cases l:0<=i
 .have g:=by
   rw [seqIndex_of l n]at b
   exact Ad6.inj b
  exact item_listR pl.isList l (by lia) (by rw [g];simpa using ew) fin k
 .have g:(i+ e.toArray.size).toNat=j:=by
   rw [seqIndex_neg (by lia) E]at b
   rw [Ac0,←A]
   exact Ad6.inj b
  exact subscriptTail_builtinR pl.isList.typeIs slot_list_getitem.lookup
   (wpAny_getItem_list_neg pl.isList (by lia) (by simp_all) (by lia) (by rw [g];simpa using ew) ⟨rfl,fin⟩) k
def aa:gr X (sF X.K):=by
 intro d c a s U H x y v u Q I l o h e
 obtain⟨p,A,i,z,rfl,rfl,f,m,q⟩:=h
 cases l
 obtain⟨t,rfl⟩:=o
 obtain⟨k,r,pl,D⟩:=I.tuple f
 obtain⟨j,g,n,B,F,C⟩:=W8 m
 obtain⟨w,ew,b⟩:=r.get n
 have E:=jK
 have fin:EP X a U Q w s:=⟨z,H,I,b,q⟩
 exact subscriptTail_builtinR pl.typeIs slot_tuple_getitem.lookup
  (getItem_tuple pl (by lia) (by lia) (by rw [Ac0,←r.length];exact g) (by simpa using ew) ⟨rfl,fin⟩) e
def ox:gr X tE:=by
 intro b a d s U H x y v u Q I k o h f
 obtain⟨z,i,c,rfl,rfl,A,m,q⟩:=h
 obtain⟨t,rfl⟩:=k
 obtain⟨r,rfl⟩:=o
 obtain⟨j,e,n,w,p,g⟩:=W8 m
 have l:z.cps.toList.length=z.length:=by simp [Str.length]
 rw [l]at e p g
 have B:=jK
 exact tail_any (typeIs_str s z t) slot_str_getitem.lookup (getItem_str (by
  have e1:u9 (i< -(2 ^ 63:Int))=false:=decide_eq_false (by lia)
  have e2:u9 (i>=2 ^ 63)=false:=decide_eq_false (by lia)
  rw [e1,e2,Bool.or_false]) (by rw [e];simpa using n) ⟨.str ⟨#[c]⟩,H,I.tok _,⟨_,rfl⟩,q⟩) f
def Bf (K:Aa8):R2:=λx y H Q=>sD K x y H Q\/sF K x y H Q\/tE x y H Q
def Bl:gr X (Bf X.K):=gG.or (aa.or ox)
def DH (a:List Value) (n j) (u):Obj.mapSeq (·.setIfInBounds j u) { cls:= .type "list",data:= .seq a.toArray n }= { cls:= .type "list",data:= .seq (a.set j u).toArray n }:=by
 simp [Obj.mapSeq]
theorem Inv.lst (I:Inv X pins U H s) (h:H p=k0 (.lst xs)):
 ∃ i n,Vals xs i/\s.heap.get? p=k0 { cls:= .type "list",data:= .seq i.toArray n }/\xs.length<=sizeLine:=by
 obtain⟨z,i,n,r,e⟩:=I.a0 p _ h
 exact⟨i,n,r,e,z⟩
def Inv.hZ {c a:List Value}(I:Inv X pins U H s) (h:H p=k0 (.lst xs))
 (i:s.heap.get? p=k0 { cls:= .type "list",data:= .seq c.toArray n }) (d:f { cls:= .type "list",data:= .seq c.toArray n }= { cls:= .type "list",data:= .seq a.toArray n' }) (r:Vals ys a) (j:ys.length<=sizeLine) (t):
 Inv X pins U (aP H p (.lst ys)) { s with heap:=s.heap.update p f,toks:=t }:=by
 have e:(s.heap.update p f).get? p=k0 { cls:= .type "list",data:= .seq a.toArray n' }:=by
  rw [Heap.get?_update_self f i (by rw [d]<;>rfl),d]
 refine I.write (by rw [h];trivial) (.inl rfl) (λb u g q=>(An0 _ _ (Ne.symm g)).trans q) ⟨_,e⟩ ?_
 exact⟨j,a,n',r,e⟩
def EK:V->V->V->Hp->(Hp->Prop)->Prop:=λo i v H Q=> ∃p xs k j,o= .ref p/\i= .int k/\H p=k0 (.lst xs)/\dv xs.length k=k0 j/\Q (aP H p (.lst (xs.set j v)))
def wT:pN X EK:=by
 intro e s U H o i v D F u Q I x m rv h
 obtain⟨p,B,k,j,rfl,rfl,l,A,q⟩:=h
 cases x
 obtain⟨t,rfl⟩:=m
 obtain⟨a,n,r,d,C⟩:=I.lst l
 obtain⟨b,G,w,z⟩:=ug A
 have y:=r.length
 have E:=jK
 have f:=
  I.hZ l d (DH a n j u) (r.set rv j) (by simp_all) s.toks
 by_cases g:0<=k
 .have c:=by
   rw [seqIndex_of g z]at b
   exact Ad6.inj b
  exact PySem.W.ki_setAt d g (by lia) (by simp_all) (by rw [c];exact⟨_,f,q⟩)
 .have c:(k+ a.toArray.size).toNat=j:=by
   rw [seqIndex_neg (by lia) w]at b
   rw [Ac0,←y]
   exact Ad6.inj b
  exact PySem.W.ki_setBack d (by lia) (by simp_all) (by lia) (by rw [c];exact⟨_,f,q⟩)
def QX (lo hi) (n):(sliceBounds lo hi y0 n).1=((HT.aZ n 0 lo:Nat):Int)/\(sliceBounds lo hi y0 n).2.1=((HT.aZ n n hi:Nat):Int)/\(sliceBounds lo hi y0 n).2.2=1:=by
 refine⟨?_,?_,rfl⟩
 .cases lo with
  | none=>simp [sliceBounds,HT.aZ]
  | some i=>
   simp [sliceBounds,HT.aZ,if_true]
   by_cases h:i<0
   .simp [h,if_true]<;>lia
   .simp [h,if_false]<;>lia
 .cases hi with
  | none=>simp [sliceBounds,HT.aZ]
  | some i=>
   simp [sliceBounds,HT.aZ,if_true]
   by_cases h:i<0
   .simp [h,if_true]<;>lia
   .simp [h,if_false]<;>lia
def ZT (a:List Value) (lo hi):slicePick a.toArray lo hi y0=((a.drop (HT.aZ a.length 0 lo)).take (HT.aZ a.length a.length hi-HT.aZ a.length 0 lo)).toArray:=by
 obtain⟨b,c,d⟩:=QX lo hi a.toArray.size
 unfold slicePick
 rw [b,c,d]
 simp only [sliceRange_one,pick_run,Ac0]<;>rfl
def o6 (K:Aa8):V->Option Int->Option Int->Hp->VK->Prop:=λx lo hi H Q=> ∃a xs,x= .ref a/\bu K H a xs/\ ∀p,H p=y0->Q (.ref p) (aP H p (.lst (lJ xs lo hi)))
def gL:gx X (o6 X.K):=by
 intro d s U H x v t u j o sl Q I m f pl i h
 obtain⟨a,g,rfl,n,q⟩:=h
 cases m
 obtain⟨l,r,e,k⟩:=I.list n
 have c:=r.length
 refine⟨"list",_,slot_list_getitem.lookup,e.isList.typeIs,wpAny_getItem_list_slice e.isList f pl i .none (by simp) ?_ (by simp_all)⟩
 rw [ZT,←c]
 refine⟨.ref s.heap.objs.size,_,I.laid (λb p q=>Ab2 _ q) (Aa9 _) ?_,rfl,q _ (I.a0.fresh (Aa9 _))⟩
 exact⟨Ab5 (QJ g j o) k,_,0,(r.drop _).take _,Ac7 _ rfl⟩
def W5:ju X (.builtin "len") (fun xs H Q=> ∃p ys,xs= [.ref p]/\(bu X.K H p ys\/cj X.K H p ys)/\Q (.int ys.length) H):=by
 intro e s U H xs i Q I r h
 obtain⟨p,ys,rfl,b,q⟩:=h
 obtain⟨u,rfl,g⟩:=jN r
 cases g
 have j:=jK
 obtain b | b:=b
 .obtain⟨d,c,pl,f⟩:=I.list b
  have a:=c.length
  exact Calls.call_len_list pl.isList (by simp [Ac0]<;>lia) ⟨.int ys.length,H,I.tok _,⟨s.toks+1,by rw [Ac0,a]⟩,q⟩
 .obtain⟨d,c,pl,f⟩:=I.tuple b
  have a:=c.length
  exact len_tuple pl (by simp [Ac0]<;>lia) ⟨.int ys.length,H,I.tok _,⟨s.toks+1,by rw [Ac0,a]⟩,q⟩
def xZ:ju X (.builtin "len") (fun xs H Q=> ∃z,xs= [.str z]/\z.length<=sizeLine/\Q (.int z.length) H):=by
 intro a s U H xs b Q I r h
 obtain⟨z,rfl,c,q⟩:=h
 obtain⟨u,rfl,t,rfl⟩:=jN r
 have d:=jK
 exact len_str (by lia) ⟨.int z.length,H,I.tok _,⟨_,rfl⟩,q⟩
def ZW:ju X (.type "list") (fun xs H Q=> ∃p ys,xs= [.ref p]/\(bu X.K H p ys\/cj X.K H p ys)/\ ∀l,H l=none->Q (.ref l) (aP H l (.lst ys))):=by
 intro g s U H xs x Q I r h
 obtain⟨p,ys,rfl,i,q⟩:=h
 obtain⟨u,rfl,w⟩:=jN r
 cases w
 have fin: ∀ a,Vals ys a->ys.length<=sizeLine-> ∀ b d,_ →
  b.get? s.heap.objs.size=some { cls:= .type "list",dict:=none,data:= .seq a.toArray d,slots:= #[] }->EP X g U Q _ { s with heap:=b }:=fun a c j b d k e=>
  ⟨.ref s.heap.objs.size,_,I.laid k (Aa9 _) (show a8 X.prog X.w _ b _ (.lst ys)from⟨j,a,d,c,e⟩),rfl,q _ (I.a0.fresh (Aa9 _))⟩
 obtain i | i:=i
 .obtain⟨a,c,pl,j⟩:=I.list i
  have f:=c.length
  obtain⟨o,t,v,n,m⟩:=pl.isList
  exact call_list_seq p (.inl rfl) t v m (λb d k e=>fin a c j b d k e) (by simp_all)
 .obtain⟨a,c,pl,j⟩:=I.tuple i
  have f:=c.length
  obtain⟨o,t,v,n,m⟩:=pl
  exact call_list_seq p (.inr rfl) t v m (λb d k e=>fin a c j b d k e) (by simp_all)
def jh:ju X (.type "tuple") (fun xs H Q=> ∃p ys,xs= [.ref p]/\((bu X.K H p ys/\ ∀l,H l=none->Q (.ref l) (aP H l (.tup ys)))\/(cj X.K H p ys/\Q (.ref p) H))):=by
 intro a s U H xs v Q I r h
 obtain⟨p,ys,rfl,h⟩:=h
 obtain⟨u,rfl,n⟩:=jN r
 cases n
 obtain⟨g,q⟩ | ⟨g,q⟩:=h
 .obtain⟨c,d,pl,j⟩:=I.list g
  have i:=d.length
  refine call_tuple_list pl.isList (λf t=> ?_) (by simp_all)
  have k:Inv X a U H { s with heap:=f }:=I.kept t
  have m:Inv X a U _ { s with heap:=f.push { cls:= .type "tuple",data:= .seq c.toArray } }:=
   k.laid (λb o e=>Ab2 _ e) (Aa9 _) (show a8 X.prog X.w _ _ _ (.tup ys)from⟨j,c,d,c7.new _ _⟩)
  exact⟨.ref f.objs.size,_,m,rfl,q _ (k.a0.fresh (Aa9 _))⟩
 .obtain⟨c,d,pl,j⟩:=I.tuple g
  exact call_tuple_same pl ⟨.ref p,H,I,rfl,q⟩
def nZ (K:Aa8) (T:String) (x:V) (H:Hp):Prop:=match x with
 | .str _=>T= "str"
 | .int _=>T= "int"
 | .ref p=>(T= "list" /\ ∃xs,bu K H p xs)\/(T= "tuple" /\ ∃o,K.lookup p=some o/\o.cls= .type "tuple" /\o.dict=none) ∨
  (T= "dict" /\((∃ kvs,H p=some (.dK kvs))\/ ∃kvs,H p=some (.dT kvs)))\/(T= "set" /\ ∃S n,H p=some (.set S n))
 | _=>False
def yk (I:Inv X pins U H s) (r:RelV x v) (ty:nZ X.K T x H):
 s.TypeIs v T/\ ∀a,v= .ref a-> ∃ob,s.heap.get? a=k0 ob/\ob.dict=none:=by
 cases x with
 | str z=>
  obtain⟨t,rfl⟩:=r
  cases (ty)
  exact⟨typeIs_str s z t,λ_ e=>nomatch e⟩
 | int i=>
  obtain⟨t,rfl⟩:=r
  cases (ty)
  exact⟨typeIs_int s i t,λ_ e=>nomatch e⟩
 | ref p=>
  cases r
  obtain⟨rfl,k,g⟩ | ⟨rfl,o,b,h,f⟩ | ⟨rfl,b⟩ | ⟨rfl,S,n,b⟩:=ty
  .obtain⟨j,_,pl,_⟩:=I.list g
   refine⟨pl.isList.typeIs,λa e=> ?_⟩
   cases e
   obtain⟨o,n,e,c,f,_⟩:=pl
   exact⟨o,e,f⟩
  .refine⟨⟨o,I.cu p o b,h⟩,λa e=> ?_⟩
   cases e
   exact⟨o,I.cu _ o b,f⟩
  .have z: ∃o,s.heap.get? p=k0 o/\o.ExactDict:=by
    obtain⟨d,b⟩ | ⟨d,b⟩:=b
    .obtain⟨_,_,_,_,o,_,_,e,ex,_⟩:=I.a0 p _ b
     exact⟨o,e,ex⟩
    .obtain⟨_,_,_,_,o,_,_,e,ex,_⟩:=I.a0 p _ b
     exact⟨o,e,ex⟩
   obtain⟨o,e,ex⟩:=z
   refine⟨⟨o,e,ex.1⟩,λa e2=> ?_⟩
   cases e2
   exact⟨o,e,ex.2.1⟩
  .obtain⟨o,_,_,_,e,ex,_⟩:=I.a0 p _ b
   refine⟨⟨o,e,ex.1⟩,λa e2=> ?_⟩
   cases e2
   exact⟨o,e,ex.2.1⟩
 | _=>exact False.elim ty
def IB (K:Aa8) (T:String) (r:V->List V->Hp->VK->Prop) (a:TE):TE:=λU H Q=>a U H λx H1=>nZ K T x H1/\r x [] H1 Q
def LK (K:Aa8) (T:String) (r:V->List V->Hp->VK->Prop) (a:TE) (t:TA):TE:=λU H Q=>a U H λx H1=>nZ K T x H1/\t U H1 λxs H2=>r x xs H2 Q
variable {o e:Expr}{es:List Expr}{to:TE}{t:TA}{name:Str}{apos cpos:Pos}{T id:String}{r:V->List V->Hp->VK->Prop}
def MO (k:PlainAttrs T) (d:Slot T name id) (e:typeOf (.builtin id)=pure (.type "method_descriptor")) (i:pB X id r) (m:PE X o to)
 (b:attributeBase o name X.env (eval o X.env)=eval o X.env:=by rfl) (c:(apos.endLine==cpos.line)=true:=by rfl):PE X (.Call (.Attribute o name apos) [] [] cpos) (IB X.K T r to):=by
 intro a s U H Q I h
 refine wpAny_Call_method0_late b c (aO (m a s U H _ I h) ?_)
 rintro v q ⟨x,l,g,f,ty,j⟩
 obtain⟨n,p⟩:=yk g f ty
 exact⟨T,id,k,d,e,n,p,Calls.callWith_builtin rfl (PySem.evalArgs_none (i a q U l x [] v [] Q g f .nil j))⟩
def oz (y:PlainAttrs T) (f:Slot T name id) (i:typeOf (.builtin id)=pure (.type "method_descriptor")) (q:pB X id r) (B:PE X o to) (F:PA X (e::es) t)
 (b:attributeBase o name X.env (eval o X.env)=eval o X.env:=by rfl)
 (d:((backTo cpos (starEach (e::es) X.env)).all (λx=> !x.1)&&(backToKw cpos (keywordEach [] X.env)).all (λx=>x.1.isSome)
   &&u9 ((e::es).length+([]:List Keyword).length+(if ([]:List Keyword).isEmpty then 0 else 1)<30))=true:=by rfl)
 (c:(apos.endLine==cpos.line)=true:=by rfl) (m:starEach (e::es) X.env=(k9,eval e X.env)::starEach es X.env:=by rfl) (g:(backTo cpos (starEach es X.env)).any (·.1)=false:=by rfl):
 PE X (.Call (.Attribute o name apos) (e::es) [] cpos) (LK X.K T r to t):=by
 intro a s U H Q I h
 refine wpAny_Call_method_late b d c rfl (aO (B a s U H _ I h) ?_)
 rintro v J ⟨x,z,k,j,ty,w⟩
 obtain⟨E,G⟩:=yk k j ty
 refine⟨T,id,y,f,i,E,G,?_⟩
 have l:=F cpos a J U z _ k w
 rw [m]at l ⊢
 exact Calls.callWith_builtin (by assumption) (Calls.evalArgs_plain (aO l λn p ⟨C,u,A,K,D⟩=>q a p U u x C v n Q A j K D))
end
def iT (X:Cx) (id:String) (r:V->List V->Hp->VK->Prop):Prop:=
 ∀(pins:List (Addr×Obj)) (s:Shared) (U:St) (H:Hp) (x:V) (xs:List V) (v:Value) (a:List Value) (Q:VK),Inv X pins U H s->RelV x v->Vals xs a->r x xs H Q →
  wpAny (model X.prog X.w) X.A (call (.builtin id) (v::a)) (EP X pins U Q) X.xe s
def Vals.one: ∀ {x}{i},Vals [x] i-> ∃u,i= [u]/\RelV x u
 | _,_,.cons r .nil=>⟨_,rfl,r⟩
theorem Vals.rep (h:Vals xs us): ∀k:Nat,Vals (Ab k xs).flatten (Ab k us).flatten
 | 0=> .nil
 | k+1=>by
  exact Vals.append h (Vals.rep h k)
theorem JX (its): ∀ k (a:List Value),
 List.foldl (λj i=>j++i) a.toArray (Ab k its.toArray)=(a++(Ab k its).flatten).toArray
 | 0,a=>by simp
 | k+1,a=>by
  have e:a.toArray++its.toArray=(a++its).toArray:=by simp
  have e2:(a++its)++(Ab k its).flatten=a++(Ab (k+1) its).flatten:=by
   rw [Af2,List.flatten_cons,Ae]
  rw [← e2,←JX its k (a++its),←e,Af2,Ak3]
section
variable {X:Cx}{pins:List (Addr×Obj)}{U:St}{H:Hp}{s:Shared}{l b:Addr}{xs ys zs:List V}
def Inv.lI {b a:List Value}(I:Inv X pins U H s) (j:H l=k0 (.lst xs))
 (e:s.heap.get? l=k0 { cls:= .type "list",data:= .seq b.toArray n }) (g:f b.toArray=a.toArray) (c:Vals ys a) (h:ys.length<=sizeLine):
 Inv X pins U (aP H l (.lst ys)) { s with heap:=s.heap.update l (Obj.mapSeq f),toks:=t' }:=by
 have q:=PySem.IsL.update e f
 rw [g]at q
 refine I.write (by rw [j];exact trivial) (.inl rfl) (λk u d i=>(An0 s.heap _ (Ne.symm d)).trans i) ⟨_,q⟩ ?_
 exact⟨h,a,_,c,q⟩
def Inv.lN (I:Inv X pins U H s) (b:Vals ys its) (a:ys.length<=sizeLine):
 Inv X pins U (aP H s.heap.objs.size (.lst ys)) { s with heap:=s.heap.push { cls:= .type "list",data:= .seq its.toArray },toks:=t' }:=
 I.laid (λ_ _ q=>Ab2 _ q) (Aa9 _) ⟨a,its,0,b,Ac7 _ rfl⟩
theorem Inv.fresh (I:Inv X pins U H s):H s.heap.objs.size=none:=I.a0.fresh (Aa9 _)
def Inv.iU (I:Inv X pins U H s) (a:H l=k0 (.lst xs)):xs.length<=sizeLine/\ ∃ i n,Vals xs i/\xs.length=i.length/\s.heap.get? l=k0 { cls:= .type "list",data:= .seq i.toArray n }:=by
 obtain⟨z,i,n,r,e⟩:=I.a0 l _ a
 exact⟨z,i,n,r,r.length,e⟩
def yl (h:n<=sizeLine):Builtin.List.listTooLong n=false:=by
 exact decide_eq_false (by lia)
end
section
variable {X:Cx}
def Eg:V->List V->Hp->VK->Prop:=λx a H Q=> ∃l xs y,x= .ref l/\a= [y]/\H l=k0 (.lst xs)/\xs.length<sizeLine/\Q .au (aP H l (.lst (xs++ [y])))
def J1:iT X "list.append" Eg:=by
 intro b s U H x k v i Q I d rv h
 obtain⟨l,g,y,rfl,rfl,c,j,q⟩:=h
 cases d
 obtain⟨u,rfl,f⟩:=rv.one
 obtain⟨z,a,n,r,m,e⟩:=I.iU c
 refine call_meets F.slot_list_append ⟨_,e,rfl⟩ F.entry_list_append (F.args_list_append_2 _ _) (PySem.list_append l a.toArray n u (by simp_all)) ⟨e,⟨.au,_,I.lI c e (by simp) (r.append (.cons f .nil)) ?_,rfl,q⟩⟩
 rw [Aa6,List.length_singleton]
 lia
def Mo:V->List V->Hp->VK->Prop:=λx a H Q=> ∃l b xs zs,x= .ref l/\a= [.ref b]/\H l=k0 (.lst xs)/\H b=k0 (.lst zs)/\xs.length+zs.length<=sizeLine/\Q .au (aP H l (.lst (xs++zs)))
def Dw:iT X "list.extend" Mo:=by
 intro g s U H x C v y Q I o rv h
 obtain⟨l,b,w,D,rfl,rfl,i,k,B,q⟩:=h
 cases o
 obtain⟨u,rfl,t⟩:=rv.one
 cases t
 obtain⟨z,c,n,r,E,e⟩:=I.iU i
 obtain⟨A,a,m,j,p,e2⟩:=I.iU k
 have f:c.toArray.size+a.toArray.size<=sizeLine:=by rw [Ac0,Ac0];lia
 have d: ¬(!c.toArray.isEmpty&&Builtin.List.listTooLong (c.toArray.size+a.toArray.size))=true:=by
  rw [yl f,Ah7]
  exact Ac3
 refine call_meets F.slot_list_extend ⟨_,e,rfl⟩ F.entry_list_extend (F.args_list_extend_2 _ _)
  (AutoSeq1.list_extend_list_list_0 l c.toArray n b a.toArray m d (by simp_all) (by lia)) ⟨e,e2,?_⟩
 refine⟨.au,_,I.lI i e (by simp) (r.append j) ?_,rfl,q⟩
 rw [Aa6]
 lia
def FV (xs:List α) (k):(Ab k xs).flatten.length=k*xs.length:=by simp
end
end L2
namespace Att
open PySem PySem.W PySem.Calls PyProof.Rows
def wL : ∀ ns vs,WellAll P h vs (ns.map WData.int)->IntsAre vs ns:=by
 intro ns
 induction ns with
 | nil=>
  intro vs w
  cases w
  exact .nil
 | cons n ns c=>
  intro vs w
  cases w with
  | cons a b=>
   cases a
   exact .cons _ _ (c _ b)
def EU {l:OpenLaw}(u:l.most=k0 n)
 (b:l.row.toRowW.claim.pre args=u0) (i:WellAll P h vals args):
 ∃a vs ns,vals= [Value.ref a]/\args= [WData.list (ns.map WData.int)]/\h.get? a=k0 { cls:= .type "list",data:= .seq vs.toArray }/\IntsAre vs ns/\ns.length<=n:=by
 have g:WShape.hasAll [] args [.list .int]=true:=(pre_splitW b).1
 obtain⟨d,r,rfl,t,v⟩:=hasAllW_cons g
 obtain rfl:=hasAllW_nil v
 obtain⟨w,rfl,s⟩:=hasW_list t
 obtain⟨ns,rfl⟩:=items_int s
 have c:ns.length<=n:=by
  have f:=by
   have f:=(holds_andW ((pre_splitW b).2)).1
   rw [u]at f
   exact f
  have j:=condW_of f (w_not (w_lt w_lit (w_len_list (w_arg rfl))))
  refine Nat.le_of_not_lt λq=> ?_
  have m:=by omega
  first
   | (rw [decide_eq_true m]at j)
   | (simp at j;lia)
 cases i with
 | cons k o=>
  cases o
  cases k with
  | list p e=>exact⟨_,_,ns,rfl,rfl,p,wL ns _ e,c⟩
def Eu (l:OpenLaw) (args):l.row.toRowW.claim.post args (.bool u0) args=true:=
 postW_of
  (show WShape.has [] _ .bool=u0 by first | rfl | decide | simp [WShape.armsAll])
  (show (WTm.eq .res _).value [] { args:=args,res:=k0 _,after:=args }=k0 (.bool _)from w_eq_bool (w_res rfl) w_lit) rfl
def dY {l:OpenLaw}
 (E:l.most=k0 n) (k:d.params.defaults= [])
 (call: ∀ w j i mg V M o O cd L a vs ns,
   Ground q loose [] XP w j mg V i.heap->YP w i.heap →
   i.heap.get? M=k0 o->o.data= .func (docDef d.name d.params d.body d.scope O cd L)->i.heap.CodeRec cd d.name->mg d.name=k0 (.ref M) →
   i.heap.get? a=k0 { cls:= .type "list",data:= .seq vs.toArray }->IntsAre vs ns->ns.length<=n->i.gens= #[] →
   codeAny (model l.prog w) callerA (.call (.ref M) ⟨[.ref a],[]⟩) (λr s'=>r= .ok (.ret (.bool u0))/\OldK i.heap s'.heap/\s'.os=i.os/\AllBare s'.gens) i):
 WalkO q loose XP YP l.row.toRowW d [] (λf vs=>PySem.call f vs):=by
 intro w j i mg V G Y M o O cd L B kV C J h u m z s t K g v y p H
 obtain rfl:B= .none:=Dflts.none u k
 obtain rfl:kV= .none:=Dflts.noKw u
 obtain⟨a,vs,ns,rfl,rfl,c,b,e⟩:=EU E g p
 refine enter_call (codeAny_mono (call w j i mg V M o O cd L a vs ns G Y C (fd_plain J) h m c b e z) λr s' A=> ?_)
 obtain⟨rfl,F,D,I⟩:=A
 exact⟨.inl ⟨.bool u0,.bool u0,[],rfl,λ_=>rfl,.bool u0,Eu l _,λ_=>⟨Ao7.nil,λ_ x=>(nomatch x)⟩⟩,F,D,I⟩
end Att
namespace L2
open PySem PySem.Spec PyProof.Rows
theorem XY: ∀ {vs}{ns},IntsAre vs ns->Vals (ns.map V.int) vs
 | _,_,.nil=> .nil
 | _,_,.cons n t h=> .cons ⟨t,rfl⟩ (XY h)
def n7 (H:Hp):Prop:= ∀b,H b=y0\/ ∃o xs,H b=k0 (.eu o (.lst xs))
def Mu {K:Aa8}
 (Q:K.In s₁.heap) (l:s₁.heap.Ns mainGlobals mg) (c:s₁.heap.Ns builtinsNs mb) (G: ∀x:Str,x≠ "__name__" ->mb x=bootBuiltins x) (D:s₁.heap.NoLimit) (W:s₁.gens= #[])
 (E:s₁.heap.get? a=k0 { cls:= .type "list",data:= .seq vs.toArray }) (S:IntsAre vs ns) (R:ns.length<=sizeLine) (hr:bg k callerA)
 (F: ∀base:Heap,K.In base->base.Ns mainGlobals mg->XG P w K mg base CX k fa fd [x] sp) (i: ∀ s u,BindsTo s fd ⟨[u],[]⟩ [(x,u)])
 (M: ∀H:Hp,n7 H->bu K H a (ns.map V.int)->sp [.ref a] H (λv _=>v= .bl u0) λ_ _ _=>False)
 (J: ∀H e s',CX [] H s₁ (λ_ _ _=>False) e s'->False):
 codeAny (model P w) callerA (.call (.ref fa) ⟨[.ref a],[]⟩) (λr s'=>r= .ok (.ret (.bool u0))/\OldK s₁.heap s'.heap/\s'.os=s₁.os/\AllBare s'.gens) s₁:=by
 have rv:=XY S
 have g: ∀H:Hp,n7 H->bu K H a (ns.map V.int)->cY P w H s₁.heap->(∀ b,H b≠y0->b=a)->(H a≠y0->K.lookup a=y0) →
  codeAny (model P w) callerA (.call (.ref fa) ⟨[.ref a],[]⟩) (λr s'=>r= .ok (.ret (.bool u0))/\OldK s₁.heap s'.heap/\s'.os=s₁.os/\AllBare s'.gens) s₁:=by
  intro H O hS p T hK
  have bC: ∀ {b}{o},s₁.heap.get? b=k0 o->H b=y0->(ke s₁.heap H).get? b=k0 o:=λe n=>D8 e n
  have N: ∀ {b}{o}{A}{j},s₁.heap.get? b=k0 o->o.data= .dict A j->H b=none:=λ{b o A j} e d=>by
   cases q:H b with
   | none=>rfl
   | some u=>
    have L:b=a:=T b (by rw [q];simp)
    subst L
    rw [E]at e;cases e
    have d':Data.seq vs.toArray _=Data.dict A j:=d
    cases d'
  have f: ∀ {b}{m},s₁.heap.Ns b m->(ke s₁.heap H).Ns b m:=λ{b m} ⟨o,A,j,e,d,r⟩=>⟨o,A,j,bC e (N e d),d,r⟩
  have B:K.In _:=λb o e=>bC (Q b o e) (by
   cases q:H b with
   | none=>rfl
   | some u=>
    have L:b=a:=T b (by rw [q];simp)
    subst L
    rw [hK (by rw [q];simp)]at e;cases e)
  have hM:Mod K mg _:=⟨B,f l,⟨mb,f c,G⟩,let ⟨mc,h1,h2⟩:=D; ⟨mc,f h1,h2⟩⟩
  have Z:dt P w K mg _ callerA [] s₁ H:=⟨rfl,hM,λb o e=>Ir e,Al1 (Df _ _),trivial,λb c=>absurd (show b∈([]:List Addr)from c) (by simp),p,.of_eq W⟩
  refine codeAny_mono ((F _ B (f l)).run callerA [] s₁ H ⟨[.ref a],[]⟩ [.ref a] [.ref a] _ _ hr Z (i s₁ _) (.cons rfl .nil) (M H O hS)) λr s' h=> ?_
  cases r with
  | error e=>exact(J H e s' h).elim
  | ok X=>
   cases X with
   | next=>exact False.elim h
   | brk=>exact False.elim h
   | cont=>exact False.elim h
   | ret u=>
    obtain⟨v,H',os,t,un,y,U,q⟩:=h
    have q':v= .bl true:=q
    subst q'
    obtain rfl:u=Value.bool true:=U
    refine⟨rfl,OldK.of_keep λb o e=> ?_,os,t⟩
    cases q:H b with
    | none=>exact un.keep b o e q (by intro z;exact absurd (show b∈([]:List Addr)from z) (by simp)) (by simp)
    | some u=>
     obtain z | ⟨Y,xs,z⟩:=O b
     .rw [q]at z;cases z
     .have z2:=un.d3 b Y _ z
      obtain⟨e1,_⟩:=p b _ z
      obtain⟨e2,_⟩:=y b _ z2
      rw [e]at e1;cases e1
      exact e2
 cases I:K.lookup a with
 | some o=>
  have e:=Q a o I
  rw [E]at e
  cases e
  refine g (λ_=>y0) (λ_=> .inl rfl) (.inr ⟨_,vs.toArray,_,I,rfl,rfl,rfl,by rw [Ac0,S.length];exact R,by simpa using rv⟩) (λb u z=>by have C:(none:Option HO)=k0 u:=z;cases C) (λb z=>absurd rfl z) λz=>absurd rfl z
 | none=>
  refine g (fun b=>if b=a then some (.eu { cls:= .type "list",data:= .seq vs.toArray } _)else none) (fun b=> ?_) (.inl (.inr ⟨{ cls:= .type "list",data:= .seq vs.toArray },if_pos rfl⟩)) (fun b u z=> ?_) (fun b z=> ?_) fun _=>I
  .by_cases c:b=a
   .exact .inr ⟨_,_,if_pos c⟩
   .exact .inl (if_neg c)
  .by_cases c:b=a
   .have C:=(if_pos c).symm.trans z
    cases C
    subst c
    exact⟨E,by rw [Aa];exact R,vs,_,rv,E⟩
   .have C:=(if_neg c).symm.trans z
    cases C
  .by_cases c:b=a
   .exact c
   .exact absurd (if_neg c) z
abbrev Nl {K:Aa8}{h:Heap}(_:K.In h):Aa8:=K
def gy {l:PySem.W.OpenLaw}{K:Params->Aa8}{B:World->gu}{A:World->Sp}
 (O:l.most=k0 n) (t:n<=sizeLine) (p:d.params.defaults= []) (P:bg k callerA)
 (M: ∀ w h,YP w h->(K w.params).In h)
 (F: ∀ w mg j h,(K w.params).In h->h.Ns mainGlobals mg->mg d.name=k0 (.ref j) →
   ∃fd:FuncData,(∀ s u,BindsTo s fd ⟨[u],[]⟩ [(x,u)]) ∧
    ∀base:Heap,(K w.params).In base->base.Ns mainGlobals mg->XG l.prog w (K w.params) mg base (B w) k j fd [x] (A w))
 (y: ∀ w H a (ns:List Int),ns.length<=n->n7 H->bu (K w.params) H a (ns.map V.int)->A w [.ref a] H (λv _=>v= .bl u0) λ_ _ _=>False)
 (m: ∀ w H s e s',B w [] H s (λ_ _ _=>False) e s'->False):
 PySem.W.WalkO q loose XP YP l.row.toRowW d [] (λf vs=>PySem.call f vs):=by
 refine Att.dY O p λw z i mg T j o S cd L a vs ns G Y R U J r g c b E=> ?_
 have C:=M w _ Y
 obtain⟨fd,Q,I⟩:=F w mg j _ C G.T.g r
 exact Mu C G.T.g G.T.b G.T.builtins G.T.nolimit E g c (Ab5 b t) P I Q (λH D N=>y w H a ns b D N) λH e s'=>m w H i e s'
noncomputable def Cq (s:Stmt):Arguments:=match s with
 | .FunctionDef _ a _ _ _ _ _ _ _ _=>a
 | _=> { posonlyargs:= [],args:= [],vararg:=y0,kwonlyargs:= [],kw_defaults:= [],kwarg:=y0,defaults:= [] }
def wJ (s:Stmt):List Stmt:=match s with
 | .FunctionDef _ _ b _ _ _ _ _ _ _=>b
 | _=> []
noncomputable def zn (s:Stmt):Scope:=match s with
 | .FunctionDef _ _ _ _ _ _ a _ _ _=>a
 | _=> { kind:= .function,names:= [],isGenerator:=k9,isCoroutine:=k9 }
abbrev kQ:gu:=λ_ _ _ _ _ _=>False
abbrev E0:XK:=λ_ _ _=>False
structure lT (K:Aa8) (x k7:Str) (st:Stmt) (f:Addr) (fd:FuncData):Prop where
 ex: ∃(oc:Value) (od:Option Addr) (kV doc pm:Value) (an:Option Addr) (cdv ct:Value) (osl:Array (Option Value)),
  fd=PySem.W.fnOf x k7 (Cq st) (wJ st) (zn st) .none kV doc pm an cdv ct/\K.lookup f=k0 ⟨oc,od,.func fd,osl⟩/\PySem.W.codeIn K cdv k7=u0
 kp:Ah5 K (.ref f)=u0
def qm (h:n<=1000):n<sizeLine:=Ah6 h (by decide)
section
variable {X:Cx}
def pv (i)(b:X.N[i]? =some x:=by rfl) (c:mM X.env.scope x:=by first | exact Or.inl rfl | exact Or.inr (Or.inl rfl) | exact Or.inr (Or.inr rfl)) (d:(x==("__debug__" :Str))=false:=by decide)
 (a:(x==("__classdict__" :Str))=false:=by decide):PE X (.Name x pos) (m9 i):=XI b c d a
end
def nv {A B:Prop}(h:B):if k9=u0 then A else B:=by
 exact h
def oj {A B:Prop}(h:A):if u0=u0 then A else B:=by
 exact h
end L2
set_option maxHeartbeats 4000000
namespace L2
open PySem PySem.Spec PyProof.Rows
noncomputable def Qf (env:Env) (a:List (Str×Addr)) (y:Str×NameKind):List (Str×Addr):=
 if y.2== .free then(match env.cells.lookup y.1 with | some c=>(y.1,c)::a | none=>a)else a
def WT (a:Scope) (env:Env):List (Str×Addr):=a.names.foldl (Qf env) []
theorem yf : ∀(a:List (Str×NameKind)) i,(∀ y∈a,y.2= .free-> ∃c,env.cells.lookup y.1=k0 c) →
 (do
   let mut j:=i
   for (name,kind) in a do
    if kind== .free then j:=(name,←cellOf env name)::j
   return j:Sem (List (Str×Addr)))=pure (a.foldl (Qf env) i)
 | [],i,_=>by simp
 | (n,k)::r,i,h=>by
  have f:=λj=>yf r j λy l=>h y (Aa2 _ l)
  by_cases d:k= .free
  .subst d
   obtain⟨c,b⟩:=h (n,.free) Aa5 rfl
   have b:=b
   have e:Qf env i (n,.free)=(n,c)::i:=by
    show(if (NameKind.free==NameKind.free)=u0 then(match env.cells.lookup n with | some c=>(n,c)::i | none=>i)else i)=_
    rw [if_pos (show (NameKind.free==NameKind.free)=u0 from rfl),b]
   rw [Ak3,e,←f]
   simp [cellOf,b]
  .have g:(k==NameKind.free)=false:=by simpa using d
   have e:Qf env i (n,k)=i:=by
    show(if (k==NameKind.free)=u0 then _ else i)=_
    rw [g,if_neg Ac3]
   rw [Ak3,e,←f]
   simp [d]
def QS (h: ∀y∈scope.names,y.2= .free-> ∃c,env.cells.lookup y.1=k0 c):closureFor scope env=pure (WT scope env):=
 yf scope.names [] h
theorem xK : ∀(a:List (Str×NameKind)) i,(∀ x c,i.lookup x=k0 c->env.cells.lookup x=k0 c)-> ∀x c,(a.foldl (Qf env) i).lookup x=k0 c->env.cells.lookup x=k0 c
 | [],_,h=>h
 | (n,k)::r,i,h=>by
  refine xK r (Qf env i (n,k)) λx c e=> ?_
  unfold Qf at e
  split at e
  .split at e
   .rename_i f d
    rw [Ab7]at e
    cases b:x==n with
    | true=>
     rw [b]at e
     have:x=n:=by simpa using b
     subst this
     cases e
     exact d
    | false=>rw [b]at e;exact h x c e
   .exact h x c e
  .exact h x c e
theorem j6 (b:env.cells.lookup x=k0 c): ∀(a:List (Str×NameKind)) j,((x,.free)∈a\/ ∃i,j.lookup x=k0 i)-> ∃i,(a.foldl (Qf env) j).lookup x=k0 i
 | [],j,h=>h.elim (λz=>absurd z (by simp)) id
 | (n,k)::r,j,h=>by
  refine j6 b r (Qf env j (n,k)) ?_
  have grow:(∃ i,j.lookup x=k0 i)-> ∃i,(Qf env j (n,k)).lookup x=k0 i:=by
   rintro ⟨i,e⟩
   unfold Qf
   split
   .split
    .rw [Ab7]
     cases x==n with
     | true=>exact⟨_,rfl⟩
     | false=>exact⟨i,e⟩
    .exact⟨i,e⟩
   .exact⟨i,e⟩
  rcases h with h | h
  .rcases Ab8.mp h with h | h
   .cases h
    refine .inr ⟨c,?_⟩
    show Aj x (if (NameKind.free==NameKind.free)=u0 then(match env.cells.lookup x with | some c=>(x,c)::j | none=>j)else j)=_
    rw [if_pos (show (NameKind.free==NameKind.free)=u0 from rfl),b]
    simp
   .exact .inl h
  .exact .inr (grow h)
def Z5 (I:Nat->Shared->Prop)
 (l: ∀n s,I n s->wpAny (model prog w) A (pyNext it) (λr L=>match r with
   | none=>R (.ok .next) L
   | some v=>wpAny (model prog w) A (letOwnedTupleGo tg it v) (λ_ j=>wpAny (model prog w) A (assign tg env v) (λ_ M=>
    wpAny (model prog w) A (forIn ifs u0 λc r=>if r=u0 then do let ok ←isTrue c env (eval c env);pure (ForInStep.yield ok)else pure (ForInStep.yield r)) (λok i=>
     if ok=u0 then wpAny (model prog w) A (eval elt env) (λx O=>
      wpAny (model prog w) A (call (.builtin "list.append") [acc,x]) (fun _ V=> ∃m,m<n/\I m V) (notedBy (model prog w) A env fun e s'=>R (.error e) s') O) (notedBy (model prog w) A env fun e s'=>R (.error e) s') i
     else ∃m,m<n/\I m i) (notedBy (model prog w) A env λe s'=>R (.error e) s') M) (notedBy (model prog w) A env λe s'=>R (.error e) s') j) (notedBy (model prog w) A env λe s'=>R (.error e) s') L) (notedBy (model prog w) A env λe s'=>R (.error e) s') s)
 (n) (h:I n s):codeAny (model prog w) A (.compLoop (.ListComp elt [⟨tg,iter,ifs,0⟩] scope pos) 0 it acc env) R s:=by
 refine codeAny_loop rfl I (λn s p=> wpAny_noted ?_) n h
 rw [compTurn_list]
 refine wpAny_bind (wpAny_standAt (wpAny_bind (wpAny_mono (l n s p) (λr L d=> ?_) λ_ _ a=>a)))
 cases r with
 | none=>exact wpAny_pure d
 | some v=>
  refine wpAny_bind (wpAny_mono d (λ_ j f=> wpAny_bind (wpAny_mono f (λ_ M k=>wpAny_bind (wpAny_mono k (λok i b=> ?_) λ_ _ a=>a)) λ_ _ a=>a)) λ_ _ a=>a)
  cases ok with
  | false=>exact wpAny_pure ⟨rfl,b⟩
  | true=>
   exact wpAny_bind (wpAny_bind (wpAny_mono b (λx O o=>wpAny_bind (wpAny_mono o (λ_ V g=>wpAny_pure (wpAny_pure ⟨rfl,g⟩)) λ_ _ a=>a)) λ_ _ a=>a))
theorem oi : ∀ i n j,(x,NameKind.cell)∉i->(cellsFrom n i j).lookup x=j.lookup x
 | [],_,_,_=>rfl
 | (y,k)::r,n,j,h=>by
  unfold cellsFrom
  split
  .rename_i a
   have a:=by simpa using a
   subst a
   rw [oi r (n+1) _ λz=>h (Aa2 _ z),Ab7]
   cases b:x==y with
   | true=>
    have:x=y:=by simpa using b
    subst this
    exact absurd Aa5 h
   | false=>rfl
  .exact oi r n j λz=>h (Aa2 _ z)
theorem W7 : ∀ i (h:Heap) j L,(j.lookup x=k0 c->L\/(h.IsCell c y0/\(x,NameKind.cell)∈i\/h.IsCell c y0/\L))-> ∀lo,lo<=h.objs.size →
 (cellsFrom h.objs.size i j).lookup x=k0 c->j.lookup x=k0 c\/(lo<=c/\(x,NameKind.cell)∈i/\(pushCells h i).IsCell c y0)
 | [],_,_,_,_,_,_,e=> .inl e
 | (y,k)::r,h,j,L,n,lo,d,e=>by
  unfold cellsFrom at e
  unfold pushCells
  split at e
  .rename_i a
   rw [if_pos a]
   have a:=by simpa using a
   subst a
   have e:(cellsFrom (h.push { cls:= .type "cell",data:= .cell none }).objs.size r ((y,h.objs.size)::j)).lookup x=some c:=by rw [Heap.size_push];exact e
   rcases W7 r (h.push { cls:= .type "cell",data:= .cell none }) _ True (fun _=> .inl trivial) lo (by rw [Heap.size_push];lia) e with q | ⟨g,l,f⟩
   .rw [Ab7]at q
    cases m:x==y with
    | true=>
     rw [m]at q
     have:x=y:=by simpa using m
     subst this
     cases q
     exact .inr ⟨d,List.mem_cons_self,(show (h.push { cls:= .type "cell",data:= .cell none }).IsCell h.objs.size none from⟨_,Heap.get?_push_size _ rfl,rfl⟩).keeps fun b o e=>pushCells_keeps r _ b o e⟩
    | false=>
     rw [m]at q
     exact .inl q
   .exact .inr ⟨g,Aa2 _ l,f⟩
  .rename_i a
   rw [if_neg a]
   rcases W7 r h j True (λ_=> .inl trivial) lo d e with q | ⟨g,l,f⟩
   .exact .inl q
   .exact .inr ⟨g,Aa2 _ l,f⟩
theorem oB: ∀(j) (n) (i),(∀ x c,i.lookup x=k0 c->c<n)->(∀ x y c,i.lookup x=k0 c->i.lookup y=k0 c->x=y) →
 ∀x y c,(cellsFrom n j i).lookup x=k0 c->(cellsFrom n j i).lookup y=k0 c->x=y
 | [],_,_,_,a=>a
 | (z,k)::r,n,i,b,a=>by
  unfold cellsFrom
  split
  .have look: ∀x c,((z,n)::i).lookup x=k0 c->(x=z/\c=n)\/(i.lookup x=k0 c):=λx c e=>by
    rw [Ab7]at e
    cases d:x==z with
    | true=>
     rw [d]at e
     cases e
     exact .inl ⟨by simpa using d,rfl⟩
    | false=>
     rw [d]at e
     exact .inr e
   refine oB r (n+1) _ (λx c e=> ?_) λx y c e1 e2=> ?_
   .rcases look x c e with⟨_,q⟩ | q
    .exact q▸Ag n
    .exact Nat.lt_succ_of_lt (b x c q)
   .rcases look x c e1 with⟨h,l⟩ | p<;>rcases look y c e2 with⟨f,g⟩ | q
    .rw [h,f]
    .exact absurd (l▸b y c q) (Ai3 _)
    .exact absurd (g▸b x c p) (Ai3 _)
    .exact a x y c p q
  .exact oB r n i b a
theorem XN : ∀(a:List (Str×NameKind)) i,(a.foldl (Qf env) i).lookup x=k0 c->i.lookup x=k0 c\/(x,NameKind.free)∈a
 | [],_,h=> .inl h
 | (y,k)::r,i,h=>by
  rcases XN r _ h with q | q
  .unfold Qf at q
   split at q
   .rename_i b
    have b:=by simpa using b
    subst b
    split at q
    .rw [Ab7]at q
     cases d:x==y with
     | true=>
      have:x=y:=by simpa using d
      subst this
      exact .inr Aa5
     | false=>
      rw [d]at q
      exact .inl q
    .exact .inl q
   .exact .inl q
  .exact .inr (Aa2 _ q)
theorem WX {env:Env}: ∀ {b:List (Str×NameKind)}{x},
 ((b.map λ(n,k)=>if(k==NameKind.free&&env.scope.kind== .function&&env.kindOf n==k0 .cell)then(n,NameKind.cell)else(n,k)).lookup x=k0 .cell ∨
   (b.map λ(n,k)=>if(k==NameKind.free&&env.scope.kind== .function&&env.kindOf n==k0 .cell)then(n,NameKind.cell)else(n,k)).lookup x=k0 .free)->(x,.free)∈b\/(x,.cell)∈b
 | [],_,h=>by simp at h
 | (n,k)::r,x,h=>by
  have e:= @WX env r x
  rw [Ab1]at h
  by_cases a:(k==NameKind.free&&env.scope.kind== .function&&env.kindOf n==k0 .cell)=u0
  .have f:=by
    rw [Aa1,Aa1]at a
    simpa using a.1.1
   subst f
   simp only [a,if_true,Ab7]at h
   cases c:x==n with
   | true=>
    have:x=n:=by simpa using c
    subst this
    exact .inl Aa5
   | false=>
    rw [c]at h
    exact(e h).imp (Aa2 _) (Aa2 _)
  .have d:=Ak8.mpr a
   simp only [d,Ak4,if_false,Ab7]at h
   cases c:x==n with
   | true=>
    have:x=n:=by simpa using c
    subst this
    rw [c]at h
    rcases h with h | h
    .have:k= .cell:=by simpa using h
     subst this
     exact .inr Aa5
    .have:k= .free:=by simpa using h
     subst this
     exact .inl Aa5
   | false=>
    rw [c]at h
    exact(e (by simpa using h)).imp (Aa2 _) (Aa2 _)
theorem yU: ∀ {a:List (Str×NameKind)}{x}{k i},(a.map Prod.fst).Nodup->(x,k)∈a->(x,i)∈a->k=i
 | (y,j)::r,x,k,i,b,d,c=>by
  rw [Ab1,Ai]at b
  rcases Ab8.mp d with e1 | e1<;>rcases Ab8.mp c with e2 | e2
  .cases e1;cases e2;rfl
  .cases e1;exact absurd (Ab6.mpr ⟨_,e2,rfl⟩) b.1
  .cases e2;exact absurd (Ab6.mpr ⟨_,e1,rfl⟩) b.1
  .exact yU b.2 e1 e2
theorem pd: ∀ {a:List (Str×NameKind)}{x}{k},(a.map Prod.fst).Nodup->(x,k)∈a->a.lookup x=k0 k
 | (y,j)::r,x,k,b,h=>by
  rw [Ab1,Ai]at b
  rw [Ab7]
  rcases Ab8.mp h with e | e
  .cases e;simp
  .have:(x==y)=false:=by
    cases c:x==y with
    | false=>rfl
    | true=>
     have:x=y:=by simpa using c
     subst this
     exact absurd (Ab6.mpr ⟨_,e,rfl⟩) b.1
   rw [this]
   exact pd b.2 e
def hU (a:Scope) (C:Addr) (env:Env):List (Str×Addr):=cellsFrom (C+1) a.names (WT a env)
def xC 
 (d:Q (newEnv scope s.heap.objs.size globals (cellsFrom (s.heap.objs.size+1) scope.names cl) k7 y0 .none (k0 env) builtinsNs) { s with heap:=pushCells (s.heap.push { cls:= .type "dict",data:= .dict #[] }) scope.names }):
 wpAny M A (newFunctionEnv scope globals cl [] k7 y0 .none (k0 env)) Q E s:=by
 simp only [newFunctionEnv,Option.isSome_some,if_true]
 refine wpAny_bind (wpAny_alloc ?_)
 refine wpAny_bind (wpAny_layCells _ (λname a c=>by cases b:a==NameKind.cell<;>simp [b]) _ _ _ _ ?_)
 rw [show ({ s with heap:=s.heap.push { cls:= .type "dict",data:= .dict #[] } }:Shared).heap.objs.size=s.heap.objs.size+1 from Heap.size_push ..]
 exact wpAny_bind (wpAny_pure (wpAny_pure d))
noncomputable def Je (X:Cx) (N:List Str) (a:Scope) (C:Addr) (b:List Addr) (s:Shared) (H:Hp):Cx where
 prog:=X.prog
 w:=X.w
 K:=X.K
 mg:=X.mg
 base:=X.base
 A:=X.A
 N:=N
 s₀:=s
 H₀:=H
 env:=compEnvC a (hU a C X.env) C X.env
 outer:=X.stack
 stack:=X.stack
 ex:=b
 fn:=λx=>u9 (a.names.lookup x=k0 .cell)
 calm:=X.calm
 pn:= []
 xe:=λ_ _=>False
def cH (X:Cx):List Nat->List Str->Prop
 | [],[]=>True
 | j::a,x::xs=>X.N[j]? =k0 x/\(X.env.kindOf x=k0 .cell\/X.env.kindOf x=k0 .free)/\cH X a xs
 | _,_=>False
theorem cH.get {U:St}: ∀ {aB}{xs}{i:Nat}{x}{v},cH X aB xs->xs[i]? =k0 x->(aB.map λj=>(U[j]?).join)[i]? =k0 (k0 v) →
 ∃j:Nat,X.N[j]? =k0 x/\U[j]? =k0 (k0 v)/\(X.env.kindOf x=k0 .cell\/X.env.kindOf x=k0 .free)
 | [],[],_,_,_,_,e,_=>by simp at e
 | [],_::_,_,_,_,h,_,_=>h.elim
 | _::_,[],_,_,_,h,_,_=>h.elim
 | j::d,b::xs,0,x,v,h,e1,e2=>by
  obtain⟨c,a,_⟩:=h
  simp at e1
  subst e1
  refine⟨j,c,?_,a⟩
  have e2:k0 ((U[j]?).join)=k0 (k0 v):=by simpa using e2
  have e2:=Ad6.inj e2
  cases q:U[j]? with
  | none=>rw [q]at e2;cases e2
  | some z=>rw [q]at e2;have:z=k0 v:=e2;rw [this]
 | j::d,b::xs,i+1,x,v,h,e1,e2=>cH.get h.2.2 (by simpa using e1) (by simpa using e2)
theorem cH.length : ∀ {aB}{xs},cH X aB xs->aB.length=xs.length
 | [],[],_=>rfl
 | [],_::_,h=>h.elim
 | _::_,[],h=>h.elim
 | _::_,_::_,h=>congrArg (· +1) (cH.length h.2.2)
def lQ (k:Nat) (aB:List Nat) (U:St):St:=Ab k y0++aB.map λ(j:Nat)=>(U[j]?).join
def gJ (X:Cx) (a:List Expr) (t:TT):Prop:=
 ∀(pins:List (Addr×Obj)) (s:Shared) (U:St) (H:Hp) (Q:Bool->Hp->Prop),Inv X pins U H s->t U H Q →
  wpAny (model X.prog X.w) X.A (forIn a u0 λc r=>if r=u0 then do let ok ←isTrue c X.env (eval c X.env);pure (ForInStep.yield ok)else pure (ForInStep.yield r)) (TP X pins U Q) X.xe s
def Cs:TT:=λ_ H Q=>Q u0 H
def yi :gJ X [] Cs:=λ_ _ _ H _ I h=>wpAny_tests_nil ⟨H,I,h⟩
def sV (h:PT X c t):gJ X [c] t:=λa s U H Q I b=>wpAny_tests_one (h a s U H Q I b)
def uk (J:It) (g:TG) (n:TT) (l:TE) (e:St) (k:Hp) (Q:VK):Prop:= ∃W:Nat->Nat->List V->St->Hp->Prop,(∃ m,W 0 m [] e k)/\ ∀i m ys τ H,W i m ys τ H →
 (J.stop i H/\ys.length<=sizeLine/\ ∀D,H D=y0->Q (.ref D) (aP H D (.lst ys))) ∨
 (J.go i H/\ys.length<sizeLine/\ ∃N:List V->St->Hp->Prop,(∀ c d H',N c d H'-> ∃h,h<m/\W (i+1) h c d H') ∧
   ∀x H',J.fi i H x H'->g x τ H' λa H2=>n a H2 λb f=>if b=u0 then l a f λy j=>N (ys++ [y]) a j else N ys a f)
abbrev kN (a:Type):=Addr->List Addr->Shared->Hp->a
def mV (k:Nat) (aB:List Nat) (b:TI) (g:kN TG) (a:kN TT) (c:kN TE):TE:=λU H Q=>b U H λJ H1=> ∀C fp s,uk J (g C fp s H1) (a C fp s H1) (c C fp s H1) (lQ k aB U) H1 Q
def Inv.adopt (I:Inv X pins U H s) (j:bA X pins H D) (i:X.s₀.heap.objs.size<=D)
 (e:s.heap.get? D=k0 { cls:= .type "list",data:= .seq its.toArray n }) (r:Vals ys its) (t:ys.length<=sizeLine):Inv X pins U (aP H D (.lst ys)) s:=by
 obtain⟨A,w,F,E,C,m⟩:=j
 have up: ∀b o,H b=k0 o->aP H D (.lst ys) b=k0 o:=λb o q=>by rw [Qa (Zb q A)];exact q
 have a: ∀b o,X.s₀.heap.get? b=k0 o->b≠D:=λb o q z=>by rw [z]at q;exact absurd (Ab3 (Ac1 q) i) (Ai3 _)
 refine⟨I.ok,I.os,I.bare,⟨I.base.keep,I.base.slot,λb o f k B=> ?_,I.base.there,λb d q=>up b _ (I.base.eF b d q),λb o u q=>up b _ (I.base.d3 b o u q),λb v q=> ?_⟩,I.loc,I.cell,?_,λx c q=> ?_,λp h=> ?_,λb u q=> ?_,I.len⟩
 .rw [Qa (a b o f)];exact I.base.free b o f k B
 .obtain⟨more,l⟩:=I.base.eI b v q
  exact⟨more,up b _ l⟩
 .rw [Qa (Ne.symm w)];exact I.free
 .rw [Qa (C x c q)];exact I.cF x c q
 .obtain⟨y,a2,a3⟩:=I.pin p h
  exact⟨y,by rw [Qa (m p h)];exact a2,a3⟩
 .by_cases g:b=D
  .subst g
   rw [wc]at q
   cases q
   exact⟨t,its,n,r,e⟩
  .rw [Qa g]at q
   exact(I.a0 b u q).dN (λ_ _ _ z=>z) (λc z=>up c _ z) λc d z=>up c _ z
theorem Xk {env:Env}: ∀ {b:List (Str×NameKind)}{x},b.lookup x=k0 .free →
 ((b.map λ(n,k)=>if(k==NameKind.free&&env.scope.kind== .function&&env.kindOf n==k0 .cell)then(n,NameKind.cell)else(n,k)).lookup x=k0 .cell ∨
   (b.map λ(n,k)=>if(k==NameKind.free&&env.scope.kind== .function&&env.kindOf n==k0 .cell)then(n,NameKind.cell)else(n,k)).lookup x=k0 .free)
 | [],_,h=>by simp at h
 | (n,k)::r,x,h=>by
  have f:= @Xk env r x
  rw [Ab1]
  rw [Ab7]at h
  cases d:x==n with
  | true=>
   rw [d]at h
   have e:=by simpa using h
   subst e
   by_cases a:(NameKind.free==NameKind.free&&env.scope.kind== .function&&env.kindOf n==k0 .cell)=u0
   .simp only [a,if_true,Ab7,d]
    first | exact .inl rfl | exact .inl trivial | simp
   .have c:=Ak8.mpr a
    simp only [c,Ak4,if_false,Ab7,d]
    first | exact .inr rfl | exact .inr trivial | simp
  | false=>
   rw [d]at h
   have q:=f h
   by_cases a:(k==NameKind.free&&env.scope.kind== .function&&env.kindOf n==k0 .cell)=u0
   .simp only [a,if_true,Ab7,d]
    exact q
   .have c:=Ak8.mpr a
    simp only [c,Ak4,if_false,Ab7,d]
    exact q
structure WZ (X:Cx) (scope:Scope) (N:List Str) (k:Nat) (aB:List Nat):Prop where
 kind:scope.kind= .function
 nd:(scope.names.map Prod.fst).Nodup
 names: ∀y∈scope.names,y.2= .local->scope.names.lookup y.1=k0 .local
 free: ∀y∈scope.names,y.2= .free->X.env.kindOf y.1=k0 .cell\/X.env.kindOf y.1=k0 .free
 gQ: ∀x∈N.drop k,scope.names.lookup x=k0 .free
 aB:cH X aB (N.drop k)
 le:k<=N.length
structure Nr (sc scope:Scope) (N:List Str) (k:Nat):Prop where
 kind:scope.kind= .function
 nd:(scope.names.map Prod.fst).Nodup
 names: ∀y∈scope.names,y.2= .local->scope.names.lookup y.1=k0 .local
 free: ∀y∈scope.names,y.2= .free->sc.names.lookup y.1=k0 .cell\/sc.names.lookup y.1=k0 .free
 gQ: ∀x∈N.drop k,scope.names.lookup x=k0 .free
 le:k<=N.length
section
variable {X:Cx}{elt tg iter:Expr}{ifs:List Expr}{scope:Scope}{pos p0:Pos}{N:List Str}{k:Nat}{aB:List Nat}{wi:TI}{g:kN TG}{tc:kN TT}{te:kN TE}
def Bx (ok:WZ X scope N k aB) (a:Inv X pins U H2 s2) (G: ∀b∈fp,bA X pins H2 b) (O: ∀b∈fp,b<s2.heap.objs.size)
 (t:s2.heap.objs.size<=C) (K:h₁.Ns C m) (g: ∀b o,s2.heap.get? b=k0 o->h₁.get? b=k0 o)
 (d: ∀x c,(hU scope C X.env).lookup x=k0 c->(WT scope X.env).lookup x=k0 c\/(C+1<=c/\(x,NameKind.cell)∈scope.names/\h₁.IsCell c y0)):
 Inv (Je X N scope C fp s2 H2) [] (lQ k aB U) H2 { s2 with heap:=h₁,toks:=tk }:=by
 have sub: ∀x c,(WT scope X.env).lookup x=k0 c->X.env.cells.lookup x=k0 c:=xK scope.names [] λx c e=>by simp at e
 have D: ∀x,(x,NameKind.free)∈scope.names-> ∃c,(WT scope X.env).lookup x=k0 c:=λx F=>by
  obtain⟨c,w⟩:=a.ok.has x (ok.free _ F rfl)
  exact j6 w scope.names [] (.inl F)
 have lt: ∀x c,(WT scope X.env).lookup x=k0 c->c<C+1:=λx c e=>by
  obtain⟨v,o,B,_⟩:=a.cell x c (sub x c e)
  exact Nat.lt_succ_of_le (Ab5 (Ag1 (Ac1 B)) t)
 have keep: ∀x c,(x,NameKind.free)∈scope.names->(WT scope X.env).lookup x=k0 c->(hU scope C X.env).lookup x=k0 c:=λx c F e=>by
  unfold hU
  rw [oi scope.names _ _ λz=>by cases yU ok.nd F z]
  exact e
 have A: ∀x,_∈scope.names\/(x,NameKind.cell)∈scope.names-> ∃c,(hU scope C X.env).lookup x=k0 c:=λx n=>by
  rcases n with n | n
  .obtain⟨c,w⟩:=D x n
   exact⟨c,keep x c n w⟩
  .exact Ah9.mp (Am8 scope.names _ _ (.inl (pd ok.nd n)))
 refine⟨⟨a.ok.mod,ok.kind,a.ok.glob,a.ok.blt,t,(oB scope.names _ _ lt λx y c M H=>a.ok.inj x y c (sub x c M) (sub y c H)),λx n=>A x (WX n),λx c s e=> ?_,a.ok.hd,a.ok.frames,.inl rfl,λb h=>⟨?_,λx c e=> ?_⟩,
  λb o e=>a.bs b o e,Ab5 a.ok.hJ a.sz,λb o e h=> ?_,λb h z=>(Ab8.mp (a.dC b z)).elim (G b h).2.1 (G b h).2.2.1,a.stack,a.eZ⟩,
  rfl,a.bare,Un.kept g,⟨m,K,λi x v e1 e2 Y=> ?_⟩,λx c e=> ?_,a.a0.fresh t,λx c e=> ?_,λp V=>absurd (show p∈([]:List _)from V) (by simp),a.a0.kept g,?_⟩
 .have s:=of_decide_eq_true s
  rcases d x c e with q | q
  .rcases XN scope.names [] q with z | z
   .simp at z
   .have:=pd ok.nd z
    rw [s]at this
    cases this
  .exact Ab5 t (Ab5 (Ag4 C) q.1)
 .show b≠C
  exact Ac6 (Ab3 (O b h) t)
 .rcases d x c e with q | q
  .exact(G b h).2.2.2.2.1 x c (sub x c q)
  .exact Ne.symm (Ac6 (Ab3 (O b h) (Ab5 t (Ab5 (Ag4 C) q.1))))
 .rcases (G b h).2.2.2.1 with z | z
  .exact a.ok.iq b o e z
  .have M:=Ac1 e
   have H:=a.ok.hJ
   exact absurd (Ab3 M (Ab5 H z)) (Ai3 _)
 .have f:k<=i:=by
   by_cases f:i<k
   .have e2:(Ab k y0++aB.map λ(j:Nat)=>(U[j]?).join)[i]? =k0 _:=e2
    rw [Ac9 (by simpa using f),Ai2,if_pos f]at e2
    cases e2
   .lia
  have E:(N.drop k)[i-k]? =k0 x:=by
   rw [List.getElem?_drop,show k+(i-k)=i by lia];exact e1
  have I:(aB.map λ(j:Nat)=>(U[j]?).join)[i-k]? =k0 (k0 v):=by
   have e2:(Ab k y0++aB.map λ(j:Nat)=>(U[j]?).join)[i]? =k0 _:=e2
   rw [Ad9 (by simpa using f),Ae2]at e2
   exact e2
  obtain⟨j,S,Q,P⟩:=ok.aB.get (U:=U) E I
  obtain⟨m2,Z,T⟩:=a.loc
  obtain⟨u,r,l⟩:=T j x v S Q (.inr (P.elim (λz=> .inl z) λz=> .inr z))
  refine⟨u,r,.inr ?_⟩
  have s:=ok.gQ x (Ac4 E)
  refine⟨Xk s,?_⟩
  obtain⟨c,w⟩:=D x (PySem.mem_of_lookup s)
  refine⟨c,keep x c (PySem.mem_of_lookup s) w,?_⟩
  rcases l with⟨R,_⟩ | ⟨_,W,J,o,B,L⟩
  .rcases P with z | z<;>(rw [R]at z;cases z)
  .have d:=sub x c w
   rw [J]at d
   cases d
   exact⟨o,g _ o B,L⟩
 .rcases d x c e with q | q
  .obtain⟨v,o,B,L⟩:=a.cell x c (sub x c q)
   exact⟨v,o,g c o B,L⟩
  .exact⟨y0,q.2.2⟩
 .rcases d x c e with q | q
  .exact a.cF x c (sub x c q)
  .exact a.a0.fresh (Ab5 t (Ab5 (Ag4 C) q.1))
 .show(Ab k y0++aB.map λ(j:Nat)=>(U[j]?).join).length=N.length
  have H:=ok.le
  rw [Aa6,Ae2,Aa,ok.aB.length,Af7]
  lia
def J4 (use) (hc:X.calm=u0) (ok:WZ X scope N k aB) (hi:PI X tg iter wi)
 (hg: ∀C fp s H,PG (Je X N scope C fp s H) tg (g C fp s H)) (ht: ∀C fp s H,gJ (Je X N scope C fp s H) ifs (tc C fp s H)) (he: ∀C fp s H,PE (Je X N scope C fp s H) elt (te C fp s H))
 (hs: ∀x,foldedSetIterable iter X.env x=pure x)
 (I:Inv X pins U H s) (h:mV k aB wi g tc te U H Q)
 (fin: ∀(D C:Addr) (oC:Obj) (m:Str->Option Value) (H4:Hp) (s4:Shared),Inv X (pins++ [(C,oC)]) U H4 s4->bA X pins H4 C->Q (.ref D) H4->(∀ h:Heap,h.get? C=k0 oC->h.Ns C m) →
   compPost (model X.prog X.w) X.A X.xe use Q' (.ref D) C (.ok .next) s4):
 wpAny (model X.prog X.w) X.A (comprehension (.ListComp elt [⟨tg,iter,ifs,0⟩] scope pos) scope X.env p0 (newList []) k9 (eval iter X.env) use) Q' X.xe s:=by
 have hcl:closureFor scope X.env=pure _:=QS λy hy hf=>I.ok.has y.1 (ok.free y hy hf)
 refine wpAny_comprehension_free (use:=use) rfl hs hcl ok.kind ok.names (aO (hi pins s U H _ I h) λv s1 h1=>aO h1 λitv s2 h2=> ?_)
 obtain⟨it,fp,tn,J,H2,e,I2,T,st2,f2,hW⟩:=h2
 subst e
 refine wpAny_newObj_type (xC ?_)
 dsimp only
 generalize hHp:s2.heap.push { cls:= .type "list",dict:=none,data:= .seq ([]:List Value).toArray }=HP
 have hCs:HP.objs.size=s2.heap.objs.size+1:=by rw [← hHp,Al]
 generalize hDD:s2.heap.objs.size=D at hCs ⊢
 have hns0:(HP.push { cls:= .type "dict",data:= .dict #[] }).Ns HP.objs.size fun _=>none:=Heap.Ns.new HP _
 have hlk: ∀x c,(hU scope HP.objs.size X.env).lookup x=some c->(WT scope X.env).lookup x=some c\/(HP.objs.size+1<=c/\(x,NameKind.cell)∈scope.names/\(pushCells (HP.push { cls:= .type "dict",data:= .dict #[] }) scope.names).IsCell c none):=fun x c e=>by
  refine W7 scope.names _ _ True (λ_=> .inl trivial) _ (by rw [Al];exact Aa9 _) ?_
  rw [Al]
  exact e
 generalize hh1:pushCells _ scope.names=h₁ at hlk ⊢
 have hns₁:h₁.Ns HP.objs.size λ_=>none:=by rw [← hh1];exact hns0.keeps (pushCells_keeps _ _)
 have hk1: ∀b o,HP.get? b=k0 o->h₁.get? b=k0 o:=λb o e=>by
  rw [← hh1]
  exact pushCells_keeps _ _ b o (Ab2 _ e)
 generalize hCC:HP.objs.size=C at hCs hns₁ hlk ⊢
 have hDC:D≠C:=by rw [hCs];exact Ac6 (Ag _)
 have hle:s2.heap.objs.size<=C:=by rw [hDD,hCs];exact Ag4 _
 have hleD:s2.heap.objs.size<=D:=Al1 hDD
 have fo: ∀b∈fp,b<D:=λb hb=>by
  obtain⟨o,eo,_⟩:=T.obj _ _ st2 b hb
  rw [← hDD]
  exact Ac1 eo
 have old: ∀b o,s2.heap.get? b=k0 o->h₁.get? b=k0 o:=λb o e=>by
  exact hk1 b o (hHp▸Ab2 _ e)
 have hacc:h₁.get? D=k0 { cls:= .type "list",data:= .seq ([]:List Value).toArray }:=by
  refine hk1 _ _ ?_
  rw [← hHp,←hDD]
  exact Ac7 _ rfl
 obtain⟨W,⟨m0,w0⟩,turn⟩:=hW C fp s2
 have I3:Inv _ [] _ H2 { s2 with heap:=h₁,toks:=s2.toks }:=
  Bx ok I2 f2 (λb hb=>by rw [hDD];exact fo b hb) hle hns₁ old hlk
 have st3:tn 0 h₁:=T.keep _ _ _ st2 λb _ o e=>old b o e
 have hch: ∀b∈fp,_/\b≠X.env.locals/\(∀ x c,X.env.cells.lookup x=k0 c->c≠b)/\ ∀p∈X.pn++pins,p.1≠b:=λb hb=>⟨(f2 b hb).2.2.2.1,(f2 b hb).2.1,(f2 b hb).2.2.2.2.1,(f2 b hb).2.2.2.2.2⟩
 have FD: ∀ {H':Hp},H' D=y0->bA X pins H' D:=λhn=>I2.c8 hleD hn
 have FC: ∀ {H':Hp},H' C=y0->bA X pins H' C:=λhn=>I2.c8 hle hn
 have sub: ∀x c,(WT scope X.env).lookup x=k0 c->X.env.cells.lookup x=k0 c:=xK scope.names [] λx c e=>by simp at e
 have hDst:D∉fy X.stack:=λz=>(Ab8.mp (I2.dC D z)).elim (FD (H':=λ_=>y0) rfl).2.1 (FD (H':=λ_=>y0) rfl).2.2.1
 have hDc: ∀x c,(hU scope C X.env).lookup x=k0 c->c≠D:=λx c e=>by
  rcases hlk x c e with q | q
  .exact(FD (H':=λ_=>y0) rfl).2.2.2.2.1 x c (sub x c q)
  .exact Ne.symm (Ac6 (Ab3 (by rw [hCs];exact Nat.lt_succ_of_lt (Ag _)) q.1))
 have loop: ∀s₃:Shared,s₃= { s2 with heap:=h₁,toks:=s2.toks } →
  codeAny (model X.prog X.w) X.A (.compLoop (.ListComp elt [⟨tg,iter,ifs,0⟩] scope pos) 0 (.ref it) (.ref D) (compEnvC scope (hU scope C X.env) C X.env))
   (compPost (model X.prog X.w) X.A X.xe use Q' (.ref D) C) s₃:=by
  rintro s₃ rfl
  refine Z5 (λn s'=> ∃i ys its kk τ H',Inv (Je X N scope C fp s2 H2) [] τ H' s'/\tn i s'.heap/\(∀ b∈fp,H' b=y0)/\H' D=y0/\s'.heap.get? D=k0 { cls:= .type "list",data:= .seq (its:List Value).toArray kk }/\Vals ys its/\W i n ys τ H')
   ?_ m0 ⟨0,[],[],0,_,H2,I3,st3,λb hb=>(f2 b hb).1,I2.a0.fresh hleD,hacc,.nil,w0⟩
  rintro n s3 ⟨i,ys,its,kk,τ,H3,I3,st3,fr3,hD3,eD3,rv3,w3⟩
  have IP:Inv (Je X N scope C fp s2 H2) [(D,{ cls:= .type "list",data:= .seq its.toArray kk })] τ H3 s3:=I3.bR fun p hp=>by
   have e:p=(D,{ cls:= .type "list",data:= .seq its.toArray kk }):=by simpa using hp
   subst e
   exact⟨eD3,hD3,hDC,hDst,λv z=>by cases z⟩
  have fpok: ∀ {H':Hp},(∀ b∈fp,H' b=y0)-> ∀b∈fp,bA (Je X N scope C fp s2 H2) [(D,{ cls:= .type "list",data:= .seq its.toArray kk })] H' b:=fun {H'} hn b hb=>by
   refine⟨hn b hb,I3.ok.vk b hb |>.1,I3.ok.iM b hb,.inl hb,I3.ok.vk b hb |>.2,λp hp=> ?_⟩
   have e:p=(D,{ cls:= .type "list",data:= .seq its.toArray kk }):=by
    have hp:p∈([]:List (Addr×Obj))++ [(D,{ cls:= .type "list",data:= .seq its.toArray kk })]:=hp
    simpa using hp
   rw [e]
   exact Ne.symm (Ac6 (fo b hb))
  rcases turn i n ys τ H3 w3 with⟨stop,hz,q⟩ | ⟨go,hz,NN,hN,step⟩
  .refine aO (T.done (Je X N scope C fp s2 H2) rfl rfl rfl hc i _ s3 τ H3 _ IP (fpok fr3) st3 stop) ?_
   rintro r s4 ⟨hr,I4⟩
   subst hr
   have I5:Inv X pins U H3 s4:=I2.lG (ch:=fp) I4.os I4.base I4.a0 I4.bare hch
   have I6:=I5.adopt (FD hD3) (Ab5 I2.sz hleD) ((I4.pin _ (Ab0 _ Aa5)).1) rv3 hz
   obtain⟨m,⟨oC,es,ep,hoC,hdC,hr⟩,_⟩:=I4.loc
   have fC:bA X pins (aP H3 D (.lst ys)) C:=FC (by rw [Qa (Ne.symm hDC)];exact I4.free)
   have I7:Inv X (pins++ [(C,oC)]) U (aP H3 D (.lst ys)) s4:=I6.bR λp hp=>(Ac8.mp hp).elim (λz=>I6.pin p (Ab0 _ z)) λz=>by
    have e:p=(C,oC):=by simpa using z
    subst e
    exact⟨hoC,fC.1,fC.2.1,fC.2.2.1,λv z=>by rw [hdC]at z;cases z⟩
   exact fin D C oC m _ s4 I7 fC (q D hD3) λh e=>⟨oC,es,ep,e,hdC,hr⟩
  .refine aO (T.item (Je X N scope C fp s2 H2) rfl rfl rfl hc i _ s3 τ H3 _ IP (fpok fr3) st3 go) ?_
   rintro r s4 ⟨u,hr,h4⟩
   subst hr
   refine aO h4 ?_
   rintro _ s5 ⟨x,H5,I5,r5,y5,st5,fr5⟩
   have I5':=I5.pinned (fpok fr5) (T.obj _ _ st5)
   refine wpAny_mono (hg C fp s2 H2 _ s5 τ H5 x u _ I5' r5 (step x H5 y5)) (λ_ s6 ⟨U6,H6,I6,q6⟩=> wpAny_mono (ht C fp s2 H2 _ s6 U6 H6 _ I6 q6) (λb s7 ⟨H7,I7,q7⟩=> ?_) λ_ _ z=>False.elim z) λ_ _ z=>False.elim z
   have hp5: ∀b∈fp,∃o,s5.heap.get? b=k0 o:=λb hb=>let ⟨o,e,_⟩:=T.obj _ _ st5 b hb; ⟨o,e⟩
   cases b with
   | false=>
    rw [if_neg Ac3]at q7 ⊢
    obtain⟨m',hm,w7⟩:=hN _ _ _ q7
    refine⟨m',hm,i+1,ys,its,kk,U6,H7,I7.bR λp hp=>absurd hp (by simp),T.keep _ _ _ st5 λb hb o e=>(I7.pin (b,o) (Ab0 _ (Ab0 _ (Zg hb e)))).1,λb hb=> ?_,?_,?_,rv3,w7⟩
    .obtain⟨o,e⟩:=hp5 b hb
     exact(I7.pin (b,o) (Ab0 _ (Ab0 _ (Zg hb e)))).2.1
    .exact(I7.pin _ (Ab0 _ (Ad _ Aa5))).2.1
    .exact(I7.pin _ (Ab0 _ (Ad _ Aa5))).1
   | true=>
    rw [if_pos rfl]at q7 ⊢
    refine wpAny_mono (he C fp s2 H2 _ s7 U6 H7 _ I7 q7) (λy s8 ⟨yv,H8,I8,r8,q8⟩=> ?_) λ_ _ z=>False.elim z
    have pD:=I8.pin _ (Ab0 _ (Ad _ Aa5))
    have eD8:s8.heap.get? D=k0 { cls:= .type "list",data:= .seq its.toArray kk }:=pD.1
    have hD8:H8 D=none:=pD.2.1
    have u7:=rv3.length
    refine call_meets F.slot_list_append ⟨_,eD8,rfl⟩ F.entry_list_append (F.args_list_append_2 _ _) (PySem.list_append D its.toArray kk y (by rw [Ac0];lia)) ⟨eD8,?_⟩
    obtain⟨m',hm,w8⟩:=hN _ _ _ q8
    have IQ:Inv (Je X N scope C fp s2 H2) (WN fp s5.heap) U6 H8 s8:=I8.bR λp hp=>I8.pin p (Ab0 _ (Ab0 _ hp))
    have e9:=PySem.IsL.update eD8 (·.push y)
    rw [show its.toArray.push y=(its++ [y]).toArray by simp]at e9
    have I9:Inv (Je X N scope C fp s2 H2) (WN fp s5.heap) U6 H8 { s8 with heap:=s8.heap.update D (Obj.mapSeq (·.push y)),toks:=s8.toks }:=
     IQ.turned (it:=D) (λb o hb e=>(An0 s8.heap (Obj.mapSeq (·.push y)) (Ne.symm hb)).trans e) hD8 hDC (.inr hleD) hDc λp hp=>by
      have hp:p∈([]:List (Addr×Obj))++WN fp s5.heap:=hp
      have:=fo p.1 (QZ (by simpa using hp)).1
      exact Ac6 this
    refine⟨m',hm,i+1,ys++ [yv],its++ [y],_,U6,H8,I9.bR λp hp=>absurd hp (by simp),T.keep _ _ _ st5 λb hb o e=>(I9.pin (b,o) (Ab0 _ (Zg hb e))).1,λb hb=> ?_,hD8,e9,rv3.append (.cons r8 .nil),w8⟩
    obtain⟨o,e⟩:=hp5 b hb
    exact(I9.pin (b,o) (Ab0 _ (Zg hb e))).2.1
 exact codeAny_compStart_list (loop _ rfl) (T.self _ 0 _ _ _ st3 (loop _ rfl))
def AI (ok:WZ X scope N k aB) (u:PI X tg iter wi)
 (l: ∀C fp s H,PG (Je X N scope C fp s H) tg (g C fp s H)) (p: ∀C fp s H,gJ (Je X N scope C fp s H) ifs (tc C fp s H)) (t: ∀C fp s H,PE (Je X N scope C fp s H) elt (te C fp s H))
 (v:X.calm=true:=by rfl) (j: ∀x,foldedSetIterable iter X.env x=pure x:=by intro _;rfl):PE X (.ListComp elt [⟨tg,iter,ifs,0⟩] scope pos) (mV k aB wi g tc te):=by
 intro f s U H Q I h
 exact J4 y0 v ok u l p t j I h λD C z m n y i a q d=> ⟨m,d _ (i.pin _ (Ab0 _ (Ab0 _ Aa5))).1,λw c=>⟨.ref D,n,(i.bI).turned (λb o r e=>c.extBut b o r e) a.1 a.2.1 a.2.2.2.1 a.2.2.2.2.1 a.2.2.2.2.2,rfl,q⟩⟩
def EC (J:X.N.Nodup) (c:X.N[i]? =k0 x) (E:ky X.env.scope x) (ok:WZ X scope N k aB) (G:PI X tg iter wi)
 (r: ∀C fp s H,PG (Je X N scope C fp s H) tg (g C fp s H)) (A: ∀C fp s H,gJ (Je X N scope C fp s H) ifs (tc C fp s H)) (F: ∀C fp s H,PE (Je X N scope C fp s H) elt (te C fp s H))
 (j:swapsWith (.ListComp elt [⟨tg,iter,ifs,0⟩] scope p0) (k0 (.Name x pos')) pos.line X.env=pure true:=by rfl)
 (K:X.calm=true:=by rfl) (p: ∀x,foldedSetIterable iter X.env x=pure x:=by intro _;rfl) (w:X.fn x=u0\/X.env.scope.names.lookup x=k0 .local:=by first | exact .inl rfl | exact .inr rfl | assumption):
 PS X (.Assign [.Name x pos'] (.ListComp elt [⟨tg,iter,ifs,0⟩] scope p0) pos) (gX (mV k aB wi g tc te) (X5 i)):=by
 intro l s U H D I h
 rw [exec_Assign_Name_used _ _ _ _ j]
 exact wpAny_bind (wpAny_standAt (wpAny_bind (wpAny_bind (wpAny_mono (J4 _ K ok G r A F p I h λt C Q m y O z a q f=> wpAny_assign_Name (XR z J c E (v:= .ref t) rfl (λM n=> ⟨m,f _ (n.pin _ (Ab0 _ (Ab0 _ Aa5))).1,λL d=>⟨_,y,(n.bI).turned (λb o B e=>d.extBut b o B e) a.1 a.2.1 a.2.2.2.1 a.2.2.2.2.1 a.2.2.2.2.2,q⟩⟩) w)) (λ_ P u=>wpAny_pure (wpAny_pure u)) λ_ _ e=>e))))
end
def X0 {K:Aa8}(c:Nat->List V->St->Hp->Prop) (v:xs.length<=1000) (r:c 0 [] τ0 H1) (s: ∀i ys τ H,c i ys τ H->ys.length<=i)
 (l: ∀i ys τ H,i<=xs.length->c i ys τ H->bu K H a xs)
 (f: ∀i ys τ H x,xs[i]? =k0 x->c i ys τ H->g x τ H λj H2=>tc j H2 λb L=>if b=u0 then te j L λy M=>c (i+1) (ys++ [y]) j M else c (i+1) ys j L)
 (u: ∀ys τ H,c xs.length ys τ H-> ∀D,H D=y0->Q (.ref D) (aP H D (.lst ys))):uk (ib K a) g tc te τ0 H1 Q:=by
 refine⟨λi m ys τ H=>m=xs.length-i/\i<=xs.length/\c i ys τ H,⟨xs.length,by simp,Ae6 _,r⟩,?_⟩
 rintro i m ys τ H ⟨rfl,t,p⟩
 have z:=s i ys τ H p
 have q:=l i ys τ H t p
 by_cases d:i<xs.length
 .refine .inr ⟨⟨xs,xs[i],q,by simp [d]⟩,qm (by lia),c _,λh n o k=>⟨xs.length-(i+1),by lia,rfl,d,k⟩,λx o y=> ?_⟩
  obtain⟨e,y⟩:=y
  subst e
  exact f i ys τ _ x (y xs q) p
 .have e:i=xs.length:=by lia
  subst e
  exact .inl ⟨⟨xs,q,Aa9 _⟩,Ag1 (qm (by lia)),u ys τ H p⟩
structure Nd (P:Program) (w:World) (K:Aa8) (mg:Str->Option Value) (base:Heap) (k:Nat) (x:Str) (ps:List Str) (sp:Sp):Prop where
 ex: ∃f fd,XG P w K mg base kQ k f fd ps sp/\Binds K fd ps []/\Ah5 K (.ref f)=u0/\mg x=k0 (.ref f)
open PySem PySem.Spec PySem.Calls PySem.W PyProof.Rows
structure Ng (K:Frag) (C:Addr):Prop where
 ga:findIn K (.ref C) "__getattribute__" =some (some (.builtin "BaseException.__getattribute__"))
 gn:findIn K (.ref C) "__getattr__" =some none
 cl:findIn K (.ref C) "__class__" =some (some (.builtin "object.__class__"))
 get:specialIn K (.builtin "object.__class__") "__get__" =some (some (.builtin "getset_descriptor.__get__"))
 set:takesIn K (.builtin "object.__class__")=some true
 obj:mroIn K C (.type "object")=some true
 bas:mroIn K C (.type "BaseException")=some true
 slf:kitCls K (.ref C) (.ref C)=k0 u0
 cls:(clsIn K C).isSome=u0
section
variable {P:Program}{w:World}{K:Frag}{mg:Str->Option Value}{base:Heap}{N:List Str}{k7:Str}{scope:Scope}{f:Addr}{cd:Value}{A:Around}{outer:List Env}{s:Shared}{H:Hp}{E:XK}
abbrev uP:List Value:= [.type "ValueError",.type "Exception",.type "BaseException",.type "object"]
end
def QR (K):PySem.W.kitOne K (.type "list") (.type "list")=some true:=by kernel_rfl
theorem yt: ∀ {xs}{i},Vals xs i->Vals xs.reverse i.reverse
 | _,_,.nil=> .nil
 | _::_,_::_,.cons r t=>by
  rw [Am6,Am6]
  exact(yt t).append (.cons r .nil)
section
variable {X:Cx}
def Vals.iy (r:Vals xs us){i:Nat}(h:us[i]? =k0 u): ∃x,xs[i]? =k0 x/\RelV x u:=by
 have d:=r.length
 have e:=(Aa0.mp h).1
 have a:i<xs.length:=by lia
 obtain⟨f,b,c⟩:=r.get (Aa4 a)
 rw [h]at b
 cases b
 exact⟨_,Aa4 a,c⟩
def Em (bs:List Bool):(Aa3 bs.length).all (λi=>bs.getD i k9)=bs.all id:=by
 induction bs with
 | nil=>rfl
 | cons b bs a=>
  rw [Aa7,Ah3,Al6,An6,Al6,←a]
  rfl
def Li (bs:List Bool):(Aa3 bs.length).any (λi=>bs.getD i k9)=bs.any id:=by
 induction bs with
 | nil=>rfl
 | cons b bs a=>
  rw [Aa7,Ah3,Ag9,Ap2,Ag9,←a]
  rfl
def WW {bs:List Bool}(r:Vals (bs.map V.bl) its):TruthOf P w A (λi v=>its.toArray[i]? =k0 v) (λi=>bs.getD i k9):=by
 intro i v s Q E g d
 obtain⟨x,a,f⟩:=r.iy (by simpa using g)
 rw [Ac]at a
 cases c:bs[i]? with
 | none=>rw [c]at a;cases a
 | some b=>
  rw [c]at a
  cases a
  cases f
  refine wpAny_truthy_bool ?_
  have e:bs.getD i k9=b:=by rw [Ac5,c];rfl
  rw [← e]
  exact d
def AZ (n:X.calm=u0):ju X (.builtin "all") (fun xs H Q=> ∃p,∃bs:List Bool,xs= [.ref p]/\bu X.K H p (bs.map V.bl)/\Q (.bl (bs.all id)) H):=by
 intro c s U H xs w Q I r h
 obtain⟨p,bs,rfl,l,q⟩:=h
 obtain⟨u,rfl,t⟩:=jN r
 cases t
 obtain⟨d,rv,pl,x⟩:=I.list l
 have a:=rv.length
 rw [Aa]at a
 refine call_all_walk (wpAny_pyIter_list pl.isList ?_)
 have f:p≠s.heap.objs.size:=by
  obtain⟨o,m,_⟩:=pl.isList
  exact Ac6 (Ac1 m)
 refine⟨s.heap.objs.size,_,_,_,_,_,λi=>bs.getD i k9,rfl,Walks.list (A:=X.A.in1) (I.ok.hd n) _ p f d.toArray,⟨⟨_,Ac7 _ rfl,rfl,rfl⟩,pl.isList.at λo e=>Ab2 _ e⟩,WW rv,λg j k=> ?_⟩
 have v:Inv X c U H { s with heap:=g,toks:=j }:=I.kept λb o e=>k b o (by simp;exact Ac6 (Ac1 e)) (Ab2 _ e)
 refine⟨.bl _,H,v,?_,q⟩
 show _=_
 rw [Ac0,←a,Em]
def M5 (n:X.calm=u0):ju X (.builtin "any") (fun xs H Q=> ∃p,∃bs:List Bool,xs= [.ref p]/\bu X.K H p (bs.map V.bl)/\Q (.bl (bs.any id)) H):=by
 intro c s U H xs w Q I r h
 obtain⟨p,bs,rfl,l,q⟩:=h
 obtain⟨u,rfl,t⟩:=jN r
 cases t
 obtain⟨d,rv,pl,x⟩:=I.list l
 have a:=rv.length
 rw [Aa]at a
 refine call_any_walk (wpAny_pyIter_list pl.isList ?_)
 have f:p≠s.heap.objs.size:=by
  obtain⟨o,m,_⟩:=pl.isList
  exact Ac6 (Ac1 m)
 refine⟨s.heap.objs.size,_,_,_,_,_,λi=>bs.getD i k9,rfl,Walks.list (A:=X.A.in1) (I.ok.hd n) _ p f d.toArray,⟨⟨_,Ac7 _ rfl,rfl,rfl⟩,pl.isList.at λo e=>Ab2 _ e⟩,WW rv,λg j k=> ?_⟩
 have v:Inv X c U H { s with heap:=g,toks:=j }:=I.kept λb o e=>k b o (by simp;exact Ac6 (Ac1 e)) (Ab2 _ e)
 refine⟨.bl _,H,v,?_,q⟩
 show _=_
 rw [Ac0,←a,Li]
def gj:List Int->Int
 | []=>0
 | i::r=>i+gj r
theorem z0: ∀(xs) (x),gj (xs++ [x])=gj xs+x
 | [],x=>by simp [gj]
 | y::a,x=>by
  show y+gj (a++ [x])=y+gj a+x
  rw [z0 a x];lia
theorem qL (ns:List Int): ∀j,j<=ns.length->preSum (λi=>ns.getD i 0) j=gj (ns.take j)
 | 0,_=>rfl
 | j+1,h=>by
  rw [preSum,qL ns j (by lia),List.take_succ,Aa4 (by lia)]
  show _=gj (ns.take j++ [ns[j]])
  rw [z0,Ac5,Aa4 (by lia)]
  rfl
end
section
variable {X:Cx}
theorem qE: ∀ {j}{i},Vals (j.map V.str) i->StrsAre i j
 | [],i,r=>by cases r;exact .nil
 | z::j,i,r=>by
  cases r with
  | cons h t=>
   obtain⟨k,rfl⟩:=h
   exact .cons _ _ (qE t)
theorem yd: ∀ {j}{i},StrsAre j i->Vals (i.map V.str) j
 | _,_,.nil=> .nil
 | _,_,.cons _ _ h=> .cons ⟨_,rfl⟩ (yd h)
def J0:ju X (.builtin "sorted") (fun xs H Q=> ∃p,∃j:List Str,xs= [.ref p]/\bu X.K H p (j.map V.str)/\j.length<64/\ ∀i,i.Perm j->sortedS i=true-> ∀l,H l=none->Q (.ref l) (aP H l (.lst (i.map V.str)))):=by
 intro f s U H xs x Q I r h
 obtain⟨p,j,rfl,k,m,q⟩:=h
 obtain⟨u,rfl,t⟩:=jN r
 cases t
 obtain⟨d,rv,pl,g⟩:=I.list k
 have a:=rv.length
 rw [Aa]at a
 refine sorted_strs pl.isList (qE rv) (by lia) λc i n a2 a3=> ?_
 obtain⟨e,w⟩:=sortedAll_at s.heap d c
 have v:i.length<=sizeLine:=by rw [a2.length_eq];rw [Aa]at g;exact g
 refine⟨.ref _,_,I.laid (λb o e=>sortedAll_old e) (Ag4 _) (show a8 X.prog X.w _ _ _ (.lst _)from⟨by rw [Aa];exact v,c.toList,e,yd n,by simpa [seqObj]using w⟩),rfl,q i a2 a3 _ (I.a0.fresh (Ag4 _))⟩
end
section
variable {X:Cx}
def g6 (x:Str) (n:Nat):Str:=⟨(Ab n x.cps).foldl (· ++ ·) #[]⟩
theorem zY : ∀ n (a b:Array α),((Ab n a).foldl (· ++ ·) b).toList=b.toList++(Ab n a.toList).flatten
 | 0,a,b=>by simp
 | n+1,a,b=>by
  rw [Af2,Ak3,zY n,Af2,List.flatten_cons]
  simp
def ZK (x) (n):(g6 x n).cps.toList=(Ab n x.cps.toList).flatten:=by
 unfold g6
 rw [zY]
 simp
def CB (x) (n):(g6 x n).length=x.length*n:=by
 show(g6 x n).cps.size=x.cps.size*n
 rw [← Ai0,ZK]
 simp [An8]
def ux {a b:Str}(h:a.cps.toList=b.cps.toList):a=b:=by
 cases a;cases b
 simp [Str.mk.injEq]
 exact Array.toList_inj.mp h
def Il:b0 X (binaryOp .Mult) (λx y H Q=> ∃z k,x= .str z/\y= .int k/\0<=k/\k<=1000/\z.length*k.toNat<=1000000/\Q (.str (g6 z k.toNat)) H):=by
 intro pins s U H x y v u Q I rx ry h
 obtain⟨z,k,rfl,rfl,h0,h1,hl,q⟩:=h
 obtain⟨t,rfl⟩:=rx
 obtain⟨t',rfl⟩:=ry
 have hsz:(g6 z k.toNat).length<=sizeLine:=by rw [CB];exact Ab5 hl (by decide)
 refine P.mul_str (by
  have a: ¬k< -(2 ^ 63:Int):=by lia
  have b: ¬k>=2 ^ 63:=by lia
  rw [decide_eq_false a,decide_eq_false b];rfl) (λc1 c2=> ?_) (λc1 c2=> ?_) ?_
 .have hk:=by omega
  have:(2:Int) ^ 63-1>=(z.length:Int)*k:=by
   have e:((z.length*k.toNat:Nat):Int)=(z.length:Int)*k:=by rw [Int.natCast_mul,Int.toNat_of_nonneg h0]
   have:=hl
   lia
  have:=Int.le_ediv_of_mul_le (c:=k) (by omega) (by omega)
  lia
 .unfold Builtin.Str.tooLong
  exact decide_eq_false (by have:sizeLine>=1000000:=by decide
                            lia)
 .by_cases c1:k<1
  .have hk:k=0:=by lia
   subst hk
   rw [if_pos c1]
   exact⟨by decide,.str _,H,I.kept λb o e=>e,⟨_,rfl⟩,q⟩
  .rw [if_neg c1]
   by_cases c2:(k==1||z.length==0)=u0
   .rw [if_pos c2]
    have e:g6 z k.toNat=z:=by
     apply ux
     rw [ZK]
     obtain c | c:=Ao5.mp c2
     .have:k=1:=by simpa using c
      subst this
      simp
     .have:z.cps.toList= []:=by
       have c:z.length=0:=by simpa using c
       have c:z.cps.size=0:=c
       rw [← Ai0]at c
       exact Ai5 c
      rw [this]
      simp
    rw [e]at q
    exact⟨.str z,H,I,⟨t,rfl⟩,q⟩
   .rw [if_neg c2]
    exact⟨hsz,.str _,H,I.kept λb o e=>e,⟨_,rfl⟩,q⟩
def Bk:b0 X (binaryOp .Add) (λx y H Q=> ∃a b ys,x= .ref a/\y= .ref b/\cj X.K H a []/\cj X.K H b ys/\Q (.ref b) H):=by
 intro l s U H x y v u Q I D G h
 obtain⟨a,b,ys,rfl,rfl,A,C,q⟩:=h
 cases D
 cases G
 obtain⟨B,w,E,_⟩:=I.tuple A
 obtain⟨d,J,F,_⟩:=I.tuple C
 cases w
 obtain⟨⟨p,dd,k,sl⟩,m,z,n,t⟩:=id E
 obtain⟨⟨o,i,e,f⟩,c,j,r,g⟩:=id F
 subst z t j g
 exact concat_meets ⟨_,m,rfl⟩ ⟨_,c,rfl⟩ noFill_tuple_add seq_tuple_add PySem.F.slot_tuple_add PySem.F.entry_tuple_add (PySem.F.args_tuple_add_2 _ _)
  (tuple_addW0 a b _ d.toArray n r dd i sl f rfl) ⟨m,c,.ref b,H,I,rfl,q⟩
def A3 (F:X.calm=u0):ju X (.builtin "sum") (fun xs H Q=> ∃p,∃ns:List Int,xs= [.ref p]/\bu X.K H p (ns.map V.int)/\Q (.int (gj ns)) H):=by
 intro d s U H xs G Q I r h
 obtain⟨p,ns,rfl,y,q⟩:=h
 obtain⟨u,rfl,C⟩:=jN r
 cases C
 obtain⟨k,rv,pl,J⟩:=I.list y
 have a:=rv.length
 rw [Aa]at a
 refine call_sum_walkG (wpAny_pyIter_list pl.isList ?_)
 have j:p<s.heap.objs.size:=by
  obtain⟨o,B,_⟩:=pl.isList
  exact Ac1 B
 have f:s.heap.objs.size<(s.heap.push { cls:= .type "list_iterator",data:= .fields #[.ref p,.int 0 0] }).objs.size:=Heap.lt_size (Heap.get?_push_size _ rfl)
 refine⟨s.heap.objs.size,_,_,_,_,_,λi=>ns.getD i 0,rfl,Walks.list (A:=X.A.in1) (I.ok.hd F) _ p (Ac6 j) k.toArray,⟨⟨_,Ac7 _ rfl,rfl,rfl⟩,pl.isList.at λo e=>Ab2 _ e⟩,λb c=> ?_,λi v n=> ?_,λl m z w=> ?_⟩
 .simp [or_false]at c
  obtain rfl | rfl:=c
  .exact f
  .exact Nat.lt_trans j f
 .obtain⟨x,g,E⟩:=rv.iy (by simpa using n)
  rw [Ac]at g
  cases c:ns[i]? with
  | none=>rw [c]at g;cases g
  | some b=>
   rw [c]at g
   cases g
   obtain⟨t,rfl⟩:=E
   exact⟨t,by show Value.int b t=Value.int (ns.getD i 0) t;rw [Ac5,c];rfl⟩
 .have D:Inv X d U H { s with heap:=l,toks:=m }:=I.kept λb o e=>w b o (by simp;exact Ac6 (Ac1 e)) (Ab2 _ e)
  refine⟨.int _,H,D,⟨z,?_⟩,q⟩
  rw [Ac0,←a,qL ns _ (Aa9 _),Ap5]
theorem qP: ∀ {ns}{i},Vals (ns.map V.int) i-> ∃ps:List (Int×Tok),i=ps.map (λp=> .int p.1 p.2)/\ps.map (·.1)=ns
 | [],i,r=>by cases r;exact⟨[],rfl,rfl⟩
 | n::ns,i,r=>by
  cases r with
  | cons h t=>
   obtain⟨k,rfl⟩:=h
   obtain⟨ps,e1,e2⟩:=qP t
   exact⟨(n,k)::ps,by rw [e1];rfl,by rw [← e2];rfl⟩
def xH (lo) (d n) (a:d<=n):(match lo with | none=>(d:Int) | some i=>max 0 (min (if i<0 then i+n else i) n))=((HT.aZ n d lo:Nat):Int)/\HT.aZ n d lo<=n:=by
 cases lo with
 | none=>exact⟨rfl,a⟩
 | some i=>
  by_cases q:i<0
  .simp [HT.aZ,q,if_true];lia
  .simp [HT.aZ,q,if_false];lia
def Z2 (x:Str) (a b:Option Int):Builtin.Str.strSliceIndices a b 1 x.length=(Aa3 (HT.aZ x.length x.length b-HT.aZ x.length 0 a)).map λk=>HT.aZ x.length 0 a+k:=by
 have e:Builtin.Str.strSliceIndices a b 1 x.length=sliceRange ((HT.aZ x.length 0 a)) ((HT.aZ x.length x.length b)) 1:=by
  rw [← (xH a 0 x.length (Ae6 _)).1,←(xH b x.length x.length (Aa9 _)).1]
  cases a<;>cases b<;>rfl
 rw [e]
 unfold sliceRange
 simp only [show (1:Int)>0 by decide,if_true,Int.ediv_one,Int.one_mul]
 have e2:(if ((HT.aZ x.length 0 a))<((HT.aZ x.length x.length b:Nat):Int)then((HT.aZ x.length x.length b))-((HT.aZ x.length 0 a:Nat):Int)+1-1 else 0).toNat=HT.aZ x.length x.length b-HT.aZ x.length 0 a:=by
  split<;>lia
 rw [e2]
 refine Ai1 λk _=> ?_
 lia
noncomputable def kg (x:Str) (a b:Option Int):Str:=⟨((x.cps.toList.drop (HT.aZ x.length 0 a)).take (HT.aZ x.length x.length b-HT.aZ x.length 0 a)).toArray⟩
def BF (x) (lo hi):Txt.slice x lo hi=kg x lo hi:=by
 have c:=(xH lo 0 x.length (Ae6 _)).2
 have a:=(xH hi x.length x.length (Aa9 _)).2
 by_cases q:HT.aZ x.length 0 lo<=HT.aZ x.length x.length hi
 .have e:=StrLaws.sliceText_nat x q a
  rw [show kg x lo hi=⟨((x.cps.toList.drop _).take _).toArray⟩from rfl,←e]
  unfold Txt.slice StrLaws.sliceText
  rw [Z2 x lo hi,StrLaws.strSliceIndices_plain q a]
 .have b:HT.aZ x.length x.length hi-HT.aZ x.length 0 lo=0:=by lia
  unfold Txt.slice kg
  rw [Z2 x lo hi,b]
  rw [if_neg (by simp;lia)]
  simp
def pF:V->Option Int->Option Int->Hp->VK->Prop:=λx lo hi H Q=> ∃z,x= .str z/\z.length<=sizeLine/\Q (.str (kg z lo hi)) H
def pE:gx X pF:=by
 intro a s U H x v p r g i sl Q I n c pl j h
 obtain⟨z,rfl,m,q⟩:=h
 obtain⟨t,rfl⟩:=n
 refine⟨"str",_,F.slot_str_getitem.lookup,typeIs_str _ _ _,?_⟩
 have fin: ∀f k,EP X a U Q (.str (Txt.slice z g i) f) { s with toks:=k }:=λf k=>by
  rw [BF]
  exact⟨.str _,H,I.kept (t':=k) λb o e=>e,⟨_,rfl⟩,q⟩
 have d:(Txt.slice z g i).length<=sizeLine:=Ab5 (Txt.slice_le z _ _) m
 cases pl<;>cases j
 .exact wpAny_getItem_str_slice (l:=y0) (u:=y0) (st:=y0) c rfl (post_val_or_str ⟨d,fin⟩)
 .exact wpAny_getItem_str_slice (l:=y0) (u:=k0 (_,_)) (st:=y0) c rfl (post_val_or_str ⟨d,fin⟩)
 .exact wpAny_getItem_str_slice (l:=k0 (_,_)) (u:=y0) (st:=y0) c rfl (post_val_or_str ⟨d,fin⟩)
 .exact wpAny_getItem_str_slice (l:=k0 (_,_)) (u:=k0 (_,_)) (st:=y0) c rfl (post_val_or_str ⟨d,fin⟩)
end
open PySem PySem.Spec PyProof.Rows PySem.MeetsSeq
section
variable {X:Cx}
def LG {e:Nat->Bool}(k:IsTup s.heap a u8)
 (n: ∀i y,u8[i]? =k0 y->PySem.SeqAt.EqAt A.in1 s y x (e i)) (r:j<u8.size) (d:e j=u0) (f: ∀i,i<j->e i=k9) (h: ∀t',Q (.int (j:Int) t') { s with toks:=s.toks+1 }):
 wpAny (model prog w) A (call (.builtin "tuple.index") [.ref a,x]) Q E s:=by
 refine wpAny_call_entry F.slot_tuple_index k.typeIs F.entry_tuple_index (wpAny_bind (wpAny_of_eq (show PySem.selfAndSome "tuple.index" "index" 1 3 ⟨[.ref a,x],[]⟩=pure (Value.ref a,[x])from rfl) (wpAny_bind (tupleItemsOf_ k (wpAny_bind (wpAny_pure (wpAny_bind (wpAny_pure (wpAny_bind ?_))))))))) (F.args_tuple_index_2 _ _)
 rw [Nat.min_self,Std.Legacy.Range.forIn_eq_forIn_range']
 refine wpAny_forIn_list _ (λJp b g=>g=s/\b=(y0,())/\ ∃i,i<=j/\Jp=Al7 i (u8.size-i)) _ ?_ ?_ _ _ ⟨rfl,rfl,0,Ae6 _,by simp⟩
 .rintro i Jp b g ⟨rfl,rfl,i0,o,c⟩
  have e1:u8.size-i0=(u8.size-(i0+1))+1:=by lia
  rw [e1,Al2]at c
  injection c with m p
  subst m
  have l:i<u8.size:=by lia
  rw [Array.getElem?_eq_getElem l]
  refine wpAny_bind (n i u8[i] (Array.getElem?_eq_getElem l) prog w _ _ ?_)
  by_cases q:i=j
  .subst q
   rw [d,if_pos rfl]
   exact wpAny_bind (wpAny_bind (wpAny_mkInt (wpAny_pure (wpAny_pure (wpAny_pure ⟨_,rfl,h _⟩)))))
  .rw [f i (by lia),if_neg Ac3]
   exact wpAny_pure ⟨rfl,rfl,i+1,by lia,p⟩
 .rintro b g ⟨rfl,rfl,i0,o,c⟩
  have e1:u8.size-i0=(u8.size-(i0+1))+1:=by lia
  rw [e1,Al2]at c
  cases c
abbrev uE:=V->Hp->Prop
def mU (X:Cx) (T:String) (ty:uE):Prop:= ∀(pins:List (Addr×Obj)) (s:Shared) (U:St) (H:Hp) (x:V) (v:Value),Inv X pins U H s->RelV x v->ty x H->s.TypeIs v T/\ ∀a,v= .ref a-> ∃ob,s.heap.get? a=k0 ob/\ob.dict=y0
def My (ty:uE) (r:V->List V->Hp->VK->Prop) (a:TE) (t:TA):TE:=λU H Q=>a U H λx H1=>ty x H1/\t U H1 λxs H2=>r x xs H2 Q
def mv {T id:String}(B:PlainAttrs T) (f:Slot T name id) (i:typeOf (.builtin id)=pure (.type "method_descriptor")) (J:mU X T ty) (w:iT X id r) (D:PE X o to) (K:PA X (e::es) t)
 (b:attributeBase o name X.env (eval o X.env)=eval o X.env)
 (d:((backTo cpos (starEach (e::es) X.env)).all (λx=> !x.1)&&(backToKw cpos (keywordEach [] X.env)).all (λx=>x.1.isSome)
   &&u9 ((e::es).length+([]:List Keyword).length+(if ([]:List Keyword).isEmpty then 0 else 1)<30))=u0)
 (c:(apos.endLine==cpos.line)=u0) (p:starEach (e::es) X.env=(k9,eval e X.env)::starEach es X.env) (g:(backTo cpos (starEach es X.env)).any (·.1)=k9):
 PE X (.Call (.Attribute o name apos) (e::es) [] cpos) (My ty r to t):=by
 intro a s U H Q I h
 refine wpAny_Call_method_late b d c rfl (aO (D a s U H _ I h) ?_)
 rintro v m ⟨x,j,l,k,A,z⟩
 obtain⟨G,L⟩:=J a m U j x v l k A
 refine⟨T,id,B,f,i,G,L,?_⟩
 have n:=K cpos a m U j _ l z
 rw [p]at n ⊢
 exact Calls.callWith_builtin (by assumption) (Calls.evalArgs_plain (aO n λq u ⟨E,y,C,M,F⟩=>w a u U y x E v q Q C k M F))
def tR (K:PySem.W.Frag) (H:Hp) (a:Addr):Prop:=(∃ xs,H a=some (.tup xs))\/ ∃o,K.lookup a=some o/\o.cls= .type "tuple" /\o.dict=none
def IT:mU X "tuple" (fun x H=> ∃a,x= .ref a/\tR X.K H a):=by
 intro f s U H x v I r h
 obtain⟨a,rfl,h⟩:=h
 cases r
 obtain⟨l,h⟩ | ⟨o,g,k,i⟩:=h
 .obtain⟨_,j,_,o,e,c,d,n,m⟩:=I.a0 a _ h
  refine⟨⟨o,e,c⟩,λb z=> ?_⟩
  cases z
  exact⟨o,e,d⟩
 .refine⟨⟨o,I.cu a o g,k⟩,λb z=> ?_⟩
  cases z
  exact⟨o,I.cu _ o g,i⟩
def D3:mU X "str" (fun x _=> ∃z,x= .str z):=by
 intro a s U H x v I r h
 obtain⟨z,rfl⟩:=h
 obtain⟨t,rfl⟩:=r
 exact⟨typeIs_str s z t,λ_ e=>nomatch e⟩
def vx:mU X "list" (fun x H=> ∃a xs,x= .ref a/\bu X.K H a xs):=by
 intro d s U H x v I r h
 obtain⟨a,xs,rfl,h⟩:=h
 cases r
 obtain⟨g,_,pl,_⟩:=I.list h
 refine⟨pl.isList.typeIs,λb e=> ?_⟩
 cases e
 obtain⟨o,n,e,c,f,_⟩:=pl
 exact⟨o,e,f⟩
def km (x:Str):List Str->Option Nat
 | []=>y0
 | y::ys=>if y=x then k0 0 else(km x ys).map (· +1)
theorem rG : ∀ {L}{j},km x L=k0 j->j<L.length/\L[j]? =k0 x/\ ∀i,i<j-> ∀y,L[i]? =k0 y->y≠x
 | [],_,h=>by cases h
 | y::g,j,h=>by
  unfold km at h
  split at h
  .rename_i q
   cases h
   exact⟨Nat.zero_lt_succ _,by simp [q],λi b=>absurd b (Ag7 _)⟩
  .rename_i q
   obtain⟨k,e,rfl⟩:=Ag5.mp h
   obtain⟨f,d,c⟩:=rG e
   refine⟨Nat.succ_lt_succ f,by simpa using d,λi b z a=> ?_⟩
   cases i with
   | zero=>simp at a;rw [← a];exact q
   | succ i=>exact c i (by lia) z (by simpa using a)
def MW (K:Aa8):V->List V->Hp->VK->Prop:=λx c H Q=> ∃a z j,∃b:List Str,x= .ref a/\c= [.str z]/\cj K H a (b.map V.str)/\km z b=k0 j/\Q (.int (j:Nat)) H
def Ll:iT X "tuple.index" (MW X.K):=by
 intro m s U H x N v L Q I E rv h
 obtain⟨a,z,j,f,rfl,rfl,C,K,q⟩:=h
 cases E
 obtain⟨u,rfl,F⟩:=rv.one
 obtain⟨t,rfl⟩:=F
 obtain⟨k,r,p,M⟩:=I.tuple C
 obtain⟨O,J,D⟩:=rG K
 have l:=r.length
 have look: ∀(i:Nat) y,k.toArray[i]? =k0 y-> ∃w d,f[i]? =k0 w/\y=Value.str w d:=λi y g=>by
  obtain⟨P,e1,e2⟩:=r.iy (by simpa using g)
  rw [Ac]at e1
  cases n:f[i]? with
  | none=>rw [n]at e1;cases e1
  | some b=>
   rw [n]at e1
   cases e1
   obtain⟨d,rfl⟩:=e2
   exact⟨b,d,rfl,rfl⟩
 refine LG (e:=λi=>u9 (f[i]? =k0 z)) p (λi y g=> ?_) (by simp_all) (decide_eq_true J) (λi G=> ?_) λd=>⟨.int j,H,I.kept λb o e=>e,⟨d,rfl⟩,q⟩
 .obtain⟨w,d,e,rfl⟩:=look i y g
  have:=PySem.SeqAt.EqAt.str_str (A:=X.A.in1) (s:=s) w d z t
  have e2:u9 (f[i]? =k0 z)=(w==z):=by
   rw [e]
   by_cases q:w=z
   .subst q;simp
   .simp [q]
  rw [e2]
  exact this
 .have B:=by omega
  exact decide_eq_false λc=>D i G z c rfl
def Lc (K:Aa8):V->List V->Hp->VK->Prop:=λx c H Q=> ∃a n,∃b:List Int,x= .ref a/\c= [.int n]/\bu K H a (b.map V.int)/\Q (.int ((b.count n:Nat):Int)) H
def Ci:iT X "list.count" (Lc X.K):=by
 intro d s U H x J v C Q I A rv h
 obtain⟨a,n,D,rfl,rfl,j,q⟩:=h
 cases A
 obtain⟨u,rfl,B⟩:=rv.one
 obtain⟨t,rfl⟩:=B
 obtain⟨z,r,pl,E⟩:=I.list j
 obtain⟨G,rfl,e2⟩:=qP r
 obtain⟨⟨l,dd,c,sl⟩,g,w,k,m⟩:=id pl.isList
 subst w m
 refine call_meets F.slot_list_count ⟨_,g,rfl⟩ F.entry_list_count (F.args_list_count_2 _ _) (PySem.SeqAt.list_countAt a _ k dd sl _ (λy=>match y with | .int i _=>i==n | _=>k9)) ⟨g,λy f=> ?_,?_⟩
 .simp only [List.mem_toArray,Ab6]at f
  obtain⟨p,_,rfl⟩:=f
  exact PySem.SeqAt.EqAt.int_int p.1 p.2 n t
 .refine⟨.int _,H,I.kept λb o e=>e,⟨s.toks,?_⟩,q⟩
  rw [← e2,List.count_eq_countP,List.countP_map]
  simp only [List.countP_map]
  rfl
end
section
variable {prog:Program}{w:World}{A:Around}{E:Value->Shared->Prop}{s:Shared}
def XL (a:s.heap.IsTupleIter it t i) (h:s.heap.IsTuple t u8) (g:u8[i]? =k0 x)
 (f: ∀h',h'.IsTupleIter it t (i+1)->Aj1 it s.heap h'->Q x { s with heap:=h' }):wpAny (model prog w) A (Builtin.SmallTypes.nextOf (.ref it)) Q E s:=by
 obtain⟨o,c,j,b⟩:=id a
 obtain⟨k,d,_,l,e⟩:=h
 refine wpAny_bind (wpAny_callSpecial?_slot a.typeIs F.slot_tuple_iterator_next
  (wpAny_call_entry F.slot_tuple_iterator_next a.typeIs F.entry_tuple_iterator_next ?_ (F.args_tuple_iterator_next_1 _)))
 show wpAny _ _ (field _ 0 >>= _) _ _ s
 refine wpAny_bind (wpAny_field c b rfl (wpAny_bind (wpAny_field c b rfl (wpAny_bind (wpAny_seqItems d e ?_)))))
 simp [g]
 refine wpAny_bind (wpAny_setField c b (by simp) (wpAny_pure ⟨x,rfl,wpAny_pure (f _ ?_ (Aj1.update ..))⟩))
 exact⟨_,Heap.get?_update_self _ c (Obj.isFreed_of_fields (Obj.data_mapFields b _)),(Obj.cls_mapFields ..).trans j,by
  rw [Obj.data_mapFields b];simp [rawInt]⟩
def xN (g:A.handled=y0) (a:s.heap.IsTupleIter it t i) (k:s.heap.IsTuple t u8) (j:u8[i]? =y0)
 (h: ∀h' e,Heap.ExtBut it s.heap h'->(∃ o,h'.get? e=k0 o/\o.cls= .type "StopIteration")->E (.ref e) { s with heap:=h' }):wpAny (model prog w) A (Builtin.SmallTypes.nextOf (.ref it)) Q E s:=by
 obtain⟨o,b,n,d⟩:=id a
 obtain⟨l,c,_,m,f⟩:=k
 refine wpAny_bind (wpAny_callSpecial?_slot a.typeIs F.slot_tuple_iterator_next
  (wpAny_call_entry F.slot_tuple_iterator_next a.typeIs F.entry_tuple_iterator_next ?_ (F.args_tuple_iterator_next_1 _)))
 show wpAny _ _ (field _ 0 >>= _) _ _ s
 refine wpAny_bind (wpAny_field b d rfl (wpAny_bind (wpAny_field b d rfl (wpAny_bind (wpAny_seqItems c f ?_)))))
 simp [j]
 refine wpAny_bind (wpAny_rule (wpAny_bind (wpAny_setField b d (by simp) (wpAny_bind (wpAny_bind (wpAny_newObj_type (wpAny_bind (wpAny_of_eq (by first | rfl | (simp [firstArgMember])) (wpAny_newObj_type (wpAny_bind (wpAny_handled ?_)) (by size_fits)))) (by size_fits)))))))
 first | rw [show A.in1.handled=y0 from g] | rw [g]
 exact wpAny_bind (wpAny_pure (wpAny_throw (h _ _ (((Aj1.update ..).extBut.push _).push _) ⟨_,Ac7 _ rfl,rfl⟩)))
def zX (m:A.handled=y0) (it t) (u8) (c:t≠it):Draws prog w A it [it,t] u8.size (λi x=>u8[i]? =k0 x) (λi h=>h.IsTupleIter it t i/\h.IsTuple t u8) where
 live:=λi h a=>let ⟨o,e,_⟩:=a.1; ⟨o,e⟩
 frame:=λi h d a k=>⟨let ⟨o,e,r⟩:=a.1; ⟨o,k it (by simp) o e,r⟩,let ⟨o,e,r⟩:=a.2; ⟨o,k t (by simp) o e,r⟩⟩
 item:=λi s Q E g a l=>XL a.1 a.2 (x:=u8[i]) (by simp [g]) λd b f=>l _ d s.toks (by simp [g]) ⟨b,a.2.extBut f.extBut c⟩ f
 done:=λs Q E a j=>xN m a.1 a.2 (by simp) j
open PySem.AutoSeq1 (wpAny_loadPart') in
theorem Xv (l:Addr) (a:Array Value) (n:Nat) (f:Option Addr) (sl:Array (Option Value)):
 Meets (Builtin.«enumerate.__new__» ⟨[.type "enumerate",.ref l],[]⟩) (fun _ R s=>s.heap.get? l=some { cls:= .type "tuple",dict:=f,data:= .seq a n,slots:=sl } ∧
  R (.ok (.ret (.ref (s.heap.push { cls:= .type "tuple_iterator",data:= .fields #[.ref l,.int 0 0] }).objs.size)))
   { s with heap:=(s.heap.push { cls:= .type "tuple_iterator",data:= .fields #[.ref l,.int 0 0] }).push { cls:= .type "enumerate",data:= .fields #[.none,.bool false,.ref s.heap.objs.size,rawInt 0,.none,.none] } }):=
 .of_wp λprog w A R s h=>by
  obtain⟨o,g,d,j,k⟩:=s;obtain⟨b,h⟩:=h
  have i:=sub_enumerate
  have e:Heap.IsTuple _ l a:=⟨_,b,rfl,n,rfl⟩
  wp_walk using wpAny_loadPart' b
  refine wpAny_stack_any λm=>wpAny_pure ?_
  split
  .rename_i c _ _ _ _ _
   cases (c==Value.type "enumerate")
   .wp_walk using wpAny_loadPart' b,wpAny_pyIter_tuple e
    exact⟨_,rfl,h⟩
   .wp_walk using wpAny_loadPart' b,wpAny_pyIter_tuple e
    exact⟨_,rfl,h⟩
  .wp_walk using wpAny_loadPart' b,wpAny_pyIter_tuple e
   exact⟨_,rfl,h⟩
def xB (i:s.heap.IsTuple l u8)
 (h: ∀h',IsEnum h' (s.heap.objs.size+1) s.heap.objs.size 0 .none->h'.IsTupleIter s.heap.objs.size l 0->h'.objs.size=s.heap.objs.size+2 →
   (∀ b o,s.heap.get? b=k0 o->h'.get? b=k0 o)->Q (.ref (s.heap.objs.size+1)) { s with heap:=h' }):
 wpAny (model prog w) A (call (.type "enumerate") [.ref l]) Q E s:=by
 obtain⟨⟨c,a,k,sl⟩,f,j,n,g⟩:=i
 subst j g
 refine callType_new F.called_enumerate rfl (F.typeCall_enumerate_1 _) (F.newCall_enumerate_1 _) (λobj=>F.args_object_init_2 obj _) F.entry_enumerate_new
  (Xv l u8 n a sl) ⟨f,?_⟩
 have d:(s.heap.push { cls:= .type "tuple_iterator",data:= .fields #[.ref l,.int 0 0] }).objs.size=s.heap.objs.size+1:=Heap.size_push ..
 rw [d]
 have e:IsEnum ((s.heap.push { cls:= .type "tuple_iterator",data:= .fields #[.ref l,.int 0 0] }).push
  { cls:= .type "enumerate",data:= .fields #[.none,.bool false,.ref s.heap.objs.size,rawInt 0,.none,.none] }) (s.heap.objs.size+1) s.heap.objs.size 0 .none:=by
  have:=Heap.get?_push_size (s.heap.push { cls:= .type "tuple_iterator",data:= .fields #[.ref l,.int 0 0] })
   (o:= { cls:= .type "enumerate",data:= .fields #[.none,.bool false,.ref s.heap.objs.size,rawInt 0,.none,.none] }) rfl
  rw [d]at this;exact this
 refine⟨⟨_,e,rfl⟩,h _ e ⟨_,Ab2 _ (Ac7 _ rfl),rfl,rfl⟩ (by simp) λb o x=>Ab2 _ (Ab2 _ x)⟩
end
section
variable {X:Cx}{pins:List (Addr×Obj)}{U:St}{H:Hp}{s:Shared}{h':Heap}
def Inv.eY (I:Inv X pins U H s) (k: ∀b o,b≠e->b≠it->s.heap.get? b=k0 o->h'.get? b=k0 o) (J:H it=y0) (D:H e=y0) (l:it≠X.env.locals) (f:e≠X.env.locals)
 (h1:it∈X.ex\/X.s₀.heap.objs.size<=it) (h:e∈X.ex\/X.s₀.heap.objs.size<=e) (F: ∀x c,X.env.cells.lookup x=k0 c->c≠it) (i: ∀x c,X.env.cells.lookup x=k0 c->c≠e) (B: ∀p∈X.pn++pins,p.1≠it) (g: ∀p∈X.pn++pins,p.1≠e):Inv X pins U H { s with heap:=h',toks:=t' }:=by
 have d: ∀b u,H b=k0 u->b≠e/\b≠it:=λb u q=>⟨λz=>(by simp_all),λz=>(by simp_all)⟩
 have j: ∀b o,b∉ [e,it]->s.heap.get? b=k0 o->h'.get? b=k0 o:=λb o a q=>k b o (λz=>a (by simp [z])) (λz=>a (by simp [z])) q
 refine I.step (λb E=> ?_) (λb o _ _ a e _=>j b o a e) (λb o _ _ a e _=>⟨o.slots,j b o a e⟩) (λ_ _ _ _ n=>n)
  (λb o a e=>⟨o,j b o a e⟩) (λ_ _ e=>e) (λ_ _ _ e=>e) (λb G e=>⟨#[],by rw [e];simp⟩) (λm t=> ?_) (λb u q=> ?_) I.bare
 .obtain z | z:=Ab8.mp E
  .rw [z];exact⟨h,f,i,g⟩
  .rw [Ac2.mp z];exact⟨h1,l,F,B⟩
 .obtain⟨o,C,w,A,r⟩:=t
  exact⟨o,C,w,k _ o (Ne.symm f) (Ne.symm l) A,r⟩
 .refine(I.a0 b u q).dN (λc v a y=>k c v ?_ ?_ y) (λ_ q=>q) λ_ _ q=>q
  .obtain z | z:=a
   .rw [z];exact(d b u q).1
   .exact(d c _ z).1
  .obtain z | z:=a
   .rw [z];exact(d b u q).2
   .exact(d c _ z).2
end
noncomputable def ph (K:Aa8) (a:Addr):It:=
 ⟨λi H=> ∃xs x,cj K H a xs/\xs[i]? =k0 x,λi H x H'=> ∃p y,H p=y0/\x= .ref p/\H'=aP H p (.tup [.int (i:Int),y])/\ ∀xs,cj K H a xs->xs[i]? =k0 y,λi H=> ∃xs,cj K H a xs/\xs.length=i⟩
def BL {K:Aa8}(a it e) (t:e≠it):kj P w K (.Tuple elts x1 tp) (ph K a) [e,it] e (λi h=>(∃ j,IsEnum h e it (i:Int) j)/\h.IsTupleIter it a i) where
 mem:=by simp
 obj:=λi h l b J=>by
  obtain⟨⟨j,q⟩,⟨o,q2,c,d⟩⟩:=l
  rcases Ab8.mp J with z | z
  .subst z
   exact⟨_,q,λv z=>by cases z⟩
  .rw [Ac2.mp z]
   exact⟨o,q2,λv z=>by rw [d]at z;cases z⟩
 keep:=λi h h' l k=>⟨let ⟨j,q⟩:=l.1; ⟨j,k e (by simp) _ q⟩,let ⟨o,q,r⟩:=l.2; ⟨o,k it (by simp) o q,r⟩⟩
 item:=by
  intro X Y hw T hc i m s U H E I M l hg
  subst Y hw T
  obtain⟨⟨j,B⟩,f⟩:=l
  obtain⟨xs,x,N,V⟩:=hg
  obtain⟨g,rv,p,hz⟩:=I.tuple N
  obtain⟨u,hu,ru⟩:=rv.get V
  have C:=p
  have A:a≠it:=λz=>by
   obtain⟨o,q,c,_⟩:=C
   obtain⟨o',S,F,_⟩:=f
   rw [z,S]at q;cases q
   rw [c]at F;exact absurd F (by decide)
  have hae:a≠e:=λz=>by
   obtain⟨o,q,c,_⟩:=C
   rw [z,B]at q;cases q
   exact absurd (show Value.type "enumerate" =Value.type "tuple" from c) (by decide)
  obtain⟨f0,f1,f2,f3,f4,f5⟩:=M e (by simp)
  obtain⟨O,g1,g2,g3,Z,g5⟩:=M it (by simp)
  have W:=by
   have:=Aa0.mp hu
   simpa using this.1
  have n:X.A.in1.handled=none:=I.ok.hd hc
  refine wpAny_pyNext_enum_itemD (zX n it a g.toArray A) B ⟨f,C⟩ W t (by simp [t,Ne.symm hae]) λy h1 D L ho R hT hsz hk=> ?_
  have ey:y=u:=by
   rw [An4]at L
   rw [hu]at L;cases L;rfl
  subst ey
  refine⟨_,rfl,wpAny_letOwnedTupleGo_enum ho λh2 he2 Q=> ?_⟩
  have Q:=Q
  have hep:=Ap3 (Ac1 B)
  have hn:=I.a0.fresh (Aa9 _)
  have I1:Inv X m U (aP H s.heap.objs.size (.tup [.int (i:Int),x])) { s with heap:=s.heap.push { cls:= .type "tuple",data:= .seq #[.int i D,y] },toks:=D+1 }:=by
   refine I.laid (λb o q=>Ab2 _ q) (Aa9 _) ⟨by simp only [Aa7,Ad3];rw [sizeLine_eq];decide,[.int i D,y],.cons ⟨_,rfl⟩ (.cons ru .nil),?_⟩
   exact⟨_,Ac7 s.heap rfl,rfl,rfl,_,rfl⟩
  have G:it<s.heap.objs.size:=by obtain⟨o,q,_⟩:=f;exact Ac1 q
  have ee:=Ac1 B
  have I2:=I1.eY (t':=D+1) (λb o b1 b2 q=>by
   refine(Q.2 b b1).trans ?_
   rcases Heap.get?_push_cases (show (s.heap.push { cls:= .type "tuple",data:= .seq #[.int i D,y] }).get? b=some o from q)with⟨z,z2⟩ | z
   .rw [z,z2];exact hT
   .exact hk b o b1 b2 z) (by rw [Qa (Ac6 G)];exact O) (by rw [Qa (Ac6 ee)];exact f0) g1 f1 g3 f3 Z f4 g5 f5
  refine⟨.ref s.heap.objs.size,_,I2,rfl,⟨s.heap.objs.size,x,hn,rfl,rfl,λys L=>by rw [I.dz L N];exact V⟩,⟨⟨y,by simpa using he2⟩,?_⟩,λb J=> ?_⟩
  .obtain⟨o,q,r⟩:=R.1
   exact⟨o,(Q.2 it (Ne.symm t)).trans q,r⟩
  .rcases Ab8.mp J with z | z
   .rw [z,Qa (Ac6 ee)];exact f0
   .rw [Ac2.mp z,Qa (Ac6 G)];exact O
 done:=by
  intro X Y hw T hc i m s U H E I M l hg
  subst Y hw T
  obtain⟨⟨j,B⟩,f⟩:=l
  obtain⟨xs,N,V⟩:=hg
  obtain⟨g,rv,p,hz⟩:=I.tuple N
  have C:s.heap.IsTuple a g.toArray:=p
  have A:a≠it:=λz=>by
   obtain⟨o,q,c,_⟩:=C
   obtain⟨o',S,F,_⟩:=f
   rw [z,S]at q;cases q
   rw [c]at F;exact absurd F (by decide)
  obtain⟨O,g1,g2,g3,Z,g5⟩:=M it (by simp)
  have hl:=rv.length
  have n:X.A.in1.handled=none:=I.ok.hd hc
  have hi:i=g.toArray.size:=by simp;lia
  subst hi
  exact wpAny_pyNext_enum_endD (zX n it a g.toArray A) B ⟨f,C⟩ λh' eb=>⟨rfl,I.turned (λb o J q=>eb b o J q) O g1 g3 Z g5⟩
 self:=λ_ _ _ _ _ l h=>wpAny_pyIter_enum l.1.choose_spec h
def A6 (K:Aa8) (c:TA):TI:=λU H R=>c U H λb H1=> ∃a xs,b= [.ref a]/\cj K H1 a xs/\R (ph K a) H1
def zx:bootBuiltins "enumerate" =some (.type "enumerate"):=by decide +kernel
def Co (m:Gl X "enumerate") (l:X.mg "enumerate" =none) (y:PA X [a] ta) (k:starEach [a] X.env= [(false,eval a X.env)]:=by rfl):PI X (.Tuple elts x1 tp) (.Call (.Name "enumerate" p) [a] [] pos) (A6 X.K ta):=by
 intro f s U H R I h
 refine Call_ (qB I m l zx (PyProof.Rows.callWith_type1 (aO (y pos f s U H _ I h) λC g ⟨G,w,d,x,t⟩=> ?_) k rfl))
 obtain⟨b,D,e,o,q⟩:=t
 subst e
 cases x with
 | cons r v=>
  cases v
  cases r
  obtain⟨A,rv,pl,F⟩:=d.tuple o
  refine xB (pl) λE j i u n=> wpAny_pyIter_enum j ?_
  refine⟨g.heap.objs.size+1,[g.heap.objs.size+1,g.heap.objs.size],_,_,w,rfl,d.kept n,BL b g.heap.objs.size _ (Nat.succ_ne_self _),⟨⟨_,by simpa using j⟩,i⟩,λc B=> ?_,q⟩
  obtain z | z:=Ab8.mp B
  .rw [z];exact d.c8 (Ag4 _) (d.a0.fresh (Ag4 _))
  .rw [Ac2.mp z];exact d.c8 (Aa9 _) (d.a0.fresh (Aa9 _))
def Fh (h:ItemsOf (λi v=> ∃t,v=Value.int (0+(i:Int)*1) t) acc n):Vals ((Aa3 n).map λ(i:Nat)=>V.int (i:Int)) acc.toList:=by
 have f: ∀ a k m,a.length=m->(∀ j v,a[j]? =k0 v-> ∃t,v=Value.int (k+j:Nat) t)->Vals ((Al7 k m).map λ(i:Nat)=>V.int i) a:=by
  intro a
  induction a with
  | nil=>intro k m b _;cases b;exact .nil
  | cons x a d=>
   intro k m b c
   cases b
   refine .cons (c 0 x rfl) (d _ _ rfl λj v g=> ?_)
   obtain⟨t,e⟩:=c (j+1) v (by simp_all)
   exact⟨t,by rw [e];congr 1;lia⟩
 rw [Aj7]
 refine f acc.toList 0 n (by rw [Ai0];exact h.1) λj v g=> ?_
 obtain⟨t,e⟩:=h.2 j v (by simp_all)
 exact⟨t,by rw [e];congr 1;lia⟩
section
variable {X:Cx}
def Hc:bootBuiltins "range" =some (.type "range"):=by decide +kernel
end
def qI {g f:Option Int}(a:IsTup s.heap t vs) (e:s.heap.IsSliceOf sl vl vu .none) (pl:IsPart vl g) (j:IsPart vu f)
 (l:HT.aZ vs.size 0 g=0) (h1:HT.aZ vs.size vs.size f=vs.size) (h:Q (.ref t) s):wpAny (model prog w) A (getItem (.ref t) (.ref sl)) Q E s:=by
 obtain⟨i,b,d,k⟩:=id e
 have c:s.TypeIs (.ref sl) "slice" :=⟨i,b,d⟩
 unfold getItem
 try with_reducible refine wpAny_holding ?_
 refine wpAny_bind (wpAny_sequenceKey a.typeIs rfl (wpAny_bind (wpAny_callSpecial?_slot a.typeIs PyProof.Rows.slot_tuple_getitem
  (wpAny_call_entry PyProof.Rows.slot_tuple_getitem a.typeIs PyProof.Rows.entry_tuple_getitem ?_ (PyProof.Rows.args_tuple_getitem _ _)))))
 show wpAny _ _ (Builtin.Tuple.tupleItemsOf _ >>= _) _ _ s
 refine wpAny_bind (tupleItemsOf_ a (wpAny_bind (wpAny_typeOf c (wpAny_bind (HT.bJ e pl j ?_)))))
 show wpAny _ _ (if _=u0 then _ else _) _ _ s
 rw [if_pos (by simp_all)]
 exact wpAny_bind (wpAny_bind (wpAny_typeOf a.typeIs (wpAny_pure (wpAny_bind (wpAny_rule (wpAny_pure ⟨_,rfl,wpAny_pure h⟩))))))
section
variable {X:Cx}
def oy (K:Aa8):V->Option Int->Option Int->Hp->VK->Prop:=λx lo hi H Q=> ∃a xs,x= .ref a/\cj K H a xs/\HT.aZ xs.length 0 lo=0/\HT.aZ xs.length xs.length hi=xs.length/\Q (.ref a) H
def MD:gx X (oy X.K):=by
 intro d s U H x v o t n u sl Q I l f pl i h
 obtain⟨a,g,rfl,m,k,j,q⟩:=h
 cases l
 obtain⟨c,r,e,p⟩:=I.tuple m
 have b:c.toArray.size=g.length:=by rw [Ac0];exact r.length.symm
 refine⟨"tuple",_,PyProof.Rows.slot_tuple_getitem.lookup,e.typeIs,?_⟩
 exact qI e f pl i (by rw [b];exact k) (by rw [b];exact j) ⟨.ref a,H,I,rfl,q⟩
end
section
variable {X:Cx}
def DI:bootBuiltins "list" =some (.type "list"):=by decide +kernel
def Av (b:TA):TE:=λU H Q=>b U H λa H1=> ∃n:Nat,a= [.int (n:Int)]/\n<=1000/\ ∀l,H1 l=y0->Q (.ref l) (aP H1 l (.lst ((Aa3 n).map λ(i:Nat)=>V.int (i:Int))))
def F2 (F:X.calm=true) (w:Gl X "list") (v:X.mg "list" =none) (j:Gl X "range") (g:X.mg "range" =none) (E:PA X [a] ta) (u:starEach [a] X.env= [(false,eval a X.env)]):
 PE X (.Call (.Name "list" p) [.Call (.Name "range" p2) [a] [] pos2] [] pos) (Av ta):=by
 intro c s U H Q I h
 refine Call_ (qB I w v DI (PyProof.Rows.callWith_type1 (Calls.spliced_cons (Call_ (qB I j g Hc (PyProof.Rows.callWith_type1 (aO (E pos2 c s U H _ I h) λG m ⟨M,L,l,C,A⟩=> ?_) u rfl)))) rfl rfl))
 obtain⟨n,e,N,q⟩:=A
 subst e
 cases C with
 | cons r B=>
  cases B
  obtain⟨t,rfl⟩:=r
  refine call_range_1 (Calls.spliced_nil ?_)
  have k:Builtin.Range.rangeSize 0 n 1= n:=by
   unfold Builtin.Range.rangeSize
   simp
   lia
  refine call_list_range (l.ok.hd F) (IsRange.new ..) (small_one (by decide) (by decide) (by lia) (by lia)) k (by lia) λJ K i y x D f=> ?_
  have d: ∀o:Obj,m.heap.objs.size<=(m.heap.push o).objs.size:=λo=>by rw [Al];exact Ag4 _
  refine⟨.ref _,_,l.laid (o:= .lst _) (λb o z=>x b o (Ab2 _ z)) (d _) ⟨by rw [Aa,Af3,sizeLine_eq];lia,i.toList,y,(Fh f),by simpa using D⟩,rfl,q _ (l.a0.fresh (d _))⟩
end
section
variable {X:Cx}{pins:List (Addr×Obj)}{U:St}{H:Hp}{s:Shared}{h':Heap}
def Inv.b8 {ch:List Addr}(I:Inv X pins U H s) (k: ∀b o,b∉ch->s.heap.get? b=k0 o->h'.get? b=k0 o) (f: ∀b∈ch,bA X pins H b):Inv X pins U H { s with heap:=h',toks:=t' }:=by
 have d: ∀b u,H b=k0 u->b∉ch:=λb u q z=>by rw [(f b z).1]at q;cases q
 refine I.step (λb x=> ?_) (λb o _ _ a e _=>k b o a e) (λb o _ _ a e _=>⟨o.slots,k b o a e⟩) (λ_ _ _ _ n=>n)
  (λb o a e=>⟨o,k b o a e⟩) (λ_ _ e=>e) (λ_ _ _ e=>e) (λb B e=>⟨#[],by rw [e];simp⟩) (λm g=> ?_) (λb u q=> ?_) I.bare
 .obtain⟨A,y,C,w,j,i⟩:=f b x
  exact⟨w,y,j,i⟩
 .obtain⟨o,t,h,p,r⟩:=g
  exact⟨o,t,h,k _ o (λz=>(f _ z).2.1 rfl) p,r⟩
 .refine(I.a0 b u q).dN (λc v a l=>k c v ?_ l) (λ_ q=>q) λ_ _ q=>q
  obtain z | z:=a
  .rw [z];exact d b u q
  .exact d c _ z
end
end L2
set_option maxHeartbeats 8000000
namespace L2
open PySem PySem.Spec PyProof.Rows
open Sem (wp)
abbrev K2:=List (Int ⊕ List Int)
section
variable (prog:Program) (w:World)
inductive jY (h:Heap):K2->List Value->Prop
 | nil:jY h [] []
 | int {i:Int}{t:Tok}{ks:K2}{vs:List Value}:jY h ks vs->jY h (.inl i::ks) (.int i t::vs)
 | tup {l:List Int}{a:Addr}{ks:K2}{vs:List Value}:IsTupleKey (intKind prog w) h l a->jY h ks vs->jY h (.inr l::ks) (.ref a::vs)
end
abbrev WK:=Int×List Int×List Int
section
variable {X:Cx}{pins:List (Addr×Obj)}{U:St}{H:Hp}{s:Shared}{a b:Addr}{k:WK}{xs:List (WK×Addr×Value)}{r:Value}{A:Around}{E:Value->Shared->Prop}
def nF (I:Inv X pins U H s):sysModules<s.heap.objs.size:=by
 exact Nat.lt_trans (by decide) ((I.mod.glob.keeps I.bk).lt)
end
open PySem.AutoSeq1 (wpAny_loadPart')
open MeetsSeq MeetsSeq2 MeetsSeq3 SeqRoads2 PySem.SeqAt
open PySem PySem.Spec PyProof.Rows PyProof.Rows.KTD PyProof.V
section
variable {X:Cx}{pins:List (Addr×Obj)}{U:St}{H:Hp}{s:Shared}
theorem QO {K:Type} [DecidableEq K]: ∀(more a:List (K×Value)),((a++more).map (·.1)).Nodup->merged a more=a++more
 | [],a,_=>by simp [merged]
 | p::more,a,h=>by
  have e:stored a p.1 p.2=a++ [p]:=by
   unfold stored
   rw [if_neg]
   intro z
   obtain⟨b,c,e⟩:=Ad2.mp z
   rw [Ae0,Aj3]at h
   exact h.2.2 b.1 (List.mem_map_of_mem c) p.1 (by simp) (of_decide_eq_true e)
  show merged (stored a p.1 p.2) more=_
  rw [e,QO more (a++ [p]) (by simpa using h)]
  simp
end
noncomputable def pf (K:Aa8) (a:Addr):It:=
 ⟨λi H=> ∃xs x,bu K H a xs/\xs[i]? =k0 x,λi H x H'=> ∃p y,H p=y0/\x= .ref p/\H'=aP H p (.tup [.int (i:Int),y])/\ ∀xs,bu K H a xs->xs[i]? =k0 y,λi H=> ∃xs,bu K H a xs/\xs.length=i⟩
def Mh {K:Aa8}(a it e) (t:e≠it):kj P w K (.Tuple elts x1 tp) (pf K a) [e,it] e (λi h=>(∃ j,IsEnum h e it (i:Int) j)/\h.IsListIter it a i) where
 mem:=by simp
 obj:=λi h l b J=>by
  obtain⟨⟨j,q⟩,⟨o,q2,c,d⟩⟩:=l
  rcases Ab8.mp J with z | z
  .subst z
   exact⟨_,q,λv z=>by cases z⟩
  .rw [Ac2.mp z]
   exact⟨o,q2,λv z=>by rw [d]at z;cases z⟩
 keep:=λi h h' l k=>⟨let ⟨j,q⟩:=l.1; ⟨j,k e (by simp) _ q⟩,let ⟨o,q,r⟩:=l.2; ⟨o,k it (by simp) o q,r⟩⟩
 item:=by
  intro X Y hw T hc i m s U H E I M l hg
  subst Y hw T
  obtain⟨⟨j,B⟩,f⟩:=l
  obtain⟨xs,x,N,V⟩:=hg
  obtain⟨g,rv,p,hz⟩:=I.list N
  obtain⟨u,hu,ru⟩:=rv.get V
  have C:=p.isList
  have A:a≠it:=λz=>by
   obtain⟨o,q,c,_⟩:=C
   obtain⟨o',S,F,_⟩:=f
   rw [z,S]at q;cases q
   rw [c]at F;exact absurd F (by decide)
  have hae:a≠e:=λz=>by
   obtain⟨o,q,c,_⟩:=C
   rw [z,B]at q;cases q
   exact absurd (show Value.type "enumerate" =Value.type "list" from c) (by decide)
  obtain⟨f0,f1,f2,f3,f4,f5⟩:=M e (by simp)
  obtain⟨O,g1,g2,g3,Z,g5⟩:=M it (by simp)
  have W:=by
   have:=Aa0.mp hu
   simpa using this.1
  have n:X.A.in1.handled=none:=I.ok.hd hc
  refine wpAny_pyNext_enum_itemD (Draws.list n it a A g.toArray) B ⟨f,C⟩ W t (by simp [t,Ne.symm hae]) λy h1 D L ho R hT hsz hk=> ?_
  have ey:y=u:=by
   rw [An4]at L
   rw [hu]at L;cases L;rfl
  subst ey
  refine⟨_,rfl,wpAny_letOwnedTupleGo_enum ho λh2 he2 Q=> ?_⟩
  have Q:=Q
  have hep:=Ap3 (Ac1 B)
  have hn:=I.a0.fresh (Aa9 _)
  have I1:Inv X m U (aP H s.heap.objs.size (.tup [.int (i:Int),x])) { s with heap:=s.heap.push { cls:= .type "tuple",data:= .seq #[.int i D,y] },toks:=D+1 }:=by
   refine I.laid (λb o q=>Ab2 _ q) (Aa9 _) ⟨by simp only [Aa7,Ad3];rw [sizeLine_eq];decide,[.int i D,y],.cons ⟨_,rfl⟩ (.cons ru .nil),?_⟩
   exact⟨_,Ac7 s.heap rfl,rfl,rfl,_,rfl⟩
  have G:it<s.heap.objs.size:=by obtain⟨o,q,_⟩:=f;exact Ac1 q
  have ee:=Ac1 B
  have I2:=I1.eY (t':=D+1) (λb o b1 b2 q=>by
   refine(Q.2 b b1).trans ?_
   rcases Heap.get?_push_cases (show (s.heap.push { cls:= .type "tuple",data:= .seq #[.int i D,y] }).get? b=some o from q)with⟨z,z2⟩ | z
   .rw [z,z2];exact hT
   .exact hk b o b1 b2 z) (by rw [Qa (Ac6 G)];exact O) (by rw [Qa (Ac6 ee)];exact f0) g1 f1 g3 f3 Z f4 g5 f5
  refine⟨.ref s.heap.objs.size,_,I2,rfl,⟨s.heap.objs.size,x,hn,rfl,rfl,λys L=>by rw [I.d4 L N];exact V⟩,⟨⟨y,by simpa using he2⟩,?_⟩,λb J=> ?_⟩
  .obtain⟨o,q,r⟩:=R.1
   exact⟨o,(Q.2 it (Ne.symm t)).trans q,r⟩
  .rcases Ab8.mp J with z | z
   .rw [z,Qa (Ac6 ee)];exact f0
   .rw [Ac2.mp z,Qa (Ac6 G)];exact O
 done:=by
  intro X Y hw T hc i m s U H E I M l hg
  subst Y hw T
  obtain⟨⟨j,B⟩,f⟩:=l
  obtain⟨xs,N,V⟩:=hg
  obtain⟨g,rv,p,hz⟩:=I.list N
  have C:s.heap.IsList a g.toArray:=p.isList
  have A:a≠it:=λz=>by
   obtain⟨o,q,c,_⟩:=C
   obtain⟨o',S,F,_⟩:=f
   rw [z,S]at q;cases q
   rw [c]at F;exact absurd F (by decide)
  obtain⟨O,g1,g2,g3,Z,g5⟩:=M it (by simp)
  have hl:=rv.length
  have n:X.A.in1.handled=none:=I.ok.hd hc
  have hi:i=g.toArray.size:=by simp;lia
  subst hi
  exact wpAny_pyNext_enum_endD (Draws.list n it a A g.toArray) B ⟨f,C⟩ λh' eb=>⟨rfl,I.turned (λb o J q=>eb b o J q) O g1 g3 Z g5⟩
 self:=λ_ _ _ _ _ l h=>wpAny_pyIter_enum l.1.choose_spec h
def DX (K:Aa8) (c:TA):TI:=λU H R=>c U H λb H1=> ∃a xs,b= [.ref a]/\bu K H1 a xs/\R (pf K a) H1
def HR (m:Gl X "enumerate") (l:X.mg "enumerate" =none) (y:PA X [a] ta) (k:starEach [a] X.env= [(false,eval a X.env)]:=by rfl):PI X (.Tuple elts x1 tp) (.Call (.Name "enumerate" p) [a] [] pos) (DX X.K ta):=by
 intro f s U H R I h
 refine Call_ (qB I m l zx (PyProof.Rows.callWith_type1 (aO (y pos f s U H _ I h) λC g ⟨G,w,d,x,t⟩=> ?_) k rfl))
 obtain⟨b,D,e,o,q⟩:=t
 subst e
 cases x with
 | cons r v=>
  cases v
  cases r
  obtain⟨A,rv,pl,F⟩:=d.list o
  refine call_enumerate_list pl.isList λE j i u n=> wpAny_pyIter_enum j ?_
  refine⟨g.heap.objs.size+1,[g.heap.objs.size+1,g.heap.objs.size],_,_,w,rfl,d.kept n,Mh b g.heap.objs.size _ (Nat.succ_ne_self _),⟨⟨_,by simpa using j⟩,i⟩,λc B=> ?_,q⟩
  obtain z | z:=Ab8.mp B
  .rw [z];exact d.c8 (Ag4 _) (d.a0.fresh (Ag4 _))
  .rw [Ac2.mp z];exact d.c8 (Aa9 _) (d.a0.fresh (Aa9 _))
open PySem PySem.Spec PySem.Calls PySem.W PyProof.Rows
def tT:List Value->Bool
 | []=>k9
 | x::r=>match x with
  | .ref _=>tT r
  | _=>x::r==uP
def tu (K:Frag) (C:Addr):Bool:=(clsIn K C).any λcd=>tT cd.mro&&cd.hasDict
noncomputable def CY (K:Frag) (C:Addr):Bool:=match K.lookup C with
 | some ⟨.type "type",_,.cls cd,sl⟩=>(match cd.mro,sl.toList with
  | .ref c::a,[_,_,_,_,k0 (.builtin n),_]=>c==C&&(n== "ValueError.__new__" &&(!cd.hasDel&&(tailIn K uP a&&nsOkIn K cd.ns)))
  | _,_=>k9)
 | _=>k9
structure Nj (K:Frag) (C:Addr) (f:Str):Prop where
 cls:CY K C=u0
 ov:tu K C=u0
 sa:findIn K (.ref C) "__setattr__" =some (some (.builtin "object.__setattr__"))
 no:findIn K (.ref C) f=k0 y0
 kp:keepIn K (.ref C)=u0
structure Nb (K:Frag) (f:Str) (fI:Addr) (fd:FuncData) (ps:List Str):Prop where
 ex: ∃x k7 st N n1 n2 p1 p2 p3 p4,lT K x k7 st fI fd/\ps= [n1,n2]/\N= [n1,n2]/\jD N ps (zn st)/\wJ st= [.Assign [.Attribute (.Name n1 p1) f p2] (.Name n2 p3) p4]/\(n1==("__debug__" :Str))=false/\(n2==("__debug__" :Str))=false ∧
  (n1==("__classdict__" :Str))=false/\(n2==("__classdict__" :Str))=false
 bd:Binds K fd ps []
 fn:typeIn K (.ref fI)=k0 (.type "function")
structure Nc (K:Frag) (C:Addr) (f:Str):Prop where
 ov:tu K C=u0
 no:findIn K (.ref C) f=k0 y0
 ga:findIn K (.ref C) "__getattribute__" =some (some (.builtin "BaseException.__getattribute__"))
 gh:findIn K (.ref C) "__getattr__" =some none
end L2
namespace L2
open PySem PySem.Spec PyProof.Rows PySem.Builtin.Str
def bT:Str:=⟨#[32]⟩
noncomputable def my (z:Str) (a:List Str):Bool:= !(u9 (z.length<bT.length)||u9 (strKind z<strKind bT))&& !(occurrences z bT 0 z.length (z.length+1)).isEmpty&&u9 (z.length<=1000)&&u9 (partsBetween z (occurrences z bT 0 z.length (z.length+1)) bT.length=a)&&u9 (a.length<=1000)
section
variable {X:Cx}
theorem WY: ∀(ps) (t),Vals (ps.map V.str) (strsFrom t ps)
 | [],_=> .nil
 | p::ps,t=> .cons ⟨_,rfl⟩ (WY ps (t+1))
def AM:iT X "str.split" (fun x vs H Q=> ∃ z i,x= .str z/\vs= [.str bT]/\my z i=true/\ ∀p,H p=none->Q (.ref p) (aP H p (.lst (i.map V.str)))):=by
 intro c s U H x vs v r Q I l rv h
 obtain⟨z,i,rfl,rfl,a,q⟩:=h
 obtain⟨t,rfl⟩:=l
 obtain⟨u,rfl,m⟩:=rv.one
 obtain⟨g,rfl⟩:=m
 unfold my at a
 simp only [Aa1,Ag6,decide_eq_true_eq]at a
 obtain⟨⟨⟨⟨k,n⟩,j⟩,f⟩,d⟩:=a
 refine call_meets PySem.F.slot_str_split (typeIs_str _ _ _) PySem.F.entry_str_split (PySem.F.args_str_split_2 _ _) (meets_str_split_sep z bT t g k rfl n (Ag1 (qm j)) (by rw [f];exact(Ag1 (qm d)))) ?_
 rw [f]
 refine⟨.ref s.heap.objs.size,_,?_,rfl,q _ (I.a0.fresh (Aa9 _))⟩
 exact I.laid (λb o e=>Ab2 _ e) (Aa9 _) (show a8 X.prog X.w _ _ _ (.lst _)from⟨by rw [Aa];exact(Ag1 (qm d)),strsFrom s.toks i,0,WY i s.toks,Ac7 s.heap rfl⟩)
end
open PySem PySem.Spec PyProof.Rows
def dS (a:List (Str×V)):HO:= .dK (a.map λp=>(.inr p.1,p.2))
noncomputable def hV (a:List (Str×V)) (k:Str) (v:V):List (Str×V):=if a.any (λp=>u9 (p.1=k))then a.map (λp=>if p.1=k then(p.1,v)else p)else a++ [(k,v)]
theorem uv : ∀ {c:List (Str×V)}{vs},KV (c.map λp=>((.inr p.1:c3),p.2)) vs->(vs.any λi=>i.1= .inr k)=c.any λp=>u9 (p.1=k)
 | [],_,.nil=>rfl
 | p::c,(a,b)::vs,.cons r t=>by
  obtain⟨e1,e2⟩:=r
  rw [Ag9,Ag9,uv t,←e1]
  by_cases q:p.1=k<;>simp [q]
theorem mJ : ∀ {c:List (Str×V)}{vs},KV (c.map λp=>((.inr p.1:c3),p.2)) vs->cz (c.lookup k) (valueAt vs (.inr k))
 | [],_,.nil=>trivial
 | p::c,(a,b)::vs,.cons r t=>by
  obtain⟨e1,e2⟩:=r
  have d:=mJ (k:=k) t
  unfold valueAt at d ⊢
  rw [List.find?_cons,Ab7,←e1]
  by_cases q:p.1=k
  .rw [beq_iff_eq.mpr q.symm]
   simp only [q,decide_true]
   exact e2
  .rw [beq_eq_false_iff_ne.mpr λz=>q z.symm]
   have: ¬(Sum.inr p.1:c3)= .inr k:=λz=>q (by injection z)
   simp only [this,decide_false]
   exact d
def LB (d:RelV v u)(h:KV (kvs.map λp=>((.inr p.1:c3),p.2)) vs):KV ((hV kvs k v).map λp=>((.inr p.1:c3),p.2)) (stored vs (.inr k) u):=by
 unfold hV stored
 rw [uv h]
 by_cases c:(kvs.any λp=>u9 (p.1=k))=u0
 .rw [if_pos c,if_pos c]
  clear c
  induction kvs generalizing vs with
  | nil=>cases h;exact .nil
  | cons p kvs e=>
   cases h with
   | @cons _ q _ vs r t=>
    obtain⟨a,b⟩:=q
    obtain⟨e1,e2⟩:=r
    subst e1
    refine .cons ?_ (e t)
    by_cases q:p.1=k
    .subst q
     simp only [if_true]
     exact⟨trivial,d⟩
    .have: ¬(Sum.inr p.1:c3)= .inr k:=λz=>q (by injection z)
     simp only [q,this,if_false]
     exact⟨trivial,e2⟩
 .rw [if_neg c,if_neg c,Ae0]
  exact Paired.snoc h ⟨rfl,d⟩
section
variable {X:Cx}{pins:List (Addr×Obj)}{U:St}{H:Hp}{s:Shared}{a:Addr}{k:Str}{kvs:List (Str×V)}{u r:Value}{A:Around}{E:Value->Shared->Prop}
def X9 (I:Inv X pins U H s) (e:H a=k0 (dS kvs)):kvs.length<=sizeLine/\(a==sysModules)=k9/\ ∃vs,KV (kvs.map λp=>((.inr p.1:c3),p.2)) vs/\s.heap.DictOf (zE X.prog X.w) a vs:=by
 obtain⟨z,c,vs,b,dd⟩:=(show a8 X.prog X.w H s.heap a (dS kvs)from I.a0 a _ e)
 rw [Aa]at z
 exact⟨z,c,vs,b,dd⟩
def KD (I:Inv X pins U H s) (e:H a=k0 (dS kvs)) (d:RelV (.str k) u) (l:kvs.lookup k=k0 v) (h: ∀i s',Inv X pins U H s'->RelV v i->Q i s'):wpAny (model X.prog X.w) A (getItem (.ref a) u) Q E s:=by
 obtain⟨z,j,g,b,dd⟩:=X9 I e
 obtain⟨t,rfl⟩:=d
 obtain⟨i,f,c⟩:=cz.some_of (by rw [← l];exact mJ b)
 exact wpAny_getItem_of (Xl _ _ k t) dd.mapOf f (h i _ (I.tok _) c)
def vp (r:cz o q):q.isSome=o.isSome:=by
 cases o with
 | none=>rw [cz.none_of r];rfl
 | some v=>obtain⟨u,rfl,_⟩:=cz.some_of r;rfl
def FY (I:Inv X pins U H s) (e:H a=k0 (dS kvs)) (c:RelV (.str k) u) (h: ∀s',Inv X pins U H s'->Q (.bool (kvs.lookup k).isSome) s'):wpAny (model X.prog X.w) A (compareOp .In u (.ref a)) Q E s:=by
 obtain⟨z,d,f,b,dd⟩:=X9 I e
 obtain⟨t,rfl⟩:=c
 refine wpAny_in_of (Xl _ _ k t) d dd.mapOf ?_
 rw [vp (mJ b)]
 exact h _ (I.tok _)
def Hr (I:Inv X pins U H s) (e:H a=k0 (dS kvs)) (c:RelV (.str k) u) (h: ∀s',Inv X pins U H s'->Q (.bool (!(kvs.lookup k).isSome)) s'):wpAny (model X.prog X.w) A (compareOp .NotIn u (.ref a)) Q E s:=by
 obtain⟨z,d,f,b,dd⟩:=X9 I e
 obtain⟨t,rfl⟩:=c
 refine wpAny_notIn_of (Xl _ _ k t) d dd.mapOf ?_
 rw [vp (mJ b)]
 exact h _ (I.tok _)
def MU (kvs) (k) (v):(hV kvs k v).length<=kvs.length+1:=by
 unfold hV
 split
 .rw [Aa];lia
 .simp
def Fq (I:Inv X pins U H s) (e:H a=k0 (dS kvs)) (n:RelV (.str k) u) (rv:RelV v r) (w:kvs.length<sizeLine) (h: ∀s',Inv X pins U (aP H a (dS (hV kvs k v))) s'->Q () s'):wpAny (model X.prog X.w) A (setItem (.ref a) u r) Q E s:=by
 obtain⟨z,o,l,c,dd⟩:=X9 I e
 obtain⟨t,rfl⟩:=n
 have p:l.length<=sizeLine:=by rw [← Paired.length c,Aa];exact z
 refine wpAny_setItem_pairs (Xl _ _ k t) dd λg b f=>h _ ?_
 have m: ∃q,g.get? a=k0 q:=let ⟨q,_,_,i,_⟩:=b; ⟨q,i⟩
 refine I.write (by rw [e];exact True.intro) (.inl rfl) (λj q d z=>(f.2 j d).trans z) m ⟨?_,o,_,LB rv c,b⟩
 rw [Aa]
 have:=MU kvs k v
 lia
def Hh (I:Inv X pins U H s) (e:H a=k0 (dS kvs)) (h: ∀p s',H p=y0->Inv X pins U (aP H p (dS kvs)) s'->Q (.ref p) s'):wpAny (model X.prog X.w) A (call (.type "dict") [.ref a]) Q E s:=by
 obtain⟨z,j,i,c,dd⟩:=X9 I e
 refine kt_call_dict j dd (by rw [← Paired.length c,Aa];exact z) λk d g=> ?_
 refine h _ _ (I.a0.fresh (Aa9 _)) (I.laid (λb q f=> ?_) (Aa9 _) ⟨by rw [Aa];exact z,beq_eq_false_iff_ne.mpr (Ne.symm (Ac6 (nF I))),i,c,d⟩)
 exact(g.2 b (Ac6 (Ac1 f))).trans (Ab2 _ f)
def Bo:TE:=λ_ H Q=> ∀p,H p=y0->Q (.ref p) (aP H p (dS []))
def ES :PE X (.Dict [] [] pos) Bo:=λa s U H Q I h=>
 wpAny_Dict_empty ⟨.ref s.heap.objs.size,_,I.laid (o:=dS []) (λ_ _ q=>Ab2 _ q) (Aa9 _) ⟨Ae6 _,beq_eq_false_iff_ne.mpr (Ne.symm (Ac6 (nF I))),[],.nil,Heap.DictOf.new _⟩,rfl,h _ (I.a0.fresh (Aa9 _))⟩
end
open PySem PySem.Spec PySem.Calls PySem.W PyProof.Rows
def nG:List TE->St->Hp->(List V->Hp->Prop)->Prop
 | [],_,H,Q=>Q [] H
 | t::b,U,H,Q=>t U H λv H1=>nG b U H1 λa H2=>Q (v::a) H2
section
variable {X:Cx}
def kX (X:Cx):List Str->List TE->List (Option Expr)->List Expr->Prop
 | [],f,ks,d=>f= []/\ks= []/\d= []
 | x::r,f,ks,d=> ∃j p e t c b a,f=t::a/\ks=k0 (.Constant (.str x) j p)::c/\d=e::b/\PE X e t/\kX X r a c b
theorem uW: ∀ {T}{i}{ks}{vs},kX X T i ks vs->ks.all (·.isSome)=u0/\ks.length=T.length/\vs.length=T.length
 | [],_,_,_,⟨rfl,rfl,rfl⟩=>⟨rfl,rfl,rfl⟩
 | x::r,_,_,_,⟨j,p,e,t,f,a,d,rfl,rfl,rfl,_,ok⟩=>by
  obtain⟨c,g,b⟩:=uW ok
  exact⟨by simpa using c,by simp [g],by simp [b]⟩
theorem XO : ∀ {T}{O}{ks}{vs}{s}{H}{Q}{i},kX X T O ks vs->Inv X pins U H s->nG O U H Q →
 (∀ ws H1 kvs L M,Inv X pins U H1 M->Carries (zE X.prog X.w) L kvs->KV ((T.zip ws).map λp=>((.inr p.1:c3),p.2)) kvs->kvs.map (·.1)=T.map .inr->Q ws H1->i L M) →
 wpAny (model X.prog X.w) X.A (evalPairs (pairTrees ks vs X.env pos)) i X.xe s
 | [],_,_,_,s,H,Q,i,⟨rfl,rfl,rfl⟩,I,h,q=>pairTrees_nil_walk (q [] H [] [] s I trivial .nil rfl h)
 | x::r,_,_,_,s,H,Q,i,⟨j,p,e,t,z,d,o,rfl,rfl,rfl,w,ok⟩,I,h,q=>
  pairTrees_cons_walk (Calls.Constant_str (aO (w pins _ U H _ (I.tok _) h) λu M ⟨v,H1,y,k,l⟩=>
   XO ok y l λws b kvs L a g c f m n=>q (v::ws) b ((.inr x,u)::kvs) _ a g ⟨Xl _ _ x _,rfl,c⟩ (.cons ⟨rfl,k⟩ f) (by simp [m]) n))
def Mf (ok:kX X T ts ks vs) (y:T≠ []) (n:T.length<=15) (A:T.Nodup):
 PE X (.Dict ks vs pos) (λU H Q=> ∀p,H p=y0->nG ts U (aP H p (dS [])) λws H1=>H1 p=k0 (dS [])/\Q (.ref p) (aP H1 p (dS (T.zip ws)))):=by
 intro j s U H Q I h
 obtain⟨x,a2,a3⟩:=uW ok
 have k:=beq_eq_false_iff_ne.mpr (Ne.symm (Ac6 (nF I)))
 refine wpAny_Dict_walk (knd:=zE X.prog X.w) x (a2.trans a3.symm) (λz=>y (List.length_eq_zero_iff.mp (by simp_all))) (by lia) ?_
 refine XO ok (I.laid (o:=dS []) (t':=s.toks) (fun _ _ q=>Heap.get?_push_of_some { cls:= .type "dict",data:= .dict #[] } q) (Nat.le_refl _) ⟨Nat.zero_le _,k,[],.nil,Heap.DictOf.new _⟩) (h _ (I.a0.fresh (Nat.le_refl _))) fun ws H1 d C D l c f m q=>⟨d,c,?_,fun t dd r=> ?_⟩
 .obtain⟨_,_,v,g,dd⟩:=X9 l q.1
  cases g
  exact dd
 .rw [QO d [] (by rw [Ae7,m];exact Ao7.map _ (λa b z e=>z (by injection e)) A),Ae7]at dd
  have B: ∃q,t.get? s.heap.objs.size=k0 q:=let ⟨q,_,_,u,_⟩:=dd; ⟨q,u⟩
  refine⟨.ref s.heap.objs.size,_,l.write (o:=dS _) (by rw [q.1];exact True.intro) (.inl rfl) (λw q i z=>(r.2 w i).trans z) B ⟨?_,k,_,f,dd⟩,rfl,q.2⟩
  rw [Aa,Al8]
  have:=n
  exact Ab5 (Nat.min_le_left _ _) (Ab5 n (by decide))
end
open PySem PySem.Spec PySem.Calls PyProof.Rows
section
variable {X:Cx}
def F0:pB X "int.bit_length" (fun x xs H Q=> ∃i:Int,x= .int i/\xs= []/\Q (.int ((Builtin.Int.intBits i:Nat):Int)) H):=by
 intro a s U H x xs v c Q I b rv h
 obtain⟨i,rfl,rfl,q⟩:=h
 obtain⟨t,rfl⟩:=b
 cases rv
 exact call_int_bit_length ⟨.int _,H,I.tok _,⟨_,rfl⟩,q⟩
end
def dj (H H':Hp):Prop:= ∀a o,H a=k0 o->H' a=k0 o
def dj.refl :dj H H:=λ_ _ h=>h
def dj.trans (a:dj H H1) (b:dj H1 H2):dj H H2:=λx o h=>b x o (a x o h)
def bu.le {K:Aa8}(h:bu K H a xs) (l:dj H H'):bu K H' a xs:=by
 obtain h | h:=h
 .refine .inl ?_
  obtain h | ⟨u,h⟩:=h
  .exact .inl (l _ _ h)
  .exact .inr ⟨u,l _ _ h⟩
 .exact .inr h
def fW (g:Int->Int):Int->List Int->Int
 | b,[]=>b
 | b,x::xs=>if g x<g b then fW g x xs else fW g b xs
def QY {id:String}(b:(args.any (·.1)||kws.any (·.1.isNone))=k9)
 (h:wpAny M A (evalArgs (.builtin id) u0 args kws) (λa i=>wpAny M A (call (.builtin id) (first++a.pos) a.kw) Q E i) E s):
 wpAny M A (callWith pos (.builtin id) first args kws) Q E s:=by
 refine wpAny_bind (wpAny_holding (wpAny_mono h (λa i c=>wpAny_bind (wpAny_standAt ?_)) λ_ _ x=>x))
 simp only [b]
 exact wpAny_bind (wpAny_pure (wpAny_bind (wpAny_mono c (λr d e=>wpAny_bind (wpAny_holding (wpAny_point (wpAny_pure e)))) λ_ _ x=>x)))
section
variable {X:Cx}{pins:List (Addr×Obj)}{U:St}{H0:Hp}{q l S J:Addr}{is:List Int}{g:Int->Int}{R:Result->Shared->Prop}
def oO (X:Cx) (U:St) (a:Hp) (q:Addr) (is:List Int) (g:Int->Int):Prop:= ∀(pins:List (Addr×Obj)) (s:Shared) (H:Hp) (n:Int) (t:Tok),n∈is->Inv X pins U H s->dj a H →
 wpAny (model X.prog X.w) X.A.in1 (call (.ref q) [.int n t]) (EP X pins U λv H'=>v= .int (g n)/\dj H H') (λ_ _=>False) s
def bA.keep (h:bA X pins H b) (n:H' b=y0):bA X pins H' b:=⟨n,h.2⟩
def vS (T:oO X U H0 q is g) (o:n∈is) (I:Inv X pins U H s) (h:dj H0 H) (fS:bA X pins H S) (d:bA X pins H J) (e:s.heap.get? S=k0 oS) (f:s.heap.get? J=k0 oJ) (dS: ∀v,oS.data≠ .cell v) (l: ∀v,oJ.data≠ .cell v)
 (k: ∀t' s' H',Inv X pins U H' s'->dj H0 H'->bA X pins H' S->bA X pins H' J->s'.heap.get? S=k0 oS->s'.heap.get? J=k0 oJ->Q (.int (g n) t') s'):
 wpAny (model X.prog X.w) X.A.in1 (call (.ref q) [.int n t]) Q E s:=by
 have p:=I.pinned (λb a=>by
  obtain rfl | a:=Ab8.mp a
  .exact fS
  .rw [Ac2.mp a];exact d) (λb a=>by
  obtain rfl | a:=Ab8.mp a
  .exact⟨_,e,dS⟩
  .rw [Ac2.mp a];exact⟨_,f,l⟩)
 refine wpAny_mono (T _ s H n t o p h) (λu s' m=> ?_) λ_ _ z=>z.elim
 obtain⟨v,H',c,r,rfl,le⟩:=m
 obtain⟨t',rfl⟩:=r
 have j:=c.pin _ (Ab0 _ (Ab0 _ (Zg (by simp) e)))
 have i:=c.pin _ (Ab0 _ (Ab0 _ (Zg (by simp) f)))
 exact k t' s' H' c.bI (h.trans le) (fS.keep j.2.1) (d.keep i.2.1) j.1 i.1
def Cy (hh:X.A.handled=y0) (T:oO X U H0 q is g) (hl:bu X.K H0 l (is.map .int)) (Z:l≠J) (D:S≠J): ∀(Jp:List Int) (j:Nat) (k:Int) (tv tb:Tok) (c:Nat) (s:Shared) (H:Hp),is.drop (j+1)=Jp->j+1<=is.length->Inv X pins U H s->dj H0 H->bA X pins H S->bA X pins H J →
 s.heap.get? S=k0 (seqObj "list" #[.int k tv,.int (g k) tb] c)->s.heap.IsListIter J l (j+1)->(∀ t s' H',Inv X pins U H' s'->dj H0 H'->R (.ok (.ret (.int (fW g k Jp) t))) s')->codeAny (model X.prog X.w) X.A (.builtin "min.loop" ⟨[.ref J,.ref q,.ref S],[]⟩) R s:=by
 have f:(toString "min" ++toString ".loop" :String)= "min.loop" :=by decide
 intro Jp
 induction Jp with
 | nil=>
  intro j k tv tb c s H hd hj I hH fS fJ eS L hR
  obtain⟨d,rv,pl, -⟩:=I.list (hl.le hH)
  have il:d.length=is.length:=by rw [← rv.length,Aa]
  have hin:j+1=is.length:=by
   have:=congrArg List.length hd
   rw [Af7]at this
   simp at this
   lia
  have W:=Walks.list (prog:=X.prog) (w:=X.w) (A:=X.A.in1) hh J l Z d.toArray
  refine codeAny_builtin PySem.F.entry_min_loop ?_
  rw [Around.under_plainId PySem.F.plain_min_loop _]
  show wpAny _ X.A.in1 _ _ _ _
  refine wpAny_bind (wpAny_seqItems eS rfl ?_)
  show wpAny _ X.A.in1 (tryCatch (pyNext (.ref J)) _ >>= _) _ _ _
  refine wpAny_bind (wpAny_tryCatch (W.done _ _ _ ⟨by rw [Ac0,il,←hin];exact L,pl.isList⟩ λY F m=> ?_))
  have E:=m S _ (by simpa using D) eS
  have s1:=Aj1.update Y S (Obj.mapSeq λ_=>(#[]:Array Value))
  show wpAny _ X.A.in1 (updateSeq S (λ_=> #[]) >>= _) _ _ _
  refine wpAny_bind (wpAny_updateSeq E rfl (wpAny_bind (wpAny_letGo (wpAny_pure ?_))))
  have I1:Inv X pins U H { s with heap:=Y,toks:=F }:=I.b8 (ch:= [J]) (λb o a e=>m b o a e) λb a=>by rw [Ac2.mp a];exact fJ
  exact hR _ _ _ (I1.b8 (ch:= [S]) (λb o a e=>(s1.2 b (by simpa using a)).trans e) λb a=>by rw [Ac2.mp a];exact fS) hH
 | cons n Jp ih=>
  intro j k tv tb c s H hd hj I hH fS fJ eS L hR
  obtain⟨d,rv,pl, -⟩:=I.list (hl.le hH)
  have il:d.length=is.length:=by rw [← rv.length,Aa]
  have B:j+1<is.length:=by
   have:=congrArg List.length hd
   rw [Af7]at this
   simp at this
   lia
  have en:is[j+1]? =k0 n:=by
   have:=congrArg (·[0]?) hd
   simpa using this
  refine codeAny_builtin PySem.F.entry_min_loop ?_
  rw [Around.under_plainId PySem.F.plain_min_loop _]
  show wpAny _ X.A.in1 (seqItems? (.ref S) >>= _) _ _ _
  refine wpAny_bind (wpAny_seqItems eS rfl ?_)
  show wpAny _ X.A.in1 (tryCatch (pyNext (.ref J)) _ >>= _) _ _ _
  refine wpAny_bind (wpAny_tryCatch ((Walks.list (prog:=X.prog) (w:=X.w) (A:=X.A.in1) hh J l Z d.toArray).item (j+1) _ _ _ (by rw [Ac0,il];exact B) ⟨L,pl.isList⟩ λv Y F hP V m=> ?_))
  obtain⟨u,hu,ru⟩:=rv.get (i:=j+1) (x:= .int n) (by rw [Ac,en];rfl)
  obtain⟨r,rfl⟩:=ru
  obtain rfl:v= .int n r:=by
   have:d[j+1]? =k0 v:=by simpa using hP
   rw [hu]at this
   exact(Ad6.inj this).symm
  obtain⟨oJ,hoJ,hoc,C⟩:=id V.1
  have I1:Inv X pins U H { s with heap:=Y,toks:=F }:=I.b8 (ch:= [J]) (λb o a e=>m b o a e) λb a=>by rw [Ac2.mp a];exact fJ
  have E:Y.get? S=k0 _:=m S _ (by simpa using D) eS
  show wpAny _ X.A.in1 (tryCatch (holding [.int n r] (call (.ref q) [.int n r])) _ >>= _) _ _ _
  refine wpAny_bind (wpAny_tryCatch (wpAny_holding (vS T (Ac4 en) I1 hH fS fJ E hoJ (λv z=>by cases z) (λv z=>by rw [C]at z;cases z) λy s2 H2 I2 Q G M K N=> ?_)))
  have O:s2.heap.IsListIter J l (j+1+1):=⟨oJ,N,hoc,C⟩
  have hd2:is.drop (j+1+1)=Jp:=by
   have:=congrArg List.tail hd
   simpa [List.tail_drop]using this
  show wpAny _ X.A.in1 (tryCatch (holding [.int n r,.int (g n) y] (richCompare .Lt (.int (g n) y) (.int (g k) tb) >>= _)) _ >>= _) _ _ _
  refine wpAny_bind (wpAny_tryCatch (wpAny_holding (wpAny_bind (CmpOf.ints_lt (prog:=X.prog) (w:=X.w) (A:=X.A.in1) (P:=λ(i:Nat) v=> ∃t,v= .int (if i=0 then g n else g k) t) (λi=>if i=0 then g n else g k) (λi v h=>h) 0 1 _ _ _ _ _ ⟨y,rfl⟩ ⟨tb,rfl⟩ (wpAny_bind (wpAny_holding (wpAny_truthy_bool (wpAny_bind (wpAny_letGo (wpAny_pure ?_))))))))))
  show wpAny _ X.A.in1 (if u9 (g n<g k)=u0 then _ else _) _ _ _
  by_cases p:g n<g k
  .have s1:=Aj1.update s2.heap S (Obj.mapSeq λ_=> #[.int n r,.int (g n) y])
   obtain⟨c2,hc2⟩: ∃c2,(s2.heap.update S (Obj.mapSeq fun _=> #[.int n r,.int (g n) y])).get? S=k0 (seqObj "list" #[.int n r,.int (g n) y] c2):=⟨_,get?_update_seq K fun _=> #[.int n r,.int (g n) y]⟩
   rw [if_pos (decide_eq_true p)]
   refine wpAny_bind (wpAny_updateSeq K rfl (wpAny_bind (wpAny_letGo ?_)))
   rw [f]
   refine wpAny_pure ⟨plainId_quiet PySem.F.plain_min_loop _,ih (j+1) n r y c2 _ H2 hd2 B ?_ Q G M hc2 ⟨oJ,(s1.2 J D.symm).trans N,hoc,C⟩ λt s' H' I' l'=> ?_⟩
   .exact I2.b8 (ch:= [S]) (λb o a e=>(s1.2 b (by simpa using a)).trans e) λb a=>by rw [Ac2.mp a];exact G
   .have:=hR t s' H' I' l'
    rw [fW,if_pos p]at this
    exact this
  .rw [if_neg (by rw [decide_eq_false p];exact Ac3)]
   refine wpAny_bind (wpAny_letGo ?_)
   rw [f]
   refine wpAny_pure ⟨plainId_quiet PySem.F.plain_min_loop _,ih (j+1) k tv tb c _ H2 hd2 B I2 Q G M K O λt s' H' I' l'=> ?_⟩
   have:=hR t s' H' I' l'
   rw [fW,if_neg p]at this
   exact this
def Hk (hh:X.A.handled=y0)(T:oO X U H q (n::is) g) (I:Inv X pins U H s) (hl:bu X.K H l ((n::is).map .int)) (hQ: ∀t s' H',Inv X pins U H' s'->dj H H'->Q (.int (fW g n is) t) s'):
 wpAny (model X.prog X.w) X.A (call (.builtin "min") [.ref l] [(Str.ofString "key",.ref q)]) Q E s:=by
 have a:(toString "min" ++toString ".loop" :String)= "min.loop" :=by decide
 obtain⟨d,rv,pl, -⟩:=I.list hl
 have h:=pl.isList
 obtain⟨ol,hol,_⟩:=id h
 have L:l<s.heap.objs.size:=Ac1 hol
 have il:d.length=(n::is).length:=by rw [← rv.length,Aa]
 refine kmk_tree PySem.F.kind_min PySem.F.plain_min PySem.F.entry_min (kmk_min_key _ _) ?_
 show wpAny _ X.A.in1 _ _ _ s
 refine wpAny_bind (wpAny_of_eq (show Builtin.Builtins.bindParams "min" ["key", "default"] 0 ⟨[],[(Str.ofString "key",.ref q)]⟩=pure [some (.ref q),none]from rfl) ?_)
 refine wpAny_bind (wpAny_pure ?_)
 refine wpAny_bind (wpAny_pyIter_list h ?_)
 refine wpAny_bind (wpAny_newList ?_ (Ae6 _))
 rw [a]
 have Y:(s.heap.push { cls:= .type "list_iterator",data:= .fields #[.ref l,.int 0 0] }).objs.size=s.heap.objs.size+1:=size_push' ..
 have f:l≠s.heap.objs.size:=Ac6 L
 have c:(s.heap.push { cls:= .type "list_iterator",data:= .fields #[.ref l,.int 0 0] }).objs.size≠s.heap.objs.size:=by rw [Y];exact Nat.ne_of_gt (Nat.lt_succ_self _)
 have O:bA X pins H s.heap.objs.size:=I.c8 (Aa9 _) (I.a0.fresh (Aa9 _))
 have fS:bA X pins H (s.heap.push { cls:= .type "list_iterator",data:= .fields #[.ref l,.int 0 0] }).objs.size:=I.c8 (by rw [Y];exact Nat.le_succ _) (I.a0.fresh (by rw [Y];exact Nat.le_succ _))
 refine wpAny_pure ⟨plainId_quiet PySem.F.plain_min_loop _,?_⟩
 have Z:((s.heap.push { cls:= .type "list_iterator",data:= .fields #[.ref l,.int 0 0] }).push (seqObj "list" #[] 0)).get? s.heap.objs.size=some { cls:= .type "list_iterator",data:= .fields #[.ref l,.int 0 0] }:=
  Ab2 _ (Ac7 _ rfl)
 have gS:((s.heap.push { cls:= .type "list_iterator",data:= .fields #[.ref l,.int 0 0] }).push (seqObj "list" #[] 0)).get? (s.heap.push { cls:= .type "list_iterator",data:= .fields #[.ref l,.int 0 0] }).objs.size=some _:=Heap.get?_push_size _ rfl
 have I0:Inv X pins U H { s with heap:=(s.heap.push { cls:= .type "list_iterator",data:= .fields #[.ref l,.int 0 0] }).push (seqObj "list" #[] 0),toks:=s.toks }:=I.kept fun b u e=>Heap.get?_push_of_some _ (Heap.get?_push_of_some _ e)
 have r:((s.heap.push { cls:= .type "list_iterator",data:= .fields #[.ref l,.int 0 0] }).push (seqObj "list" #[] 0)).IsList l d.toArray:=h.at fun o e=>Heap.get?_push_of_some _ (Heap.get?_push_of_some _ e)
 generalize (s.heap.push { cls:= .type "list_iterator",data:= .fields #[.ref l,.int 0 0] }).objs.size=S at c fS gS I0 r Z ⊢
 generalize s.heap.objs.size=J at f c O Z ⊢
 have W:=Walks.list (prog:=X.prog) (w:=X.w) (A:=X.A.in1) hh J l f d.toArray
 refine codeAny_builtin PySem.F.entry_min_loop ?_
 rw [Around.under_plainId PySem.F.plain_min_loop _]
 show wpAny _ X.A.in1 _ _ _ _
 refine wpAny_bind (wpAny_seqItems gS rfl ?_)
 show wpAny _ X.A.in1 (tryCatch (pyNext (.ref J)) _ >>= _) _ _ _
 refine wpAny_bind (wpAny_tryCatch (W.item 0 _ _ _ (by rw [Ac0,il];exact Nat.succ_pos _) ⟨⟨_,Z,rfl,rfl⟩,r⟩ λv F m hP C B=> ?_))
 obtain⟨u,hu,ru⟩:=rv.get (i:=0) (x:= .int n) rfl
 obtain⟨j,rfl⟩:=ru
 obtain rfl:v= .int n j:=by
  have:d[0]? =k0 v:=by simpa using hP
  rw [hu]at this
  exact(Ad6.inj this).symm
 obtain⟨oJ,R,P,D⟩:=id C.1
 have I1:=I0.b8 (h':=F) (t':=m) (ch:= [J]) (λb o k e=>B b o k e) λb k=>by rw [Ac2.mp k];exact O
 have I1:Inv X pins U H { s with heap:=F,toks:=m }:=I1
 have K:F.get? S=k0 _:=B S _ (by simpa using c) gS
 show wpAny _ X.A.in1 (tryCatch (holding [.int n j] (call (.ref q) [.int n j])) _ >>= _) _ _ _
 refine wpAny_bind (wpAny_tryCatch (wpAny_holding (vS T Aa5 I1 dj.refl fS O K R (λv z=>by cases z) (λv z=>by rw [D]at z;cases z) λG s2 H2 I2 V p M y N=> ?_)))
 have s1:=Aj1.update s2.heap S (Obj.mapSeq λ_=> #[.int n j,.int (g n) G])
 obtain⟨c2,hc2⟩: ∃c2,(s2.heap.update S (Obj.mapSeq λ_=> #[.int n j,.int (g n) G])).get? S=k0 _:=⟨_,get?_update_seq y λ_=> #[.int n j,.int _ G]⟩
 show wpAny _ X.A.in1 _ _ _ _
 refine wpAny_bind ?_
 refine wpAny_updateSeq y rfl ?_
 rw [a]
 refine wpAny_pure ⟨plainId_quiet PySem.F.plain_min_loop _,Cy hh T hl f c is 0 n j G c2 _ H2 rfl (Nat.succ_le_succ (Ae6 _)) ?_ V p M hc2 ⟨oJ,(s1.2 J c.symm).trans N,P,D⟩ λt s' H' I' l'=>hQ t s' H' I' l'⟩
 exact I2.b8 (ch:= [S]) (λb o k e=>(s1.2 b (by simpa using k)).trans e) λb k=>by rw [Ac2.mp k];exact p
end
def C7 (K:Aa8) (a:Sp) (E:XK) (c:TE):TE:=λU H Q=>c U H λx H1=> ∃(l:Addr) (n:Int) (is:List Int) (g:Int->Int),x= .ref l/\bu K H1 l ((n::is).map .int)/\(∀ m∈n::is,∀H2,dj H1 H2->a [.int m] H2 (λv b=>v= .int (g m)/\dj H2 b) E)/\ ∀H2,dj H1 H2->Q (.int (fW g n is)) H2
section
variable {X:Cx}{CX:gu}{k:Nat}{f:Addr}{fd:FuncData}{ps:List Str}{sp:Sp}{E:XK}{x fn:Str}{p p2 kp pos:Pos}{e:Expr}{te:TE}
def Bb (hc:X.calm=true) (hh:X.A.handled=none) (R:Gl X x) (P:X.mg x=none) (T:bootBuiltins x=some (.builtin "min")) (F:XG X.prog X.w X.K X.mg X.base CX k f fd ps sp) (hr:bg (k+1) X.A) (B:Gl X fn) (G:X.mg fn=some (.ref f)) (hb:Binds X.K fd ps [])
 (hE: ∀outer H s e s', ¬CX outer H s E e s') (he:PE X e te) (hn:x≠ "__name__" :=by decide) (y:(x==("__debug__" :Str))=false:=by decide) (z:(fn==("__debug__" :Str))=false:=by decide)
 (q:starEach [e] X.env=(k9,eval e X.env)::starEach [] X.env:=by rfl):PE X (.Call (.Name x p) [e] [⟨k0 (Str.ofString "key"),.Name fn p2,kp⟩] pos) (C7 X.K sp E te):=by
 intro a s U H Q I h
 refine wpAny_Call_Name_kw (qB I R P T ?_ hn y)
 have W:PK X [⟨k0 (Str.ofString "key"),.Name fn p2,kp⟩] (oD (tC (.ref f)) mH):=Bd (tU B G rfl z) IF
 have M:=(Xf he Wn q) pos a s U H (λo i=>match o with
  | [v]=> ∃ l n is g,v= .ref l/\bu X.K i l ((n::is).map .int)/\(∀ m∈n::is,∀b,dj i b->sp [.int m] b (λv Y=>v= .int (g m)/\dj b Y) E)/\ ∀b,dj i b->Q (.int (fW g n is)) b
  | _=>False) I h
 .refine QY (by rw [q];rfl) ?_
  rw [q]at M ⊢
  refine evalArgs_kw rfl (aO M ?_)
  rintro us s1 ⟨o,i,I1,r1,J⟩
  obtain⟨v,rfl⟩: ∃v,o= [v]:=by
   match o,J with
   | [v],_=>exact⟨v,rfl⟩
  obtain⟨l,n,is,g,rfl,hl,D,Z⟩:=J
  refine aO (W pos a s1 U i (λL b=>L= [.ref f]/\b=i) I1 ?_) λws s2 ⟨L,b,I2,O,ez,eH⟩=> ?_
  .exact⟨rfl,rfl⟩
  subst ez eH
  obtain⟨u,rfl,ru⟩:=r1.one
  obtain⟨w,rfl,A⟩:=O.one
  obtain rfl:u= .ref l:=ru
  obtain rfl:w= .ref f:=A
  refine Hk hh (λa s H d t C I hH=> ?_) I2 hl λt s' K I' l'=>⟨.int _,K,I',⟨_,rfl⟩,Z K l'⟩
  have c:=D d C H hH
  have N:Vals [V.int d] [Value.int d t]:= .cons ⟨_,rfl⟩ .nil
  refine wpAny_call (codeAny_mono (F.run X.A.in1 X.stack s H ⟨[.int d t],[]⟩ [.int d t] [.int d] _ E hr.in1 I.iE.in1 (hb s [.int d t] I.cu (by rw [Ae3,←N.length];exact F.len _ _ _ _ c)) N c) λr s' j=> ?_)
  cases r with
  | error e=>exact hE _ _ _ _ _ j
  | ok S=>
   cases S with
   | ret u=>exact I.after j
   | next=>exact False.elim j
   | brk=>exact False.elim j
   | cont=>exact False.elim j
end
section
variable {prog:Program}{w:World}{A:Around}{E:Value->Shared->Prop}{s:Shared}
def Fd (xs:List Value):((Aa3 xs.length).filterMap λ(m:Nat)=>xs.toArray[(((xs.length:Int)-1)+(m:Int)* -1).toNat]?)=xs.reverse:=by
 have e: ∀m∈Aa3 xs.length,xs.toArray[((xs.length-1)+(m:Int)* -1).toNat]? =k0 (xs.reverse.getD m .none):=by
  intro m b
  have b:=Ab4.mp b
  have:((xs.length-1)+(m:Int)* -1).toNat=xs.length-1-m:=by lia
  rw [this,Ac5,List.getElem?_reverse b,An4,Aa4 (by lia)]
  rfl
 have d: ∀ {f}{g:Nat->Value}(l:List Nat),(∀ m∈l,f m=k0 (g m))->l.filterMap f=l.map g:=by
  intro f g l
  induction l with
  | nil=>exact λ_=>rfl
  | cons a l c=>exact λh=>by rw [List.filterMap_cons_some (h a (by simp)),c λm b=>h m (by simp [b]),Ab1]
 rw [d _ e]
 refine List.ext_getElem (by simp) λi k j=> ?_
 rw [List.getElem_map,List.getElem_range,Ac5,Aa4 j]
 rfl
def qJ {n:Nat}(c:s.heap.IsSliceOf sl .none .none (.int (-1) tk)) (h:Q ((n:Int)-1, -1,n) s):wpAny (model prog w) A (Builtin.Slice.sliceApplied (.ref sl) (pure (n:Int))) Q E s:=by
 obtain⟨e,a,d,b⟩:=id c
 refine wpAny_bind (wpAny_bind (wpAny_field a b (x:= .none) rfl (wpAny_bind (wpAny_field a b (x:= .none) rfl (wpAny_bind (wpAny_field a b rfl (wpAny_pure (wpAny_bind (slicePart_int (wpAny_bind (slicePart_none (wpAny_bind (slicePart_none (wpAny_bind (wpAny_pure ?_)))))))))))))))
 show wpAny _ _ (pure ((n:Int)-1,_,Builtin.Slice.slicePlaces ((n:Int)-1) (-1) (-1))) _ _ s
 have:Builtin.Slice.slicePlaces ((n:Int)-1) (-1) (-1)=n:=by
  unfold Builtin.Slice.slicePlaces
  rw [if_neg (by decide)]
  show(if (n:Int)-1> -1 then((n:Int)-1- -1-1) / 1+1 else 0).toNat=n
  rw [Int.ediv_one]
  split<;>lia
 rw [this]
 exact wpAny_pure h
def xI {t sl:Addr}{a:List Value}{o:Tok}{Q:Value->Shared->Prop}(c:IsTup s.heap t a.toArray) (j:s.heap.IsSliceOf sl .none .none (.int (-1) o))
 (h:Q (.ref s.heap.objs.size) { s with heap:=s.heap.push { cls:= .type "tuple",data:= .seq a.reverse.toArray } }) (f:a.length<=sizeLine):wpAny (model prog w) A (getItem (.ref t) (.ref sl)) Q E s:=by
 have b:=by
  show a.reverse.toArray.size<=sizeLine
  rw [Ac0,Ao4]
  exact f
 obtain⟨k,d,g,l⟩:=id j
 have e:s.TypeIs (.ref sl) "slice" :=⟨k,d,g⟩
 unfold getItem
 try with_reducible refine wpAny_holding ?_
 refine wpAny_bind (wpAny_sequenceKey c.typeIs rfl (wpAny_bind (wpAny_callSpecial?_slot (name:=Str.ofString "__getitem__") c.typeIs PyProof.Rows.slot_tuple_getitem
  (wpAny_call_entry PyProof.Rows.slot_tuple_getitem c.typeIs PyProof.Rows.entry_tuple_getitem ?_ (PyProof.Rows.args_tuple_getitem _ _)))))
 show wpAny _ _ (Builtin.Tuple.tupleItemsOf _ >>= _) _ _ s
 refine wpAny_bind (tupleItemsOf_ c (wpAny_bind (wpAny_typeOf e (wpAny_bind (qJ (n:=a.length) j ?_)))))
 have i: ¬((((a.length:Int)-1)==0&& -1==1&&a.length==a.toArray.size)=u0):=by
  intro q
  rw [Aa1,Aa1]at q
  exact absurd q.1.2 (by decide)
 show wpAny _ _ (if _=u0 then _ else _) _ _ s
 rw [if_neg i,Fd]
 first
  | exact wpAny_bind (m:=Builtin.Tuple.tupleExact _) _
  | exact wpAny_bind (m:=Builtin.Tuple.tupleExact _) (wpAny_newObj_type (wpAny_bind (wpAny_pure (wpAny_pure ⟨_,rfl,wpAny_pure h⟩))) b)
  | exact wpAny_bind _
  | exact wpAny_bind _
end
def B5 (K:Aa8) (c b:TE):TE:=λU H Q=>c U H λx H1=>b U H1 λy H2=>y= .int (-1)/\ ∃a xs,x= .ref a/\cj K H2 a xs/\ ∀p,H2 p=y0->Q (.ref p) (aP H2 p (.tup xs.reverse))
def EW {e st:Expr}(F:PE X e te) (o:PE X st tk) (k: ∀l a,subscripted (.Slice y0 y0 (k0 st) p2) k9 l a=operate [l,a] (getItem l a):=by intro l a;with_unfolding_all rfl):PE X (.Subscript e (.Slice y0 y0 (k0 st) p2) pos) (B5 X.K te tk):=by
 intro c s U H Q I h
 refine Subscript_ (aO (F c s U H _ I h) λv G ⟨x,w,D,z,t⟩=> wpAny_Slice (wpAny_pure (wpAny_pure (aO (o c G U w _ D t) ?_))))
 rintro K j ⟨y,p,u,B,m⟩
 obtain⟨rfl,a,J,rfl,E,q⟩:=m
 obtain⟨d,rfl⟩:=B
 cases z
 have f:Inv X c U p { j with heap:=j.heap.push { cls:= .type "slice",data:= .fields #[.none,.none,.int (-1) d] } }:=u.kept fun b n q=>Heap.get?_push_of_some _ q
 obtain⟨C,r,i,A⟩:=f.tuple E
 have g:=r.length
 refine tail_any i.typeIs PyProof.Rows.slot_tuple_getitem.lookup (xI i (Heap.IsSliceOf.new ..) ⟨.ref _,_,f.laid (λb n q=>Ab2 _ q) (Aa9 _) ?_,rfl,q _ (f.a0.fresh (Aa9 _))⟩ (by lia)) (k _ _)
 exact⟨by rw [Ao4];exact A,_,yt r,c7.new _ _⟩
end L2
set_option genSizeOfSpec false
namespace M
abbrev Tx:=List Nat
def vN: ∃n:Nat,n=1000000:=⟨_,rfl⟩
noncomputable def bf:Nat:=Aj4 vN
def Gg:bf=1000000:=Ah4 vN
def uA: ∃n:Int,n=1073741824:=⟨_,rfl⟩
noncomputable def kF:Int:=Aj4 uA
def GO:kF=1073741824:=Ah4 uA
def tW: ∃n:Int,n=2 ^ 62:=⟨_,rfl⟩
noncomputable def fY:Int:=Aj4 tW
def GS:fY=2 ^ 62:=Ah4 tW
def sE: ∃n:Int,n=2 ^ 64:=⟨_,rfl⟩
noncomputable def dX:Int:=Aj4 sE
def GX:dX=2 ^ 64:=Ah4 sE
def pY: ∃n:Int,n=1000000:=⟨_,rfl⟩
noncomputable def BP:Int:=Aj4 pY
def Kc:BP=1000000:=Ah4 pY
def uO: ∃n:Nat,n=2 ^ 64:=⟨_,rfl⟩
noncomputable def kl:Nat:=Aj4 uO
def GC:kl=2 ^ 64:=Ah4 uO
inductive D where
 | au
 | bl (b:Bool)
 | int (i:Int)
 | str (s:Tx)
 | tup (xs:List D)
 | lst (xs:List D)
 | ref (r:Nat)
inductive W where
 | v (d:D)
 | own (xs:List D)
 | bor (xs:List D)
abbrev WK:=Int×List Int×List Int
inductive Cell where
 | lst (xs:List D)
 | aN (kvs:List (Tx×D))
 | obj (c:String) (fs:List (String×D))
abbrev AH:=List Cell
abbrev Sl:=List (Option W)
inductive R (α:Type) where
 | ok (a:α) (h:AH)
 | fail
def R.bind {b c:Type}:R b->(b->AH->R c)->R c
 | .ok a h,f=>f a h
 | .fail,_=> .fail
inductive O where
 | next (τ:Sl) (h:AH)
 | ret (w:W) (h:AH)
 | brk (τ:Sl) (h:AH)
 | cont (τ:Sl) (h:AH)
 | fail
def O.seq:O->(Sl->AH->O)->O
 | .next τ h,f=>f τ h
 | o,_=>o
def R.cA {b:Type}:R b->(b->AH->O)->O
 | .ok a h,f=>f a h
 | .fail,_=> .fail
section
variable {α β:Type}
@[simp] theorem R.ae (a) (h) (f:α->AH->R β):(R.ok a h).bind f=f a h:=rfl
@[simp] theorem R.ar (a) (h) (f:α->AH->O):(R.ok a h).cA f=f a h:=rfl
@[simp] theorem O.bw (τ) (h) (f):(O.next τ h).seq f=f τ h:=rfl
@[simp] theorem O.bM (w) (h) (f):(O.ret w h).seq f= .ret w h:=rfl
end
inductive Op where
 | add | sub | mul | fdiv | mod | pow | shl | shr | band | bor | bxor
 deriving DecidableEq
inductive Cp where
 | eq | ne | lt | le | gt | ge | mem | e6 | c6 | iJ
 deriving DecidableEq
inductive Ty where
 | au | bool | int | str | list | tuple
 deriving DecidableEq
inductive Mt where
 | index | count | b5
 deriving DecidableEq
inductive Bi where
 | len | int | list | tuple | sum | all | any | sorted | divmod | str | min | max | abs
 deriving DecidableEq
set_option genInjectivity false
mutual
inductive E where
 | var (i:Nat)
 | con (x:String)
 | int (i:Int)
 | bl (b:Bool)
 | au
 | str (s:Tx)
 | tup (es:Es)
 | lst (es:Es)
 | bin (o:Op) (a b:E)
 | cmp (o:Cp) (a b:E)
 | chain (o p:Cp) (a b c:E)
 | fA (neg:Bool) (a:E)
 | neg (a:E)
 | inv (a:E)
 | not (a:E)
 | and (a b:E)
 | or (a b:E)
 | call (f:String) (es:Es)
 | bi (b:Bi) (es:Es)
 | bZ (a:E) (t:Ty)
 | ix (a b:E)
 | sl (a lo hi:E)
 | fZ (a lo:E)
 | fb (a hi:E)
 | fg (a:E)
 | dW (a:E)
 | comp (tg:List Nat) (one:Bool) (k:Nat) (aB:List Nat) (it:It) (k6:Bool) (c elt:E)
 | c4
 | eU (i:Nat) (a:E)
 | cP (neg:Bool) (a:E) (i:Nat)
 | eA (i:Nat)
 | fT (k1:Tx) (a:E) (k2:Tx) (b:E) (k3:Tx) (c:E) (i:Nat)
 | share (a:E)
 | b4 (a:E)
 | dM (s:Tx) (ts:List Tx)
 | dJ (m:Mt) (a:E) (es:Es)
 | make (c q:String) (es:Es)
 | aI (a:E) (c f:String)
 | bL (a:E) (c m q:String) (es:Es)
 | fc (a:E)
 | fh (f:String) (a:E)
inductive Es where
 | nil
 | cons (e:E) (es:Es)
inductive It where
 | seq (e:E)
 | aj (a:E)
 | enum (e:E)
 | cw (e:E)
end
set_option genInjectivity true
mutual
inductive S where
 | set (i:Nat) (e:E)
 | af (i:Nat) (e:E)
 | eE (is:List Nat) (e:E)
 | bQ (o k e:E)
 | app (i:Nat) (e:E)
 | ext (i:Nat) (e:E)
 | cv (i:Nat) (k e:E)
 | cS (i:Nat) (k e:E)
 | bU (i:Nat) (c f:String) (e:E)
 | ej (a e:E)
 | ex (e:E)
 | ret (e:E)
 | iff (c:E) (a b:Ss)
 | iD (n:Nat) (c:E) (b:Ss)
 | for (tg:List Nat) (one:Bool) (it:It) (b:Ss)
 | fR (o k:E) (j:Nat) (e:E)
 | bH (i:Nat) (c f:String) (e:E)
 | dI
inductive Ss where
 | nil
 | cons (s:S) (ss:Ss)
end
noncomputable section
mutual
@[simp,reducible] noncomputable def Gd:D->Bool
 | .ref _=>k9
 | .tup xs=>Gc xs
 | .lst xs=>Gc xs
 | _=>u0
@[simp,reducible] noncomputable def Gc:List D->Bool
 | []=>u0
 | x::xs=>Gd x&&Gc xs
end
mutual
@[simp,reducible] noncomputable def dep:D->Nat
 | .tup xs=>GG xs+1
 | .lst xs=>GG xs+1
 | _=>0
@[simp,reducible] noncomputable def GG:List D->Nat
 | []=>0
 | x::xs=>max (dep x) (GG xs)
end
def Cell.pure:Cell->Bool
 | .obj _ fs=>Gc (fs.map (·.2))
 | _=>u0
def Gu (h:AH):Bool:=h.all Cell.pure
@[reducible] def G6 (a b:D):Bool:=Gd a&&Gd b&&u9 (dep a<150)
mutual
@[simp] noncomputable def res (h:AH):D->D
 | .ref r=>match h[r]? with
  | some (.lst xs)=> .lst xs
  | _=> .ref r
 | .tup xs=> .tup (GQ h xs)
 | .lst xs=> .lst (GQ h xs)
 | d=>d
@[simp] noncomputable def GQ (h:AH):List D->List D
 | []=> []
 | x::xs=>res h x::GQ h xs
end
mutual
@[simp] noncomputable def cy:D->D->Bool
 | .au,.au=>u0
 | .bl a,.bl b=>a==b
 | .int i,.int j=>i==j
 | .bl a,.int j=>(a.toNat:Int)==j
 | .int i,.bl b=>i==(b.toNat:Int)
 | .str s,.str t=>s==t
 | .tup xs,.tup ys=>GL xs ys
 | .lst xs,.lst ys=>GL xs ys
 | _,_=>k9
@[simp] noncomputable def GL:List D->List D->Bool
 | [],[]=>u0
 | x::xs,y::ys=>cy x y&&GL xs ys
 | _,_=>k9
end
def W.d:W->Option D
 | .v d=>k0 d
 | .own xs=>k0 (.lst xs)
 | .bor _=>y0
def W.arg:W->W
 | .own xs=> .bor xs
 | w=>w
@[simp] theorem W.bY (d):(W.v d).arg= .v d:=rfl
@[simp] theorem W.eN (xs):(W.own xs).arg= .bor xs:=rfl
@[simp] theorem W.gU (xs):(W.bor xs).arg= .bor xs:=rfl
def W.dd (h:AH):W->D
 | .v d=>res h d
 | .own xs=> .lst (GQ h xs)
 | .bor xs=> .lst (GQ h xs)
noncomputable def W.cm (h:AH):W->Option (List D)
 | .v (.lst xs)=>k0 xs
 | .own xs=>k0 xs
 | .bor xs=>k0 xs
 | .v (.ref r)=>match h[r]? with
  | some (.lst xs)=>k0 xs
  | _=>y0
 | _=>y0
noncomputable def W.seq? (h:AH):W->Option (List D)
 | .v (.tup xs)=>k0 xs
 | .v (.lst xs)=>k0 xs
 | .own xs=>k0 xs
 | .bor xs=>k0 xs
 | .v (.ref r)=>match h[r]? with
  | some (.lst xs)=>k0 xs
  | _=>y0
 | _=>y0
def R.of {b:Type}(h:AH):Option b->R b
 | some a=> .ok a h
 | none=> .fail
@[simp] abbrev ag (d:D) (h:AH):R W:= .ok (.v d) h
def G8 (h:AH):W->Option Bool
 | .v .au=>k0 k9
 | .v (.bl b)=>k0 b
 | .v (.int i)=>k0 (i != 0)
 | .v (.str s)=>if s.length<=bf then k0 (!s.isEmpty)else y0
 | .v (.tup xs)=>k0 (!xs.isEmpty)
 | .v (.lst xs)=>k0 (!xs.isEmpty)
 | .own xs=>k0 (!xs.isEmpty)
 | .bor xs=>k0 (!xs.isEmpty)
 | _=>y0
@[simp] theorem R.ao (h) (a:α):R.of h (k0 a)= .ok a h:=rfl
@[simp] theorem W.lj (d):(W.v d).d=k0 d:=rfl
@[simp] theorem W.dQ (xs):(W.own xs).d=k0 (.lst xs):=rfl
@[simp] theorem W.gK (h) (d):(W.v d).dd h=res h d:=rfl
@[simp] theorem W.iH (h) (xs):(W.own xs).dd h= .lst (GQ h xs):=rfl
@[simp] theorem W.ij (h) (xs):(W.bor xs).dd h= .lst (GQ h xs):=rfl
@[simp] theorem W.ll (h) (xs):(W.v (.lst xs)).cm h=k0 xs:=rfl
@[simp] theorem GT (h) (b):G8 h (.v (.bl b))=k0 b:=rfl
@[simp] theorem vT (h) (i):G8 h (.v (.int i))=k0 (i != 0):=rfl
noncomputable def Ke (i j:Int):Option Int:=
 if 0<=i then(if 0<=j then k0 ((i.toNat &&& j.toNat:Nat):Int)else k0 ((i.toNat-(i.toNat &&& (-j-1).toNat):Nat):Int))else y0
def kh (i j:Int):Option Int:=if 0<=i/\0<=j then k0 ((i.toNat ||| j.toNat:Nat):Int)else y0
def Kz (i j:Int):Option Int:=if 0<=i/\0<=j then k0 ((i.toNat ^^^ j.toNat:Nat):Int)else y0
def Gj (o:Op) (i j:Int):Option Int:=match o with
 | .add=>k0 (i+j)
 | .sub=>k0 (i-j)
 | .mul=>if(-(dX)<i/\i<dX)\/(-(dX)<j/\j<dX)then k0 (i*j)else y0
 | .fdiv=>if 0<j/\j<kF then k0 (i / j)else y0
 | .mod=>if 0<j then k0 (i % j)else y0
 | .pow=>if 0<=j/\j<=BP/\i.natAbs<kl then k0 (i ^ j.toNat)else y0
 | .shl=>if 0<=j/\j<=BP/\i.natAbs<kl then k0 (i*2 ^ j.toNat)else y0
 | .shr=>if 0<=j then k0 (i / 2 ^ j.toNat)else y0
 | .band=>Ke i j
 | .bor=>kh i j
 | .bxor=>Kz i j
def W.int? :W->Option Int
 | .v (.int i)=>k0 i
 | _=>y0
def W.dh :W->Option Tx
 | .v (.str s)=>k0 s
 | _=>y0
def W.dr :W->Option (List D)
 | .v (.tup s)=>k0 s
 | _=>y0
def KB (xs a:List D) (h:AH):R W:=if xs.length+a.length<=bf then .ok (.own (xs++a)) h else .fail
def Kw (xs:List D) (j:Int) (h:AH):R W:=if -1000<=j/\j<=1000/\xs.length*j.toNat<=bf then .ok (.own (Ab j.toNat xs).flatten) h else .fail
def KA (a b:W) (h:AH):R W:=match a.dh,b.dh with
 | some s,k0 t=>if s.length+t.length<=bf then ag (.str (s++t)) h else .fail
 | _,_=>match a.dr,b.dr with
  | some xs,k0 ys=>if xs.length+ys.length<=bf then ag (.tup (xs++ys)) h else .fail
  | _,_=>match a.cm h,b.cm h with
   | some xs,k0 ys=>KB xs ys h
   | _,_=> .fail
noncomputable def W.hI (h:AH):W->Option (List D)
 | .own xs=>k0 xs
 | .bor xs=>k0 xs
 | .v (.ref r)=>match h[r]? with
  | some (.lst xs)=>k0 xs
  | _=>y0
 | _=>y0
def KC (a b:W) (h:AH):R W:=match a.dh,b.int? with
 | some s,k0 j=>if 0<=j/\j<=1000/\s.length*j.toNat<=bf then ag (.str (Ab j.toNat s).flatten) h else .fail
 | _,_=>match a.hI h,b.int? with
  | some xs,k0 j=>Kw xs j h
  | _,_=> .fail
def GV (o:Op) (a b:W) (h:AH):R W:=match a.int?,b.int? with
 | some i,k0 j=>(R.of h (Gj o i j)).bind λk h=>ag (.int k) h
 | _,_=>match o with
  | .add=>KA a b h
  | .mul=>KC a b h
  | _=> .fail
def inD (x:D) (xs:List D):Bool:=xs.any λy=>cy y x
@[simp,reducible] def Km:D->Bool
 | .au=>u0
 | .bl _=>u0
 | .int _=>u0
 | .str _=>u0
 | _=>k9
def yJ:D->Option (List D)
 | .lst ys=>k0 ys
 | .tup ys=>k0 ys
 | _=>y0
def Kd (a b:W) (h:AH):Option Bool:=match yJ (b.dd h)with
 | some ys=>if Gd (a.dd h)&&Gc ys&&u9 (GG ys<140)then k0 (inD (a.dd h) ys)else y0
 | none=>y0
noncomputable def Ky (o:Cp) (i j:Int):Option Bool:=match o with
 | .lt=>k0 (u9 (i<j))
 | .le=>k0 (u9 (i<=j))
 | .gt=>k0 (u9 (j<i))
 | .ge=>k0 (u9 (j<=i))
 | _=>y0
def Kq:W->W->Option Bool
 | .v .au,.v (.bl _)=>k0 k9
 | .v (.bl b),.v (.bl c)=>k0 (b==c)
 | _,_=>y0
def Gq (o:Cp) (a b:W) (h:AH):Option Bool:=match o with
 | .eq=>if G6 (a.dd h) (b.dd h)then k0 (cy (a.dd h) (b.dd h))else y0
 | .ne=>if G6 (a.dd h) (b.dd h)then k0 (!cy (a.dd h) (b.dd h))else y0
 | .mem=>Kd a b h
 | .e6=>(Kd a b h).map (!·)
 | .c6=>Kq a b
 | .iJ=>(Kq a b).map (!·)
 | o=>match a.int?,b.int? with
  | some i,k0 j=>Ky o i j
  | _,_=>y0
noncomputable def dv (n:Nat) (i:Int):Option Nat:=if 0<=i then(if i<n then k0 i.toNat else y0)else if -(n:Int)<=i then k0 (i+n).toNat else y0
def aQ {a:Type}(xs:List a) (i:Int):Option a:=(dv xs.length i).bind λj=>xs[j]?
def c5 (a b:W) (h:AH):Option D:=match b.int? with
 | some i=>match a.dh with
  | some s=>if s.length<=bf then(aQ s i).map λc=> .str [c]else y0
  | none=>(a.seq? h).bind λxs=>aQ xs i
 | none=>y0
def aZ (n d:Nat):Option Int->Nat
 | none=>d
 | some v=>if v<0 then(v+n).toNat else min v.toNat n
noncomputable def cut {b:Type}(xs:List b) (a c:Option Int):List b:=(xs.drop (aZ xs.length 0 a)).take (aZ xs.length xs.length c-aZ xs.length 0 a)
def fv (a:W) (c b:Option Int) (h:AH):R W:=match a.dh with
 | some s=>if s.length<=bf then ag (.str (cut s c b)) h else .fail
 | none=>match a.dr with
  | some xs=>ag (.tup (cut xs c b)) h
  | none=>match a.cm h with
   | some xs=> .ok (.own (cut xs c b)) h
   | none=> .fail
def Kk:List D->Option Int
 | []=>k0 0
 | .int i::r=>(Kk r).map (i+ ·)
 | _::_=>y0
def GM:List D->Option (List Int)
 | []=>k0 []
 | .int i::r=>(GM r).map (i:: ·)
 | _::_=>y0
def GR:List D->Option (List Tx)
 | []=>k0 []
 | .str s::r=>(GR r).map (s:: ·)
 | _::_=>y0
def Hz:List Int->Option Int
 | []=>y0
 | i::r=>k0 (r.foldl (λa b=>if b>a then b else a) i)
def Ed:List Int->Option Int
 | []=>y0
 | i::r=>k0 (r.foldl (λa b=>if b<a then b else a) i)
def Kf (x:Tx):List Tx->List Tx
 | []=> [x]
 | y::ys=>if y<x then y::Kf x ys else x::y::ys
def GA:List Tx->List Tx
 | []=> []
 | x::xs=>Kf x (GA xs)
def Kj (x:Tx):List Tx->Option Nat
 | []=>y0
 | y::ys=>if y=x then k0 0 else(Kj x ys).map (· +1)
def Kl:List D->Option (List Bool)
 | []=>k0 []
 | .bl b::r=>(Kl r).map (b:: ·)
 | _::_=>y0
def pk (b:Bi) (w:W) (h:AH):R W:=match b with
 | .len=>match w.dh with
  | some s=>if s.length<=bf then ag (.int s.length) h else .fail
  | none=>(R.of h (w.seq? h)).bind λxs h=>ag (.int xs.length) h
 | .int=>match w with
  | .v (.int i)=>ag (.int i) h
  | .v (.bl b)=>ag (.int (b.toNat:Int)) h
  | _=> .fail
 | .list=>(R.of h (w.seq? h)).bind λxs h=> .ok (.own xs) h
 | .tuple=>(R.of h (w.seq? h)).bind λxs h=>ag (.tup xs) h
 | .sum=>(R.of h ((w.cm h).bind λxs=>if xs.length<=bf then Kk xs else y0)).bind λi h=>ag (.int i) h
 | .all=>(R.of h ((w.cm h).bind Kl)).bind λbs h=>ag (.bl (bs.all id)) h
 | .any=>(R.of h ((w.cm h).bind Kl)).bind λbs h=>ag (.bl (bs.any id)) h
 | .max=>(R.of h (((w.cm h).bind GM).bind Hz)).bind λi h=>ag (.int i) h
 | .min=>(R.of h (((w.cm h).bind GM).bind Ed)).bind λi h=>ag (.int i) h
 | .sorted=>(R.of h ((w.cm h).bind GR)).bind λa h=>if a.length<64 then .ok (.own ((GA a).map .str)) h else .fail
 | _=> .fail
noncomputable def mW (m:Mt) (x:W) (h:AH):Bool:=match m with
 | .index=>x.dr.isSome
 | .count=>(x.cm h).isSome
 | .b5=>(x.cm h).isSome
@[simp] theorem tL (xs) (h):mW .index (.v (.tup xs)) h=true:=rfl
def GY:Nat->List D->List D
 | _,[]=> []
 | i,d::ds=> .tup [.int (i:Int),d]::GY (i+1) ds
def Kr (d:D):List D->Option Nat
 | []=>y0
 | y::ys=>if cy y d=u0 then k0 0 else(Kr d ys).map (· +1)
def Kx (a b:W) (h:AH):Option Nat:=match b.dd h with
 | .lst ys=>if(Gd (a.dd h)&&Gc ys&&u9 (GG ys<140))&&u9 (ys.length<=bf)then Kr (a.dd h) ys else y0
 | _=>y0
def lZ (m:Mt) (x:W) (ws:List W) (h:AH):R W:=match m,ws with
 | .index,[w]=>(R.of h (x.dr.bind GR)).bind λa h=>(R.of h w.dh).bind λt h=>(R.of h (Kj t a)).bind λn h=>if a.length<=bf then ag (.int (n:Int)) h else .fail
 | .count,[w]=>(R.of h ((x.cm h).bind GM)).bind λis h=>(R.of h w.int?).bind λi h=>if is.length<=bf then ag (.int ((is.count i:Nat):Int)) h else .fail
 | .b5,[w]=>(R.of h (Kx w x h)).bind λn h=>ag (.int (n:Int)) h
 | _,_=> .fail
def sC (b:Bi) (i j:Int) (h:AH):R W:=match b with
 | .divmod=>if 0<j/\j<kF then ag (.tup [.int (i / j),.int (i % j)]) h else .fail
 | .min=>ag (.int (if j<i then j else i)) h
 | .max=>ag (.int (if j>i then j else i)) h
 | _=> .fail
def dw (b:Bi) (ws:List W) (h:AH):R W:=match ws with
 | [w]=>pk b w h
 | [v,w]=>(R.of h v.int?).bind λi h=>(R.of h w.int?).bind λj h=>sC b i j h
 | _=> .fail
@[simp] theorem GH (o) (i j) (h):GV o (.v (.int i)) (.v (.int j)) h=(R.of h (Gj o i j)).bind λk h=>ag (.int k) h:=rfl
@[simp] theorem Jc (i j):Gj .add i j=k0 (i+j):=rfl
@[simp] theorem Wc (i j):Gj .sub i j=k0 (i-j):=rfl
@[simp] theorem Iq (s u) (h):GV .add (.v (.str s)) (.v (.str u)) h=if s.length+u.length<=bf then ag (.str (s++u)) h else .fail:=rfl
@[simp] theorem vb (s u) (h):GV .add (.v (.tup s)) (.v (.tup u)) h=if s.length+u.length<=bf then ag (.tup (s++u)) h else .fail:=rfl
@[simp] theorem BV (s u) (h):GV .add (.v (.lst s)) (.own u) h=if s.length+u.length<=bf then .ok (.own (s++u)) h else .fail:=rfl
@[simp] theorem Ff (s u) (h):GV .add (.own s) (.own u) h=if s.length+u.length<=bf then .ok (.own (s++u)) h else .fail:=rfl
@[simp] theorem XZ (i j) (h):Gq .lt (.v (.int i)) (.v (.int j)) h=k0 (u9 (i<j)):=rfl
@[simp] theorem Q1 (i j) (h):Gq .le (.v (.int i)) (.v (.int j)) h=k0 (u9 (i<=j)):=rfl
@[simp] theorem M1 (i j) (h):Gq .gt (.v (.int i)) (.v (.int j)) h=k0 (u9 (j<i)):=rfl
@[simp] theorem DW (i j) (h):Gq .ge (.v (.int i)) (.v (.int j)) h=k0 (u9 (j<=i)):=rfl
@[simp] theorem KO (a b) (h):Gq .eq a b h=if G6 (a.dd h) (b.dd h)then k0 (cy (a.dd h) (b.dd h))else none:=rfl
@[simp] theorem FI (a b) (h):Gq .ne a b h=if G6 (a.dd h) (b.dd h)then k0 (!cy (a.dd h) (b.dd h))else none:=rfl
@[simp] theorem int?_int (i):(W.v (.int i)).int? =k0 i:=rfl
@[simp] theorem len_str (s) (h):dw .len [.v (.str s)] h=if s.length<=bf then ag (.int s.length) h else .fail:=rfl
@[simp] theorem Xc (s) (h):dw .len [.v (.tup s)] h=ag (.int s.length) h:=rfl
@[simp] theorem Qx (s) (h):dw .len [.v (.lst s)] h=ag (.int s.length) h:=rfl
@[simp] theorem FP (s) (h):dw .len [.bor s] h=ag (.int s.length) h:=rfl
@[simp] theorem int_int (i) (h):dw .int [.v (.int i)] h=ag (.int i) h:=rfl
@[simp] theorem vA (s) (h):dw .list [.v (.tup s)] h= .ok (.own s) h:=rfl
@[simp] theorem ZX (s) (h):dw .tuple [.own s] h=ag (.tup s) h:=rfl
@[simp] theorem W2 (s) (h):dw .tuple [.bor s] h=ag (.tup s) h:=rfl
@[simp] theorem Np (s) (h):dw .all [.own s] h=(R.of h (Kl s)).bind λbs h=>ag (.bl (bs.all id)) h:=rfl
@[simp] theorem Nh (s) (h):dw .any [.own s] h=(R.of h (Kl s)).bind λbs h=>ag (.bl (bs.any id)) h:=rfl
@[simp] theorem yX (s) (h):dw .sum [.own s] h=(R.of h (if s.length<=bf then Kk s else y0)).bind λi h=>ag (.int i) h:=rfl
@[simp] theorem AD (i j) (h):dw .divmod [.v (.int i),.v (.int j)] h=if 0<j/\j<kF then ag (.tup [.int (i / j),.int (i % j)]) h else .fail:=rfl
@[simp] theorem ox (s) (i) (h):c5 (.v (.str s)) (.v (.int i)) h=if s.length<=bf then(aQ s i).map λc=> .str [c]else none:=rfl
@[simp] theorem aa (s) (i) (h):c5 (.v (.tup s)) (.v (.int i)) h=aQ s i:=rfl
@[simp] theorem xr (s) (i) (h):c5 (.v (.lst s)) (.v (.int i)) h=aQ s i:=rfl
@[simp] theorem JP (s) (i) (h):c5 (.own s) (.v (.int i)) h=aQ s i:=rfl
@[simp] theorem mm (s) (i) (h):c5 (.bor s) (.v (.int i)) h=aQ s i:=rfl
@[simp] theorem uB (s) (lo hi) (h):fv (.v (.lst s)) lo hi h= .ok (.own (cut s lo hi)) h:=rfl
@[simp] theorem D5 (s) (lo hi) (h):fv (.bor s) lo hi h= .ok (.own (cut s lo hi)) h:=rfl
abbrev d0:=List (String×String)
noncomputable def Hs:W->Option Ty
 | .v .au=>k0 .au
 | .v (.bl _)=>k0 .bool
 | .v (.int _)=>k0 .int
 | .v (.str _)=>k0 .str
 | .v (.tup _)=>k0 .tuple
 | .v (.lst _)=>k0 .list
 | .own _=>k0 .list
 | .bor _=>k0 .list
 | .v (.ref _)=>y0
def Ty.le:Ty->Ty->Bool
 | .bool,.int=>u0
 | a,b=>u9 (a=b)
def bZ (t:Ty) (w:W):Option Bool:=(Hs w).map λu=>u.le t
@[simp] theorem M6 (t) (i):bZ t (.v (.int i))=k0 (Ty.le .int t):=rfl
@[simp] theorem Ld (t) (s):bZ t (.v (.tup s))=k0 (Ty.le .tuple t):=rfl
@[simp] theorem Ty.gB (t):Ty.le t t=true:=by cases t<;>rfl
@[simp] theorem Ty.kP:Ty.le .int .tuple=false:=rfl
@[simp] def Gn:Sl->Nat->Option W
 | [],_=>y0
 | x::_,0=>x
 | _::r,n+1=>Gn r n
@[simp] def GB:Sl->Nat->W->Sl
 | [],_,_=> []
 | _::r,0,w=>k0 w::r
 | x::r,n+1,w=>x::GB r n w
def Gi (τ:Sl) (i:Nat):Option W:=match Gn τ i with
 | some (.own xs)=>k0 (.bor xs)
 | o=>o
@[simp] theorem Ka (e:Gn τ i=k0 (.own xs)):Gi τ i=k0 (.bor xs):=by simp [Gi,e]
@[simp] theorem Ks (e:Gn τ i=k0 (.v d)):Gi τ i=k0 (.v d):=by simp [Gi,e]
@[simp] theorem Kg (e:Gn τ i=k0 (.bor xs)):Gi τ i=k0 (.bor xs):=by simp [Gi,e]
@[simp] noncomputable def aY:List Nat->List D->Sl->Option Sl
 | [],[],τ=>k0 τ
 | i::is,d::ds,τ=>aY is ds (GB τ i (.v d))
 | _,_,_=>y0
def Gr (a:List Nat) (one:Bool) (d:D) (τ:Sl):Option Sl:=match one with
 | true=>match a with
  | [i]=>k0 (GB τ i (.v d))
  | _=>y0
 | false=>match d with
  | .tup ds=>aY a ds τ
  | _=>y0
noncomputable def Gy (step:D->AH->R (Option D)):List D->AH->R (List D)
 | [],h=> .ok [] h
 | d::ds,h=>match step d h with
  | .ok o h1=>match Gy step ds h1 with
   | .ok r h2=> .ok (match o with | some x=>x::r | none=>r) h2
   | _=> .fail
  | _=> .fail
structure Fx where
 call:String->List W->AH->R W
 cl:d0
 con:List (String×D)
noncomputable def GF (h:AH):Option W->Option (Nat×List D)
 | some (.v (.ref r))=>match h[r]? with
  | some (.lst xs)=>k0 (r,xs)
  | _=>y0
 | _=>y0
noncomputable def GZ (h:AH):Option W->Option (Nat×String×List (String×D))
 | some (.v (.ref r))=>match h[r]? with
  | some (.obj c fs)=>k0 (r,c,fs)
  | _=>y0
 | _=>y0
noncomputable def aW (f:String) (d:D):List (String×D)->List (String×D)
 | []=> [(f,d)]
 | (g,x)::r=>if g=f then(g,d)::r else(g,x)::aW f d r
def vi:W->Option (List D)
 | .v (.lst xs)=>k0 xs
 | .own xs=>k0 xs
 | _=>y0
noncomputable def GU (h:AH):Option W->Option (Nat×List (Tx×D))
 | some (.v (.ref r))=>match h[r]? with
  | some (.aN ks)=>k0 (r,ks)
  | _=>y0
 | _=>y0
noncomputable def GE (a:List (Tx×D)) (k:Tx) (d:D):List (Tx×D):=if a.any (λp=>u9 (p.1=k))then a.map (λp=>if p.1=k then(p.1,d)else p)else a++ [(k,d)]
noncomputable def eU (w:W) (o:Option (Nat×List (Tx×D))) (h:AH):R W:=match w,o with
 | .v (.str k),k0 (_,ks)=>match ks.lookup k with
  | some d=>ag d h
  | none=> .fail
 | _,_=> .fail
noncomputable def cP (neg:Bool) (w:W) (o:Option (Nat×List (Tx×D))) (h:AH):R W:=match w,o with
 | .v (.str k),k0 (_,ks)=>ag (.bl (if neg then !(ks.lookup k).isSome else(ks.lookup k).isSome)) h
 | _,_=> .fail
noncomputable def fT (T:List (Tx×W)) (o:Option W) (h:AH):R W:=match o with
 | some (.v (.str k))=>match T.lookup k with
  | some (.v d)=>if Km d then ag d h else .fail
  | _=> .fail
 | _=> .fail
def Kb (i:Int):Nat:=if i=0 then 0 else Nat.log2 i.natAbs+1
def G7:R W->Option Int
 | .ok (.v (.int y)) []=>k0 y
 | _=>y0
noncomputable def GW (key:Int->R W):Int->Int->List Int->Option Int
 | b,_,[]=>k0 b
 | b,a,x::xs=>(G7 (key x)).bind λk=>if k<a then GW key x k xs else GW key b a xs
def G9 (key:Int->R W):Option (List Int)->Option Int
 | some (x::xs)=>(G7 (key x)).bind λk=>GW key x k xs
 | _=>y0
mutual
@[simp] noncomputable def eval (F:Fx):E->Sl->AH->R W
 | .var i,τ,h=>match Gi τ i with
  | some w=> .ok w h
  | none=> .fail
 | .con x,_,h=>match F.con.lookup x with
  | some d=>ag d h
  | none=> .fail
 | .int i,_,h=>ag (.int i) h
 | .bl b,_,h=>ag (.bl b) h
 | .au,_,h=>ag .au h
 | .str s,_,h=>ag (.str s) h
 | .tup es,τ,h=>(Gx F es τ h).bind λds h=>ag (.tup ds) h
 | .lst es,τ,h=>(Gx F es τ h).bind λds h=> .ok (.own ds) h
 | .bin o a b,τ,h=>(eval F a τ h).bind λx h=>(eval F b τ h).bind λy h=>GV o x y h
 | .cmp o a b,τ,h=>(eval F a τ h).bind λx h=>(eval F b τ h).bind λy h=>(R.of h (Gq o x y h)).bind λc h=>ag (.bl c) h
 | .chain o p a b c,τ,h=>(eval F a τ h).bind λx h=>(eval F b τ h).bind λy h=>(R.of h (Gq o x y h)).bind λt h=>match t with
  | true=>(eval F c τ h).bind λz h=>(R.of h (Gq p y z h)).bind λc h=>ag (.bl c) h
  | false=>ag (.bl k9) h
 | .fA neg a,τ,h=>(eval F a τ h).bind λx h=>match x with
  | .v .au=>ag (.bl (!neg)) h
  | _=>ag (.bl neg) h
 | .neg a,τ,h=>(eval F a τ h).bind λx h=>(R.of h x.int?).bind λi h=>ag (.int (-i)) h
 | .inv a,τ,h=>(eval F a τ h).bind λx h=>(R.of h x.int?).bind λi h=>ag (.int (-i-1)) h
 | .not a,τ,h=>(eval F a τ h).bind λx h=>(R.of h (G8 h x)).bind λc h=>ag (.bl (!c)) h
 | .and a b,τ,h=>(eval F a τ h).bind λx h=>(R.of h (G8 h x)).bind λc h=>match c with
  | true=>eval F b τ h
  | false=> .ok x h
 | .or a b,τ,h=>(eval F a τ h).bind λx h=>(R.of h (G8 h x)).bind λc h=>match c with
  | true=> .ok x h
  | false=>eval F b τ h
 | .call f es,τ,h=>(Gf F es τ h).bind λws h=>F.call f (ws.map W.arg) h
 | .bi b es,τ,h=>(Gf F es τ h).bind λws h=>dw b ws h
 | .bZ a t,τ,h=>(eval F a τ h).bind λx h=>(R.of h (bZ t x)).bind λc h=>ag (.bl c) h
 | .ix a b,τ,h=>(eval F a τ h).bind λx h=>(eval F b τ h).bind λy h=>(R.of h (c5 x y h)).bind λd h=>ag d h
 | .sl a lo hi,τ,h=>(eval F a τ h).bind λx h=>(eval F lo τ h).bind λl h=>(R.of h l.int?).bind λl h=>(eval F hi τ h).bind λu h=>(R.of h u.int?).bind λu h=>fv x (k0 l) (k0 u) h
 | .fZ a lo,τ,h=>(eval F a τ h).bind λx h=>(eval F lo τ h).bind λl h=>(R.of h l.int?).bind λl h=>fv x (k0 l) y0 h
 | .fb a hi,τ,h=>(eval F a τ h).bind λx h=>(eval F hi τ h).bind λu h=>(R.of h u.int?).bind λu h=>fv x y0 (k0 u) h
 | .fg a,τ,h=>(eval F a τ h).bind λx h=>(R.of h x.dr).bind λxs h=>ag (.tup xs.reverse) h
 | .dW a,τ,h=>(eval F a τ h).bind λx h=>match GF h (k0 x)with
  | some _=>ag (.bl u0) h
  | none=> .fail
 | .comp tg one k aB it k6 c elt,τ,h=>(Gk F it τ h).bind λds h=>
  if ds.length<=bf then
   (Gy (λd h=>match Gr tg one d (Ab k y0++aB.map λj=>Gi τ j)with
     | none=> .fail
     | some τ'=>(if k6 then(eval F c τ' h).bind λx h=>R.of h (G8 h x)else .ok u0 h).bind λb h=>match b with
      | true=>(eval F elt τ' h).bind λy h=>(R.of h y.d).bind λy h=> .ok (k0 y) h
      | false=> .ok y0 h) ds h).bind λys h=> .ok (.own ys) h
  else .fail
 | .c4,_,h=>ag (.ref h.length) (h++ [.aN []])
 | .eU i a,τ,h=>match GU h (Gn τ i)with
  | some _=>(eval F a τ h).bind λx h=>eU x (GU h (Gn τ i)) h
  | none=> .fail
 | .cP neg a i,τ,h=>(eval F a τ h).bind λx h=>cP neg x (GU h (Gn τ i)) h
 | .fT k1 a k2 b k3 c i,τ,h=>(eval F a τ h).bind λx h=>(eval F b τ h).bind λy h=>(eval F c τ h).bind λz h=>fT [(k1,x),(k2,y),(k3,z)] (Gn τ i) h
 | .eA i,τ,h=>match GU h (Gn τ i)with
  | some (_,ks)=>ag (.ref h.length) (h++ [.aN ks])
  | none=> .fail
 | .share a,τ,h=>(eval F a τ h).bind λx h=>match x with
  | .own xs=>if Gc xs then ag (.ref h.length) (h++ [.lst xs])else .fail
  | _=> .fail
 | .b4 a,τ,h=>(eval F a τ h).bind λx h=>(R.of h x.int?).bind λn h=>if 0<=n/\n<=1000 then .ok (.own ((Aa3 n.toNat).map λ(i:Nat)=> .int (i:Int))) h else .fail
 | .dM _ ts,τ,h=> .ok (.own (ts.map .str)) h
 | .dJ m a es,τ,h=>(eval F a τ h).bind λx h=>if mW m x h then(Gf F es τ h).bind λws h=>lZ m x ws h else .fail
 | .make c q es,τ,h=>(Gf F es τ h).bind λws h=>(F.call q (.v (.ref h.length)::ws.map W.arg) (h++ [.obj c []])).bind λw h'=>match w with
  | .v .au=>ag (.ref h.length) h'
  | _=> .fail
 | .aI a c f,τ,h=>(eval F a τ h).bind λw h=>match GZ h (k0 w)with
  | some (_,c',fs)=>if c'=c then(R.of h (fs.lookup f)).bind λd h=>ag d h else .fail
  | none=> .fail
 | .bL a c m q es,τ,h=>(eval F a τ h).bind λw h=>match GZ h (k0 w)with
  | some (r,c',fs)=>if c'=c/\(fs.lookup m).isNone=u0 then(Gf F es τ h).bind λws h=>F.call q (.v (.ref r)::ws.map W.arg) h else .fail
  | none=> .fail
 | .fc a,τ,h=>(eval F a τ h).bind λw h=>(R.of h w.int?).bind λi h=>ag (.int ((Kb i:Nat):Int)) h
 | .fh f a,τ,h=>(eval F a τ h).bind λw h=>(R.of h (G9 (λx=>F.call f [.v (.int x)] []) ((w.cm h).bind GM))).bind λi h=>ag (.int i) h
@[simp] noncomputable def Gf (F:Fx):Es->Sl->AH->R (List W)
 | .nil,_,h=> .ok [] h
 | .cons e es,τ,h=>(eval F e τ h).bind λw h=>(Gf F es τ h).bind λws h=> .ok (w::ws) h
@[simp] noncomputable def Gx (F:Fx):Es->Sl->AH->R (List D)
 | .nil,_,h=> .ok [] h
 | .cons e es,τ,h=>(eval F e τ h).bind λw h=>(R.of h w.d).bind λd h=>(Gx F es τ h).bind λds h=> .ok (d::ds) h
@[simp] noncomputable def Gk (F:Fx):It->Sl->AH->R (List D)
 | .seq e,τ,h=>(eval F e τ h).bind λw h=>match w with
  | .v (.tup xs)=> .ok xs h
  | .v (.lst xs)=> .ok xs h
  | .own xs=> .ok xs h
  | .bor xs=> .ok xs h
  | _=> .fail
 | .aj a,τ,h=>(eval F a τ h).bind λw h=>(R.of h w.int?).bind λn h=>if -(fY)<=n/\n<fY then .ok ((Aa3 n.toNat).map λ(i:Nat)=> .int (i:Int)) h else .fail
 | .cw e,τ,h=>(eval F e τ h).bind λw h=>(R.of h (vi w)).bind λxs h=> .ok (GY 0 xs) h
 | .enum e,τ,h=>(eval F e τ h).bind λw h=>match w with
  | .v (.tup xs)=> .ok (GY 0 xs) h
  | _=> .fail
end
def ly:W->Option (List D)
 | .v (.tup xs)=>k0 xs
 | .v (.lst xs)=>k0 xs
 | .own xs=>k0 xs
 | _=>y0
def ku:W->Option (List D)
 | .v (.tup xs)=>k0 xs
 | .v (.lst xs)=>k0 xs
 | .bor xs=>k0 xs
 | _=>y0
@[simp] theorem Ko (xs):ly (.v (.tup xs))=k0 xs:=rfl
@[simp] theorem Kn (xs):ly (.v (.lst xs))=k0 xs:=rfl
@[simp] theorem Kh (xs):ly (.own xs)=k0 xs:=rfl
@[simp] theorem Ku (xs):ku (.v (.tup xs))=k0 xs:=rfl
@[simp] theorem Kt (xs):ku (.v (.lst xs))=k0 xs:=rfl
@[simp] theorem Kp (xs):ku (.bor xs)=k0 xs:=rfl
@[simp] def GK:E->Option Nat
 | .var i=>k0 i
 | _=>y0
@[simp] def Gs (F:Fx) (it:It) (τ:Sl) (h:AH):R (List D):=match it with
 | .seq e=>match GK e with
  | some i=>R.of h ((Gn τ i).bind ku)
  | none=>(eval F e τ h).bind λw h=>R.of h (ly w)
 | it=>Gk F it τ h
noncomputable def Gp (bnd:D->Sl->Option Sl) (body:Sl->AH->O):List D->Sl->AH->O
 | [],τ,h=> .next τ h
 | d::ds,τ,h=>match bnd d τ with
  | none=> .fail
  | some b=>match body b h with
   | .next a h2=>Gp bnd body ds a h2
   | .cont a h2=>Gp bnd body ds a h2
   | .brk a h2=> .next a h2
   | o=>o
noncomputable def GI (c:Sl->AH->R Bool) (body:Sl->AH->O):Nat->Sl->AH->O
 | 0,_,_=> .fail
 | n+1,τ,h=>(c τ h).cA λb h1=>match b with
  | false=> .next τ h1
  | true=>match body τ h1 with
   | .next a h2=>GI c body n a h2
   | .cont a h2=>GI c body n a h2
   | .brk a h2=> .next a h2
   | o=>o
def Gm (F:Fx) (e:E) (τ:Sl) (h:AH):R Bool:=(eval F e τ h).bind λx h=>R.of h (G8 h x)
def gb :W->Option (D×D)
 | .v (.tup [a,b])=>k0 (a,b)
 | _=>y0
def Kv (w a b:W) (τ:Sl) (h:AH):O:=match w,a,b with
 | .v d,.v (.ref r),.v (.int j)=>match h[r]? with
  | some (.lst xs)=>match dv xs.length j with
   | some n=>if Km d then .next τ (h.set r (.lst (xs.set n d)))else .fail
   | none=> .fail
  | _=> .fail
 | _,_,_=> .fail
mutual
@[simp] noncomputable def exec (F:Fx):S->Sl->AH->O
 | .set i e,τ,h=>(eval F e τ h).cA λw h=>match w with
  | .bor _=> .fail
  | w=> .next (GB τ i w) h
 | .af i e,τ,h=>(eval F e τ h).cA λw h=>match w.d with
  | some d=> .next (GB τ i (.v d)) h
  | none=> .fail
 | .eE is e,τ,h=>(eval F e τ h).cA λw h=>match w with
  | .v (.tup ds)=>match aY is ds τ with
   | some τ'=> .next τ' h
   | none=> .fail
  | _=> .fail
 | .fR o k j e,τ,h=>(eval F e τ h).cA λw h=>match gb w with
  | some (d1,d2)=>(eval F o τ h).cA λow h=>(eval F k τ h).cA λkw h=>if Km d2 then(match Kv (.v d1) ow kw τ h with
   | .next τ h=> .next (GB τ j (.v d2)) h
   | _=> .fail)else .fail
  | none=> .fail
 | .bQ o k e,τ,h=>(eval F e τ h).cA λw h=>(eval F o τ h).cA λow h=>(eval F k τ h).cA λkw h=>Kv w ow kw τ h
 | .app i e,τ,h=>match Gn τ i with
  | some (.own xs)=>(eval F e τ h).cA λw h=>match w.d with
   | some d=>if xs.length<bf then .next (GB τ i (.own (xs++ [d]))) h else .fail
   | none=> .fail
  | _=> .fail
 | .ext i e,τ,h=>match Gn τ i with
  | some (.own xs)=>(eval F e τ h).cA λw h=>match w with
   | .own ys=>if xs.length+ys.length<bf then .next (GB τ i (.own (xs++ys))) h else .fail
   | _=> .fail
  | _=> .fail
 | .bU i c f e,τ,h=>(eval F e τ h).cA λw h=>match w.d with
  | some d=>match GZ h (Gn τ i)with
   | some (r,c',fs)=>if c'=c/\Gd d=u0/\fs.length<100 then .next τ (h.set r (.obj c (aW f d fs)))else .fail
   | none=> .fail
  | none=> .fail
 | .cS i k e,τ,h=>(eval F e τ h).cA λw h=>match Gn τ i with
  | some (.own xs)=>(eval F k τ h).cA λkw h=>match w,kw with
   | .v d,.v (.int j)=>(match dv xs.length j with
    | some n=> .next (GB τ i (.own (xs.set n d))) h
    | none=> .fail)
   | _,_=> .fail
  | _=> .fail
 | .cv i k e,τ,h=>(eval F e τ h).cA λw h=>match GU h (Gn τ i)with
  | some _=>(eval F k τ h).cA λkw h=>match w,kw,GU h (Gn τ i)with
   | .v d,.v (.str t),k0 (r,ks)=>if ks.length<bf/\Gd d=u0 then .next τ (h.set r (.aN (GE ks t d)))else .fail
   | _,_,_=> .fail
  | none=> .fail
 | .ej a e,τ,h=>(eval F a τ h).cA λo h=>match GF h (k0 o)with
  | some _=>(eval F e τ h).cA λw h=>match w.d,GF h (k0 o)with
   | some d,k0 (r,xs)=>if xs.length<bf/\Gd d=u0 then .next τ (h.set r (.lst (xs++ [d])))else .fail
   | _,_=> .fail
  | none=> .fail
 | .ex e,τ,h=>(eval F e τ h).cA λ_ h=> .next τ h
 | .ret e,τ,h=>match GK e with
  | some i=>match Gn τ i with
   | some (.bor _)=> .fail
   | some w=> .ret w h
   | none=> .fail
  | none=>(eval F e τ h).cA λw h=>match w with
   | .bor _=> .fail
   | w=> .ret w h
 | .iff c a b,τ,h=>(Gm F c τ h).cA λt h=>match t with
  | true=>execs F a τ h
  | false=>execs F b τ h
 | .iD n c b,τ,h=>GI (λτ h=>Gm F c τ h) (λτ h=>execs F b τ h) n τ h
 | .for tg one it b,τ,h=>(Gs F it τ h).cA λds h=>Gp (Gr tg one) (λτ h=>execs F b τ h) ds τ h
 | .bH i c f e,τ,h=>(eval F e τ h).cA λw h=>match w with
  | .v d=>match GZ h (Gn τ i)with
   | some (r,c',fs)=>if c'=c/\fs.length<100 then .next τ (h.set r (.obj c (aW f d fs)))else .fail
   | none=> .fail
  | _=> .fail
 | .dI,_,_=> .fail
@[simp] noncomputable def execs (F:Fx):Ss->Sl->AH->O
 | .nil,τ,h=> .next τ h
 | .cons s ss,τ,h=>(exec F s τ h).seq λτ h=>execs F ss τ h
end
structure Fn where
 ps:Nat
 n:Nat
 body:Ss
structure Prog where
 fns:List (String×Fn)
 cl:d0
 con:List (String×D)
def W.keep:W->Bool
 | .v d=>Gd d
 | .own xs=>Gc xs
 | .bor _=>u0
noncomputable def fin (n:Nat) (w:W) (h:AH):R W:=if h.length=n then .ok w h else if w.keep&&Gu (h.take n)then .ok w (h.take n)else .ok w h
def Gw (n:Nat):O->R W
 | .ret w h=>match w with
  | .bor _=> .fail
  | w=>fin n w h
 | .next _ h=>fin n (.v .au) h
 | _=> .fail
@[simp] theorem Ga (d) (h h':AH) (e:h'.length=h.length):Gw h.length (.ret (.v d) h')= .ok (.v d) h':=by simp [Gw,fin,e]
@[simp] theorem Gv (xs) (h h':AH) (e:h'.length=h.length):Gw h.length (.ret (.own xs) h')= .ok (.own xs) h':=by simp [Gw,fin,e]
@[simp] theorem Gz (τ) (h h':AH) (e:h'.length=h.length):Gw h.length (.next τ h')= .ok (.v .au) h':=by simp [Gw,fin,e]
def run (F:Fx) (d:Fn) (ws:List W) (h:AH):R W:=if ws.length=d.ps then Gw h.length (execs F d.body (ws.map k0++Ab (d.n-d.ps) y0) h)else .fail
def call (p:Prog):Nat->String->List W->AH->R W
 | 0,_,_,_=> .fail
 | k+1,f,a,h=>match p.fns.lookup f with
  | some d=>run ⟨call p k,p.cl,p.con⟩ d a h
  | none=> .fail
def Gb (e:p.fns.lookup f=k0 d) (k) (ws) (h) (a:ws.length=d.ps):
 call p (k+1) f ws h=Gw h.length (execs ⟨call p k,p.cl,p.con⟩ d.body (ws.map k0++Ab (d.n-d.ps) y0) h):=by
 rw [call,e]
 simp [run,a]
end
end M
namespace L2.MS
open PySem PySem.Spec
section
open PySem.Calls PySem.W PyProof.Rows
def ef (P:Program) (w:World):gu:=λ_ _ _ _ _ _=>False
def IS {K:Aa8}{st:Stmt}(F:lT K x k7 st f fd) (S:jD N ps (zn st)) (len: ∀vs H Q E,sp vs H Q E->vs.length=ps.length)
 (a: ∀ i A outer s H vs Q E,bg k (A.deeper (envOfC k7 (zn st) s.heap.objs.size f i))->sp vs H Q E →
   ∃t,dk (hC (ef P w) P w K mg base N k7 (zn st) f i A outer s H E) (wJ st) t/\t { nx:=λ_ H'=>Q .au H',rt:=Q } (start N vs) H):XG P w K mg base (ef P w) (k+1) f fd ps sp:=by
 obtain⟨oc,j,kV,e,n,m,i,l,g,rfl,d,b⟩:=F.ex
 exact Er d b S len λA outer s H vs Q E h c=>a i A outer s H vs Q E h c
def Lb {K:Aa8}:PassesOwn (model P w) (A.deeper (envOfC k7 scope s.heap.objs.size f cd)) (envOfC k7 scope s.heap.objs.size f cd) (hC (ef P w) P w K mg base N k7 scope f cd A outer s H E).xe:=
 PassesOwn.leaving
def Ei {K:Aa8}(F:XG P w K mg base (ef P w) k f fd ps sp)
 (h: ∀vs H Q E,sp0 vs H Q E->sp vs H Q (λ_ _ _=>False)):XG P w K mg base kQ k f fd ps sp0:=by
 refine⟨λvs H Q E q=>F.len vs H Q _ (h _ _ _ _ q),λA a s H b e vs Q E l m j i d=>codeAny_mono (F.run A a s H b e vs Q _ l m j i (h _ _ _ _ d)) λres o c=> ?_⟩
 cases res with
 | ok g=>
  cases g with
  | ret u=>exact c
  | next=>exact c
  | brk=>exact c
  | cont=>exact c
 | error n=>exact False.elim c
end
structure Ge where
 K:Aa8
 ca:String->Addr
 cl:M.d0
 own:List String
 ma:String->Addr
structure Gh where
 fz:Addr->Prop
 aS:Nat->Addr
 n:Nat
def e7 (Y:Ge) (G:Gh) (H:Hp) (a:Addr) (vs:List V):Prop:=(G.fz a/\H a=k0 (.tup vs)) ∨
 ∃(o:Obj) (b:Array Value) (n:Nat),Y.K.lookup a=some o/\o.cls= .type "tuple" /\o.dict=none/\o.data= .seq b n/\b.size<=sizeLine/\Vals vs b.toList
def vE (Y:Ge) (a:Addr) (vs:List V):Prop:= ∃(o:Obj) (b:Array Value) (n:Nat),Y.K.lookup a=some o/\o.cls= .type "list" /\o.dict=none/\o.data= .seq b n/\b.size<=sizeLine/\Vals vs b.toList
def i9 (Y:Ge) (G:Gh) (H:Hp) (a:Addr) (vs:List V):Prop:=(G.fz a/\Rd H a (.lst vs))\/vE Y a vs
def e7.sq (h:e7 Y G H a vs):cj Y.K H a vs:=h.elim (λz=> .inl (.inl z.2)) λ⟨o,b,n,e,d,_,c⟩=> .inr ⟨o,b,n,e,d,c⟩
def e7.pl (h:e7 Y G H a vs):tR Y.K H a:=h.elim (λz=> .inl ⟨_,z.2⟩) λ⟨o,_,_,d,c,b,_⟩=> .inr ⟨o,d,c,b⟩
def i9.sq (h:i9 Y G H a vs):bu Y.K H a vs:=h.elim (λz=> .inl z.2) λz=> .inr z
def aK (s:M.Tx):Str:=⟨s.toArray⟩
mutual
def aC (Y:Ge) (G:Gh) (H:Hp):M.D->V->Prop
 | .au,v=>v= .au
 | .bl b,v=>v= .bl b
 | .int i,v=>v= .int i
 | .str s,v=>v= .str (aK s)
 | .tup ds,v=> ∃a vs,v= .ref a/\e7 Y G H a vs/\ab Y G H ds vs
 | .lst ds,v=> ∃a vs,v= .ref a/\i9 Y G H a vs/\ab Y G H ds vs
 | .ref r,v=>r<G.n/\v= .ref (G.aS r)
def ab (Y:Ge) (G:Gh) (H:Hp):List M.D->List V->Prop
 | [],vs=>vs= []
 | d::ds,vs=> ∃v r,vs=v::r/\aC Y G H d v/\ab Y G H ds r
end
def bB (Y:Ge) (G:Gh) (H:Hp) (a:Addr):M.Cell->Prop
 | .lst xs=>M.Gc xs=u0/\ ∃d,H a=k0 (.lst d)/\ab Y G H xs d
 | .aN ks=>M.Gc (ks.map (·.2))=u0/\ ∃b,H a=k0 (dS ((ks.map λp=>aK p.1).zip b))/\ab Y G H (ks.map (·.2)) b
 | .obj c fs=> ∃dx b,H a=k0 (.ins (Y.ca c) dx ((fs.map λp=>Str.ofString p.1).zip b))/\ab Y G H (fs.map (·.2)) b
structure ai (Y:Ge) (G:Gh) (h:M.AH) (H:Hp):Prop where
 len:h.length=G.n
 any: ∀r c,h[r]? =k0 c-> ¬G.fz (G.aS r)/\bB Y G H (G.aS r) c
 inj: ∀r s,r<G.n->s<G.n->G.aS r=G.aS s->r=s
 live: ∀a,G.fz a-> ∃o,H a=k0 o
def dB (G:Gh) (a:Addr):Prop:= ∀r,r<G.n->G.aS r≠a
structure Ext (G:Gh) (H:Hp) (G':Gh) (H':Hp):Prop where
 keep: ∀a o,H a=k0 o->dB G a->H' a=k0 o
 le:G.n<=G'.n
 aS: ∀r,r<G.n->G'.aS r=G.aS r
 new: ∀r,G.n<=r->r<G'.n->H (G'.aS r)=y0
 fz: ∀a,G.fz a->G'.fz a
 old: ∀a,G'.fz a->G.fz a\/H a=y0
 cells: ∀r,r<G.n->(∃ o,H (G.aS r)=k0 o)-> ∃o,H' (G.aS r)=k0 o
def ak (Y:Ge) (G:Gh) (H:Hp):M.W->V->Prop
 | .v d,v=>aC Y G H d v
 | .own xs,v=> ∃a b,v= .ref a/\ ¬G.fz a/\dB G a/\H a=k0 (.lst b)/\ab Y G H xs b
 | .bor xs,v=> ∃a b,v= .ref a/\dB G a/\Rd H a (.lst b)/\ab Y G H xs b
def dW:M.W->Bool
 | .own _=>u0
 | .bor _=>u0
 | _=>k9
structure aq (Y:Ge) (G:Gh) (τ:M.Sl) (h:M.AH) (U:St) (H:Hp):Prop where
 len:τ.length=U.length
 slot: ∀i w,M.Gn τ i=k0 w-> ∃v,U[i]? =k0 (k0 v)/\ak Y G H w v
 apart: ∀i j xs w a,i≠j->M.Gn τ i=k0 (.own xs)->M.Gn τ j=k0 w->dW w=u0->U[i]? =k0 (k0 (.ref a))->U[j]? ≠k0 (k0 (.ref a))
 heap:ai Y G h H
section
variable {Y:Ge}{G G' G1 G2:Gh}{H H' H1 H2:Hp}{h h':M.AH}{τ:M.Sl}{U:St}
def ai.cell (R:ai Y G h H) (r) (xs) (e:h[r]? =k0 (M.Cell.lst xs)): ¬G.fz (G.aS r)/\ ∃vs,H (G.aS r)=k0 (.lst vs)/\ab Y G H xs vs:=⟨(R.any r _ e).1,(R.any r _ e).2.2⟩
def ai.pure (R:ai Y G h H) (r:Nat) (xs) (e:h[r]? =k0 (M.Cell.lst xs)):M.Gc xs=true:=(R.any r _ e).2.1
theorem ai.obj (R:ai Y G h H) (r) (c) (fs) (e:h[r]? =k0 (M.Cell.obj c fs)): ¬G.fz (G.aS r)/\ ∃dx i,H (G.aS r)=k0 (.ins (Y.ca c) dx ((fs.map λp=>Str.ofString p.1).zip i))/\ab Y G H (fs.map (·.2)) i:=R.any r _ e
def ai.lt (R:ai Y G h H)(e:h[r]? =k0 c):r<G.n:=by rw [← R.len];exact(Aa0.mp e).1
def ai.at (R:ai Y G h H)(a:i<G.n): ∃c,h[i]? =k0 c:=⟨_,Aa4 (by rw [R.len];exact a)⟩
def bB.there (z:bB Y G H a c): ∃o,H a=k0 o:=by
 cases c with
 | lst b=>obtain⟨_,_,z,_⟩:=z;exact⟨_,z⟩
 | aN d=>obtain⟨_,_,z,_⟩:=z;exact⟨_,z⟩
 | obj c fs=>obtain⟨_,_,z,_⟩:=z;exact⟨_,z⟩
def ai.nL (r:ai Y G h H)(a:i<G.n): ¬G.fz (G.aS i):=let ⟨_,e⟩:=r.at a;(r.any i _ e).1
def ai.off (r:ai Y G h H)(c:G.fz a):dB G a:=λi b z=>r.nL b (z▸c)
theorem ai.there (r:ai Y G h H)(a:i<G.n): ∃o,H (G.aS i)=k0 o:=let ⟨_,e⟩:=r.at a;(r.any i _ e).2.there
def Ext.refl:Ext G H G H:=⟨λ_ _ e _=>e,Aa9 _,λ_ _=>rfl,λr b a=>absurd b (Ao.mpr a),λ_ z=>z,λ_ z=> .inl z,λ_ _ z=>z⟩
theorem Ext.none (e:Ext G H G' H') (d:ai Y G h H)(z:H' a=y0):H a=none:=by
 cases q:H a with
 | none=>rfl
 | some o=>
  by_cases b:dB G a
  .rw [e.keep a o q b]at z;cases z
  .unfold dB at b
   have: ∃r,r<G.n/\G.aS r=a:=Aj2 λg=>b λr d z=>g ⟨r,d,z⟩
   obtain⟨r,c,rfl⟩:=this
   obtain⟨i,f⟩:=e.cells r c ⟨o,q⟩
   rw [z]at f;cases f
def Ext.off (e:Ext G H G' H')(f:H a=k0 o) (b:dB G a):dB G' a:=λr d z=>by
 by_cases c:r<G.n
 .rw [e.aS r c]at z;exact b r c z
 .have:=e.new r (Nat.not_lt.mp c) d
  rw [z,f]at this;cases this
def Ext.trans (b:Ext G H G1 H1) (f:ai Y G h H) (d:Ext G1 H1 G2 H2):Ext G H G2 H2 where
 keep:=λa o z e=>d.keep a o (b.keep a o z e) (b.off z e)
 le:=Ab5 b.le d.le
 aS:=λr c=>by rw [d.aS r (Ab3 c b.le),b.aS r c]
 new:=λr i g=>by
  by_cases c:r<G1.n
  .rw [d.aS r c];exact b.new r i c
  .exact b.none f (d.new r (Nat.not_lt.mp c) g)
 fz:=λa z=>d.fz a (b.fz a z)
 old:=λa z=>(d.old a z).elim (λz=>b.old a z) λz=> .inr (b.none f z)
 cells:=λr c z=>by
  have:=d.cells r (Ab3 c b.le) (by rw [b.aS r c];exact b.cells r c z)
  rwa [b.aS r c]at this
def Ext.rd (e:Ext G H G' H')(z:Rd H a u) (b:dB G a):Rd H' a u:=z.elim (λz=> .inl (e.keep a _ z b)) λ⟨o,z⟩=> .inr ⟨o,e.keep a _ z b⟩
structure Mon (G:Gh) (H:Hp) (G':Gh) (H':Hp):Prop where
 keep: ∀a o,G.fz a->H a=k0 o->H' a=k0 o
 le:G.n<=G'.n
 aS: ∀r,r<G.n->G'.aS r=G.aS r
 fz: ∀a,G.fz a->G'.fz a
def Ext.mon (e:Ext G H G' H') (b:ai Y G h H):Mon G H G' H':=⟨λa o z q=>e.keep a o q (b.off z),e.le,e.aS,e.fz⟩
def Mon.rd (e:Mon G H G' H')(z:Rd H a u) (b:G.fz a):Rd H' a u:=z.elim (λz=> .inl (e.keep a _ b z)) λ⟨o,z⟩=> .inr ⟨o,e.keep a _ b z⟩
mutual
theorem aC.mon (e:Mon G H G' H'): ∀ {d:M.D}{v:V},aC Y G H d v->aC Y G' H' d v
 | .au,_,z=>z
 | .bl _,_,z=>z
 | .int _,_,z=>z
 | .str _,_,z=>z
 | .tup _,_,⟨a,vs,z1,z2,z3⟩=>⟨a,vs,z1,z2.elim (λz=> .inl ⟨e.fz a z.1,e.keep a _ z.1 z.2⟩) λz=> .inr z,ab.mon e z3⟩
 | .lst _,_,⟨a,vs,z1,z2,z3⟩=>⟨a,vs,z1,z2.elim (λz=> .inl ⟨e.fz a z.1,e.rd z.2 z.1⟩) .inr,ab.mon e z3⟩
 | .ref r,_,⟨z1,z2⟩=>⟨Ab3 z1 e.le,by rw [e.aS r z1];exact z2⟩
theorem ab.mon (e:Mon G H G' H'): ∀ {ds:List M.D}{vs:List V},ab Y G H ds vs->ab Y G' H' ds vs
 | [],_,z=>z
 | _::_,_,⟨v,r,z1,z2,z3⟩=>⟨v,r,z1,aC.mon e z2,ab.mon e z3⟩
end
theorem bB.mon (e:Mon G H G' H')(k: ∀o,H a=k0 o->H' a=k0 o) (z:bB Y G H a c):bB Y G' H' a c:=by
 cases c with
 | lst j=>obtain⟨g,i,d,b⟩:=z;exact⟨g,i,k _ d,b.mon e⟩
 | aN l=>obtain⟨g,f,d,b⟩:=z;exact⟨g,f,k _ d,b.mon e⟩
 | obj c fs=>obtain⟨h,f,d,b⟩:=z;exact⟨h,f,k _ d,b.mon e⟩
def aC.ext (e:Ext G H G' H') (a:ai Y G h H)(z:aC Y G H d v):aC Y G' H' d v:=z.mon (e.mon a)
def ab.ext (e:Ext G H G' H') (a:ai Y G h H)(z:ab Y G H d v):ab Y G' H' d v:=z.mon (e.mon a)
theorem ak.ext (e:Ext G H G' H') (f:ai Y G h H)(z:ak Y G H w v):ak Y G' H' w v:=by
 cases w with
 | v d=>exact aC.ext e f z
 | own k=>
  obtain⟨a,j,i,l,c,b,g⟩:=z
  refine⟨a,j,i,λq=> ?_,e.off b c,e.keep a _ b c,ab.ext e f g⟩
  obtain q | q:=e.old a q
  .exact l q
  .rw [b]at q;cases q
 | bor k=>
  obtain⟨a,j,i,c,b,g⟩:=z
  refine⟨a,j,i,?_,e.rd b c,ab.ext e f g⟩
  obtain b | ⟨o,b⟩:=b
  .exact e.off b c
  .exact e.off b c
theorem aq.ext (s:aq Y G τ h U H) (e:Ext G H G' H') (a:ai Y G' h' H'):aq Y G' τ h' U H' where
 len:=s.len
 slot:=λi w z=>let ⟨v,c,b⟩:=s.slot i w z; ⟨v,c,b.ext e s.heap⟩
 apart:=s.apart
 heap:=a
theorem ab.length: ∀ {ds}{vs},ab Y G H ds vs->ds.length=vs.length
 | [],_,rfl=>rfl
 | _::_,_,⟨_,_,rfl,_,z⟩=>congrArg (· +1) (ab.length z)
theorem ab.get: ∀ {ds}{vs}{i:Nat}{d},ab Y G H ds vs->ds[i]? =k0 d-> ∃v,vs[i]? =k0 v/\aC Y G H d v
 | [],_,_,_,_,e=>by simp at e
 | _::_,_,0,_,⟨v,_,rfl,z,_⟩,e=>by simp at e;subst e;exact⟨v,rfl,z⟩
 | _::_,_,i+1,_,⟨_,_,rfl,_,z⟩,e=>by
  obtain⟨v,b,a⟩:=ab.get z (by simpa using e)
  exact⟨v,by simpa using b,a⟩
theorem ab.append: ∀ {ds es}{vs i},ab Y G H ds vs->ab Y G H es i->ab Y G H (ds++es) (vs++i)
 | [],_,_,_,rfl,z=>z
 | _::_,_,_,_,⟨v,r,rfl,b,a⟩,z=>⟨v,r++_,rfl,b,ab.append a z⟩
theorem ab.drop: ∀ {ds}{vs}(n),ab Y G H ds vs->ab Y G H (ds.drop n) (vs.drop n)
 | _,_,0,z=>z
 | [],_,_+1,rfl=>rfl
 | _::_,_,n+1,⟨_,_,rfl,_,z⟩=>ab.drop n z
theorem ab.take: ∀ {ds}{vs}(n),ab Y G H ds vs->ab Y G H (ds.take n) (vs.take n)
 | _,_,0,_=>rfl
 | [],_,_+1,rfl=>rfl
 | _::_,_,n+1,⟨v,r,rfl,a,z⟩=>⟨v,r.take n,rfl,a,ab.take n z⟩
theorem ab.reverse: ∀ {ds}{vs},ab Y G H ds vs->ab Y G H ds.reverse vs.reverse
 | [],_,rfl=>rfl
 | _::_,_,⟨v,r,rfl,a,z⟩=>by
  rw [Am6,Am6]
  exact(ab.reverse z).append ⟨v,[],rfl,a,rfl⟩
theorem ab.set (z:aC Y G H d v): ∀ {ds}{vs} i,ab Y G H ds vs->ab Y G H (ds.set i d) (vs.set i v)
 | [],_,_,rfl=>rfl
 | _::_,_,0,⟨_,r,rfl,_,a⟩=>⟨v,r,rfl,z,a⟩
 | _::_,_,i+1,⟨u,r,rfl,b,a⟩=>⟨u,r.set i v,rfl,b,ab.set z i a⟩
def Gh.more (G:Gh) (a:Addr):Gh:= { G with fz:=λb=>G.fz b\/b=a }
def Zt (o) (b:H p=y0):Ext G H G (aP H p o) where
 keep:=λa u z _=>by rw [Qa (Zb z b)];exact z
 le:=Aa9 _
 aS:=λ_ _=>rfl
 new:=λr d c=>absurd d (Ao.mpr c)
 fz:=λ_ z=>z
 old:=λ_ z=> .inl z
 cells:=λr _ ⟨u,z⟩=>⟨u,by rw [Qa (Zb z b)];exact z⟩
def XA (o) (b:H p=y0):Ext G H (G.more p) (aP H p o) where
 keep:=λa u z _=>by rw [Qa (Zb z b)];exact z
 le:=Aa9 _
 aS:=λ_ _=>rfl
 new:=λr d c=>absurd d (Ao.mpr c)
 fz:=λ_ z=> .inl z
 old:=λa z=>z.elim .inl λe=> .inr (e▸b)
 cells:=λr _ ⟨u,z⟩=>⟨u,by rw [Qa (Zb z b)];exact z⟩
def ai.new (r:ai Y G h H)(o) (b:H p=y0):ai Y G h (aP H p o) where
 len:=r.len
 any:=λi c z=>⟨(r.any i c z).1,(r.any i c z).2.mon ((Zt o b).mon r) λu q=>by rw [Qa (Zb q b)];exact q⟩
 inj:=r.inj
 live:=λa z=>let ⟨u,q⟩:=r.live a z; ⟨u,by rw [Qa (Zb q b)];exact q⟩
def ai.ie (r:ai Y G h H)(o) (b:H p=y0):ai Y (G.more p) h (aP H p o) where
 len:=r.len
 any:=λi c z=>by
  obtain⟨g,d⟩:=r.any i c z
  obtain⟨u,f⟩:=d.there
  exact⟨λq=>q.elim g (Zb f b),d.mon ((XA o b).mon r) λu q=>by rw [Qa (Zb q b)];exact q⟩
 inj:=r.inj
 live:=λa z=>z.elim (λz=>let ⟨u,q⟩:=r.live a z; ⟨u,by rw [Qa (Zb q b)];exact q⟩) λe=>⟨o,by rw [e];exact wc⟩
def zv (a):Mon G H (G.more a) H:=⟨λ_ _ _ z=>z,Aa9 _,λ_ _=>rfl,λ_ z=> .inl z⟩
theorem Ext.more (e:Ext G H G1 H1)(c:H a=Option.none):Ext G H (G1.more a) H1:=
 ⟨e.keep,e.le,e.aS,e.new,λb z=> .inl (e.fz b z),λb z=>z.elim (λz=>e.old b z) λz=> .inr (z▸c),e.cells⟩
theorem ai.more (r:ai Y G h H)(d:dB G a) (f: ∃o,H a=k0 o):ai Y (G.more a) h H where
 len:=r.len
 any:=λi c z=>⟨λq=>q.elim (r.any i c z).1 λe=>d i (r.lt z) e,(r.any i c z).2.mon (zv a) λ_ q=>q⟩
 inj:=r.inj
 live:=λb z=>z.elim (λz=>r.live b z) λe=>e▸f
theorem ak.more (z:ak Y G H w v) (l:dW w=u0->v≠ .ref a):ak Y (G.more a) H w v:=by
 cases w with
 | v d=>exact aC.mon (zv a) z
 | own j=>
  obtain⟨b,i,c,k,f,g,h⟩:=z
  exact⟨b,i,c,λq=>q.elim k λe=>l rfl (e▸c),f,g,h.mon (zv a)⟩
 | bor j=>
  obtain⟨b,i,c,f,g,h⟩:=z
  exact⟨b,i,c,f,g,h.mon (zv a)⟩
theorem aq.more (s:aq Y G τ h U H)(b:dB G a) (g: ∃o,H a=k0 o) (d: ∀ i w,M.Gn τ i=k0 w->dW w=u0->U[i]? ≠k0 (k0 (.ref a))):aq Y (G.more a) τ h U H where
 len:=s.len
 slot:=λi w z=>by
  obtain⟨v,c,f⟩:=s.slot i w z
  exact⟨v,c,f.more λq e=>d i w z q (e▸c)⟩
 apart:=s.apart
 heap:=s.heap.more b g
def aJ (τ:M.Sl) (U:St) (H:Hp):M.W->V->Prop
 | .v _,_=>True
 | .own _,v=> ∃a,v= .ref a/\H a=y0
 | .bor _,v=> ∃(i:Nat) (w:M.W),M.Gn τ i=k0 w/\dW w=u0/\U[i]? =k0 (k0 v)
def aJ.back (e:Ext G H G1 H1) (c:ai Y G h H)(z:aJ τ U H1 w v):aJ τ U H w v:=by
 cases w with
 | v d=>trivial
 | own b=>obtain⟨a,g,f⟩:=z;exact⟨a,g,e.none c f⟩
 | bor b=>exact z
def aq.cN (s:aq Y G τ h U H)(e:M.Gn τ i=k0 w) (k:dW w=u0) (q:U[i]? =k0 (k0 (.ref a))): ∃o,H a=k0 o:=by
 obtain⟨v,f,g⟩:=s.slot i w e
 rw [q]at f
 cases f
 cases w with
 | v d=>cases k
 | own j=>obtain⟨b,l,f,_,_,c,_⟩:=g;cases f;exact⟨_,c⟩
 | bor j=>
  obtain⟨b,l,f,_,c,_⟩:=g
  cases f
  obtain c | ⟨o,c⟩:=c
  .exact⟨_,c⟩
  .exact⟨_,c⟩
def ax {b:Type}(Y:Ge) (E:XK) (G:Gh) (H:Hp) (r:M.R b) (P:b->M.AH->Gh->Hp->Prop):Prop:=match r with
 | .ok a h'=> ∀G' H',Ext G H G' H'->ai Y G' h' H'->P a h' G' H'
 | .fail=>False
def tD (Y:Ge) (E:XK) (m:M.Sl->M.AH->M.R M.W):TE:=λU H Q=> ∃G τ h,aq Y G τ h U H/\ax Y E G H (m τ h) λw h' G' H'=> ∀v,ak Y G' H' w v->aJ τ U H w v->Q v H'
def cT (Y:Ge) (E:XK) (m:M.Sl->M.AH->M.R Bool):TT:=λU H Q=> ∃G τ h,aq Y G τ h U H/\ax Y E G H (m τ h) λb _ _ H'=>Q b H'
def Wa (g:ai Y G0 h0 H0) (c:Ext G0 H0 G H) (s:aq Y G τ h U H)
 (p:ax Y E G0 H0 ((m τ h).bind f) P)
 (k: ∀w v h1 G1 H1,Ext G0 H0 G1 H1->Ext G H G1 H1->aq Y G1 τ h1 U H1->ak Y G1 H1 w v->aJ τ U H w v->ax Y E G0 H0 (f w h1) P->Q v H1):tD Y E m U H Q:=by
 refine⟨G,τ,h,s,?_⟩
 cases q:m τ h with
 | ok w h1=>
  rw [q]at p
  exact λG1 H1 e a v d b=>k w v h1 G1 H1 (c.trans g e) e (s.ext e a) d b p
 | fail=>rw [q]at p;exact p
def QU (d:ai Y G0 h0 H0) (c:Ext G0 H0 G H) (s:aq Y G τ h U H)
 (p:ax Y E G0 H0 ((m τ h).bind f) P)
 (k: ∀b h1 G1 H1,Ext G0 H0 G1 H1->Ext G H G1 H1->aq Y G1 τ h1 U H1->ax Y E G0 H0 (f b h1) P->Q b H1):cT Y E m U H Q:=by
 refine⟨G,τ,h,s,?_⟩
 cases q:m τ h with
 | ok w h1=>
  rw [q]at p
  exact λG1 H1 e a=>k w h1 G1 H1 (c.trans d e) e (s.ext e a) p
 | fail=>rw [q]at p;exact p
def iW (Y:Ge) (E:XK) (m:M.Sl->M.AH->M.R (List M.D)):TA:=λU H Q=> ∃G τ h,aq Y G τ h U H/\ax Y E G H (m τ h) λds _ G' H'=> ∀a,ab Y G' H' ds a->Q a H'
def bj (Y:Ge) (G:Gh) (H:Hp):List M.W->List V->Prop
 | [],a=>a= []
 | w::b,a=> ∃v r,a=v::r/\ak Y G H w v/\bj Y G H b r
theorem bj.ext (e:Ext G H G' H') (a:ai Y G h H): ∀ {ws}{vs},bj Y G H ws vs->bj Y G' H' ws vs
 | [],_,z=>z
 | _::_,_,⟨v,r,d,c,b⟩=>⟨v,r,d,ak.ext e a c,bj.ext e a b⟩
theorem bj.length: ∀ {ws}{vs},bj Y G H ws vs->ws.length=vs.length
 | [],_,rfl=>rfl
 | _::_,_,⟨_,_,rfl,_,z⟩=>congrArg (· +1) (bj.length z)
def fP (Y:Ge) (E:XK) (m:M.Sl->M.AH->M.R (List M.W)):TA:=λU H Q=> ∃G τ h,aq Y G τ h U H/\ax Y E G H (m τ h) λb _ G' H'=> ∀a,bj Y G' H' b a->Q a H'
def j9 (c:ai Y G0 h0 H0) (b:Ext G0 H0 G H) (s:aq Y G τ h U H)
 (p:ax Y E G0 H0 ((m τ h).bind f) P)
 (k: ∀ds vs h1 G1 H1,Ext G0 H0 G1 H1->Ext G H G1 H1->aq Y G1 τ h1 U H1->ab Y G1 H1 ds vs->ax Y E G0 H0 (f ds h1) P->Q vs H1):iW Y E m U H Q:=by
 refine⟨G,τ,h,s,?_⟩
 cases q:m τ h with
 | ok w h1=>
  rw [q]at p
  exact λG1 H1 e a vs z=>k w vs h1 G1 H1 (b.trans c e) e (s.ext e a) z p
 | fail=>rw [q]at p;exact p
def Js (c:ai Y G0 h0 H0) (b:Ext G0 H0 G H) (s:aq Y G τ h U H)
 (p:ax Y E G0 H0 ((m τ h).bind f) P)
 (k: ∀ds vs h1 G1 H1,Ext G0 H0 G1 H1->Ext G H G1 H1->aq Y G1 τ h1 U H1->bj Y G1 H1 ds vs->ax Y E G0 H0 (f ds h1) P->Q vs H1):fP Y E m U H Q:=by
 refine⟨G,τ,h,s,?_⟩
 cases q:m τ h with
 | ok w h1=>
  rw [q]at p
  exact λG1 H1 e a vs z=>k w vs h1 G1 H1 (b.trans c e) e (s.ext e a) z p
 | fail=>rw [q]at p;exact p
theorem ax.of (p:ax Y E G H ((M.R.of h o).bind f) P): ∃b,o=k0 b/\ax Y E G H (f b h) P:=by
 cases o with
 | none=>exact p.elim
 | some b=>exact⟨b,rfl,p⟩
def ax.at (p:ax Y E G H (.ok a h) P) (e:Ext G H G1 H1) (b:ai Y G1 h H1):P a h G1 H1:=p G1 H1 e b
def om (e:Ext G H G1 H1) (s:aq Y G1 τ h U H1) (m:aq Y G τ h' U H)(r:ak Y G1 H1 w v) (f:aJ τ U H w v) (c:w.d=k0 d):
 ∃G2,Ext G H G2 H1/\aq Y G2 τ h U H1/\aC Y G2 H1 d v/\Mon G1 H1 G2 H1:=by
 cases w with
 | v A=>cases c;exact⟨G1,e,s,r,⟨λ_ _ _ z=>z,Aa9 _,λ_ _=>rfl,λ_ z=>z⟩⟩
 | own l=>
  cases c
  obtain⟨a,n,rfl,y,t,g,x⟩:=r
  obtain⟨b,p,k⟩:=f
  cases p
  refine⟨G1.more a,e.more k,s.more t ⟨_,g⟩ λi w q u z=> ?_,⟨a,n,rfl,.inl ⟨.inr rfl,.inl g⟩,x.mon (zv a)⟩,zv a⟩
  obtain⟨o,j⟩:=m.cN q u z
  rw [k]at j;cases j
 | bor l=>cases c
end
open PySem PySem.Spec PyProof.Rows
mutual
def RV (hp:Heap):M.D->Value->Prop
 | .au,u=>u= .none
 | .bl b,u=>u= .bool b
 | .int i,u=> ∃t,u= .int i t
 | .str s,u=> ∃t,u= .str (aK s) t
 | .tup ds,u=> ∃(a:Addr) (its:List Value),u= .ref a/\IsTup hp a its.toArray/\cg hp ds its
 | .lst ds,u=> ∃(a:Addr) (its:List Value),u= .ref a/\hp.IsList a its.toArray/\cg hp ds its
 | .ref _,_=>False
def cg (hp:Heap):List M.D->List Value->Prop
 | [],us=>us= []
 | d::ds,us=> ∃u r,us=u::r/\RV hp d u/\cg hp ds r
end
theorem cg.length : ∀ {ds}{i},cg hp ds i->ds.length=i.length
 | [],_,rfl=>rfl
 | _::_,_,⟨_,_,rfl,_,z⟩=>congrArg (· +1) (cg.length z)
theorem cg.get : ∀ {ds}{us}{j:Nat}{u},cg hp ds us->us[j]? =k0 u-> ∃d,ds[j]? =k0 d/\RV hp d u
 | [],_,_,_,rfl,e=>by simp at e
 | d::_,_,0,_,⟨v,_,rfl,z,_⟩,e=>by simp at e;subst e;exact⟨d,rfl,z⟩
 | _::_,_,j+1,_,⟨_,_,rfl,_,z⟩,e=>by
  obtain⟨v,b,a⟩:=cg.get z (by simpa using e)
  exact⟨v,by simpa using b,a⟩
section
variable {X:Cx}{Y:Ge}{G:Gh}{H:Hp}{h:M.AH}{pins:List (Addr×Obj)}{U:St}{s:Shared}
mutual
theorem aC.kD (I:Inv X pins U H s) (hK:X.K=Y.K): ∀ {d:M.D}{x:V}{u:Value},aC Y G H d x->RelV x u->M.Gd d=u0->RV s.heap d u
 | .au,_,_,rfl,r,_=>r
 | .bl _,_,_,rfl,r,_=>r
 | .int _,_,_,rfl,r,_=>r
 | .str _,_,_,rfl,r,_=>r
 | .tup ds,_,_,⟨a,vs,rfl,z2,z3⟩,r,n=>by
  cases r
  obtain⟨its,r1,p1,_⟩:=I.tuple (hK▸z2.sq)
  exact⟨a,its,rfl,p1,ab.kD I hK z3 r1 (by simpa [M.Gd]using n)⟩
 | .lst ds,_,_,⟨a,vs,rfl,z2,z3⟩,r,n=>by
  cases r
  obtain⟨its,r1,p1,_⟩:=I.list (hK▸z2.sq)
  exact⟨a,its,rfl,p1.isList,ab.kD I hK z3 r1 (by simpa [M.Gd]using n)⟩
 | .ref _,_,_,_,_,n=>by simp [M.Gd]at n
theorem ab.kD (I:Inv X pins U H s) (hK:X.K=Y.K): ∀ {ds:List M.D}{xs:List V}{us:List Value},ab Y G H ds xs->Vals xs us->M.Gc ds=u0->cg s.heap ds us
 | [],_,_,rfl,.nil,_=>rfl
 | d::ds,_,_,⟨v,r,rfl,z1,z2⟩,.cons r1 r2,n=>by
  have n':M.Gd d=u0/\M.Gc ds=true:=by simpa [M.Gc]using n
  exact⟨_,_,rfl,aC.kD I hK z1 r1 n'.1,ab.kD I hK z2 r2 n'.2⟩
end
mutual
theorem aC.rv (I:Inv X pins U H s) (hK:X.K=Y.K) (hr:ai Y G h H): ∀ {d:M.D}{x:V}{u:Value},aC Y G H d x->RelV x u->M.Gd (M.res h d)=u0->RV s.heap (M.res h d) u
 | .au,_,_,rfl,r,_=>r
 | .bl _,_,_,rfl,r,_=>r
 | .int _,_,_,rfl,r,_=>r
 | .str _,_,_,rfl,r,_=>r
 | .tup ds,_,_,⟨a,vs,rfl,z2,z3⟩,r,n=>by
  cases r
  obtain⟨its,r1,p1,_⟩:=I.tuple (hK▸z2.sq)
  rw [M.res]at n ⊢
  exact⟨a,its,rfl,p1,ab.rv I hK hr z3 r1 (by simpa [M.Gd]using n)⟩
 | .lst ds,_,_,⟨a,vs,rfl,z2,z3⟩,r,n=>by
  cases r
  obtain⟨its,r1,p1,_⟩:=I.list (hK▸z2.sq)
  rw [M.res]at n ⊢
  exact⟨a,its,rfl,p1.isList,ab.rv I hK hr z3 r1 (by simpa [M.Gd]using n)⟩
 | .ref i,_,_,⟨hi,e⟩,r,n=>by
  subst e
  cases r
  rw [M.res]at n ⊢
  cases q:h[i]? with
  | none=>rw [q]at n;simp [M.Gd]at n
  | some c=>
   cases c with
   | lst xs=>
    rw [q]at n
    obtain⟨_,vs,z2,z3⟩:=hr.cell i xs q
    obtain⟨its,r1,p1,_⟩:=I.list (bu.of (K:=X.K) z2)
    exact⟨_,its,rfl,p1.isList,ab.kD I hK z3 r1 (by simpa [M.Gd]using n)⟩
   | obj c fs=>rw [q]at n;simp [M.Gd]at n
   | aN ks=>rw [q]at n;simp [M.Gd]at n
theorem ab.rv (I:Inv X pins U H s) (hK:X.K=Y.K) (hr:ai Y G h H): ∀ {ds:List M.D}{xs:List V}{us:List Value},ab Y G H ds xs->Vals xs us->M.Gc (M.GQ h ds)=u0->cg s.heap (M.GQ h ds) us
 | [],_,_,rfl,.nil,_=>rfl
 | d::ds,_,_,⟨v,r,rfl,z1,z2⟩,.cons r1 r2,n=>by
  rw [M.GQ]at n ⊢
  have n':M.Gd (M.res h d)=u0/\M.Gc (M.GQ h ds)=true:=by simpa [M.Gc]using n
  exact⟨_,_,rfl,aC.rv I hK hr z1 r1 n'.1,ab.rv I hK hr z2 r2 n'.2⟩
end
theorem ak.rv (I:Inv X pins U H s) (j:X.K=Y.K) (c:ai Y G h H)(z:ak Y G H w x) (r:RelV x u) (n:M.Gd (w.dd h)=u0):RV s.heap (w.dd h) u:=by
 cases w with
 | v d=>exact aC.rv I j c z r n
 | own l=>
  obtain⟨a,k,rfl,_,_,g,i⟩:=z
  cases r
  obtain⟨b,e,f,_⟩:=I.list (bu.of g)
  exact⟨a,b,rfl,f.isList,ab.rv I j c i e (by simp_all)⟩
 | bor l=>
  obtain⟨a,k,rfl,_,g,i⟩:=z
  cases r
  obtain⟨b,e,f,_⟩:=I.list (.inl g)
  exact⟨a,b,rfl,f.isList,ab.rv I j c i e (by simp_all)⟩
end
def wC (h:aK a=aK b):a=b:=by
 have:=congrArg Str.cps h
 simpa [aK]using this
def JW {xs c:List Value}(h1:IsTup hp a xs.toArray) (d:IsTup hp a c.toArray):xs=c:=by
 obtain⟨o,e1,_,n,e⟩:=h1
 obtain⟨g,e2,_,f,b⟩:=d
 rw [e1]at e2;cases e2
 rw [e]at b;cases b
 rfl
def QN {b:Heap}{xs d:List Value}(h1:b.IsList a xs.toArray) (e:b.IsList a d.toArray):xs=d:=by
 obtain⟨o,e1,_,n,f⟩:=h1
 obtain⟨h,e2,_,g,c⟩:=e
 rw [e1]at e2;cases e2
 rw [f]at c;cases c
 rfl
def jG (h1:IsTup hp a xs) (c:hp.IsList a ys):False:=by
 obtain⟨o,e1,d,_⟩:=h1
 obtain⟨e,e2,b,_⟩:=c
 rw [e1]at e2;cases e2
 rw [d]at b
 exact absurd b (by decide)
mutual
theorem RV.inj {hp:Heap}: ∀ {d e:M.D}{u:Value},RV hp d u->RV hp e u->d=e
 | .au,e,_,rfl,q=>by cases e<;>first | rfl | (simp [RV]at q)
 | .bl _,e,_,rfl,q=>by cases e<;>first | (simp [RV]at q;done) | (have q:=q;simp [RV]at q;try rw [q])
 | .int _,e,_,⟨t,rfl⟩,q=>by cases e<;>first | (simp [RV]at q;done) | (have q:=q;simp [RV]at q;try rw [q])
 | .str _,e,_,⟨t,rfl⟩,q=>by
  cases e with
  | str z=>
   obtain⟨t',q⟩:=q
   injection q with q1 q2
   rw [wC q1]
  | _=>simp [RV]at q
 | .tup ds,e,_,⟨a,its,rfl,p,r⟩,q=>by
  cases e with
  | tup es=>
   obtain⟨b,its2,e,p2,r2⟩:=q
   cases e
   cases JW p p2
   rw [cg.inj r r2]
  | lst es=>
   obtain⟨b,its2,e,p2,r2⟩:=q
   cases e
   exact(jG p p2).elim
  | _=>simp [RV]at q
 | .lst ds,e,_,⟨a,its,rfl,p,r⟩,q=>by
  cases e with
  | lst es=>
   obtain⟨b,its2,e,p2,r2⟩:=q
   cases e
   cases QN p p2
   rw [cg.inj r r2]
  | tup es=>
   obtain⟨b,its2,e,p2,r2⟩:=q
   cases e
   exact(jG p2 p).elim
  | _=>simp [RV]at q
 | .ref _,_,_,q,_=>q.elim
theorem cg.inj {hp:Heap}: ∀ {d e:List M.D}{u:List Value},cg hp d u->cg hp e u->d=e
 | [],e,_,rfl,q=>by
  cases e with
  | nil=>rfl
  | cons a b=>obtain⟨_,_,z,_⟩:=q;cases z
 | d::ds,e,_,⟨u,r,rfl,z1,z2⟩,q=>by
  cases e with
  | nil=>cases (show _::_= []from q)
  | cons a b=>
   obtain⟨_,_,z,y1,y2⟩:=q
   cases z
   rw [RV.inj z1 y1,cg.inj z2 y2]
end
mutual
theorem RV.refl {hp:Heap}: ∀ {d:M.D}{u:Value},RV hp d u->M.cy d d=u0
 | .au,_,_=>rfl
 | .bl _,_,_=>by simp
 | .int _,_,_=>by simp
 | .str _,_,_=>by simp
 | .tup ds,_,⟨_,_,_,_,r⟩=>by rw [M.cy];exact cg.refl r
 | .lst ds,_,⟨_,_,_,_,r⟩=>by rw [M.cy];exact cg.refl r
 | .ref _,_,q=>q.elim
theorem cg.refl {hp:Heap}: ∀ {d:List M.D}{u:List Value},cg hp d u->M.GL d d=u0
 | [],_,_=>rfl
 | d::ds,_,⟨_,_,_,z1,z2⟩=>by rw [M.GL,RV.refl z1,cg.refl z2];rfl
end
def iB (xs c:List M.D) (j:Nat):Bool:=match xs[j]?,c[j]? with
 | some a,k0 b=>M.cy a b
 | _,_=>u0
def WM (n) (e):(Aa3 (n+1)).all e=(e 0&&(Aa3 n).all λj=>e (j+1)):=by
 rw [Ah3,Al6,An6];rfl
theorem pR: ∀(xs ys),xs.length=ys.length->(Aa3 xs.length).all (iB xs ys)=M.GL xs ys
 | [],[],_=>rfl
 | [],_::_,h=>by simp at h
 | _::_,[],h=>by simp at h
 | x::xs,y::ys,h=>by
  rw [Aa7,WM,M.GL]
  have a:=pR xs ys (by simpa using h)
  rw [← a]
  rfl
theorem sy: ∀(xs ys),M.GL xs ys=u0->xs.length=ys.length
 | [],[],_=>rfl
 | [],_::_,h=>by simp at h
 | _::_,[],h=>by simp at h
 | x::xs,y::ys,h=>by
  rw [M.GL,Aa1]at h
  rw [Aa7,Aa7,sy xs ys h.2]
def u3 (h:xs.length≠ys.length):M.GL xs ys=false:=by
 cases e:M.GL xs ys with
 | false=>rfl
 | true=>exact absurd (sy xs ys e) h
open SeqAt in
structure dH (A:Around) (s:Shared) (u v:Value) (b:Bool):Prop where
 rc:RcAt A s u v b
 ne:RcNeAt A s u v (!b)
 eq:EqAt A s u v b
section
open SeqAt
variable {A:Around}{s:Shared}
theorem XH: ∀ {ds}{j:Nat}{d},ds[j]? =k0 d->M.dep d<=M.GG ds
 | [],_,_,e=>by simp at e
 | x::a,0,d,e=>by simp at e;subst e;simp only [M.GG];lia
 | x::a,j+1,d,e=>by
  have:=XH (by simpa using e)
  simp only [M.GG]
  lia
def rV (b:Bool):((if b then(1:Int)else 0))=((b.toNat:Nat):Int):=by cases b<;>rfl
def Bz (a b):(aK a==aK b)=(a==b):=by
 by_cases h:a=b
 .subst h;simp
 .have c:=λe=>h (wC e)
  rw [beq_eq_false_iff_ne.mpr h,beq_eq_false_iff_ne.mpr c]
def Dp (h:s.heap.IsList l its.toArray) (g:s.heap.IsList b its2.toArray) (k:cg s.heap xs its) (m:cg s.heap ys its2) (i:A.units<cLine)
 (x: ∀(j:Nat) a c u v,xs[j]? =k0 a->ys[j]? =k0 c->RV s.heap a u->RV s.heap c v->EqAt A.in1 s u v (M.cy a c)):dH A s (.ref l) (.ref b) (M.GL xs ys):=by
 have q: ∀ j t (y:j<its2.toArray.size),EqAt A.in1 s its.toArray[j] its2.toArray[j] (iB xs ys j):=λj t y=>by
  obtain⟨a,n,w⟩:=k.get (j:=j) (u:=its.toArray[j]) (by simp)
  obtain⟨c,p,r⟩:=m.get (j:=j) (u:=its2.toArray[j]) (by simp)
  have:=x j a c _ _ n p w r
  unfold iB
  rw [n,p]
  exact this
 have z:=k.length
 have l2:=m.length
 have two:RcAt A s (.ref l) (.ref b) (M.GL xs ys)/\RcNeAt A s (.ref l) (.ref b) (!M.GL xs ys):=by
  by_cases o:xs.length=ys.length
  .have d:its.toArray.size=its2.toArray.size:=by simp;lia
   have e:(Aa3 its.toArray.size).all (iB xs ys)=M.GL xs ys:=by
    rw [Ac0,←z];exact pR xs ys o
   have a:=RcAt.lists h g d i q
   have c:=RcNeAt.lists h g d i q
   rw [e]at a c
   exact⟨a,c⟩
  .have d:(its.toArray.size != its2.toArray.size)=true:=by simp;lia
   rw [u3 o]
   exact⟨RcAt.lists_lengths h g d i,RcNeAt.lists_lengths h g d i⟩
 refine⟨two.1,two.2,?_⟩
 by_cases f:l=b
 .subst f
  cases QN h g
  cases cg.inj k m
  rw [cg.refl k]
  exact EqAt.same _
 .exact EqAt.of_refs f two.1
def Az (i:IsTup s.heap l its.toArray) (h:IsTup s.heap b its2.toArray) (f:cg s.heap xs its) (k:cg s.heap ys its2) (n:A.units<cLine)
 (w: ∀(j:Nat) a c u v,xs[j]? =k0 a->ys[j]? =k0 c->RV s.heap a u->RV s.heap c v->EqAt A.in1 s u v (M.cy a c)):dH A s (.ref l) (.ref b) (M.GL xs ys):=by
 have p: ∀ j r (x:j<its2.toArray.size),EqAt A.in1 s its.toArray[j] its2.toArray[j] (iB xs ys j):=λj r x=>by
  obtain⟨a,m,t⟩:=f.get (j:=j) (u:=its.toArray[j]) (by simp)
  obtain⟨c,o,q⟩:=k.get (j:=j) (u:=its2.toArray[j]) (by simp)
  have:=w j a c _ _ m o t q
  unfold iB
  rw [m,o]
  exact this
 have e:((Aa3 (min its.toArray.size its2.toArray.size)).all (iB xs ys)&&its.toArray.size==its2.toArray.size)=M.GL xs ys:=by
  rw [Ac0,Ac0,←f.length,←k.length]
  by_cases g:xs.length=ys.length
  .rw [← g,Nat.min_self,pR xs ys g];simp
  .rw [u3 g];simp [g]
 have a:=RcAt.tuples i h n p
 have c:=RcNeAt.tuples i h n p
 rw [e]at a c
 refine⟨a,c,?_⟩
 by_cases d:l=b
 .subst d
  cases JW i h
  cases cg.inj f k
  rw [cg.refl f]
  exact EqAt.same _
 .exact EqAt.of_refs d a
def dH.of (h:dH A s u v b) (e:b=b'):dH A s u v b':=e▸h
def pJ: ∀(n:Nat) (d e:M.D) (A:Around) (u v:Value),M.dep d<=n->A.units+n<cLine->RV s.heap d u->RV s.heap e v->dH A s u v (M.cy d e):=by
 intro n
 induction n with
 | zero=>
  intro d e A u v C K m f
  have c:A.units<cLine:=by lia
  cases d with
  | au=>
   cases (show u= .none from m)
   cases e with
   | au=>cases (show v= .none from f);exact⟨RcAt.none_none,RcNeAt.none_none,EqAt.same _⟩
   | bl b=>cases (show v= .bool b from f);exact⟨RcAt.none_bool b,RcNeAt.none_bool b,EqAt.none_bool b⟩
   | int i=>obtain⟨t,rfl⟩:=f;exact⟨RcAt.none_int i t,RcNeAt.none_int i t,EqAt.none_int i t⟩
   | str z=>obtain⟨t,rfl⟩:=f;exact⟨RcAt.none_str _ t,RcNeAt.none_str _ t,EqAt.none_str _ t⟩
   | tup o=>obtain⟨a,k,rfl,p,_⟩:=f;exact⟨RcAt.none_tuple p c,RcNeAt.none_tuple p c,EqAt.none_tuple p c⟩
   | lst o=>obtain⟨a,k,rfl,p,_⟩:=f;exact⟨RcAt.none_list p c,RcNeAt.none_list p c,EqAt.none_list p c⟩
   | ref _=>exact f.elim
  | bl x=>
   cases (show u= .bool x from m)
   cases e with
   | au=>cases (show v= .none from f);exact⟨RcAt.bool_none x,RcNeAt.bool_none x,EqAt.bool_none x⟩
   | bl b=>cases (show v= .bool b from f);exact⟨RcAt.bool_bool x b,RcNeAt.bool_bool x b,EqAt.bool_bool x b⟩
   | int i=>obtain⟨t,rfl⟩:=f;exact(dH.mk (RcAt.bool_int x i t) (RcNeAt.bool_int x i t) (EqAt.bool_int x i t)).of (by rw [rV];rfl)
   | str z=>obtain⟨t,rfl⟩:=f;exact⟨RcAt.bool_str x _ t,RcNeAt.bool_str x _ t,EqAt.bool_str x _ t⟩
   | tup o=>obtain⟨a,k,rfl,p,_⟩:=f;exact⟨RcAt.bool_tuple x p c,RcNeAt.bool_tuple x p c,EqAt.bool_tuple x p c⟩
   | lst o=>obtain⟨a,k,rfl,p,_⟩:=f;exact⟨RcAt.bool_list x p c,RcNeAt.bool_list x p c,EqAt.bool_list x p c⟩
   | ref _=>exact f.elim
  | int x=>
   obtain⟨g,rfl⟩:=m
   cases e with
   | au=>cases (show v= .none from f);exact⟨RcAt.int_none x g,RcNeAt.int_none x g,EqAt.int_none x g⟩
   | bl b=>cases (show v= .bool b from f);exact(dH.mk (RcAt.int_bool x g b) (RcNeAt.int_bool x g b) (EqAt.int_bool x g b)).of (by rw [rV];rfl)
   | int i=>obtain⟨t,rfl⟩:=f;exact⟨RcAt.int_int x g i t,RcNeAt.int_int x g i t,EqAt.int_int x g i t⟩
   | str z=>obtain⟨t,rfl⟩:=f;exact⟨RcAt.int_str x g _ t,RcNeAt.int_str x g _ t,EqAt.int_str x g _ t⟩
   | tup o=>obtain⟨a,k,rfl,p,_⟩:=f;exact⟨RcAt.int_tuple x g p c,RcNeAt.int_tuple x g p c,EqAt.int_tuple x g p c⟩
   | lst o=>obtain⟨a,k,rfl,p,_⟩:=f;exact⟨RcAt.int_list x g p c,RcNeAt.int_list x g p c,EqAt.int_list x g p c⟩
   | ref _=>exact f.elim
  | str x=>
   obtain⟨g,rfl⟩:=m
   cases e with
   | au=>cases (show v= .none from f);exact⟨RcAt.str_none _ g,RcNeAt.str_none _ g,EqAt.str_none _ g⟩
   | bl b=>cases (show v= .bool b from f);exact⟨RcAt.str_bool _ g b,RcNeAt.str_bool _ g b,EqAt.str_bool _ g b⟩
   | int i=>obtain⟨t,rfl⟩:=f;exact⟨RcAt.str_int _ g i t,RcNeAt.str_int _ g i t,EqAt.str_int _ g i t⟩
   | str z=>obtain⟨t,rfl⟩:=f;exact(dH.mk (RcAt.str_str _ g _ t) (RcNeAt.str_str _ g _ t) (EqAt.str_str _ g _ t)).of (by rw [Bz];rfl)
   | tup o=>obtain⟨a,k,rfl,p,_⟩:=f;exact⟨RcAt.str_tuple _ g p c,RcNeAt.str_tuple _ g p c,EqAt.str_tuple _ g p c⟩
   | lst o=>obtain⟨a,k,rfl,p,_⟩:=f;exact⟨RcAt.str_list _ g p c,RcNeAt.str_list _ g p c,EqAt.str_list _ g p c⟩
   | ref _=>exact f.elim
  | tup B=>simp only [M.dep]at C;lia
  | lst B=>simp only [M.dep]at C;lia
  | ref _=>exact m.elim
 | succ n w=>
  intro d e A u v C K m f
  have c:A.units<cLine:=by lia
  cases d with
  | tup B=>
   obtain⟨l,y,rfl,h,H⟩:=m
   have r:M.GG B<=n:=by simp only [M.dep]at C;lia
   cases e with
   | au=>cases (show v= .none from f);exact⟨RcAt.tuple_none h c,RcNeAt.tuple_none h c,EqAt.tuple_none h c⟩
   | bl b=>cases (show v= .bool b from f);exact⟨RcAt.tuple_bool b h c,RcNeAt.tuple_bool b h c,EqAt.tuple_bool b h c⟩
   | int i=>obtain⟨t,rfl⟩:=f;exact⟨RcAt.tuple_int i t h c,RcNeAt.tuple_int i t h c,EqAt.tuple_int i t h c⟩
   | str z=>obtain⟨t,rfl⟩:=f;exact⟨RcAt.tuple_str _ t h c,RcNeAt.tuple_str _ t h c,EqAt.tuple_str _ t h c⟩
   | tup o=>
    obtain⟨a,k,rfl,p,q⟩:=f
    rw [M.cy]
    exact Az h p H q c λj E G J F e1 e2 D I=>(w E G A.in1 J F (Ab5 (XH e1) r) (by show A.units+1+n<cLine;lia) D I).eq
   | lst o=>obtain⟨a,k,rfl,p,_⟩:=f;exact⟨RcAt.tuple_list h p c,RcNeAt.tuple_list h p c,EqAt.tuple_list h p c⟩
   | ref _=>exact f.elim
  | lst B=>
   obtain⟨l,y,rfl,h,H⟩:=m
   have r:M.GG B<=n:=by simp only [M.dep]at C;lia
   cases e with
   | au=>cases (show v= .none from f);exact⟨RcAt.list_none h c,RcNeAt.list_none h c,EqAt.list_none h c⟩
   | bl b=>cases (show v= .bool b from f);exact⟨RcAt.list_bool b h c,RcNeAt.list_bool b h c,EqAt.list_bool b h c⟩
   | int i=>obtain⟨t,rfl⟩:=f;exact⟨RcAt.list_int i t h c,RcNeAt.list_int i t h c,EqAt.list_int i t h c⟩
   | str z=>obtain⟨t,rfl⟩:=f;exact⟨RcAt.list_str _ t h c,RcNeAt.list_str _ t h c,EqAt.list_str _ t h c⟩
   | lst o=>
    obtain⟨a,k,rfl,p,q⟩:=f
    rw [M.cy]
    exact Dp h p H q c λj E G J F e1 e2 D I=>(w E G A.in1 J F (Ab5 (XH e1) r) (by show A.units+1+n<cLine;lia) D I).eq
   | tup o=>obtain⟨a,k,rfl,p,_⟩:=f;exact⟨RcAt.list_tuple h p c,RcNeAt.list_tuple h p c,EqAt.list_tuple h p c⟩
   | ref _=>exact f.elim
  | au=>exact w .au e A u v (by simp) (by lia) m f
  | bl x=>exact w _ e A u v (by simp) (by lia) m f
  | int x=>exact w _ e A u v (by simp) (by lia) m f
  | str x=>exact w _ e A u v (by simp) (by lia) m f
  | ref _=>exact m.elim
end
def av (Y:Ge) (E:XK) (G:Gh) (H:Hp) (r:M.R M.W) (Q:VK):Prop:=ax Y E G H r λw _ G' H'=> ∀v,ak Y G' H' w v->aJ [] [] H w v->Q v H'
section
variable {X:Cx}{Y:Ge}{G:Gh}{H:Hp}{h:M.AH}{pins:List (Addr×Obj)}{U:St}{s:Shared}{Q:VK}{E:XK}
theorem av.v (p:av Y E G H (.ok (.v d) h) Q) (a:ai Y G h H){v:V}(z:aC Y G H d v):Q v H:=p G H Ext.refl a v z trivial
def ai.iP (b:ai Y G h H)(c:H a=y0): ¬G.fz a:=λq=>by
 obtain⟨o,z⟩:=b.live a q
 rw [c]at z;cases z
def ai.fD (b:ai Y G h H)(c:H a=y0):dB G a:=λr d e=>by
 obtain⟨o,q⟩:=b.there d
 rw [e,c]at q;cases q
theorem av.own (p:av Y E G H (.ok (.own xs) h) Q) (c:ai Y G h H) (z:ab Y G H xs vs) (a) (b:H a=y0):Q (.ref a) (aP H a (.lst vs)):=
 p G _ (Zt _ b) (c.new _ b) _ ⟨a,vs,rfl,c.iP b,c.fD b,wc,z.ext (Zt _ b) c⟩ ⟨a,rfl,b⟩
theorem av.tup (p:av Y E G H (.ok (.v (.tup xs)) h) Q) (c:ai Y G h H) (z:ab Y G H xs vs) (a) (b:H a=y0):Q (.ref a) (aP H a (.tup vs)):=
 p _ _ (XA _ b) (c.ie _ b) _ ⟨a,vs,rfl,.inl ⟨.inr rfl,wc⟩,z.ext (XA _ b) c⟩ trivial
theorem av.of (p:av Y E G H ((M.R.of h o).bind f) Q): ∃b,o=k0 b/\av Y E G H (f b h) Q:=ax.of p
def av.mk (p:ax Y E G0 H0 r λw _ G' H'=> ∀v,ak Y G' H' w v->aJ τ U H0 w v->Q v H') (e:Ext G0 H0 G H) (g:ai Y G0 h0 H0):av Y E G H r Q:=by
 cases r with
 | ok w m=>
  refine λG' H' l b v k f=>p G' H' (e.trans g l) b v k ?_
  cases w with
  | v d=>trivial
  | own h=>obtain⟨a,c,j⟩:=f;exact⟨a,c,e.none g j⟩
  | bor h=>obtain⟨i,w,c,_⟩:=f;simp at c
 | fail=>exact p
theorem ak.lst (j:ai Y G h H)(z:ak Y G H w v) (e:w.cm h=k0 xs): ∃a vs,v= .ref a/\bu Y.K H a vs/\ab Y G H xs vs:=by
 cases w with
 | v d=>
  cases d with
  | lst i=>cases e;obtain⟨a,vs,g,f,b⟩:=z;exact⟨a,vs,g,f.sq,b⟩
  | ref r=>
   obtain⟨l,g⟩:=z
   have e:(match h[r]? with | some (M.Cell.lst zs)=>k0 zs | _=>y0)=k0 xs:=e
   cases q:h[r]? with
   | none=>rw [q]at e;cases e
   | some c=>
    cases c with
    | lst i=>
     rw [q]at e
     cases e
     obtain⟨_,vs,f,b⟩:=j.cell r _ q
     exact⟨_,vs,g,bu.of f,b⟩
    | obj c fs=>rw [q]at e;cases e
    | aN k=>rw [q]at e;cases e
  | au=>cases e
  | bl _=>cases e
  | int _=>cases e
  | str _=>cases e
  | tup _=>cases e
 | own i=>cases e;obtain⟨a,vs,g,_,_,f,b⟩:=z;exact⟨a,vs,g,bu.of f,b⟩
 | bor i=>cases e;obtain⟨a,vs,g,_,f,b⟩:=z;exact⟨a,vs,g,.inl f,b⟩
theorem ak.nj (j:ai Y G h H)(z:ak Y G H w v) (e:w.hI h=k0 xs): ∃a vs,v= .ref a/\Rd H a (.lst vs)/\ab Y G H xs vs:=by
 cases w with
 | v d=>
  cases d with
  | ref r=>
   obtain⟨l,g⟩:=z
   have e:(match h[r]? with | some (M.Cell.lst zs)=>k0 zs | _=>y0)=k0 xs:=e
   cases q:h[r]? with
   | none=>rw [q]at e;cases e
   | some c=>
    cases c with
    | lst i=>
     rw [q]at e
     cases e
     obtain⟨_,vs,f,b⟩:=j.cell r _ q
     exact⟨_,vs,g,.inl f,b⟩
    | obj c fs=>rw [q]at e;cases e
    | aN k=>rw [q]at e;cases e
  | _=>cases e
 | own i=>cases e;obtain⟨a,vs,g,_,_,f,b⟩:=z;exact⟨a,vs,g,.inl f,b⟩
 | bor i=>cases e;obtain⟨a,vs,g,_,f,b⟩:=z;exact⟨a,vs,g,f,b⟩
theorem ak.seq (j:ai Y G h H)(z:ak Y G H w v) (e:w.seq? h=k0 xs): ∃a vs,v= .ref a/\(bu Y.K H a vs\/cj Y.K H a vs)/\ab Y G H xs vs:=by
 have b:w.cm h=k0 xs-> ∃a vs,v= .ref a/\(bu Y.K H a vs\/cj Y.K H a vs)/\ab Y G H xs vs:=λe=>by
  obtain⟨a,vs,g,f,c⟩:=z.lst j e
  exact⟨a,vs,g,.inl f,c⟩
 cases w with
 | v d=>
  cases d with
  | tup i=>cases e;obtain⟨a,vs,g,f,c⟩:=z;exact⟨a,vs,g,.inr f.sq,c⟩
  | lst i=>exact b e
  | ref r=>exact b e
  | au=>cases e
  | bl _=>cases e
  | int _=>cases e
  | str _=>cases e
 | own i=>exact b e
 | bor i=>exact b e
def Bw (I:Inv X pins U H s)(r:Rd H a (.lst vs)):vs.length<=sizeLine/\ ∃ i n,Vals vs i/\vs.length=i.length/\s.heap.get? a=k0 { cls:= .type "list",data:= .seq i.toArray n }:=by
 obtain⟨z,i,n,r,e⟩:=r.ok I.a0
 exact⟨z,i,n,r,r.length,e⟩
def Wi:M.bf<=sizeLine:=by rw [M.Gg];decide
def Lu (K:Aa8):R2:=λx y H Q=> ∃l b xs zs,x= .ref l/\y= .ref b/\bu K H l xs/\bu K H b zs/\xs.length+zs.length<=sizeLine/\ ∀p,H p=y0->Q (.ref p) (aP H p (.lst (xs++zs)))
def CG:b0 X (binaryOp .Add) (Lu X.K):=by
 intro o s U H x y v u Q I F K h
 obtain⟨l,b,L,N,rfl,rfl,C,z,M,q⟩:=h
 cases F
 cases K
 obtain⟨c,r,G,_⟩:=I.list C
 obtain⟨a,m,J,_⟩:=I.list z
 have O:=r.length
 have l2:=m.length
 have w:c.toArray++a.toArray=(c++a).toArray:=by simp
 obtain⟨⟨A,dd,k,sl⟩,p,E,n,D⟩:=id G.isList
 obtain⟨⟨t,i,e,f⟩,d,j,B,g⟩:=id J.isList
 subst E D j g
 refine concat_meets ⟨_,p,rfl⟩ ⟨_,d,rfl⟩ noFill_list_add seq_list_add PySem.F.slot_list_add PySem.F.entry_list_add (PySem.F.args_list_add_2 _ _) (list_addW l b c.toArray a.toArray n B dd i sl f (by simp_all)) ⟨p,d,?_⟩
 rw [w]
 exact⟨.ref _,_,I.lN (r.append m) (by simp_all),rfl,q _ I.fresh⟩
def Dn:R2:=λx y H Q=> ∃l k xs,x= .ref l/\y= .int k/\Rd H l (.lst xs)/\ -(2 ^ 63)<=k/\k<2 ^ 63/\xs.length*k.toNat<=sizeLine ∧
 ∀p,H p=y0->Q (.ref p) (aP H p (.lst (Ab k.toNat xs).flatten))
def LU:b0 X (binaryOp .Mult) Dn:=by
 intro j s U H x y v u Q I E K h
 obtain⟨l,k,L,rfl,rfl,B,C,J,o,q⟩:=h
 cases E
 obtain⟨t,rfl⟩:=K
 obtain⟨z,b,n,r,G,e⟩:=Bw I B
 have d:b.toArray.size*k.toNat<=sizeLine:=by rw [Ac0,←G];exact o
 have g: ¬b.toArray.size*k.toNat>(2 ^ 63-1) / 8:=by
  have: sizeLine<=(2 ^ 63-1) / 8:=by decide
  lia
 have i: ¬(!Builtin.List.listFitsIndex k)=true:=by
  rw [fitsIndex_both C J]
  exact Ac3
 have c: ¬Builtin.List.listTooLong (b.toArray.size*k.toNat)=true:=by
  rw [yl d]
  exact Ac3
 have f:List.foldl (λA w=>A++w) #[] (Ab (if b.toArray.isEmpty=u0 then 0 else k.toNat) b.toArray)=(Ab k.toNat b).flatten.toArray:=by
  have p:=λm=>by
   have:=JX b m []
   rw [Ae7]at this
   exact this
  rw [p]
  cases b with
  | nil=>simp
  | cons a M=>rw [if_neg (by simp)]
 refine wpAny_binaryOp_repeat_ref rfl ⟨_,e,rfl⟩ (λD=>typeIs_int D k t) noFill_list_mul F.fills_int_mul F.slot_int_rmul repeat_list F.slot_int_index.lookup
  (call_meets F.slot_int_rmul (typeIs_int s k t) F.entry_int_rmul (F.args_int_rmul_2 _ _) (int___rmul___int_list k t l b.toArray n)
    ⟨e,rfl,⟨_,e,rfl⟩,call_meets F.slot_list_mul ⟨_,e,rfl⟩ F.entry_list_mul (F.args_list_mul_2 _ _) (AutoListH.list___mul___list_int_3 l b.toArray n k t i g c) ⟨e,?_⟩⟩)
 rw [f]
 exact⟨.ref _,_,I.lN (r.rep k.toNat) (by rw [FV,An8];exact o),rfl,q _ I.fresh⟩
theorem ab.rep (z:ab Y G H ds vs): ∀k:Nat,ab Y G H (Ab k ds).flatten (Ab k vs).flatten
 | 0=>rfl
 | k+1=>by
  exact z.append (ab.rep z k)
def jd (a b:Nat):Builtin.bitAnd (a:Int) (b:Int)=((a &&& b:Nat):Int):=by
 rfl
def IC (a:Nat) (j) (b: ¬0<=j):Builtin.bitAnd (a:Int) j=((a-(a &&& (-j-1).toNat):Nat):Int):=by
 have e:(Builtin.bitNot j).toNat=(-j-1).toNat:=by unfold Builtin.bitNot;lia
 unfold Builtin.bitAnd
 rw [decide_eq_true (Ao9 a),decide_eq_false b]
 show a-((a &&& (Builtin.bitNot j).toNat:Nat):Int)=_
 rw [e]
 have:= @Nat.and_le_left a (-j-1).toNat
 lia
def wn (a b:Nat):Builtin.bitOr (a:Int) (b:Int)=((a ||| b:Nat):Int):=by
 have d: ¬ 0<=Builtin.bitNot a:=by unfold Builtin.bitNot;lia
 have c: ¬ 0<=Builtin.bitNot b:=by unfold Builtin.bitNot;lia
 have e1:(Builtin.bitNot (Builtin.bitNot a)).toNat=a:=by unfold Builtin.bitNot;lia
 have e2:(Builtin.bitNot (Builtin.bitNot b)).toNat=b:=by unfold Builtin.bitNot;lia
 unfold Builtin.bitOr Builtin.bitAnd
 rw [decide_eq_false d,decide_eq_false c]
 show Builtin.bitNot (Builtin.bitNot _)=_
 rw [e1,e2]
 unfold Builtin.bitNot
 lia
def BA (h:M.Ke i j=k0 k):Builtin.bitAnd i j=k:=by
 unfold M.Ke at h
 split at h
 .rename_i d
  obtain⟨a,rfl⟩:=Ah1 d
  split at h
  .rename_i c
   obtain⟨b,rfl⟩:=Ah1 c
   cases h
   exact jd a b
  .rename_i c
   cases h
   exact IC a j c
 .cases h
def FX (h:M.kh i j=k0 k):Builtin.bitOr i j=k:=by
 unfold M.kh at h
 split at h
 .rename_i c
  obtain⟨a,rfl⟩:=Ah1 c.1
  obtain⟨b,rfl⟩:=Ah1 c.2
  cases h
  exact wn a b
 .cases h
def EI: ∀a b:Nat,(a ||| b)=(a ^^^ b)+(a &&& b):=by
 intro a
 induction a using Nat.strongRecOn with
 | ind a c=>
  intro b
  by_cases h:a=0
  .subst h;simp
  .have i:=c (a / 2) (by lia) (b / 2)
   rw [← (@Nat.or_div_two_pow a b 1),←(@Nat.xor_div_two_pow a b 1),←(@Nat.and_div_two_pow a b 1)]at i
   have e:(a ||| b) % 2=(a ^^^ b) % 2+(a &&& b) % 2:=by
    rw [(@Nat.or_mod_two_pow a b 1),(@Nat.xor_mod_two_pow a b 1),(@Nat.and_mod_two_pow a b 1)]
    rcases Nat.mod_two_eq_zero_or_one a with u | u<;>rcases Nat.mod_two_eq_zero_or_one b with v | v<;>rw [u,v]<;>rfl
   lia
def L9 (h:M.Kz i j=k0 k):Builtin.bitXor i j=k:=by
 unfold M.Kz at h
 split at h
 .rename_i c
  obtain⟨a,rfl⟩:=Ah1 c.1
  obtain⟨b,rfl⟩:=Ah1 c.2
  cases h
  show Builtin.bitOr a b-Builtin.bitAnd a b=((a ^^^ b))
  rw [wn,jd,EI]
  lia
 .cases h
noncomputable def l1:M.Op->Operator
 | .add=> .Add | .sub=> .Sub | .mul=> .Mult | .fdiv=> .FloorDiv | .mod=> .Mod | .pow=> .Pow | .shl=> .LShift | .shr=> .RShift | .band=> .BitAnd | .bor=> .BitOr | .bxor=> .BitXor
def Lh (Y:Ge) (E:XK) (o:M.Op):R2:=λx y H Q=> ∃G h a b,ai Y G h H/\ak Y G H a x/\ak Y G H b y/\av Y E G H (M.GV o a b h) Q
def Aw (s t):aK s++aK t=aK (s++t):=by
 show Str.mk _=Str.mk _
 simp [aK]
def ze (s):(aK s).length=s.length:=by
 show s.toArray.size=s.length
 simp
def mw:M.Op->Bool
 | _=>u0
def Au (d:mw o=u0)(e:M.Gj o i j=k0 k)(I:Inv X pins U H s) (a:RelV (.int i) v) (b:RelV (.int j) u) (q:Q (.int k) H):
 wpAny (model X.prog X.w) X.A (binaryOp (l1 o) v u) (EP X pins U Q) X.xe s:=by
 cases o with
 | add=>cases e;exact LD pins s U H _ _ v u Q I a b ⟨i,j,rfl,rfl,q⟩
 | sub=>cases e;exact LC pins s U H _ _ v u Q I a b ⟨i,j,rfl,rfl,q⟩
 | mul=>
  simp only [M.Gj,M.GX,M.GC]at e
  split at e
  .rename_i c;cases e;exact Dt pins s U H _ _ v u Q I a b ⟨i,j,rfl,rfl,c,q⟩
  .cases e
 | fdiv=>
  simp only [M.Gj,M.GO,M.GC]at e
  split at e
  .rename_i c;cases e;exact IX pins s U H _ _ v u Q I a b ⟨i,j,rfl,rfl,c,q⟩
  .cases e
 | mod=>
  simp only [M.Gj,M.GC]at e
  split at e
  .rename_i c;cases e;exact Bn pins s U H _ _ v u Q I a b ⟨i,j,rfl,rfl,c,q⟩
  .cases e
 | pow=>
  simp only [M.Gj,M.Kc,M.GC]at e
  split at e
  .rename_i c;cases e;exact Ft pins s U H _ _ v u Q I a b ⟨i,j,rfl,rfl,c,q⟩
  .cases e
 | shl=>
  simp only [M.Gj,M.Kc,M.GC]at e
  split at e
  .rename_i c;cases e;exact DN pins s U H _ _ v u Q I a b ⟨i,j,rfl,rfl,c,q⟩
  .cases e
 | shr=>
  simp only [M.Gj,M.GC]at e
  split at e
  .rename_i c;cases e;exact Im pins s U H _ _ v u Q I a b ⟨i,j,rfl,rfl,c,q⟩
  .cases e
 | band=>exact MZ pins s U H _ _ v u Q I a b ⟨i,j,rfl,rfl,by dsimp only;rw [BA e];exact q⟩
 | bor=>exact BU pins s U H _ _ v u Q I a b ⟨i,j,rfl,rfl,by dsimp only;rw [FX e];exact q⟩
 | bxor=>exact EB pins s U H _ _ v u Q I a b ⟨i,j,rfl,rfl,by dsimp only;rw [L9 e];exact q⟩
theorem ak.int (z:ak Y G H w v) (e:w.int? =k0 i):v= .int i:=by
 cases w with
 | v d=>
  cases d with
  | int j=>cases e;exact z
  | _=>cases e
 | _=>cases e
theorem ak.str (z:ak Y G H w v) (e:w.dh =k0 i):v= .str (aK i):=by
 cases w with
 | v d=>
  cases d with
  | str j=>cases e;exact z
  | _=>cases e
 | _=>cases e
theorem ak.tup (z:ak Y G H w v) (e:w.dr =k0 xs): ∃a vs,v= .ref a/\e7 Y G H a vs/\ab Y G H xs vs:=by
 cases w with
 | v d=>
  cases d with
  | tup j=>cases e;exact z
  | _=>cases e
 | _=>cases e
def C0 (o) (N:mw o=u0) (t:X.K=Y.K):b0 X (binaryOp (l1 o)) (Lh Y E o):=by
 intro d s U H x y v u Q I n q ⟨G,h,O,R,f,w,r,p⟩
 have P:=Wi
 unfold M.GV at p
 split at p
 .rename_i i j e1 e2
  obtain⟨k,e,p⟩:=p.of
  cases w.int e1
  cases r.int e2
  exact Au N e I n q (p.v f rfl)
 .split at p
  . -- add
    unfold M.KA at p
    split at p
    .rename_i a b e1 e2
     cases w.str e1
     cases r.str e2
     split at p
     .rename_i c
      exact KI d s U H _ _ v u Q I n q ⟨_,_,rfl,rfl,by rw [ze,ze];lia,by rw [Aw];exact p.v f rfl⟩
     .exact p.elim
    .split at p
     .rename_i J K e1 e2
      obtain⟨a,m,rfl,l,g⟩:=w.tup e1
      obtain⟨b,B,rfl,C,A⟩:=r.tup e2
      split at p
      .rename_i c
       have L:=g.length
       have l2:=A.length
       by_cases ex:m= []
       .subst ex
        have:J= []:=Ai5 L
        subst this
        exact Bk d s U H _ _ v u Q I n q ⟨a,b,B,rfl,rfl,t▸l.sq,t▸C.sq,p.v f ⟨b,B,rfl,C,A⟩⟩
       refine Me d s U H _ _ v u Q I n q ⟨a,b,m,B,rfl,rfl,t▸l.sq,t▸C.sq,ex,by lia,λe=> ?_,λe D F=>p.tup f (g.append A) D F⟩
       .subst e
        have:K= []:=Ai5 l2
        subst this
        rw [Ae3]at p
        exact p.v f ⟨a,m,rfl,l,g⟩
      .exact p.elim
     .split at p
      .rename_i J K e1 e2
       obtain⟨a,m,rfl,l,g⟩:=w.lst f e1
       obtain⟨b,B,rfl,C,A⟩:=r.lst f e2
       unfold M.KB at p
       split at p
       .have L:=g.length
        have l2:=A.length
        exact CG d s U H _ _ v u Q I n q ⟨a,b,m,B,rfl,rfl,t▸l,t▸C,by lia,λD F=>p.own f (g.append A) D F⟩
       .exact p.elim
      .exact p.elim
  . -- mul
    unfold M.KC at p
    split at p
    .rename_i z j e1 e2
     cases w.str e1
     cases r.int e2
     split at p
     .rename_i c
      rw [M.Gg]at c
      refine Il d s U H _ _ v u Q I n q ⟨_,j,rfl,rfl,c.1,c.2.1,by rw [ze];exact c.2.2,?_⟩
      have e:g6 (aK z) j.toNat=aK (Ab j.toNat z).flatten:=by
       apply ux
       rw [ZK]
       rfl
      rw [e]
      exact p.v f rfl
     .exact p.elim
    split at p
    .rename_i J j e1 e2
     obtain⟨a,m,rfl,l,g⟩:=w.nj f e1
     cases r.int e2
     unfold M.Kw at p
     split at p
     .rename_i c
      exact LU d s U H _ _ v u Q I n q ⟨a,j,m,rfl,rfl,l,by lia,by lia,by rw [← g.length];lia,λD F=>p.own f (g.rep j.toNat) D F⟩
     .exact p.elim
    .exact p.elim
  .exact p.elim
noncomputable def fm:M.Cp->CmpOp
 | .eq=> .Eq | .ne=> .NotEq | .lt=> .Lt | .le=> .LtE | .gt=> .Gt | .ge=> .GtE | .mem=> .In | .e6=> .NotIn | .c6=> .Is | .iJ=> .IsNot
def iu (Y:Ge) (o:M.Cp):R2:=λx y H Q=> ∃G h a c b,ai Y G h H/\ak Y G H a x/\ak Y G H c y/\M.Gq o a c h=k0 b/\Q (.bl b) H
def zN:M.Cp->Bool
 | .mem=>u0
 | .e6=>u0
 | _=>u0
def FK (e:M.Ky o i j=k0 b)(I:Inv X pins U H s) (a:RelV (.int i) v) (c:RelV (.int j) u) (q:Q (.bl b) H):
 wpAny (model X.prog X.w) X.A (compareOp (fm o) v u) (EP X pins U Q) X.xe s:=by
 cases o with
 | lt=>cases e;exact Ib pins s U H _ _ v u Q I a c ⟨i,j,rfl,rfl,q⟩
 | le=>cases e;exact FQ pins s U H _ _ v u Q I a c ⟨i,j,rfl,rfl,q⟩
 | gt=>cases e;exact HQ pins s U H _ _ v u Q I a c ⟨i,j,rfl,rfl,q⟩
 | ge=>cases e;exact D6 pins s U H _ _ v u Q I a c ⟨i,j,rfl,rfl,q⟩
 | _=>cases e
def Hn (f:X.K=Y.K)(l:bg k X.A):b0 X (compareOp .Eq) (iu Y .eq):=by
 intro a s U H x y v u Q I m n ⟨G,h,o,p,b,g,j,i,e,q⟩
 simp only [M.Gq]at e
 split at e
 .rename_i c
  cases e
  have d:=by simpa [M.G6]using c
  exact(pJ 150 _ _ X.A v u (by lia) (by have:=l.un;lia) (j.rv I f g m d.1.1) (i.rv I f g n d.1.2)).rc _ _ _ _ ⟨.bl _,H,I,rfl,q⟩
 .cases e
def E6 (f:X.K=Y.K)(l:bg k X.A):b0 X (compareOp .NotEq) (iu Y .ne):=by
 intro a s U H x y v u Q I m n ⟨G,h,o,p,b,g,j,i,e,q⟩
 simp only [M.Gq]at e
 split at e
 .rename_i c
  cases e
  have d:=by simpa [M.G6]using c
  exact(pJ 150 _ _ X.A v u (by lia) (by have:=l.un;lia) (j.rv I f g m d.1.1) (i.rv I f g n d.1.2)).ne _ _ _ _ ⟨.bl _,H,I,rfl,q⟩
 .cases e
end
def PE.imp (h:PE X e t) (k: ∀U H Q,t' U H Q->t U H Q):PE X e t':=λa s U H Q I q=>h a s U H Q I (k _ _ _ q)
def PT.imp (h:PT X e t) (k: ∀U H Q,t' U H Q->t U H Q):PT X e t':=λa s U H Q I q=>h a s U H Q I (k _ _ _ q)
def PA.imp (h:PA X e t) (k: ∀U H Q,t' U H Q->t U H Q):PA X e t':=λb a s U H Q I q=>h b a s U H Q I (k _ _ _ q)
section
variable {X:Cx}{Y:Ge}{G:Gh}{H:Hp}{h:M.AH}{pins:List (Addr×Obj)}{U:St}{s:Shared}{Q:VK}{E:XK}
def bj.one (z:bj Y G H [w] vs): ∃v,vs= [v]/\ak Y G H w v:=by
 obtain⟨v,r,rfl,b,a⟩:=z
 cases (show r= []from a)
 exact⟨v,rfl,b⟩
def bj.two (z:bj Y G H [w,w'] vs): ∃v v',vs= [v,v']/\ak Y G H w v/\ak Y G H w' v':=by
 obtain⟨v,r,rfl,c,b⟩:=z
 obtain⟨v',rfl,a⟩:=b.one
 exact⟨v,v',rfl,c,a⟩
def nh (Y:Ge) (E:XK) (b:M.Bi):List V->Hp->VK->Prop:=λxs H Q=> ∃G h a,ai Y G h H/\bj Y G H a xs/\av Y E G H (M.dw b a h) Q
def yK {K:Aa8}(h:bu K H a vs\/cj K H a vs):bu K H a vs\/cj K H a vs:=h
noncomputable def mZ:M.Bi->Bool
 | .len=>u0 | .int=>u0 | .list=>u0 | .tuple=>u0 | .divmod=>u0 | .sum=>u0 | .all=>u0 | .any=>u0 | .sorted=>u0
 | _=>k9
noncomputable def rL:M.Bi->Value
 | .len=> .builtin "len" | .int=> .type "int" | .list=> .type "list" | .tuple=> .type "tuple" | .sum=> .builtin "sum" | .all=> .builtin "all" | .any=> .builtin "any"
 | .sorted=> .builtin "sorted" | .divmod=> .builtin "divmod" | .str=> .type "str" | .min=> .builtin "min" | .max=> .builtin "max" | .abs=> .builtin "abs"
def av.of2 {f:α->β->M.AH->M.R M.W}(p:av Y E G H ((M.R.of h o).bind λa h=>(M.R.of h o').bind λb h=>f a b h) Q): ∃a b,o=k0 a/\o'=k0 b/\av Y E G H (f a b h) Q:=by
 obtain⟨a,e,p⟩:=p.of
 obtain⟨b,c,p⟩:=p.of
 exact⟨a,b,e,c,p⟩
theorem W9 : ∀ {xs}{vs}{bs},M.Kl xs=k0 bs->ab Y G H xs vs->vs=bs.map V.bl
 | [],_,_,e,z=>by cases e;exact z
 | x::xs,_,bs,e,⟨v,r,d,a,c⟩=>by
  subst d
  cases x with
  | bl b=>
   obtain⟨f,e1,rfl⟩:=Ag5.mp (e)
   cases (a)
   rw [W9 e1 c];rfl
  | _=>cases e
theorem ye : ∀ {xs}{vs}{n},M.Kk xs=k0 n->ab Y G H xs vs-> ∃ns:List Int,vs=ns.map V.int/\n=gj ns
 | [],_,_,e,z=>by cases e;exact⟨[],z,rfl⟩
 | x::xs,_,n,e,⟨v,r,b,a,d⟩=>by
  subst b
  cases x with
  | int i=>
   have e:=e
   obtain⟨k,e1,rfl⟩:=Ag5.mp e
   obtain⟨ns,c,f⟩:=ye e1 d
   cases (a)
   exact⟨i::ns,by rw [c];rfl,by rw [f];rfl⟩
  | _=>cases e
theorem WH : ∀ {xs}{vs}{ns},M.GM xs=k0 ns->ab Y G H xs vs->vs=ns.map V.int
 | [],_,_,e,z=>by cases e;exact z
 | x::xs,_,ns,e,⟨v,r,d,a,c⟩=>by
  subst d
  cases x with
  | int b=>
   obtain⟨f,e1,rfl⟩:=Ag5.mp (e)
   cases (a)
   rw [WH e1 c];rfl
  | _=>cases e
theorem zT : ∀ {xs}{vs}{ns},M.GR xs=k0 ns->ab Y G H xs vs->vs=(ns.map aK).map V.str
 | [],_,_,e,z=>by cases e;exact z
 | x::xs,_,ns,e,⟨v,r,d,a,c⟩=>by
  subst d
  cases x with
  | str b=>
   obtain⟨f,e1,rfl⟩:=Ag5.mp (e)
   cases (show v= .str (aK b)from a)
   rw [zT e1 c];rfl
  | _=>cases e
theorem QT : ∀(a:List M.Tx),ab Y G H (a.map .str) ((a.map aK).map V.str)
 | []=>rfl
 | t::a=>⟨_,_,rfl,rfl,QT a⟩
theorem rB (x): ∀ {ys},ys.Pairwise (λa b=> ¬b<a)->(M.Kf x ys).Pairwise (λa b=> ¬b<a)
 | [],_=>List.pairwise_singleton _ _
 | y::ys,h=>by
  have e:=Ak2.mp h
  unfold M.Kf
  split
  .rename_i q
   refine Ak2.mpr ⟨λz d=> ?_,rB x e.2⟩
   have:z=x\/z∈ys:=by
    have g: ∀ {x}{ys},z∈M.Kf x ys->z=x\/z∈ys:=by
     intro x ys
     induction ys with
     | nil=>intro h;simp [M.Kf]at h;exact .inl h
     | cons y ys f=>
      intro h
      unfold M.Kf at h
      split at h
      .rcases Ab8.mp h with h | h
       .exact .inr (h▸Aa5)
       .exact(f h).imp id (Aa2 _)
      .rcases Ab8.mp h with h | h
       .exact .inl h
       .exact .inr h
    exact g d
   rcases this with rfl | d
   .exact λc=>List.lt_irrefl _ (List.lt_trans c q)
   .exact e.1 z d
  .rename_i q
   refine Ak2.mpr ⟨λz d=> ?_,h⟩
   rcases Ab8.mp d with rfl | d
   .exact q
   .exact List.le_trans q (e.1 z d)
theorem vg: ∀xs:List M.Tx,(M.GA xs).Pairwise (λa b=> ¬b<a)
 | []=> .nil
 | x::xs=>rB x (vg xs)
theorem qt (x): ∀ys:List M.Tx,(M.Kf x ys).Perm (x::ys)
 | []=> .refl _
 | y::ys=>by
  unfold M.Kf
  by_cases q:y<x
  .rw [if_pos q]
   exact((qt x ys).cons y).trans (.swap x y ys)
  .rw [if_neg q]
theorem Zl: ∀xs:List M.Tx,(M.GA xs).Perm xs
 | []=> .refl _
 | x::xs=>(qt x (M.GA xs)).trans ((Zl xs).cons x)
theorem u2: ∀ {l}{p},risingS p l=u0->(p::l).Pairwise (λa b=> ¬b.cps.toList<a.cps.toList)
 | [],p,_=>List.pairwise_singleton _ _
 | x::r,p,h=>by
  have h:(!ltCps x.cps.toList p.cps.toList&&risingS x r)=true:=h
  rw [Aa1,ltCps_eq]at h
  have e:=by simpa using h.1
  have d:=u2 h.2
  refine Ak2.mpr ⟨λz c=> ?_,d⟩
  rcases Ab8.mp c with rfl | c
  .exact e
  .exact List.le_trans e ((Ak2.mp d).1 z c)
def Dz (s):aK s.cps.toList=s:=by cases s;simp [aK]
def LJ (g:ss.Perm (ts.map aK)) (c:sortedS ss=u0):ss=(M.GA ts).map aK:=by
 have f:=by
  have:=g.map (λs=>s.cps.toList)
  rw [Ad1]at this
  have e:((λs:Str=>s.cps.toList)∘aK)=id:=by funext t;simp [aK]
  rw [e,List.map_id]at this
  exact this
 have d:(ss.map λs=>s.cps.toList).Pairwise (λa b=> ¬b<a):=by
  rw [List.pairwise_map]
  cases ss with
  | nil=>exact .nil
  | cons p l=>exact u2 c
 rw [← (List.Perm.eq_of_pairwise (λa b _ _ x y=>List.le_antisymm x y) d (vg ts) (f.trans (Zl ts).symm)),Ad1]
 have e:(aK∘λs:Str=>s.cps.toList)=id:=by funext t;exact Dz t
 rw [e,List.map_id]
def CJ (b) (B:mZ b=u0) (A:X.K=Y.K) (J:X.calm=u0):ju X (rL b) (nh Y E b):=by
 intro f s U H V u Q I r ⟨G,h,ws,g,D,p⟩
 have W:=Wi
 unfold M.dw at p
 split at p
 .rename_i w
  obtain⟨v,rfl,z⟩:=D.one
  cases b with
  | len=>
   simp only [M.pk]at p
   split at p
   .rename_i y e
    cases z.str e
    split at p
    .exact xZ f s U H _ u Q I r ⟨_,rfl,by rw [ze];lia,by rw [ze];exact p.v g rfl⟩
    .exact p.elim
   .obtain⟨C,e,p⟩:=p.of
    obtain⟨a,t,rfl,m,o⟩:=z.seq g e
    refine W5 f s U H _ u Q I r ⟨a,t,rfl,A▸yK m,?_⟩
    rw [← o.length]
    exact p.v g rfl
  | int=>
   simp [M.pk]at p
   split at p
   .cases (z)
    exact j5 f s U H _ u Q I r (.inl ⟨_,rfl,p.v g rfl⟩)
   .rename_i k
    cases (z)
    refine j5 f s U H _ u Q I r (.inr ⟨_,rfl,?_⟩)
    have:=p.v g rfl
    cases k<;>exact this
   .exact p.elim
  | list=>
   obtain⟨C,e,p⟩:=p.of
   obtain⟨a,t,rfl,m,o⟩:=z.seq g e
   exact ZW f s U H _ u Q I r ⟨a,t,rfl,A▸yK m,λl x=>p.own g o l x⟩
  | tuple=>
   obtain⟨C,e,F⟩:=p.of
   clear p
   cases w with
   | v d=>
    cases d with
    | tup K=>
     cases e
     obtain⟨a,t,rfl,m,o⟩:=z
     exact jh f s U H _ u Q I r ⟨a,t,rfl,.inr ⟨A▸m.sq,F.v g ⟨a,t,rfl,m,o⟩⟩⟩
    | lst K=>
     obtain⟨a,t,rfl,m,o⟩:=ak.lst g z e
     exact jh f s U H _ u Q I r ⟨a,t,rfl,.inl ⟨A▸m,λl x=>F.tup g o l x⟩⟩
    | ref q=>
     obtain⟨a,t,rfl,m,o⟩:=ak.lst g z e
     exact jh f s U H _ u Q I r ⟨a,t,rfl,.inl ⟨A▸m,λl x=>F.tup g o l x⟩⟩
    | au=>cases e
    | bl _=>cases e
    | int _=>cases e
    | str _=>cases e
   | own K=>
    obtain⟨a,t,rfl,m,o⟩:=ak.lst g z e
    exact jh f s U H _ u Q I r ⟨a,t,rfl,.inl ⟨A▸m,λl x=>F.tup g o l x⟩⟩
   | bor K=>
    obtain⟨a,t,rfl,m,o⟩:=ak.lst g z e
    exact jh f s U H _ u Q I r ⟨a,t,rfl,.inl ⟨A▸m,λl x=>F.tup g o l x⟩⟩
  | divmod=>exact p.elim
  | min=>cases B
  | max=>cases B
  | sum=>
   obtain⟨n,e,p⟩:=p.of
   obtain⟨C,e1,e2⟩:=Ag8.mp e
   split at e2
   rotate_left
   .cases e2
   obtain⟨a,t,rfl,m,o⟩:=ak.lst g z e1
   obtain⟨N,rfl,rfl⟩:=ye e2 o
   exact A3 J f s U H _ u Q I r ⟨a,N,rfl,A▸m,p.v g rfl⟩
  | all=>
   obtain⟨bs,e,p⟩:=p.of
   obtain⟨C,e1,e2⟩:=Ag8.mp e
   obtain⟨a,t,rfl,m,o⟩:=ak.lst g z e1
   cases W9 e2 o
   exact AZ J f s U H _ u Q I r ⟨a,bs,rfl,A▸m,p.v g rfl⟩
  | any=>
   obtain⟨bs,e,p⟩:=p.of
   obtain⟨C,e1,e2⟩:=Ag8.mp e
   obtain⟨a,t,rfl,m,o⟩:=ak.lst g z e1
   cases W9 e2 o
   exact M5 J f s U H _ u Q I r ⟨a,bs,rfl,A▸m,p.v g rfl⟩
  | sorted=>
   obtain⟨O,e,p⟩:=p.of
   obtain⟨C,e1,e2⟩:=Ag8.mp e
   obtain⟨a,t,rfl,m,o⟩:=ak.lst g z e1
   cases zT e2 o
   split at p
   .rename_i x
    refine J0 f s U H _ u Q I r ⟨a,O.map aK,rfl,A▸m,by rw [Aa];exact x,λP T L l x=> ?_⟩
    rw [LJ T L]
    exact p.own g (QT _) l x
   .exact p.elim
  | str=>cases B
  | abs=>cases B
 .rename_i w w'
  obtain⟨v,Z,rfl,z,S⟩:=D.two
  obtain⟨i,j,e,R,p⟩:=p.of2
  cases z.int e
  cases S.int R
  cases b with
  | divmod=>
   simp [M.sC,M.GO]at p
   split at p
   .rename_i c
    exact Q8 f s U H _ u Q I r ⟨i,j,rfl,c,λl x=>p.tup g ⟨_,_,rfl,rfl,_,_,rfl,rfl,rfl⟩ l x⟩
   .exact p.elim
  | min=>cases B
  | max=>cases B
  | len=>exact p.elim
  | int=>exact p.elim
  | list=>exact p.elim
  | tuple=>exact p.elim
  | sum=>exact p.elim
  | all=>exact p.elim
  | any=>exact p.elim
  | sorted=>exact p.elim
  | str=>cases B
  | abs=>cases B
 .exact p.elim
noncomputable def cV:M.Ty->String
 | .au=> "NoneType" | .bool=> "bool" | .int=> "int" | .str=> "str" | .list=> "list" | .tuple=> "tuple"
def wB (K): ∀ u t,t≠ .au->PySem.W.kitOne K (.type (cV u)) (.type (cV t))=k0 (M.Ty.le u t):=by
 intro u t a
 cases u<;>cases t<;>first | exact absurd rfl a | kernel_rfl
def DY (Y:Ge):List V->Hp->VK->Prop:=λxs H Q=> ∃G h w x t b,xs= [x,.ty (cV t)]/\t≠ .au/\ai Y G h H/\ak Y G H w x/\M.bZ t w=k0 b/\Q (.bl b) H
def Lz (E:X.K=Y.K):ju X (.builtin "isinstance") (DY Y):=by
 intro k s U H O P Q I r ⟨G,h,w,x,t,b,K,g,S,z,e,q⟩
 subst K
 obtain⟨u,T,rfl,j,N⟩:=o9 r
 cases N
 have fin: ∀A,EP X k U Q _ { s with toks:=A }:=λA=>⟨.bl b,H,I.tok A,rfl,q⟩
 have lst: ∀ {a}{m},x= .ref a->Rd H a (.lst m)->M.Ty.le .list t=b->wpAny (model X.prog X.w) X.A (call (.builtin "isinstance") [u,.type (cV t)]) (EP X k U Q) X.xe s:=by
  intro a m ex rd F
  subst ex F
  obtain rd | ⟨o,rd⟩:=rd
  .exact Zj I j (.lst rd) (wB _ .list t g) fin
  .exact Zj I j (.eu rd) (wB _ .list t g) fin
 cases w with
 | v d=>
  cases d with
  | au=>cases e;cases (z);exact Zj I j .au (wB _ .au t g) fin
  | bl c=>cases e;cases (z);exact Zj I j (.bl c) (wB _ .bool t g) fin
  | int i=>cases e;cases (z);exact Zj I j (.int i) (wB _ .int t g) fin
  | str y=>cases e;cases (z);exact Zj I j (.str _) (wB _ .str t g) fin
  | tup B=>
   cases e
   obtain⟨a,m,rfl,f,L⟩:=z
   obtain⟨_,f⟩ | ⟨o,C,n,p,D,J,_⟩:=f
   .exact Zj I j (.tup f) (wB _ .tuple t g) fin
   .cases j
    exact Af1 PySem.W.kitx_tuple I.cu ⟨o,I.cu a o (E▸p),D⟩ (wB _ .tuple t g) (λz=>nomatch z) fin
  | lst B=>
   cases e
   obtain⟨a,m,l,f,L⟩:=z
   obtain f | ⟨o,C,n,p,D,J,_⟩:=f
   .exact lst l f.2 rfl
   .subst l
    cases j
    exact Af1 Ao6 I.cu ⟨o,I.cu a o (E▸p),D⟩ (wB _ .list t g) (λz=>nomatch z) fin
  | ref R=>cases e
 | own B=>cases e;obtain⟨a,m,l,_,_,f,_⟩:=z;exact lst l (.inl f) rfl
 | bor B=>cases e;obtain⟨a,m,l,_,f,_⟩:=z;exact lst l f rfl
def l6 (m:X.K=Y.K) (p:ai Y G h H)(z:ak Y G H w x) (e:M.G8 h w=k0 b):iY X.K x H b:=by
 have lst: ∀ {a}{f}{g},x= .ref a->bu X.K H a f->ab Y G H g f->(!g.isEmpty)=b->iY X.K x H b:=by
  intro a f g ex rd j n
  subst ex n
  refine .inl ⟨f,rd,?_⟩
  cases g with
  | nil=>cases (show f= []from j);rfl
  | cons _ _=>obtain⟨_,_,rfl,_⟩:=j;rfl
 cases w with
 | v d=>
  cases d with
  | au=>cases e;cases (z);exact rfl
  | bl _=>cases e;cases (z);exact rfl
  | int _=>cases e;cases (z);exact rfl
  | str y=>
   cases (z)
   have e:(if y.length<=M.bf then k0 (!y.isEmpty)else y0)=k0 b:=e
   split at e
   .rename_i c
    cases e
    refine⟨by rw [ze];have:=Wi;lia,?_⟩
    rw [ze]
    cases y with
    | nil=>rfl
    | cons a r=>
     have:((((a::r).length:Nat):Int) != 0)=true:=by
      rw [Aa7,bne_iff_ne];lia
     rw [this];rfl
   .cases e
  | tup g=>
   cases e
   obtain⟨a,f,rfl,i,j⟩:=z
   refine .inr (.inl ⟨f,m▸i.sq,?_⟩)
   cases g with
   | nil=>cases (show f= []from j);rfl
   | cons _ _=>obtain⟨_,_,rfl,_⟩:=j;rfl
  | lst g=>cases e;obtain⟨a,f,k,i,l⟩:=z;exact lst k (m▸i.sq) l rfl
  | ref o=>cases e
 | own g=>cases e;obtain⟨a,f,k,_,_,i,l⟩:=z;exact lst k (bu.of i) l rfl
 | bor g=>cases e;obtain⟨a,f,k,_,i,l⟩:=z;exact lst k (.inl i) l rfl
end
abbrev Jg (x:String):Str:=Str.ofString x
example:("len" :Str)=Jg "len" :=rfl
structure gg where
 fl:List (String×String)
 mt:List (String×String×String)
 e8:List (String×String)
 ms:List String
 er:List (String×String)
structure Cf where
 sc:Scope
 N:List Str
 fns:List String
 own:List String
 dR:List String
 dZ:List String
 ob:gg
noncomputable def WV (sc:Scope) (x:Str):Bool:=match sc.names.lookup x with
 | some .local=>u0
 | some .cell=>u0
 | some .free=>u0
 | _=>k9
def lh (sc:Scope) (x:Str):Bool:=match sc.names.lookup x with
 | some .globalImplicit=>u0
 | _=>k9
def iF (sc:Scope) (x:Str):Bool:=match sc.names.lookup x with
 | some .local=>u0
 | some .cell=>u0
 | _=>k9
def bh (x:Str):Bool:= !(x==("__debug__" :Str))&& !(x==("__classdict__" :Str))
noncomputable def mx:M.Bi->String
 | .len=> "len" | .int=> "int" | .list=> "list" | .tuple=> "tuple" | .sum=> "sum" | .all=> "all" | .any=> "any" | .sorted=> "sorted" | .divmod=> "divmod" | .str=> "str" | .min=> "min" | .max=> "max" | .abs=> "abs"
noncomputable def cn:List String:= ["len", "int", "list", "tuple", "sum", "all", "any", "sorted", "divmod", "str", "min", "max", "abs", "isinstance", "bool", "range", "reversed", "zip", "enumerate", "set", "dict", "ValueError"]
def oG:Expr->Str->Bool
 | .Name y _,x=>y==x
 | _,_=>k9
def b7 (sc:Scope) (x:String) (e:Expr):Bool:=oG e (Jg x)&&lh sc (Jg x)&&bh (Jg x)
def rg:M.Mt->String
 | .index=> "index" | .count=> "count" | .b5=> "index"
def rY:M.Mt->Bool
 | .index=>u0 | .count=>u0 | .b5=>u0
def wS:Expr->Bool
 | .Call _ [] _ _=>k9
 | _=>u0
def lW:Expr->Bool
 | .UnaryOp .USub (.Constant (.int 1) _ _) _=>u0
 | _=>k9
noncomputable def zw (a:Cf):List Nat->List Expr->Bool
 | [],[]=>u0
 | i::is,.Name x _::es=>u9 (a.N[i]? =k0 x)&&iF a.sc x&&zw a is es
 | _,_=>k9
def zg (b:Cf) (a:List Nat) (one:Bool) (e:Expr):Bool:=match one,e with
 | true,.Name x p=>(match a with | [_]=>u0 | _=>k9)&&zw b a [.Name x p]
 | false,.Tuple es _ _=>zw b a es
 | _,_=>k9
def wb:Expr->Bool
 | .Starred .. =>k9
 | _=>u0
def qd:Expr->Bool
 | .Slice .. =>k9
 | _=>u0
def Jh:Expr->Bool
 | .Set .. =>k9
 | _=>u0
noncomputable def QM (a:Cf):List Nat->List Str->Bool
 | [],[]=>u0
 | j::b,x::xs=>u9 (a.N[j]? =k0 x)&&u9 (a.sc.names.lookup x=k0 .cell\/a.sc.names.lookup x=k0 .free)&&QM a b xs
 | _,_=>k9
def J8 (b:Cf) (a:Scope) (N:List Str) (k:Nat) (aB:List Nat):Bool:=
 u9 (a.kind= .function)&&u9 (a.names.map Prod.fst).Nodup&&a.names.all (λy=>u9 (y.2= .local->a.names.lookup y.1=k0 .local))&&
 a.names.all (λy=>u9 (y.2= .free->b.sc.names.lookup y.1=k0 .cell\/b.sc.names.lookup y.1=k0 .free))&&(N.drop k).all (λx=>u9 (a.names.lookup x=k0 .free))&&
 QM b aB (N.drop k)&&u9 (k<=N.length)&&decide N.Nodup&&decide aB.Nodup
def B7:Expr->List Str
 | .Name x _=> [x]
 | .Tuple es _ _=>es.filterMap λ| .Name x _=>k0 x | _=>y0
 | _=> []
def Jz (a:Cf) (t:Expr) (aB:List Nat):List Str:=B7 t++aB.filterMap λj=>a.N[j]?
def f9:M.E->Bool
 | .share _=>k9
 | .not a=>f9 a
 | .and a b=>f9 a&&f9 b
 | .or a b=>f9 a&&f9 b
 | _=>u0
def lV (neg:Bool):CmpOp:=if neg then .NotIn else .In
def cc {P:Prop}(h:k9=u0):P:=nomatch h
set_option backward.match.sparseCases false
def lC {a:Type}(l:List a) (f:a->List a->Bool):Bool:=match l with
 | x::r=>f x r
 | _=>k9
def oS {a:Type}(l:Option a) (f:a->Bool):Bool:=match l with
 | some x=>f x
 | _=>k9
@[elab_as_elim] theorem kC {P:List α->Prop}(k: ∀x r,f x r=u0->P (x::r)): ∀l,lC l f=u0->P l:=by rintro (_|_)<;>first | exact cc | exact k _ _
@[elab_as_elim] theorem kS {P:Option α->Prop}(k: ∀x,f x=u0->P (k0 x)): ∀l,oS l f=u0->P l:=by rintro (_|_)<;>first | exact cc | exact k _
def Xy (e:Expr) (f:Str->Bool):Bool:=match e with
 | .Name x _=>f x
 | _=>k9
@[elab_as_elim] theorem zA {P:Expr->Prop}(k: ∀x p,f x=u0->P (.Name x p)): ∀e,Xy e f=u0->P e:=by rintro (_|_)<;>first | exact cc | exact k _ _
def wy (e:Expr) (f:Const->Bool):Bool:=match e with
 | .Constant x _ _=>f x
 | _=>k9
@[elab_as_elim] theorem JF {P:Expr->Prop}(k: ∀x n p,f x=u0->P (.Constant x n p)): ∀e,wy e f=u0->P e:=by rintro (_|_)<;>first | exact cc | exact k _ _ _
def mC (e:Expr) (f:List Expr->Bool):Bool:=match e with
 | .Tuple x _ _=>f x
 | _=>k9
@[elab_as_elim] theorem o5 {P:Expr->Prop}(k: ∀x n p,f x=u0->P (.Tuple x n p)): ∀e,mC e f=u0->P e:=by rintro (_|_)<;>first | exact cc | exact k _ _ _
def ur (e:Expr) (f:List Expr->Bool):Bool:=match e with
 | .List x _=>f x
 | _=>k9
@[elab_as_elim] theorem LH {P:Expr->Prop}(k: ∀x p,f x=u0->P (.List x p)): ∀e,ur e f=u0->P e:=by rintro (_|_)<;>first | exact cc | exact k _ _
def rn (e:Expr) (f:Expr->Operator->Expr->Bool):Bool:=match e with
 | .BinOp x o y _=>f x o y
 | _=>k9
@[elab_as_elim] theorem CI {P:Expr->Prop}(k: ∀x o y p,f x o y=u0->P (.BinOp x o y p)): ∀e,rn e f=u0->P e:=by rintro (_|_)<;>first | exact cc | exact k _ _ _ _
def kO (e:Expr) (f:Expr->List CmpOp->List Expr->Bool):Bool:=match e with
 | .Compare x o y _=>f x o y
 | _=>k9
@[elab_as_elim] theorem mi {P:Expr->Prop}(k: ∀x o y p,f x o y=u0->P (.Compare x o y p)): ∀e,kO e f=u0->P e:=by rintro (_|_)<;>first | exact cc | exact k _ _ _ _
def ml (e:Expr) (f:UnaryOp->Expr->Bool):Bool:=match e with
 | .UnaryOp o x _=>f o x
 | _=>k9
@[elab_as_elim] theorem pj {P:Expr->Prop}(k: ∀o x p,f o x=u0->P (.UnaryOp o x p)): ∀e,ml e f=u0->P e:=by rintro (_|_)<;>first | exact cc | exact k _ _ _
def n9 (e:Expr) (f:BoolOp->List Expr->Pos->Bool):Bool:=match e with
 | .BoolOp o x p=>f o x p
 | _=>k9
@[elab_as_elim] theorem Ar {P:Expr->Prop}(k: ∀o x p,f o x p=u0->P (.BoolOp o x p)): ∀e,n9 e f=u0->P e:=by rintro (_|_)<;>first | exact cc | exact k _ _ _
def qp (e:Expr) (f:Expr->List Expr->List Keyword->Pos->Bool):Bool:=match e with
 | .Call g x l p=>f g x l p
 | _=>k9
@[elab_as_elim] theorem zp {P:Expr->Prop}(k: ∀g x l p,f g x l p=u0->P (.Call g x l p)): ∀e,qp e f=u0->P e:=by rintro (_|_)<;>first | exact cc | exact k _ _ _ _
def ft (e:Expr) (f:Expr->Expr->Bool):Bool:=match e with
 | .Subscript x y _=>f x y
 | _=>k9
@[elab_as_elim] theorem fQ {P:Expr->Prop}(k: ∀x y p,f x y=u0->P (.Subscript x y p)): ∀e,ft e f=u0->P e:=by rintro (_|_)<;>first | exact cc | exact k _ _ _
def lF (e:Expr) (f:Option Expr->Option Expr->Option Expr->Bool):Bool:=match e with
 | .Slice x y z _=>f x y z
 | _=>k9
@[elab_as_elim] theorem lX {P:Expr->Prop}(k: ∀x y z p,f x y z=u0->P (.Slice x y z p)): ∀e,lF e f=u0->P e:=by rintro (_|_)<;>first | exact cc | exact k _ _ _ _
def pW (e:Expr) (f:Expr->List Comprehension->Scope->Bool):Bool:=match e with
 | .ListComp y g s _=>f y g s
 | _=>k9
@[elab_as_elim] theorem vt {P:Expr->Prop}(k: ∀y g s p,f y g s=u0->P (.ListComp y g s p)): ∀e,pW e f=u0->P e:=by rintro (_|_)<;>first | exact cc | exact k _ _ _ _
def XM (e:Expr) (f:Expr->Str->Pos->Bool):Bool:=match e with
 | .Attribute x n p=>f x n p
 | _=>k9
@[elab_as_elim] theorem qU {P:Expr->Prop}(k: ∀x n p,f x n p=u0->P (.Attribute x n p)): ∀e,XM e f=u0->P e:=by rintro (_|_)<;>first | exact cc | exact k _ _ _
def nO (e:Expr) (f:List (Option Expr)->List Expr->Bool):Bool:=match e with
 | .Dict x y _=>f x y
 | _=>k9
@[elab_as_elim] theorem yq {P:Expr->Prop}(k: ∀x y p,f x y=u0->P (.Dict x y p)): ∀e,nO e f=u0->P e:=by rintro (_|_)<;>first | exact cc | exact k _ _ _
def gs (e:Stmt) (f:List Expr->Expr->Bool):Bool:=match e with
 | .Assign t v _=>f t v
 | _=>k9
@[elab_as_elim] theorem gW {P:Stmt->Prop}(k: ∀t v p,f t v=u0->P (.Assign t v p)): ∀e,gs e f=u0->P e:=by rintro (_|_)<;>first | exact cc | exact k _ _ _
def lz (e:Stmt) (f:Expr->Bool):Bool:=match e with
 | .Expr v _=>f v
 | _=>k9
@[elab_as_elim] theorem m6 {P:Stmt->Prop}(k: ∀v p,f v=u0->P (.Expr v p)): ∀e,lz e f=u0->P e:=by rintro (_|_)<;>first | exact cc | exact k _ _
def tV (e:Stmt) (f:Option Expr->Bool):Bool:=match e with
 | .Return v _=>f v
 | _=>k9
@[elab_as_elim] theorem Cj {P:Stmt->Prop}(k: ∀v p,f v=u0->P (.Return v p)): ∀e,tV e f=u0->P e:=by rintro (_|_)<;>first | exact cc | exact k _ _
def vV (e:Stmt) (f:Expr->List Stmt->List Stmt->Bool):Bool:=match e with
 | .If x y z _=>f x y z
 | _=>k9
@[elab_as_elim] theorem Hx {P:Stmt->Prop}(k: ∀x y z p,f x y z=u0->P (.If x y z p)): ∀e,vV e f=u0->P e:=by rintro (_|_)<;>first | exact cc | exact k _ _ _ _
def vK (e:Stmt) (f:Expr->List Stmt->List Stmt->Bool):Bool:=match e with
 | .While x y z _=>f x y z
 | _=>k9
@[elab_as_elim] theorem CO {P:Stmt->Prop}(k: ∀x y z p,f x y z=u0->P (.While x y z p)): ∀e,vK e f=u0->P e:=by rintro (_|_)<;>first | exact cc | exact k _ _ _ _
def uc (e:Stmt) (f:Expr->Expr->List Stmt->List Stmt->Bool):Bool:=match e with
 | .For t i y z _=>f t i y z
 | _=>k9
@[elab_as_elim] theorem Eh {P:Stmt->Prop}(k: ∀t i y z p,f t i y z=u0->P (.For t i y z p)): ∀e,uc e f=u0->P e:=by rintro (_|_)<;>first | exact cc | exact k _ _ _ _ _
set_option backward.match.sparseCases true
def vB (a:Cf) (i:Nat) (x:Str):Bool:=u9 (a.N[i]? =k0 x)&&WV a.sc x&&bh x
def kZ {a:Type}(l:List a) (b:Bool):Bool:=l.isEmpty&&b
def iO (t:M.Tx) (e:Option Expr):Bool:=oS e λe=>wy e λc=>u9 (c= .str (aK t))
def nu (h:iO t e=u0): ∃j p,e=k0 (.Constant (.str (aK t)) j p):=by
 refine kS (λe h=> JF (λc n p h=> ?_) e h) e h
 cases of_decide_eq_true h
 exact⟨_,_,rfl⟩
mutual
noncomputable def xc (cf:Cf):M.E->Expr->Bool
 | .var i,e=>Xy e (vB cf i)
 | .con c,e=>b7 cf.sc c e
 | .int i,e=>wy e λj=>u9 (j= .int i)
 | .bl i,e=>wy e λj=>u9 (j= .bool i)
 | .au,e=>wy e λj=>u9 (j= .none)
 | .str i,e=>wy e λj=>u9 (j= .str (aK i))
 | .tup es,e=>mC e λxs=>u9 (xs.length<=1000)&&bW cf es xs
 | .lst es,e=>ur e λxs=>u9 (xs.length<=1000)&&bW cf es xs
 | .bin o a b,e=>rn e λx p y=>u9 (p=l1 o)&&mw o&&xc cf a x&&xc cf b y
 | .cmp o a b,e=>kO e λx p y=>lC y λy r=>u9 (p= [fm o]/\r= [])&&zN o&&Jh y&&xc cf a x&&xc cf b y
 | .chain o q a b c,e=>kO e λx p y=>lC y λy r=>lC r λz r=>u9 (p= [fm o,fm q]/\r= [])&&zN o&&zN q&&Jh z&&xc cf a x&&xc cf b y&&xc cf c z
 | .fA neg a,e=>kO e λx p y=>lC y λy r=>wy y λj=>u9 (p= [if neg then .IsNot else .Is]/\r= [])&&u9 (j= .none)&&xc cf a x
 | .neg a,e=>ml e λo x=>u9 (o= .USub)&&xc cf a x
 | .inv a,e=>ml e λo x=>u9 (o= .Invert)&&xc cf a x
 | .not a,e=>ml e λo x=>u9 (o= .Not)&&xc cf a x
 | .and a b,e=>n9 e λo x p=>lC x λx r=>lC r λy r=>u9 (o= .And)&&xc cf a x&&bif r.isEmpty then xc cf b y else xc cf b (.BoolOp .And (y::r) p)
 | .or a b,e=>n9 e λo x p=>lC x λx r=>lC r λy r=>u9 (o= .Or)&&xc cf a x&&bif r.isEmpty then xc cf b y else xc cf b (.BoolOp .Or (y::r) p)
 | .call f es,e=>qp e λg xs l _=>kZ l (b7 cf.sc f g&&cf.fns.contains f&&bW cf es xs)
 | .bi b es,e=>qp e λg xs l _=>kZ l (lC xs λx r=>b7 cf.sc (mx b) g&&mZ b&&bW cf es (x::r))
 | .bZ a t,e=>qp e λg xs l _=>kZ l (lC xs λx r=>lC r λy r=>kZ r (b7 cf.sc "isinstance" g&&b7 cf.sc (cV t) y&&decide (t≠ .au)&&wb x&&xc cf a x))
 | .ix a b,e=>ft e λx y=>qd y&&xc cf a x&&xc cf b y
 | .sl a lo hi,e=>ft e λx y=>lF y λl u z=>oS l λl=>oS u λu=>z.isNone&&xc cf a x&&xc cf lo l&&xc cf hi u
 | .fZ a lo,e=>ft e λx y=>lF y λl u z=>oS l λl=>u.isNone&&z.isNone&&xc cf a x&&xc cf lo l
 | .fb a hi,e=>ft e λx y=>lF y λl u z=>oS u λu=>l.isNone&&z.isNone&&xc cf a x&&xc cf hi u
 | .fg a,e=>ft e λx y=>lF y λl u z=>oS z λz=>l.isNone&&u.isNone&&lW z&&xc cf a x
 | .dW a,e=>qp e λg xs l _=>kZ l (lC xs λx r=>lC r λy r=>kZ r (b7 cf.sc "isinstance" g&&b7 cf.sc "list" y&&wb x&&xc cf a x))
 | .comp tg one k aB it k6 c elt,e=>pW e λy g scope=>lC g λg r=>
  u9 (g.is_async=0/\r= [])&&J8 cf scope (Jz cf g.target aB) k aB&&tg.all (λi=>u9 (i<k))&&zg { cf with sc:=scope,N:=Jz cf g.target aB } tg one g.target&&dU cf it g.iter&&xc { cf with sc:=scope,N:=Jz cf g.target aB } elt y&&
   bif k6 then(lC g.ifs λz r=>kZ r (f9 c&&xc { cf with sc:=scope,N:=Jz cf g.target aB } c z))else g.ifs.isEmpty
 | .c4,e=>nO e λx y=>x.isEmpty&&y.isEmpty
 | .eU i a,e=>ft e λg y=>Xy g λx=>vB cf i x&&qd y&&xc cf a y
 | .cP neg a i,e=>kO e λx p y=>lC y λy r=>Xy y λy=>u9 (p= [lV neg]/\r= [])&&vB cf i y&&xc cf a x
 | .fT k1 a k2 b k3 c i,e=>ft e λd y=>nO d λks vs=>Xy y λx=>lC ks λq1 ks=>lC ks λq2 ks=>lC ks λq3 ks=>kZ ks (lC vs λv1 vs=>lC vs λv2 vs=>lC vs λv3 vs=>kZ vs ((vB cf i x&&iO k1 q1&&iO k2 q2&&iO k3 q3)&&(decide [k1,k2,k3].Nodup&&xc cf a v1&&xc cf b v2&&xc cf c v3)))
 | .eA i,e=>qp e λg xs l _=>kZ l (lC xs λx r=>kZ r (b7 cf.sc "dict" g&&Xy x (vB cf i)))
 | .share a,e=>xc cf a e
 | .b4 a,e=>qp e λg xs l _=>kZ l (lC xs λx r=>kZ r (qp x λg2 xs l _=>kZ l (lC xs λx r=>kZ r (b7 cf.sc "list" g&&b7 cf.sc "range" g2&&wb x&&xc cf a x))))
 | .dM s ts,e=>qp e λg xs l q=>kZ l (lC xs λx r=>kZ r (XM g λo n p=>wy o λc=>wy x λc2=>decide (n=Jg "split")&&decide (c= .str (aK s))&&decide (c2= .str bT)&&(p.endLine==q.line)&&my (aK s) (ts.map aK)))
 | .dJ m a es,e=>qp e λg xs l q=>kZ l (lC xs λx r=>kZ r (XM g λo n p=>u9 (n=Jg (rg m))&&rY m&&(p.endLine==q.line)&&wS o&&xc cf a o&&bW cf es [x]))
 | .make c q es,e=>qp e λg ys l _=>kZ l (lC ys λx r=>b7 cf.sc c g&&cf.ob.e8.contains (c,q)&&bW cf es (x::r))
 | .aI a c f,e=>XM e λx n _=>u9 (n=Jg f)&&cf.ob.fl.contains (c,f)&&wS x&&xc cf a x
 | .bL a c m q es,e=>qp e λg ys l s=>kZ l (XM g λx n p=>u9 (n=Jg m)&&cf.ob.mt.contains (c,m,q)&&(p.endLine==s.line)&&u9 (ys.length<=20)&&wS x&&xc cf a x&&lC ys λy r=>bW cf es (y::r))
 | .fc a,e=>qp e λg ys l s=>kZ l (kZ ys (XM g λx n p=>u9 (n=Jg "bit_length")&&(p.endLine==s.line)&&wS x&&xc cf a x))
 | .fh f a,e=>qp e λg ys l _=>lC ys λx r=>kZ r (lC l λw r=>kZ r (u9 (w.arg=k0 (Jg "key"))&&b7 cf.sc f w.value&&cf.fns.contains f&&b7 cf.sc "min" g&&wb x&&xc cf a x))
noncomputable def bW (cf:Cf):M.Es->List Expr->Bool
 | .nil,xs=>xs.isEmpty
 | .cons e es,xs=>lC xs λx xs=>wb x&&xc cf e x&&bW cf es xs
noncomputable def dU (cf:Cf):M.It->Expr->Bool
 | .seq a,e=>Jh e&&xc cf a e
 | .aj a,e=>qp e λg xs l _=>kZ l (lC xs λx r=>kZ r (b7 cf.sc "range" g&&wb x&&xc cf a x))
 | .enum _,_=>k9
 | .cw _,_=>k9
end
def WE:Expr->Bool
 | .ListComp .. =>k9
 | .SetComp .. =>k9
 | .DictComp .. =>k9
 | _=>u0
def Jk:Expr->Bool
 | .Tuple .. =>k9
 | _=>u0
def JG (a:Cf) (i:Nat) (x:Str):Bool:=u9 (a.N[i]? =k0 x)&&iF a.sc x
def xX (b:Cf) (i:Nat) (m:Str) (e:Expr) (a:Pos):Bool:=XM e λx n p=>Xy x λx=>vB b i x&&u9 (n=m)&&(p.endLine==a.line)
def nz (b:Cf):M.It->Expr->Bool
 | .seq a,e=>Jh e&&xc b a e
 | .aj a,e=>dU b (.aj a) e
 | .cw a,e=>qp e λg xs l _=>kZ l (lC xs λx r=>kZ r (b7 b.sc "enumerate" g&&wb x&&xc b a x))
 | .enum a,e=>qp e λg xs l _=>kZ l (lC xs λx r=>kZ r (b7 b.sc "enumerate" g&&wb x&&xc b a x))
def og:M.It->Expr->Bool
 | .enum _,e=> !Jk e
 | .cw _,e=> !Jk e
 | _,_=>u0
def Ck:Expr->Bool
 | .Name _ _=>u0
 | .Subscript _ _ _=>u0
 | _=>k9
mutual
noncomputable def yy (cf:Cf):M.S->Stmt->Bool
 | .set i e,st=>gs st λts v=>lC ts λt r=>Xy t λx=>kZ r (JG cf i x&&xc cf e v)
 | .af i e,st=>gs st λts v=>lC ts λt r=>Xy t λx=>kZ r (JG cf i x&&xc cf e v)
 | .eE is e,st=>gs st λts v=>lC ts λt r=>mC t λts=>kZ r (zw cf is ts&&Jk v&&xc cf e v)
 | .fR o kx j e,st=>gs st λts v=>lC ts λt r=>kZ r (mC t λts=>lC ts λt1 r=>lC r λt2 r=>kZ r (ft t1 λx y=>Xy t2 λa=>qd y&&Jk v&&JG cf j a&&xc cf o x&&(xc cf kx y&&xc cf e v)))
 | .bQ o kx e,st=>gs st λts v=>lC ts λt r=>ft t λx y=>kZ r (qd y&&Jk v&&WE v&&xc cf o x&&xc cf kx y&&xc cf e v)
 | .app i e,st=>lz st λc=>qp c λf xs l p=>kZ l (lC xs λv r=>kZ r (xX cf i "append" f p&&wb v&&xc cf e v))
 | .ext i e,st=>lz st λc=>qp c λf xs l p=>kZ l (lC xs λv r=>kZ r (xX cf i "extend" f p&&wb v&&xc cf e v))
 | .bU i c f e,st=>gs st λts v=>lC ts λt r=>XM t λx n _=>Xy x λx=>kZ r (vB cf i x&&(u9 (n=Jg f)&&cf.ob.fl.contains (c,f)&&xc cf e v))
 | .cS i kx e,st=>gs st λts v=>lC ts λt r=>ft t λx y=>Xy x λx=>kZ r (vB cf i x&&qd y&&xc cf kx y&&xc cf e v)
 | .cv i kx e,st=>gs st λts v=>lC ts λt r=>ft t λx y=>Xy x λx=>kZ r (vB cf i x&&qd y&&xc cf kx y&&xc cf e v)
 | .ej a e,st=>lz st λc=>qp c λf xs l p=>kZ l (lC xs λv r=>kZ r (XM f λx n q=>u9 (n= "append")&&(q.endLine==p.line)&&wb v&&xc cf a x&&(xc cf e v&&Ck x)))
 | .ex e,st=>lz st λv=>WE v&&xc cf e v
 | .ret e,st=>tV st λv=>oS v λv=>xc cf e v
 | .iff c a b,st=>vV st λx ys zs=>f9 c&&xc cf c x&&cQ cf a ys&&cQ cf b zs
 | .iD _ c b,st=>vK st λx ys zs=>kZ zs (f9 c&&xc cf c x&&cQ cf b ys)
 | .for tg one it b,st=>uc st λt iter ys zs=>kZ zs (og it t&&zg cf tg one t&&nz cf it iter&&cQ cf b ys)
 | .bH i c f e,st=>gs st λts v=>lC ts λt r=>XM t λx n _=>Xy x λx=>kZ r (vB cf i x&&u9 (n=Jg f)&&cf.ob.fl.contains (c,f)&&xc cf e v)
 | .dI,_=>u0
noncomputable def cQ (cf:Cf):M.Ss->List Stmt->Bool
 | .nil,sts=>sts.isEmpty
 | .cons s ss,sts=>lC sts λst sts=>yy cf s st&&cQ cf ss sts
end
structure MA (X:Cx) (k:Nat) (x:Str) (ps:List Str) (sp:Sp):Prop where
 ex: ∃f fd,XG X.prog X.w X.K X.mg X.base (ef X.prog X.w) k f fd ps sp/\Binds X.K fd ps []/\Ah5 X.K (.ref f)=u0/\X.mg x=k0 (.ref f)
def mf:M.W->Bool
 | .own _=>k9
 | _=>u0
def gN (Y:Ge) (m:List M.W->M.AH->M.R M.W):Sp:=λb H Q E=> ∃G h a,ai Y G h H/\bj Y G H a b/\(∀ w∈a,mf w=u0)/\av Y E G H (m a h) Q
structure Go (Y:Ge) (F:M.Fx) (X:Cx) (E:XK) (k:Nat) (cf:Cf):Prop where
 N:X.N=cf.N
 K:X.K=Y.K
 cl:F.cl=Y.cl
 ow:cf.own=Y.own
 nd:cf.N.Nodup
 hB: ∀x,WV cf.sc x=u0->mM X.env.scope x
 tH: ∀x,cf.sc.names.lookup x=k0 .local->X.env.scope.names.lookup x=k0 .local
 iV: ∀x,iF cf.sc x=u0->ky X.env.scope x/\(X.fn x=u0\/X.env.scope.names.lookup x=k0 .local)
 mR: ∀x,(cf.sc.names.lookup x=k0 .cell\/cf.sc.names.lookup x=k0 .free)->X.env.kindOf x=k0 .cell\/X.env.kindOf x=k0 .free
 gl: ∀x,lh cf.sc x=u0->Gl X x
 calm:X.calm=u0
 room:bg k X.A
 d8:bg (k+1) X.A
 pass:wG (ef X.prog X.w) X E
 blt: ∀x,x∈cn->X.mg (Jg x)=y0
 con: ∀x d,F.con.lookup x=k0 d-> ∃u v,X.mg (Jg x)=k0 u/\RelV v u/\ ∀G H,aC Y G H d v
 fn: ∀f,cf.fns.contains f=u0-> ∃ps,MA X k (Jg f) ps (gN Y (F.call f))
 cls: ∀c,cf.own.contains c=u0->X.mg (Jg c)=k0 (.ref (Y.ca c))
 fld: ∀c f,cf.ob.fl.contains (c,f)=u0->d0 X.K (Y.ca c)/\b3 X.K (Y.ca c) (Jg f)
 kI: ∀c m q,cf.ob.mt.contains (c,m,q)=u0->d0 X.K (Y.ca c)/\ ∃fa fd ps,l3 X.K (Y.ca c) (Jg m) fa/\XG X.prog X.w X.K X.mg X.base (ef X.prog X.w) k fa fd ps (gN Y (F.call q))/\Binds X.K fd ps []
 e8: ∀c q,cf.ob.e8.contains (c,q)=u0->X.mg (Jg c)=k0 (.ref (Y.ca c))/\ ∃fa fd ps,Mk X.K (Y.ca c) fa/\XG X.prog X.w X.K X.mg X.base (ef X.prog X.w) k fa fd ps (gN Y (F.call q))/\Binds X.K fd ps []
@[elab_as_elim] theorem kE {P:List α->Prop}(k:b=u0->P []): ∀l,kZ l b=u0->P l:=by rintro (_|_)<;>first | exact cc | exact k
def a2 (h:(a&&b)=u0):a=u0/\b=true:=Bool.and_eq_true_iff.mp h
def a3 (h:(a&&b&&c)=u0):a=u0/\b=u0/\c=true:=⟨(a2 (a2 h).1).1,(a2 (a2 h).1).2,(a2 h).2⟩
def a4 (h:(a&&b&&c&&d)=u0):a=u0/\b=u0/\c=u0/\d=true:=⟨(a3 (a2 h).1).1,(a3 (a2 h).1).2.1,(a3 (a2 h).1).2.2,(a2 h).2⟩
def a5 (h:(a&&b&&c&&d&&e)=u0):a=u0/\b=u0/\c=u0/\d=u0/\e=true:=⟨(a2 (a4 h).1).1,(a2 (a4 h).1).2,(a4 h).2⟩
def a6 (h:(a&&b&&c&&d&&e&&f)=u0):a=u0/\b=u0/\c=u0/\d=u0/\e=u0/\f=true:=⟨(a2 (a5 h).1).1,(a2 (a5 h).1).2,(a5 h).2⟩
def a7 (h:(a&&b&&c&&d&&e&&f&&g)=u0):a=u0/\b=u0/\c=u0/\d=u0/\e=u0/\f=u0/\g=true:=⟨(a2 (a6 h).1).1,(a2 (a6 h).1).2,(a6 h).2⟩
def nn (h:o.isNone=u0):o=none:=Aj6.mp h
def fK (h:vB cf i x=u0):cf.N[i]? =k0 x/\WV cf.sc x=u0/\bh x=true:=⟨of_decide_eq_true (a3 h).1,(a3 h).2⟩
def Zc (h:b7 sc x e=true): ∃p,e= .Name (Jg x) p/\lh sc (Jg x)=true/\(Jg x==("__debug__" :Str))=false:=by
 unfold b7 at h
 rw [Aa1,Aa1]at h
 obtain⟨⟨b,c⟩,a⟩:=h
 unfold bh at a
 rw [Aa1]at a
 cases e with
 | Name y p=>
  have:y=Jg x:=by simpa [oG]using b
  subst this
  exact⟨p,rfl,c,by simpa using a.1⟩
 | _=>simp [oG]at b
def Xp (h:x∈cn):Jg x≠("__name__" :Str):=by
 have:(cn.all λx=>decide (Jg x≠ "__name__"))=true:=by decide +kernel
 exact of_decide_eq_true (Ai6.mp this x h)
section
variable {Y:Ge}{F:M.Fx}{X:Cx}{E:XK}{k:Nat}{cf:Cf}
section
variable {G:Gh}{H:Hp}{h:M.AH}{τ:M.Sl}{U:St}{Q:VK}
def ax.val (p:ax Y E G0 H0 (.ok w h) λw _ G' H'=> ∀v,ak Y G' H' w v->aJ τ U H0 w v->Q v H') (e:Ext G0 H0 G H) (a:ai Y G h H) (z:ak Y G H w v) (f:aJ τ U H0 w v):Q v H:=
 p G H e a v z f
end
def BI (c:Go Y F X E k cf)(y:cf.N[i]? =k0 x) (j:WV cf.sc x=u0) (b:bh x=u0):PE X (.Name x pos) (tD Y E (M.eval F (.var i))):=by
 unfold bh at b
 rw [Aa1]at b
 refine PE.imp (XI (by rw [c.N];exact y) (c.hB x j) (by simpa using b.1) (by simpa using b.2)) λU H Q m=> ?_
 obtain⟨G,g,h,s,p⟩:=m
 rw [M.eval]at p
 cases q:M.Gn g i with
 | none=>simp [M.Gi,q]at p;exact p.elim
 | some w=>
  obtain⟨v,e,r⟩:=s.slot i w q
  refine⟨v,e,?_⟩
  cases w with
  | v d=>
   rw [M.Ks q]at p
   exact ax.val p Ext.refl s.heap r trivial
  | own f=>
   rw [M.Ka q]at p
   obtain⟨a,o,n,z,t,l,u⟩:=r
   exact ax.val p Ext.refl s.heap ⟨a,o,n,t,.inl l,u⟩ ⟨i,_,q,rfl,e⟩
  | bor f=>
   rw [M.Kg q]at p
   exact ax.val p Ext.refl s.heap r ⟨i,_,q,rfl,e⟩
def Ic (b:Go Y F X E k cf)(j:b7 cf.sc c e=u0):PE X e (tD Y E (M.eval F (.con c))):=by
 obtain⟨p,rfl,o,n⟩:=Zc j
 cases q:F.con.lookup c with
 | none=>
  intro f s U H Q I ⟨G,l,h,g,a⟩
  rw [M.eval,q]at a
  exact a.elim
 | some d=>
  obtain⟨u,v,i,rv,rd⟩:=b.con c d q
  refine PE.imp (tU (b.gl _ o) i rv n) λU H Q m=> ?_
  obtain⟨G,l,h,g,a⟩:=m
  rw [M.eval,q]at a
  exact ax.val a Ext.refl g.heap (rd G H) trivial
def Dh :PE X (.Constant (.int i) j pos) (tD Y E (M.eval F (.int i))):=PE.imp yV λU H Q ⟨G,a,h,s,p⟩=>ax.val p Ext.refl s.heap rfl trivial
def HA :PE X (.Constant (.bool i) j pos) (tD Y E (M.eval F (.bl i))):=PE.imp FR λU H Q ⟨G,a,h,s,p⟩=>ax.val p Ext.refl s.heap rfl trivial
def LO :PE X (.Constant .none j pos) (tD Y E (M.eval F .au)):=PE.imp LZ λU H Q ⟨G,a,h,s,p⟩=>ax.val p Ext.refl s.heap rfl trivial
def Mi :PE X (.Constant (.str (aK i)) j pos) (tD Y E (M.eval F (.str i))):=PE.imp nX λU H Q ⟨G,a,h,s,p⟩=>ax.val p Ext.refl s.heap rfl trivial
section
variable {a b c:M.E}{x y z:Expr}{pos:Pos}
def MJ (g:Go Y F X E k cf)(l:mw o=u0) (q:PE X x (tD Y E (M.eval F a))) (r:PE X y (tD Y E (M.eval F b))):PE X (.BinOp x (l1 o) y pos) (tD Y E (M.eval F (.bin o a b))):=by
 refine PE.imp (AB (C0 (E:=E) o l g.K) q r) λU H Q i=> ?_
 obtain⟨G,A,h,s,p⟩:=i
 exact Wa s.heap Ext.refl s p λe v1 I B D e1 n d m K u=> Wa s.heap e1 d u λj v2 w t C e2 c f z J v=> ⟨t,w,e,j,f.heap,m.ext c d.heap,z,av.mk v e2 s.heap⟩
theorem oR (b: ∀c y,RV hp c y->ee y=M.cy c d): ∀ {ys}{i},cg hp ys i->i.any ee=M.inD d ys
 | [],_,rfl=>rfl
 | c::ys,_,⟨u,r,rfl,f,e⟩=>by
  have a:=oR b e
  unfold M.inD at a ⊢
  rw [Ag9,Ag9,a,b c u f]
def oM (f:bg k X.A)(r:M.GG ys<140) (o:RV s.heap d v) (m:cg s.heap ys its): ∃i:Value->Bool,(∀ c y,RV s.heap c y->i y=M.cy c d)/\ ∀y,y∈its.toArray->SeqAt.EqAt X.A.in1 s y v (i y):=by
 have e: ∃i:Value->Bool,∀c y,RV s.heap c y->i y=M.cy c d:=⟨λy=> @u9 (∃ a,RV s.heap a y/\M.cy a d=u0) (Am1 _),λc y z=>by
  cases q:M.cy c d with
  | true=>exact @decide_eq_true _ (Am1 _) ⟨c,z,q⟩
  | false=>exact @decide_eq_false _ (Am1 _) λ⟨d,n,g⟩=>by rw [RV.inj n z,q]at g;cases g⟩
 obtain⟨i,h⟩:=e
 refine⟨i,h,λy l=> ?_⟩
 obtain⟨j,p⟩:=List.getElem?_of_mem (List.mem_toArray.mp l)
 obtain⟨a,b,rd⟩:=m.get p
 rw [h a y rd]
 exact(pJ 140 a _ X.A.in1 y v (by have:=XH b;lia) (by have:=f.un;lia) rd o).eq
def uN (w:X.K=Y.K)(j:bg k X.A) (neg:Bool){x y:V}(I:Inv X pins U H s) (E:RelV x v) (F:RelV y u){b:Bool}(z:ai Y G h H)
 (C:ak Y G H w1 x) (B:ak Y G H w2 y) (e:M.Kd w1 w2 h=k0 b) (q:Q (.bl (if neg then !b else b)) H):wpAny (model X.prog X.w) X.A (compareOp (if neg then .NotIn else .In) v u) (EP X pins U Q) X.xe s:=by
 unfold M.Kd at e
 split at e
 .rename_i t e2
  split at e
  .rename_i c
   cases e
   have i:=by simpa using c
   have A:=C.rv I w z E i.1.1
   have o:=B.rv I w z F
   cases p:w2.dd h with
   | lst D=>
    rw [p]at e2 o
    cases e2
    obtain⟨a,d,rfl,n,l⟩:=o i.1.2
    obtain⟨f,r,g⟩:=oM j i.2 A l
    have m:d.toArray.any f=M.inD (w1.dd h) t:=by rw [List.any_toArray];exact oR r l
    cases neg with
    | true=>exact SeqAt.notIn_listAt f n g ⟨.bl _,H,I,rfl,by rw [m];exact q⟩
    | false=>exact SeqAt.in_listAt f n g ⟨.bl _,H,I,rfl,by rw [m];exact q⟩
   | tup D=>
    rw [p]at e2 o
    cases e2
    obtain⟨a,d,rfl,n,l⟩:=o i.1.2
    obtain⟨f,r,g⟩:=oM j i.2 A l
    have m:d.toArray.any f=M.inD (w1.dd h) t:=by rw [List.any_toArray];exact oR r l
    cases neg with
    | true=>exact SeqAt.notIn_tupleAt f n g ⟨.bl _,H,I,rfl,by rw [m];exact q⟩
    | false=>exact SeqAt.in_tupleAt f n g ⟨.bl _,H,I,rfl,by rw [m];exact q⟩
   | _=>rw [p]at e2;cases e2
  .cases e
 .cases e
def jO (r:Go Y F X E k cf) (o) (C:zN o=u0):b0 X (compareOp (fm o)) (iu Y o):=by
 have g: ∀ {o},(∀ a d h b,M.Gq o a d h=k0 b-> ∃i j,M.W.int? a=k0 i/\M.W.int? d=k0 j/\M.Ky o i j=k0 b)->b0 X (compareOp (fm o)) (iu Y o):=by
  intro o B f s U H x y v u Q I n p ⟨G,h,a,d,b,w,m,l,e,q⟩
  obtain⟨i,j,e1,e2,A⟩:=B a d h b e
  cases m.int e1
  cases l.int e2
  exact FK A I n p q
 have mk: ∀ {o}{a d}{h:M.AH}{b},(match M.W.int? a,M.W.int? d with
  | some i,k0 j=>M.Ky o i j
  | _,_=>y0)=k0 b-> ∃i j,M.W.int? a=k0 i/\M.W.int? d=k0 j/\M.Ky o i j=k0 b:=by
  intro o a d h b e
  split at e
  .rename_i i j e1 e2;exact⟨i,j,e1,e2,e⟩
  .cases e
 cases o with
 | eq=>exact Hn r.K r.room
 | ne=>exact E6 r.K r.room
 | lt=>exact g λa d h b e=>mk (h:=h) e
 | le=>exact g λa d h b e=>mk (h:=h) e
 | gt=>exact g λa d h b e=>mk (h:=h) e
 | ge=>exact g λa d h b e=>mk (h:=h) e
 | mem=>
  intro f s U H x y v u Q I n p ⟨G,h,a,d,b,w,m,l,e,q⟩
  exact uN r.K r.room k9 I n p w m l e q
 | e6=>
  intro f s U H x y v u Q I n p ⟨G,h,a,d,b,w,m,l,e,q⟩
  have e:(M.Kd a d h).map (!·)=k0 b:=e
  cases e2:M.Kd a d h with
  | none=>rw [e2]at e;cases e
  | some c=>
   rw [e2]at e
   cases e
   exact uN r.K r.room u0 I n p w m l e2 q
 | c6=>
  intro f s U H x y v u Q I n p ⟨G,h,a,d,b,w,m,l,e,q⟩
  have e:M.Kq a d=k0 b:=e
  unfold M.Kq at e
  split at e
  .cases e
   cases m
   cases l
   cases n
   obtain⟨t,rfl⟩:=p
   exact wpAny_is_plain rfl (mP I q rfl)
  .cases e
   cases m
   cases l
   obtain⟨t,rfl⟩:=n
   obtain⟨z,rfl⟩:=p
   exact PyProof.Rows.is_bool (mP I q rfl)
  .cases e
 | iJ=>
  intro f s U H x y v u Q I n p ⟨G,h,a,d,b,w,m,l,e,q⟩
  have e:(M.Kq a d).map (!·)=k0 b:=e
  unfold M.Kq at e
  split at e
  .cases e
   cases m
   cases l
   cases n
   obtain⟨t,rfl⟩:=p
   exact wpAny_isNot_plain rfl (mP I q rfl)
  .cases e
   cases m
   cases l
   obtain⟨t,rfl⟩:=n
   obtain⟨z,rfl⟩:=p
   exact PyProof.Rows.isnot_bool (mP I q rfl)
  .cases e
def Jr (h:Jh e=u0):behindInMarks o e=false:=by
 cases e<;>first | rfl | (simp [Jh]at h)
def tq (v:Go Y F X E k cf)(s:aq Y G τ h U H)
 (p:ax Y E G H ((M.eval F a τ h).bind λx h=>(M.eval F b τ h).bind λy h=>(M.R.of h (M.Gq o x y h)).bind λc h=> .ok c h) λc _ _ H'=>R (.bl c) H'):
 lH (iu Y o) (tD Y E (M.eval F a)) (tD Y E (M.eval F b)) U H R:=by
 refine Wa s.heap Ext.refl s p λi v1 B w A e1 n g m D t=> Wa s.heap e1 g t λl v2 u r z e2 d f j C e=> ?_
 obtain⟨c,q,e⟩:=e.of
 exact⟨r,u,i,l,c,f.heap,m.ext d g.heap,j,q,e.at e2 f.heap⟩
def ax.map {f:α->β}(p:ax Y E G H (r.bind λa h=> .ok (f a) h) P):ax Y E G H r λa h G' H'=>P (f a) h G' H':=by
 cases r with
 | ok a h=>exact p
 | fail=>exact p
def xi (r:M.R α) (f) (g:β->M.AH->M.R γ):(r.bind f).bind g=r.bind λa h=>(f a h).bind g:=by cases r<;>rfl
def Ij (j:Go Y F X E k cf)(n:zN o=u0) (m:Jh y=u0) (r:PE X x (tD Y E (M.eval F a))) (t:PE X y (tD Y E (M.eval F b))):PE X (.Compare x [fm o] [y] pos) (tD Y E (M.eval F (.cmp o a b))):=by
 refine PE.imp (yZ (jO j o n) r t (Jr m)) λU H Q l=> ?_
 obtain⟨G,d,h,s,p⟩:=l
 rw [M.eval]at p
 refine tq j s ?_
 have z:ax Y E G H (((M.eval F a d h).bind λx h=>(M.eval F b d h).bind λy h=>(M.R.of h (M.Gq o x y h)).bind λc h=> .ok c h).bind λc h=> .ok (M.W.v (.bl c)) h) λw _ i f=> ∀v,ak Y i f w v->aJ d U H w v->Q v f:=by
  simpa only [xi,M.R.ae]using p
 have g:=z.map
 cases q:(M.eval F a d h).bind λx h=>(M.eval F b d h).bind λy h=>(M.R.of h _).bind λc h=> .ok c h with
 | ok c A=>rw [q]at g;exact λi f e u=>g i f e u _ rfl trivial
 | fail=>rw [q]at g;exact g
def DF (f:Go Y F X E k cf)(l:zN o=u0) (j:Jh y=u0) (r:PE X x (tD Y E (M.eval F a))) (t:PE X y (tD Y E (M.eval F b))):PT X (.Compare x [fm o] [y] pos) (cT Y E (M.Gm F (.cmp o a b))):=by
 refine PT.imp (tS (jO f o l) r t (Jr j)) λU H Q i=> ?_
 obtain⟨G,g,h,s,p⟩:=i
 unfold M.Gm at p
 rw [M.eval]at p
 refine tq f s ?_
 have d:=by
  simpa only [xi,M.R.ae,M.GT,M.R.ao]using p
 cases q:(M.eval F a g h).bind λx h=>(M.eval F b g h).bind λy h=>(M.R.of h _).bind λc h=> .ok c h with
 | ok c v=>rw [q]at d;exact λn m e u=>⟨c,rfl,d n m e u⟩
 | fail=>rw [q]at d;exact d
end
end
section
variable {Y:Ge}{F:M.Fx}{X:Cx}{E:XK}{k:Nat}{cf:Cf}{a b c:M.E}{x y z:Expr}{pos:Pos}
def WG (r:M.R α):(r.bind λw h=> .ok w h)=r:=by cases r<;>rfl
def AV (e:Go Y F X E k cf) (o:PE X x (tD Y E (M.eval F a))) (r: ∀i,isTrue x X.env i=(do let v ←i;standAt x.pos;holding [v] (truthy v))):PT X x (cT Y E (M.Gm F a)):=by
 refine PT.imp (F4 o r) λU H Q g=> ?_
 obtain⟨G,u,h,s,p⟩:=g
 refine Wa s.heap Ext.refl s p λd v1 m f j e1 n c l w b=> ?_
 cases q:M.G8 m d with
 | none=>rw [q]at b;exact b.elim
 | some t=>
  rw [q]at b
  exact⟨t,l6 e.K c.heap l q,b f j e1 c.heap⟩
def KG (j:PE X x ta):PE X (.UnaryOp .Not x pos) (λU H Q=>ta U H λv H1=> ∃t,iY X.K v H1 t/\Q (.bl (!t)) H1):=by
 intro a s U H Q I h
 exact UnaryOp_ (aO (j a s U H _ I h) λv l ⟨x,H1,k,f,t,d,i⟩=> not_of (aO (mz a l U H1 x v (λc g=>Q (.bl (!c)) g) k f ⟨t,d,i⟩) λc m ⟨b,e,q⟩=>⟨.bl (!c),b,e,rfl,q⟩))
def Hm (d:Go Y F X E k cf) (i:PE X x (tD Y E (M.eval F a))):PE X (.UnaryOp .Not x pos) (tD Y E (M.eval F (.not a))):=by
 refine PE.imp (KG i) λU H Q e=> ?_
 obtain⟨G,l,h,s,p⟩:=e
 refine Wa s.heap Ext.refl s p λj v1 o m n e1 g c f r b=> ?_
 obtain⟨t,q,b⟩:=b.of
 exact⟨t,l6 d.K c.heap f q,ax.val b e1 c.heap rfl trivial⟩
def IU (g:PT X x (cT Y E (M.Gm F a))):PT X (.UnaryOp .Not x pos) (cT Y E (M.Gm F (.not a))):=by
 refine PT.imp (MT g) λU H Q f=> ?_
 obtain⟨G,c,h,s,p⟩:=f
 unfold M.Gm at p
 rw [M.eval]at p
 have e:ax Y E G H ((M.Gm F a c h).bind λt h=> .ok (!t) h) λb _ _ d=>Q b d:=by
  unfold M.Gm
  simpa only [xi,M.R.ae,M.GT,M.R.ao]using p
 exact⟨G,c,h,s,e.map⟩
def AE {Jp:List Expr}(l:PE X x ta) (m:PE X (.BoolOp .And (y::Jp) pos) tb):PE X (.BoolOp .And (x::y::Jp) pos) (λU H Q=>ta U H λv H1=> ∃t,iY X.K v H1 t/\if t=u0 then tb U H1 Q else Q v H1):=by
 intro a s U H Q I h
 refine BoolOp_and (aO (l a s U H _ I h) λv o ⟨x,H1,n,e,t,i,k⟩=> aO (mz a o U H1 x v (λc f=>if c=u0 then tb U f Q else Q x f) n e ⟨t,i,k⟩) λc g j=> ?_)
 obtain⟨b,d,q⟩:=j
 cases c with
 | true=>exact m a g U b Q d q
 | false=>exact⟨x,b,d,e,q⟩
def DL {Jp:List Expr}(l:PE X x ta) (m:PE X (.BoolOp .Or (y::Jp) pos) tb):PE X (.BoolOp .Or (x::y::Jp) pos) (λU H Q=>ta U H λv H1=> ∃t,iY X.K v H1 t/\if t=u0 then Q v H1 else tb U H1 Q):=by
 intro a s U H Q I h
 refine BoolOp_or (aO (l a s U H _ I h) λv o ⟨x,H1,n,e,t,i,k⟩=> aO (mz a o U H1 x v (λc f=>if c=u0 then Q x f else tb U f Q) n e ⟨t,i,k⟩) λc g j=> ?_)
 obtain⟨b,d,q⟩:=j
 cases c with
 | false=>exact m a g U b Q d q
 | true=>exact⟨x,b,d,e,q⟩
def yB (i:Go Y F X E k cf){Jp:List Expr}(n:PE X x (tD Y E (M.eval F a))) (o:PE X (.BoolOp .And (y::Jp) pos) (tD Y E (M.eval F b))):PE X (.BoolOp .And (x::y::Jp) pos) (tD Y E (M.eval F (.and a b))):=by
 refine PE.imp (AE n o) λU H Q j=> ?_
 obtain⟨G,z,h,s,p⟩:=j
 refine Wa s.heap Ext.refl s p λw v1 I A C e1 m d e u c=> ?_
 obtain⟨t,q,c⟩:=c.of
 refine⟨t,l6 i.K d.heap e q,?_⟩
 cases t with
 | true=>
  exact Wa s.heap e1 d (by rw [WG];exact c) λD v2 K J B e2 f g v l r=>ax.val r e2 g.heap v (l.back e1 s.heap)
 | false=>
  exact ax.val c e1 d.heap e u
def tP (i:Go Y F X E k cf){Jp:List Expr}(n:PE X x (tD Y E (M.eval F a))) (o:PE X (.BoolOp .Or (y::Jp) pos) (tD Y E (M.eval F b))):PE X (.BoolOp .Or (x::y::Jp) pos) (tD Y E (M.eval F (.or a b))):=by
 refine PE.imp (DL n o) λU H Q j=> ?_
 obtain⟨G,z,h,s,p⟩:=j
 refine Wa s.heap Ext.refl s p λw v1 I A C e1 m d e u c=> ?_
 obtain⟨t,q,c⟩:=c.of
 refine⟨t,l6 i.K d.heap e q,?_⟩
 cases t with
 | false=>
  exact Wa s.heap e1 d (by rw [WG];exact c) λD v2 K J B e2 f g v l r=>ax.val r e2 g.heap v (l.back e1 s.heap)
 | true=>
  exact ax.val c e1 d.heap e u
def B3 :M.Gm F (.and a b) τ h=(M.Gm F a τ h).bind λt h=>match t with
 | true=>M.Gm F b τ h
 | false=> .ok k9 h:=by
 unfold M.Gm
 rw [M.eval]
 simp only [xi]
 congr 1
 funext w h1
 cases q:M.G8 h1 w with
 | none=>rfl
 | some t=>
  cases t with
  | true=>rfl
  | false=>simp [q]
def CS :M.Gm F (.or a b) τ h=(M.Gm F a τ h).bind λt h=>match t with
 | true=> .ok u0 h
 | false=>M.Gm F b τ h:=by
 unfold M.Gm
 rw [M.eval]
 simp only [xi]
 congr 1
 funext w h1
 cases q:M.G8 h1 w with
 | none=>rfl
 | some t=>
  cases t with
  | false=>rfl
  | true=>simp [q]
def u4 {Jp:List Expr}(o:PT X x (cT Y E (M.Gm F a))) (r:PW X (.BoolOp .And (y::Jp) pos) (cT Y E (M.Gm F b))):PW X (.BoolOp .And (x::y::Jp) pos) (cT Y E (M.Gm F (.and a b))):=by
 intro k c q U H Q I ⟨G,z,h,s,p⟩
 refine EZ o r k c q U H Q I ?_
 rw [B3]at p
 refine QU s.heap Ext.refl s p λt B j m e1 n e d=> ?_
 cases t with
 | true=>
  exact QU s.heap e1 e (f:=λw h=> .ok w h) (by rw [WG];exact d) λA C u l e2 g i v=>v u l e2 i.heap
 | false=>
  exact d j m e1 e.heap
def yn {Jp:List Expr}(o:PT X x (cT Y E (M.Gm F a))) (r:PW X (.BoolOp .Or (y::Jp) pos) (cT Y E (M.Gm F b))):PW X (.BoolOp .Or (x::y::Jp) pos) (cT Y E (M.Gm F (.or a b))):=by
 intro k c q U H Q I ⟨G,z,h,s,p⟩
 refine LN o r k c q U H Q I ?_
 rw [CS]at p
 refine QU s.heap Ext.refl s p λt B j m e1 n e d=> ?_
 cases t with
 | false=>
  exact QU s.heap e1 e (f:=λw h=> .ok w h) (by rw [WG];exact d) λA C u l e2 g i v=>v u l e2 i.heap
 | true=>
  exact d j m e1 e.heap
def Fy (f:PE X x (tD Y E (M.eval F a))):PE X (.UnaryOp .USub x pos) (tD Y E (M.eval F (.neg a))):=by
 refine PE.imp (oq p7 f) λU H Q c=> ?_
 obtain⟨G,j,h,s,p⟩:=c
 refine Wa s.heap Ext.refl s p λi v1 m k l e1 e g d n b=> ?_
 obtain⟨t,q,b⟩:=b.of
 exact⟨t,d.int q,ax.val b e1 g.heap rfl trivial⟩
def Du (g:PE X x (tD Y E (M.eval F a))):PE X (.UnaryOp .Invert x pos) (tD Y E (M.eval F (.inv a))):=by
 refine PE.imp (oq ET g) λU H Q c=> ?_
 obtain⟨G,k,h,s,p⟩:=c
 refine Wa s.heap Ext.refl s p λj v1 n l m e1 f i d o b=> ?_
 obtain⟨t,q,b⟩:=b.of
 refine⟨t,d.int q,?_⟩
 have e:Builtin.bitNot t= -t-1:=by unfold Builtin.bitNot;lia
 exact ax.val b e1 i.heap rfl trivial
def sx (r:ak Y G H w v):(v= .au)↔w= .v .au:=by
 constructor
 .intro e
  subst e
  cases w with
  | v d=>
   cases d with
   | au=>rfl
   | bl _=>cases (r)
   | int _=>cases (r)
   | str _=>cases (r)
   | tup _=>obtain⟨_,_,e,_⟩:=r;cases e
   | lst _=>obtain⟨_,_,e,_⟩:=r;cases e
   | ref _=>obtain⟨_,e⟩:=r;cases e
  | own _=>obtain⟨_,_,e,_⟩:=r;cases e
  | bor _=>obtain⟨_,_,e,_⟩:=r;cases e
 .intro e
  subst e
  exact r
def pz (neg:Bool):M.W->Bool
 | .v .au=> !neg
 | _=>neg
def rN :M.eval F (.fA neg a) τ h=(M.eval F a τ h).bind λw h=>M.ag (.bl (pz neg w)) h:=by
 rw [M.eval]
 congr 1
 funext w h1
 cases w with
 | v d=>cases d<;>rfl
 | own _=>rfl
 | bor _=>rfl
def ue (r:ak Y G H w v) (neg:Bool):(if neg then !u9 (v= .au)else u9 (v= .au))=pz neg w:=by
 by_cases a:v= .au
 .have b:=(sx r).mp a
  subst b a
  cases neg<;>rfl
 .have b:=λe=>a ((sx r).mpr e)
  rw [(decide_eq_false a)]
  have e2:pz neg w=neg:=by
   cases w with
   | v d=>cases d<;>first | rfl | exact absurd rfl b
   | own _=>rfl
   | bor _=>rfl
  rw [e2]
  cases neg<;>rfl
def Lp (d:PE X x (tD Y E (M.eval F a))):PE X (.Compare x [if neg then .IsNot else .Is] [.Constant .none j pos'] pos) (tD Y E (M.eval F (.fA neg a))):=by
 have b: ∀U H Q,tD Y E (M.eval F (.fA neg a)) U H Q->tD Y E _ U H λv c=>Q (.bl (if neg then !u9 (v= .au)else decide _)) c:=λU H Q e=>by
  obtain⟨G,m,h,s,p⟩:=e
  rw [rN]at p
  refine Wa s.heap Ext.refl s p λl v1 o n c e1 g k f q i=> ?_
  rw [ue f neg]
  exact ax.val i e1 k.heap rfl trivial
 cases neg with
 | true=>exact PE.imp (rz (pU d)) b
 | false=>exact PE.imp (rz (y4 d)) b
def D9 (i:PE X x (tD Y E (M.eval F a))):PT X (.Compare x [if neg then .IsNot else .Is] [.Constant .none j pos'] pos) (cT Y E (M.Gm F (.fA neg a))):=by
 have g: ∀U H Q,cT Y E (M.Gm F (.fA neg a)) U H Q->tD Y E _ U H λv b=>Q (if neg then !u9 (v= .au)else decide _) b:=λU H Q l=>by
  obtain⟨G,d,h,s,p⟩:=l
  unfold M.Gm at p
  rw [rN,xi]at p
  refine Wa s.heap Ext.refl s p λB v1 D k b e1 u A m I z=> ?_
  rw [ue m neg]
  exact z k b e1 A.heap
 have fin: ∀U H Q,cT Y E _ U H Q->tD Y E (M.eval F a) U H λv b=> ∃c,V.bl _= .bl c/\Q c b:=λU H Q t=>by
  obtain⟨G,d,h,s,p⟩:=g U H Q t
  refine⟨G,d,h,s,?_⟩
  cases q:M.eval F a d h with
  | ok w C=>rw [q]at p;exact λo n e y v r f=>⟨_,rfl,p o n e y v r f⟩
  | fail=>rw [q]at p;exact p
 cases neg with
 | true=>exact PT.imp (tf (pU i)) fin
 | false=>exact PT.imp (tf (y4 i)) fin
def vL (h:Jh e'=u0):lastMarks [o,o'] [e,e']=false:=Jr h
def um (J:Go Y F X E k cf)(s:aq Y G τ h U H)
 (q: ∀b h' G' H',P (.v (.bl b)) h' G' H'->R (.bl b) H') (p:ax Y E G H (M.eval F (.chain o o' a b c) τ h) P):
 nQ (iu Y o) (iu Y o') (tD Y E (M.eval F a)) (tD Y E (M.eval F b)) (tD Y E (M.eval F c)) U H R:=by
 refine Wa s.heap Ext.refl s p λu v1 Q K O e1 A n x V D=> Wa s.heap e1 n D λl v2 I C L e2 f d r S e=> ?_
 obtain⟨t,i,e⟩:=e.of
 refine⟨C,I,u,l,t,d.heap,x.ext f n.heap,r,i,t,rfl,?_⟩
 cases t with
 | true=>
  refine Wa s.heap e2 d e λv v3 y w N z g m B T j=> ?_
  obtain⟨t,i,j⟩:=j.of
  exact⟨w,y,l,v,t,m.heap,r.ext g d.heap,B,i,q _ _ _ _ (j.at z m.heap)⟩
 | false=>
  exact q _ _ _ _ (e.at e2 d.heap)
def FJ (d:Go Y F X E k cf)(f:zN o=u0) (e:zN o'=u0) (g:Jh z=u0) (j:PE X x (tD Y E (M.eval F a))) (l:PE X y (tD Y E (M.eval F b))) (i:PE X z (tD Y E (M.eval F c))):
 PE X (.Compare x [fm o,fm o'] [y,z] pos) (tD Y E (M.eval F (.chain o o' a b c))):=
 PE.imp (AK (jO d o f) (jO d o' e) j l i (vL g)) λU H Q ⟨G,n,h,s,p⟩=>um d s (λb m t r q=>q _ rfl trivial) p
def AQ (f:Go Y F X E k cf)(r:zN o=u0) (g:zN o'=u0) (t:Jh z=u0) (v:PE X x (tD Y E (M.eval F a))) (A:PE X y (tD Y E (M.eval F b))) (u:PE X z (tD Y E (M.eval F c))):
 PT X (.Compare x [fm o,fm o'] [y,z] pos) (cT Y E (M.Gm F (.chain o o' a b c))):=by
 refine PT.imp (HC (jO f o r) (jO f o' g) v A u (vL t)) λU H Q n=> ?_
 obtain⟨G,l,h,s,p⟩:=n
 refine um f s (P:=λw _ _ d=> ∀b,w= .v (.bl b)->Q b d) (λb j i d q=>⟨b,rfl,q b rfl⟩) ?_
 unfold M.Gm at p
 cases q:M.eval F _ l h with
 | ok w j=>rw [q]at p;exact λi d e B b m=>by subst m;exact p i d e B
 | fail=>rw [q]at p;exact p
end
def jb (h:wb e=u0):starEach (e::es) env=(k9,eval e env)::starEach es env:=by
 cases e<;>first | rfl | (simp [wb]at h)
def Ws (h: ∀e∈es,wb e=u0):(backTo pos (starEach es env)).any (·.1)=false:=by
 induction es with
 | nil=>rfl
 | cons e r b=>
  rw [jb (h e Aa5)]
  show(k9||(backTo pos _).any _)=k9
  rw [b λc a=>h c (Aa2 _ a)]
  rfl
section
variable {Y:Ge}{F:M.Fx}{X:Cx}{E:XK}{k:Nat}{cf:Cf}{a b c:M.E}{x y z:Expr}{pos:Pos}{es:M.Es}{xs:List Expr}
def Ik:PA X [] (iW Y E (M.Gx F .nil)):=PA.imp Wn λU H Q ⟨G,a,h,s,p⟩=>p G H Ext.refl s.heap [] rfl
def K8 (v:wb x=u0) (t:PE X x (tD Y E (M.eval F a))) (u:PA X xs (iW Y E (M.Gx F es))):PA X (x::xs) (iW Y E (M.Gx F (.cons a es))):=by
 refine PA.imp (Xf t u (jb v)) λU H Q j=> ?_
 obtain⟨G,A,h,s,p⟩:=j
 refine Wa s.heap Ext.refl s p λz v1 I B C e1 m w k y c=> ?_
 obtain⟨d,q,c⟩:=c.of
 obtain⟨K,e2,e,rd,_⟩:=om e1 w s k y q
 exact j9 s.heap e2 e c λJ f D g i l b r n o=> o g i l r.heap (v1::f) ⟨v1,f,rfl,rd.ext b e.heap,n⟩
def Fw:PA X [] (fP Y E (M.Gf F .nil)):=PA.imp Wn λU H Q ⟨G,a,h,s,p⟩=>p G H Ext.refl s.heap [] rfl
def EM (r:wb x=u0) (o:PE X x (tD Y E (M.eval F a))) (q:PA X xs (fP Y E (M.Gf F es))):PA X (x::xs) (fP Y E (M.Gf F (.cons a es))):=by
 refine PA.imp (Xf o q (jb r)) λU H Q g=> ?_
 obtain⟨G,v,h,s,p⟩:=g
 exact Wa s.heap Ext.refl s p λu v1 A w y e1 k d i C t=> Js s.heap e1 d t λB c z e f j b n l m=> m e f j n.heap (v1::c) ⟨v1,c,rfl,i.ext b d.heap,l⟩
def Dy {n:Nat}(A:xs.length<=1000) (a: ∀τ h ds h',M.Gx F es τ h= .ok ds h'->ds.length=xs.length) (r:PA X xs (iW Y E (M.Gx F es))):PE X (.Tuple xs n pos) (tD Y E (M.eval F (.tup es))):=by
 refine PE.imp (IZ r) λU H Q k=> ?_
 obtain⟨G,τ,h,s,p⟩:=k
 rw [M.eval]at p
 cases q:M.Gx F es τ h with
 | ok c o=>
  refine j9 s.heap Ext.refl s (f:=λds h=>if ds.length=xs.length then M.ag (.tup ds) h else .fail) (P:=λw h' l i=> ∀v,ak Y l i w v->aJ τ U H w v->Q v i) ?_ λds y z u x e1 m t g b=> ?_
  .rw [q]at p ⊢
   show ax Y E G H (if c.length=xs.length then M.ag _ o else .fail) _
   rw [if_pos (a _ _ _ _ q)]
   exact p
  .by_cases e:ds.length=xs.length
   .rw [if_pos e]at b
    have B:=g.length
    exact⟨Ag1 (qm (by lia)),λj d=>av.tup (av.mk b e1 s.heap) t.heap g j d⟩
   .rw [if_neg e]at b;exact b.elim
 | fail=>rw [q]at p;exact p.elim
def C1 (z:xs.length<=1000) (a: ∀τ h ds h',M.Gx F es τ h= .ok ds h'->ds.length=xs.length) (o:PA X xs (iW Y E (M.Gx F es))):PE X (.List xs pos) (tD Y E (M.eval F (.lst es))):=by
 refine PE.imp (BH o) λU H Q k=> ?_
 obtain⟨G,τ,h,s,p⟩:=k
 rw [M.eval]at p
 cases q:M.Gx F es τ h with
 | ok c n=>
  refine j9 s.heap Ext.refl s (f:=λds h=>if ds.length=xs.length then .ok (.own ds) h else .fail) (P:=λw h' l i=> ∀v,ak Y l i w v->aJ τ U H w v->Q v i) ?_ λds x y t u e1 m r g b=> ?_
  .rw [q]at p ⊢
   show ax Y E G H (if c.length=xs.length then .ok _ n else .fail) _
   rw [if_pos (a _ _ _ _ q)]
   exact p
  .by_cases e:ds.length=xs.length
   .rw [if_pos e]at b
    have A:=g.length
    exact⟨Ag1 (qm (by lia)),λj d=>av.own (av.mk b e1 s.heap) r.heap g j d⟩
   .rw [if_neg e]at b;exact b.elim
 | fail=>rw [q]at p;exact p.elim
def B2 (r:ak Y G H w v):ak Y G H w.arg v:=by
 cases w with
 | v d=>exact r
 | own c=>obtain⟨a,h,g,_,b,e,f⟩:=r;exact⟨a,h,g,b,.inl e,f⟩
 | bor c=>exact r
theorem Zz : ∀ {ws}{vs},bj Y G H ws vs->bj Y G H (ws.map M.W.arg) vs
 | [],_,z=>z
 | _::_,_,⟨v,r,c,b,a⟩=>⟨v,r,c,B2 b,Zz a⟩
def Qy (ws:List M.W): ∀w∈ws.map M.W.arg,mf w=true:=λw a=>by
 obtain⟨u,_,rfl⟩:=Ab6.mp a
 cases u<;>rfl
def CC (a:Go Y F X E k cf)(j:b7 cf.sc f g=u0) (n:cf.fns.contains f=u0) (c: ∀e∈x::xs,wb e=u0) (w:PA X (x::xs) (fP Y E (M.Gf F es))):PE X (.Call g (x::xs) [] pos) (tD Y E (M.eval F (.call f es))):=by
 obtain⟨p,rfl,A,r⟩:=Zc j
 obtain⟨t,K,L,b,i,C,d⟩:=(a.fn f n).imp λt h=>h.ex
 refine PE.imp (Iz b a.room (a.gl _ A) d C i .nil a.pass w r (jb (c _ Aa5)) (Ws λe z=>c e (Aa2 _ z))) λU H Q o=> ?_
 obtain⟨G,D,h,s,p⟩:=o
 refine Js s.heap Ext.refl s p λm J u l I e1 v B q y=> ?_
 rw [Ae3]
 exact⟨l,u,_,B.heap,Zz q,Qy m,av.mk y e1 s.heap⟩
def HW (a:Go Y F X E k cf)(e:b7 cf.sc f g=u0) (i:cf.fns.contains f=u0):PE X (.Call g [] [] pos) (tD Y E (M.eval F (.call f .nil))):=by
 obtain⟨p,rfl,n,l⟩:=Zc e
 obtain⟨m,r,t,b,d,o,c⟩:=(a.fn f i).imp λm h=>h.ex
 refine PE.imp (AA b a.room (a.gl _ n) c o d .nil a.pass l) λU H Q j=> ?_
 obtain⟨G,q,h,s,p⟩:=j
 exact⟨G,h,_,s.heap,Zz (ws:= []) rfl,Qy [],av.mk p Ext.refl s.heap⟩
def Md (b:M.Bi) (a:mZ b=u0):bootBuiltins (Jg (mx b))=k0 (rL b):=by
 cases b<;>first | (exact absurd (show k9=u0 from a) Ac3) | decide +kernel
def yY (b):mx b∈cn:=by cases b<;>decide
def M3 (c:Go Y F X E k cf){b:M.Bi}(q:mZ b=u0) (t:b7 cf.sc (mx b) g=u0) (r: ∀e∈x::xs,wb e=u0) (m:PA X (x::xs) (fP Y E (M.Gf F es))):PE X (.Call g (x::xs) [] pos) (tD Y E (M.eval F (.bi b es))):=by
 obtain⟨p,rfl,o,j⟩:=Zc t
 have f:=c.blt _ (yY b)
 have n:=Xp (yY b)
 have bt:=Md b q
 have l:ju X _ (nh Y E b):=CJ b q c.K c.calm
 have a: ∀U H Q,tD Y E (M.eval F (.bi b es)) U H Q->pQ (nh Y E b) (fP Y E _) U H Q:=λU H Q w=>by
  obtain⟨G,D,h,s,p⟩:=w
  exact Js s.heap Ext.refl s p λv J z u I e1 A d y B=> ⟨u,z,v,d.heap,y,av.mk B e1 s.heap⟩
 have d:=jb (env:=X.env) (es:=xs) (r _ Aa5)
 have i:=Ws (env:=X.env) (pos:=pos) λe C=>r e (Aa2 _ C)
 cases b with
 | len=>exact PE.imp (Qn l (c.gl _ o) f bt m n j d i) a
 | divmod=>exact PE.imp (Qn l (c.gl _ o) f bt m n j d i) a
 | min=>cases q
 | max=>cases q
 | int=>exact PE.imp (zz l (c.gl _ o) f bt m n j d i) a
 | list=>exact PE.imp (zz l (c.gl _ o) f bt m n j d i) a
 | tuple=>exact PE.imp (zz l (c.gl _ o) f bt m n j d i) a
 | sum=>exact PE.imp (Qn l (c.gl _ o) f bt m n j d i) a
 | all=>exact PE.imp (Qn l (c.gl _ o) f bt m n j d i) a
 | any=>exact PE.imp (Qn l (c.gl _ o) f bt m n j d i) a
 | sorted=>exact PE.imp (Qn l (c.gl _ o) f bt m n j d i) a
 | str=>cases q
 | abs=>cases q
def bC (h:wS o=u0) (w):attributeBase o n env w=w:=by
 cases o with
 | Call f a b p=>
  cases a with
  | nil=>exact absurd (h) Ac3
  | cons x a=>cases f<;>rfl
 | _=>rfl
theorem yC (t): ∀ {ts}{n},M.Kj t ts=k0 n->km (aK t) (ts.map aK)=k0 n
 | [],_,e=>by cases e
 | y::ys,n,e=>by
  unfold M.Kj at e
  rw [Ab1,km]
  split at e
  .rename_i q
   cases e
   rw [if_pos (by rw [q])]
  .rename_i q
   obtain⟨k,e1,rfl⟩:=Ag5.mp e
   rw [if_neg (λc=>q (by
    have:=congrArg (λs:Str=>s.cps.toList) c
    simpa [aK]using this)),yC t e1]
   rfl
theorem uo {b:Value->Bool}(a: ∀c y,RV hp c y->b y=M.cy c d): ∀ {ys}{L}{j},cg hp ys L->M.Kr d ys=k0 j-> ∃y,L[j]? =k0 y/\b y=u0/\ ∀m z,m<j->L[m]? =k0 z->b z=k9
 | [],_,_,rfl,h=>by cases h
 | c::ys,_,j,⟨u,r,rfl,k,n⟩,h=>by
  rw [M.Kr]at h
  by_cases q:M.cy c d=u0
  .rw [if_pos q]at h
   cases h
   exact⟨u,rfl,by rw [a c u k];exact q,λm z f=>absurd f (Ag7 m)⟩
  .rw [if_neg q]at h
   obtain⟨i,e,rfl⟩:=Ag5.mp h
   obtain⟨y,o,p,l⟩:=uo a n e
   refine⟨y,o,p,λm z f g=> ?_⟩
   cases m with
   | zero=>cases g;rw [a c u k];simpa using q
   | succ m=>exact l m z (by lia) g
def Ia (Y:Ge):V->List V->Hp->VK->Prop:=λx c H Q=> ∃G h a b y j,c= [y]/\ai Y G h H/\ak Y G H a x/\ak Y G H b y/\M.Kx b a h=k0 j/\Q (.int (j:Nat)) H
def K7 (t:X.K=Y.K)(f:bg k X.A):iT X "list.index" (Ia Y):=by
 intro p s U H x vs v us Q I P rv ⟨G,h,W,w2,y,j,F,A,K,C,e,q⟩
 subst F
 obtain⟨u,rfl,S⟩:=rv.one
 unfold M.Kx at e
 split at e
 .rename_i ys e2
  split at e
  .rename_i c
   have r:=by simpa using c
   have B:=K.rv I t A P (by simp_all)
   rw [e2]at B
   obtain⟨a,i,rfl,R,g⟩:=B
   obtain⟨V,T,D⟩:=oM f r.1.2 (C.rv I t A S r.1.1.1) g
   obtain⟨z,O,h2,L⟩:=uo T g e
   obtain⟨⟨E,dd,l,sl⟩,w,N,k,J⟩:=id R
   subst N J
   have n:=g.length
   obtain⟨hj,h4⟩:=Aa0.mp O
   have hL:=M.Gg
   refine call_meets PySem.F.slot_list_index ⟨_,w,rfl⟩ PySem.F.entry_list_index (PySem.F.args_list_index_2 _ _) (PySem.SeqAt.list_indexAt a i.toArray k dd sl u V j (by simp_all) (by lia) (by simp_all) (λm Z d=> ?_)) ⟨w,D,?_⟩
   .exact L m _ d (by simp)
   .exact⟨.int j,H,I.kept λb o e=>e,⟨_,rfl⟩,q⟩
  .cases e
 .cases e
def F6 (j:Go Y F X E k cf)(hm:rY m=u0) (hl:(apos.endLine==cpos.line)=u0) (T:wS o=u0) (v:wb x=u0) (W:PE X o (tD Y E (M.eval F a))) (L:PA X [x] (fP Y E (M.Gf F es))):
 PE X (.Call (.Attribute o (Jg (rg m)) apos) [x] [] cpos) (tD Y E (M.eval F (.dJ m a es))):=by
 cases m with
 | index=>
  refine PE.imp (mv PySem.F.plainAttrs_tuple PySem.F.slot_tuple_index PySem.F.type_tuple_index IT Ll W L (bC T _) (by rw [jb v];rfl) hl (jb v) rfl) λU H Q z=> ?_
  obtain⟨G,τ,h,s,p⟩:=z
  refine Wa s.heap Ext.refl s p λJ v1 h1 G1 H1 e1 B f l f1 e=> ?_
  split at e
  .rename_i C
   obtain⟨xs,ex⟩:=Ah9.mp (C)
   obtain⟨b,A,rfl,r,z3⟩:=l.tup ex
   refine⟨⟨b,rfl,j.K▸r.pl⟩,Js s.heap e1 f e λy us h2 Z H2 e2 d g I c=> ?_⟩
   obtain⟨b',P,N,S,R⟩:=ak.ext (w:= .v (.tup xs)) d f.heap ⟨b,A,rfl,r,z3⟩
   cases N
   cases y with
   | nil=>exact c.elim
   | cons w wr=>
    cases wr with
    | cons _ _=>exact c.elim
    | nil=>
     obtain⟨u,rfl,D⟩:=I.one
     have c:=c
     obtain⟨ts,q,c⟩:=c.of
     obtain⟨t,V,c⟩:=c.of
     obtain⟨n,K,c⟩:=c.of
     cases D.str V
     rw [ex,Ag2]at q
     cases zT q R
     split at c
     .exact⟨b,aK t,n,ts.map aK,rfl,rfl,j.K▸e7.sq S,yC t K,(av.mk c e2 s.heap).v g.heap rfl⟩
     .exact c.elim
  .exact e.elim
 | b5=>
  refine PE.imp (mv PySem.F.plainAttrs_list PySem.F.slot_list_index PySem.F.type_list_index vx (K7 j.K j.room) W L (bC T _) (by rw [jb v];rfl) hl (jb v) rfl) λU H Q z=> ?_
  obtain⟨G,τ,h,s,p⟩:=z
  refine Wa s.heap Ext.refl s p λJ v1 h1 G1 H1 e1 B f l f1 e=> ?_
  split at e
  .rename_i C
   obtain⟨ys,O⟩:=Ah9.mp (C)
   obtain⟨b,A,rfl,r,z3⟩:=ak.lst f.heap l O
   refine⟨⟨b,A,rfl,j.K▸r⟩,Js s.heap e1 f e λy us h2 Z H2 e2 d g I c=> ?_⟩
   cases y with
   | nil=>exact c.elim
   | cons w wr=>
    cases wr with
    | cons _ _=>exact c.elim
    | nil=>
     obtain⟨u,rfl,D⟩:=I.one
     have c:=c
     obtain⟨n,q,c⟩:=c.of
     exact⟨Z,h2,J,w,u,n,rfl,g.heap,l.ext d f.heap,D,q,(av.mk c e2 s.heap).v g.heap rfl⟩
  .exact e.elim
 | count=>
  refine PE.imp (mv PySem.F.plainAttrs_list PySem.F.slot_list_count PySem.F.type_list_count vx Ci W L (bC T _) (by rw [jb v];rfl) hl (jb v) rfl) λU H Q z=> ?_
  obtain⟨G,τ,h,s,p⟩:=z
  refine Wa s.heap Ext.refl s p λJ v1 h1 G1 H1 e1 B f l f1 e=> ?_
  split at e
  .rename_i C
   obtain⟨ys,O⟩:=Ah9.mp (C)
   obtain⟨b,A,rfl,r,z3⟩:=ak.lst f.heap l O
   refine⟨⟨b,A,rfl,j.K▸r⟩,Js s.heap e1 f e λy us h2 Z H2 e2 d g I c=> ?_⟩
   cases y with
   | nil=>exact c.elim
   | cons w wr=>
    cases wr with
    | cons _ _=>exact c.elim
    | nil=>
     obtain⟨u,rfl,D⟩:=I.one
     have c:=c
     obtain⟨is,q,c⟩:=c.of
     obtain⟨i,V,c⟩:=c.of
     obtain⟨ys2,K,q4⟩:=Ag8.mp q
     obtain⟨b',P,N,y2,y3⟩:=ak.lst g.heap (l.ext d f.heap) K
     cases N
     cases WH q4 y3
     cases D.int V
     split at c
     .exact⟨b,i,is,rfl,rfl,j.K▸y2,(av.mk c e2 s.heap).v g.heap rfl⟩
     .exact c.elim
  .exact e.elim
def Bu: "range" ∈cn:=by decide
def LI: "list" ∈cn:=by decide
def ME (b:Go Y F X E k cf)(o:b7 cf.sc "list" g=true) (e:b7 cf.sc "range" g2=true) (j:wb x=true) (z:PE X x (tD Y E (M.eval F a))):PE X (.Call g [.Call g2 [x] [] pos2] [] pos) (tD Y E (M.eval F (.b4 a))):=by
 obtain⟨p,rfl,C,L⟩:=Zc o
 obtain⟨K,rfl,f,m⟩:=Zc e
 refine PE.imp (F2 b.calm (b.gl _ C) (b.blt _ LI) (b.gl _ f) (b.blt _ Bu) (Xf z Wn (jb j)) (jb j)) λU H Q t=> ?_
 obtain⟨G,J,h,s,p⟩:=t
 refine Wa s.heap Ext.refl s p λI v1 N q v e1 y D w O d=> ?_
 obtain⟨n,r,d⟩:=d.of
 cases w.int r
 split at d
 .rename_i c
  refine⟨n.toNat,by rw [Int.toNat_of_nonneg c.1],by lia,λl B=> ?_⟩
  have u:ab Y q v ((Aa3 n.toNat).map λ(i:Nat)=>M.D.int i) ((Aa3 n.toNat).map λ(i:Nat)=>V.int i):=by
   induction Aa3 n.toNat with
   | nil=>rfl
   | cons i is A=>exact⟨_,_,rfl,rfl,A⟩
  exact av.own (av.mk d e1 s.heap) D.heap u l B
 .exact d.elim
def AW (q:Go Y F X E k cf){s:M.Tx}{d:List M.Tx}{f o:Nat}{l n c b:Pos}(m:(c.endLine==b.line)=u0) (j:my (aK s) (d.map aK)=u0):
 PE X (.Call (.Attribute (.Constant (.str (aK s)) f l) (Jg "split") c) [.Constant (.str bT) o n] [] b) (tD Y E (M.eval F (.dM s d))):=by
 refine PE.imp (mv PySem.F.plainAttrs_str PySem.F.slot_str_split PySem.F.type_str_split D3 AM nX (Xf nX Wn rfl) rfl rfl m rfl rfl) λU H Q g=> ?_
 obtain⟨G,r,h,e,p⟩:=g
 rw [M.eval]at p
 exact⟨⟨_,rfl⟩,aK s,d.map aK,rfl,rfl,j,λa i=>av.own (av.mk p Ext.refl e.heap) e.heap (QT _) a i⟩
def LF (b:Go Y F X E k cf)(f:t≠ .au) (n:b7 cf.sc "isinstance" g=true) (u:b7 cf.sc (cV t) y=true) (j:wb x=true) (I:PE X x (tD Y E (M.eval F a))):PE X (.Call g [x,y] [] pos) (tD Y E (M.eval F (.bZ a t))):=by
 obtain⟨p,rfl,J,A⟩:=Zc n
 obtain⟨q,rfl,K,B⟩:=Zc u
 have dq:cV t∈cn:=by cases t<;>first | exact absurd rfl f | decide
 have bt:bootBuiltins (Jg (cV t))=k0 (.type (cV t)):=by cases t<;>first | exact absurd rfl f | decide +kernel
 have bi:bootBuiltins _=k0 _:=boot_isinstance
 have d: "isinstance" ∈cn:=by decide
 have e:PE X (.Name (Jg (cV t)) q) (tC (.ty (cV t))):=rD (b.gl _ K) (b.blt _ dq) bt rfl (Xp dq) B
 refine PE.imp (Qn (Lz b.K) (b.gl _ J) (b.blt _ d) bi (Xf I (Xf e Wn) (jb j)) (Xp d) A (jb j) rfl) λU H Q r=> ?_
 obtain⟨G,L,h,s,p⟩:=r
 rw [M.eval]at p
 refine Wa s.heap Ext.refl s p λm v1 C o N e1 D l z O i=> ?_
 obtain⟨c,w,i⟩:=i.of
 exact⟨o,C,m,v1,t,c,rfl,f,l.heap,z,w,ax.val i e1 l.heap (v:= .bl c) rfl trivial⟩
def Nk (xs:List α) (i):M.aQ xs i=L2.aQ xs i:=rfl
theorem ab.aQ (z:ab Y G H ds vs) (e:M.aQ ds i=k0 d): ∃v,L2.aQ vs i=k0 v/\aC Y G H d v:=by
 unfold M.aQ at e
 unfold L2.aQ
 rw [z.length]at e
 cases q:M.dv vs.length i with
 | none=>rw [q]at e;cases e
 | some j=>
  rw [q]at e
  obtain⟨v,b,a⟩:=z.get (e)
  refine⟨v,?_,a⟩
  have c:L2.dv vs.length i=k0 j:=q
  rw [c]
  exact b
def ZU (a:qd y=u0):sS y:=by
 intro o i
 cases y<;>first | rfl | (simp [qd]at a)
def CM (r:Go Y F X E k cf) (B:qd y=u0) (K:PE X x (tD Y E (M.eval F a))) (L:PE X y (tD Y E (M.eval F b))):PE X (.Subscript x y pos) (tD Y E (M.eval F (.ix a b))):=by
 refine PE.imp (oN Bl K L (ZU B)) λU H Q A=> ?_
 obtain⟨G,S,h,s,p⟩:=A
 refine Wa s.heap Ext.refl s p λz v1 h1 T W e1 I w g f1 O=> Wa s.heap e1 w O λZ v2 P G2 V e2 n o R f2 m=> ?_
 obtain⟨d,q,m⟩:=m.of
 have g:=g.ext n w.heap
 unfold M.c5 at q
 split at q
 .rename_i i J
  cases R.int J
  split at q
  .rename_i j C
   cases g.str C
   split at q
   .rename_i hl
    cases c:M.aQ j i with
    | none=>rw [c]at q;cases q
    | some D=>
     rw [c]at q
     cases q
     refine .inr (.inr ⟨aK j,i,D,rfl,rfl,by rw [ze];have:=Wi;lia,?_,ax.val m e2 o.heap rfl trivial⟩)
     have:(aK j).cps.toList=j:=by simp [aK]
     exact c
   .cases q
  .cases c:z.seq? P with
   | none=>rw [c]at q;cases q
   | some ds=>
    rw [c]at q
    obtain⟨l,u,rfl,f,N⟩:=g.seq o.heap c
    obtain⟨v,e,rd⟩:=N.aQ (q)
    have t:=ax.val m e2 o.heap rd trivial
    obtain f | f:=f
    .exact .inl ⟨l,u,i,v,rfl,rfl,r.K▸f,e,t⟩
    .exact .inr (.inl ⟨l,u,i,v,rfl,rfl,r.K▸f,e,t⟩)
 .cases q
end
section
variable {Y:Ge}{F:M.Fx}{X:Cx}{E:XK}{k:Nat}{cf:Cf}{a b c:M.E}{x y z:Expr}{pos p2:Pos}
def ou (xs:List α) (lo hi):M.cut xs lo hi=(xs.drop (HT.aZ xs.length 0 lo)).take (HT.aZ xs.length xs.length hi-HT.aZ xs.length 0 lo):=by
 unfold M.cut
 have e: ∀d o,M.aZ xs.length d o=HT.aZ xs.length d o:=λd o=>by cases o<;>rfl
 rw [e,e]
theorem ab.cut (z:ab Y G H ds vs) (lo hi):ab Y G H (M.cut ds lo hi) (lJ vs lo hi):=by
 rw [ou]
 rw [z.length]
 exact(z.drop _).take _
def pH {b d:Option Int}(n:ai Y G0 h0 H0) (e:Ext G0 H0 G H) (j:ai Y G h H) (r:ak Y G H w v)
 (p:ax Y E G0 H0 (M.fv w b d h) λw _ G' H'=> ∀v,ak Y G' H' w v->aJ τ U H0 w v->Q v H'):((o6 Y.K v b d H Q\/oh Y.K v b d H Q)\/oy Y.K v b d H Q)\/pF v b d H Q:=by
 unfold M.fv at p
 split at p
 .rename_i z q
  cases r.str q
  split at p
  .rename_i c
   have o:=Wi
   refine .inr ⟨_,rfl,by rw [ze];lia,?_⟩
   have e1:kg (aK z) b d=aK (M.cut z b d):=by
    unfold kg
    rw [ze,ou]
    simp [aK]
   exact av.v (av.mk p e n) j rfl
  .exact p.elim
 .split at p
  .rename_i m q
   obtain⟨l,f,rfl,i,g⟩:=r.tup q
   by_cases c:HT.aZ f.length 0 b=0/\HT.aZ f.length f.length d=f.length
   .have e2:M.cut m b d=m:=by
     rw [ou,g.length,c.1,c.2,List.drop_zero,Nat.sub_zero,←g.length,Ap5]
    rw [e2]at p
    exact .inl (.inr ⟨l,f,rfl,i.sq,c.1,c.2,p G H e j _ ⟨l,f,rfl,i,g⟩ trivial⟩)
   .exact .inl (.inl (.inr ⟨l,f,rfl,i.sq,c,λa k=>av.tup (av.mk p e n) j (g.cut b d) a k⟩))
  .split at p
   .rename_i m q
    obtain⟨l,f,rfl,i,g⟩:=r.lst j q
    exact .inl <| .inl <| .inl ⟨l,f,rfl,i,λa k=>av.own (av.mk p e n) j (g.cut b d) a k⟩
   .exact p.elim
def E8 (K:Aa8):V->Option Int->Option Int->Hp->VK->Prop:=λx lo hi H Q=>((o6 K x lo hi H Q\/oh K x lo hi H Q)\/oy K x lo hi H Q)\/pF x lo hi H Q
def pT:gx X (E8 X.K):=((gL.or K4).or MD).or pE
def Ht (n:Go Y F X E k cf){f m:M.E}(A:PE X x (tD Y E (M.eval F a))) (D:PE X l (tD Y E (M.eval F f))) (o:PE X u (tD Y E (M.eval F m))):PE X (.Subscript x (.Slice (k0 l) (k0 u) y0 p2) pos) (tD Y E (M.eval F (.sl a f m))):=by
 refine PE.imp (WQ pT A (XQ D) (XQ o)) λU H Q q=> ?_
 obtain⟨G,L,h,s,p⟩:=q
 refine Wa s.heap Ext.refl s p λJ v1 W N S e1 w g r f1 C=> Wa s.heap e1 g C λT v2 h2 G2 P e2 b e I Z p2=> ?_
 obtain⟨i,t,p2⟩:=p2.of
 refine⟨i,I.int t,Wa s.heap e2 e p2 λK v3 V O R v c z y f3 d=> ?_⟩
 obtain⟨j,B,d⟩:=d.of
 exact⟨j,y.int B,n.K▸pH s.heap v z.heap ((r.ext b g.heap).ext c e.heap) d⟩
def BO (f:Go Y F X E k cf){c:M.E}(o:PE X x (tD Y E (M.eval F a))) (r:PE X l (tD Y E (M.eval F c))):PE X (.Subscript x (.Slice (k0 l) y0 y0 p2) pos) (tD Y E (M.eval F (.fZ a c))):=by
 refine PE.imp (WQ pT o (XQ r) rb) λU H Q g=> ?_
 obtain⟨G,v,h,s,p⟩:=g
 refine Wa s.heap Ext.refl s p λu v1 B w z e1 n d j J q=> Wa s.heap e1 d q λA v2 I D y e2 b e t C p2=> ?_
 obtain⟨i,m,p2⟩:=p2.of
 exact⟨i,t.int m,f.K▸pH s.heap e2 e.heap (j.ext b d.heap) p2⟩
def Iv (e:Go Y F X E k cf)(n:PE X x (tD Y E (M.eval F a))) (f:PE X u (tD Y E (M.eval F hi))):PE X (.Subscript x (.Slice y0 (k0 u) y0 p2) pos) (tD Y E (M.eval F (.fb a hi))):=by
 refine PE.imp (WQ pT n rb (XQ f)) λU H Q g=> ?_
 obtain⟨G,t,h,s,p⟩:=g
 refine Wa s.heap Ext.refl s p λr v1 A v y e1 m c j I o=> Wa s.heap e1 c o λz v2 D C w e2 b d q B p2=> ?_
 obtain⟨i,l,p2⟩:=p2.of
 exact⟨i,q.int l,e.K▸pH s.heap e2 d.heap (j.ext b c.heap) p2⟩
def MP {st:Expr}(h:lW st=u0): ∃k p q,st= .UnaryOp .USub (.Constant (.int 1) k p) q:=by
 unfold lW at h
 split at h
 .exact⟨_,_,_,rfl⟩
 .cases h
def KN (e:Go Y F X E k cf){st:Expr}(b:lW st=u0) (o:PE X x (tD Y E (M.eval F a))):PE X (.Subscript x (.Slice y0 y0 (k0 st) p2) pos) (tD Y E (M.eval F (.fg a))):=by
 obtain⟨z,y,C,rfl⟩:=MP b
 refine PE.imp (EW o (oq p7 yV)) λU H Q g=> ?_
 obtain⟨G,v,h,s,p⟩:=g
 refine Wa s.heap Ext.refl s p λu v1 B w A e1 n t i I d=> ?_
 obtain⟨D,q,d⟩:=d.of
 obtain⟨l,m,rfl,j,r⟩:=i.tup q
 exact⟨1,rfl,rfl,l,m,rfl,e.K▸j.sq,λf c=>av.tup (av.mk d e1 s.heap) t.heap r.reverse f c⟩
def Gh.cell (G:Gh) (a:Addr):Gh:= { G with aS:=λr=>if r=G.n then a else G.aS r,n:=G.n+1 }
def rZ (a):Mon G H (G.cell a) H:=⟨λ_ _ _ z=>z,Ag4 _,λr b=>by show(if r=G.n then a else G.aS r)=_;rw [if_neg (by lia)],λ_ z=>z⟩
def QH {a:Addr}{c:M.Cell}(d:ai Y G h H) (n: ¬G.fz a) (k:dB G a) (z:bB Y G H a c):ai Y (G.cell a) (h++ [c]) H where
 len:=by rw [Aa6,d.len];rfl
 any:=λr g q=>by
  show ¬G.fz (if r=G.n then a else G.aS r)/\bB Y (G.cell a) H (if r=G.n then a else G.aS r) g
  by_cases j:r=G.n
  .rw [if_pos j]
   rw [j,←d.len,Ad9 (Aa9 _),Am3]at q
   cases q
   exact⟨n,z.mon (rZ a) λ_ e=>e⟩
  .rw [if_neg j]
   have i:r<G.n:=by
    have:=(Aa0.mp q).1
    rw [Aa6,d.len]at this
    simp at this
    lia
   rw [Ac9 (by rw [d.len];exact i)]at q
   exact⟨(d.any r g q).1,(d.any r g q).2.mon (rZ a) λ_ e=>e⟩
 inj:=λr s m l e=>by
  have m:r<G.n+1:=m
  have l:s<G.n+1:=l
  have e:(if r=G.n then a else G.aS r)=(if s=G.n then a else G.aS s):=e
  by_cases f:r=G.n
  .by_cases b:s=G.n
   .lia
   .rw [if_pos f,if_neg b]at e
    exact absurd e.symm (k s (by lia))
  .by_cases b:s=G.n
   .rw [if_neg f,if_pos b]at e
    exact absurd e (k r (by lia))
   .rw [if_neg f,if_neg b]at e
    exact d.inj r s (by lia) (by lia) e
 live:=d.live
def W0 {a:Addr}(b:ai Y G h H) (d: ¬G.fz a) (c:dB G a) (e:H a=k0 (.lst vs)) (z:ab Y G H xs vs) (f:M.Gc xs=u0):ai Y (G.cell a) (h++ [.lst xs]) H:=QH b d c ⟨f,vs,e,z⟩
def Bj {a:Addr}(b:ai Y G h H) (d: ¬G.fz a) (c:dB G a)(e:H a=k0 (.ins (Y.ca c0) dx0 [])):ai Y (G.cell a) (h++ [.obj c0 []]) H:=QH b d c ⟨dx0,[],e,rfl⟩
def ZA {a:Addr}(e:Ext G0 H0 G H) (g:H0 a=y0):Ext G0 H0 (G.cell a) H where
 keep:=e.keep
 le:=Ab5 e.le (Ag4 _)
 aS:=λr d=>by show(if r=G.n then a else G.aS r)=_;rw [if_neg (by have:=e.le;lia)];exact e.aS r d
 new:=λr f b=>by
  have b:r<G.n+1:=b
  show H0 (if r=G.n then a else G.aS r)=y0
  by_cases c:r=G.n
  .rw [if_pos c];exact g
  .rw [if_neg c];exact e.new r f (by lia)
 fz:=e.fz
 old:=e.old
 cells:=e.cells
def CW:PE X (.Dict [] [] pos) (tD Y E (M.eval F .c4)):=by
 refine PE.imp ES λU H Q c=> ?_
 obtain⟨G,d,h,s,p⟩:=c
 intro a b
 have e1:Ext G H G (aP H a (dS [])):=Zt _ b
 refine ax.val p (ZA e1 b) (QH (s.heap.new _ b) (λz=>by obtain⟨o,q⟩:=s.heap.live a z;rw [b]at q;cases q) (s.heap.fD b) ⟨rfl,[],wc,rfl⟩) ?_ trivial
 show h.length<G.n+1/\V.ref a= .ref (if h.length=G.n then a else G.aS h.length)
 rw [s.heap.len,if_pos rfl]
 exact⟨Ag _,rfl⟩
abbrev dG (b:List (M.Tx×M.D)) (a:List V):List (Str×V):=(b.map λp=>aK p.1).zip a
def xT (e:M.GU h o=k0 (r,ks)):o=k0 (.v (.ref r))/\h[r]? =k0 (.aN ks):=by
 unfold M.GU at e
 split at e
 .split at e
  .rename_i q
   cases e
   exact⟨rfl,q⟩
  .cases e
 .cases e
def Qq (s:aq Y G τ h U H)(e:M.GU h (M.Gn τ i)=k0 (r,ks)):U[i]? =k0 (k0 (.ref (G.aS r)))/\M.Gc (ks.map (·.2))=u0/\ ∃j,H (G.aS r)=k0 (dS (dG ks j))/\ab Y G H (ks.map (·.2)) j:=by
 obtain⟨e1,e2⟩:=xT e
 obtain⟨v,c,a⟩:=s.slot i _ e1
 obtain⟨d,b⟩:=(a)
 subst b
 exact⟨c,(s.heap.any r _ e2).2⟩
def oI (a b):(aK a==aK b)=(a==b):=by
 cases q:a==b with
 | true=>rw [eq_of_beq q];exact beq_self_eq_true _
 | false=>exact beq_eq_false_iff_ne.mpr λz=>(beq_eq_false_iff_ne.mp q) (wC z)
section
variable {G:Gh}{H:Hp}
theorem yh {k:M.Tx}: ∀ {ks}{i},ab Y G H (ks.map (·.2)) i->ks.lookup k=k0 d-> ∃v,(dG ks i).lookup (aK k)=k0 v/\aC Y G H d v
 | [],_,_,e=>by cases e
 | (g,x)::fs,_,⟨v,r,rfl,b,a⟩,e=>by
  rw [Ab7]at e
  show ∃w,((aK g,v)::dG fs r).lookup (aK k)=k0 w/\_
  rw [Ab7,oI]
  cases q:k==g with
  | true=>rw [q]at e;cases e;exact⟨v,rfl,b⟩
  | false=>rw [q]at e;exact yh a e
theorem nS {k:M.Tx}: ∀ {ks}{i},ab Y G H (ks.map (·.2)) i->((dG ks i).lookup (aK k)).isSome=(ks.lookup k).isSome
 | [],_,_=>rfl
 | (g,x)::fs,_,⟨v,r,rfl,b,a⟩=>by
  show(((aK g,v)::dG fs r).lookup (aK k)).isSome=_
  rw [Ab7,Ab7,oI]
  cases q:k==g with
  | true=>rfl
  | false=>exact nS a
theorem ua {k:M.Tx}: ∀ {ks}{i},ab Y G H (ks.map (·.2)) i->((dG ks i).any λp=>u9 (p.1=aK k))=ks.any λp=>u9 (p.1=k)
 | [],_,_=>rfl
 | (g,x)::fs,_,⟨v,r,rfl,b,a⟩=>by
  show(u9 (aK g=aK k)||(dG fs r).any λp=>u9 (p.1=aK k))=(u9 (g=k)||fs.any λp=>u9 (p.1=k))
  rw [ua a]
  congr 1
  exact decide_eq_decide.mpr ⟨wC,congrArg aK⟩
theorem vn {k:M.Tx}(rv:aC Y G H d v): ∀ {ks}{j},ab Y G H (ks.map (·.2)) j-> ∃i,ab Y G H ((ks.map λp=>if p.1=k then(p.1,d)else p).map (·.2)) i/\((dG ks j).map λp=>if p.1=aK k then(p.1,v)else p)=dG (ks.map λp=>if p.1=k then(p.1,d)else p) i
 | [],_,rfl=>⟨[],rfl,rfl⟩
 | (g,x)::fs,_,⟨u,r,rfl,f,e⟩=>by
  obtain⟨i,a,b⟩:=vn rv e
  by_cases q:g=k
  .refine⟨v::i,?_,?_⟩
   .simp only [Ab1,q,if_true]
    exact⟨v,i,rfl,rv,a⟩
   .show(if aK g=aK k then(aK g,v)else(aK g,u))::(dG fs r).map _=dG ((if g=k then(g,d)else(g,x))::fs.map _) (v::i)
    rw [b,if_pos (congrArg aK q),if_pos q]
    rfl
  .have c:=λz=>q (wC z)
   refine⟨u::i,?_,?_⟩
   .simp only [Ab1,q,if_false]
    exact⟨u,i,rfl,f,a⟩
   .show(if aK g=aK k then(aK g,v)else(aK g,u))::(dG fs r).map _=dG ((if g=k then(g,d)else(g,x))::fs.map _) (u::i)
    rw [b,if_neg c,if_neg q]
    rfl
theorem QV {k:M.Tx}(rv:aC Y G H d v): ∀ {ks}{i},ab Y G H (ks.map (·.2)) i->ab Y G H ((ks++ [(k,d)]).map (·.2)) (i++ [v])/\dG ks i++ [(aK k,v)]=dG (ks++ [(k,d)]) (i++ [v])
 | [],_,rfl=>⟨⟨v,[],rfl,rv,rfl⟩,rfl⟩
 | (g,x)::fs,_,⟨u,r,rfl,b,a⟩=>⟨⟨u,_,rfl,b,(QV rv a).1⟩,congrArg ((aK g,u):: ·) (QV rv a).2⟩
def Fl {k:M.Tx}(rv:aC Y G H d v)(z:ab Y G H (ks.map (·.2)) us): ∃i,ab Y G H ((M.GE ks k d).map (·.2)) i/\hV (dG ks us) (aK k) v=dG (M.GE ks k d) i:=by
 unfold M.GE hV
 rw [ua z]
 by_cases c:(ks.any λp=>u9 (p.1=k))=u0
 .rw [if_pos c,if_pos c];exact vn rv z
 .rw [if_neg c,if_neg c];exact⟨_,QV rv z⟩
end
theorem xO: ∀ {ds},M.Gc ds=u0↔ ∀d∈ds,M.Gd d=u0
 | []=>⟨λ_ _ h=>absurd h Ai4,λ_=>rfl⟩
 | d::ds=>by
  rw [Aa1,xO,List.forall_mem_cons]
def Bc {k:M.Tx}(b:M.Gd d=u0)(z:M.Gc (ks.map (·.2))=u0):M.Gc ((M.GE ks k d).map (·.2))=true:=by
 rw [xO]at z ⊢
 unfold M.GE
 split
 .intro y a
  rw [Ad1,Ab6]at a
  obtain⟨p,c,rfl⟩:=a
  dsimp only [Function.comp]
  split
  .exact b
  .exact z _ (List.mem_map_of_mem c)
 .intro y a
  rw [Ae0,Ac8]at a
  obtain a | a:=a
  .exact z y a
  .cases Ac2.mp a;exact b
def IM (z:ab Y G H (ks.map (·.2)) us):(dG ks us).length=ks.length:=by
 have:=z.length
 rw [Aa]at this
 rw [Al8,Aa];lia
def AR:R2:=λx y H Q=> ∃k a kvs v,y= .str k/\x= .ref a/\H a=k0 (dS kvs)/\kvs.lookup k=k0 v/\Q v H
def uC:gr X AR:=by
 intro c b e p U H x y v u Q I m n ⟨k,a,h,d,i,ex,f,l,q⟩ g
 subst ex i
 cases m
 obtain⟨_,_,_,_,dd⟩:=X9 I f
 exact tail_any dd.mapOf.typeIs slot_dict_getitem.lookup (KD I f n l λs o j r=>⟨_,H,j,r,q⟩) g
def DK (neg:Bool):R2:=λx y H Q=> ∃k a kvs,x= .str k/\y= .ref a/\H a=k0 (dS kvs)/\Q (.bl (if neg then !(kvs.lookup k).isSome else(kvs.lookup k).isSome)) H
def uh (neg):b0 X (compareOp (lV neg)) (DK neg):=by
 intro c j U H x y v u Q I e h ⟨k,a,i,ex,f,d,q⟩
 subst ex f
 cases h
 cases neg with
 | false=>exact FY I d e λg b=>⟨.bl _,H,b,rfl,q⟩
 | true=>exact Hr I d e λg b=>⟨.bl _,H,b,rfl,q⟩
def LS:V->V->V->Hp->(Hp->Prop)->Prop:=λo i v H Q=> ∃k a kvs,i= .str k/\o= .ref a/\H a=k0 (dS kvs)/\kvs.length<sizeLine/\Q (aP H a (dS (hV kvs k v)))
def Di:pN X LS:=by
 intro b p U H o i v m r u Q I h d rv ⟨k,a,l,g,c,f,j,q⟩
 subst g c
 cases h
 exact Fq I f d rv j λn e=>⟨_,e,q⟩
def LL:List V->Hp->VK->Prop:=λb H Q=> ∃a kvs,b= [.ref a]/\H a=k0 (dS kvs)/\ ∀p,H p=y0->Q (.ref p) (aP H p (dS kvs))
def Hi:ju X (.type "dict") LL:=by
 intro b m U H k j Q I rv ⟨a,c,e,g,q⟩
 subst e
 cases rv with
 | cons f i=>
  cases i
  cases f
  exact Hh I g λp l h d=>⟨.ref p,_,d,rfl,q p h⟩
def FF (t:PE X x (tD Y E (M.eval F a))):PE X x (tD Y E (M.eval F (.share a))):=by
 refine PE.imp t λU H Q m=> ?_
 obtain⟨G,A,h,s,p⟩:=m
 refine Wa s.heap Ext.refl s p λj v1 e f C e1 r i n z b=> ?_
 cases j with
 | own c=>
  obtain⟨l,D,rfl,o,u,k,y⟩:=n
  obtain⟨B,q,w⟩:=z
  cases q
  have b:ax Y E G H (if M.Gc c=u0 then M.ag _ (e++ [.lst c])else .fail) _:=b
  by_cases g:M.Gc c=u0
  rotate_left
  .rw [if_neg g]at b;exact b.elim
  rw [if_pos g]at b
  refine ax.val b (ZA e1 w) (W0 i.heap o u k y g) ?_ trivial
  show e.length<f.n+1/\V.ref l= .ref (if e.length=f.n then l else f.aS e.length)
  rw [i.heap.len,if_pos rfl]
  exact⟨Ag _,rfl⟩
 | v d=>exact b.elim
 | bor c=>exact b.elim
end
structure wI (Y:Ge) (J:It) (ds:List M.D) (C:Gh->Hp->Prop):Prop where
 go: ∀i G H,C G H->i<ds.length->J.go i H
 fi: ∀i G H x H',C G H->i<ds.length->J.fi i H x H'-> ∃G',Ext G H G' H'/\(∀ h,ai Y G h H->ai Y G' h H')/\ ∃d,ds[i]? =k0 d/\aC Y G' H' d x
 stop: ∀i G H,C G H->ds.length<=i->i<=ds.length->J.stop i H
 keep: ∀G H G' H' h,C G H->Ext G H G' H'->ai Y G h H->C G' H'
noncomputable def Xo (τ:M.Sl) (U:St) (H:Hp):Hp:=λa=>open Classical in if ∃(i:Nat) (xs:List M.D),M.Gn τ i=k0 (.own xs)/\U[i]? =k0 (k0 (.ref a))then y0 else H a
def gi (Y:Ge) (E:XK) (a:Bool) (m:M.Sl->M.AH->M.R (List M.D)):TI:=λU H R=> ∃G τ h,aq Y G τ h U H/\ax Y E G H (m τ h) λds _ G' H'=> ∀J C,wI Y J ds C->C G' H'->(a=u0->C G' (Xo τ U H'))->R J H'
def PI.imp (h:PI X tg e t) (k: ∀U H R,t' U H R->t U H R):PI X tg e t':=λa s U H R I q=>h a s U H R I (k _ _ _ q)
section
variable {Y:Ge}{F:M.Fx}{X:Cx}{E:XK}{k:Nat}{cf:Cf}{a b c:M.E}{x y z tg:Expr}{pos p2:Pos}{lp:Bool}
def lq (Y:Ge) (G:Gh) (H:Hp) (l:Addr) (vs:List V):Prop:=(Rd H l (.lst vs)/\dB G l)\/vE Y l vs
def CL (Y:Ge) (ds:List M.D) (l:Addr) (vs:List V) (G:Gh) (H:Hp):Prop:=lq Y G H l vs/\ab Y G H ds vs
def lq.sq (z:lq Y G H l vs):bu Y.K H l vs:=z.elim (λz=> .inl z.1) .inr
def i9.nW (z:i9 Y G H l vs) (a:ai Y G h H):lq Y G H l vs:=z.elim (λz=> .inl ⟨z.2,a.off z.1⟩) .inr
def CL.keep (z:CL Y ds l vs G H) (e:Ext G H G' H') (d:ai Y G h H):CL Y ds l vs G' H':=by
 obtain⟨a,c⟩:=z
 refine⟨?_,c.ext e d⟩
 obtain⟨a,b⟩ | a:=a
 .refine .inl ⟨e.rd a b,?_⟩
  obtain a | ⟨o,a⟩:=a
  .exact e.off a b
  .exact e.off a b
 .exact .inr a
def CL.walk {K:Aa8}(d:K=Y.K):wI Y (ib K l) ds (CL Y ds l vs) where
 go:=by
  rintro i G H ⟨b,c⟩ a
  obtain⟨v,e,_⟩:=c.get (Aa4 a)
  exact⟨vs,v,d▸b.sq,e⟩
 fi:=by
  rintro i G H x f ⟨b,c⟩ a ⟨e,y⟩
  subst e
  obtain⟨v,e,rd⟩:=c.get (Aa4 a)
  have:=y vs (d▸b.sq)
  rw [e]at this
  cases this
  exact⟨G,Ext.refl,λ_ q=>q,_,Aa4 a,rd⟩
 stop:=λi G H ⟨b,c⟩ a _=>⟨vs,d▸b.sq,by rw [← c.length];exact a⟩
 keep:=λG H j f h z e g=>z.keep e g
def CT (Y:Ge) (ds:List M.D) (l:Addr) (vs:List V) (G:Gh) (H:Hp):Prop:=e7 Y G H l vs/\ab Y G H ds vs
def e7.mon (z:e7 Y G H l vs) (e:Mon G H G' H'):e7 Y G' H' l vs:=z.elim (λz=> .inl ⟨e.fz l z.1,e.keep l _ z.1 z.2⟩) λz=> .inr z
def CT.walk {K:Aa8}(d:K=Y.K):wI Y (kH K l) ds (CT Y ds l vs) where
 go:=by
  rintro i G H ⟨b,c⟩ a
  obtain⟨v,e,_⟩:=c.get (Aa4 a)
  exact⟨vs,v,d▸b.sq,e⟩
 fi:=by
  rintro i G H x g ⟨b,c⟩ a ⟨e,y⟩
  subst e
  obtain⟨v,e,rd⟩:=c.get (Aa4 a)
  have:=y vs (d▸b.sq)
  rw [e]at this
  cases this
  exact⟨G,Ext.refl,λ_ q=>q,_,Aa4 a,rd⟩
 stop:=λi G H ⟨b,c⟩ a _=>⟨vs,d▸b.sq,by rw [← c.length];exact a⟩
 keep:=λG H j g h z e f=>⟨z.1.mon (e.mon f),z.2.ext e f⟩
def Iw {b:Int}:wI Y (mL b n) ((Aa3 n).map λ(i:Nat)=>M.D.int (b+(i:Int))) (λ_ _=>True) where
 go:=λi G H _ a=>show i<n by simpa using a
 fi:=λi G H x d _ a c=>by
  obtain⟨e,y⟩:=c
  subst e y
  have a:=by simpa using a
  exact⟨G,Ext.refl,λ_ q=>q,.int (b+i),by simp [a],rfl⟩
 stop:=λi G H _ a _=>show n<=i by simpa using a
 keep:=λ_ _ _ _ _ _ _ _=>trivial
def xm (a: ¬ ∃ i xs,M.Gn τ i=k0 (.own xs)/\U[i]? =k0 (k0 (.ref l))):Xo τ U H l=H l:=by
 unfold Xo
 rw [if_neg a]
def Zu (s:aq Y G τ h U H)(e:M.Gn τ i=k0 (.own xs)) (k:U[i]? =k0 (k0 (.ref l))): ¬G.fz l/\dB G l/\ ∃vs,H l=k0 (.lst vs)/\ab Y G H xs vs:=by
 obtain⟨v,b,a,vs,f,d,g,j,c⟩:=s.slot i _ e
 rw [k]at b
 cases b
 cases f
 exact⟨d,g,vs,j,c⟩
def xy (s:aq Y G τ h U H):Mon G H G (Xo τ U H):=by
 refine⟨λa o z e=> ?_,Aa9 _,λ_ _=>rfl,λ_ z=>z⟩
 rw [xm λ⟨i,d,b,c⟩=>(Zu s b c).1 z]
 exact e
section
open PySem.Calls PySem.W PyProof.Rows
def Cc (K:Aa8) (b:TE):TI:=λU H R=>b U H λx H1=>(∃ a,x= .ref a/\(∃ xs,bu K H1 a xs)/\R (ib K a) H1)\/ ∃a,x= .ref a/\(∃ xs,cj K H1 a xs)/\R (kH K a) H1
def pq {X:Cx}{u l:Expr}{n:TE}(y:PE X l n):PI X u l (Cc X.K n):=by
 intro f s U H R I h
 refine aO (y f s U H _ I h) ?_
 rintro v c ⟨x,k,d,m,t⟩
 rcases t with⟨a,e,⟨r,i⟩,q⟩ | ⟨a,e,⟨r,i⟩,q⟩
 .subst e
  cases m
  obtain⟨g,rv,p,w⟩:=d.list i
  refine wpAny_pyIter_list p.isList ?_
  refine⟨c.heap.objs.size,[c.heap.objs.size],_,_,k,rfl,d.kept (t':=c.toks) λb o e=>Ab2 _ e,D1 a _,⟨_,Ac7 _ rfl,rfl,rfl⟩,λb j=> ?_,q⟩
  have e:b=c.heap.objs.size:=by simpa using j
  subst e
  exact d.c8 (Aa9 _) (d.a0.fresh (Aa9 _))
 .subst e
  cases m
  obtain⟨g,rv,p,w⟩:=d.tuple i
  refine wpAny_pyIter_tuple (show c.heap.IsTuple a g.toArray from p) ?_
  refine⟨c.heap.objs.size,[c.heap.objs.size],_,_,k,rfl,d.kept (t':=c.toks) λb o e=>Ab2 _ e,Mw a _,⟨_,Ac7 _ rfl,rfl,rfl⟩,λb j=> ?_,q⟩
  have e:b=c.heap.objs.size:=by simpa using j
  subst e
  exact d.c8 (Aa9 _) (d.a0.fresh (Aa9 _))
end
def Dj (n:Go Y F X E k cf) (L:PE X x (tD Y E (M.eval F a))):PI X tg x (gi Y E k9 (M.Gk F (.seq a))):=by
 refine PI.imp (pq L) λU H R D=> ?_
 obtain⟨G,B,h,s,p⟩:=D
 rw [M.Gk]at p
 refine Wa s.heap Ext.refl s p λA v1 I o f e1 K w q N e=> ?_
 have lst: ∀ {c:List M.D},ax Y E G H (.ok c I) (λc x y t=> ∀J C,wI Y J c C->C y t->(k9=u0->C y (Xo B U t))->R J t)->(∃ l b,v1= .ref l/\lq Y o f l b/\ab Y o f c b) →
  (∃ a,v1= .ref a/\(∃ r,bu X.K f a r)/\R (ib X.K a) f)\/ ∃a,v1= .ref a/\(∃ r,cj X.K f a r)/\R (kH X.K a) f:=λ{c} p ⟨l,b,i,g,m⟩=>
  .inl ⟨l,i,⟨b,n.K▸g.sq⟩,p o f e1 w.heap _ _ (CL.walk (vs:=b) n.K) ⟨g,m⟩ λz=>absurd z Ac3⟩
 cases A with
 | v d=>
  cases d with
  | tup c=>
   obtain⟨l,b,rfl,g,j⟩:=q
   exact .inr ⟨l,rfl,⟨b,n.K▸g.sq⟩,e o f e1 w.heap _ _ (CT.walk (vs:=b) n.K) ⟨g,j⟩ λz=>absurd z Ac3⟩
  | lst c=>obtain⟨l,b,i,g,j⟩:=q;exact lst e ⟨l,b,i,g.nW w.heap,j⟩
  | au=>exact e.elim
  | bl _=>exact e.elim
  | int _=>exact e.elim
  | str _=>exact e.elim
  | ref _=>exact e.elim
 | own c=>obtain⟨l,b,i,_,j,m,u⟩:=q;exact lst e ⟨l,b,i,.inl ⟨.inl m,j⟩,u⟩
 | bor c=>obtain⟨l,b,i,j,m,u⟩:=q;exact lst e ⟨l,b,i,.inl ⟨m,j⟩,u⟩
def Bp (n:Int):((Aa3 n.toNat).map λ(i:Nat)=>M.D.int (i:Int))=(Aa3 n.toNat).map λ(i:Nat)=>M.D.int (0+(i:Int)):=by
 congr 1;funext i;rw [Int.zero_add]
def KP: "range" ∈cn:=by decide
def ZM (d:Go Y F X E k cf)(f:b7 cf.sc "range" g=true) (e:wb x=true) (r:PE X x (tD Y E (M.eval F a))):PI X tg (.Call g [x] [] pos) (gi Y E lp (M.Gk F (.aj a))):=by
 obtain⟨p,rfl,t,y⟩:=Zc f
 refine PI.imp (Fg (d.gl _ t) (d.blt _ KP) (Xf r Wn (jb e)) (jb e)) λU H R j=> ?_
 obtain⟨G,w,h,s,p⟩:=j
 refine Wa s.heap Ext.refl s p λv v1 z i l e1 o u m A b=> ?_
 obtain⟨n,q,b⟩:=b.of
 split at b
 .rename_i c
  rw [M.GS]at c
  cases m.int q
  rw [Bp]at b
  exact⟨n,rfl,c.1,c.2,b i l e1 u.heap _ _ Iw trivial λ_=>trivial⟩
 .exact b.elim
end
section
variable {Y:Ge}{F:M.Fx}{X:Cx}{E:XK}{k:Nat}{cf:Cf}
theorem Qm: ∀(τ) (i j) (w),M.Gn (M.GB τ i w) j=if j=i/\i<τ.length then k0 w else M.Gn τ j
 | [],i,j,w=>by simp
 | x::r,0,0,w=>by simp
 | x::r,0,j+1,w=>by simp
 | x::r,i+1,0,w=>by simp
 | x::r,i+1,j+1,w=>by
  have:=Qm r i j w
  simp only [M.GB,M.Gn,this,Aa7]
  by_cases h:j=i/\i<r.length
  .rw [if_pos h,if_pos (by lia)]
  .rw [if_neg h,if_neg (by lia)]
theorem Xx: ∀(τ) (i) (w),(M.GB τ i w).length=τ.length
 | [],_,_=>rfl
 | _::_,0,_=>rfl
 | _::r,i+1,w=>by simp [Xx r i w]
theorem qy: ∀ {τ}{i}{w},M.Gn τ i=k0 w->i<τ.length
 | [],_,_,e=>by simp at e
 | _::_,0,_,_=>by simp
 | _::r,i+1,w,e=>by
  have:=qy (by simpa using e)
  simp;lia
theorem aq.set (s:aq Y G τ h U H)(r:ak Y G H w v)
 (l:dW w=u0-> ∀ j L,j≠i->M.Gn τ j=k0 L->dW L=u0-> ∀a,v= .ref a->U[j]? ≠k0 (k0 (.ref a))):aq Y G (M.GB τ i w) h (U.set i (k0 v)) H where
 len:=by rw [Xx,Ae1];exact s.len
 slot:=λj L e=>by
  rw [Qm]at e
  by_cases c:j=i/\i<τ.length
  .rw [if_pos c]at e
   cases e
   obtain⟨rfl,c⟩:=c
   exact⟨v,Ab9 (by rw [← s.len];exact c),r⟩
  .rw [if_neg c]at e
   have y:=λz=>c ⟨z,by subst z;exact qy e⟩
   obtain⟨o,x,u⟩:=s.slot j L e
   exact⟨o,by rw [Ae4 (Ne.symm y)];exact x,u⟩
 apart:=λp q n L a b e1 e2 k g=>by
  rw [Qm]at e1 e2
  by_cases d:p=i/\i<τ.length
  .rw [if_pos d]at e1
   cases e1
   obtain⟨rfl,d⟩:=d
   rw [if_neg (λz=>b z.1.symm)]at e2
   rw [Ab9 (by rw [← s.len];exact d)]at g
   cases g
   rw [Ae4 b]
   exact l rfl q L (Ne.symm b) e2 k a rfl
  .rw [if_neg d]at e1
   have m:=λz=>d ⟨z,by subst z;exact qy e1⟩
   rw [Ae4 (Ne.symm m)]at g
   by_cases f:q=i/\i<τ.length
   .rw [if_pos f]at e2
    cases e2
    obtain⟨rfl,f⟩:=f
    rw [Ab9 (by rw [← s.len];exact f)]
    intro z
    cases z
    exact l k p _ m e1 rfl a rfl g
   .rw [if_neg f]at e2
    have t:=λz=>f ⟨z,by subst z;exact qy e2⟩
    rw [Ae4 (Ne.symm t)]
    exact s.apart p q n L a b e1 e2 k g
 heap:=s.heap
def aq.ea (s:aq Y G τ h U H)(r:aC Y G H d v):aq Y G (M.GB τ i (.v d)) h (U.set i (k0 v)) H:=s.set r λz=>by cases z
def gH:List Nat->List V->St->St
 | i::is,v::a,U=>gH is a (U.set i (k0 v))
 | _,_,U=>U
theorem wO : ∀ {is}{ds}{vs}{τ j}{U},M.aY is ds τ=k0 j->ab Y G H ds vs->aq Y G τ h U H->aq Y G j h (gH is vs U) H/\is.length=vs.length
 | [],[],_,_,_,_,e,rfl,s=>by cases e;exact⟨s,rfl⟩
 | [],_::_,_,_,_,_,e,_,_=>by simp [M.aY]at e
 | _::_,[],_,_,_,_,e,_,_=>by simp [M.aY]at e
 | i::is,d::ds,_,_,_,_,e,⟨v,r,rfl,c,a⟩,s=>by
  obtain⟨f,b⟩:=wO (by simpa [M.aY]using e) a (s.ea c)
  exact⟨f,congrArg (· +1) b⟩
def gM (Y:Ge) (c:List Nat) (one:Bool):TG:=λv U H Q=>match one with
 | true=> ∃i,c= [i]/\Q (U.set i (k0 v)) H
 | false=> ∃G ds b a,v= .ref a/\e7 Y G H a b/\ab Y G H ds b/\c.length=b.length/\Q (gH c b U) H
theorem xY (b:Go Y F X E k cf): ∀ {is}{es},zw cf is es=u0->lr X es (λvs U H Q=>vs.length=is.length/\Q (gH is vs U) H)
 | [],[],_=>λa s U H vs d Q I r h=>by
  have c:=Ai5 h.1
  subst c
  exact sr a s U H [] d Q I r ⟨rfl,h.2⟩
 | [],_::_,h=>by simp [zw]at h
 | _::_,[],h=>by simp [zw]at h
 | i::is,e::es,h=>by
  cases e with
  | Name x p=>
   simp only [zw,Aa1,decide_eq_true_eq]at h
   obtain⟨⟨j,m⟩,g⟩:=h
   have l:=xY b g
   have c:=b.iV x m
   have f:=qV (W6 (pos:=p) (by rw [b.N];exact b.nd) (by rw [b.N];exact j) c.1 c.2) l
   intro a s U H vs d Q I r q
   refine f a s U H vs d Q I r ?_
   cases vs with
   | nil=>simp at q
   | cons v vs=>
    refine⟨v,vs,rfl,?_⟩
    exact⟨by simpa using q.1,q.2⟩
  | _=>simp [zw]at h
theorem vX : ∀ {is}{es},zw cf is es=u0->(assignEach es env).length=is.length/\(assignEach es env).findIdx? (·.1)=y0
 | [],[],_=>⟨rfl,rfl⟩
 | [],_::_,h=>by simp [zw]at h
 | _::_,[],h=>by simp [zw]at h
 | i::is,e::es,h=>by
  cases e with
  | Name x p=>
   simp only [zw,Aa1]at h
   obtain⟨b,a⟩:=vX h.2
   have e1:assignEach (.Name x p::es) env=(k9,assign (.Name x p) env)::assignEach es env:=rfl
   rw [e1]
   refine⟨congrArg (· +1) b,?_⟩
   rw [List.findIdx?_cons]
   simp [a]
  | _=>simp [zw]at h
def Wy (c:Go Y F X E k cf)(h:zg cf tg one e=u0):PG X e (gM Y tg one):=by
 cases one with
 | true=>
  cases e with
  | Name x p=>
   simp [zg,Aa1]at h
   cases tg with
   | nil=>simp at h
   | cons i r=>
    cases r with
    | cons _ _=>simp at h
    | nil=>
     simp only [zw,Aa1,decide_eq_true_eq]at h
     obtain⟨_,⟨t,y⟩,_⟩:=h
     have l:=c.iV x y
     have f:=W6 (pos:=p) (by rw [c.N];exact c.nd) (by rw [c.N];exact t) l.1 l.2
     intro b s U H v u Q I r q
     obtain⟨j,e,q⟩:=q
     cases e
     exact f b s U H v u Q I r q
  | _=>simp [zg]at h
 | false=>
  cases e with
  | Tuple A n p=>
   have h:=h
   obtain⟨w,d⟩:=vX h
   intro b s U H v u Q I r q
   obtain⟨G,B,o,a,rfl,m,z,g,q⟩:=q
   exact (yo (k:=n) (pos:=p) c.calm (xY c h) w d) b s U H _ u Q I r ⟨a,o,rfl,c.K▸m.sq,g.symm,g.symm,q⟩
  | _=>simp [zg]at h
def xp (k) (l): ∀ i,M.Gn (Ab k y0++l) (k+i)=M.Gn l i:=by
 induction k with
 | zero=>intro i;simp
 | succ k a=>intro i;rw [Af2,show k+1+i=(k+i)+1 by lia];exact a i
def Xw (k) (l): ∀ {i},i<k->M.Gn (Ab k y0++l) i=none:=by
 induction k with
 | zero=>intro i h;lia
 | succ k a=>
  intro i h
  cases i with
  | zero=>rfl
  | succ i=>rw [Af2];exact a (by lia)
theorem ZH: ∀(l) (i),M.Gn l i=(l[i]?).join
 | [],_=>by simp
 | _::_,0=>by simp
 | _::r,i+1=>by simpa using ZH r i
def xP (s:aq Y G τ h U H)(e:M.Gi τ j=k0 w): ∃v,U[j]? =k0 (k0 v)/\ak Y G H w v/\(dW w=u0-> ∃i,M.Gn τ j=k0 i/\dW i=u0)/\mf w=true:=by
 unfold M.Gi at e
 cases q:M.Gn τ j with
 | none=>rw [q]at e;cases e
 | some i=>
  obtain⟨v,c,b⟩:=s.slot j i q
  rw [q]at e
  cases i with
  | v d=>cases e;exact⟨v,c,b,λz=>(by cases z),rfl⟩
  | own g=>cases e;obtain⟨a,m,n,o,k,f,l⟩:=b;exact⟨v,c,⟨a,m,n,k,.inl f,l⟩,λ_=>⟨_,rfl,rfl⟩,rfl⟩
  | bor g=>cases e;exact⟨v,c,b,λ_=>⟨_,rfl,rfl⟩,rfl⟩
def iC (k:Nat) (aB:List Nat) (τ:M.Sl):M.Sl:=Ab k y0++aB.map λj=>M.Gi τ j
def A0 (s:aq Y G τ h U H) (kk) (aB)(b:Ub.length=kk+aB.length) (d: ∀i,i<aB.length->Ub[kk+i]? =k0 ((U[aB.getD i 0]?).join)):
 aq Y G (iC kk aB τ) h Ub H where
 len:=by unfold iC;rw [Aa6,Ae2,Aa,b]
 slot:=λi w e=>by
  unfold iC at e
  by_cases f:i<kk
  .rw [Xw kk _ f]at e;cases e
  .obtain⟨j,rfl⟩: ∃j,i=kk+j:=⟨i-kk,by lia⟩
   rw [xp,ZH,Ac]at e
   cases q:aB[j]? with
   | none=>rw [q]at e;cases e
   | some c=>
    rw [q]at e
    have e:=e
    obtain⟨v,l,k,_⟩:=xP s e
    have n:=(Aa0.mp q).1
    refine⟨v,?_,k⟩
    rw [d j n,Ac5,q]
    show k0 ((U[c]?).join)=_
    rw [l]
    rfl
 apart:=λi j o w a g e1 e2 r p=>by
  exfalso
  unfold iC at e1
  by_cases f:i<kk
  .rw [Xw kk _ f]at e1;cases e1
  .obtain⟨m,rfl⟩: ∃j,i=kk+j:=⟨i-kk,by lia⟩
   rw [xp,ZH,Ac]at e1
   cases q:aB[m]? with
   | none=>rw [q]at e1;cases e1
   | some c=>
    rw [q]at e1
    have e1:=e1
    obtain⟨_,_,_,_,z⟩:=xP s e1
    cases z
 heap:=s.heap
end
theorem Zf {env:Env}{d:NameKind}(g:d≠ .free): ∀ {b:List (Str×NameKind)}{x},b.lookup x=k0 d →
 (b.map λ(n,k)=>if(k==NameKind.free&&env.scope.kind== .function&&env.kindOf n==k0 .cell)then(n,NameKind.cell)else(n,k)).lookup x=k0 d
 | [],_,h=>by simp at h
 | (n,k)::r,x,h=>by
  have i:= @Zf env d g r x
  rw [Ab1]
  rw [Ab7]at h
  cases c:x==n with
  | true=>
   rw [c]at h
   have e:=by simpa using h
   subst e
   have j:(k==NameKind.free)=false:=by simpa using g
   simp only [j,Ae9,Ak4,if_false,Ab7,c]
  | false=>
   rw [c]at h
   have q:=i h
   by_cases a:(k==NameKind.free&&env.scope.kind== .function&&env.kindOf n==k0 .cell)=u0
   .simp only [a,if_true,Ab7,c]
    exact q
   .have f:=Ak8.mpr a
    simp only [f,Ak4,if_false,Ab7,c]
    exact q
section
variable {Y:Ge}{F:M.Fx}{X:Cx}{E:XK}{k:Nat}{cf:Cf}
structure kr (cf:Cf) (scope:Scope) (N:List Str) (k:Nat) (aB:List Nat):Prop where
 kind:scope.kind= .function
 Ly:(scope.names.map Prod.fst).Nodup
 names: ∀y∈scope.names,y.2= .local->scope.names.lookup y.1=k0 .local
 free: ∀y∈scope.names,y.2= .free->cf.sc.names.lookup y.1=k0 .cell\/cf.sc.names.lookup y.1=k0 .free
 gQ: ∀x∈N.drop k,scope.names.lookup x=k0 .free
 aB:QM cf aB (N.drop k)=u0
 le:k<=N.length
 nd:N.Nodup
def zL (h:J8 cf scope N kk aB=u0):kr cf scope N kk aB:=by
 simp only [J8,Aa1,decide_eq_true_eq,Ai6]at h
 obtain⟨⟨⟨⟨⟨⟨⟨⟨i,g⟩,d⟩,k⟩,f⟩,j⟩,b⟩,c⟩,l⟩:=h
 exact⟨i,g,λy a=>d y a,λy a=>k y a,λx e=>f x e,j,b,c⟩
theorem Q2 (a:Go Y F X E k cf): ∀ {aB}{xs},QM cf aB xs=u0->cH X aB xs
 | [],[],_=>trivial
 | [],_::_,h=>by simp [QM]at h
 | _::_,[],h=>by simp [QM]at h
 | j::e,x::xs,h=>by
  simp only [QM,Aa1,decide_eq_true_eq]at h
  obtain⟨⟨d,c⟩,b⟩:=h
  exact⟨by rw [a.N];exact d,a.mR x c,Q2 a b⟩
def Q4 (a:Go Y F X E k cf)(h:kr cf scope N kk aB):WZ X scope N kk aB:=
 ⟨h.kind,h.Ly,h.names,λy c b=>a.mR y.1 (h.free y c b),h.gQ,Q2 a h.aB,h.le⟩
def uG (h:WV sc x=u0):sc.names.lookup x=k0 .local\/sc.names.lookup x=k0 .cell\/sc.names.lookup x=k0 .free:=by
 unfold WV at h
 split at h
 .rename_i q;exact .inl q
 .rename_i q;exact .inr (.inl q)
 .rename_i q;exact .inr (.inr q)
 .cases h
def rT (h:iF sc x=u0):sc.names.lookup x=k0 .local\/sc.names.lookup x=k0 .cell:=by
 unfold iF at h
 split at h
 .rename_i q;exact .inl q
 .rename_i q;exact .inr q
 .cases h
def tx (h:lh sc x=u0):sc.names.lookup x=k0 .globalImplicit:=by
 unfold lh at h
 split at h
 .rename_i q;exact q
 .cases h
def JC (a:Go Y F X E k cf)(h:kr cf scope N kk aB) (C:Addr) (j:List Addr) (s:Shared) (H:Hp):Go Y F (Je X N scope C j s H) E0 k { cf with sc:=scope,N:=N } where
 N:=rfl
 K:=a.K
 cl:=a.cl
 ow:=a.ow
 nd:=h.nd
 hB:=λx b=>by
  rcases uG b with q | q | q
  .exact .inl (Zf (by decide) q)
  .exact .inr (.inl (Zf (by decide) q))
  .exact .inr (Xk q)
 tH:=λx b=>Zf (by decide) b
 iV:=λx b=>by
  rcases rT b with q | q
  .exact⟨.inl (Zf (by decide) q),.inr (Zf (by decide) q)⟩
  .exact⟨.inr (Zf (by decide) q),.inl (decide_eq_true q)⟩
 mR:=λx b=>by
  rcases b with q | q
  .exact .inl (Zf (by decide) q)
  .exact Xk q
 gl:=λx b=>Zf (by decide) (tx b)
 calm:=a.calm
 room:=a.room
 d8:=a.d8
 pass:=λc U u v e r _ g=>g.elim
 blt:=a.blt
 con:=a.con
 fn:=λf i=>by
  obtain⟨d,n,o,m,p,l,t⟩:=(a.fn f i).imp λd h=>h.ex
  exact⟨d,⟨n,o,m,p,l,t⟩⟩
 cls:=a.cls
 fld:=a.fld
 kI:=a.kI
 e8:=a.e8
theorem vq: ∀(is) (vs) (U) (j),j∉is->(gH is vs U)[j]? =U[j]?
 | [],_,_,_,_=>rfl
 | _::_,[],_,_,_=>rfl
 | i::is,v::vs,U,j,h=>by
  show(gH is vs (U.set i (k0 v)))[j]? =U[j]?
  rw [vq is vs _ j λz=>h (Aa2 _ z),Ae4 (λz:i=j=>h (by rw [z];exact Aa5))]
theorem jM: ∀(is) (vs) (U),(gH is vs U).length=U.length
 | [],_,_=>rfl
 | _::_,[],_=>rfl
 | i::is,v::vs,U=>by
  show(gH is vs (U.set i (k0 v))).length=U.length
  rw [jM is vs,Ae1]
def ae (e:M.Gr tg one d τ=k0 τ') (r:aC Y G H d x) (s:aq Y G τ h U H)
 (f: ∀L,aq Y G τ' h L H->(∀ j,j∉tg->L[j]? =U[j]?)->L.length=U.length->Q L H):gM Y tg one x U H Q:=by
 cases one with
 | true=>
  cases tg with
  | nil=>cases e
  | cons i k=>
   cases k with
   | cons _ _=>cases e
   | nil=>
    cases e
    exact⟨i,rfl,f _ (s.ea r) (λj c=>Ae4 λz=>c (by simp [z])) (Ae1 ..)⟩
 | false=>
  cases d with
  | tup n=>
   obtain⟨a,b,rfl,l,g⟩:=r
   obtain⟨m,o⟩:=wO (e) g s
   exact⟨G,n,b,a,rfl,l,g,o,f _ m (λj c=>vq tg b U j c) (jM tg b U)⟩
  | _=>cases e
def Q9 {step:M.D->M.AH->M.R (Option M.D)}(e:M.Gy step (x::ds) h= .ok ys hf): ∃o h1 r,step x h= .ok o h1/\M.Gy step ds h1= .ok r hf/\ys=(match o with | some y=>y::r | none=>r):=by
 rw [M.Gy]at e
 split at e
 .rename_i o h1 e1
  split at e
  .rename_i r a e2
   cases e
   exact⟨o,h1,r,e1,e2,rfl⟩
  .cases e
 .cases e
def n8 (F:M.Fx) (g:List Nat) (one:Bool) (f:M.Sl) (a:Bool) (c elt:M.E):M.D->M.AH->M.R (Option M.D):=λd h=>match M.Gr g one d f with
 | none=> .fail
 | some e=>(if a then(M.eval F c e h).bind λx h=>M.R.of h (M.G8 h x)else .ok u0 h).bind λb h=>match b with
  | true=>(M.eval F elt e h).bind λy h=>(M.R.of h y.d).bind λy h=> .ok (k0 y) h
  | false=> .ok y0 h
def Fv :M.eval F (.comp tg one kk aB it k6 c elt) τ h=(M.Gk F it τ h).bind λds h=>
 if ds.length<=M.bf then(M.Gy (n8 F tg one (iC kk aB τ) k6 c elt) ds h).bind λys h=> .ok (.own ys) h else .fail:=by
 rw [M.eval];rfl
noncomputable def kq (F:M.Fx) (a:Bool) (c:M.E):M.Sl->M.AH->M.R Bool:=λτ h=>if a then M.Gm F c τ h else .ok u0 h
def zi {r:M.R α}(e:r.bind f= .ok b h): ∃a h1,r= .ok a h1/\f a h1= .ok b h:=by
 cases r with
 | ok a h1=>exact⟨a,h1,rfl,e⟩
 | fail=>cases e
def Z8 (a:Jh iter=u0): ∀v,foldedSetIterable iter env v=pure v:=λv=>by cases iter<;>first | rfl | (simp [Jh]at a)
def sL (htk: ∀i∈tg,i<kk)(h0:tD Y E (M.eval F (.comp tg one kk aB it k6 c elt)) U H Q):
 mV kk aB (gi Y E k9 (M.Gk F it)) (λ_ _ _ _=>gM Y tg one) (λ_ _ _ _=>cT Y E0 (kq F k6 c)) (λ_ _ _ _=>tD Y E0 (M.eval F elt)) U H Q:=by
 obtain⟨G,S,h,s,p⟩:=h0
 rw [Fv]at p
 refine⟨G,S,h,s,?_⟩
 cases qi:M.Gk F it S h with
 | fail=>rw [qi]at p;exact p
 | ok f h1=>
  rw [qi]at p
  intro G1 H1 e1 y J C N c0 _ Ca fp st
  have p:ax Y E G H (if f.length<=M.bf then(M.Gy _ f h1).bind λys h=> .ok _ h else .fail) λw t n g=> ∀v,ak Y n g w v->aJ S U H w v->Q v g:=p
  by_cases hL:f.length<=M.bf
  rotate_left
  .rw [if_neg hL]at p;exact p.elim
  rw [if_pos hL]at p
  cases qc:M.Gy _ f h1 with
  | fail=>rw [qc]at p;exact p.elim
  | ok ys hf=>
   rw [qc]at p
   have hLs:=Wi
   refine⟨λi m yv Ub g=> ∃n t done Jp,(m=f.length-i/\i<=f.length/\done.length<=i)/\Ext G1 H1 n g/\ai Y n t g/\C n g/\ab Y n g done yv ∧
    M.Gy (n8 F tg one (iC kk aB S) k6 c elt) (f.drop i) t= .ok Jp hf/\ys=done++Jp/\Ub.length=kk+aB.length/\ ∀j,j<aB.length->Ub[kk+j]? =k0 ((U[aB.getD j 0]?).join),⟨f.length,?_⟩,?_⟩
   .refine⟨G1,h1,[],ys,⟨by simp,Ae6 _,Aa9 _⟩,Ext.refl,y,c0,rfl,qc,rfl,?_,λj hj=> ?_⟩
    .unfold lQ;rw [Aa6,Ae2,Aa]
    .unfold lQ
     rw [Ad9 (by simp),Ae2,An,Ac,Aa4 hj,Ac5,Aa4 hj]
     rfl
   .rintro i m yv Ub g ⟨n,t,done,Jp,⟨rfl,hi',hd⟩,e2,e,L,rd,Z,u,k,A⟩
    have ldone:=rd.length
    by_cases q:i<f.length
    .refine .inr ⟨N.go i n g L q,by lia,_,λyv' Ub' O w=>⟨f.length-(i+1),by lia,w⟩,λx O hy=> ?_⟩
     obtain⟨G4,x4,hx4,d,ed,rdx⟩:=N.fi i n g x O L q hy
     have L:=N.keep _ _ _ _ t L x4 e
     have rd:=rd.ext x4 e
     have e2:=e2.trans y x4
     have e:=hx4 _ e
     have edr:f.drop i=d::f.drop (i+1):=by
      rw [Am4 q]
      rw [Aa4 q]at ed
      cases ed
      rfl
     rw [edr]at Z
     obtain⟨o,h2,r,W,R,er⟩:=Q9 Z
     unfold n8 at W
     cases qb:M.Gr tg one d (iC kk aB S)with
     | none=>rw [qb]at W;cases W
     | some I=>
      rw [qb]at W
      have sb:=A0 (s.ext (e1.trans s.heap e2) e) kk aB k A
      refine ae qb rdx sb λU2 s2 same V=> ?_
      have l: ∀j,j<aB.length->U2[kk+j]? =k0 _:=λj hj=>by
       rw [same _ λz=>by have:=htk _ z;lia];exact A j hj
      obtain⟨b,h3,B,a⟩:=zi (show (kq F k6 c I t).bind _=_ from W)
      refine⟨G4,I,t,s2,?_⟩
      rw [B]
      intro G3 H3 T P
      have s3:=s2.ext T P
      cases b with
      | false=>
       refine nv ?_
       have a:=a
       cases a
       exact⟨G3,_,done,r,⟨rfl,by lia,by lia⟩,e2.trans y T,P,N.keep _ _ _ _ t L T e,rd.ext T e,R,by rw [u,er],by rw [V];exact k,l⟩
      | true=>
       refine oj ?_
       obtain⟨w,h4,qe,a⟩:=zi (a)
       refine⟨G3,I,h3,s3,?_⟩
       rw [qe]
       intro G4 H4 e4 hr4 v rw' fw
       obtain⟨dd,h5,X,a⟩:=zi (a)
       cases qw:w.d with
       | none=>rw [qw]at X;cases X
       | some d'=>
        rw [qw]at X
        cases X
        cases (a)
        obtain⟨G5,e5,s5,rdv,m5⟩:=om e4 (s3.ext e4 hr4) s3 rw' fw qw
        have K:=T.trans e e5
        refine⟨G5,_,done++ [dd],r,⟨rfl,by lia,by rw [Aa6,List.length_singleton];lia⟩,e2.trans y K,s5.heap,N.keep _ _ _ _ t L K e,(rd.ext K e).append ⟨v,[],rfl,rdv,rfl⟩,R,?_,by rw [V];exact k,l⟩
        rw [u,er]
        simp
    .have ei:i=f.length:=by lia
     subst ei
     rw [List.drop_length]at Z
     cases (Z)
     rw [Ae3]at u
     subst u
     exact .inl ⟨N.stop _ n g L (Aa9 _) (Aa9 _),by lia,λD hD=>av.own (av.mk p (e1.trans s.heap e2) s.heap) e rd D hD⟩
def BZ (d:Go Y F X E k cf)(b:kr cf scope N kk aB)
 (m:aB.length=(N.drop kk).length) (e:zg { cf with sc:=scope,N:=N } tg one t=u0) (f: ∀i∈tg,i<kk) (a:Jh iter=u0)
 (g:PI X t iter (gi Y E k9 (M.Gk F it)))
 (h: ∀C fp s H,PE (Je X N scope C fp s H) y (tD Y E0 (M.eval F elt)))
 (j: ∀C fp s H,gJ (Je X N scope C fp s H) ifs (cT Y E0 (kq F k6 c))):
 PE X (.ListComp y [⟨t,iter,ifs,0⟩] scope pos) (tD Y E (M.eval F (.comp tg one kk aB it k6 c elt))):=
 PE.imp (AI (Q4 d b) g (λC fp s H=>Wy (JC d b C fp s H) e) j h d.calm (Z8 a)) λU H Q l=>sL f l
def EJ (a:Go Y F X E k cf)(u:cf.N[i]? =k0 x) (o:iF cf.sc x=u0)(j:swapsWith (.ListComp y [⟨t,iter,ifs,0⟩] scope p0) (k0 (.Name x pos2)) pos.line X.env=pure u0) (e:kr cf scope N kk aB)
 (m:aB.length=(N.drop kk).length) (h:zg { cf with sc:=scope,N:=N } tg one t=u0) (f: ∀i∈tg,i<kk) (d:Jh iter=u0)
 (r:PI X t iter (gi Y E k9 (M.Gk F it)))
 (p: ∀C fp s H,PE (Je X N scope C fp s H) y (tD Y E0 (M.eval F elt)))
 (n: ∀C fp s H,gJ (Je X N scope C fp s H) ifs (cT Y E0 (kq F k6 c))):
 PS X (.Assign [.Name x pos2] (.ListComp y [⟨t,iter,ifs,0⟩] scope p0) pos) (gX (tD Y E (M.eval F (.comp tg one kk aB it k6 c elt))) (X5 i)):=by
 have l:=a.iV x o
 have g:=EC (by rw [a.N];exact a.nd) (by rw [a.N];exact u) l.1 (Q4 a e) r (λC fp s H=>Wy (JC a e C fp s H) h) n p j a.calm (Z8 d) l.2
 exact λb s U H D I q=>g b s U H D I (sL f q)
def JI (e:M.GF h o=k0 (r,xs)):o=k0 (.v (.ref r))/\h[r]? =k0 (.lst xs):=by
 unfold M.GF at e
 split at e
 .split at e
  .rename_i q
   cases e
   exact⟨rfl,q⟩
  .cases e
 .cases e
def FL :ju X (.builtin "isinstance") (fun xs H Q=> ∃a vs,xs= [.ref a,.ty "list"]/\H a=some (.lst vs)/\Q (.bl true) H):=by
 intro b s U H xs g Q I r ⟨a,vs,e,rd,q⟩
 subst e
 obtain⟨u,h,rfl,d,f⟩:=o9 r
 cases f
 exact Zj I d (.lst rd) (QR _) λc=>⟨.bl u0,H,I.tok c,rfl,q⟩
def Ih (c:Go Y F X E k cf)(n:b7 cf.sc "isinstance" g=true) (t:b7 cf.sc "list" y=true) (i:wb x=true) (C:PE X x (tD Y E (M.eval F a))):PE X (.Call g [x,y] [] pos) (tD Y E (M.eval F (.dW a))):=by
 obtain⟨p,rfl,D,v⟩:=Zc n
 obtain⟨q,rfl,J,w⟩:=Zc t
 have dq: "list" ∈cn:=by decide
 have b: "isinstance" ∈cn:=by decide
 have e:PE X (.Name _ q) (tC (.ty "list")):=rD (c.gl _ J) (c.blt _ dq) (by decide +kernel) rfl (Xp dq) w
 refine PE.imp (Qn FL (c.gl _ D) (c.blt _ b) boot_isinstance (Xf C (Xf e Wn) (jb i)) (Xp b) v (jb i) rfl) λU H Q r=> ?_
 obtain⟨G,K,h,s,p⟩:=r
 refine Wa s.heap Ext.refl s p λl v1 A L N e1 B j u O d=> ?_
 cases q:M.GF A (k0 l)with
 | none=>rw [q]at d;exact d.elim
 | some f=>
  rw [q]at d
  obtain⟨m,I⟩:=JI q
  cases m
  obtain⟨_,rfl⟩:=(u)
  obtain⟨_,z,o,_⟩:=j.heap.cell f.1 f.2 I
  exact⟨_,z,rfl,o,ax.val d e1 j.heap rfl trivial⟩
def Qs (b:Go Y F X E k cf)(h1:cf.N[i]? =k0 x) (c:WV cf.sc x=u0) (a:bh x=u0):PE X (.Name x p) (m9 i):=by
 unfold bh at a
 rw [Aa1]at a
 exact XI (by rw [b.N];exact h1) (b.hB x c) (by simpa using a.1) (by simpa using a.2)
def yG: "dict" ∈cn:=by decide
def De (c:Go Y F X E k cf)(h1:cf.N[i]? =k0 y) (u:WV cf.sc y=u0) (l:bh y=u0) (q:PE X x (tD Y E (M.eval F a))):PE X (.Compare x [lV neg] [.Name y j] pos) (tD Y E (M.eval F (.cP neg a i))):=by
 refine PE.imp (yZ (uh neg) q (Qs c h1 u l) (Jr rfl)) λU H Q f=> ?_
 obtain⟨G,B,h,s,p⟩:=f
 refine Wa s.heap Ext.refl s p λw v1 h1 d C e1 o b g I j=> ?_
 unfold M.cP at j
 split at j
 .rename_i v r A n
  cases g
  obtain⟨m,D,z,t,e⟩:=Qq b n
  exact⟨_,m,aK v,_,_,rfl,rfl,t,by rw [nS e];exact j d _ e1 b.heap _ rfl trivial⟩
 .exact j.elim
def HG (c:Go Y F X E k cf)(h1:cf.N[i]? =k0 y) (u:WV cf.sc y=u0) (l:bh y=u0) (q:PE X x (tD Y E (M.eval F a))):PT X (.Compare x [lV neg] [.Name y j] pos) (cT Y E (M.Gm F (.cP neg a i))):=by
 refine PT.imp (tS (uh neg) q (Qs c h1 u l) (Jr rfl)) λU H Q f=> ?_
 obtain⟨G,B,h,s,p⟩:=f
 unfold M.Gm at p
 rw [M.eval,xi]at p
 refine Wa s.heap Ext.refl s p λw v1 h1 d C e1 o b g I j=> ?_
 unfold M.cP at j
 split at j
 .rename_i v r A n
  cases g
  obtain⟨m,D,z,t,e⟩:=Qq b n
  exact⟨_,m,aK v,_,_,rfl,rfl,t,_,rfl,by rw [nS e];exact j d _ e1 b.heap⟩
 .exact j.elim
def L4 (g:Go Y F X E k cf)(h1:cf.N[i]? =k0 y) (J:WV cf.sc y=u0) (u:bh y=u0) (f:qd x=u0) (B:PE X x (tD Y E (M.eval F a))):PE X (.Subscript (.Name y j) x pos) (tD Y E (M.eval F (.eU i a))):=by
 refine PE.imp (oN uC (Qs g h1 J u) B (ZU f)) λU H Q n=> ?_
 obtain⟨G,l,h,s,p⟩:=n
 rw [M.eval]at p
 cases q:M.GU h (M.Gn l i)with
 | none=>rw [q]at p;exact p.elim
 | some I=>
  obtain⟨S,D⟩:=I
  rw [q]at p
  have sl:=(Qq s q).1
  refine⟨_,sl,Wa s.heap Ext.refl s p λL v1 h1 P R e1 A e t V j=> ?_⟩
  unfold M.eU at j
  split at j
  .rename_i K r O z
   cases t
   obtain⟨c,T,N,C,m⟩:=Qq e z
   have b:=by rw [sl]at c;exact Ad6.inj (Ad6.inj c)
   split at j
   .rename_i d w
    obtain⟨v,o,rv⟩:=yh m w
    exact⟨aK K,_,_,v,rfl,b,C,o,(av.mk j e1 s.heap).v e.heap rv⟩
   .exact j.elim
  .exact j.elim
def Fo (c:Go Y F X E k cf)(f:b7 cf.sc "dict" g=true) (h1:cf.N[i]? =some y) (B:WV cf.sc y=true) (t:bh y=true):PE X (.Call g [.Name y p1] [] pos) (tD Y E (M.eval F (.eA i))):=by
 obtain⟨p,rfl,w,n⟩:=Zc f
 refine PE.imp (zz Hi (c.gl _ w) (c.blt _ yG) (by decide +kernel) (Xf (Qs c h1 B t) Wn rfl) (Xp yG) n rfl rfl) λU H Q m=> ?_
 obtain⟨G,j,h,s,p⟩:=m
 rw [M.eval]at p
 cases q:M.GU h (M.Gn j i)with
 | none=>rw [q]at p;exact p.elim
 | some A=>
  obtain⟨r,e⟩:=A
  rw [q]at p
  obtain⟨v,u,d,x,l⟩:=Qq s q
  refine⟨_,v,_,_,rfl,x,λa b=> ?_⟩
  have e1:Ext G H G (aP H a (dS (dG e d))):=Zt _ b
  refine ax.val p (ZA e1 b) (QH (s.heap.new _ b) (λz=>by obtain⟨o,q⟩:=s.heap.live a z;rw [b]at q;cases q) (s.heap.fD b) ⟨u,d,wc,l.ext e1 s.heap⟩) ?_ trivial
  show h.length<G.n+1/\V.ref a= .ref (if h.length=G.n then a else G.aS h.length)
  rw [s.heap.len,if_pos rfl]
  exact⟨Ag _,rfl⟩
def Ee (a:M.Km d=u0) (z:aC Y G H d v):aC Y G' H' d v:=by
 cases d<;>first | exact z | exact absurd a (by simp)
def F1 (e:Ext G H G1 H1) (d:H a=y0):Ext G H G1 (aP H1 a o):=
 ⟨λb u z c=>by rw [Qa (λq:b=a=>by rw [q,d]at z;cases z)];exact e.keep b u z c,e.le,e.aS,e.new,e.fz,e.old,λr f z=>by
   obtain⟨u,z⟩:=z
   obtain⟨h,g⟩:=e.cells r f ⟨u,z⟩
   exact⟨h,by rw [Qa (λq:G.aS r=a=>by rw [q,d]at z;cases z)];exact g⟩⟩
def BS (d:ai Y G h H) (f: ¬G.fz a) (of:dB G a):ai Y G h (aP H a o):=by
 have mon:Mon G H G (aP H a o):=⟨λb u z q=>by rw [Qa (λe:b=a=>f (e▸z))];exact q,Aa9 _,λ_ _=>rfl,λ_ z=>z⟩
 refine⟨d.len,λq c e=>⟨(d.any q c e).1,(d.any q c e).2.mon mon λu z=>by rw [Qa (of q (d.lt e))];exact z⟩,d.inj,λb z=> ?_⟩
 obtain⟨u,q⟩:=d.live b z
 exact⟨u,by rw [Qa (λe:b=a=>f (e▸z))];exact q⟩
def gP (G:Gh) (H:Hp) (a:Addr) (o:HO):Prop:=H a=k0 o/\ ¬G.fz a/\dB G a
def gP.ext (l:gP G H a o) (e:Ext G H G1 H1):gP G1 H1 a o:=
 ⟨e.keep a o l.1 l.2.2,λz=>(e.old a z).elim l.2.1 (λq=>by rw [l.1]at q;cases q),e.off l.1 l.2.2⟩
def D4 {b c a k:M.Tx}(h:ak Y G H w1 v1) (j:ak Y G H w2 v2) (i:ak Y G H w3 v3) (e: [(b,w1),(c,w2),(a,w3)].lookup k=k0 w): ∃v,[(aK b,v1),(aK c,v2),(aK a,v3)].lookup (aK k)=k0 v/\ak Y G H w v:=by
 simp [Ab7,List.lookup_nil]at e ⊢
 simp [oI]
 cases d:k==b with
 | true=>rw [d]at e;cases e;exact⟨v1,rfl,h⟩
 | false=>
  rw [d]at e
  cases g:k==c with
  | true=>rw [g]at e;cases e;exact⟨v2,rfl,j⟩
  | false=>
   rw [g]at e
   cases f:k==a with
   | true=>rw [f]at e;cases e;exact⟨v3,rfl,i⟩
   | false=>rw [f]at e;cases e
def Lg (R:Go Y F X E k cf)(h1:cf.N[i]? =k0 x) (B:WV cf.sc x=u0) (J:bh x=u0) (y:iO k1 q1=u0) (w:iO k2 q2=u0) (t:iO k3 q3=u0) (O: [k1,k2,k3].Nodup)
 (N:PE X y1 (tD Y E (M.eval F a))) (hb:PE X y2 (tD Y E (M.eval F b))) (Z:PE X y3 (tD Y E (M.eval F c))):PE X (.Subscript (.Dict [q1,q2,q3] [y1,y2,y3] L) (.Name x p2) pos) (tD Y E (M.eval F (.fT k1 a k2 b k3 c i))):=by
 obtain⟨j1,o1,rfl⟩:=nu y
 obtain⟨j2,S,rfl⟩:=nu w
 obtain⟨j3,o3,rfl⟩:=nu t
 have ok:kX X [aK k1,aK k2,aK k3] [tD Y E _,tD Y E _,tD Y E _] [k0 (.Constant (.str (aK k1)) j1 o1),k0 (.Constant (.str (aK k2)) j2 S),k0 (.Constant (.str (aK k3)) j3 o3)] [y1,y2,y3]:=
  ⟨_,_,_,_,_,_,_,rfl,rfl,rfl,N,_,_,_,_,_,_,_,rfl,rfl,rfl,hb,_,_,_,_,_,_,_,rfl,rfl,rfl,Z,rfl,rfl,rfl⟩
 refine PE.imp (oN uC (Mf ok (by simp) (show 3<=15 by decide) (Ao7.map (l:= [k1,k2,k3]) aK (λa b z q=>z (wC q)) O)) (Qs R h1 B J) (ZU rfl)) λU H Q qq=> ?_
 obtain⟨G,τ,h,s,p⟩:=qq
 rw [M.eval]at p
 intro r e
 have I:Ext G H G (aP H r (dS [])):=Zt _ e
 have P:aq Y G τ h U _:=s.ext I (s.heap.new _ e)
 have l0:gP G (aP H r (dS [])) r _:=⟨wc,s.heap.iP e,s.heap.fD e⟩
 refine Wa s.heap I P p λw1 v1 h1 G1 H1 e1 m C V f1 L=> Wa s.heap e1 C L λw2 v2 B G2 H2 e2 j o W f2 p2=> Wa s.heap e2 o p2 λw3 v3 J G3 H3 e3 g A r3 f3 f=> ?_
 have n:=((l0.ext m).ext j).ext g
 refine⟨n.1,?_⟩
 unfold M.fT at f
 split at f
 .rename_i D es
  obtain⟨v,ev,rv⟩:=A.slot i _ es
  cases (show v= .str (aK D)from rv)
  split at f
  .rename_i d ed
   split at f
   .rename_i K
    obtain⟨u,T,ru⟩:=D4 ((V.ext j C.heap).ext g o.heap) (W.ext g o.heap) r3 ed
    exact⟨_,ev,aK D,_,_,u,rfl,rfl,wc,T,ax.val f (F1 e3 e) (BS A.heap n.2.1 n.2.2) (v:=u) (show aC Y G3 _ d u from Ee K ru) trivial⟩
   .exact f.elim
  .exact f.elim
 .exact f.elim
def su (h:Str.ofString a=Str.ofString b):a=b:=by
 rw [Str.ofString_eq_toList,Str.ofString_eq_toList]at h
 have e:=by
  have:=congrArg (λs:Str=>s.cps.toList) h
  simpa using this
 have inj: ∀(l m:List Char),l.map Char.toNat=m.map Char.toNat->l=m:=by
  intro l
  induction l with
  | nil=>intro m q;cases m with | nil=>rfl | cons _ _=>cases q
  | cons c l f=>
   intro m q
   cases m with
   | nil=>cases q
   | cons d m=>
    simp [List.cons.injEq]at q
    rw [Char.toNat_inj.mp q.1,f m q.2]
 exact String.toList_inj.mp (inj _ _ e)
def QK (e:M.GZ h o=k0 (r,c,fs)):o=k0 (.v (.ref r))/\h[r]? =k0 (.obj c fs):=by
 unfold M.GZ at e
 split at e
 .split at e
  .rename_i q
   cases e
   exact⟨rfl,q⟩
  .cases e
 .cases e
def yQ (s:aq Y G τ h U H)(e:M.GZ h (M.Gn τ i)=k0 (r,c,fs)):U[i]? =k0 (k0 (.ref (G.aS r))):=by
 obtain⟨e1,e2⟩:=QK e
 obtain⟨v,d,b⟩:=s.slot i _ e1
 obtain⟨_,a⟩:=(show r<G.n/\v= .ref (G.aS r)from b)
 rw [d,a]
abbrev gz (fs:List (String×M.D)):List Str:=fs.map λp=>Str.ofString p.1
section
variable {G:Gh}{H:Hp}
def rK (a b):(Jg a==Str.ofString b)=(a==b):=by
 cases q:a==b with
 | true=>rw [eq_of_beq q];exact beq_self_eq_true _
 | false=>exact beq_eq_false_iff_ne.mpr λz=>(beq_eq_false_iff_ne.mp q) (su z)
theorem sR : ∀ {fs}{i},ab Y G H (fs.map (·.2)) i->fs.lookup f=k0 d-> ∃v,((gz fs).zip i).lookup (Jg f)=k0 v/\aC Y G H d v
 | [],_,_,e=>by cases e
 | (g,x)::fs,_,⟨v,r,rfl,b,a⟩,e=>by
  rw [Ab7]at e
  show ∃w,(((Str.ofString g),v)::(gz fs).zip r).lookup (Jg f)=k0 w/\_
  rw [Ab7,rK]
  cases q:f==g with
  | true=>rw [q]at e;cases e;exact⟨v,rfl,b⟩
  | false=>rw [q]at e;exact sR a e
theorem J5 : ∀ {fs}{a:List V},fs.lookup f=y0->((gz fs).zip a).lookup (Jg f)=y0
 | [],_,_=>rfl
 | (g,x)::fs,[],_=>rfl
 | (g,x)::fs,v::r,e=>by
  rw [Ab7]at e
  show(((Str.ofString g),v)::(gz fs).zip r).lookup (Jg f)=y0
  rw [Ab7,rK]
  cases q:f==g with
  | true=>rw [q]at e;cases e
  | false=>rw [q]at e;exact J5 e
theorem jU (rv:aC Y G H d v): ∀ {fs}{j},ab Y G H (fs.map (·.2)) j-> ∃i,ab Y G H ((M.aW f d fs).map (·.2)) i/\L2.aW (Jg f) v ((gz fs).zip j)=(gz (M.aW f d fs)).zip i
 | [],_,z=>by cases z;exact⟨[v],⟨v,[],rfl,rv,rfl⟩,rfl⟩
 | (g,x)::fs,_,⟨u,r,rfl,e,c⟩=>by
  show ∃i,ab Y G H ((if g=f then(g,d)::fs else(g,x)::M.aW f d fs).map (·.2)) i/\(if Str.ofString g=Jg f then(Str.ofString g,v)::(gz fs).zip r else(Str.ofString g,u)::L2.aW (Jg f) v ((gz fs).zip r))=(gz (if g=f then(g,d)::fs else(g,x)::M.aW f d fs)).zip i
  by_cases q:g=f
  .rw [if_pos q,if_pos (congrArg Str.ofString q)]
   exact⟨v::r,⟨v,r,rfl,rv,c⟩,rfl⟩
  .rw [if_neg q,if_neg λz=>q (su z)]
   obtain⟨i,a,b⟩:=jU rv c
   exact⟨u::i,⟨u,i,rfl,e,a⟩,by rw [b];rfl⟩
end
def AO (e:Ext G H G1 H1) (a:r<G.n):ak Y G1 H1 (.v (.ref r)) (.ref (G.aS r)):=⟨Ab3 a e.le,by rw [e.aS r a]⟩
def HM (b:attributeBase o name env (eval o env)=eval o env) (a:methodCallForm args.length (backTo pos (starEach args env)) (backToKw pos (keywordEach [] env))=u0) (c:(apos.endLine==pos.line)=u0):
 eval (.Call (.Attribute o name apos) args [] pos) env=(do
  let i ←eval o env
  standAt apos.atName
  let (f,first) ←holding [i] (getMethod i name (do return (← importBound o env).getD u0))
  callWith pos f first (backTo pos (starEach args env)) (backToKw pos (keywordEach [] env))):=by
 have e1:methodCallForm (args.length+([]:List Keyword).length) _ _=true:=a
 have e2:methodCallPos u0 o env apos pos=pure pos:=by unfold methodCallPos;simp [c]
 rw [arm_eval_Call,b]
 unfold methodCall
 rw [e1]
 simp only [e2,calleeOf,if_true,pure_bind]
def La (h: ∀e∈args,wb e=u0) (b:args.length<29):methodCallForm args.length (backTo pos (starEach args env)) (backToKw pos (keywordEach [] env))=true:=by
 unfold methodCallForm
 have e1:(backTo pos (starEach args env)).all (λx=> !x.1)=true:=by
  have:=Ws (env:=env) (pos:=pos) h
  rw [Ai6]
  intro x a
  rw [Ak7]at this
  simpa using this x a
 rw [e1]
 have e2:(backToKw pos (keywordEach [] env))= []:=rfl
 rw [e2]
 simp
 lia
def FZ (l:Go Y F X E k cf)(O:b7 cf.sc c g=u0) (L:cf.ob.e8.contains (c,q0)=u0) (I: ∀e∈y::ys,wb e=u0) (ha:PA X (y::ys) (fP Y E (M.Gf F es))):
 PE X (.Call g (y::ys) [] pos) (tD Y E (M.eval F (.make c q0 es))):=by
 obtain⟨p0,rfl,g2,Z⟩:=Zc O
 obtain⟨u,fa,fd,ps,mk,q,N⟩:=l.e8 c q0 L
 refine PE.imp (AX mk q l.d8 (l.gl _ g2) u N .nil l.pass ha Z (jb (I _ Aa5)) (Ws λe he=>I e (Aa2 _ he))) λU H Q S=> ?_
 obtain⟨G,τ,h,s,p⟩:=S
 refine Js s.heap Ext.refl s p λA vs i f r e1 e1' j T b=> ?_
 intro a m n J ne
 rw [Ae3]
 have B:aP r m (.own a) a=none:=by rw [Qa (Ne.symm ne)];exact n
 have R:Ext f r f (aP r m (.own a)):=Zt _ J
 have P:Ext f _ f (aP _ a (.ins (Y.ca c) m [])):=Zt _ B
 have D:=ZA (R.trans j.heap P) n
 have z:=by
  show i.length<f.n+1/\V.ref a= .ref (if i.length=f.n then a else f.aS i.length)
  rw [j.heap.len,if_pos rfl]
  exact⟨Ag _,rfl⟩
 refine⟨f.cell a,i++ [.obj c []],.v (.ref i.length)::A.map M.W.arg,(Bj ((j.heap.new (.own a) J).new (.ins (Y.ca c) m []) B) (j.heap.iP n) (j.heap.fD n) wc),⟨.ref a,vs,rfl,z,bj.ext D j.heap (Zz T)⟩,λw o=> ?_,?_⟩
 .obtain rfl | o:=Ab8.mp o
  .rfl
  .exact Qy A w o
 .cases C:F.call q0 _ (i++ [.obj c []])with
  | fail=>rw [C]at b;exact b.elim
  | ok w h'=>
   rw [C]at b
   intro G' W x t v rv _
   cases w with
   | own _=>exact b.elim
   | bor _=>exact b.elim
   | v d=>
    cases d with
    | au=>
     refine⟨rv,?_⟩
     have b:=b
     have K:=z.1
     exact b G' W ((e1.trans s.heap D).trans s.heap x) t _ ⟨Ab3 K x.le,by rw [x.aS _ K];exact z.2⟩ trivial
    | _=>exact b.elim
def CZ (i:Go Y F X E k cf)(j:cf.ob.fl.contains (c,f)=u0) (g:wS x=u0) (J:PE X x (tD Y E (M.eval F a))):PE X (.Attribute x (Jg f) pos) (tD Y E (M.eval F (.aI a c f))):=by
 refine PE.imp (IG J (bC g _)) λU H Q y=> ?_
 obtain⟨G,O,h,s,p⟩:=y
 refine Wa s.heap Ext.refl s p λw v D e R e1 I l A S b=> ?_
 cases q:M.GZ D (k0 w)with
 | none=>rw [q]at b;exact b.elim
 | some o=>
  obtain⟨r,n,fs⟩:=o
  rw [q]at b
  dsimp only at b
  split at b
  .rename_i g
   subst g
   obtain⟨d,C,b⟩:=b.of
   obtain⟨t,e2⟩:=QK q
   cases t
   obtain⟨_,K⟩:=(show r<e.n/\v= .ref (e.aS r)from A)
   obtain⟨P,B,N,m,L⟩:=l.heap.obj r _ fs e2
   obtain⟨u,z,rv⟩:=sR L C
   exact⟨e.aS r,Y.ca n,B,_,u,K,m,(i.fld _ _ j).1,(i.fld _ _ j).2,z,ax.val b e1 l.heap rv trivial⟩
  .exact b.elim
def A5 (f:Go Y F X E k cf)(B:cf.ob.mt.contains (c,m,q0)=u0) (Z:(apos.endLine==pos.line)=u0) (z:(y::ys).length<=20) (n:wS x=u0) (L:PE X x (tD Y E (M.eval F a))) (t: ∀e∈y::ys,wb e=u0) (V:PA X (y::ys) (fP Y E (M.Gf F es))):
 PE X (.Call (.Attribute x (Jg m) apos) (y::ys) [] pos) (tD Y E (M.eval F (.bL a c m q0 es))):=by
 obtain⟨R,fa,fd,ps,mt,j,C⟩:=f.kI c m q0 B
 refine PE.imp (BQ L R mt j f.room C .nil f.pass V (jb (t _ Aa5)) (Ws λe he=>t e (Aa2 _ he)) (HM (bC n _) (La t (by lia)) Z)) λU H Q K=> ?_
 obtain⟨G,τ,h,s,p⟩:=K
 refine Wa s.heap Ext.refl s p λw v S g H1 e1 T A N f1 b=> ?_
 cases q:M.GZ S (k0 w)with
 | none=>rw [q]at b;exact b.elim
 | some o=>
  obtain⟨r,c',fs⟩:=o
  rw [q]at b
  dsimp only at b
  split at b
  .rename_i n
   obtain⟨rfl,z⟩:=n
   obtain⟨J,e2⟩:=QK q
   cases J
   obtain⟨l,rfl⟩:=(show r<g.n/\v= .ref (g.aS r)from N)
   obtain⟨nf,O,us,I,ru⟩:=A.heap.obj r _ fs e2
   refine⟨g.aS r,O,_,rfl,I,J5 (Aj6.mp z),Js s.heap e1 A b λu P h2 W H2 e2 d D r2 p2=> ?_⟩
   rw [Ae3]
   refine⟨W,h2,.v _::u.map M.W.arg,D.heap,⟨.ref _,P,rfl,AO d l,Zz r2⟩,λw i=> ?_,av.mk p2 e2 s.heap⟩
   obtain rfl | i:=Ab8.mp i
   .rfl
   .exact Qy u w i
  .exact b.elim
def Cb (o:Go Y F X E k cf)(l:(apos.endLine==pos.line)=u0) (n:wS x=u0) (e:PE X x (tD Y E (M.eval F a))):
 PE X (.Call (.Attribute x (Jg "bit_length") apos) [] [] pos) (tD Y E (M.eval F (.fc a))):=by
 refine PE.imp (MO PySem.F.plainAttrs_int slot_int_bit_length type_int_bit_length F0 e (bC n _) l) λU H Q d=> ?_
 obtain⟨G,r,h,s,p⟩:=d
 refine Wa s.heap Ext.refl s p λw v y t u e1 g m f z b=> ?_
 obtain⟨i,j,b⟩:=b.of
 cases f.int j
 have c:Builtin.Int.intBits i=M.Kb i:=by
  unfold Builtin.Int.intBits M.Kb
  by_cases q:i=0
  .rw [if_pos q,if_pos (by rw [q];rfl)]
  .rw [if_neg q,if_neg (by simpa using q)]
 refine⟨rfl,i,rfl,rfl,?_⟩
 rw [c]
 exact ax.val b e1 m.heap rfl trivial
def Bm (b:ai Y G h H) (l:dj H H'):Ext G H G H'/\ai Y G h H':=
 ⟨⟨λa o e _=>l a o e,Aa9 _,λ_ _=>rfl,λr f d=>absurd f (Ao.mpr d),λ_ h=>h,λ_ h=> .inl h,λr _ ⟨o,e⟩=>⟨o,l _ _ e⟩⟩,
  ⟨b.len,λr c e=>⟨(b.any r c e).1,(b.any r c e).2.mon ⟨λa o _ e=>l a o e,Aa9 _,λ_ _=>rfl,λ_ h=>h⟩ λo e=>l _ _ e⟩,b.inj,λa g=>(b.live a g).imp λo e=>l _ _ e⟩⟩
def gf (key:Int->M.R M.W) (m:Int):Int:=(M.G7 (key m)).getD 0
theorem z7 : ∀ {is}{b i},M.GW key b (gf key b) is=k0 i->(∀ m∈is,∃y,M.G7 (key m)=k0 y)/\i=fW (gf key) b is
 | [],b,i,h=>⟨λm a=>absurd a Ai4,(Ad6.inj h).symm⟩
 | x::is,b,i,h=>by
  rw [M.GW]at h
  cases q:M.G7 (key x)with
  | none=>rw [q]at h;cases h
  | some y=>
   have e:gf key x=y:=by rw [gf,q];rfl
   rw [q,Ag2]at h
   rw [fW,e]
   by_cases c:y<gf key b
   .rw [if_pos c,←e]at h
    rw [if_pos c]
    obtain⟨f,d⟩:=z7 h
    exact⟨λm a=>(Ab8.mp a).elim (λz=>z▸⟨y,q⟩) (f m),d⟩
   .rw [if_neg c]at h
    rw [if_neg c]
    obtain⟨f,d⟩:=z7 h
    exact⟨λm a=>(Ab8.mp a).elim (λz=>z▸⟨y,q⟩) (f m),d⟩
def Ce (h:M.G9 key o=k0 i): ∃n is,o=k0 (n::is)/\(∀ m∈n::is,∃y,M.G7 (key m)=k0 y)/\i=fW (gf key) n is:=by
 match o,h with
 | some (n::is),h=>
  rw [M.G9]at h
  cases q:M.G7 (key n)with
  | none=>rw [q]at h;cases h
  | some y=>
   have e:gf key n=y:=by rw [gf,q];rfl
   rw [q,Ag2,←e]at h
   obtain⟨c,b⟩:=z7 h
   exact⟨n,is,rfl,λm a=>(Ab8.mp a).elim (λz=>z▸⟨y,q⟩) (c m),b⟩
def tN: "min" ∈cn:=by decide
def KQ (h:M.G7 r=k0 y):r= .ok (.v (.int y)) []:=by
 unfold M.G7 at h
 split at h
 .cases h;rfl
 .cases h
def MB (b:Go Y F X E k cf)(d:w.arg=some (Jg "key")) (A:b7 cf.sc f w.value=true) (K:cf.fns.contains f=true) (hg:b7 cf.sc "min" g=true) (P:wb x=true) (R:PE X x (tD Y E (M.eval F a))):
 PE X (.Call g [x] [w] pos) (tD Y E (M.eval F (.fh f a))):=by
 obtain⟨p0,rfl,N,Z⟩:=Zc hg
 obtain⟨wa,wv,wq⟩:=w
 obtain⟨t,e1,f2,f3⟩:=Zc A
 have e1:=e1
 have d:=d
 subst e1 d
 obtain⟨L,fa,fd,C,S,kp,u⟩:=(b.fn f K).imp λL h=>h.ex
 refine PE.imp (Bb (E:=E0) b.calm b.room.hd (b.gl _ N) (b.blt _ tN) (by decide +kernel) C b.d8 (b.gl _ f2) u S (λB H s e s' T=>T.elim) R (Xp tN) Z f3 (jb P)) λU H Q qq=> ?_
 obtain⟨G,τ,h,s,p⟩:=qq
 rw [M.eval]at p
 refine Wa s.heap Ext.refl s p λw v h1 G1 H1 e1 e1' D W f1 t=> ?_
 obtain⟨i,ei,t⟩:=t.of
 obtain⟨n,is,eo,hk,rfl⟩:=Ce ei
 obtain⟨xs,ex,z⟩:=Ag8.mp eo
 obtain⟨l,vs,rfl,sq,rd⟩:=W.lst D.heap ex
 cases WH z rd
 refine⟨l,n,is,gf λx=>F.call f [.v (.int x)] [],rfl,b.K▸sq,λm u H2 _=> ?_,λH2 le=> ?_⟩
 .obtain⟨y,I⟩:=hk m u
  have V:gf (λx=>F.call f [.v (.int x)] []) m=y:=by rw [gf,I];rfl
  refine⟨⟨λ_=>False,λ_=>0,0⟩,[],[.v (.int m)],⟨rfl,λr c e=>by simp at e,λr s j=>absurd j (Ag7 _),λa O=>O.elim⟩,⟨.int m,[],rfl,rfl,rfl⟩,λw d=>by rw [Ac2.mp d];rfl,?_⟩
  rw [KQ I]
  intro G' H' e j v rv _
  exact⟨by rw [rv,V],λa o q=>e.keep a o q λr j=>absurd j (Ag7 _)⟩
 .obtain⟨x1,J⟩:=Bm D.heap le
  exact ax.val t (e1.trans s.heap x1) J rfl trivial
end
def PW.eW (h:PT X (.BoolOp op vs pos) t):PW X (.BoolOp op vs pos) t:=λb a s U H Q I q=>by
 have:=h a s U H Q I q
 exact this
theorem QE : ∀ {es}{xs}{τ}{h}{ds}{h'},bW cf es xs=u0->M.Gx F es τ h= .ok ds h'->ds.length=xs.length
 | .nil,xs,_,_,_,_,c,e=>by
  cases Af8.mp c
  rw [M.Gx]at e;cases e;rfl
 | .cons a es,xs,τ,h,ds,h',c,e=>by
  refine kC (λx r c=> ?_) xs c
  obtain⟨w,g,e1,e⟩:=zi e
  obtain⟨d,i,e2,e⟩:=zi e
  obtain⟨r,f,b,e⟩:=zi e
  cases e
  rw [Aa7,Aa7,QE (a2 c).2 b]
theorem Wh : ∀ {es}{xs},bW cf es xs=u0-> ∀e∈xs,wb e=u0
 | .nil,xs,c=>by
  cases Af8.mp c
  intro e b;cases b
 | .cons a es,xs,c=>by
  refine kC (λx r c=> ?_) xs c
  intro e b
  rcases Ab8.mp b with rfl | b
  .exact(a3 c).1
  .exact Wh (a2 c).2 e b
theorem JL : ∀ {aB}{xs},QM cf aB xs=u0->aB.length=xs.length
 | [],[],_=>rfl
 | [],_::_,h=>by simp [QM]at h
 | _::_,[],h=>by simp [QM]at h
 | j::a,x::xs,h=>by
  simp only [QM,Aa1]at h
  exact congrArg (· +1) (JL h.2)
def DV (h:qp e f=u0):Jh e=true:=by
 refine zp (λg x l p h=> ?_) e h
 rfl
def w5 (h:dU cf it e=u0):Jh e=true:=by
 cases it with
 | seq a=>exact(a2 h).1
 | aj a=>exact DV h
 | enum a=>exact cc h
 | cw a=>exact cc h
section
variable {Y:Ge}{F:M.Fx}{k:Nat}
def bo (a:Go Y F X E k cf) (r:PE X x (tD Y E (M.eval F m))) (b: ∀i,isTrue x X.env i=(do let v ←i;standAt x.pos;holding [v] (truthy v))):PE X x (tD Y E (M.eval F m))/\(f9 m=u0->PT X x (cT Y E (M.Gm F m))):=⟨r,λ_=>AV a r b⟩
mutual
theorem Qc: ∀(m:M.E){X:Cx}{E:XK}{cf:Cf}{e:Expr},Go Y F X E k cf->xc cf m e=u0->PE X e (tD Y E (M.eval F m))/\(f9 m=u0->PT X e (cT Y E (M.Gm F m)))
 | .var i,X,E,cf,e,go,h=>by
  refine zA (λx p h=> ?_) e h
  obtain⟨h1,h2,h3⟩:=fK h
  exact bo go (BI go h1 h2 h3) λ_=>rfl
 | .con c,X,E,cf,e,go,h=>by
  have r:=Ic go h
  obtain⟨p,rfl,_,_⟩:=Zc h
  exact bo go r λ_=>rfl
 | .int i,X,E,cf,e,go,h=>by
  refine JF (λx n p h=> ?_) e h
  cases of_decide_eq_true h;exact bo go Dh λ_=>rfl
 | .bl i,X,E,cf,e,go,h=>by
  refine JF (λx n p h=> ?_) e h
  cases of_decide_eq_true h;exact bo go HA λ_=>rfl
 | .au,X,E,cf,e,go,h=>by
  refine JF (λx n p h=> ?_) e h
  cases of_decide_eq_true h;exact bo go LO λ_=>rfl
 | .str i,X,E,cf,e,go,h=>by
  refine JF (λx n p h=> ?_) e h
  cases of_decide_eq_true h;exact bo go Mi λ_=>rfl
 | .tup es,X,E,cf,e,go,h=>by
  refine o5 (λx n p h=> ?_) e h
  obtain⟨h1,h2⟩:=a2 h
  exact bo go (Dy (of_decide_eq_true h1) (λτ hh ds h' q=>QE h2 q) (iS es go h2)) λ_=>rfl
 | .lst es,X,E,cf,e,go,h=>by
  refine LH (λx p h=> ?_) e h
  obtain⟨h1,h2⟩:=a2 h
  exact bo go (C1 (of_decide_eq_true h1) (λτ hh ds h' q=>QE h2 q) (iS es go h2)) λ_=>rfl
 | .bin o a b,X,E,cf,e,go,h=>by
  refine CI (λx o y p h=> ?_) e h
  obtain⟨h0,ho,h1,h2⟩:=a4 h
  cases of_decide_eq_true h0
  exact bo go (MJ go ho (Qc a go h1).1 (Qc b go h2).1) λ_=>rfl
 | .cmp o a b,X,E,cf,e,go,h=>by
  refine mi (λx o y p h=> ?_) e h
  refine kC (λy r h=> ?_) y h
  obtain⟨h0,ho,hs,h1,h2⟩:=a5 h
  obtain⟨rfl,rfl⟩:=of_decide_eq_true h0
  exact⟨Ij go ho hs (Qc a go h1).1 (Qc b go h2).1,λ_=>DF go ho hs (Qc a go h1).1 (Qc b go h2).1⟩
 | .chain o q a b c,X,E,cf,e,go,h=>by
  refine mi (λx o y p h=> ?_) e h
  refine kC (λy r h=> ?_) y h
  refine kC (λz r h=> ?_) r h
  obtain⟨h0,ho,hq,hs,h1,h2,h3⟩:=a7 h
  obtain⟨rfl,rfl⟩:=of_decide_eq_true h0
  exact⟨FJ go ho hq hs (Qc a go h1).1 (Qc b go h2).1 (Qc c go h3).1,λ_=>AQ go ho hq hs (Qc a go h1).1 (Qc b go h2).1 (Qc c go h3).1⟩
 | .fA neg a,X,E,cf,e,go,h=>by
  refine mi (λx o y p h=> ?_) e h
  refine kC (λy r h=> ?_) y h
  refine JF (λj n p h=> ?_) y h
  obtain⟨h0,h1,h2⟩:=a3 h
  obtain⟨rfl,rfl⟩:=of_decide_eq_true h0
  cases of_decide_eq_true h1
  exact⟨Lp (Qc a go h2).1,λ_=>D9 (Qc a go h2).1⟩
 | .neg a,X,E,cf,e,go,h=>by
  refine pj (λo x p h=> ?_) e h
  cases of_decide_eq_true (a2 h).1
  exact bo go (Fy (Qc a go (a2 h).2).1) λ_=>rfl
 | .inv a,X,E,cf,e,go,h=>by
  refine pj (λo x p h=> ?_) e h
  cases of_decide_eq_true (a2 h).1
  exact bo go (Du (Qc a go (a2 h).2).1) λ_=>rfl
 | .not a,X,E,cf,e,go,h=>by
  refine pj (λo x p h=> ?_) e h
  cases of_decide_eq_true (a2 h).1
  exact⟨Hm go (Qc a go (a2 h).2).1,λt=>IU ((Qc a go (a2 h).2).2 t)⟩
 | .and a b,X,E,cf,e,go,h=>by
  refine Ar (λo x p h=> ?_) e h
  refine kC (λx r h=> ?_) x h
  refine kC (λy r h=> ?_) r h
  obtain⟨h0,h1,h2⟩:=a3 h
  cases of_decide_eq_true h0
  cases r with
  | nil=>exact⟨yB go (Qc a go h1).1 (vZ (Qc b go h2).1),λt=>(u4 ((Qc a go h1).2 (a2 t).1) (CV ((Qc b go h2).2 (a2 t).2))).pt⟩
  | cons z r=>exact⟨yB go (Qc a go h1).1 (Qc b go h2).1,λt=>(u4 ((Qc a go h1).2 (a2 t).1) (PW.eW ((Qc b go h2).2 (a2 t).2))).pt⟩
 | .or a b,X,E,cf,e,go,h=>by
  refine Ar (λo x p h=> ?_) e h
  refine kC (λx r h=> ?_) x h
  refine kC (λy r h=> ?_) r h
  obtain⟨h0,h1,h2⟩:=a3 h
  cases of_decide_eq_true h0
  cases r with
  | nil=>exact⟨tP go (Qc a go h1).1 (vZ (Qc b go h2).1),λt=>(yn ((Qc a go h1).2 (a2 t).1) (HF ((Qc b go h2).2 (a2 t).2))).pt⟩
  | cons z r=>exact⟨tP go (Qc a go h1).1 (Qc b go h2).1,λt=>(yn ((Qc a go h1).2 (a2 t).1) (PW.eW ((Qc b go h2).2 (a2 t).2))).pt⟩
 | .call f es,X,E,cf,e,go,h=>by
  refine zp (λg x l p h=> ?_) e h
  refine kE (λh=> ?_) l h
  obtain⟨h1,h2,h3⟩:=a3 h
  cases x with
  | nil=>
   cases es with
   | cons _ _=>exact cc h3
   | nil=>
    have r:=HW (pos:=p) go h1 h2
    obtain⟨p,rfl,_,_⟩:=Zc h1
    exact bo go r λ_=>rfl
  | cons x r=>
   have r:=CC (pos:=p) go h1 h2 (Wh h3) (dA es go h3)
   obtain⟨p,rfl,_,_⟩:=Zc h1
   exact bo go r λ_=>rfl
 | .bi b es,X,E,cf,e,go,h=>by
  refine zp (λg x l p h=> ?_) e h
  refine kE (λh=> ?_) l h
  refine kC (λx r h=> ?_) x h
  obtain⟨h1,h2,h3⟩:=a3 h
  have r:=M3 (pos:=p) go h2 h1 (Wh h3) (dA es go h3)
  obtain⟨p,rfl,_,_⟩:=Zc h1
  exact bo go r λ_=>rfl
 | .bZ a t,X,E,cf,e,go,h=>by
  refine zp (λg x l p h=> ?_) e h
  refine kE (λh=> ?_) l h
  refine kC (λx r h=> ?_) x h
  refine kC (λy r h=> ?_) r h
  refine kE (λh=> ?_) r h
  obtain⟨h1,h2,h3,h4,h5⟩:=a5 h
  have r:=LF (pos:=p) go (of_decide_eq_true h3) h1 h2 h4 (Qc a go h5).1
  obtain⟨p,rfl,_,_⟩:=Zc h1
  exact bo go r λ_=>rfl
 | .ix a b,X,E,cf,e,go,h=>by
  refine fQ (λx y p h=> ?_) e h
  obtain⟨h1,h2,h3⟩:=a3 h
  exact bo go (CM go h1 (Qc a go h2).1 (Qc b go h3).1) λ_=>rfl
 | .sl a lo hi,X,E,cf,e,go,h=>by
  refine fQ (λx y p h=> ?_) e h
  refine lX (λl u z p2 h=> ?_) y h
  refine kS (λl h=> ?_) l h
  refine kS (λu h=> ?_) u h
  obtain⟨h0,h1,h2,h3⟩:=a4 h
  cases nn h0
  exact bo go (Ht go (Qc a go h1).1 (Qc lo go h2).1 (Qc hi go h3).1) λ_=>rfl
 | .fZ a lo,X,E,cf,e,go,h=>by
  refine fQ (λx y p h=> ?_) e h
  refine lX (λl u z p2 h=> ?_) y h
  refine kS (λl h=> ?_) l h
  obtain⟨h0,h1,h2,h3⟩:=a4 h
  cases nn h0;cases nn h1
  exact bo go (BO go (Qc a go h2).1 (Qc lo go h3).1) λ_=>rfl
 | .fb a hi,X,E,cf,e,go,h=>by
  refine fQ (λx y p h=> ?_) e h
  refine lX (λl u z p2 h=> ?_) y h
  refine kS (λu h=> ?_) u h
  obtain⟨h0,h1,h2,h3⟩:=a4 h
  cases nn h0;cases nn h1
  exact bo go (Iv go (Qc a go h2).1 (Qc hi go h3).1) λ_=>rfl
 | .fg a,X,E,cf,e,go,h=>by
  refine fQ (λx y p h=> ?_) e h
  refine lX (λl u z p2 h=> ?_) y h
  refine kS (λz h=> ?_) z h
  obtain⟨h0,h1,h2,h3⟩:=a4 h
  cases nn h0;cases nn h1
  exact bo go (KN go h2 (Qc a go h3).1) λ_=>rfl
 | .dW a,X,E,cf,e,go,h=>by
  refine zp (λg x l p h=> ?_) e h
  refine kE (λh=> ?_) l h
  refine kC (λx r h=> ?_) x h
  refine kC (λy r h=> ?_) r h
  refine kE (λh=> ?_) r h
  obtain⟨h1,h2,h3,h4⟩:=a4 h
  have r:=Ih (pos:=p) go h1 h2 h3 (Qc a go h4).1
  obtain⟨p,rfl,_,_⟩:=Zc h1
  exact bo go r λ_=>rfl
 | .comp tg one kk aB it k6 c elt,X,E,cf,e,go,h=>by
  refine vt (λy g s p h=> ?_) e h
  refine kC (λg r h=> ?_) g h
  obtain⟨t,iter,ifs,z⟩:=g
  obtain⟨h0,h1,h2,h3,h4,h5,h6⟩:=a7 h
  obtain⟨rfl,rfl⟩:=of_decide_eq_true h0
  simp only [Ai6,decide_eq_true_eq]at h2
  have sc:=zL h1
  have ht: ∀C fp w H,gJ (Je X (Jz cf t aB) s C fp w H) ifs (cT Y E0 (kq F k6 c)):=λC fp w H=>by
   have gc:=JC go sc C fp w H
   cases k6 with
   | true=>
    refine kC (λz r h=> ?_) ifs h6
    refine kE (λh=> ?_) r h
    exact sV ((Qc c gc (a2 h).2).2 (a2 h).1)
   | false=>
    cases Af8.mp h6
    intro pins s1 U H1 Q I ⟨G,τ,h,st,p⟩
    exact yi pins s1 U H1 Q I (p G H1 Ext.refl st.heap)
  exact bo go (BZ go sc (JL sc.aB) h3 h2 (w5 h4) (lD it go h4) (λC fp s H=>(Qc elt (JC go sc C fp s H) h5).1) ht) λ_=>rfl
 | .c4,X,E,cf,e,go,h=>by
  refine yq (λx y p h=> ?_) e h
  cases Af8.mp (a2 h).1
  cases Af8.mp (a2 h).2
  exact bo go CW λ_=>rfl
 | .eU i a,X,E,cf,e,go,h=>by
  refine fQ (λg y p h=> ?_) e h
  refine zA (λx p1 h=> ?_) g h
  obtain⟨h0,h4,h5⟩:=a3 h
  obtain⟨h1,h2,h3⟩:=fK h0
  exact bo go (L4 go h1 h2 h3 h4 (Qc a go h5).1) λ_=>rfl
 | .cP neg a i,X,E,cf,e,go,h=>by
  refine mi (λx o y p h=> ?_) e h
  refine kC (λy r h=> ?_) y h
  refine zA (λy p1 h=> ?_) y h
  obtain⟨h0,h1,h4⟩:=a3 h
  obtain⟨rfl,rfl⟩:=of_decide_eq_true h0
  obtain⟨h1,h2,h3⟩:=fK h1
  exact⟨De go h1 h2 h3 (Qc a go h4).1,λ_=>HG go h1 h2 h3 (Qc a go h4).1⟩
 | .fT k1 a k2 b k3 c i,X,E,cf,e,go,h=>by
  refine fQ (λd y p h=> ?_) e h
  refine yq (λks vs p0 h=> ?_) d h
  refine zA (λx p1 h=> ?_) y h
  refine kC (λq1 ks h=> ?_) ks h
  refine kC (λq2 ks h=> ?_) ks h
  refine kC (λq3 ks h=> ?_) ks h
  refine kE (λh=> ?_) ks h
  refine kC (λv1 vs h=> ?_) vs h
  refine kC (λv2 vs h=> ?_) vs h
  refine kC (λv3 vs h=> ?_) vs h
  refine kE (λh=> ?_) vs h
  obtain⟨g1,g2⟩:=a2 h
  obtain⟨h0,h4,h5,h6⟩:=a4 g1
  obtain⟨h7,h8,h9,h10⟩:=a4 g2
  obtain⟨h1,h2,h3⟩:=fK h0
  exact bo go (Lg go h1 h2 h3 h4 h5 h6 (of_decide_eq_true h7) (Qc a go h8).1 (Qc b go h9).1 (Qc c go h10).1) λ_=>rfl
 | .eA i,X,E,cf,e,go,h=>by
  refine zp (λg x l p h=> ?_) e h
  refine kE (λh=> ?_) l h
  refine kC (λx r h=> ?_) x h
  refine kE (λh=> ?_) r h
  obtain⟨h0,h1⟩:=a2 h
  refine zA (λx p1 h=> ?_) x h1
  obtain⟨h1,h2,h3⟩:=fK h
  exact bo go (Fo go h0 h1 h2 h3) λ_=>rfl
 | .share a,X,E,cf,e,go,h=>⟨FF (Qc a go h).1,λt=>cc t⟩
 | .b4 a,X,E,cf,e,go,h=>by
  refine zp (λg x l p h=> ?_) e h
  refine kE (λh=> ?_) l h
  refine kC (λx r h=> ?_) x h
  refine kE (λh=> ?_) r h
  refine zp (λg2 x l p2 h=> ?_) x h
  refine kE (λh=> ?_) l h
  refine kC (λx r h=> ?_) x h
  refine kE (λh=> ?_) r h
  obtain⟨h1,h2,h3,h4⟩:=a4 h
  exact bo go (ME go h1 h2 h3 (Qc a go h4).1) λ_=>rfl
 | .dM s ts,X,E,cf,e,go,h=>by
  refine zp (λg x l p h=> ?_) e h
  refine kE (λh=> ?_) l h
  refine kC (λx r h=> ?_) x h
  refine kE (λh=> ?_) r h
  refine qU (λo n q h=> ?_) g h
  refine JF (λc k1 p1 h=> ?_) o h
  refine JF (λc2 k2 p2 h=> ?_) x h
  obtain⟨h1,h2,h3,h4,h5⟩:=a5 h
  cases of_decide_eq_true h1
  cases of_decide_eq_true h2
  cases of_decide_eq_true h3
  exact bo go (AW go h4 h5) λ_=>rfl
 | .make c q es,X,E,cf,e,go,h=>by
  refine zp (λg x l p h=> ?_) e h
  refine kE (λh=> ?_) l h
  refine kC (λx r h=> ?_) x h
  obtain⟨h1,h2,h3⟩:=a3 h
  exact bo go (FZ go h1 h2 (Wh h3) (dA es go h3)) λ_=>rfl
 | .aI a c f,X,E,cf,e,go,h=>by
  refine qU (λx n q h=> ?_) e h
  obtain⟨h0,h1,h2,h3⟩:=a4 h
  cases of_decide_eq_true h0
  exact bo go (CZ go h1 h2 (Qc a go h3).1) λ_=>rfl
 | .bL a c m q es,X,E,cf,e,go,h=>by
  refine zp (λg ys l p h=> ?_) e h
  refine kE (λh=> ?_) l h
  refine qU (λx n p2 h=> ?_) g h
  obtain⟨h0,h1,h2,h3,h4,h5,h6⟩:=a7 h
  cases of_decide_eq_true h0
  revert h3
  refine kC (λy ys h6 h3=> ?_) ys h6
  exact bo go (A5 go h1 h2 (of_decide_eq_true h3) h4 (Qc a go h5).1 (Wh h6) (dA es go h6)) λ_=>rfl
 | .fc a,X,E,cf,e,go,h=>by
  refine zp (λg ys l p h=> ?_) e h
  refine kE (λh=> ?_) l h
  refine kE (λh=> ?_) ys h
  refine qU (λx n p2 h=> ?_) g h
  obtain⟨h0,h1,h2,h3⟩:=a4 h
  cases of_decide_eq_true h0
  exact bo go (Cb go h1 h2 (Qc a go h3).1) λ_=>rfl
 | .fh f a,X,E,cf,e,go,h=>by
  refine zp (λg ys l p h=> ?_) e h
  refine kC (λx r h=> ?_) ys h
  refine kE (λh=> ?_) r h
  refine kC (λw r h=> ?_) l h
  refine kE (λh=> ?_) r h
  obtain⟨h0,h1,h2,h3,h4,h5⟩:=a6 h
  exact bo go (MB go (of_decide_eq_true h0) h1 h2 h3 h4 (Qc a go h5).1) λ_=>rfl
 | .dJ m a es,X,E,cf,e,go,h=>by
  refine zp (λg x l p h=> ?_) e h
  refine kE (λh=> ?_) l h
  refine kC (λx r h=> ?_) x h
  refine kE (λh=> ?_) r h
  refine qU (λo n q h=> ?_) g h
  obtain⟨h1,h2,h3,h4,h5,h6⟩:=a6 h
  cases of_decide_eq_true h1
  exact bo go (F6 go h2 h3 h4 (Wh h6 _ Aa5) (Qc a go h5).1 (dA es go h6)) λ_=>rfl
theorem iS: ∀(es:M.Es){X:Cx}{E:XK}{cf:Cf}{xs:List Expr},Go Y F X E k cf->bW cf es xs=u0->PA X xs (iW Y E (M.Gx F es))
 | .nil,X,E,cf,xs,go,h=>by
  cases Af8.mp h
  exact Ik
 | .cons a es,X,E,cf,xs,go,h=>by
  refine kC (λx r h=> ?_) xs h
  obtain⟨h1,h2,h3⟩:=a3 h
  exact K8 h1 (Qc a go h2).1 (iS es go h3)
theorem dA: ∀(es:M.Es){X:Cx}{E:XK}{cf:Cf}{xs:List Expr},Go Y F X E k cf->bW cf es xs=u0->PA X xs (fP Y E (M.Gf F es))
 | .nil,X,E,cf,xs,go,h=>by
  cases Af8.mp h
  exact Fw
 | .cons a es,X,E,cf,xs,go,h=>by
  refine kC (λx r h=> ?_) xs h
  obtain⟨h1,h2,h3⟩:=a3 h
  exact EM h1 (Qc a go h2).1 (dA es go h3)
theorem lD: ∀(it:M.It){X:Cx}{E:XK}{cf:Cf}{tg e:Expr},Go Y F X E k cf->dU cf it e=u0->PI X tg e (gi Y E k9 (M.Gk F it))
 | .seq a,X,E,cf,tg,e,go,h=>Dj go (Qc a go (a2 h).2).1
 | .aj a,X,E,cf,tg,e,go,h=>by
  refine zp (λg x l p h=> ?_) e h
  refine kE (λh=> ?_) l h
  refine kC (λx r h=> ?_) x h
  refine kE (λh=> ?_) r h
  obtain⟨h1,h2,h3⟩:=a3 h
  exact ZM go h1 h2 (Qc a go h3).1
 | .enum a,X,E,cf,tg,e,go,h=>cc h
 | .cw a,X,E,cf,tg,e,go,h=>cc h
end
end
structure Bs where
 G:Gh
 H:Hp
 h:M.AH
structure bq (Y:Ge) (B:Bs) (G:Gh) (τ:M.Sl) (h:M.AH) (U:St) (H:Hp):Prop where
 st:aq Y G τ h U H
 ext:Ext B.G B.H G H
 hr:ai Y B.G B.h B.H
 own: ∀i xs a,M.Gn τ i=k0 (.own xs)->U[i]? =k0 (k0 (.ref a))->B.H a=y0
def Wv (Y:Ge) (E:XK) (B:Bs) (o:M.O) (D:ip):Prop:=match o with
 | .next τ h=> ∀G U H,bq Y B G τ h U H->D.nx U H
 | .ret w h=> ∀G v H,Ext B.G B.H G H->ai Y G h H->ak Y G H w v->aJ [] [] B.H w v->D.rt v H
 | .brk τ h=> ∀G U H,bq Y B G τ h U H->D.bk U H
 | .cont τ h=> ∀G U H,bq Y B G τ h U H->D.ct U H
 | .fail=>False
def cJ (Y:Ge) (E:XK) (m:M.Sl->M.AH->M.O):TS:=λD U H=> ∃B G τ h,bq Y B G τ h U H/\Wv Y E B (m τ h) D
def PS.imp {st:Stmt}(h:PS X st t) (k: ∀D U H,t' D U H->t D U H):PS X st t':=λa s U H D I q=>h a s U H D I (k _ _ _ q)
def dk.imp {st:List Stmt}(h:dk X st t) (k: ∀D U H,t' D U H->t D U H):dk X st t':=λa s U H D I q=>h a s U H D I (k _ _ _ q)
section
variable {Y:Ge}{E:XK}{B:Bs}{G G1:Gh}{τ:M.Sl}{h h1:M.AH}{U:St}{H H1:Hp}{D:ip}
def bq.on (s:bq Y B G τ h U H) (e:Ext G H G1 H1) (a:ai Y G1 h1 H1):bq Y B G1 τ h1 U H1:=⟨s.st.ext e a,s.ext.trans s.hr e,s.hr,s.own⟩
def zd (s:bq Y B G τ h U H) (p:Wv Y E B ((m τ h).cA f) D)
 (k: ∀w v h1 G1 H1,Ext G H G1 H1->bq Y B G1 τ h1 U H1->ak Y G1 H1 w v->aJ τ U H w v->Wv Y E B (f w h1) D->Q v H1):tD Y E m U H Q:=by
 refine⟨G,τ,h,s.st,?_⟩
 cases q:m τ h with
 | ok w h1=>rw [q]at p;exact λG1 H1 e a v c b=>k w v h1 G1 H1 e (s.on e a) c b p
 | fail=>rw [q]at p;exact p
def t9 (s:bq Y B G τ h U H) (p:Wv Y E B ((m τ h).cA f) D)
 (k: ∀b h1 G1 H1,Ext G H G1 H1->bq Y B G1 τ h1 U H1->Wv Y E B (f b h1) D->Q b H1):cT Y E m U H Q:=by
 refine⟨G,τ,h,s.st,?_⟩
 cases q:m τ h with
 | ok w h1=>rw [q]at p;exact λG1 H1 e a=>k w h1 G1 H1 e (s.on e a) p
 | fail=>rw [q]at p;exact p
theorem bq.set (m:bq Y B G τ h U H) (e:Ext G H G1 H1) (s:bq Y B G1 τ h1 U H1) (r:ak Y G1 H1 w v) (f:aJ τ U H w v) (t: ∀xs,w≠ .bor xs):bq Y B G1 (M.GB τ i w) h1 (U.set i (k0 v)) H1:=by
 refine⟨s.st.set r λu j x p e1 l a q z=> ?_,s.ext,s.hr,λj xs a e1 e2=> ?_⟩
 .cases w with
  | v d=>cases u
  | bor xs=>exact t xs rfl
  | own xs=>
   obtain⟨b,g,k⟩:=f
   subst q
   cases g
   obtain⟨o,n⟩:=m.st.cN e1 l z
   rw [k]at n;cases n
 .rw [Qm]at e1
  by_cases c:j=i/\i<τ.length
  .rw [if_pos c]at e1
   cases e1
   obtain⟨rfl,c⟩:=c
   rw [Ab9 (by rw [← s.st.len];exact c)]at e2
   cases e2
   obtain⟨b,g,k⟩:=f
   cases g
   exact m.ext.none m.hr k
  .rw [if_neg c]at e1
   have p:=λz=>c ⟨z,by subst z;exact qy e1⟩
   rw [Ae4 (Ne.symm p)]at e2
   exact s.own j xs a e1 e2
def bq.fz (a:bq Y B G τ h U H) (e:Ext G H G1 H1) (s:bq Y B G1 τ h1 U H1) (r:ak Y G1 H1 w v) (f:aJ τ U H w v) (c:w.d=k0 d): ∃G2,Ext G H G2 H1/\bq Y B G2 τ h1 U H1/\aC Y G2 H1 d v:=by
 obtain⟨G2,e2,b,rd,_⟩:=om e s.st a.st r f c
 exact⟨G2,e2,⟨b,a.ext.trans a.hr e2,s.hr,s.own⟩,rd⟩
def bq.ea (s:bq Y B G τ h U H) (r:aC Y G H d v):bq Y B G (M.GB τ i (.v d)) h (U.set i (k0 v)) H:=bq.set s Ext.refl s r trivial λa z=>by cases z
theorem bq.aY: ∀ {is}{ds}{vs}{τ j}{U},M.aY is ds τ=k0 j->ab Y G H ds vs->bq Y B G τ h U H->bq Y B G j h (gH is vs U) H/\is.length=vs.length
 | [],[],_,_,_,_,e,rfl,s=>by cases e;exact⟨s,rfl⟩
 | [],_::_,_,_,_,_,e,_,_=>by simp [M.aY]at e
 | _::_,[],_,_,_,_,e,_,_=>by simp [M.aY]at e
 | i::is,d::ds,_,_,_,_,e,⟨v,r,rfl,c,a⟩,s=>by
  obtain⟨f,b⟩:=bq.aY (by simpa [M.aY]using e) a (s.ea c)
  exact⟨f,congrArg (· +1) b⟩
def sU (e:M.Gr tg one d τ=k0 τ') (r:aC Y G H d x) (s:bq Y B G τ h U H) (c: ∀j,bq Y B G τ' h j H->Q j H):gM Y tg one x U H Q:=by
 cases one with
 | true=>
  cases tg with
  | nil=>cases e
  | cons i k=>
   cases k with
   | cons _ _=>cases e
   | nil=>
    cases e
    exact⟨i,rfl,c _ (s.ea r)⟩
 | false=>
  cases d with
  | tup f=>
   obtain⟨a,m,rfl,g,b⟩:=r
   obtain⟨n,l⟩:=bq.aY (e) b s
   exact⟨G,f,m,a,rfl,g,b,l,c _ n⟩
  | _=>cases e
def bq.write (s:bq Y B G τ h U H) (m:M.Gn τ i=k0 (.own xs)) (n:U[i]? =k0 (k0 (.ref a))) (r:ab Y G H ys us):bq Y B G (M.GB τ i (.own ys)) h U (aP H a (.lst us)):=by
 obtain⟨C,of,Z,ha,_⟩:=Zu s.st m n
 have P:=s.own i xs a m n
 have mon:Mon G H G (aP H a (.lst us)):=⟨λb o z q=>by rw [Qa (λe:b=a=>C (e▸z))];exact q,Aa9 _,λ_ _=>rfl,λ_ z=>z⟩
 have T:=qy m
 have D:ai Y G h (aP H a (.lst us)):=by
  refine⟨s.st.heap.len,λq c e=>⟨(s.st.heap.any q c e).1,(s.st.heap.any q c e).2.mon mon λo z=>by rw [Qa (of q (s.st.heap.lt e))];exact z⟩,s.st.heap.inj,λb z=> ?_⟩
  obtain⟨o,q⟩:=s.st.heap.live b z
  exact⟨o,by rw [Qa (λe:b=a=>C (e▸z))];exact q⟩
 refine⟨⟨by rw [Xx];exact s.st.len,λj w e=> ?_,λp q J w b x f l X R=> ?_,D⟩,⟨λb o q y=> ?_,s.ext.le,s.ext.aS,s.ext.new,s.ext.fz,s.ext.old,λq A z=> ?_⟩,s.hr,λj J b f l=> ?_⟩
 .rw [Qm]at e
  by_cases c:j=i/\i<τ.length
  .rw [if_pos c]at e
   cases e
   obtain⟨rfl,_⟩:=c
   exact⟨.ref a,n,a,us,rfl,C,of,wc,r.mon mon⟩
  .rw [if_neg c]at e
   have Q:=λz=>c ⟨z,by subst z;exact qy e⟩
   obtain⟨v,F,E⟩:=s.st.slot j w e
   refine⟨v,F,?_⟩
   cases w with
   | v d=>exact aC.mon mon E
   | own S=>
    obtain⟨b,bs,rfl,V,K,k,L⟩:=E
    have t:b≠a:=λz=>s.st.apart i j xs _ a (Ne.symm Q) m e rfl n (z▸F)
    exact⟨b,bs,rfl,V,K,by rw [Qa t];exact k,L.mon mon⟩
   | bor S=>
    obtain⟨b,bs,rfl,K,k,L⟩:=E
    have t:b≠a:=λz=>s.st.apart i j xs _ a (Ne.symm Q) m e rfl n (z▸F)
    refine⟨b,bs,rfl,K,?_,L.mon mon⟩
    obtain k | ⟨o,k⟩:=k
    .exact .inl (by rw [Qa t];exact k)
    .exact .inr ⟨o,by rw [Qa t];exact k⟩
 .rw [Qm]at f l
  have O: ∃g,M.Gn τ p=k0 (.own g):=by
   by_cases c:p=i/\i<τ.length
   .exact⟨xs,by rw [c.1];exact m⟩
   .rw [if_neg c]at f;exact⟨J,f⟩
  have I: ∃u,M.Gn τ q=k0 u/\dW u=true:=by
   by_cases c:q=i/\i<τ.length
   .exact⟨.own xs,by rw [c.1];exact m,rfl⟩
   .rw [if_neg c]at l;exact⟨w,l,X⟩
  obtain⟨g,O⟩:=O
  obtain⟨u,I,N⟩:=I
  exact s.st.apart p q g u b x O I N R
 .rw [Qa (λe:b=a=>by rw [e,P]at q;cases q)]
  exact s.ext.keep b o q y
 .obtain⟨o,W⟩:=s.ext.cells q A z
  have:B.G.aS q≠a:=λe=>by
   have:=of q (Ab3 A s.ext.le)
   rw [s.ext.aS q A]at this
   exact this e
  exact⟨o,by rw [Qa this];exact W⟩
 .rw [Qm]at f
  by_cases c:j=i/\i<τ.length
  .obtain⟨rfl,_⟩:=c
   rw [n]at l
   cases l
   exact P
  .rw [if_neg c]at f;exact s.own j J b f l
theorem JE: ∀(xs) (n){d},M.Gc xs=u0->M.Gd d=u0->M.Gc (xs.set n d)=u0
 | [],_,_,_,_=>rfl
 | x::xs,0,d,h,a=>by
  have h:=h
  rw [Aa1]at h
  show(M.Gd d&&M.Gc xs)=u0
  rw [a,h.2];rfl
 | x::xs,n+1,d,h,a=>by
  have h:=h
  rw [Aa1]at h
  show(M.Gd x&&M.Gc (xs.set n d))=u0
  rw [h.1,JE xs n h.2 a];rfl
def bq.fN (s:bq Y B G τ h U H) (p:h[r]? =k0 c0) (z:bB Y G (aP H (G.aS r) o1) (G.aS r) c1):bq Y B G τ (h.set r c1) U (aP H (G.aS r) o1):=by
 have E:=(Aa0.mp p).1
 have f:=s.st.heap.lt p
 have k:=s.st.heap.nL f
 have mon:Mon G H G (aP H _ o1):=⟨λb o w q=>by rw [Qa (λe:b=G.aS r=>k (e▸w))];exact q,Aa9 _,λ_ _=>rfl,λ_ w=>w⟩
 have l:ai Y G (h.set r c1) (aP H (G.aS r) o1):=by
  refine⟨by rw [Ae1];exact s.st.heap.len,λq c e=> ?_,s.st.heap.inj,λb w=> ?_⟩
  .by_cases c:q=r
   .subst c
    rw [Ab9 E]at e
    cases e
    exact⟨k,z⟩
   .rw [Ae4 (Ne.symm c)]at e
    exact⟨(s.st.heap.any q _ e).1,(s.st.heap.any q _ e).2.mon mon λo w=>by rw [Qa λA=>c (s.st.heap.inj q r (s.st.heap.lt e) f A)];exact w⟩
  .obtain⟨o,q⟩:=s.st.heap.live b w
   exact⟨o,by rw [Qa (λe:b=G.aS r=>k (e▸w))];exact q⟩
 refine⟨⟨s.st.len,λj w e=> ?_,s.st.apart,l⟩,⟨λb o q i=> ?_,s.ext.le,s.ext.aS,s.ext.new,s.ext.fz,s.ext.old,λq t w=> ?_⟩,s.hr,s.own⟩
 .obtain⟨v,y,m⟩:=s.st.slot j w e
  refine⟨v,y,?_⟩
  cases w with
  | v d=>exact aC.mon mon m
  | own u=>
   obtain⟨b,bs,rfl,x,g,a,n⟩:=m
   exact⟨b,bs,rfl,x,g,by rw [Qa (Ne.symm (g r f))];exact a,n.mon mon⟩
  | bor u=>
   obtain⟨b,bs,rfl,g,a,n⟩:=m
   refine⟨b,bs,rfl,g,?_,n.mon mon⟩
   obtain a | ⟨o,a⟩:=a
   .exact .inl (by rw [Qa (Ne.symm (g r f))];exact a)
   .exact .inr ⟨o,by rw [Qa (Ne.symm (g r f))];exact a⟩
 .have C:b≠G.aS r:=λe=>by
   by_cases c:r<B.G.n
   .exact i r c (by rw [← s.ext.aS r c];exact e.symm)
   .have:=s.ext.new r (Nat.not_lt.mp c) f
    rw [← e,q]at this
    cases this
  rw [Qa C]
  exact s.ext.keep b o q i
 .by_cases c:B.G.aS q=G.aS r
  .exact⟨_,by rw [c];exact wc⟩
  .obtain⟨o,D⟩:=s.ext.cells q t w
   exact⟨o,by rw [Qa c];exact D⟩
def WU (a:ai Y G h H) (c:r<G.n) (o):Mon G H G (aP H (G.aS r) o):=⟨λb o w q=>by rw [Qa (λe:b=G.aS r=>a.nL c (e▸w))];exact q,Aa9 _,λ_ _=>rfl,λ_ w=>w⟩
def bq.cell (s:bq Y B G τ h U H) (a:h[r]? =k0 (.lst xs)) (b:M.Gc ys=u0) (z:ab Y G H ys us):bq Y B G τ (h.set r (.lst ys)) U (aP H (G.aS r) (.lst us)):=
 s.fN a ⟨b,us,wc,z.mon (WU s.st.heap (s.st.heap.lt a) _)⟩
def bq.hF (s:bq Y B G τ h U H) (a:h[r]? =k0 (.obj c0 xs)) (z:ab Y G H (ys.map (·.2)) us):bq Y B G τ (h.set r (.obj c0 ys)) U (aP H (G.aS r) (.ins (Y.ca c0) dx0 ((ys.map λp=>Str.ofString p.1).zip us))):=
 s.fN a ⟨dx0,us,wc,z.mon (WU s.st.heap (s.st.heap.lt a) _)⟩
end
structure md (Y:Ge) (F:M.Fx) (X:Cx) (E:XK) (k:Nat) (cf:Cf):Prop extends Go Y F X E k cf where
 iA:PassesOwn (model X.prog X.w) X.A X.env X.xe
 mh:X.stack=X.env::X.outer
 BN:X.env.frame=k0 X.env.locals
 ex:X.ex= []
section
variable {Y:Ge}{F:M.Fx}{X:Cx}{E:XK}{k:Nat}{cf:Cf}
def zK (h:JG cf i x=u0):cf.N[i]? =k0 x/\iF cf.sc x=true:=by
 simpa [JG]using h
def Mm (r:tD Y E (M.eval F (.share a)) U H Q):tD Y E (M.eval F a) U H Q:=by
 obtain⟨G,y,h,s,p⟩:=r
 refine Wa s.heap Ext.refl s p λj v1 e f A e1 q i m x b=> ?_
 cases j with
 | own c=>
  obtain⟨l,B,rfl,n,t,k,w⟩:=m
  obtain⟨z,o,u⟩:=x
  cases o
  have b:ax Y E G H (if M.Gc c=u0 then M.ag _ (e++ [.lst c])else .fail) _:=b
  by_cases g:M.Gc c=u0
  rotate_left
  .rw [if_neg g]at b;exact b.elim
  rw [if_pos g]at b
  refine ax.val b (ZA e1 u) (W0 i.heap n t k w g) ?_ trivial
  show e.length<f.n+1/\V.ref l= .ref (if e.length=f.n then l else f.aS e.length)
  rw [i.heap.len,if_pos rfl]
  exact⟨Ag _,rfl⟩
 | v d=>exact b.elim
 | bor c=>exact b.elim
def Jl (h:WE v=u0):swapsWith v t l env=pure false:=by
 cases v<;>first | rfl | (simp [WE]at h)
def jQ :swapsWith v (k0 (.Attribute o n p)) l env=pure false:=by cases v<;>rfl
def qX (a:Go Y F X E k cf)(b:JG cf i x=u0) (e:PE X v (tD Y E (M.eval F m))) (f:swapsWith v (k0 (.Name x p)) pos.line X.env=pure k9):
 PS X (.Assign [.Name x p] v pos) (gX (tD Y E (M.eval F m)) (X5 i)):=by
 obtain⟨d,c⟩:=zK b
 have b:=a.iV x c
 exact CH (by rw [a.N];exact a.nd) (by rw [a.N];exact d) b.1 e f b.2
def yW:M.E->Bool
 | .share _=>u0
 | .comp .. =>u0
 | _=>k9
def Lr (h:xc cf m v=u0) (a:yW m=k9):WE v=true:=by
 cases v with
 | ListComp _ _ _ _=>cases m<;>first | exact cc h | (exact absurd (a) Ap8)
 | SetComp _ _ _ _=>cases m<;>first | exact cc h | (exact absurd (a) Ap8)
 | DictComp _ _ _ _ _=>cases m<;>first | exact cc h | (exact absurd (a) Ap8)
 | _=>rfl
def Mx (d:Cf) (a:Bool) (b:List Expr) (c:M.E):Bool:=bif a then(lC b λz r=>kZ r (f9 c&&xc d c z))else b.isEmpty
def A7 (h:xc cf (.comp tg one kk aB it k6 c elt) v=u0): ∃y t iter ifs scope p0,v= .ListComp y [⟨t,iter,ifs,0⟩] scope p0 ∧
 kr cf scope (Jz cf t aB) kk aB/\(∀ i∈tg,i<kk)/\zg { cf with sc:=scope,N:=Jz cf t aB } tg one t=u0/\dU cf it iter=u0/\xc { cf with sc:=scope,N:=Jz cf t aB } elt y=u0 ∧
 Mx { cf with sc:=scope,N:=Jz cf t aB } k6 ifs c=true:=by
 refine vt (λy g s p h=> kC (λg r h=> ?_) g h) v h
 obtain⟨t,iter,ifs,z⟩:=g
 obtain⟨j,e,a,b,k,d,f⟩:=a7 h
 obtain⟨rfl,rfl⟩:=of_decide_eq_true j
 simp [decide_eq_true_eq]at a
 exact⟨y,t,iter,ifs,s,p,rfl,zL e,a,b,k,d,f⟩
def ML (e:Go Y F X E k cf)(q:JG cf i x=u0)(h:xc cf (.comp tg one kk aB it k6 c elt) v=u0):
 PS X (.Assign [.Name x p] v pos) (gX (tD Y E (M.eval F (.comp tg one kk aB it k6 c elt))) (X5 i)):=by
 obtain⟨y,t,g,d,a,w,rfl,l,N,B,u,D,n⟩:=A7 h
 obtain⟨b,o⟩: ∃b,swapsWith (.ListComp y [⟨t,g,d,0⟩] a w) (k0 (.Name x p)) pos.line X.env=pure b:=⟨_,rfl⟩
 cases b with
 | false=>exact qX e q ((Qc _ e h).1) o
 | true=>
  obtain⟨A,J⟩:=zK q
  have K: ∀C j s H,gJ (Je X _ a C j s H) d (cT Y E0 (kq F k6 c)):=λC j s H=>by
   cases k6 with
   | true=>
    exact kC (λz r h=> kE (λh=> sV ((Qc c (JC e l C j s H) (a2 h).2).2 (a2 h).1)) r h) d n
   | false=>
    cases Af8.mp n
    intro f O U m Q I ⟨G,P,h,L,p⟩
    exact yi f O U m Q I (p G m Ext.refl L.heap)
  exact EJ e A J o l (JL l.aB) B N (w5 u) (lD it e u) (λC j s H=>(Qc elt (JC e l C j s H) D).1) K
def Jb (a:Go Y F X E k cf)(b:JG cf i x=u0)(h:xc cf m v=u0) (c:yW m=k9):PS X (.Assign [.Name x p] v pos) (gX (tD Y E (M.eval F m)) (X5 i)):=
 qX a b (Qc m a h).1 (Jl (Lr h c))
theorem n5 (b:Go Y F X E k cf)(c:JG cf i x=u0): ∀ m,xc cf m v=u0->PS X (.Assign [.Name x p] v pos) (gX (tD Y E (M.eval F m)) (X5 i))
 | .share a,h=>PS.imp (n5 b c a h) λD U H q=>Mm q
 | .comp ..,h=>ML b c h
 | .c4,h=>Jb b c h rfl
 | .eU ..,h=>Jb b c h rfl
 | .cP ..,h=>Jb b c h rfl
 | .eA _,h=>Jb b c h rfl
 | .fT ..,h=>Jb b c h rfl
 | .var _,h=>Jb b c h rfl
 | .con _,h=>Jb b c h rfl
 | .int _,h=>Jb b c h rfl
 | .bl _,h=>Jb b c h rfl
 | .au,h=>Jb b c h rfl
 | .str _,h=>Jb b c h rfl
 | .tup _,h=>Jb b c h rfl
 | .lst _,h=>Jb b c h rfl
 | .bin ..,h=>Jb b c h rfl
 | .cmp ..,h=>Jb b c h rfl
 | .chain ..,h=>Jb b c h rfl
 | .fA ..,h=>Jb b c h rfl
 | .neg _,h=>Jb b c h rfl
 | .inv _,h=>Jb b c h rfl
 | .not _,h=>Jb b c h rfl
 | .and ..,h=>Jb b c h rfl
 | .or ..,h=>Jb b c h rfl
 | .call ..,h=>Jb b c h rfl
 | .bi ..,h=>Jb b c h rfl
 | .bZ ..,h=>Jb b c h rfl
 | .dW _,h=>Jb b c h rfl
 | .fg _,h=>Jb b c h rfl
 | .ix ..,h=>Jb b c h rfl
 | .sl ..,h=>Jb b c h rfl
 | .fZ ..,h=>Jb b c h rfl
 | .fb ..,h=>Jb b c h rfl
 | .b4 _,h=>Jb b c h rfl
 | .dM ..,h=>Jb b c h rfl
 | .dJ ..,h=>Jb b c h rfl
 | .make ..,h=>Jb b c h rfl
 | .aI ..,h=>Jb b c h rfl
 | .bL ..,h=>Jb b c h rfl
 | .fc ..,h=>Jb b c h rfl
 | .fh ..,h=>Jb b c h rfl
def DZ (l:Go Y F X E k cf)(o:JG cf i x=u0)(h:xc cf m v=u0):PS X (.Assign [.Name x p] v pos) (cJ Y E (M.exec F (.set i m))):=by
 refine PS.imp (n5 l o m h) λD U H n=> ?_
 obtain⟨B,G,q,h,s,p⟩:=n
 refine zd s p λw v t c e e1 g f j a=> ?_
 cases w with
 | bor b=>exact a.elim
 | v d=>exact a c _ e (bq.set s e1 g f j λb z=>by cases z)
 | own r=>exact a c _ e (bq.set s e1 g f j λb z=>by cases z)
def Mn (c:Go Y F X E k cf)(l:JG cf i x=u0)(h:xc cf m v=u0):PS X (.Assign [.Name x p] v pos) (cJ Y E (M.exec F (.af i m))):=by
 refine PS.imp (n5 c l m h) λD U H e=> ?_
 obtain⟨B,G,r,h,s,p⟩:=e
 refine zd s p λw v u t f e1 n g o a=> ?_
 cases q:w.d with
 | none=>rw [q]at a;exact a.elim
 | some d=>
  rw [q]at a
  obtain⟨j,e2,b,rd⟩:=bq.fz s e1 n g o q
  exact a j _ f (b.ea rd)
def jW :swapsWithSole [.Tuple ts n p] v l env=pure false:=by
 cases v<;>rfl
def jJ (h:Jk v=u0):swappedStores [.Tuple ts n p] v env=pure none:=by
 cases v<;>first | rfl | (simp [Jk]at h)
def IJ (f:Go Y F X E k cf)(u:zw cf is ts=u0) (x:Jk v=u0)(h:xc cf m v=u0):PS X (.Assign [.Tuple ts n p] v pos) (cJ Y E (M.exec F (.eE is m))):=by
 refine PS.imp (wY (Qc m f h).1 (Wy f (one:=k9) u) jW (jJ x) rfl) λD U H j=> ?_
 obtain⟨B,G,c,h,s,p⟩:=j
 refine zd s p λw v r g l e1 y o z a=> ?_
 cases w with
 | v d=>
  cases d with
  | tup e=>
   have a:Wv Y E B (match M.aY is e c with | some b=> .next b r | none=> .fail) D:=a
   cases q:M.aY is e c with
   | none=>rw [q]at a;exact a.elim
   | some b=>
    rw [q]at a
    exact sU (show M.Gr is k9 (.tup e) c=k0 b from q) o y λi t=>a g i l t
  | _=>exact a.elim
 | own _=>exact a.elim
 | bor _=>exact a.elim
def WL :swapsWithSole [.Subscript x y p] v l env=pure false:=by
 cases v<;>rfl
def XE :swappedStores [.Subscript x y p] v env=pure none:=by
 cases v<;>rfl
def xS (a:qd y=u0) (v):assign (.Subscript x y p) env v=(do
 let i ←holding [v] (eval x env)
 let j ←holding [v,i] (eval y env)
 standAt p
 holding [v,i,j] (setItem i j v)
 release [v,i,j] []):=by
 cases y<;>first | rfl | (simp [qd]at a)
def xV (a:M.Km d=u0) (z:aC Y G H d v):aC Y G' H' d v:=by
 cases d with
 | au=>exact z
 | bl _=>exact z
 | int _=>exact z
 | str _=>exact z
 | _=>exact absurd (a) Ac3
def ZQ (a:M.Km d=u0):M.Gd d=true:=by
 cases d<;>first | rfl | exact absurd (a) Ac3
def X7 (c:Go Y F X E k cf)(A:qd y=u0)(I:xc cf o x=u0) (u:xc cf kx y=u0) (h:xc cf m v=u0):PS X (.Assign [.Subscript x y p] v pos) (cJ Y E (M.exec F (.bQ o kx m))):=by
 refine PS.imp (wY (Qc m c h).1 (mu (Qc o c I).1 (Qc kx c u).1 wT (xS A)) WL XE rfl) λD U H C=> ?_
 obtain⟨B,G,T,h,s,p⟩:=C
 refine zd s p λw v h1 V H1 e1 R J f1 P=> zd R P λow ov h2 G2 W e2 f S f2 Q=> zd f Q λZ iv h3 g z L e O f3 a=> ?_
 unfold M.Kv at a
 split at a
 .rename_i d r j
  split at a
  .rename_i b q
   split at a
   .rename_i n l
    split at a
    .rename_i i
     obtain⟨h4,K⟩:=(ak.ext L f.st.heap S)
     subst K
     cases (O)
     have rd:aC Y g z d v:=xV i J
     obtain⟨_,N,t,rv⟩:=e.st.heap.cell r b q
     refine⟨_,N,j,n,rfl,rfl,t,by rw [← rv.length];exact l,?_⟩
     exact a g U _ (e.cell q (JE b n (e.st.heap.pure r b q) (ZQ i)) (ab.set rd n rv))
    .exact a.elim
   .exact a.elim
  .exact a.elim
 .exact a.elim
def Fi (h:M.gb w=k0 (a,b)):w= .v (.tup [a,b]):=by
 unfold M.gb at h
 split at h
 .cases h;rfl
 .cases h
def Hu (f:Go Y F X E k cf)(hy:qd y=u0) (N:Jk v=u0) (L:JG cf j a=u0)(K:xc cf o x=u0) (W:xc cf kx y=u0) (h:xc cf m v=u0):PS X (.Assign [.Tuple [.Subscript x y p,.Name a pa] n pt] v pos) (cJ Y E (M.exec F (.fR o kx j m))):=by
 obtain⟨j1,Z⟩:=zK L
 have I:=f.iV a Z
 refine PS.imp (wY (Qc m f h).1 (yo f.calm (qV (mu (Qc o f K).1 (Qc kx f W).1 wT (xS hy)) (qV (W6 (by rw [f.N];exact f.nd) (by rw [f.N];exact j1) I.1 I.2) sr))) jW (jJ N) rfl) λD U H qq=> ?_
 obtain⟨B,G,V,h,s,p⟩:=qq
 refine zd s p λw v h1 G1 H1 e1 S R f1 t=> ?_
 cases C:M.gb w with
 | none=>rw [C]at t;exact t.elim
 | some dd=>
  obtain⟨d1,d2⟩:=dd
  cases Fi C
  obtain⟨b,J,rfl,z2,v1,r',rfl,O,v2,r'',rfl,z4,rfl⟩:=(R)
  refine⟨b,[v1,v2],rfl,f.K▸z2.sq,rfl,v1,[v2],rfl,zd S t λow ov h2 G2 H2 e2 z T f2 p2=> zd z p2 λQ iv h3 A H3 e3 i r3 f3 e=> ?_⟩
  split at e
  rotate_left
  .exact e.elim
  rename_i l
  cases c:M.Kv _ ow Q V h3 with
  | next τ' h'=>
   rw [c]at e
   unfold M.Kv at c
   split at c
   .rename_i d r j' e1
    cases e1
    split at c
    .rename_i g q
     split at c
     .rename_i n qn
      split at c
      .rename_i u
       cases c
       obtain⟨h4,h5⟩:=(ak.ext e3 z.st.heap T)
       subst h5
       cases (r3)
       have rd:aC Y A H3 d1 v1:=xV u O
       obtain⟨_,J,P,rv⟩:=i.st.heap.cell r g q
       refine⟨_,J,j',n,rfl,rfl,P,by rw [← rv.length];exact qn,?_⟩
       exact⟨v2,[],rfl,rfl,e A _ _ ((i.cell q (JE g n (i.st.heap.pure r g q) (ZQ u)) (ab.set rd n rv)).ea (xV l z4))⟩
      .cases c
     .cases c
    .cases c
   .cases c
  | ret _ _=>rw [c]at e;exact e.elim
  | brk _ _=>rw [c]at e;exact e.elim
  | cont _ _=>rw [c]at e;exact e.elim
  | fail=>rw [c]at e;exact e.elim
def sJ (h:xX cf i m e cpos=u0): ∃x p apos,e= .Attribute (.Name x p) m apos/\cf.N[i]? =k0 x/\WV cf.sc x=u0/\bh x=u0/\(apos.endLine==cpos.line)=true:=by
 refine qU (λx n q h=> zA (λx p h=> ?_) x h) e h
 obtain⟨h,f,b⟩:=a3 h
 obtain⟨d,c,a⟩:=fK h
 cases of_decide_eq_true f
 exact⟨_,_,_,rfl,d,c,a,b⟩
def Ml (g:Go Y F X E k cf)(J:xX cf i "append" f cpos=true) (j:wb v=true)(h:xc cf m v=true):PS X (.Expr (.Call f [v] [] cpos) pos) (cJ Y E (M.exec F (.app i m))):=by
 obtain⟨x,p,z,rfl,o,R,c,V⟩:=sJ J
 unfold bh at c
 rw [Aa1]at c
 have pv:=XI (pos:=p) (by rw [g.N];exact o) (g.hB x R) (by simpa using c.1) (by simpa using c.2)
 refine PS.imp (jS (oz PySem.F.plainAttrs_list PySem.F.slot_list_append PySem.F.type_list_append J1 pv (Xf (Qc m g h).1 Wn (jb j)) rfl (by rw [jb j];rfl) V (jb j) rfl) (Jl rfl)) λD U H L=> ?_
 obtain⟨B,G,I,h,s,p⟩:=L
 rw [M.exec]at p
 cases q:M.Gn I i with
 | none=>rw [q]at p;exact p.elim
 | some C=>
  rw [q]at p
  cases C with
  | v d=>exact p.elim
  | bor l=>exact p.elim
  | own l=>
   obtain⟨v0,n,a,O,rfl,z2,z3,K,z5⟩:=s.st.slot i _ q
   refine⟨.ref a,n,.inl ⟨rfl,O,bu.of K⟩,zd s p λw v o W H1 e1 S N T b=> ?_⟩
   cases e:w.d with
   | none=>rw [e]at b;exact b.elim
   | some d=>
    rw [e]at b
    obtain⟨Q,e2,r,rd⟩:=bq.fz s e1 S N T e
    have b:Wv Y E B (if l.length<M.bf then .next _ o else .fail) D:=b
    by_cases u:l.length<M.bf
    .rw [if_pos u]at b
     obtain⟨Z,of,A,P,y⟩:=Zu r.st q n
     have t:=y.length
     exact⟨a,A,v,rfl,rfl,P,by have:=Wi;lia,b Q U _ (r.write q n (y.append ⟨v,[],rfl,rd,rfl⟩))⟩
    .rw [if_neg u]at b;exact b.elim
def Cm (l:Go Y F X E k cf)(P:xX cf i "extend" f cpos=true) (n:wb v=true)(h:xc cf m v=true):PS X (.Expr (.Call f [v] [] cpos) pos) (cJ Y E (M.exec F (.ext i m))):=by
 obtain⟨x,p,I,rfl,u,Z,g,h4⟩:=sJ P
 unfold bh at g
 rw [Aa1]at g
 have pv:=XI (pos:=p) (by rw [l.N];exact u) (l.hB x Z) (by simpa using g.1) (by simpa using g.2)
 refine PS.imp (jS (oz PySem.F.plainAttrs_list PySem.F.slot_list_extend PySem.F.type_list_extend Dw pv (Xf (Qc m l h).1 Wn (jb n)) rfl (by rw [jb n];rfl) h4 (jb n) rfl) (Jl rfl)) λD U H R=> ?_
 obtain⟨B,G,N,h,s,p⟩:=R
 rw [M.exec]at p
 cases q:M.Gn N i with
 | none=>rw [q]at p;exact p.elim
 | some L=>
  rw [q]at p
  cases L with
  | v d=>exact p.elim
  | bor o=>exact p.elim
  | own o=>
   obtain⟨v0,r,a,T,rfl,z2,z3,Q,z5⟩:=s.st.slot i _ q
   refine⟨.ref a,r,.inl ⟨rfl,T,bu.of Q⟩,zd s p λw v u O H1 e1 J S f1 c=> ?_⟩
   cases w with
   | v d=>exact c.elim
   | bor y=>exact c.elim
   | own y=>
    obtain⟨b,t,rfl,_,_,W,e⟩:=S
    have c:Wv Y E B (if o.length+y.length<M.bf then .next _ u else .fail) D:=c
    by_cases A:o.length+y.length<M.bf
    .rw [if_pos A]at c
     obtain⟨nf,of,K,V,C⟩:=Zu J.st q r
     have z:=C.length
     have j:=e.length
     exact⟨a,b,K,t,rfl,rfl,V,W,by have:=Wi;lia,c O U _ (J.write q r (C.append e))⟩
    .rw [if_neg A]at c;exact c.elim
theorem zO: ∀ {xs ys},M.Gc xs=u0->M.Gc ys=u0->M.Gc (xs++ys)=u0
 | [],_,_,h=>h
 | x::xs,ys,h,a=>by
  have h:=h
  rw [Aa1]at h
  show(M.Gd x&&M.Gc (xs++ys))=u0
  rw [h.1,zO h.2 a];rfl
def EE (u:Go Y F X E k cf)(Z:attributeBase x "append" X.env (eval x X.env)=eval x X.env) (h4:(apos.endLine==cpos.line)=true) (g:wb v=true) (V:xc cf a x=true) (h:xc cf m v=true):PS X (.Expr (.Call (.Attribute x "append" apos) [v] [] cpos) pos) (cJ Y E (M.exec F (.ej a m))):=by
 refine PS.imp (jS (oz PySem.F.plainAttrs_list PySem.F.slot_list_append PySem.F.type_list_append J1 (Qc a u V).1 (Xf (Qc m u h).1 Wn (jb g)) Z (by rw [jb g];rfl) h4 (jb g) rfl) (Jl rfl)) λD U H P=> ?_
 obtain⟨B,G,τ,h,s,p⟩:=P
 refine zd s p λo vo T G0 H0 e0 t Q f0 c=> ?_
 cases q:M.GF T (k0 o)with
 | none=>rw [q]at c;exact c.elim
 | some A=>
  rw [q]at c
  obtain⟨N,S⟩:=JI q
  cases N
  obtain⟨n,rfl⟩:=(Q)
  obtain⟨_,l,i,_⟩:=t.st.heap.cell A.1 A.2 S
  refine⟨.inl ⟨rfl,l,bu.of i⟩,zd t c λw v h1 G1 H1 e1 s1 R f1 b=> ?_⟩
  split at b
  .rename_i d r e K O
   obtain⟨W,e2,f,rd⟩:=bq.fz t e1 s1 R f1 K
   by_cases z:e.length<M.bf/\M.Gd d=u0
   .rw [if_pos z]at b
    obtain⟨I,j⟩:=JI O
    cases I
    obtain⟨_,J,L,C⟩:=f.st.heap.cell _ e j
    have y:=C.length
    exact⟨_,J,v,by rw [e2.aS _ n],rfl,L,by have:=Wi;lia,b W U _ (f.cell j (zO (f.st.heap.pure _ e j) (by simp_all)) (C.append ⟨v,[],rfl,rd,rfl⟩))⟩
   .rw [if_neg z]at b;exact b.elim
  .exact b.elim
def j8 (a:Go Y F X E k cf)(h1:cf.N[i]? =k0 x) (O:WV cf.sc x=u0) (J:bh x=u0) (l:cf.ob.fl.contains (c,f)=u0) (h:xc cf m v=u0):PS X (.Assign [.Attribute (.Name x j) (Jg f) p2] v pos) (cJ Y E (M.exec F (.bH i c f m))):=by
 refine PS.imp (sG (Qs a h1 O J) (Qc m a h).1 jQ) λD U H C=> ?_
 obtain⟨B,G,y,h,s,p⟩:=C
 refine zd s p λw v h1 g R e1 b I T j=> ?_
 cases w with
 | own _=>exact j.elim
 | bor _=>exact j.elim
 | v d=>
  cases q:M.GZ h1 (M.Gn y i)with
  | none=>rw [q]at j;exact j.elim
  | some o=>
   obtain⟨r,z,fs⟩:=o
   rw [q]at j
   dsimp only at j
   split at j
   .rename_i K
    obtain⟨rfl,S⟩:=K
    obtain⟨e2,n⟩:=QK q
    obtain⟨Q,L,P,A,N⟩:=b.st.heap.obj r _ fs n
    obtain⟨u,e,t⟩:=jU (I) N
    refine⟨_,yQ b.st q,g.aS r,Y.ca z,L,_,rfl,A,(a.fld _ _ l).1,(a.fld _ _ l).2,?_,?_⟩
    .rw [Al8,Aa];lia
    .rw [t]
     exact j g U _ (b.hF n e)
   .exact j.elim
def w4 (a:Go Y F X E k cf)(h1:cf.N[i]? =k0 x) (P:WV cf.sc x=u0) (K:bh x=u0) (l:cf.ob.fl.contains (c,f)=u0) (h:xc cf m v=u0):PS X (.Assign [.Attribute (.Name x j) (Jg f) p2] v pos) (cJ Y E (M.exec F (.bU i c f m))):=by
 refine PS.imp (sG (Qs a h1 P K) (Qc m a h).1 jQ) λD U H I=> ?_
 obtain⟨B,G,z,h,s,p⟩:=I
 refine zd s p λw v h1 T W e1 Q J R j=> ?_
 cases b:w.d with
 | none=>rw [b]at j;exact j.elim
 | some d=>
  rw [b]at j
  obtain⟨t,e2,e,rd⟩:=bq.fz s e1 Q J R b
  cases q:M.GZ h1 (M.Gn z i)with
  | none=>rw [q]at j;exact j.elim
  | some o=>
   obtain⟨r,A,fs⟩:=o
   rw [q]at j
   dsimp only at j
   split at j
   .rename_i L
    obtain⟨rfl,Z,hl⟩:=L
    obtain⟨e2,n⟩:=QK q
    obtain⟨V,N,S,C,O⟩:=e.st.heap.obj r _ fs n
    obtain⟨y,g,u⟩:=jU rd O
    refine⟨_,yQ e.st q,t.aS r,Y.ca A,N,_,rfl,C,(a.fld _ _ l).1,(a.fld _ _ l).2,?_,?_⟩
    .rw [Al8,Aa];lia
    .rw [u]
     exact j t U _ (e.hF n g)
   .exact j.elim
def K0 (f:Go Y F X E k cf)(h1:cf.N[i]? =k0 x) (z:WV cf.sc x=u0) (N:bh x=u0) (J:qd y=u0)(I:xc cf kx y=u0) (h:xc cf m v=u0):PS X (.Assign [.Subscript (.Name x p) y p2] v pos) (cJ Y E (M.exec F (.cv i kx m))):=by
 refine PS.imp (wY (Qc m f h).1 (mu (Qs f h1 z N) (Qc kx f I).1 Di (xS J)) WL XE rfl) λD U H K=> ?_
 obtain⟨B,G,A,h,s,p⟩:=K
 refine zd s p λw v h1 Z H1 e1 n L f1 e=> ?_
 cases q:M.GU h1 (M.Gn A i)with
 | none=>rw [q]at e;exact e.elim
 | some S=>
  obtain⟨r0,R⟩:=S
  rw [q]at e
  have sl:=(Qq n.st q).1
  refine⟨_,sl,zd n e λkw iv z Q H2 e2 c T f2 p2=> ?_⟩
  split at p2
  .rename_i d t r W j
   split at p2
   .rename_i C
    obtain⟨u,O,V,P,o⟩:=Qq c.st j
    have l:=by rw [sl]at u;exact Ad6.inj (Ad6.inj u)
    cases T
    obtain⟨g,a,b⟩:=Fl ((L).ext e2 n.st.heap) o
    refine⟨aK t,_,_,rfl,l,P,by rw [IM o];have:=Wi;lia,?_⟩
    rw [b]
    exact p2 Q U _ (c.fN (xT j).2 ⟨Bc C.2 O,g,wc,a.mon (WU c.st.heap (c.st.heap.lt (xT j).2) _)⟩)
   .exact p2.elim
  .exact p2.elim
def K5 (c:Go Y F X E k cf)(h1:cf.N[i]? =k0 x) (r:WV cf.sc x=u0) (e:bh x=u0) (J:qd y=u0)(I:xc cf kx y=u0) (h:xc cf m v=u0):PS X (.Assign [.Subscript (.Name x p) y p2] v pos) (cJ Y E (M.exec F (.cS i kx m))):=by
 unfold bh at e
 rw [Aa1]at e
 have pv:=XI (pos:=p) (by rw [c.N];exact h1) (c.hB x r) (by simpa using e.1) (by simpa using e.2)
 refine PS.imp (wY (Qc m c h).1 (mu pv (Qc kx c I).1 wT (xS J)) WL XE rfl) λD U H K=> ?_
 obtain⟨B,G,z,h,s,p⟩:=K
 refine zd s p λw v h1 Q W e1 g L f1 b=> ?_
 cases q:M.Gn z i with
 | none=>rw [q]at b;exact b.elim
 | some u=>
  rw [q]at b
  cases u with
  | v d=>exact b.elim
  | bor C=>exact b.elim
  | own C=>
   obtain⟨v0,f,a,vs,rfl,Z,z3,T,z5⟩:=g.st.slot i _ q
   refine⟨.ref a,f,zd g b λS iv r O R e2 l P f2 p2=> ?_⟩
   split at p2
   .rename_i d j
    split at p2
    .rename_i n A
     cases (P)
     obtain⟨V,of,t,N,o⟩:=Zu l.st q f
     refine⟨_,t,j,n,rfl,rfl,N,by rw [← o.length];exact A,?_⟩
     exact p2 O U _ (l.write q f (ab.set ((L).ext e2 g.st.heap) n o))
    .exact p2.elim
   .exact p2.elim
end
section
variable {Y:Ge}{E:XK}{B:Bs}{G:Gh}{τ:M.Sl}{h:M.AH}{U:St}{H:Hp}{D:ip}
def FO (c:M.Gn τ i=k0 (.own xs)) (b:U[i]? =k0 (k0 (.ref a))):Xo τ U H a=none:=by
 unfold Xo
 rw [if_pos ⟨i,xs,c,b⟩]
def rC (e:Xo τ U H a=k0 o):H a=k0 o:=by
 unfold Xo at e
 split at e
 .cases e
 .exact e
def BE (s:aq Y G τ h U H):ai Y G h (Xo τ U H) where
 len:=s.heap.len
 any:=λr c e=>⟨(s.heap.any r c e).1,(s.heap.any r c e).2.mon (xy s) λo z=>by rw [xm λ⟨i,f,b,d⟩=>(Zu s b d).2.1 r (s.heap.lt e) rfl];exact z⟩
 inj:=s.heap.inj
 live:=λa z=>by
  obtain⟨o,q⟩:=s.heap.live a z
  exact⟨o,by rw [xm λ⟨i,f,b,d⟩=>(Zu s b d).1 z];exact q⟩
def nN (G:Gh) (τ:M.Sl) (h:M.AH) (U:St) (H:Hp):Bs:=⟨G,Xo τ U H,h⟩
def jV (s:bq Y B G τ h U H):Ext B.G B.H G (Xo τ U H) where
 keep:=λa o e d=>by
  rw [xm λ⟨i,b,c,f⟩=>by rw [s.own i b a c f]at e;cases e]
  exact s.ext.keep a o e d
 le:=s.ext.le
 aS:=s.ext.aS
 new:=s.ext.new
 fz:=s.ext.fz
 old:=s.ext.old
 cells:=λr g z=>by
  obtain⟨o,q⟩:=s.ext.cells r g z
  refine⟨o,?_⟩
  rw [xm λj=>by
   obtain⟨i,b,c,f⟩:=j
   obtain⟨u,z⟩:=z
   rw [s.own i b _ c f]at z
   cases z]
  exact q
def CK (s:bq Y B G τ h U H):bq Y (nN G τ h U H) G τ h U H where
 st:=s.st
 ext:=⟨λa o e _=>rC e,Aa9 _,λ_ _=>rfl,λr h1 h2=>absurd h1 (Ao.mpr h2),λ_ z=>z,λ_ z=> .inl z,λr hr ⟨o,z⟩=>⟨o,rC z⟩⟩
 hr:=BE s.st
 own:=λi xs a e1 e2=>FO e1 e2
def zS (s:bq Y B G τ h U H)(b:bq Y (nN G τ h U H) G2 τ2 h2 U2 H2):bq Y B G2 τ2 h2 U2 H2:=
 ⟨b.st,(jV s).trans s.hr b.ext,s.hr,λi c a e1 e2=>(jV s).none s.hr (b.own i c a e1 e2)⟩
def B1 (s:bq Y B G τ h U H)(p:Wv Y E B o D):Wv Y E (nN G τ h U H) o D:=by
 cases o with
 | next i k=>exact λc g b j=>p c g b (zS s j)
 | brk i k=>exact λc g b j=>p c g b (zS s j)
 | cont i k=>exact λc g b j=>p c g b (zS s j)
 | ret w k=>
  refine λc v b e q r f=>p c v b ((jV s).trans s.hr e) q r ?_
  cases w with
  | v d=>trivial
  | own l=>obtain⟨a,n,m⟩:=f;exact⟨a,n,(jV s).none s.hr m⟩
  | bor l=>exact f
 | fail=>exact p
end
section
variable {Y:Ge}{F:M.Fx}{X:Cx}{E:XK}{k:Nat}{cf:Cf}
def CL.hide (s:aq Y G τ h U H) (c:CL Y ds l vs G H) (b: ¬ ∃ i xs,M.Gn τ i=k0 (.own xs)/\U[i]? =k0 (k0 (.ref l))):CL Y ds l vs G (Xo τ U H):=by
 obtain⟨a,d⟩:=c
 refine⟨?_,d.mon (xy s)⟩
 obtain⟨a,e⟩ | a:=a
 .refine .inl ⟨?_,e⟩
  obtain a | ⟨o,a⟩:=a
  .exact .inl (by rw [xm b];exact a)
  .exact .inr ⟨o,by rw [xm b];exact a⟩
 .exact .inr a
def CL.g0 (s:aq Y G τ h U H) (a:i9 Y G H l vs) (b:ab Y G H ds vs):CL Y ds l vs G (Xo τ U H):=by
 refine⟨?_,b.mon (xy s)⟩
 obtain a | a:=a
 .exact(CL.hide s ⟨.inl ⟨a.2,s.heap.off a.1⟩,b⟩ λ⟨j,e,c,d⟩=>(Zu s c d).1 a.1).1
 .exact .inr a
def CT.hide (s:aq Y G τ h U H) (c:CT Y ds l vs G H):CT Y ds l vs G (Xo τ U H):=⟨c.1.mon (xy s),c.2.mon (xy s)⟩
def qY (h:M.GK a=k0 i):a= .var i:=by
 cases a<;>first | (cases h;rfl) | cases h
def Dq (h:xc cf (.var i) e=u0): ∃x p,e= .Name x p/\cf.N[i]? =k0 x/\WV cf.sc x=u0/\bh x=true:=by
 exact zA (λx p h=> ⟨_,_,rfl,fK h⟩) e h
def s9 (b:Go Y F X E k cf)(h:xc cf (.var i) e=u0):PE X e (m9 i):=by
 obtain⟨x,p,rfl,d,c,a⟩:=Dq h
 unfold bh at a
 rw [Aa1]at a
 exact XI (by rw [b.N];exact d) (b.hB x c) (by simpa using a.1) (by simpa using a.2)
def L7 (s:aq Y G τ h U H)(e:M.Gn τ i=k0 w) (g:w= .v (.lst xs)\/w= .bor xs):
 ∃l vs,U[i]? =k0 (k0 (.ref l))/\CL Y xs l vs G H/\CL Y xs l vs G (Xo τ U H):=by
 obtain⟨v,e2,r⟩:=s.slot i w e
 obtain rfl | rfl:=g
 .obtain⟨l,vs,rfl,a,b⟩:=r
  exact⟨l,vs,e2,⟨a.nW s.heap,b⟩,CL.g0 s a b⟩
 .obtain⟨l,vs,rfl,a,b,m⟩:=r
  have c:CL Y xs l vs G H:=⟨.inl ⟨b,a⟩,m⟩
  refine⟨l,vs,e2,c,c.hide s λ⟨j,k,d,n⟩=> ?_⟩
  have f:j≠i:=λz=>by rw [z,e]at d;cases d
  exact s.apart j i k _ l f d e rfl n e2
def QW (p:aq Y G0 τ h0 U H0) (s:aq Y G τ h U H)(r:ak Y G H w v) (f:aJ τ U H0 w v) (d:w= .v (.lst xs)\/w= .own xs):
 ∃l vs,v= .ref l/\CL Y xs l vs G H/\CL Y xs l vs G (Xo τ U H):=by
 obtain rfl | rfl:=d
 .obtain⟨l,vs,rfl,b,a⟩:=r
  exact⟨l,vs,rfl,⟨b.nW s.heap,a⟩,CL.g0 s b a⟩
 .obtain⟨l,vs,rfl,b,a,g,n⟩:=r
  obtain⟨t,i,m⟩:=f
  cases i
  have c:CL Y xs l vs G H:=⟨.inl ⟨.inl g,a⟩,n⟩
  refine⟨l,vs,rfl,c,c.hide s λ⟨j,q,e,k⟩=> ?_⟩
  obtain⟨o,z⟩:=p.cN e rfl k
  rw [m]at z;cases z
def Hq (j:Go Y F X E k cf){a:M.E}{e P:Expr}(O:xc cf a e=u0):PI X P e (gi Y E u0 (M.Gs F (.seq a))):=by
 cases q:M.GK a with
 | some i=>
  cases qY q
  refine PI.imp (pq (s9 j O)) λU H R K=> ?_
  obtain⟨G,o,h,s,p⟩:=K
  have p:ax Y E G H (M.R.of h ((M.Gn o i).bind M.ku)) λt _ g f=> ∀J C,wI Y J t C->C g f->(u0=u0->C g (Xo o U f))->R J f:=p
  cases y:M.Gn o i with
  | none=>rw [y]at p;exact p.elim
  | some w=>
   rw [y]at p
   have lst: ∀ {b:List M.D},(w= .v (.lst b)\/w= .bor b)->ax Y E G H (.ok b h) (λt _ g f=> ∀J C,wI Y J t C->C g f->(u0=u0->C g (Xo o U f))->R J f) →
    ∃v,U[i]? =k0 (k0 v)/\((∃ a,v= .ref a/\(∃ b,bu X.K H a b)/\R (ib X.K a) H)\/ ∃a,v= .ref a/\(∃ b,cj X.K H a b)/\R (kH X.K a) H):=λ{b} I p=>by
    obtain⟨l,m,e2,u,B⟩:=L7 s y I
    exact⟨_,e2,.inl ⟨l,rfl,⟨m,j.K▸u.1.sq⟩,p G H Ext.refl s.heap _ _ (CL.walk j.K) u λ_=>B⟩⟩
   cases w with
   | v d=>
    cases d with
    | lst b=>exact lst (.inl rfl) p
    | tup b=>
     obtain⟨v,e2,l,m,rfl,x,L⟩:=s.slot i _ y
     have c:CT Y b l m G H:=⟨x,L⟩
     exact⟨_,e2,.inr ⟨l,rfl,⟨m,j.K▸x.sq⟩,p G H Ext.refl s.heap _ _ (CT.walk j.K) c λ_=>c.hide s⟩⟩
    | au=>exact p.elim
    | bl _=>exact p.elim
    | int _=>exact p.elim
    | str _=>exact p.elim
    | ref _=>exact p.elim
   | bor b=>exact lst (.inr rfl) p
   | own b=>exact p.elim
 | none=>
  refine PI.imp (pq (Qc a j O).1) λU H R K=> ?_
  obtain⟨G,o,h,s,p⟩:=K
  have p:ax Y E G H ((M.eval F a o h).bind λw h=>M.R.of h (M.ly w)) λt _ g f=> ∀J C,wI Y J t C->C g f->(u0=u0->C g (Xo o U f))->R J f:=by
   unfold M.Gs at p
   dsimp only at p
   rw [q]at p
   exact p
  refine Wa s.heap Ext.refl s p λA v1 Q D r e1 S z N T n=> ?_
  have lst: ∀ {b:List M.D},(A= .v (.lst b)\/A= .own b)->ax Y E G H (.ok b Q) (λt _ g f=> ∀J C,wI Y J t C->C g f->(u0=u0->C g (Xo o U f))->R J f) →
   ((∃ a,v1= .ref a/\(∃ b,bu X.K r a b)/\R (ib X.K a) r)\/ ∃a,v1= .ref a/\(∃ b,cj X.K r a b)/\R (kH X.K a) r):=λ{b} I p=>by
   obtain⟨l,m,e2,u,B⟩:=QW s z N T I
   exact .inl ⟨l,e2,⟨m,j.K▸u.1.sq⟩,p D r e1 z.heap _ _ (CL.walk j.K) u λ_=>B⟩
  cases A with
  | v d=>
   cases d with
   | lst b=>exact lst (.inl rfl) n
   | tup b=>
    obtain⟨l,m,rfl,x,L⟩:=N
    have c:CT Y b l m D r:=⟨x,L⟩
    exact .inr ⟨l,rfl,⟨m,j.K▸x.sq⟩,n D r e1 z.heap _ _ (CT.walk j.K) c λ_=>c.hide z⟩
   | au=>exact n.elim
   | bl _=>exact n.elim
   | int _=>exact n.elim
   | str _=>exact n.elim
   | ref _=>exact n.elim
  | own b=>exact lst (.inr rfl) n
  | bor b=>exact n.elim
theorem Jq: ∀(ds) (i),(M.GY i ds).length=ds.length
 | [],_=>rfl
 | d::ds,i=>congrArg (· +1) (Jq ds (i+1))
theorem zR: ∀(ds) (j i) (h:i<ds.length),(M.GY j ds)[i]? =k0 (.tup [.int ((j+i:Nat):Int),ds[i]])
 | d::ds,j,0,_=>rfl
 | d::ds,j,i+1,h=>by
  have:=zR ds (j+1) i (by simpa using h)
  rw [show j+1+i=j+(i+1)by lia]at this
  simpa [M.GY]using this
def p6: "enumerate" ∈cn:=by decide
def CT.fV {K:Aa8}(g:K=Y.K):wI Y (ph K l) (M.GY 0 ds) (CT Y ds l vs) where
 go:=by
  rintro i G H ⟨c,d⟩ b
  rw [Jq]at b
  obtain⟨v,e,_⟩:=d.get (Aa4 b)
  exact⟨vs,v,g▸c.sq,e⟩
 fi:=by
  rintro i G H x r ⟨c,d⟩ b ⟨p,y,j,ex,n,m⟩
  rw [Jq]at b
  subst ex n
  obtain⟨v,e,rd⟩:=d.get (Aa4 b)
  have:=m vs (g▸c.sq)
  rw [e]at this
  cases this
  refine⟨G.more p,XA _ j,λh f=>f.ie _ j,.tup [.int i,ds[i]],by rw [zR ds 0 i b,Ak0],⟨p,[.int i,y],rfl,.inl ⟨.inr rfl,wc⟩,⟨.int i,[y],rfl,rfl,⟨y,[],rfl,?_,rfl⟩⟩⟩⟩
  have k:Mon G H (G.more p) (aP H p (.tup [.int i,y])):=⟨λa o w q=>by rw [Qa (Zb q j)];exact q,Aa9 _,λ_ _=>rfl,λ_ z=>Or.inl z⟩
  exact rd.mon k
 stop:=by
  rintro i G H ⟨c,d⟩ s t
  rw [Jq]at s t
  exact⟨vs,g▸c.sq,by rw [← d.length];lia⟩
 keep:=λG H u r h z e f=>⟨z.1.mon (e.mon f),z.2.ext e f⟩
def Dr (e:Go Y F X E k cf)(t:b7 cf.sc "enumerate" g=true) (o:wb x=true) (z:PE X x (tD Y E (M.eval F a))):PI X (.Tuple elts x1 tp) (.Call g [x] [] pos) (gi Y E true (M.Gs F (.enum a))):=by
 obtain⟨D,rfl,B,I⟩:=Zc t
 refine PI.imp (Co (e.gl _ B) (e.blt _ p6) (Xf z Wn (jb o)) (jb o)) λU H R u=> ?_
 obtain⟨G,C,h,s,p⟩:=u
 refine Wa s.heap Ext.refl s p λr v1 J i j e1 y q w K b=> ?_
 cases r with
 | v d=>
  cases d with
  | tup f=>
   obtain⟨l,n,rfl,m,A⟩:=w
   have c:CT Y f l n i j:=⟨m,A⟩
   exact⟨l,n,rfl,e.K▸m.sq,b i j e1 q.heap _ _ (CT.fV e.K) c λ_=>c.hide q⟩
  | au=>exact b.elim
  | bl _=>exact b.elim
  | int _=>exact b.elim
  | str _=>exact b.elim
  | lst _=>exact b.elim
  | ref _=>exact b.elim
 | own f=>exact b.elim
 | bor f=>exact b.elim
def CL.fV {l:Addr}{vs:List V}{K:Aa8}(f:K=Y.K):wI Y (pf K l) (M.GY 0 ds) (CL Y ds l vs) where
 go:=by
  rintro i G H ⟨c,d⟩ b
  rw [Jq]at b
  obtain⟨v,e,_⟩:=d.get (Aa4 b)
  exact⟨vs,v,f▸c.sq,e⟩
 fi:=by
  rintro i G H x r ⟨c,d⟩ b ⟨p,y,j,ex,n,m⟩
  rw [Jq]at b
  subst ex n
  obtain⟨v,e,rd⟩:=d.get (Aa4 b)
  have:=m vs (f▸c.sq)
  rw [e]at this
  cases this
  refine⟨G.more p,XA _ j,λh g=>g.ie _ j,.tup [.int i,ds[i]],by rw [zR ds 0 i b,Ak0],⟨p,[.int i,y],rfl,.inl ⟨.inr rfl,wc⟩,⟨.int i,[y],rfl,rfl,⟨y,[],rfl,?_,rfl⟩⟩⟩⟩
  have k:Mon G H (G.more p) (aP H p (.tup [.int i,y])):=⟨λa o w q=>by rw [Qa (Zb q j)];exact q,Aa9 _,λ_ _=>rfl,λ_ z=>Or.inl z⟩
  exact rd.mon k
 stop:=by
  rintro i G H ⟨c,d⟩ s t
  rw [Jq]at s t
  exact⟨vs,f▸c.sq,by rw [← d.length];lia⟩
 keep:=λG H u r h z e g=>z.keep e g
def DM (b:Go Y F X E k cf)(n:b7 cf.sc "enumerate" g=true) (i:wb x=true) (w:xc cf a x=true):PI X (.Tuple elts x1 tp) (.Call g [x] [] pos) (gi Y E true (M.Gs F (.cw a))):=by
 obtain⟨D,rfl,A,I⟩:=Zc n
 refine PI.imp (HR (b.gl _ A) (b.blt _ p6) (Xf (Qc a b w).1 Wn (jb i)) (jb i)) λU H R t=> ?_
 obtain⟨G,C,h,s,p⟩:=t
 refine Wa s.heap Ext.refl s p λd v1 J o u e1 z j v B c=> ?_
 obtain⟨e,q,c⟩:=c.of
 have r:d= .v (.lst e)\/d= .own e:=by
  unfold M.vi at q
  split at q
  .cases q;exact .inl rfl
  .cases q;exact .inr rfl
  .cases q
 obtain⟨l,y,e2,f,m⟩:=QW s j v B r
 subst e2
 exact⟨l,y,rfl,b.K▸f.1.sq,c o u e1 j.heap _ _ (CL.fV b.K) f λ_=>m⟩
def M7 (b:Go Y F X E k cf)(j:og it tg=u0) (h:nz cf it e=u0):PI X tg e (gi Y E u0 (M.Gs F it))/\Jh e=true:=by
 cases it with
 | seq a=>exact⟨Hq b (a2 h).2,(a2 h).1⟩
 | aj a=>
  refine zp (λg x l p h=> kE (λh=> kC (λx r h=> kE (λh=> ?_) r h) x h) l h) e h
  obtain⟨i,f,d⟩:=a3 h
  exact⟨ZM b i f (Qc a b d).1,rfl⟩
 | cw a=>
  cases tg with
  | Tuple c m n=>
   refine zp (λg x l p h=> kE (λh=> kC (λx r h=> kE (λh=> ?_) r h) x h) l h) e h
   obtain⟨i,f,d⟩:=a3 h
   exact⟨DM b i f d,rfl⟩
  | _=>exact cc j
 | enum a=>
  cases tg with
  | Tuple c m n=>
   refine zp (λg x l p h=> kE (λh=> kC (λx r h=> kE (λh=> ?_) r h) x h) l h) e h
   obtain⟨i,f,d⟩:=a3 h
   exact⟨Dr b i f (Qc a b d).1,rfl⟩
  | _=>exact cc j
end
section
variable {Y:Ge}{G G0:Gh}{H H0:Hp}{h:M.AH}
def Gh.cut (G:Gh) (n:Nat):Gh:= { G with n:=n }
mutual
theorem aC.cut (n:Nat): ∀ {d:M.D}{v:V},M.Gd d=u0->aC Y G H d v->aC Y (G.cut n) H d v
 | .au,_,_,z=>z
 | .bl _,_,_,z=>z
 | .int _,_,_,z=>z
 | .str _,_,_,z=>z
 | .tup _,_,q,⟨a,vs,z1,z2,z3⟩=>⟨a,vs,z1,z2,ab.ek n (by simpa [M.Gd]using q) z3⟩
 | .lst _,_,q,⟨a,vs,z1,z2,z3⟩=>⟨a,vs,z1,z2,ab.ek n (by simpa [M.Gd]using q) z3⟩
 | .ref r,_,q,_=>by simp [M.Gd]at q
theorem ab.ek (n:Nat): ∀ {ds:List M.D}{vs:List V},M.Gc ds=u0->ab Y G H ds vs->ab Y (G.cut n) H ds vs
 | [],_,_,z=>z
 | d::ds,_,q,⟨v,r,z1,z2,z3⟩=>by
  have q':M.Gd d=u0/\M.Gc ds=true:=by simpa [M.Gc]using q
  exact⟨v,r,z1,aC.cut n q'.1 z2,ab.ek n q'.2 z3⟩
end
theorem ai.cut (r:ai Y G h H)(k:n<=G.n) (t:M.Gu (h.take n)=u0):ai Y (G.cut n) (h.take n) H where
 len:=by rw [Af6,r.len];exact Ak5 k
 any:=λi c e=>by
  have s:i<n:=by
   have:=(Aa0.mp e).1
   rw [Af6]at this
   lia
  have u:=Ai6.mp t c (Ac4 e)
  rw [Am7 s]at e
  obtain⟨m,g⟩:=r.any i c e
  refine⟨m,?_⟩
  cases c with
  | lst v=>obtain⟨a,o,d,b⟩:=g;exact⟨a,o,d,ab.ek n a b⟩
  | aN w=>obtain⟨a,f,d,b⟩:=g;exact⟨a,f,d,ab.ek n a b⟩
  | obj c fs=>obtain⟨l,f,d,b⟩:=g;exact⟨l,f,d,ab.ek n u b⟩
 inj:=λi j p q e=>r.inj i j (Ab3 p k) (Ab3 q k) e
 live:=r.live
theorem Ext.cut (e:Ext G0 H0 G H):Ext G0 H0 (G.cut G0.n) H:=⟨e.keep,Aa9 _,e.aS,λr a b=>absurd a (Ao.mpr b),e.fz,e.old,e.cells⟩
theorem ak.cut (n) (k:n<=G.n)(q:w.keep=u0) (b: ∀xs,w≠ .bor xs) (z:ak Y G H w v):ak Y (G.cut n) H w v:=by
 cases w with
 | v d=>exact aC.cut n q z
 | own xs=>
  obtain⟨a,j,i,e,f,g,h⟩:=z
  exact⟨a,j,i,e,λr c=>f r (Ab3 c k),g,ab.ek n q h⟩
 | bor xs=>exact absurd rfl (b xs)
end
section
variable {Y:Ge}{F:M.Fx}{X:Cx}{E:XK}{k:Nat}{cf:Cf}
def MX (a:Go Y F X E k cf)(e:WE v=u0)(h:xc cf m v=u0):PS X (.Expr v pos) (cJ Y E (M.exec F (.ex m))):=by
 refine PS.imp (jS (Qc m a h).1 (Jl e)) λD U H c=> ?_
 obtain⟨B,G,i,h,s,p⟩:=c
 exact zd s p λw v l b d e1 g j n f=>f b U d g
def Ef (s:bq Y B G τ h U H)(f:aJ τ U H w v) (b: ∀xs,w≠ .bor xs):aJ [] [] B.H w v:=by
 cases w with
 | v d=>trivial
 | own xs=>obtain⟨a,e,c⟩:=f;exact⟨a,e,s.ext.none s.hr c⟩
 | bor xs=>exact absurd rfl (b xs)
def AY (l:Go Y F X E k cf)(h:xc cf m v=u0):PS X (.Return (k0 v) pos) (cJ Y E (M.exec F (.ret m))):=by
 cases q:M.GK m with
 | some i=>
  cases qY q
  refine PS.imp (yg (s9 l h)) λD U H g=> ?_
  obtain⟨B,G,f,h,s,p⟩:=g
  rw [M.exec,q]at p
  dsimp only at p
  cases c:M.Gn f i with
  | none=>rw [c]at p;exact p.elim
  | some w=>
   rw [c]at p
   obtain⟨v,e2,r⟩:=s.st.slot i w c
   refine⟨v,e2,?_⟩
   cases w with
   | bor b=>exact p.elim
   | v d=>exact p G v H s.ext s.st.heap r trivial
   | own b=>
    have u:=r
    obtain⟨a,y,rfl,_⟩:=u
    exact p G _ H s.ext s.st.heap r ⟨a,rfl,s.own i b a c e2⟩
 | none=>
  refine PS.imp (yg (Qc m l h).1) λD U H g=> ?_
  obtain⟨B,G,f,h,s,p⟩:=g
  have p:Wv Y E B ((M.eval F m f h).cA λw h=>match w with
   | .bor _=> .fail
   | w=> .ret w h) D:=by
   rw [M.exec,q]at p;exact p
  refine zd s p λw v A n o e1 e t x j=> ?_
  cases w with
  | bor b=>exact j.elim
  | v d=>exact j n v o e.ext e.st.heap t trivial
  | own b=>exact j n v o e.ext e.st.heap t (Ef s x λb z=>by cases z)
def Mc (m:PT X x (cT Y E (M.Gm F c))) (k:dk X ys (cJ Y E (M.execs F a))) (l:dk X zs (cJ Y E (M.execs F b))):PS X (.If x ys zs pos) (cJ Y E (M.exec F (.iff c a b))):=by
 refine PS.imp (DR m k l) λD U H j=> ?_
 obtain⟨B,G,d,h,s,p⟩:=j
 refine t9 s p λt f e n e1 i g=> ?_
 cases t with
 | true=>exact oj ⟨B,e,d,f,i,g⟩
 | false=>exact nv ⟨B,e,d,f,i,g⟩
def KS {st:Stmt}(h1:PS X st (cJ Y E (M.exec F s))) (i:dk X sts (cJ Y E (M.execs F ss))):dk X (st::sts) (cJ Y E (M.execs F (.cons s ss))):=by
 refine dk.imp (Ay h1 i) λD U H e=> ?_
 obtain⟨B,G,c,h,g,p⟩:=e
 rw [M.execs]at p
 refine⟨B,G,c,h,g,?_⟩
 cases q:M.exec F s c h with
 | next a b=>rw [q]at p;exact λf j k d=>⟨B,f,a,b,d,p⟩
 | ret w b=>rw [q]at p;exact p
 | brk a b=>rw [q]at p;exact p
 | cont a b=>rw [q]at p;exact p
 | fail=>rw [q]at p;exact p
def KR:dk X [] (cJ Y E (M.execs F .nil)):=dk.imp KW λD U H ⟨B,G,a,h,s,p⟩=>p G U H s
def D2 (A:md Y F X E k cf)(J:PT X x (cT Y E (M.Gm F c))) (K:dk X ys (cJ Y E (M.execs F b))):PS X (.While x ys [] pos) (cJ Y E (M.exec F (.iD n c b))):=by
 refine PS.imp (B6 A.iA J K) λD U H C=> ?_
 obtain⟨B,G,a,h,s,p⟩:=C
 refine⟨λm U H=> ∃G a h,bq Y B G a h U H/\Wv Y E B (M.GI (λa h=>M.Gm F c a h) (λa h=>M.execs F b a h) m a h) D,⟨n,G,a,h,s,p⟩,?_⟩
 rintro m U H ⟨G,a,h,s,p⟩
 cases m with
 | zero=>exact p.elim
 | succ m=>
  refine t9 s p λt r u I e1 z d=> ?_
  cases t with
  | false=>exact nv (d u U I z)
  | true=>
   refine oj ⟨_,λv y w=>⟨m,Ag _,w⟩,B,u,a,r,z,?_⟩
   have d:Wv Y E B (match M.execs F b a r with
    | .next e i=>M.GI (λa h=>M.Gm F c a h) (λa h=>M.execs F b a h) m e i
    | .cont e i=>M.GI (λa h=>M.Gm F c a h) (λa h=>M.execs F b a h) m e i
    | .brk e i=> .next e i
    | o=>o) D:=d
   cases q:M.execs F b a r with
   | next f g=>rw [q]at d;exact λl v y j=>⟨l,f,g,j,d⟩
   | cont f g=>rw [q]at d;exact λl v y j=>⟨l,f,g,j,d⟩
   | ret w g=>rw [q]at d;exact d
   | brk f g=>rw [q]at d;exact d
   | fail=>rw [q]at d;exact d
def HU (A:md Y F X E k cf)(he:og it t=u0) (ht:zg cf tg one t=u0) (hi:nz cf it iter=u0) (hb:dk X ys (cJ Y E (M.execs F b))):
 PS X (.For t iter ys [] pos) (cJ Y E (M.exec F (.for tg one it b))):=by
 obtain⟨li,ls⟩:=M7 A.toGo he hi
 refine PS.imp (Lq A.iA A.calm li (Wy A.toGo ht) hb (Z8 ls)) λD U H qq=> ?_
 obtain⟨B,G,g,h,s,p⟩:=qq
 rw [M.exec]at p
 refine⟨G,g,h,s.st,?_⟩
 cases q:M.Gs F it g h with
 | fail=>rw [q]at p;exact p
 | ok l h1=>
  rw [q]at p
  intro G1 H1 e hr J C I c0 S
  have Z:=s.on e hr
  refine⟨λi m P y=> ∃z j v,(m=l.length-i/\i<=l.length)/\bq Y _ z j v P y/\Wv Y E _ (M.Gp _ (λg h=>M.execs F b g h) (l.drop i) j v) D,
   ⟨l.length,G1,g,h1,⟨by simp,Ae6 _⟩,(CK Z),(B1 Z p)⟩,?_⟩
  rintro i m P y ⟨z,j,v,⟨rfl,hi'⟩,u,c⟩
  have O:=I.keep _ _ _ _ _ (S rfl) u.ext u.hr
  by_cases n:i<l.length
  .refine .inr ⟨I.go i z y O n,_,λU2 H2 w=>⟨l.length-(i+1),by lia,w⟩,λx N hy=> ?_⟩
   obtain⟨G4,x4,L,d,W,T⟩:=I.fi i z y x N O n hy
   have u:=u.on x4 (L _ u.st.heap)
   have V:l.drop i=d::l.drop (i+1):=by
    rw [Am4 n]
    rw [Aa4 n]at W
    cases W
    rfl
   rw [V,M.Gp]at c
   cases Q:M.Gr tg one d j with
   | none=>rw [Q]at c;exact c.elim
   | some r=>
    rw [Q]at c
    refine sU Q T u λU2 s3=>⟨_,G4,r,v,s3,?_⟩
    have c:Wv Y E _ (match M.execs F b r v with
     | .next a f=>M.Gp _ (λg h=>M.execs F b g h) _ a f
     | .cont a f=>M.Gp _ (λg h=>M.execs F b g h) _ a f
     | .brk a f=> .next a f
     | o=>o) D:=c
    cases q:M.execs F b r v with
    | next a f=>rw [q]at c;exact λK U3 H3 R=>⟨K,a,f,⟨rfl,by lia⟩,R,c⟩
    | cont a f=>rw [q]at c;exact λK U3 H3 R=>⟨K,a,f,⟨rfl,by lia⟩,R,c⟩
    | ret w f=>rw [q]at c;exact c
    | brk a f=>rw [q]at c;exact c
    | fail=>rw [q]at c;exact c
  .have ei:i=l.length:=by lia
   subst ei
   rw [List.drop_length]at c
   exact .inl ⟨I.stop _ z y O (Aa9 _) (Aa9 _),c z P y u⟩
end
section
variable {Y:Ge}{F:M.Fx}{k:Nat}{X:Cx}{E:XK}{cf:Cf}
mutual
theorem F9 (go:md Y F X E k cf): ∀(m:M.S){st:Stmt},yy cf m st=u0->PS X st (cJ Y E (M.exec F m))
 | .set i e,st,h=>by
  refine gW (λts v p h=> ?_) st h
  refine kC (λt r h=> ?_) ts h
  refine zA (λx p1 h=> ?_) t h
  refine kE (λh=> ?_) r h
  exact DZ go.toGo (a2 h).1 (a2 h).2
 | .af i e,st,h=>by
  refine gW (λts v p h=> ?_) st h
  refine kC (λt r h=> ?_) ts h
  refine zA (λx p1 h=> ?_) t h
  refine kE (λh=> ?_) r h
  exact Mn go.toGo (a2 h).1 (a2 h).2
 | .eE is e,st,h=>by
  refine gW (λts v p h=> ?_) st h
  refine kC (λt r h=> ?_) ts h
  refine o5 (λx n p1 h=> ?_) t h
  refine kE (λh=> ?_) r h
  obtain⟨h1,h2,h3⟩:=a3 h
  exact IJ go.toGo h1 h2 h3
 | .bU i c f e,st,h=>by
  refine gW (λts v p h=> ?_) st h
  refine kC (λt r h=> ?_) ts h
  refine qU (λx n p1 h=> ?_) t h
  refine zA (λx p2 h=> ?_) x h
  refine kE (λh=> ?_) r h
  obtain⟨h0,h⟩:=a2 h
  obtain⟨hn,h4,h6⟩:=a3 h
  obtain⟨h1,h2,h3⟩:=fK h0
  cases of_decide_eq_true hn
  exact w4 go.toGo h1 h2 h3 h4 h6
 | .cS i kx e,st,h=>by
  refine gW (λts v p h=> ?_) st h
  refine kC (λt r h=> ?_) ts h
  refine fQ (λx y p1 h=> ?_) t h
  refine zA (λx p2 h=> ?_) x h
  refine kE (λh=> ?_) r h
  obtain⟨h0,h4,h6,h7⟩:=a4 h
  obtain⟨h1,h2,h3⟩:=fK h0
  exact K5 go.toGo h1 h2 h3 h4 h6 h7
 | .cv i kx e,st,h=>by
  refine gW (λts v p h=> ?_) st h
  refine kC (λt r h=> ?_) ts h
  refine fQ (λx y p1 h=> ?_) t h
  refine zA (λx p2 h=> ?_) x h
  refine kE (λh=> ?_) r h
  obtain⟨h0,h4,h6,h7⟩:=a4 h
  obtain⟨h1,h2,h3⟩:=fK h0
  exact K0 go.toGo h1 h2 h3 h4 h6 h7
 | .fR o kx j e,st,h=>by
  refine gW (λts v p h=> ?_) st h
  refine kC (λt r h=> ?_) ts h
  refine kE (λh=> ?_) r h
  refine o5 (λts n p h=> ?_) t h
  refine kC (λt1 r h=> ?_) ts h
  refine kC (λt2 r h=> ?_) r h
  refine kE (λh=> ?_) r h
  refine fQ (λx y p1 h=> ?_) t1 h
  refine zA (λa p2 h=> ?_) t2 h
  obtain⟨h1,h2,h3,h4,h5⟩:=a5 h
  obtain⟨h5,h6⟩:=a2 h5
  exact Hu go.toGo h1 h2 h3 h4 h5 h6
 | .bQ o kx e,st,h=>by
  refine gW (λts v p h=> ?_) st h
  refine kC (λt r h=> ?_) ts h
  refine fQ (λx y p1 h=> ?_) t h
  refine kE (λh=> ?_) r h
  obtain⟨h1,_,_,h4,h5,h6⟩:=a6 h
  exact X7 go.toGo h1 h4 h5 h6
 | .app i e,st,h=>by
  refine m6 (λc p h=> ?_) st h
  refine zp (λf x l q h=> ?_) c h
  refine kE (λh=> ?_) l h
  refine kC (λv r h=> ?_) x h
  refine kE (λh=> ?_) r h
  obtain⟨h1,h2,h3⟩:=a3 h
  exact Ml go.toGo h1 h2 h3
 | .ext i e,st,h=>by
  refine m6 (λc p h=> ?_) st h
  refine zp (λf x l q h=> ?_) c h
  refine kE (λh=> ?_) l h
  refine kC (λv r h=> ?_) x h
  refine kE (λh=> ?_) r h
  obtain⟨h1,h2,h3⟩:=a3 h
  exact Cm go.toGo h1 h2 h3
 | .ej a e,st,h=>by
  refine m6 (λc p h=> ?_) st h
  refine zp (λf x l q h=> ?_) c h
  refine kE (λh=> ?_) l h
  refine kC (λv r h=> ?_) x h
  refine kE (λh=> ?_) r h
  refine qU (λx n q h=> ?_) f h
  obtain⟨h0,h1,h2,h3,h4⟩:=a5 h
  rw [Aa1]at h4
  cases of_decide_eq_true h0
  refine EE go.toGo ?_ h1 h2 h3 h4.1
  cases x with
  | Name _ _=>rfl
  | Subscript _ _ _=>rfl
  | _=>cases h4.2
 | .bH i c f e,st,h=>by
  refine gW (λts v p h=> ?_) st h
  refine kC (λt r h=> ?_) ts h
  refine qU (λx n p1 h=> ?_) t h
  refine zA (λx p2 h=> ?_) x h
  refine kE (λh=> ?_) r h
  obtain⟨h0,hn,h4,h6⟩:=a4 h
  obtain⟨h1,h2,h3⟩:=fK h0
  cases of_decide_eq_true hn
  exact j8 go.toGo h1 h2 h3 h4 h6
 | .dI,st,h=>λpins s U H D I ⟨B,G,τ,h,s',p⟩=>p.elim
 | .ex e,st,h=>by
  refine m6 (λv p h=> ?_) st h
  exact MX go.toGo (a2 h).1 (a2 h).2
 | .ret e,st,h=>by
  refine Cj (λv p h=> ?_) st h
  refine kS (λv h=> ?_) v h
  exact AY go.toGo h
 | .iff c a b,st,h=>by
  refine Hx (λx y z p h=> ?_) st h
  obtain⟨h0,h1,h2,h3⟩:=a4 h
  exact Mc ((Qc c go.toGo h1).2 h0) (dy go a h2) (dy go b h3)
 | .iD n c b,st,h=>by
  refine CO (λx y z p h=> ?_) st h
  refine kE (λh=> ?_) z h
  obtain⟨h0,h1,h2⟩:=a3 h
  exact D2 go ((Qc c go.toGo h1).2 h0) (dy go b h2)
 | .for tg one it b,st,h=>by
  refine Eh (λt i y z p h=> ?_) st h
  refine kE (λh=> ?_) z h
  obtain⟨h1,h2,h3,h4⟩:=a4 h
  exact HU go h1 h2 h3 (dy go b h4)
theorem dy (go:md Y F X E k cf): ∀(m:M.Ss){sts:List Stmt},cQ cf m sts=u0->dk X sts (cJ Y E (M.execs F m))
 | .nil,sts,h=>by
  cases Af8.mp h
  exact KR
 | .cons s ss,sts,h=>by
  refine kC (λst r h=> ?_) sts h
  exact KS (F9 go s (a2 h).1) (dy go ss (a2 h).2)
end
end
section
variable {P:Program}{w:World}{K:Aa8}{mg:Str->Option Value}{base:Heap}{N:List Str}{k7:Str}{scope:Scope}{f:Addr}{cd:Value}{A:Around}{outer:List Env}{s:Shared}{H:Hp}{E:XK}
def Hb:wG (ef P w) (hC (ef P w) P w K mg base N k7 scope f cd A outer s H E) E:=λ_ _ _ _ _ _ _ z=>z.elim
end
structure Txt (K:Aa8) (mg:Str->Option Value) (f:String) where
 st:Stmt
 fa:Addr
 fd:FuncData
 N:List Str
 ps:List Str
structure m7 {K:Aa8}{mg:Str->Option Value}{f:String}(t:Txt K mg f) (d:M.Fn) (fns own dR dZ:List String) (ob:gg):Prop where
 fn: ∃x k7,lT K x k7 t.st t.fa t.fd
 bd:Binds K t.fd t.ps []
 sc:jD t.N t.ps (zn t.st)
 n:t.N.length=d.n
 p:t.ps.length=d.ps
 le:d.ps<=d.n
 IK:cQ ⟨zn t.st,t.N,fns,own,dR,dZ,ob⟩ d.body (wJ t.st)=u0
structure ni (Y:Ge) (p:M.Prog) (mg:Str->Option Value) (own dR dZ:List String) (ob:gg):Prop where
 cl:p.cl=Y.cl
 ow:own=Y.own
 blt: ∀x,x∈cn->mg (Jg x)=y0
 con: ∀x d,p.con.lookup x=k0 d-> ∃u v,mg (Jg x)=k0 u/\RelV v u/\ ∀G H,aC Y G H d v
 cls: ∀c,own.contains c=u0->mg (Jg c)=k0 (.ref (Y.ca c))
 fld: ∀c f,ob.fl.contains (c,f)=u0->d0 Y.K (Y.ca c)/\b3 Y.K (Y.ca c) (Jg f)
 kI: ∀c m q,ob.mt.contains (c,m,q)=u0->d0 Y.K (Y.ca c)/\ob.ms.contains q=u0/\l3 Y.K (Y.ca c) (Jg m) (Y.ma q)
 e8: ∀c q,ob.e8.contains (c,q)=u0->mg (Jg c)=k0 (.ref (Y.ca c))/\ob.ms.contains q=u0/\Mk Y.K (Y.ca c) (Y.ma q)
section
variable {P:Program}{w:World}{Y:Ge}{mg:Str->Option Value}{base:Heap}{p:M.Prog}{own dR dZ fns:List String}{ob:gg}
def Cd (g:ai Y G h H) (r:bj Y G H ws vs) (no: ∀w∈ws,mf w=u0) (s:N.length=n):bq Y ⟨G,H,h⟩ G (ws.map k0++Ab (n-ws.length) y0) h (start N vs) H:=by
 have get: ∀ {i}{w},M.Gn (ws.map k0++Ab (n-ws.length) y0) i=k0 w->ws[i]? =k0 w:=λ{i w} e=>by
  rw [ZH]at e
  by_cases x:i<ws.length
  .rw [Ac9 (by simp_all),Ac]at e
   cases q:ws[i]? with
   | none=>rw [q]at e;cases e
   | some z=>rw [q]at e;exact e
  .rw [Ad9 (by simp_all),Ai2]at e
   split at e<;>cases e
 have f: ∀ {ws}{vs}{i:Nat}{w},bj Y G H ws vs->ws[i]? =k0 w-> ∃v,vs[i]? =k0 v/\ak Y G H w v:=by
  intro ws
  induction ws with
  | nil=>intro vs i w _ e;simp at e
  | cons a r t=>
   intro vs i w ⟨v,y,e1,o,m⟩ e
   subst e1
   cases i with
   | zero=>simp at e;subst e;exact⟨v,rfl,o⟩
   | succ i=>
    obtain⟨l,p,u⟩:=t m (by assumption)
    exact⟨l,by simpa using p,u⟩
 have b: ∀ {i}{c},M.Gn _ i≠k0 (.own c):=λ{i c} e=>by
  have:=no _ (Ac4 (get e))
  cases this
 refine⟨⟨?_,λi w e=> ?_,λi j c w a k e1=>absurd e1 b,g⟩,Ext.refl,g,λi c a e1=>absurd e1 b⟩
 .unfold start
  rw [Aa6,Aa6,Aa,Aa,Ae2,Ae2,s,r.length]
 .obtain⟨v,e2,d⟩:=f r (get e)
  refine⟨v,?_,d⟩
  unfold start
  have x:=(Aa0.mp e2).1
  rw [Ac9 (by simp_all),Ac,e2]
  rfl
def Fp (m:ai Y G h H) (p:av Y E G H (M.Gw h.length o) Q):Wv Y E ⟨G,H,h⟩ o { nx:=λ_ H'=>Q .au H',rt:=Q }:=by
 have g: ∀ {w}{c}{b}{H'}{v},_->av Y E G H (M.fin h.length w c) Q->Ext G H b H'->ai Y b c H'->ak Y b H' w v->aJ [] [] H w v->Q v H':=λ{w c b H' v} n p e a r f=>by
  unfold M.fin at p
  split at p
  .exact p b H' e a v r f
  .split at p
   .rename_i j
    rw [Aa1,m.len]at j
    rw [m.len]at p
    exact p _ H' e.cut (a.cut e.le j.2) v (r.cut G.n e.le j.1 n) f
   .exact p b H' e a v r f
 cases o with
 | next k c=>exact λb q H' l=>g (λi z=>by cases z) p l.ext l.st.heap rfl trivial
 | ret w c=>
  cases w with
  | bor i=>exact p.elim
  | v d=>exact λb v H' e a r f=>g (λi z=>by cases z) p e a r f
  | own i=>exact λb v H' e a r f=>g (λi z=>by cases z) p e a r f
 | brk k c=>exact p.elim
 | cont k c=>exact p.elim
 | fail=>exact p.elim
end
section
variable {P:Program}{w:World}{Y:Ge}{mg:Str->Option Value}{base:Heap}{p:M.Prog}{own dR dZ fns:List String}{ob:gg}
def rj (P:Program) (w:World) (Y:Ge) (b:Str->Option Value) (base:Heap) (p:M.Prog) (k:Nat) (f:String):Prop:=
 ∃ps a fd,XG P w Y.K b base (ef P w) (2*k+1) a fd ps (gN Y (M.call p k f))/\Binds Y.K fd ps []/\Ah5 Y.K (.ref a)=u0/\b (Jg f)=k0 (.ref a)
def vd (P:Program) (w:World) (Y:Ge) (a:Str->Option Value) (base:Heap) (p:M.Prog) (k:Nat) (q:String):Prop:=
 ∃ps fd,XG P w Y.K a base (ef P w) (2*k+1) (Y.ma q) fd ps (gN Y (M.call p k q))/\Binds Y.K fd ps []
def nP (j:ni Y p mg own dR dZ ob){t:Txt Y.K mg f}(ok:m7 t d fns own dR dZ ob) (I:p.fns.lookup f=k0 d) (k) (X: ∀g,fns.contains g=u0->rj P w Y mg base p k g) (R: ∀q,ob.ms.contains q=u0->vd P w Y mg base p k q):
 XG P w Y.K mg base (ef P w) (2*(k+1)+1) t.fa t.fd t.ps (gN Y (M.call p (k+1) f)):=by
 have a: ∀ {e}{h},e.length≠d.ps->M.call p (k+1) f e h= .fail:=λ{e h} B=>by
  rw [M.call,I]
  simp [M.run,B]
 obtain⟨x,J,F⟩:=ok.fn
 refine IS F ok.sc (λU H Q E ⟨G,h,e,C,u,no,q⟩=> ?_) λV A z s H U Q E b ⟨G,h,e,C,u,no,q⟩=> ?_
 .by_cases l:e.length=d.ps
  .rw [← u.length,l,ok.p]
  .rw [a l]at q;exact q.elim
 .by_cases l:e.length=d.ps
  rotate_left
  .rw [a l]at q;exact q.elim
  rw [(λ{e h} B=>M.Gb I k e h B) l]at q
  refine⟨cJ Y E (M.execs ⟨M.call p k,p.cl,p.con⟩ d.body),dy (k:=2*k+1) ?_ d.body ok.IK,?_⟩
  .refine { N:=rfl,K:=rfl,cl:=j.cl,ow:=j.ow,nd:=ok.sc.nd,hB:=λx i=>uG i,tH:=λx i=>i,iV:=λx i=>⟨rT i,.inl rfl⟩,mR:=λx i=>i,gl:=λx i=>tx i,calm:=rfl,room:=b.mono (by lia),d8:=b,pass:=Hb,blt:=j.blt,con:=j.con,fn:=λg S=> ?_,cls:=j.cls,fld:=j.fld,kI:=λc m q r=> ?_,e8:=λc q r=> ?_,iA:=Lb,mh:=rfl,BN:=rfl,ex:=rfl }
   .obtain⟨L,W,O,n,o,T,Z⟩:=X g S
    exact⟨L,⟨W,O,n,o,T,Z⟩⟩
   .obtain⟨y,v,D⟩:=j.kI c m q r
    obtain⟨L,O,n,o⟩:=R q v
    exact⟨y,_,O,L,D,n,o⟩
   .obtain⟨y,v,D⟩:=j.e8 c q r
    obtain⟨L,O,n,o⟩:=R q v
    exact⟨y,_,O,L,D,n,o⟩
  .refine⟨⟨G,H,h⟩,G,e.map k0++Ab _ y0,h,?_,Fp C q⟩
   have:=Cd C u no ok.n
   rw [l]at this
   exact this
def uS (f) (fa) (fd) (ps):XG P w Y.K mg base (ef P w) (2*0+1) fa fd ps (gN Y (M.call p 0 f)):=
 ⟨λg H Q E ⟨G,h,e,c,d,no,q⟩=>q.elim,λA a s H b i g Q E _ _ _ _ ⟨G,h,e,c,d,no,q⟩=>q.elim⟩
def ED (l:ni Y p mg own dR dZ ob) (all: ∀f,fns.contains f=u0-> ∃d,p.fns.lookup f=k0 d/\ ∃t:Txt Y.K mg f,m7 t d fns own dR dZ ob/\Ah5 Y.K (.ref t.fa)=u0/\mg (Jg f)=k0 (.ref t.fa))
 (a: ∀q,ob.ms.contains q=u0-> ∃d,p.fns.lookup q=k0 d/\ ∃t:Txt Y.K mg q,m7 t d fns own dR dZ ob/\t.fa=Y.ma q): ∀k,(∀ f,fns.contains f=u0->rj P w Y mg base p k f)/\ ∀q,ob.ms.contains q=u0->vd P w Y mg base p k q:=by
 intro k
 induction k with
 | zero=>
  refine⟨λf h=> ?_,λq e=> ?_⟩
  .obtain⟨d,b,t,ok,i,g⟩:=all f h
   exact⟨t.ps,t.fa,t.fd,uS f _ _ _,ok.bd,i,g⟩
  .obtain⟨d,b,t,ok,j⟩:=a q e
   exact⟨t.ps,t.fd,uS q _ _ _,ok.bd⟩
 | succ k c=>
  refine⟨λf h=> ?_,λq e=> ?_⟩
  .obtain⟨d,b,t,ok,i,g⟩:=all f h
   exact⟨t.ps,t.fa,t.fd,nP l ok b k c.1 c.2,ok.bd,i,g⟩
  .obtain⟨d,b,t,ok,j⟩:=a q e
   exact⟨t.ps,t.fd,j▸nP l ok b k c.1 c.2,ok.bd⟩
def oY (K:Aa8):Sp:=λc H Q _=> ∃(a:Addr) (b:List Int),c= [.ref a]/\bu K H a (b.map V.int)/\b.length<=63/\ ∀H',Q (.bl u0) H'
theorem sk : ∀(ns:List Int),ab Y G H (ns.map M.D.int) (ns.map V.int)
 | []=>rfl
 | n::ns=>⟨_,_,rfl,rfl,sk ns⟩
def DC (F:XG P w Y.K mg base (ef P w) n fa fd ps (gN Y (M.call p k "law"))) (fU: ∀ns:List Int,ns.length<=63-> ∃h',M.call p k "law" [.v (.lst (ns.map .int))] []= .ok (.v (.bl true)) h'):
 XG P w Y.K mg base kQ n fa fd ps (oY Y.K):=by
 refine Ei F ?_
 rintro x H Q E ⟨a,ns,i,d,l,q⟩
 subst i
 obtain⟨h',u⟩:=fU ns l
 have fin: ∀G:Gh,ai Y G [] H->i9 Y G H a _->gN Y (M.call p k "law") [.ref a] H Q (fun _ _ _=>False):=fun G t m=>by
  refine⟨G,[],[.v (.lst _)],t,⟨.ref a,[],rfl,⟨a,ns.map V.int,rfl,m,sk ns⟩,rfl⟩,λw h=> ?_,?_⟩
  .cases Ac2.mp h;rfl
  .rw [u]
   intro y j _ _ v r _
   cases (r)
   exact q j
 obtain d | d:=d
 .refine fin ⟨λb=>b=a,λ_=>0,0⟩ ⟨rfl,λr c e=>by simp at e,λr s f=>absurd f (Ag7 _),λb g=> ?_⟩ (.inl ⟨rfl,d⟩)
  subst g
  obtain z | ⟨o,z⟩:=d
  .exact⟨_,z⟩
  .exact⟨_,z⟩
 .exact fin ⟨λ_=>False,λ_=>0,0⟩ ⟨rfl,λr c e=>by simp at e,λr s f=>absurd f (Ag7 _),λb g=>g.elim⟩ (.inr d)
def walk {l:PySem.W.OpenLaw}{K:Params->Aa8}(k) (e:bg k callerA) (m:l.most=k0 63) (b:d.params.defaults= [])
 (g: ∀ w h,YP w h->(K w.params).In h)
 (F: ∀ w mg i h,(K w.params).In h->h.Ns mainGlobals mg->mg d.name=k0 (.ref i) →
   ∃fd:FuncData,(∀ s u,BindsTo s fd ⟨[u],[]⟩ [(x,u)])/\ ∀base:Heap,(K w.params).In base->base.Ns mainGlobals mg->XG l.prog w (K w.params) mg base kQ k i fd [x] (oY (K w.params))):
 PySem.W.WalkO q loose XP YP l.row.toRowW d [] (λf vs=>PySem.call f vs):=
 L2.gy m (by decide) b e g F (λ_ _ a c n _ j=>⟨a,c,rfl,j,n,λ_=>rfl⟩) λ_ _ _ _ _ z=>z
end
open PySem PySem.W PyProof.Rows KTD
theorem tO {f g:Str->Option (Str×Value)}: ∀ {l:List Str},(∀ n∈l,f n=g n)->l.filterMap f=l.filterMap g
 | [],_=>rfl
 | a::l,h=>by rw [Aj9,Aj9,h a Aa5,tO λn b=>h n (Aa2 _ b)]
theorem p5: ∀ {ps:List Str}{a:List Value},ps.Nodup->a.length=ps.length->ps.filterMap (λn=>((ps.zip a).lookup n).map (n, ·))=ps.zip a
 | [],a,_,_=>rfl
 | p::ps,[],_,h=>by cases h
 | p::ps,u::a,c,h=>by
  have b:=Ai.mp c
  rw [List.zip_cons_cons,List.filterMap_cons_some (by rw [List.lookup_cons_self];rfl)]
  congr 1
  refine(tO λn d=> ?_).trans (p5 b.2 (Nat.succ.inj h))
  rw [Ab7,beq_eq_false_iff_ne.mpr (λe=>b.1 (e▸d):n≠p)]
def D0 {ps:List Str}{a:List Value}(h:a.length=ps.length)(b:n∈ps):((ps.zip a).lookup n).isSome=true:=by
 induction ps generalizing a with
 | nil=>cases b
 | cons p ps c=>
  cases a with
  | nil=>cases h
  | cons u a=>
   rw [List.zip_cons_cons,Ab7]
   cases e:n==p with
   | true=>rfl
   | false=>exact c (Nat.succ.inj h) ((Ab8.mp b).resolve_left (beq_eq_false_iff_ne.mp e))
abbrev d9 (a:FuncData):List Str:=a.params.args.map (·.arg)
def KJ (h1:fd.params.posonlyargs= []) (h2:fd.params.vararg=y0) (h3:fd.params.kwonlyargs= []) (h4:fd.params.kwarg=y0) (h5:fd.defaults= .none) (nd:(d9 fd).Nodup)(hl:us.length=(d9 fd).length):bindArgs fd ⟨us,[]⟩=pure ((d9 fd).zip us):=by
 have e: ∀k,((d9 fd).take k).filter (λn=>(((d9 fd).zip us).lookup n).isNone)= []:=λk=>List.filter_eq_nil_iff.mpr λn hn=>by
  have:=D0 hl (List.mem_of_mem_take hn)
  cases q:((d9 fd).zip us).lookup n with
  | none=>rw [q]at this;cases this
  | some _=>simp
 obtain⟨n,q,⟨po,as,va,ko,kd,ka,df⟩,b,sc,g,cl,d,kV,doc,pm,an,cd,ct,bi⟩:=fd
 cases h1
 cases h2
 cases h3
 cases h4
 cases h5
 refine(if_neg ?_).trans ((if_neg ?_).trans ?_)
 .simpa using Al1 hl
 .exact λz=>by
   have z':=(congrArg (λl:List Str=> !l.isEmpty) (e _)).symm.trans z
   cases z'
 .refine Eq.trans ?_ (congrArg pure (p5 nd hl))
  rw [show ∀k,List.drop k (none.getD #[]).toList= []from λk=>List.drop_nil,List.zip_nil_right]
  exact congrArg (λl:List Str=>(pure _:Sem _)) (Ae3 _)
noncomputable def mD (K:Frag) (a:Addr) (f:FuncData->List Stmt->Bool):Bool:=match K.lookup a with
 | some ⟨_,_,.func fd,_⟩=>(match fd.body with
  | .stmts b=>f fd b
  | _=>k9)
 | _=>k9
def uJ {K:Frag}(h:mD K a f=u0): ∃oc i fd sl b,K.lookup a=k0 ⟨oc,i,.func fd,sl⟩/\fd.body= .stmts b/\f fd b=true:=by
 unfold mD at h
 split at h
 .rename_i e
  split at h
  .rename_i e2
   exact⟨_,_,_,_,_,e,e2,h⟩
  .cases h
 .cases h
def m4 (K:Frag) (a:Addr) (b:FuncData) (N:List Str):Prop:=
 (b.globals=mainGlobals/\b.builtins=builtinsNs/\b.closure= []/\b.defaults= .none)/\codeIn K b.code b.qualname=u0/\keepIn K (.ref a)=u0 ∧
 (b.params.posonlyargs.isEmpty=u0/\b.params.vararg.isNone=u0/\b.params.kwonlyargs.isEmpty=u0/\b.params.kwarg.isNone=u0) ∧
 b.scope.kind= .function/\b.scope.isCoroutine=k9/\b.scope.isGenerator=k9/\N.Nodup/\N.take (d9 b).length=d9 b/\(∀ x∈d9 b,b.scope.names.lookup x=k0 .local\/b.scope.names.lookup x=k0 .cell)/\ ∀y∈b.scope.names,y.2≠ .free
instance {K:Frag}{a:Addr}{fd:FuncData}{N:List Str}:Decidable (m4 K a fd N):=by unfold m4;infer_instance
def Hj {K:Frag}(l:K.lookup a=k0 ⟨oc,od,.func fd,sl⟩) (o:fd.body= .stmts b) (p:m4 K a fd N):
 ∃st x q,wJ st=b/\zn st=fd.scope/\lT K x q st a fd/\jD N (d9 fd) fd.scope/\ ∀i:List Value,i.length=(d9 fd).length->bindArgs fd ⟨i,[]⟩=pure ((d9 fd).zip i):=by
 obtain⟨⟨g,bi,k,c⟩,f,t,⟨m,a2,a3,a4⟩,s,h,n,e,d,u,j⟩:=p
 refine⟨.FunctionDef fd.name fd.params b [] y0 [] fd.scope y0 fd.name ⟨0,0,0,0⟩,fd.name,fd.qualname,rfl,rfl,⟨⟨oc,od,fd.kwdefaults,fd.doc,fd.pyModule,fd.annotations,fd.code,fd.closureTuple,sl,?_,l,f⟩,t⟩,⟨s,h,n,e,d,u,j⟩,λi r=>KJ (Af8.mp m) (Aj6.mp a2) (Af8.mp a3) (Aj6.mp a4) c (d▸(List.take_sublist _ _).nodup e) r⟩
 cases fd
 cases o
 cases g
 cases bi
 cases k
 cases c
 rfl
def nc:Option (Option Value)->Addr
 | some (k0 (.ref a))=>a
 | _=>0
abbrev eD (K:Frag) (c:String):Addr:=nc (nsIn K mainGlobals (Jg c))
abbrev nU (K:Frag) (c:String):Prop:=nsIn K mainGlobals (Jg c)=k0 (k0 (.ref (eD K c)))
noncomputable def hv (K:Frag) (a:gg) (q:String):Addr:=match a.mt.find? (·.2.2==q)with
 | some (c,m,_)=>nc (findIn K (.ref (eD K c)) (Jg m))
 | none=>match a.e8.find? (·.2==q)with
  | some (c,_)=>nc (findIn K (.ref (eD K c)) "__init__")
  | none=>0
def Mj (sc:Scope):List Str:=sc.names.filterMap λy=>if y.2= .local\/y.2= .cell then k0 y.1 else y0
def n6 (K:Frag) (p:M.Prog) (c own g e:List String) (h:gg) (nm:List (String×List String)) (a:Addr) (f:String):Bool:=mD K a λfd b=>match p.fns.lookup f with
 | some d=>(λN=>u9 (m4 K a fd N/\N.length=d.n/\(d9 fd).length=d.ps/\d.ps<=d.n)&&cQ ⟨fd.scope,N,c,own,g,e,h⟩ d.body b) (((nm.lookup f).map λl=>l.map Jg).getD (Mj fd.scope))
 | none=>k9
def pA {K:Frag}(mg) (h:n6 K p fns own dR dZ ob nm a f=u0):
 ∃d,p.fns.lookup f=k0 d/\ ∃t:Txt K mg f,m7 t d fns own dR dZ ob/\t.fa=a/\keepIn K (.ref a)=u0/\ ∃oc j sl,K.lookup a=k0 ⟨oc,j,.func t.fd,sl⟩/\t.ps=d9 t.fd/\ ∀i:List Value,i.length=t.ps.length->bindArgs t.fd ⟨i,[]⟩=pure (t.ps.zip i):=by
 obtain⟨oc,j,L,sl,b,l,v,h⟩:=uJ h
 cases e:p.fns.lookup f with
 | none=>rw [e]at h;cases h
 | some d=>
  rw [e]at h
  generalize ((nm.lookup f).map λl=>l.map Jg).getD _=N at h
  obtain⟨s,k⟩:=(Aa1 _ _).mp h
  obtain⟨q,n,w,o⟩:=of_decide_eq_true s
  obtain⟨u,x,m,rfl,r,F,g,c⟩:=Hj l v q
  rw [← r]at g k
  exact⟨d,rfl,⟨u,a,L,_,d9 L⟩,⟨⟨x,m,F⟩,.all c,g,n,w,o,k⟩,rfl,F.kp,oc,j,sl,l,rfl,c⟩
noncomputable def oK (K:Frag) (a:Addr) (f:List Value->Bool):Bool:=match K.lookup a with
 | some o=>(match o.data with
  | .seq b _=>u9 (o.cls= .type "tuple" /\o.dict=none/\b.size<=100)&&f b.toList
  | _=>k9)
 | none=>k9
def HJ (h:oK Y.K a f=u0): ∃i,f i=u0/\ ∀vs,Vals vs i-> ∀G H,e7 Y G H a vs:=by
 unfold oK at h
 split at h
 .rename_i o e
  split at h
  .rename_i b n e2
   obtain⟨j,g⟩:=(Aa1 _ _).mp h
   obtain⟨k,d,c⟩:=of_decide_eq_true j
   exact⟨_,g,λvs r G H=> .inr ⟨o,b,n,e,k,d,e2,Ab5 c (by rw [sizeLine_eq];decide),r⟩⟩
  .cases h
 .cases h
mutual
noncomputable def nY (K:Frag):M.D->Value->Bool
 | .int i,.int j _=>u9 (i=j)
 | .str s,.str t _=>u9 (aK s=t)
 | .tup ds,.ref a=>oK K a λus=>fF K ds us
 | _,_=>k9
noncomputable def fF (K:Frag):List M.D->List Value->Bool
 | [],[]=>u0
 | d::ds,u::us=>nY K d u&&fF K ds us
 | _,_=>k9
end
def yS (K:Frag) (x:String) (d:M.D):Bool:=match nsIn K mainGlobals (Jg x)with
 | some (k0 u)=>nY K d u
 | _=>k9
mutual
theorem uI {Y:Ge}: ∀ {d:M.D}{u:Value},nY Y.K d u=u0-> ∃v,RelV v u/\ ∀G H,aC Y G H d v
 | .int _,.int _ _,h=>by cases of_decide_eq_true h;exact⟨.int _,⟨_,rfl⟩,λ_ _=>rfl⟩
 | .str _,.str _ _,h=>by cases of_decide_eq_true h;exact⟨.str _,⟨_,rfl⟩,λ_ _=>rfl⟩
 | .tup ds,.ref a,h=>by
  obtain⟨us,h1,h2⟩:=HJ h
  obtain⟨vs,r,h3⟩:=eQ h1
  exact⟨.ref a,rfl,λG H=>⟨a,vs,rfl,h2 vs r G H,h3 G H⟩⟩
theorem eQ {Y:Ge}: ∀ {ds:List M.D}{us:List Value},fF Y.K ds us=u0-> ∃vs,Vals vs us/\ ∀G H,ab Y G H ds vs
 | [],[],_=>⟨[],.nil,λ_ _=>rfl⟩
 | d::ds,u::us,h=>by
  obtain⟨h1,h2⟩:=(Aa1 _ _).mp h
  obtain⟨v,r1,h3⟩:=uI h1
  obtain⟨vs,r2,h4⟩:=eQ h2
  exact⟨v::vs,.cons r1 r2,λG H=>⟨v,vs,rfl,h3 G H,h4 G H⟩⟩
end
theorem rW : ∀ {l:List (String×α)}{x}{d},l.lookup x=k0 d->(x,d)∈l
 | (k,v)::l,x,d,h=>by
  rw [Ab7]at h
  by_cases q:(x==k)=u0
  .rw [q]at h;cases h;rw [eq_of_beq q];exact Aa5
  .rw [eq_false_of_ne_true q]at h;exact Aa2 _ (rW h)
abbrev ui (K:Frag) (C:Addr):Prop:=plainGet K C Str.empty=true/\hasDictIn K C=true/\plainOver K C=true/\findIn K (.ref C) "__setattr__" =some (some (.builtin "object.__setattr__"))
def oo (K:Frag) (p:M.Prog) (b own e d:List String) (a:gg) (nm:List (String×List String)):Prop:=
 (∀ x∈cn,nsIn K mainGlobals (Jg x)=k0 y0)/\(∀ x∈p.con,yS K x.1 x.2=u0)/\(∀ c∈own,nU K c) ∧
 (∀ c∈a.fl,ui K (eD K c.1)/\findIn K (.ref (eD K c.1)) (Jg c.2)=k0 y0) ∧
 (∀ c∈a.mt,ui K (eD K c.1)/\a.ms.contains c.2.2=u0/\findIn K (.ref (eD K c.1)) (Jg c.2.1)=k0 (k0 (.ref (hv K a c.2.2)))/\isFn K (.ref (hv K a c.2.2))=u0/\keepIn K (.ref (hv K a c.2.2))=u0) ∧
 (∀ c∈a.e8,nU K c.1/\a.ms.contains c.2=true/\makesIn K (eD K c.1)=true/\findIn K (.ref (eD K c.1)) "__init__" =some (some (.ref (hv K a c.2)))/\isFn K (.ref (hv K a c.2))=true/\keepIn K (.ref (eD K c.1))=true) ∧
 (∀ f∈b,nU K f/\n6 K p b own e d a nm (eD K f) f=true)/\(∀ q∈a.ms,n6 K p b own e d a nm (hv K a q) q=true)/\b.contains "law" =true/\mD K (eD K "law") (fun fd _=>decide (d9 fd= [("_law_script" :Str)]))=true
set_option synthInstance.maxSize 1000 in
instance {K:Frag}{p:M.Prog}{fns own dR dZ:List String}{ob:gg}{nm:List (String×List String)}:Decidable (oo K p fns own dR dZ ob nm):=by unfold oo;infer_instance
def X4  [BEq α] [LawfulBEq α] {l:List α}(h:l.contains x=u0):x∈l:=List.contains_iff_mem.mp h
def iw {l:OpenLaw}{K:Frag}(p) (fns own dR dZ) (ob) (nm) (k) (X:K.In h) (G:h.Ns mainGlobals mg) (E:mg "law" =some (.ref fa)) (T:decide (oo K p fns own dR dZ ob nm)=true)
 (fU: ∀ns:List Int,ns.length<=63-> ∃h',M.call p (k+1) "law" [.v (.lst (ns.map .int))] []= .ok (.v (.bl true)) h'):
 ∃fd:FuncData,(∀ s v,BindsTo s fd ⟨[v],[]⟩ [("_law_script",v)])/\ ∀base:Heap,K.In base->base.Ns mainGlobals mg->XG l.prog w K mg base kQ (2*(k+1)+1) fa fd ["_law_script"] (oY K):=by
 obtain⟨Z,Q,t2,t6,W,t8,H,D,y,F⟩:=of_decide_eq_true T
 have I:ni ⟨K,eD K,p.cl,own,hv K ob⟩ p mg own dR dZ ob:=by
  refine⟨rfl,rfl,λx hx=>mg_none_of X G (Z x hx),λx d a=> ?_,λc b=>mg_of X G (t2 c (X4 b)),λc f b=> ?_,λc m q b=> ?_,λc q b=> ?_⟩
  .have z:=Q _ (rW a)
   unfold yS at z
   split at z
   .rename_i u e
    obtain⟨v,r⟩:=uI (Y:=⟨K,eD K,p.cl,own,hv K ob⟩) z
    exact⟨u,v,mg_of X G e,r⟩
   .cases z
  .obtain⟨⟨e1,e2,o,n⟩,A⟩:=t6 _ (X4 b)
   exact⟨⟨e1,e2,o,n⟩,A⟩
  .obtain⟨⟨e1,e2,o,n⟩,A,C,S,V⟩:=W (c,m,q) (X4 b)
   exact⟨⟨e1,e2,o,n⟩,A,C,S,V⟩
  .obtain⟨e1,e2,o,n,A,C⟩:=t8 (c,q) (X4 b)
   exact⟨mg_of X G e1,e2,o,n,A,C⟩
 have i:=λf B=>mg_of X G (H f (X4 B)).1
 have e:eD K "law" =fa:=by
  have:=(i "law" y).symm.trans E
  cases this
  rfl
 obtain⟨d,a,t,ok,g,L,oc,od,sl,U,O,N⟩:=pA mg (H "law" (X4 y)).2
 obtain⟨_,_,fd,_,_,j,_,z⟩:=uJ F
 rw [U]at j
 cases j
 have z:=O.trans (of_decide_eq_true z)
 refine⟨t.fd,λs v=> .of_eq ((N [v] (by rw [z];rfl)).trans (by rw [z];rfl)),λbase _ _=> ?_⟩
 have J:=ED (P:=l.prog) (w:=w) (base:=base) I (λf B=>by
  obtain⟨d,a,t,ok,g,L,_⟩:=pA mg (H f (X4 B)).2
  exact⟨d,a,t,ok,g▸L,g▸i f B⟩) (λq R=>by
  obtain⟨d,a,t,ok,g,_⟩:=pA mg (D q (X4 R))
  exact⟨d,a,t,ok,g⟩) k
 have:=DC (nP I ok a k J.1 J.2) fU
 rw [g,e,z]at this
 exact this
end L2.MS
namespace Wf
def gE (t k):t / 2 ^ k % 2=(t.testBit k).toNat:=(Nat.toNat_testBit t k).symm
theorem JQ: ∀(n a b:Nat),a<=n->(a ||| b)+(a &&& b)=a+b
 | 0,a,b,h=>by
  have:a=0:=by lia
  subst this;simp
 | n+1,a,b,h=>by
  by_cases c:a=0
  .subst c;simp
  have g:=JQ n (a / 2) (b / 2) (by lia)
  have e1:=Am (a ||| b) 2
  have e2:=Am (a &&& b) 2
  rw [Nat.or_div_two]at e1
  rw [Nat.and_div_two]at e2
  have d:(a ||| b) % 2=1↔a % 2=1\/b % 2=1:=Nat.or_mod_two_eq_one
  have f:(a &&& b) % 2=1↔a % 2=1/\b % 2=1:=Nat.and_mod_two_eq_one
  have j:=Am a 2
  have l:=Am b 2
  have k:(a ||| b) % 2<2:=Aj5 _ (by decide)
  have i:(a &&& b) % 2<2:=Aj5 _ (by decide)
  generalize (a ||| b) % 2=p at*
  generalize (a &&& b) % 2=q at*
  by_cases c:a % 2=1<;>by_cases e:b % 2=1
  .have:p=1:=d.mpr (.inl c)
   have:q=1:=f.mpr ⟨c,e⟩
   lia
  .have:p=1:=d.mpr (.inl c)
   have: ¬q=1:=λh=>e (f.mp h).2
   lia
  .have:p=1:=d.mpr (.inr e)
   have: ¬q=1:=λh=>c (f.mp h).1
   lia
  .have: ¬p=1:=λh=>(d.mp h).elim c e
   have: ¬q=1:=λh=>c (f.mp h).1
   lia
def EH (a b:Nat):a-(a &&& b)=a ^^^ (a &&& b):=by
 have h:=JQ _ (a ^^^ (a &&& b)) (a &&& b) (Aa9 _)
 have e1:(a ^^^ (a &&& b)) ||| (a &&& b)=a:=Aj8 λk=>by
  simp [Ah2]
  cases a.testBit k<;>cases b.testBit k<;>rfl
 have e2:(a ^^^ (a &&& b)) &&& (a &&& b)=0:=Aj8 λk=>by
  simp only [Nat.testBit_xor,Ah2,Af9]
  cases a.testBit k<;>cases b.testBit k<;>rfl
 lia
def aR (a b k:Nat):(a-(a &&& b)).testBit k=(a.testBit k&& !b.testBit k):=by
 rw [EH]
 simp [Ah2]
 cases a.testBit k<;>cases b.testBit k<;>rfl
def aw (n t:Nat):List (Nat×Nat):=((Aa3 (n*n)).filter t.testBit).map λk=>(k / n,k % n)
def cO (n:Nat) (ps:List (Nat×Nat)):Nat:=ps.foldl (λt p=>t ||| 2 ^ (p.1*n+p.2)) 0
def gw (n:Nat) (ps:List (Nat×Nat)):Prop:= ∀p∈ps,p.1<n/\p.2<n
def place_lt {n a b:Nat}(c:a<n) (d:b<n):a*n+b<n*n:=by
 have:a*n+n<=n*n:=by
  have:=Ao2 n (Nat.succ_le_of_lt c)
  rwa [Nat.succ_mul]at this
 lia
def aD {n a b:Nat}(c:b<n):(a*n+b) / n=a:=by
 rw [An8,Nat.mul_add_div (by lia),Nat.div_eq_of_lt c,Nat.add_zero]
def aH {n a b:Nat}(c:b<n):(a*n+b) % n=b:=by
 rw [An8,Nat.mul_add_mod,Nat.mod_eq_of_lt c]
def ba {n k:Nat}(h:k<n*n):k / n<n:=Nat.div_lt_of_lt_mul h
def aX {n k:Nat}(h:k<n*n):k % n<n:=Aj5 _ (by
 cases n with
 | zero=>simp at h
 | succ m=>lia)
def br (n k:Nat):k / n*n+k % n=k:=by rw [An8];exact Am k n
theorem r4 (n): ∀(ps:List (Nat×Nat)) (t k:Nat),(ps.foldl (λt p=>t ||| 2 ^ (p.1*n+p.2)) t).testBit k=(t.testBit k||ps.any λp=>u9 (p.1*n+p.2=k))
 | [],t,k=>by simp
 | p::r,t,k=>by
  rw [Ak3,r4 n r,Af,Ad7,Ag9,Bool.or_assoc]
def cB (n) (ps) (k):(cO n ps).testBit k=ps.any λp=>u9 (p.1*n+p.2=k):=by
 unfold cO;rw [r4];simp
def cW (h:gw n ps):cO n ps<2 ^ (n*n):=by
 refine Nat.lt_pow_two_of_testBit _ λi b=> ?_
 rw [cB,Ak7]
 intro p a
 have:=h p a
 have:=place_lt this.1 this.2
 simp;lia
def bF :p∈aw n t↔ ∃k,k<n*n/\t.testBit k=u0/\p=(k / n,k % n):=by
 unfold aw
 simp [Ab4]
 constructor
 .rintro ⟨k,⟨a,b⟩,rfl⟩;exact⟨k,a,b,rfl⟩
 .rintro ⟨k,a,b,rfl⟩;exact⟨k,⟨a,b⟩,rfl⟩
def bV (n t):gw n (aw n t):=λp b=>by
 obtain⟨k,a,c,rfl⟩:=bF.mp b
 exact⟨ba a,aX a⟩
def lx (ps:List (Nat×Nat)):List (Nat×Nat):=ps.map λp=>(p.2,p.1)
def eP (h:gw n ps):gw n (lx ps):=λp b=>by
 obtain⟨q,a,rfl⟩:=Ab6.mp b
 exact⟨(h q a).2,(h q a).1⟩
def bG (n t:Nat):Nat:=cO n (lx (aw n t))
def f7 (n t):bG n t<2 ^ (n*n):=cW (eP (bV n t))
def ff (f:k<n*n):(bG n t).testBit k=t.testBit (k % n*n+k / n):=by
 unfold bG
 rw [cB]
 have d:=ba f
 by_cases h:t.testBit (k % n*n+k / n)=u0
 .rw [h,Ad2]
  refine⟨(k / n,k % n),?_,?_⟩
  .refine Ab6.mpr ⟨(k % n,k / n),bF.mpr ⟨k % n*n+k / n,place_lt (aX f) d,h,?_⟩,rfl⟩
   rw [aD d,aH d]
  .simp [decide_eq_true_eq];exact br n k
 .have c:=by simpa using h
  rw [c,Ak7]
  intro p l
  obtain⟨q,i,rfl⟩:=Ab6.mp l
  obtain⟨j,a,b,rfl⟩:=bF.mp i
  simp [decide_eq_true_eq]
  intro e
  subst e
  have g:=ba a
  have a2:=aX a
  rw [aD g,aH g,br]at c
  rw [c]at b
  cases b
def bD (n:Nat):Nat:=cO n ((Aa3 n).map λa=>(a,a))
def dP (n):gw n ((Aa3 n).map λa=>(a,a)):=λp c=>by
 obtain⟨a,b,rfl⟩:=Ab6.mp c
 exact⟨Ab4.mp b,Ab4.mp b⟩
def A9 (c:k<n*n):(bD n).testBit k=u9 (k / n=k % n):=by
 unfold bD
 rw [cB]
 have f:=aX c
 by_cases h:k / n=k % n
 .rw [decide_eq_true h,Ad2]
  refine⟨_,Ab6.mpr ⟨k / n,Ab4.mpr (ba c),rfl⟩,?_⟩
  simp [decide_eq_true_eq]
  have:=br n k
  rw [← h]at this
  exact this
 .rw [decide_eq_false h,Ak7]
  intro p d
  obtain⟨a,b,rfl⟩:=Ab6.mp d
  simp [decide_eq_true_eq]
  intro e
  subst e
  have b:=Ab4.mp b
  exact h (by rw [aD b,aH b])
def cq (n p b:Nat):Nat:=p / 2 ^ (b*n) % 2 ^ n
def joinM (n o p:Nat):Nat:=(aw n o).foldl (λt q=>t ||| cq n p q.2*2 ^ (q.1*n)) 0
def cZ (n p b):cq n p b<2 ^ n:=Aj5 _ (Nat.pow_pos (by decide))
def rS (a:c<n):(cq n p b).testBit c=p.testBit (b*n+c):=by
 unfold cq
 rw [Ah,decide_eq_true a,Ae5,Ah0,Ap4]
def Cv (d:x<2 ^ n) (f:0<n):(x*2 ^ (a*n)).testBit k=(u9 (k / n=a)&&x.testBit (k % n)):=by
 rw [Nat.testBit_mul_two_pow]
 have e:=br n k
 by_cases h:k / n=a
 .subst h
  rw [decide_eq_true rfl,Ae5]
  have:k / n*n<=k:=by lia
  rw [decide_eq_true (this),Ae5]
  rw [show k-k / n*n=k % n by lia]
 .rw [decide_eq_false h,Ae9]
  by_cases b:k>=a*n
  .rw [decide_eq_true b,Ae5]
   refine Ai8 (Ab3 d (Ad0 (by decide) ?_))
   have c:a<k / n:=by
    have:a<=k / n:=(Nat.le_div_iff_mul_le f).mpr b
    lia
   have g:=Ao2 n c
   lia
  .rw [decide_eq_false b,Ae9]
theorem yx (n p) (a:0<n): ∀(ps:List (Nat×Nat)) t k,(ps.foldl (λt q=>t ||| cq n p q.2*2 ^ (q.1*n)) t).testBit k=(t.testBit k||ps.any λq=>u9 (k / n=q.1)&&(cq n p q.2).testBit (k % n))
 | [],t,k=>by simp
 | q::r,t,k=>by
  rw [Ak3,yx n p a r,Af,Cv (cZ n p q.2) a,Ag9,Bool.or_assoc]
def F7 (h:k<n*n):0<n:=by
 cases n with
 | zero=>simp at h
 | succ m=>lia
def JB (n o p k:Nat):Bool:=(Aa3 n).any λb=>o.testBit (k / n*n+b)&&p.testBit (b*n+k % n)
def b9 (c:k<n*n):(joinM n o p).testBit k=JB n o p k:=by
 have h:=aX c
 unfold joinM JB
 rw [yx n p (F7 c)]
 simp [Bool.false_or]
 rw [Bool.eq_iff_iff,Ad2,Ad2]
 constructor
 .rintro ⟨q,i,a⟩
  obtain⟨j,f,g,rfl⟩:=bF.mp i
  rw [Aa1,decide_eq_true_eq]at a
  obtain⟨e,a⟩:=a
  refine⟨j % n,Ab4.mpr (aX f),?_⟩
  rw [rS h]at a
  rw [e,br,g,a];rfl
 .rintro ⟨b,a,d⟩
  have a:=Ab4.mp a
  rw [Aa1]at d
  refine⟨_,bF.mpr ⟨k / n*n+b,place_lt (ba c) a,d.1,by rw [aD a,aH a]⟩,?_⟩
  rw [rS h,d.2]
  simp
def dc (n o p):joinM n o p<2 ^ (n*n):=by
 have c: ∀(a:List (Nat×Nat)) t,(∀ q∈a,q.1<n)->t<2 ^ (n*n)->a.foldl (λt q=>t ||| cq n p q.2*2 ^ (q.1*n)) t<2 ^ (n*n):=by
  intro a
  induction a with
  | nil=>intro t _ h;exact h
  | cons q r f=>
   intro t d i
   refine f _ (λz g=>d z (Aa2 _ g)) (Ak9 i ?_)
   have b:=d q Aa5
   have:=cZ n p q.2
   have e:2 ^ n*2 ^ (q.1*n)<=2 ^ (n*n):=by
    rw [← Nat.pow_add]
    refine Ad0 (by decide) ?_
    have:=Ao2 n (Nat.succ_le_of_lt b)
    lia
   exact Ab3 (Nat.mul_lt_mul_of_pos_right this (Nat.pow_pos (by decide))) e
 exact c _ _ (λq b=>(bV n o q b).1) (Nat.pow_pos (by decide))
def eg (b:s<2 ^ n) (c:t<2 ^ n) (h: ∀k,k<n->s.testBit k=t.testBit k):s=t:=
 Aj8 λk=>by
  by_cases a:k<n
  .exact h k a
  .rw [Ai8 (Ab3 b (Ad0 (by decide) (by lia))),Ai8 (Ab3 c (Ad0 (by decide) (by lia)))]
def et (d:a<n) (c:b<n):(bD n).testBit (a*n+b)=u9 (a=b):=by
 rw [A9 (place_lt d c),aD c,aH c]
def gd (n):bD n<2 ^ (n*n):=cW (dP n)
inductive TC (n t a:Nat):Nat->Prop
 | step {b:Nat}:a<n->b<n->t.testBit (a*n+b)=u0->TC n t a b
 | more {b c:Nat}:TC n t a b->b<n->c<n->t.testBit (b*n+c)=u0->TC n t a c
def TC.trans (h1:TC n t a b) (e:TC n t b c):TC n t a c:=by
 induction e with
 | step x y z=>exact .more h1 x y z
 | more _ x y z d=>exact .more d x y z
structure fe (n t r:Nat):Prop where
 lt:r<2 ^ (n*n)
 bit: ∀a b,a<n->b<n->(r.testBit (a*n+b)=u0↔TC n t a b)
structure fH (n t r:Nat):Prop where
 lt:r<2 ^ (n*n)
 sub: ∀a b,a<n->b<n->r.testBit (a*n+b)=u0->TC n t a b
 sup: ∀k,t.testBit k=u0->r.testBit k=u0
def fH.start (h:t<2 ^ (n*n)):fH n t t:=⟨h,λ_ _ b a h=> .step b a h,λ_ h=>h⟩
def cG (d:c<n):JB n o p (a*n+c)=(Aa3 n).any λb=>o.testBit (a*n+b)&&p.testBit (b*n+c):=by
 unfold JB
 rw [aD d,aH d]
def fH.next (h:fH n t r):fH n t (r ||| joinM n r r):=by
 refine⟨Ak9 h.lt (dc _ _ _),λa b g e d=> ?_,λk i=> ?_⟩
 .rw [Af,Ae8]at d
  obtain d | d:=d
  .exact h.sub a b g e d
  .rw [b9 (place_lt g e),cG e,Ad2]at d
   obtain⟨c,f,d⟩:=d
   have f:=Ab4.mp f
   rw [Aa1]at d
   exact(h.sub a c g f d.1).trans (h.sub c b f e d.2)
 .rw [Af,h.sup k i,Am2]
def IV {a b:Nat}(h:a ||| b=a) (k) (c:b.testBit k=u0):a.testBit k=true:=by
 rw [← h,Af,c,Bool.or_true]
def fH.done (h:fH n t r) (e:r ||| joinM n r r=r):fe n t r:=by
 refine⟨h.lt,λa b i j=>⟨h.sub a b i j,λg=> ?_⟩⟩
 induction g with
 | step f d c=>exact h.sup _ c
 | more g f d c k=>
  refine IV e _ ?_
  rw [b9 (place_lt i d),cG d,Ad2]
  exact⟨_,Ab4.mpr f,by rw [(k f),h.sup _ c];rfl⟩
def fH.grow (h:fH n t r) (ne:r ||| joinM n r r≠r):r<r ||| joinM n r r:=by
 have:= @Nat.left_le_or r (joinM n r r)
 lia
structure Nq (n t a:Nat) (re wa:List Nat):Prop where
 an:a<n
 nd:re.Nodup
 tc: ∀x∈re,TC n t a x
 wl: ∀x∈wa,x<n/\(x=a\/x∈re)
 cl: ∀x,(x=a\/x∈re)->x∉wa-> ∀b,b<n->t.testBit (x*n+b)=u0->b∈re
structure Lk (n t a:Nat) (re wa:List Nat) (h b:Nat):Prop where
 an:a<n
 nd:re.Nodup
 tc: ∀x∈re,TC n t a x
 wl: ∀x∈wa,x<n/\(x=a\/x∈re)
 cl: ∀x,(x=a\/x∈re)->x∉wa->x≠h-> ∀b,b<n->t.testBit (x*n+b)=u0->b∈re
 hn:h<n
 hr:h=a\/h∈re
 hb: ∀b',b'<b->t.testBit (h*n+b')=u0->b'∈re
end Wf
namespace M
noncomputable abbrev yN:Tx:=[115,111,109,101,32,110,111,32,108,101,97,115,116,32,109,111,115,116,32,101,97,99,104,32,105,110,32,97,110,100,32,111,114,32,110,111,116,32,115,97,109,101,32,97,108,108,32,110,111,110,101,32,107,105,110,100,32,116,105,101,32,115,97,121]
abbrev fj:Tx:=[119,111,114,108,100]
abbrev eG:Tx:=[115,97,109,101]
abbrev fE:Tx:=[108,101,97,115,116]
abbrev vI:Tx:=[97,98,99,100,101,102,103,104,105,106,107,108,109,110,111,112,113,114,115,116,117,118,119,120,121,122]
abbrev eX:Tx:=[110,111,116]
abbrev ir:Tx:=[98,114,111,107,101,110]
abbrev gm:Tx:=[115,111,109,101]
abbrev gF:Tx:=[109,111,115,116]
abbrev lP:Tx:=[101,97,99,104,108,101,97,115,116]
abbrev iR:Tx:=[101,113,117,97,108]
abbrev ic:Tx:=[110,111,110,101]
abbrev lM:Tx:=[115,112,108,105,116]
abbrev hG:Tx:=[97,110,100]
abbrev fM:Tx:=[111,114]
abbrev f6:Tx:=[105,110]
abbrev pb:Tx:=[106,111,105,110,101,100]
abbrev oV:Tx:=[116,117,114,110,101,100]
abbrev iZ:Tx:=[97,108,108]
abbrev vW:Tx:=[101,97,99,104,109,111,115,116]
abbrev mO:Tx:=[108,101,115,115]
abbrev g7:Tx:=[110,111]
abbrev l9:Tx:=[110,97,109,101]
abbrev rF:Tx:=[99,108,111,115,101,100]
abbrev oF:Tx:=[112,108,117,115]
abbrev o7:Tx:=[98,111,116,104]
abbrev rE:Tx:=[112,97,112,101,114]
abbrev S.r (c x:E):S:= .iff c (.cons (.ret x) .nil) .nil
abbrev E.v0:E:= .var 0
abbrev E.v1:E:= .var 1
abbrev E.v2:E:= .var 2
abbrev E.v3:E:= .var 3
abbrev E.v4:E:= .var 4
abbrev E.v5:E:= .var 5
abbrev E.v6:E:= .var 6
abbrev E.v7:E:= .var 7
abbrev E.v8:E:= .var 8
abbrev E.v9:E:= .var 9
abbrev E.i0:E:= .int 0
abbrev E.i1:E:= .int 1
abbrev E.i2:E:= .int 2
abbrev E.i3:E:= .int 3
abbrev E.i4:E:= .int 4
abbrev Es.a (x:E):Es:= .cons x .nil
abbrev Es.b (x y:E):Es:= .cons x (.cons y .nil)
abbrev Es.c (x y z:E):Es:= .cons x (.cons y (.cons z .nil))
abbrev Es.d (x y z u:E):Es:= .cons x (.cons y (.cons z (.cons u .nil)))
abbrev Es.f (x y z u v:E):Es:= .cons x (.cons y (.cons z (.cons u (.cons v .nil))))
abbrev Es.g (x y z u v w:E):Es:= .cons x (.cons y (.cons z (.cons u (.cons v (.cons w .nil)))))
abbrev Ss.a (x:S):Ss:= .cons x .nil
abbrev Ss.b (x y:S):Ss:= .cons x (.cons y .nil)
abbrev Ss.c (x y z:S):Ss:= .cons x (.cons y (.cons z .nil))
abbrev Ss.d (x y z u:S):Ss:= .cons x (.cons y (.cons z (.cons u .nil)))
abbrev Ss.f (x y z u v:S):Ss:= .cons x (.cons y (.cons z (.cons u (.cons v .nil))))
abbrev Ss.g (x y z u v w:S):Ss:= .cons x (.cons y (.cons z (.cons u (.cons v (.cons w .nil)))))
abbrev Ss.h (x y z u v w a:S):Ss:= .cons x (.cons y (.cons z (.cons u (.cons v (.cons w (.cons a .nil))))))
abbrev Ss.k (x y z u v w a b:S):Ss:= .cons x (.cons y (.cons z (.cons u (.cons v (.cons w (.cons a (.cons b .nil)))))))
noncomputable abbrev Ss.m (x y z u v w a b c:S):Ss:= .cons x (.cons y (.cons z (.cons u (.cons v (.cons w (.cons a (.cons b (.cons c .nil))))))))
def Cn:Fn:=⟨1,1,.a (.ret (.and (.bZ .v0 .int) (.not (.bZ .v0 .bool))))⟩
def ZC:Fn:=⟨2,2,.a (.ret (.and (.call "is_whole" (.a .v0)) (.chain .le .lt .i0 .v0 .v1)))⟩
noncomputable def wF:E:= .comp [0] u0 1 [1,0] (.aj (.bin .mul .v0 .v0)) u0 (.bin .band (.bin .shr .v1 .v0) .i1) (.bi .divmod (.b .v0 .v2))
def ZP:Fn:=⟨2,2,.a (.ret wF)⟩
def Qj:Ss:= .a (.af 2 (.bin .bor .v2 (.bin .shl .i1 (.bin .add (.bin .mul .v3 .v0) .v4))))
def wN:Fn:=⟨2,5,.c (.af 2 .i0) (.for [3,4] k9 (.seq .v1) Qj) (.ret .v2)⟩
def uV:Fn:=⟨2,2,.a (.ret (.bin .band .v0 .v1))⟩
def pZ:Fn:=⟨2,2,.a (.ret (.bin .bor .v0 .v1))⟩
def Z3:Fn:=⟨2,2,.a (.ret (.bin .band .v0 (.inv .v1)))⟩
def jC:E:= .comp [0,1] false 2 [] (.seq (.call "pairs_of" (.b .v0 .v1))) false (.bl true) (.tup (.b .v1 .v0))
def y6:Fn:=⟨2,2,.a (.ret (.call "gathered" (.b .v0 jC)))⟩
noncomputable def Qv:Ss:= .b (.af 7 (.bin .band (.bin .shr .v2 (.bin .mul .v6 .v0)) .v3)) (.af 4 (.bin .bor .v4 (.bin .shl .v7 (.bin .mul .v5 .v0))))
def sM:Fn:=⟨3,8,.d (.af 3 (.bin .sub (.bin .shl .i1 .v0) .i1)) (.af 4 .i0) (.for [5,6] k9 (.seq (.call "pairs_of" (.b .v0 .v1))) Qv) (.ret .v4)⟩
def xv:E:= .cmp .ne .v3 .v2
def Ju:Ss:= .b (.af 2 .v3) (.af 3 (.call "either" (.b .v2 (.call "joined" (.c .v0 .v2 .v2)))))
def vy:Fn:=⟨2,4,.d (.af 2 .v1) (.af 3 (.call "either" (.b .v2 (.call "joined" (.c .v0 .v2 .v2))))) (.iD 100000 xv Ju) (.ret .v2)⟩
def JT:E:= .comp [0] u0 1 [] (.aj .v0) k9 (.bl u0) (.tup (.b .v0 .v0))
def tG:Fn:=⟨1,1,.a (.ret (.call "gathered" (.b .v0 JT)))⟩
def rJ:Fn:=⟨1,1,.a (.ret (.bin .sub (.bin .shl .i1 (.bin .mul .v0 .v0)) .i1))⟩
def Zi:E:= .comp [0] u0 1 [4] (.aj .v3) u0 (.bin .band (.bin .shr .v1 .v0) .i1) (.tup (.b .v0 .v0))
def jt:Fn:=⟨3,5,.d (.r (.cmp .mem .v2 (.ix .v0 .i1)) (.ix (.ix .v1 .i2) (.dJ .index (.ix .v0 .i1) (.a .v2)))) (.af 3 (.ix .v1 .i0)) (.af 4 (.ix (.ix .v1 .i1) (.dJ .index (.ix .v0 .i0) (.a .v2)))) (.ret (.call "gathered" (.b .v3 Zi)))⟩
def ZB:Fn:=⟨3,3,.m (.r (.cmp .eq .v1 (.str eG)) (.call "same" (.a .v0))) (.r (.cmp .eq .v1 (.str iZ)) (.call "every" (.a .v0))) (.r (.cmp .eq .v1 (.str ic)) .i0) (.r (.cmp .eq .v1 (.str oF)) (.call "either" (.b (.ix .v2 .i0) (.ix .v2 .i1)))) (.r (.cmp .eq .v1 (.str mO)) (.call "without" (.b (.ix .v2 .i0) (.ix .v2 .i1)))) (.r (.cmp .eq .v1 (.str o7)) (.call "common" (.b (.ix .v2 .i0) (.ix .v2 .i1)))) (.r (.cmp .eq .v1 (.str pb)) (.call "joined" (.c .v0 (.ix .v2 .i0) (.ix .v2 .i1)))) (.r (.cmp .eq .v1 (.str oV)) (.call "turned" (.b .v0 (.ix .v2 .i0)))) (.ret (.call "closed" (.b .v0 (.ix .v2 .i0))))⟩
def WB:E:= .comp [0] u0 1 [4] (.aj .v0) k9 (.bl u0) (.dJ .count .v1 (.a .v0))
def XB:E:= .comp [0,1] k9 2 [] (.seq .v3) k9 (.bl u0) .v0
def yT:Fn:=⟨3,5,.d (.af 3 (.call "pairs_of" (.b .v0 .v2))) (.r (.cmp .mem .v1 (.tup (.b (.str fE) (.str gF)))) (.lst (.a (.bi .len (.a .v3))))) (.af 4 XB) (.ret WB)⟩
def XD:E:= .comp [0,1] k9 2 [] (.seq .v5) k9 (.bl u0) .v1
def xD:E:= .comp [0,1] k9 2 [] (.seq .v5) k9 (.bl u0) .v0
def Xu:E:= .comp [0] u0 1 [0,1] (.seq (.fZ .v2 .i1)) k9 (.bl u0) (.call "bounds" (.c .v1 .v2 .v0))
def bE:Fn:=⟨3,9,.k (.af 3 (.ix .v2 .i0)) (.iff (.cmp .eq .v3 (.str l9)) (.b (.af 4 (.ix .v2 .i1)) (.ret (.tup (.b (.call "value_of_name" (.c .v0 (.ix .v1 .i0) .v4)) (.call "value_of_name" (.c .v0 (.ix .v1 .i1) .v4)))))) .nil) (.af 5 Xu) (.af 6 xD) (.af 7 XD) (.r (.cmp .eq .v3 (.str mO)) (.tup (.b (.call "without" (.b (.ix .v6 .i0) (.ix .v7 .i1))) (.call "without" (.b (.ix .v7 .i0) (.ix .v6 .i1)))))) (.af 8 (.ix (.ix .v1 .i0) .i0)) (.ret (.tup (.b (.call "made" (.c .v8 .v3 .v6)) (.call "made" (.c .v8 .v3 .v7)))))⟩
def J3:Fn:=⟨2,2,.c (.r .v0 (.bl u0)) (.r .v1 (.bl k9)) (.ret .au)⟩
def WP:Fn:=⟨1,1,.a (.ret (.call "settled" (.b (.cmp .c6 .v0 (.bl false)) (.cmp .c6 .v0 (.bl true)))))⟩
def ZO:Fn:=⟨2,2,.a (.ret (.call "settled" (.b (.and (.cmp .c6 .v0 (.bl true)) (.cmp .c6 .v1 (.bl true))) (.or (.cmp .c6 .v0 (.bl false)) (.cmp .c6 .v1 (.bl false))))))⟩
def qW:Fn:=⟨2,2,.a (.ret (.call "settled" (.b (.or (.cmp .c6 .v0 (.bl true)) (.cmp .c6 .v1 (.bl true))) (.and (.cmp .c6 .v0 (.bl false)) (.cmp .c6 .v1 (.bl false))))))⟩
def xW:Fn:=⟨2,2,.a (.ret (.call "settled" (.b (.cmp .eq (.call "without" (.b (.ix .v0 .i1) (.ix .v1 .i0))) .i0) (.cmp .ne (.call "without" (.b (.ix .v0 .i0) (.ix .v1 .i1))) .i0))))⟩
def jx:E:= .comp [0] u0 1 [2] (.seq .v5) k9 (.bl u0) (.cmp .le .v0 .v1)
def Zw:E:= .comp [0] u0 1 [2] (.seq .v4) k9 (.bl u0) (.cmp .gt .v0 .v1)
def qx:E:= .comp [0] u0 1 [2] (.seq .v4) k9 (.bl u0) (.cmp .ge .v0 .v1)
def jw:E:= .comp [0] u0 1 [2] (.seq .v5) k9 (.bl u0) (.cmp .lt .v0 .v1)
def zF:Fn:=⟨4,6,.d (.af 4 (.call "counts" (.c .v0 .v1 (.ix .v3 .i0)))) (.af 5 (.call "counts" (.c .v0 .v1 (.ix .v3 .i1)))) (.r (.cmp .mem .v1 (.tup (.b (.str fE) (.str lP)))) (.call "settled" (.b (.bi .all (.a qx)) (.bi .any (.a jw))))) (.ret (.call "settled" (.b (.bi .all (.a jx)) (.bi .any (.a Zw)))))⟩
def cx:Fn:=⟨3,4,.f (.af 3 (.ix .v2 .i0)) (.r (.cmp .eq .v3 (.str eX)) (.call "not_told" (.a (.call "told" (.c .v0 .v1 (.ix .v2 .i1)))))) (.r (.cmp .eq .v3 (.str hG)) (.call "and_told" (.b (.call "told" (.c .v0 .v1 (.ix .v2 .i1))) (.call "told" (.c .v0 .v1 (.ix .v2 .i2)))))) (.r (.cmp .eq .v3 (.str fM)) (.call "or_told" (.b (.call "told" (.c .v0 .v1 (.ix .v2 .i1))) (.call "told" (.c .v0 .v1 (.ix .v2 .i2)))))) (.ret (.call "fact_told" (.c .v0 .v1 .v2)))⟩
def aU:Fn:=⟨3,7,.k (.af 3 (.ix .v2 .i0)) (.af 4 (.ix (.ix .v1 .i0) .i0)) (.af 5 (.call "bounds" (.c .v0 .v1 (.ix .v2 (.neg .i1))))) (.r (.cmp .eq .v3 (.str gm)) (.call "count_told" (.d .v4 (.str fE) .i1 .v5))) (.r (.cmp .eq .v3 (.str g7)) (.call "count_told" (.d .v4 (.str gF) .i0 .v5))) (.r (.cmp .eq .v3 (.str f6)) (.call "in_told" (.b (.call "bounds" (.c .v0 .v1 (.ix .v2 .i1))) .v5))) (.iff (.cmp .eq .v3 (.str iR)) (.b (.af 6 (.call "bounds" (.c .v0 .v1 (.ix .v2 .i1)))) (.ret (.call "and_told" (.b (.call "in_told" (.b .v6 .v5)) (.call "in_told" (.b .v5 .v6)))))) .nil) (.ret (.call "count_told" (.d .v4 .v3 (.ix .v2 .i1) .v5)))⟩
def jX:Fn:=⟨1,1,.a (.ret (.call "is_below" (.b .v0 (.bin .add (.con "GREATEST_SIZE") .i1))))⟩
noncomputable def rQ:Fn:=⟨2,2,.a (.ret (.bin .add (.bin .mul (.lst (.a .v1)) (.bi .len (.a (.ix .v0 .i0)))) (.bin .mul (.lst (.a (.bin .mul .v1 .v1))) (.bi .len (.a (.ix .v0 .i1))))))⟩
def yw:Fn:=⟨2,2,.a (.ret (.bi .sum (.a (.call "widths" (.b .v0 .v1)))))⟩
def WF:Fn:=⟨1,1,.a (.iff (.not (.call "is_size" (.a .v0))) (.a .dI) .nil)⟩
def xF:Fn:=⟨3,4,.c (.ex (.call "check_size" (.a .v1))) (.af 3 (.call "bits" (.b .v0 .v1))) (.iff (.cmp .gt .v3 .v2) (.a .dI) .nil)⟩
def xt:Ss:= .b (.app 3 (.bin .band .v4 (.bin .sub (.bin .shl .i1 .v5) .i1))) (.af 4 (.bin .shr .v4 .v5))
def wP:Fn:=⟨3,7,.h (.ex (.call "check_size" (.a .v1))) (.iff (.not (.call "is_below" (.b .v2 (.bin .shl .i1 (.call "bits" (.b .v0 .v1)))))) (.a .dI) .nil) (.set 3 (.lst .nil)) (.af 4 .v2) (.for [5] true (.seq (.call "widths" (.b .v0 .v1))) xt) (.af 6 (.bi .len (.a (.ix .v0 .i0)))) (.ret (.tup (.c .v1 (.bi .tuple (.a (.fb .v3 .v6))) (.bi .tuple (.a (.fZ .v3 .v6))))))⟩
def Xq:E:= .comp [0,1] false 2 [3] (.seq (.call "pairs_of" (.b .v1 (.call "every" (.a .v1))))) false (.bl true) (.tup (.c .v2 .v0 .v1))
def jy:Ss:= .a (.ext 2 Xq)
def jq:E:= .comp [0] u0 1 [3] (.aj .v1) k9 (.bl u0) (.tup (.c .v1 .v0 .v0))
def Jy:Ss:= .a (.ext 2 jq)
noncomputable def Zx:Fn:=⟨2,4,.d (.set 2 (.lst .nil)) (.for [3] u0 (.seq (.ix .v0 .i0)) Jy) (.for [3] u0 (.seq (.ix .v0 .i1)) jy) (.ret .v2)⟩
noncomputable def wz:Fn:=⟨3,3,.b (.r (.or (.not (.bZ .v0 .tuple)) (.cmp .ne (.bi .len (.a .v0)) .v2)) (.bl k9)) (.ret (.and (.bZ (.ix .v0 .i0) .str) (.cmp .eq (.ix .v0 .i0) .v1)))⟩
def jk:Fn:=⟨3,3,.f (.bH 0 "Cases" "words" (.ix .v1 .i0)) (.bH 0 "Cases" "sayings" (.ix .v1 .i1)) (.bH 0 "Cases" "size" .v2) (.bU 0 "Cases" "places" (.call "places_of" (.b (.ix .v1 .i0) .v2))) (.bH 0 "Cases" "whole" (.bin .sub (.bin .shl .i1 (.bi .len (.cons (.aI .v0 "Cases" "places") .nil))) .i1))⟩
def wj:Fn:=⟨2,2,.a (.ret (.call "world_of" (.cons (.aI .v0 "Cases" "words") (.cons (.aI .v0 "Cases" "size") (.a .v1)))))⟩
def jB:Fn:=⟨4,5,.b (.af 4 (.tup (.cons (.bL .v0 "Cases" "world_of_code" "Cases.world_of_code" (.a .v2)) (.cons (.bL .v0 "Cases" "world_of_code" "Cases.world_of_code" (.a .v3)) .nil)))) (.ret (.call "told" (.cons (.aI .v0 "Cases" "words") (.b .v4 (.ix (.aI .v0 "Cases" "sayings") .v1)))))⟩
def Qw:Fn:=⟨4,4,.c (.r (.or (.not (.bZ .v1 .str)) (.or (.not (.call "is_whole" (.a .v2))) (.not (.call "is_whole" (.a .v3))))) .i0) (.r (.cmp .e6 (.tup (.c .v1 .v2 .v3)) (.aI .v0 "Cases" "places")) .i0) (.ret (.bin .shl .i1 (.dJ .b5 (.aI .v0 "Cases" "places") (.a (.tup (.c .v1 .v2 .v3))))))⟩
def qg:Fn:=⟨4,6,.f (.iff (.call "is_tuple_of" (.c .v1 (.str ir) .i2)) (.b (.af 4 (.ix .v1 .i1)) (.ret (.and (.call "is_below" (.b .v4 (.bi .len (.cons (.aI .v0 "Cases" "sayings") .nil)))) (.cmp .c6 (.bL .v0 "Cases" "truth" "Cases.truth" (.c .v4 .v2 .v3)) (.bl false))))) .nil) (.r (.not (.call "is_tuple_of" (.c .v1 (.str lM) (.int 6)))) (.bl false)) (.af 5 (.bL .v0 "Cases" "bit_of" "Cases.bit_of" (.c (.ix .v1 .i1) (.ix .v1 .i2) (.ix .v1 .i3)))) (.r (.cmp .eq (.bin .band (.bin .band .v5 .v3) (.inv .v2)) .i0) (.bl false)) (.ret (.and (.bL .v0 "Cases" "is_shown" "Cases.is_shown" (.c (.ix .v1 .i4) (.bin .bor .v2 .v5) .v3)) (.bL .v0 "Cases" "is_shown" "Cases.is_shown" (.c (.ix .v1 (.int 5)) .v2 (.bin .band .v3 (.inv .v5))))))⟩
def qo:Ss:= .a (.iff (.bZ .v2 .tuple) (.a (.ext 1 (.call "names_in" (.a .v2)))) .nil)
noncomputable def ZE:Fn:=⟨1,3,.d (.r (.cmp .eq (.ix .v0 .i0) (.str l9)) (.lst (.a (.ix .v0 .i1)))) (.set 1 (.lst .nil)) (.for [2] u0 (.seq (.fZ .v0 .i1)) qo) (.ret .v1)⟩
def Jm:Ss:= .a (.iff (.cmp .mem (.ix .v5 .i0) .v2) (.a (.af 3 (.bin .bor .v3 (.bin .shl .i1 .v4)))) .nil)
def ZV:Fn:=⟨2,6,.d (.af 2 (.call "names_in" (.a .v1))) (.af 3 .i0) (.for [4,5] false (.cw (.aI .v0 "Cases" "places")) Jm) (.ret .v3)⟩
def Wd:E:= .cmp .gt .v0 .i0
def qk:Ss:= .b (.af 0 (.bin .band .v0 (.bin .sub .v0 .i1))) (.af 1 (.bin .add .v1 .i1))
def qN:Fn:=⟨1,2,.c (.af 1 .i0) (.iD 100000 Wd qk) (.ret .v1)⟩
def xg:E:= .comp [0] u0 1 [0] (.seq (.ix .v1 .i1)) k9 (.bl u0) (.call "needed_bits" (.cons (.aI .v1 "Search" "cases") (.a .v0)))
def ji:Fn:=⟨3,3,.b (.bH 0 "Search" "cases" (.make "Cases" "Cases.__init__" (.b .v1 .v2))) (.bU 0 "Search" "needs" xg)⟩
noncomputable def Qg:Fn:=⟨2,2,.a (.ret (.bL .v0 "Search" "told_of_case" "Search.told_of_case" (.cons .v1 (.cons .i0 (.cons (.aI (.aI .v0 "Search" "cases") "Cases" "whole") .nil)))))⟩
noncomputable def Wg:E:= .comp [0] u0 1 [0,3,2] (.seq .v1) k9 (.bl u0) (.bin .band (.bin .band (.ix (.aI .v1 "Search" "needs") .v0) .v2) (.inv .v3))
def qf:Fn:=⟨4,6,.c (.af 4 Wg) (.af 5 (.fh "how_many_set" .v4)) (.ret (.bin .sub (.fc (.bin .band .v5 (.neg .v5))) .i1))⟩
noncomputable def ja:Ss:= .c (.af 6 (.bL (.aI .v0 "Search" "cases") "Cases" "truth" "Cases.truth" (.c .v5 .v2 .v3))) (.r (.cmp .c6 .v6 (.bl false)) (.tup (.b (.str rE) (.tup (.b (.str ir) .v5))))) (.iff (.fA false .v6) (.a (.app 4 .v5)) .nil)
def aL:Fn:=⟨4,7,.d (.set 4 (.lst .nil)) (.for [5] u0 (.seq .v1) ja) (.r (.cmp .eq .v4 (.lst .nil)) (.tup (.cons (.str fj) (.cons (.bL (.aI .v0 "Search" "cases") "Cases" "world_of_code" "Cases.world_of_code" (.a .v2)) .nil)))) (.ret (.bL .v0 "Search" "told_of_halves" "Search.told_of_halves" (.c .v4 .v2 .v3)))⟩
noncomputable def aE:Fn:=⟨4,11,.k (.af 4 (.bL .v0 "Search" "chosen_place" "Search.chosen_place" (.c .v1 .v2 .v3))) (.af 5 (.bin .shl .i1 .v4)) (.af 6 (.bL .v0 "Search" "told_of_case" "Search.told_of_case" (.c .v1 (.bin .bor .v2 .v5) .v3))) (.r (.or (.cmp .eq (.ix .v6 .i0) (.str fj)) (.bL (.aI .v0 "Search" "cases") "Cases" "is_shown" "Cases.is_shown" (.c (.ix .v6 .i1) .v2 .v3))) .v6) (.af 7 (.bL .v0 "Search" "told_of_case" "Search.told_of_case" (.c .v1 .v2 (.bin .band .v3 (.inv .v5))))) (.r (.cmp .eq (.ix .v7 .i0) (.str fj)) .v7) (.eE [8,9,10] (.ix (.aI (.aI .v0 "Search" "cases") "Cases" "places") .v4)) (.ret (.tup (.b (.str rE) (.tup (.g (.str lM) .v8 .v9 (.var 10) (.ix .v6 .i1) (.ix .v7 .i1))))))⟩
def z9:Fn:=⟨2,2,.b (.ex (.call "check_bits" (.c (.ix .v0 .i0) .v1 (.con "MOST_BITS")))) (.ret (.bL (.make "Search" "Search.__init__" (.b .v0 .v1)) "Search" "told_of_sayings" "Search.told_of_sayings" (.a (.b4 (.bi .len (.a (.ix .v0 .i1)))))))⟩
def qG:Fn:=⟨1,1,.a (.iff (.cmp .ge (.bi .len (.a (.ix .v0 .i1))) (.con "MOST_SAYINGS")) (.a .dI) .nil)⟩
def wK:Fn:=⟨3,5,.d (.eE [3,4] .v0) (.ex (.call "check_bits" (.c .v3 .v1 (.con "MOST_BITS")))) (.ex (.call "check_room" (.a .v0))) (.ret (.call "found" (.b (.tup (.b .v3 (.bin .add .v4 (.tup (.a (.tup (.b (.str eX) .v2))))))) .v1)))⟩
def wh:Ss:= .c (.eE [9,10] (.call "follows" (.c (.ix .v3 (.bin .sub .i1 .v6)) .v5 .v8))) (.r (.cmp .eq .v9 (.str fj)) (.tup (.c (.str fj) (.var 10) (.bin .sub .i1 .v6)))) (.ej .v4 (.tup (.d .v5 .v6 .v7 (.var 10))))
def Xn:Ss:= .a (.for [7,8] k9 (.enum (.ix (.ix .v3 .v6) .i1)) wh)
def Xg:Ss:= .a (.for [6] u0 (.aj .i2) Xn)
def xk:Fn:=⟨3,11,.k (.iff (.cmp .ne (.ix .v0 .i0) (.ix .v1 .i0)) (.a .dI) .nil) (.ex (.call "check_bits" (.c (.ix .v0 .i0) .v2 (.con "MOST_BITS")))) (.ex (.call "check_room" (.a .v0))) (.ex (.call "check_room" (.a .v1))) (.af 3 (.tup (.b .v0 .v1))) (.set 4 (.share (.lst .nil))) (.for [5] true (.aj (.bin .add .v2 .i1)) Xg) (.ret (.tup (.b (.str eG) .v4)))⟩
def ZI:Fn:=⟨1,1,.a (.ret (.lst (.c .v0 .i0 (.bi .sum (.a (.fb .v0 .i1))))))⟩
noncomputable def ZN:Fn:=⟨1,1,.c (.bQ .v0 .i1 (.bin .add (.ix .v0 .i1) .i1)) (.bQ .v0 .i2 (.bin .mod (.bin .add (.bin .mul (.int 7) (.ix .v0 .i1)) (.bi .sum (.a (.fb (.ix .v0 .i0) (.int 9))))) (.int 16777213))) (.iff (.cmp .lt (.ix .v0 .i1) (.bi .len (.a (.ix .v0 .i0)))) (.a (.bQ .v0 .i2 (.ix (.ix .v0 .i0) (.ix .v0 .i1)))) .nil)⟩
noncomputable def qC:Fn:=⟨2,3,.c (.iff (.not (.chain .le .lt .i0 (.ix .v0 .i2) (.bin .pow (.int 10) (.int 18)))) (.b (.fR .v0 .i2 2 (.bi .divmod (.b (.ix .v0 .i2) .v1))) (.ret .v2)) .nil) (.bQ .v0 .i2 (.bin .mod (.bin .add (.bin .add (.bin .mul (.ix .v0 .i2) (.int 742939)) (.bin .mul (.ix .v0 .i1) (.int 65063))) (.int 40503)) (.int 16777213))) (.ret (.bin .mod (.bin .fdiv (.bin .mul (.ix .v0 .i2) (.bin .add (.bin .mod (.ix .v0 .i2) (.int 4093)) (.int 7))) (.int 64)) .v1))⟩
def Qk:Ss:= .c (.af 8 (.bin .add (.bin .add (.fb .v4 .v6) (.ix .v2 (.bin .mod (.bin .add .v3 (.bin .mul (.int 5) .v5)) (.int 26)))) (.fZ .v4 .v6))) (.iff (.cmp .mem .v8 (.dM yN [gm,g7,fE,gF,[101,97,99,104],f6,hG,fM,eX,eG,iZ,ic,[107,105,110,100],[116,105,101],[115,97,121]])) (.a (.af 8 (.bin .add .v8 (.str [113])))) .nil) (.app 7 .v8)
def zq:Ss:= .a (.af 4 (.bin .add .v4 (.ix .v2 (.call "_law_draw" (.b .v0 (.int 26))))))
def JA:E:= .comp [0] u0 1 [2,3] (.aj .v1) k9 (.bl u0) (.bin .mul (.ix .v1 .v2) (.bin .add .v0 .i1))
def Jx:Fn:=⟨2,9,.m (.af 2 (.str vI)) (.af 3 (.call "_law_draw" (.b .v0 (.int 26)))) (.r (.cmp .eq (.call "_law_draw" (.b .v0 .i3)) .i0) JA) (.af 4 (.str [])) (.for [5] true (.aj (.call "_law_draw" (.b .v0 (.int 6)))) zq) (.af 6 (.call "_law_draw" (.b .v0 (.bin .add (.bi .len (.a .v4)) .i1)))) (.set 7 (.lst .nil)) (.for [5] true (.aj .v1) Qk) (.ret .v7)⟩
def wM:Fn:=⟨1,6,.d (.af 1 (.lst (.cons (.tup (.c .i0 .i1 .i2)) (.cons (.tup (.c .i1 .i1 .i1)) (.cons (.tup (.c .i0 .i1 .i2)) (.g (.tup (.c .i1 .i0 .i3)) (.tup (.c .i2 .i0 .i2)) (.tup (.c .i0 .i1 .i1)) (.tup (.c .i1 .i0 .i2)) (.tup (.c .i1 .i1 .i0)) (.tup (.c .i2 .i1 .i1)))))))) (.eE [2,3,4] (.ix .v1 (.call "_law_draw" (.b .v0 (.bi .len (.a .v1)))))) (.af 5 (.call "_law_names" (.b .v0 (.bin .add .v2 .v3)))) (.ret (.tup (.b .v4 (.tup (.b (.bi .tuple (.a (.bi .sorted (.a (.fb .v5 .v2))))) (.bi .tuple (.a (.bi .sorted (.a (.fZ .v5 .v2))))))))))⟩
def Ze:E:= .comp [0] u0 1 [] (.seq .v1) k9 (.bl u0) (.tup (.b (.str l9) .v0))
def jg:Fn:=⟨3,7,.g (.af 3 (.call "_law_draw" (.b .v0 (.int 10)))) (.iff (.or (.cmp .eq .v2 .i0) (.cmp .lt .v3 .i3)) (.b (.af 4 (.bin .add (.bin .mul Ze .i2) (.lst (.c (.tup (.a (.str eG))) (.tup (.a (.str iZ))) (.tup (.a (.str ic))))))) (.ret (.ix .v4 (.call "_law_draw" (.b .v0 (.bi .len (.a .v4))))))) .nil) (.af 5 (.call "_law_expression" (.c .v0 .v1 (.bin .sub .v2 .i1)))) (.r (.cmp .lt .v3 (.int 5)) (.tup (.b (.ix (.lst (.b (.str oV) (.str rF))) (.bin .sub .v3 .i3)) .v5))) (.af 6 (.call "_law_expression" (.c .v0 .v1 (.bin .sub .v2 .i1)))) (.ret (.tup (.c (.ix (.lst (.f (.str oF) (.str mO) (.str o7) (.str pb) (.str pb))) (.bin .sub .v3 (.int 5))) .v5 .v6)))⟩
def bc:Fn:=⟨3,6,.h (.af 3 (.call "_law_draw" (.b .v0 (.int 11)))) (.iff (.and (.cmp .gt .v2 .i0) (.cmp .gt .v3 (.int 7))) (.c (.af 4 (.call "_law_saying" (.c .v0 .v1 (.bin .sub .v2 .i1)))) (.r (.cmp .eq .v3 (.int 8)) (.tup (.b (.str eX) .v4))) (.ret (.tup (.c (.ix (.lst (.b (.str hG) (.str fM))) (.bin .sub .v3 (.int 9))) .v4 (.call "_law_saying" (.c .v0 .v1 (.bin .sub .v2 .i1))))))) .nil) (.af 5 (.ix (.lst (.cons (.str f6) (.cons (.str iR) (.g (.str gm) (.str g7) (.str fE) (.str gF) (.str lP) (.str vW))))) (.bin .mod .v3 (.int 8)))) (.af 4 (.call "_law_expression" (.c .v0 .v1 .i1))) (.r (.or (.cmp .eq .v5 (.str f6)) (.cmp .eq .v5 (.str iR))) (.tup (.c .v5 .v4 (.call "_law_expression" (.c .v0 .v1 .i1))))) (.r (.or (.cmp .eq .v5 (.str gm)) (.cmp .eq .v5 (.str g7))) (.tup (.b .v5 .v4))) (.ret (.tup (.c .v5 (.ix (.lst (.cons .i0 (.cons .i1 (.g .i1 .i2 .i2 .i3 .i4 (.bin .add (.int 10) (.call "_law_draw" (.b .v0 (.int 90)))))))) (.call "_law_draw" (.b .v0 (.int 8)))) .v4)))⟩
def qj:Ss:= .c (.ex (.call "_law_turn" (.a .v0))) (.app 4 (.call "_law_saying" (.c .v0 .v3 .i1))) (.iff (.and (.cmp .gt .v5 .i0) (.cmp .eq (.call "_law_draw" (.b .v0 (.int 9))) .i0)) (.a (.cS 4 (.neg .i1) (.tup (.b (.str eX) (.ix .v4 (.call "_law_draw" (.b .v0 .v5))))))) .nil)
def xu:Fn:=⟨3,6,.d (.af 3 (.bi .list (.a (.bin .add (.ix .v1 .i0) (.ix .v1 .i1))))) (.set 4 (.lst .nil)) (.for [5] u0 (.aj (.call "_law_draw" (.b .v0 (.bin .add .v2 .i1)))) qj) (.ret (.tup (.b .v1 (.bi .tuple (.a .v4)))))⟩
noncomputable def Xi:Ss:= .a (.iff (.cmp .eq (.bin .band (.bin .shr .v1 (.bin .add (.bin .mul .v4 .v0) .v5)) .i1) .i1) (.b (.af 6 (.bin .band (.bin .shr .v2 (.bin .mul .v5 .v0)) (.bin .sub (.bin .shl .i1 .v0) .i1))) (.af 3 (.bin .bor .v3 (.bin .shl .v6 (.bin .mul .v4 .v0))))) .nil)
def xw:Ss:= .a (.for [5] u0 (.aj .v0) Xi)
def ZF:Fn:=⟨3,7,.c (.af 3 .i0) (.for [4] u0 (.aj .v0) xw) (.ret .v3)⟩
noncomputable def jp:Ss:= .a (.iff (.cmp .eq (.bin .band (.bin .shr .v1 (.bin .add (.bin .mul .v3 .v0) .v4)) .i1) .i1) (.a (.af 2 (.bin .bor .v2 (.bin .shl .i1 (.bin .add (.bin .mul .v4 .v0) .v3))))) .nil)
def Jw:Ss:= .a (.for [4] u0 (.aj .v0) jp)
def qs:Fn:=⟨2,5,.c (.af 2 .i0) (.for [3] u0 (.aj .v0) Jw) (.ret .v2)⟩
def Zo:Ss:= .a (.af 2 (.bin .bor .v2 (.call "_law_joined" (.c .v0 .v2 .v1))))
def xG:Fn:=⟨2,4,.c (.af 2 .v1) (.for [3] u0 (.aj .v0) Zo) (.ret .v2)⟩
def Jt:E:= .comp [0] u0 1 [0] (.aj .v0) k9 (.bl u0) (.bin .shl .i1 (.bin .add (.bin .mul .v0 .v1) .v0))
def qQ:Fn:=⟨1,1,.a (.ret (.bi .sum (.a Jt)))⟩
def ZZ:Fn:=⟨4,4,.c (.r (.cmp .eq .v0 (.str oF)) (.bin .bor .v2 .v3)) (.r (.cmp .eq .v0 (.str o7)) (.bin .band .v2 .v3)) (.ret (.call "_law_joined" (.c .v1 .v2 .v3)))⟩
def ay:Fn:=⟨3,10,.cons (.af 3 (.ix .v2 .i0)) (.m (.af 4 (.bin .sub (.bin .shl .i1 (.bin .mul .v0 .v0)) .i1)) (.r (.cmp .eq .v3 (.str l9)) (.eU 1 (.ix .v2 .i1))) (.iff (.cmp .mem .v3 (.lst (.c (.str eG) (.str iZ) (.str ic)))) (.b (.af 5 (.fT eG (.call "_law_same" (.a .v0)) iZ .v4 ic .i0 3)) (.ret (.tup (.b .v5 .v5)))) .nil) (.eE [6,7] (.call "_law_bounds" (.c .v0 .v1 (.ix .v2 .i1)))) (.r (.cmp .eq .v3 (.str oV)) (.tup (.b (.call "_law_turned" (.b .v0 .v6)) (.call "_law_turned" (.b .v0 .v7))))) (.r (.cmp .eq .v3 (.str rF)) (.tup (.b (.call "_law_closed" (.b .v0 .v6)) (.call "_law_closed" (.b .v0 .v7))))) (.eE [8,9] (.call "_law_bounds" (.c .v0 .v1 (.ix .v2 .i2)))) (.r (.cmp .eq .v3 (.str mO)) (.tup (.b (.bin .band .v6 (.bin .bxor .v4 .v9)) (.bin .band .v7 (.bin .bxor .v4 .v8))))) (.ret (.tup (.b (.call "_law_two" (.d .v3 .v0 .v6 .v8)) (.call "_law_two" (.d .v3 .v0 .v7 .v9))))))⟩
def jo:E:= .cmp .gt .v0 .i0
def jn:Ss:= .b (.af 1 (.bin .add .v1 (.bin .mod .v0 .i2))) (.af 0 (.bin .fdiv .v0 .i2))
def xQ:Fn:=⟨1,2,.c (.af 1 .i0) (.iD 100000 jo jn) (.ret .v1)⟩
def wA:E:= .comp [0,1] k9 2 [1] (.seq .v2) k9 (.bl u0) (.cmp .gt .v0 .v2)
def qz:E:= .comp [0,1] k9 2 [1] (.seq .v2) k9 (.bl u0) (.cmp .le .v1 .v2)
def qA:E:= .comp [0,1] k9 2 [1] (.seq .v2) k9 (.bl u0) (.cmp .lt .v1 .v2)
def Zy:E:= .comp [0,1] k9 2 [1] (.seq .v2) k9 (.bl u0) (.cmp .ge .v0 .v2)
noncomputable def Wx:Fn:=⟨3,3,.c (.iff .v0 (.b (.r (.bi .all (.a Zy)) (.bl u0)) (.ret (.ix (.lst (.b .au (.bl k9))) (.bi .int (.a (.bi .any (.a qA))))))) .nil) (.r (.bi .all (.a qz)) (.bl u0)) (.ret (.ix (.lst (.b .au (.bl k9))) (.bi .int (.a (.bi .any (.a wA))))))⟩
noncomputable def ZG:Fn:=⟨2,2,.b (.r (.cmp .eq (.bin .band (.ix .v0 .i1) (.ix .v1 .i0)) (.ix .v0 .i1)) (.bl u0)) (.ret (.ix (.lst (.b .au (.bl k9))) (.bi .int (.a (.cmp .ne (.bin .band (.ix .v0 .i0) (.ix .v1 .i1)) (.ix .v0 .i0))))))⟩
def wt:E:= .comp [0] u0 1 [4,0,6,5] (.aj .v0) k9 (.bl u0) (.tup (.b (.call "_law_many" (.a (.bin .band (.bin .shr .v1 (.bin .mul .v0 .v2)) .v3))) (.call "_law_many" (.a (.bin .band (.bin .shr .v4 (.bin .mul .v0 .v2)) .v3)))))
def bp:Fn:=⟨3,8,.h (.af 3 (.ix .v2 .i0)) (.iff (.or (.cmp .eq .v3 (.str gm)) (.cmp .eq .v3 (.str g7))) (.b (.af 2 (.tup (.c (.ix (.lst (.b (.str gF) (.str fE))) (.bi .int (.a (.cmp .eq .v3 (.str gm))))) (.bi .int (.a (.cmp .eq .v3 (.str gm)))) (.ix .v2 .i1)))) (.af 3 (.ix .v2 .i0))) .nil) (.eE [4,5] (.call "_law_bounds" (.c .v0 .v1 (.ix .v2 .i2)))) (.r (.or (.cmp .eq .v3 (.str fE)) (.cmp .eq .v3 (.str gF))) (.call "_law_ruled" (.c (.cmp .eq .v3 (.str fE)) (.ix .v2 .i1) (.lst (.a (.tup (.b (.call "_law_many" (.a .v4)) (.call "_law_many" (.a .v5))))))))) (.af 6 (.bin .sub (.bin .shl .i1 .v0) .i1)) (.af 7 wt) (.ret (.call "_law_ruled" (.c (.cmp .eq .v3 (.str lP)) (.ix .v2 .i1) .v7)))⟩
def Qr:E:= .comp [0] u0 1 [0,1] (.seq .v5) k9 (.bl u0) (.call "_law_told" (.c .v1 .v2 .v0))
def a9:Fn:=⟨3,7,.f (.af 3 (.ix .v2 .i0)) (.iff (.cmp .eq .v3 (.str eX)) (.c (.af 4 (.call "_law_told" (.c .v0 .v1 (.ix .v2 .i1)))) (.r (.fA false .v4) .au) (.ret (.not .v4))) .nil) (.iff (.cmp .mem .v3 (.lst (.c (.str hG) (.str fM) (.str iR)))) (.g (.af 5 (.lst (.b (.ix .v2 .i1) (.ix .v2 .i2)))) (.iff (.cmp .eq .v3 (.str iR)) (.a (.af 5 (.lst (.b (.tup (.c (.str f6) (.ix .v2 .i1) (.ix .v2 .i2))) (.tup (.c (.str f6) (.ix .v2 .i2) (.ix .v2 .i1))))))) .nil) (.af 6 Qr) (.r (.cmp .mem (.cmp .eq .v3 (.str fM)) .v6) (.cmp .eq .v3 (.str fM))) (.r (.cmp .mem .au .v6) .au) (.ret (.cmp .ne .v3 (.str fM)))) .nil) (.r (.cmp .eq .v3 (.str f6)) (.call "_law_within" (.b (.call "_law_bounds" (.c .v0 .v1 (.ix .v2 .i1))) (.call "_law_bounds" (.c .v0 .v1 (.ix .v2 .i2)))))) (.ret (.call "_law_fact" (.c .v0 .v1 .v2)))⟩
def Q7:Fn:=⟨1,1,.a (.ret (.and (.bZ .v0 .int) (.not (.bZ .v0 .bool))))⟩
noncomputable def Jo:E:= .comp [0] u0 1 [1,0] (.aj .v0) k9 (.bl u0) (.bin .shl (.bin .band (.bin .shr .v1 .v0) .i1) (.bin .add (.bin .mul .v0 .v2) .v0))
def QF:Fn:=⟨2,2,.a (.ret (.bi .sum (.a Jo)))⟩
def qu:Ss:= .a (.cv 3 (.ix (.ix .v0 .i1) .v4) (.tup (.b (.ix (.ix .v1 .i2) .v4) (.ix (.ix .v1 .i2) .v4))))
def Qu:Ss:= .b (.af 5 (.call "_law_spread" (.b .v2 (.ix (.ix .v1 .i1) .v4)))) (.cv 3 (.ix (.ix .v0 .i0) .v4) (.tup (.b .v5 .v5)))
def JD:Fn:=⟨2,6,.f (.af 2 (.ix .v1 .i0)) (.set 3 .c4) (.for [4] u0 (.aj (.bi .len (.a (.ix .v0 .i0)))) Qu) (.for [4] u0 (.aj (.bi .len (.a (.ix .v0 .i1)))) qu) (.ret .v3)⟩
def Wj:Ss:= .a (.r (.or (.not (.call "_law_whole" (.a .v5))) (.not (.chain .le .lt .i0 .v5 (.bin .shl .i1 (.ix (.lst (.b .v1 (.bin .mul .v1 .v1))) .v3))))) (.bl false))
def qr:Ss:= .c (.af 4 (.ix .v2 (.bin .add .i1 .v3))) (.r (.or (.not (.bZ .v4 .tuple)) (.cmp .ne (.bi .len (.a .v4)) (.bi .len (.a (.ix .v0 .v3))))) (.bl k9)) (.for [5] u0 (.seq .v4) Wj)
def Ww:Fn:=⟨3,6,.c (.r (.or (.not (.bZ .v2 .tuple)) (.or (.cmp .ne (.bi .len (.a .v2)) .i3) (.or (.not (.call "_law_whole" (.a (.ix .v2 .i0)))) (.cmp .ne (.ix .v2 .i0) .v1)))) (.bl false)) (.for [3] true (.aj .i2) qr) (.ret (.bl true))⟩
def Wz:E:= .comp [0] true 1 [1,2] (.seq (.ix .v0 .i1)) false (.bl true) (.cmp .c6 (.call "_law_told" (.c (.ix .v1 .i0) .v2 .v0)) (.bl true))
def zy:Fn:=⟨2,3,.b (.af 2 (.call "_law_seen" (.b (.ix .v0 .i0) .v1))) (.ret (.bi .all (.a Wz)))⟩
def zt:Ss:= .a (.cv 2 .v3 (.tup (.b .i0 (.bin .sub (.bin .shl .i1 (.bin .mul .v1 .v1)) .i1))))
def Wt:Ss:= .a (.cv 2 .v3 (.tup (.b .i0 (.call "_law_same" (.a .v1)))))
noncomputable def zC:Fn:=⟨2,4,.d (.set 2 .c4) (.for [3] u0 (.seq (.ix .v0 .i0)) Wt) (.for [3] u0 (.seq (.ix .v0 .i1)) zt) (.ret .v2)⟩
def xx:Fn:=⟨3,11,.cons (.eE [3,4,5] .v2) (.cons (.r (.or (.not (.bZ .v3 .str)) (.or (.cP u0 .v3 1) (.or (.not (.call "_law_whole" (.a .v4))) (.not (.call "_law_whole" (.a .v5)))))) .au) (.m (.r (.or (.not (.chain .le .lt .i0 .v4 .v0)) (.not (.chain .le .lt .i0 .v5 .v0))) .au) (.eE [6,7] (.eU 1 .v3)) (.af 8 (.bin .shl .i1 (.bin .add (.bin .mul .v4 .v0) .v5))) (.r (.or (.cmp .ne (.bin .band .v6 .v8) .i0) (.cmp .eq (.bin .band .v7 .v8) .i0)) .au) (.set 9 (.eA 1)) (.cv 9 .v3 (.tup (.b (.bin .bor .v6 .v8) .v7))) (.set 10 (.eA 1)) (.cv 10 .v3 (.tup (.b .v6 (.bin .sub .v7 .v8)))) (.ret (.lst (.b .v9 (.var 10))))))⟩
def xq:Fn:=⟨4,5,.g (.r (.or (.not (.bZ .v3 .tuple)) (.cmp .eq (.bi .len (.a .v3)) .i0)) (.bl false)) (.iff (.and (.cmp .eq (.ix .v3 .i0) (.str ir)) (.cmp .eq (.bi .len (.a .v3)) .i2)) (.b (.r (.or (.not (.call "_law_whole" (.a (.ix .v3 .i1)))) (.not (.chain .le .lt .i0 (.ix .v3 .i1) (.bi .len (.a (.ix .v0 .i1)))))) (.bl false)) (.ret (.cmp .c6 (.call "_law_told" (.c .v1 .v2 (.ix (.ix .v0 .i1) (.ix .v3 .i1)))) (.bl false)))) .nil) (.r (.or (.cmp .ne (.ix .v3 .i0) (.str lM)) (.cmp .ne (.bi .len (.a .v3)) (.int 6))) (.bl false)) (.af 4 (.call "_law_split" (.c .v1 .v2 (.sl .v3 .i1 .i4)))) (.r (.fA false .v4) (.bl false)) (.ret (.and (.call "_law_walks" (.d .v0 .v1 (.ix .v4 .i0) (.ix .v3 .i4))) (.call "_law_walks" (.d .v0 .v1 (.ix .v4 .i1) (.ix .v3 (.int 5))))))⟩
def xh:E:= .comp [0] u0 1 [] (.seq (.fb .v7 .i3)) k9 (.bl u0) (.call "_law_whole" (.a .v0))
def Qe:Ss:= .g (.af 7 (.ix .v3 .v6)) (.r (.or (.not (.bZ .v7 .tuple)) (.or (.cmp .ne (.bi .len (.a .v7)) .i4) (.cmp .ne (.fb .v7 .i3) (.ix .v4 .v6)))) (.bl false)) (.r (.not (.bi .all (.a xh))) (.bl false)) (.eE [8,9] (.ix (.lst (.b (.tup (.b .v0 .v1)) (.tup (.b .v1 .v0)))) (.ix .v7 .i1))) (.af 10 (.tup (.b (.ix .v9 .i0) (.bin .add (.ix .v9 .i1) (.tup (.a (.tup (.b (.str eX) (.ix (.ix .v8 .i1) (.ix .v7 .i2)))))))))) (.r (.not (.call "_law_walks" (.d (.var 10) (.ix .v7 .i0) (.call "_law_open" (.b (.ix .v0 .i0) (.ix .v7 .i0))) (.ix .v7 .i3)))) (.bl false))
def we:E:= .comp [0] u0 1 [5] (.aj (.bi .len (.a (.ix .v1 .i1)))) k9 (.bl u0) (.tup (.c .v1 .i1 .v0))
def Xe:E:= .comp [0] u0 1 [5] (.aj (.bi .len (.a (.ix .v0 .i1)))) k9 (.bl u0) (.tup (.c .v1 .i0 .v0))
def We:Ss:= .b (.af 4 (.bin .add .v4 Xe)) (.af 4 (.bin .add .v4 we))
def Xj:Fn:=⟨4,11,.f (.af 4 (.lst .nil)) (.for [5] u0 (.aj (.bin .add .v2 .i1)) We) (.r (.or (.not (.dW .v3)) (.cmp .ne (.bi .len (.a .v3)) (.bi .len (.a .v4)))) (.bl k9)) (.for [6] u0 (.aj (.bi .len (.a .v4))) Qe) (.ret (.bl u0))⟩
def Wm:Fn:=⟨4,6,.k (.r (.or (.not (.bZ .v3 .tuple)) (.cmp .lt (.bi .len (.a .v3)) .i2)) (.bl false)) (.r (.cmp .eq (.ix .v3 .i0) (.str eG)) (.and (.cmp .eq (.bi .len (.a .v3)) .i2) (.call "_law_papers_are" (.d .v0 .v1 .v2 (.ix .v3 .i1))))) (.r (.or (.cmp .ne (.ix .v3 .i0) (.str fj)) (.or (.cmp .ne (.bi .len (.a .v3)) .i3) (.or (.not (.call "_law_whole" (.a (.ix .v3 .i2)))) (.not (.chain .le .le .i0 (.ix .v3 .i2) .i1))))) (.bl false)) (.r (.or (.not (.bZ (.ix .v3 .i1) .tuple)) (.or (.cmp .ne (.bi .len (.a (.ix .v3 .i1))) .i3) (.not (.call "_law_whole" (.a (.ix (.ix .v3 .i1) .i0)))))) (.bl false)) (.af 4 (.ix (.ix .v3 .i1) .i0)) (.r (.or (.not (.chain .le .le .i0 .v4 .v2)) (.not (.call "_law_is_world" (.c (.ix .v0 .i0) .v4 (.ix .v3 .i1))))) (.bl false)) (.af 5 (.lst (.b .v0 .v1))) (.ret (.and (.call "_law_keeps" (.b (.ix .v5 (.ix .v3 .i2)) (.ix .v3 .i1))) (.not (.call "_law_keeps" (.b (.ix .v5 (.bin .sub .i1 (.ix .v3 .i2))) (.ix .v3 .i1))))))⟩
def bx:Fn:=⟨2,5,.c (.set 2 (.bi .list (.cons (.fg (.ix .v1 .i1)) .nil))) (.iff (.cmp .ne .v2 (.lst .nil)) (.f (.af 3 (.call "_law_draw" (.b .v0 (.bi .len (.a .v2))))) (.af 4 (.call "_law_draw" (.b .v0 .i4))) (.iff (.cmp .eq .v4 .i0) (.a (.cS 2 .v3 (.tup (.b (.str eX) (.tup (.b (.str eX) (.ix .v2 .v3))))))) .nil) (.iff (.cmp .eq .v4 .i1) (.a (.cS 2 .v3 (.tup (.c (.str hG) (.ix .v2 .i0) (.ix .v2 .v3))))) .nil) (.iff (.cmp .eq .v4 .i2) (.a (.cS 2 .v3 (.tup (.c (.str fM) (.ix .v2 .i0) (.ix .v2 .v3))))) .nil)) .nil) (.ret (.tup (.b (.ix .v1 .i0) (.bi .tuple (.a .v2)))))⟩
def cI:Fn:=⟨1,8,.cons (.set 1 (.share (.call "_law_start" (.a .v0)))) (.cons (.eE [2,3] (.call "_law_words" (.a .v1))) (.cons (.af 4 (.call "_law_theory" (.c .v1 .v3 .i2))) (.m (.af 5 (.call "_law_theory" (.c .v1 .v3 .i2))) (.ex (.call "_law_turn" (.a .v1))) (.iff (.cmp .eq (.call "_law_draw" (.b .v1 .i2)) .i0) (.a (.af 5 (.call "_law_other" (.b .v1 .v4)))) .nil) (.af 6 (.call "same_or_parted" (.c .v4 .v5 .v2))) (.r (.not (.call "_law_right" (.d .v4 .v5 .v2 .v6))) (.bl false)) (.iff (.cmp .eq (.ix .v6 .i0) (.str eG)) (.a (.ej (.ix .v6 .i1) .au)) .nil) (.af 7 (.call "same_or_parted" (.c .v5 .v4 .v2))) (.r (.or (.cmp .ne (.ix .v7 .i0) (.ix .v6 .i0)) (.not (.call "_law_right" (.d .v5 .v4 .v2 .v7)))) (.bl false)) (.ret (.call "_law_right" (.d .v4 .v5 .v2 (.call "same_or_parted" (.c .v4 .v5 .v2))))))))⟩
def prog:Prog:=⟨[("is_whole",Cn),("is_below",ZC),("pairs_of",ZP),("gathered",wN),("common",uV),("either",pZ),("without",Z3),("turned",y6),("joined",sM),("closed",vy),("same",tG),("every",rJ),("value_of_name",jt),("made",ZB),("counts",yT),("bounds",bE),("settled",J3),("not_told",WP),("and_told",ZO),("or_told",qW),("in_told",xW),("count_told",zF),("told",cx),("fact_told",aU),("is_size",jX),("widths",rQ),("bits",yw),("check_size",WF),("check_bits",xF),("world_of",wP),("places_of",Zx),("is_tuple_of",wz),("Cases.__init__",jk),("Cases.world_of_code",wj),("Cases.truth",jB),("Cases.bit_of",Qw),("Cases.is_shown",qg),("names_in",ZE),("needed_bits",ZV),("how_many_set",qN),("Search.__init__",ji),("Search.told_of_sayings",Qg),("Search.chosen_place",qf),("Search.told_of_case",aL),("Search.told_of_halves",aE),("found",z9),("check_room",qG),("follows",wK),("same_or_parted",xk),("_law_start",ZI),("_law_turn",ZN),("_law_draw",qC),("_law_names",Jx),("_law_words",wM),("_law_expression",jg),("_law_saying",bc),("_law_theory",xu),("_law_joined",ZF),("_law_turned",qs),("_law_closed",xG),("_law_same",qQ),("_law_two",ZZ),("_law_bounds",ay),("_law_many",xQ),("_law_ruled",Wx),("_law_within",ZG),("_law_fact",bp),("_law_told",a9),("_law_whole",Q7),("_law_spread",QF),("_law_seen",JD),("_law_is_world",Ww),("_law_keeps",zy),("_law_open",zC),("_law_split",xx),("_law_walks",xq),("_law_papers_are",Xj),("_law_right",Wm),("_law_other",bx),("law",cI)],[("WorldError", "ValueError"),("NoSize", "WorldError"),("NoCode", "WorldError"),("Crowded", "WorldError"),("TooBig", "WorldError"),("Unlike", "WorldError")],[("GREATEST_SIZE",.int 4),("MOST_BITS",.int 16),("MOST_SAYINGS",.int 12)]⟩
abbrev k8 (m:Nat):Fx:=⟨call prog m,prog.cl,prog.con⟩
abbrev W.i (n:Nat):W:= .v (.int (n:Int))
abbrev W.r (n:Nat):W:= .v (.ref n)
abbrev W.s (t:Tx):W:= .v (.str t)
abbrev W.b (b:Bool):W:= .v (.bl b)
abbrev W.t (t:List D):W:= .v (.tup t)
abbrev W.l (t:List D):W:= .v (.lst t)
abbrev sv (d:D):Option W:=k0 (.v d)
abbrev si (n:Nat):Option W:=k0 (.i n)
def nk (m j:Nat) (h:j<=m): ∃k,m=k+j:=⟨m-j,by lia⟩
abbrev D.n (n:Nat):D:= .int (n:Int)
theorem WC (f): ∀ ds,(∀ d∈ds,step d h= .ok (f d) h)->Gy step ds h= .ok (ds.filterMap f) h
 | [],_=>rfl
 | d::ds,a=>by
  have b:=WC f ds λd c=>a d (Aa2 _ c)
  rw [Gy,a d Aa5]
  simp only [b]
  cases q:f d<;>simp [q]
def rX (f) (m:Gk F it τ h= .ok ds h) (g:ds.length<=bf)
 (e: ∀d∈ds,∃i b,Gr tg one d (Ab k y0++aB.map λj=>Gi τ j)=k0 i/\Gm F c i h= .ok b h/\(if b=u0 then ∃w y,eval F elt i h= .ok w h/\w.d=k0 y/\f d=k0 y else f d=y0)):
 eval F (.comp tg one k aB it u0 c elt) τ h= .ok (.own (ds.filterMap f)) h:=by
 rw [eval,m,R.ae,if_pos g,WC f]
 .rfl
 intro d p
 obtain⟨i,b,o,n,a⟩:=e d p
 rw [o]
 show((Gm F c i h).bind _)=_
 rw [n]
 cases b with
 | true=>
  obtain⟨w,y,e1,e2,l⟩:=a
  simp [e1,e2,l]
 | false=>
  rw [if_neg (by simp)]at a
  simp [a]
def wm (f) (e:Gk F it τ h= .ok ds h) (b:ds.length<=bf)
 (a: ∀d∈ds,∃i,Gr tg one d (Ab k y0++aB.map λj=>Gi τ j)=k0 i/\ ∃w,eval F elt i h= .ok w h/\w.d=k0 (f d)):
 eval F (.comp tg one k aB it k9 c elt) τ h= .ok (.own (ds.map f)) h:=by
 rw [eval,e,R.ae,if_pos b,WC (λd=>k0 (f d))]
 .simp [List.filterMap_eq_map']
 intro d l
 obtain⟨i,g,w,e1,e2⟩:=a d l
 rw [g]
 simp [e1,e2]
def wQ (bnd) (body) (d) (ds) (τ) (h):Gp bnd body (d::ds) τ h=match bnd d τ with
 | none=> .fail
 | some c=>match body c h with
  | .next a b=>Gp bnd body ds a b
  | .cont a b=>Gp bnd body ds a b
  | .brk a b=> .next a b
  | o=>o:=rfl
@[simp] theorem zI (bnd) (body) (τ) (h):Gp bnd body [] τ h= .next τ h:=rfl
def zb (b:bnd d τ=k0 τ1) (a:body τ1 h= .next τ2 h2):Gp bnd body (d::ds) τ h=Gp bnd body ds τ2 h2:=by
 rw [wQ,b];simp [a]
@[simp] theorem GD (i) (d) (τ):Gr [i] u0 d τ=k0 (GB τ i (.v d)):=rfl
@[simp] theorem Ki (tg) (ds) (τ):Gr tg k9 (.tup ds) τ=aY tg ds τ:=rfl
def jd (a b:Nat):Ke (a:Int) (b:Int)=k0 ((a &&& b:Nat):Int):=by simp [Ke]
def wn (a b:Nat):kh (a:Int) (b:Int)=k0 ((a ||| b:Nat):Int):=by simp [kh]
@[simp] theorem L8 (i j):Gj .mod i j=if 0<j then k0 (i % j)else none:=rfl
@[simp] theorem FT (i j):Gj .fdiv i j=if 0<j/\j<kF then k0 (i / j)else none:=rfl
@[simp] theorem jc (i j):Gj .band i j=Ke i j:=rfl
@[simp] theorem xo (i j):Gj .bor i j=kh i j:=rfl
def je (a b:Nat) (h:a<2 ^ 64):Gj .mul (a:Int) (b:Int)=k0 ((a*b:Nat):Int):=by
 have c:(-dX< a/\ a<dX)\/(-dX< b/\ b<dX):=by rw [GX];lia
 show(if _ then _ else _)=_
 rw [if_pos c,Int.natCast_mul]
def el (k:Nat) (h:k<=1000000):Gj .shl 1 (k:Int)=k0 ((2 ^ k:Nat):Int):=by
 have a: 0<=(k:Int)/\ k<=BP/\(1:Int).natAbs<kl:=by rw [Kc,GC];exact⟨by lia,by lia,by decide⟩
 show(if _ then _ else _)=_
 rw [if_pos a,Int.one_mul,Ad5]
 simp
def Zq (t k:Nat):Gj .shr (t:Int) (k:Int)=k0 ((t / 2 ^ k:Nat):Int):=by
 simp [Gj,Int.natCast_pow]
def wR (t k):(t / 2 ^ k &&& 1)=(t.testBit k).toNat:=by
 have:=Af4 (t / 2 ^ k) 1
 rw [this]
 exact Wf.gE t k
def pD (p:Nat×Nat):D:= .tup [.int (p.1:Nat),.int (p.2:Nat)]
def DA (n t:Nat) (m):(((Aa3 m).map λi=>D.n i).filterMap λd=>match d with
 | .int i=>if t.testBit i.toNat then k0 (.tup [.int (i / (n:Int)),.int (i % (n:Int))])else y0
 | _=>y0)=(((Aa3 m).filter t.testBit).map λk=>(k / n,k % n)).map pD:=by
 induction Aa3 m with
 | nil=>rfl
 | cons x c a=>
  by_cases b:t.testBit x=u0
  .simp [b,pD,a]
  .simp [b,a]
def iX (m)(a:d∈(Aa3 m).map λi=>D.n i): ∃i:Nat,i<m/\d= .n i:=by
 obtain⟨i,b,rfl⟩:=Ab6.mp a
 exact⟨i,Ab4.mp b,rfl⟩
def xj (a:n<=20):n*n<=400:=Ab5 (Af5 a a) (by decide)
def rm (a:n<=20):n*n<=bf:=Ab5 (xj a) (by rw [Gg];decide)
def jj (e:eval F a τ h= .ok (.i m) h) (c:m<=1000000):Gk F (.aj a) τ h= .ok ((Aa3 m).map λi=> .n i) h:=by
 have b: -fY<= m/\ m<fY:=by rw [GS];lia
 rw [Gk,e,R.ae,int?_int,R.ao,R.ae,if_pos b,Ad5]
def BD (a:n<=20) (e:Gi τ i=si n/\Gi τ j=si n):Gk F (.aj (.bin .mul (.var i) (.var j))) τ h= .ok ((Aa3 (n*n)).map λi=> .n i) h:=by
 have b:=xj a
 refine jj ?_ (by lia)
 simp [e.1,e.2,(je n n (by lia))]
def Zv (k n t) (h) (e:n<=20):call prog (k+1) "pairs_of" [.i n,.i t] h= .ok (.own ((Wf.aw n t).map pD)) h:=by
 rw [Gb rfl _ _ _ rfl]
 simp only [ZP,execs,exec,wF,GK]
 rw [rX (λd=>match d with
  | .int i=>if t.testBit i.toNat then k0 (.tup [.int _,.int (i % n)])else y0
  | _=>y0) (BD e (by simp [Gi])) (by simpa using rm e)]
 .rw [DA]
  simp [Wf.aw]
 .intro d j
  obtain⟨i,g,rfl⟩:=iX _ j
  have b:0<n:=by cases n with
   | zero=>simp at g
   | succ m=>lia
  have a:0< n/\ n<kF:=by rw [GO];lia
  have f:Ke ((t / 2 ^ i:Nat)) 1=k0 (((t.testBit i).toNat:Nat):Int):=by
   rw [show 1=((1:Nat):Int)from rfl,jd,wR]
  refine⟨_,t.testBit i,rfl,?_,?_⟩
  .unfold Gm
   simp only [eval,Gi,Af2,List.replicate_zero,Ab1,Ap6,Ae7,GB,Gn,R.ae,GH,Zq,jc,f,R.ao,vT]
   cases t.testBit i<;>rfl
  .by_cases c:t.testBit i=u0
   .simp [c,Gi,a,b]
   .simp [c]
end M
local macro_rules | `(tactic| simp_all [$xs,*]) => `(tactic| simp only [M.exec, M.execs, M.Gm, M.eval, M.Gf, M.Gx, M.Gk, M.Gs, M.GK, M.Gi, M.Gn, M.GB, M.aY, M.R.ae, M.R.ar, M.R.ao, M.O.bw, M.O.bM, M.W.lj, M.W.dQ, M.W.bY, M.W.eN, M.W.gU, Ab1, Af0, Ap6, Ae7, Nat.reduceSub, Af2, List.replicate_zero, M.GT, Ao8, Ao3, M.GH, Ag2, M.Kt, M.Kp, M.Ku, M.Kh, M.Kn, M.Ko, M.int?_int, M.Ga, M.Gv, M.Gz, M.GD, M.Ki, $xs,*])
namespace M
def HX (f:n<=20)(e:a<n) (d:b<n) (h):
 execs F Qj [si n,k0 l,si t,si a,si b] h=
  .next [si n,k0 l,si (t ||| 2 ^ (a*n+b)),si a,si b] h:=by
 have c:Gj .shl 1 _=k0 ((2 ^ (a*n+b):Nat):Int):=el _ (by
  have:=Wf.place_lt e d
  have:=xj f
  lia)
 rw [Int.natCast_add]at c
 simp only [Qj,execs,exec,eval,Gi,Gn,R.ae,R.ao,R.ar,O.bw,GH,(je a n (by lia)),Jc,c,xo,(wn t (2 ^ (a*n+b))),W.lj,GB]
theorem u5 (c:n<=20)(h): ∀ ps t r x y,Wf.gw n ps-> ∃i j,
 Gp (Gr [3,4] k9) (λτ h=>execs F Qj τ h) (ps.map pD++r) [si n,k0 l,si t,x,y] h=
  Gp (Gr [3,4] k9) (λτ h=>execs F Qj τ h) r [si n,k0 l,sv (.int ((ps.foldl (λt p=>t ||| 2 ^ (p.1*n+p.2)) t:Nat):Int)),i,j] h
 | [],t,r,x,y,_=>⟨x,y,rfl⟩
 | p::ps,t,r,x,y,b=>by
  have a:=b p Aa5
  obtain⟨i,j,e⟩:=u5 c h ps (t ||| 2 ^ (p.1*n+p.2)) r (sv (.int p.1)) (sv (.int p.2)) λq d=>b q (Aa2 _ d)
  refine⟨i,j,?_⟩
  rw [Ab1,Ap6,zb rfl (HX c a.1 a.2 h),e]
  rfl
def Lv (k n) (ps) (l) (a:ku l=k0 (ps.map pD)) (h) (c:n<=20) (b:Wf.gw n ps):call prog (k+1) "gathered" [.i n,l] h= .ok (.i (Wf.cO n ps)) h:=by
 rw [Gb rfl _ _ _ rfl]
 obtain⟨d,f,e⟩:=u5 c h ps 0 [] y0 y0 b
 rw [Ae3,zI]at e
 simp [wN,a,R.ao]
 rw [show (0)=((0:Nat):Int)from rfl,e]
 simp [Wf.cO]
def jL (k n) (ps) (h) (b:n<=20) (a:Wf.gw n ps):call prog (k+3) "gathered" [.i n,.bor (ps.map pD)] h= .ok (.i (Wf.cO n ps)) h:=Lv _ n ps _ rfl h b a
def jT (k s t) (h):call prog (k+1) "either" [.i s,.i t] h= .ok (.i (s ||| t)) h:=by
 rw [Gb rfl _ _ _ rfl]
 simp_all [pZ,xo,wn]
def DQ (k s t) (h):call prog (k+1) "common" [.i s,.i t] h= .ok (.i (s &&& t)) h:=by
 rw [Gb rfl _ _ _ rfl]
 simp_all [uV,jc,jd]
def qK (s t:Nat):Ke (s:Int) (-(t:Int)-1)=k0 ((s-(s &&& t):Nat):Int):=by
 have c: ¬(0<= -(t:Int)-1):=by lia
 have b: 0<=(s:Int):=by lia
 have a:(-(-(t:Int)-1)-1).toNat=t:=by lia
 rw [Ke,if_pos b,if_neg c,a,Ad5]
def QA (k s t) (h):call prog (k+1) "without" [.i s,.i t] h= .ok (.i (s-(s &&& t))) h:=by
 rw [Gb rfl _ _ _ rfl]
 simp_all [Z3,jc,qK]
def MQ (q:eval F e τ h= .ok (.own xs) h):Gk F (.seq e) τ h= .ok xs h:=by
 rw [Gk,q];rfl
def FA (q:eval F e τ h= .ok (.t xs) h):Gk F (.seq e) τ h= .ok xs h:=by
 rw [Gk,q];rfl
def XJ (n t) (a:n<=20):((Wf.aw n t).map pD).length<=bf:=by
 refine Ab5 ?_ (rm a)
 simp only [Wf.aw,Aa]
 exact Ab5 (Aj0 _ _) (by simp)
def LX (k n t) (h) (a:n<=20):call prog (k+4) "turned" [.i n,.i t] h= .ok (.i (Wf.bG n t)) h:=by
 rw [Gb rfl _ _ _ rfl]
 have b: ∀h,eval (k8 (k+3)) jC [si n,si t] h= .ok (.own ((Wf.lx (Wf.aw n t)).map pD)) h:=by
  intro h
  rw [jC,wm (λd=>match d with | .tup [x,y]=> .tup [y,x] | d=>d) (MQ ?_) (XJ n t a)]
  .simp [Wf.lx,pD,Function.comp_def]
  .intro d c
   obtain⟨p,e,rfl⟩:=Ab6.mp c
   exact⟨_,rfl,_,rfl,rfl⟩
  .simp_all [Zv _ n t h a]
 simp_all [y6,b,jL k n _ h a (Wf.eP (Wf.bV n t))]
 rfl
def C8 (k n) (h) (c:n<=20):call prog (k+4) "same" [.i n] h= .ok (.i (Wf.bD n)) h:=by
 rw [Gb rfl _ _ _ rfl]
 have b: ∀h,eval (k8 (k+3)) JT [si n] h= .ok (.own (((Aa3 n).map λa=>(a,a)).map pD)) h:=by
  intro h
  rw [JT,wm (λd=> .tup [d,d]) (jj (m:=n) (by simp_all []) (by lia)) (by simp;rw [Gg];lia)]
  .simp [pD,Function.comp_def]
  .intro d e
   exact⟨_,rfl,_,rfl,rfl⟩
 simp_all [tG,b,jL k n _ h c (Wf.dP n)]
 rfl
def ra (k n) (h) (c:n<=20):call prog (k+1) "every" [.i n] h= .ok (.i (2 ^ (n*n)-1)) h:=by
 rw [Gb rfl _ _ _ rfl]
 have b:=el (n*n) (by have:=xj c;lia)
 have a:((2 ^ (n*n):Nat))-1=((2 ^ (n*n)-1:Nat):Int):=by
  have:=Ad4 (n*n)
  lia
 simp_all [rJ,(je n n (by lia)),b,Wc,a]
def ZS (x k:Nat) (a:x<2 ^ 64) (h:k<=1000000):Gj .shl (x:Int) (k:Int)=k0 ((x*2 ^ k:Nat):Int):=by
 have b: 0<=(k:Int)/\ k<=BP/\(x:Int).natAbs<kl:=by rw [Kc,GC];exact⟨by lia,by lia,by simpa using a⟩
 show(if _ then _ else _)=_
 rw [if_pos b,Ad5,Int.natCast_mul,Int.natCast_pow]
 rfl
def E3 (c:n<=20) (f:a<n) (g:b<n)(h):
 execs F Qv [si n,si o,si p,si (2 ^ n-1),si t,si a,si b,x7] h=
  .next [si n,si o,si p,si (2 ^ n-1),si (t ||| Wf.cq n p b*2 ^ (a*n)),si a,si b,si (Wf.cq n p b)] h:=by
 have d:(p / 2 ^ (b*n) &&& (2 ^ n-1))=Wf.cq n p b:=by rw [Af4];rfl
 have e:=Ab5 (Af5 (Ag1 f) (Aa9 n)) (xj c)
 simp_all [Qv,(je a n (by lia)),(je b n (by lia)),Zq,jc,jd,d,(ZS _ (a*n) (Ab3 (Wf.cZ n p b) (Ab5 (Ad0 (by decide) c) (by decide))) (by lia)),xo,wn]
theorem sm (c:n<=20) (h): ∀ ps t x y z,Wf.gw n ps-> ∃i j L,
 Gp (Gr [5,6] k9) (λτ h=>execs F Qv τ h) (ps.map pD) [si n,si o,si p,si (2 ^ n-1),si t,x,y,z] h=
  .next [si n,si o,si p,si (2 ^ n-1),sv (.int ((ps.foldl (λt q=>t ||| Wf.cq n p q.2*2 ^ (q.1*n)) t:Nat):Int)),i,j,L] h
 | [],t,x,y,z,_=>⟨x,y,z,rfl⟩
 | q::ps,t,x,y,z,b=>by
  have a:=b q Aa5
  obtain⟨i,j,L,e⟩:=sm c h ps (t ||| Wf.cq n p q.2*2 ^ (q.1*n)) (sv (.int q.1)) (sv (.int q.2)) (si (Wf.cq n p q.2)) λq d=>b q (Aa2 _ d)
  refine⟨i,j,L,?_⟩
  rw [Ab1,zb rfl (E3 c a.1 a.2 h),e]
  rfl
def jR (k n o p) (h) (a:n<=20):call prog (k+2) "joined" [.i n,.i o,.i p] h= .ok (.i (Wf.joinM n o p)) h:=by
 rw [Gb rfl _ _ _ rfl]
 have b:((2 ^ n:Nat))-1=((2 ^ n-1:Nat):Int):=by
  have:=Ad4 n
  lia
 obtain⟨c,d,f,e⟩:=sm a h _ 0 y0 y0 y0 (Wf.bV n o)
 simp_all [sM,(el n (by lia)),Wc,b,Zv k n o h a]
 rw [show (0)=((0:Nat):Int)from rfl,e]
 simp_all []
 rfl
theorem JZ (g:n<=20) (h): ∀ f r,2 ^ (n*n)-r<f->Wf.fH n t r-> ∃r',Wf.fe n t r' ∧
 GI (λτ h=>Gm (k8 (k+2)) xv τ h) (λτ h=>execs (k8 (k+2)) Ju τ h) f [si n,si t,si r,si (r ||| Wf.joinM n r r)] h=
  .next [si n,si t,si r',si r'] h
 | 0,r,d,_=>absurd d (Ag7 _)
 | f+1,r,d,c=>by
  have j: ∀ a b,Gm (k8 (k+2)) xv [si n,si t,si a,si b] h= .ok (!u9 (b=a)) h:=by
   intro a b
   simp [Gm,xv,Gi,G6]
   by_cases q:b=a
   .simp [q]
   .have: ¬(b=(a:Int)):=by lia
    simp [q,this]
  rw [GI,j,R.ar]
  by_cases e:r ||| Wf.joinM n r r=r
  .refine⟨r,c.done e,?_⟩
   simp only [e,decide_true,Ao8]
  .have p:=c.grow e
   have o:=c.next.lt
   obtain⟨r',i,m⟩:=JZ g h f (r ||| Wf.joinM n r r) (by lia) c.next
   refine⟨r',i,?_⟩
   simp only [e,decide_false,Ao3]
   have l:execs (k8 (k+2)) Ju [si n,si t,si r,si (r ||| Wf.joinM n r r)] h=
    .next [si n,si t,si (r ||| Wf.joinM n r r),si ((r ||| Wf.joinM n r r) ||| Wf.joinM n (r ||| Wf.joinM n r r) (r ||| Wf.joinM n r r))] h:=by
    simp_all [Ju,jR k n _ _ h g,jT (k+1) _ _ h]
   simp only [l]
   exact m
def El (k n t) (h) (b:n<=4) (e:t<2 ^ (n*n)): ∃r,Wf.fe n t r/\call prog (k+3) "closed" [.i n,.i t] h= .ok (.i r) h:=by
 rw [Gb rfl _ _ _ rfl]
 have c:2 ^ (n*n)-t<100000:=by
  have:n*n<=16:=Af5 b b
  have:2 ^ _<=2 ^ 16:=Ad0 (by decide) this
  lia
 obtain⟨r,d,a⟩:=JZ (by lia) h 100000 t c (Wf.fH.start e)
 refine⟨r,d,?_⟩
 simp [Gm]at a
 simp_all [vy,jR k n _ _ h (by lia),jT _ _ _ h]
 rw [a]
 simp_all []
def za (e:exec F s τ h= .next τ1 h1):execs F (.cons s ss) τ h=execs F ss τ1 h1:=by rw [execs,e,O.bw]
def fx (e:exec F s τ h= .next τ1 h1) (g:Gw n (execs F ss τ1 h1)=r):Gw n (execs F (.cons s ss) τ h)=r:=by rw [za e];exact g
def qa (e:exec F s τ h= .ret w h1):execs F (.cons s ss) τ h= .ret w h1:=by rw [execs,e,O.bM]
def Zr (e:Gm F c τ h= .ok u0 h1):exec F (.iff c a b) τ h=execs F a τ h1:=by rw [exec,e,R.ar]
def hY (e:Gm F c τ h= .ok k9 h1):exec F (.iff c a b) τ h=execs F b τ h1:=by rw [exec,e,R.ar]
def QB (a:GK e=y0) (q:eval F e τ h= .ok (.own xs) h1):exec F (.ret e) τ h= .ret (.own xs) h1:=by
 rw [exec,a];simp [q,R.ar]
def Ja (a:GK e=y0) (q:eval F e τ h= .ok (.v d) h1):exec F (.ret e) τ h= .ret (.v d) h1:=by
 rw [exec,a];simp [q,R.ar]
def Zs (e:h[r]? =k0 (.lst xs)) (i):c5 (.r r) (.v (.int i)) h=aQ xs i:=by
 simp [c5,W.dh,W.seq?,e]
def kK (x y z:D):aQ [x,y,z] 0=k0 x:=rfl
def Q0 (x y z:D):aQ [x,y,z] 1=k0 y:=rfl
def kv (x y z:D):aQ [x,y,z] 2=k0 z:=rfl
def Fs:dv 3 2=k0 2:=rfl
def WA (b:eval F e τ h= .ok (.v d) h) (k:Gi τ i=k0 (.r r)) (c:h[r]? =k0 (.lst xs)) (g:dv xs.length j=k0 n) (f:Km d=u0) (a:h2=h.set r (.lst (xs.set n d))):
 exec F (.bQ (.var i) (.int j) e) τ h= .next τ h2:=by
 subst a
 simp only [exec,b,R.ar,eval,k,Kv,c,g,f,if_true]
def oX (a b) (h: -(2:Int) ^ 64<b/\b<2 ^ 64):Gj .mul a b=k0 (a*b):=by
 have c:(-dX<a/\a<dX)\/(-dX<b/\b<dX):=by rw [GX];exact .inr h
 show(if _ then _ else _)=_
 rw [if_pos c]
def IA (a b) (h: -(2:Int) ^ 64<a/\a<2 ^ 64):Gj .mul a b=k0 (a*b):=by
 have c:(-dX<a/\a<dX)\/(-dX<b/\b<dX):=by rw [GX];exact .inl h
 show(if _ then _ else _)=_
 rw [if_pos c]
def xL (a b) (h:0<b):Gj .mod a b=k0 (a % b):=by
 rw [L8,if_pos h]
def sQ (a b) (h:0<b) (c:b<1073741824):Gj .fdiv a b=k0 (a / b):=by
 rw [FT,if_pos ⟨h,by rw [GO];exact c⟩]
def Dv (i j) (h):Gq .eq (.v (.int i)) (.v (.int j)) h=k0 (u9 (i=j)):=by
 rfl
theorem Z0: ∀xs:List Int,Kk (xs.map .int)=k0 xs.sum
 | []=>rfl
 | x::xs=>by simp [Kk,Z0 xs]
def HZ (f:α->β) (xs) (lo hi):cut (xs.map f) lo hi=(cut xs lo hi).map f:=by
 simp [cut,List.map_take]
def Br (xs:List α) (lo hi):(cut xs lo hi).length<=xs.length:=by
 simp [cut,Af7]
 lia
abbrev la:Tx:= vI
noncomputable def AS:List Tx:= [gm,g7,fE,gF,[101,97,99,104],f6,hG,fM,eX,eG,iZ,ic,[107,105,110,100],[116,105,101],[115,97,121]]
structure MN (t:Tx):Prop where
 lo:1<=t.length
 hi:t.length<=8
 Dk: ∀c∈t,97<=c/\c<=122
 free:t∉AS
def F8 (i:Nat) (h:i<26):aQ la (i:Int)=k0 (97+i):=by
 have: ∀i:Nat,i<26->aQ la i=k0 (97+i):=by decide
 exact this i h
def mG (xs:List α) (n:Nat):cut xs y0 (k0 (n:Int))=xs.take n:=by
 have a: ¬((n:Int)<0):=by lia
 simp only [cut,aZ,a,if_false,Ad5,List.drop_zero,Nat.sub_zero]
 by_cases q:n<=xs.length
 .rw [Ak5 q]
 .rw [Nat.min_eq_right (by lia),Ai7 (Aa9 _),Ai7 (by lia)]
def z6 (xs:List α) (n:Nat):cut xs (k0 (n:Int)) y0=xs.drop n:=by
 have a: ¬((n:Int)<0):=by lia
 simp [cut,aZ,a,Ad5]
 by_cases q:n<=xs.length
 .rw [Ak5 q,Ai7 (by simp)]
 .rw [Nat.min_eq_right (by lia),List.drop_of_length_le (Aa9 _),List.drop_of_length_le (by lia),List.take_nil]
def pE (s) (lo hi) (h) (a:s.length<=bf):fv (.s s) lo hi h= .ok (.s (cut s lo hi)) h:=by
 show(if s.length<=bf then _ else _)=_
 rw [if_pos a]
def mul_str (s) (n) (h) (b:n<=1000) (a:s.length*n<=1000000):GV .mul (.s s) (.i n) h= .ok (.v (.str (Ab n s).flatten)) h:=by
 show(if 0<=(n:Int)/\(n:Int)<=1000/\s.length*(n:Int).toNat<=bf then _ else _)=_
 rw [if_pos ⟨by lia,by lia,by rw [Gg,Ad5];exact a⟩,Ad5]
def add_str (s u) (h) (a:s.length+u.length<=1000000):GV .add (.s s) (.s u) h= .ok (.s (s++u)) h:=by
 rw [Iq,if_pos (by rw [Gg];exact a)]
def WD (i) (a:i<26) (h):c5 (.s la) (.i i) h=k0 (.str [97+i]):=by
 rw [ox,if_pos (by rw [Gg];decide),F8 i a]
 rfl
def yD (f:Nat->α) (m) (h:m<=8) (e: ∀i,i<8-> ∀j,j<8->i≠j->f i≠f j):((Aa3 m).map f).Nodup:=by
 rw [List.Nodup,List.pairwise_map]
 refine Ao7.imp_of_mem ?_ (List.nodup_range)
 intro a b g d c
 exact e a (by have:=Ab4.mp g;lia) b (by have:=Ab4.mp d;lia) c
def nI (a b:Nat) (c:0<b):Gj .mod (a:Int) (b:Int)=k0 ((a % b:Nat):Int):=by
 rw [xL _ _ (by lia)];rfl
def DG (a b:Nat) (c:0<b) (d:b<1073741824):Gj .fdiv (a:Int) (b:Int)=k0 ((a / b:Nat):Int):=by
 rw [sQ _ _ (by lia) (by lia)];rfl
def Cg (a b:Nat):Gj .add (a:Int) (b:Int)=k0 ((a+b:Nat):Int):=rfl
def Zd (xs:List α) (i) (h:i<xs.length):aQ xs (i:Int)=xs[i]? :=by
 have:(i)< xs.length:=by lia
 simp [aQ,dv,this]
def Xm (i j) (h):Gq .eq (.i i) (.i j) h=k0 (u9 (i=j)):=by
 rw [Dv]
 congr 1
 exact decide_eq_decide.mpr (by lia)
theorem qE: ∀i:List Tx,GR (i.map .str)=k0 i
 | []=>rfl
 | t::i=>by simp [GR,qE i]
theorem sT (s): ∀i:List Tx,inD (.str s) (i.map .str)=u9 (s∈i)
 | []=>rfl
 | t::i=>by
  have a:=sT s i
  simp only [inD]at a
  by_cases q:t=s
  .subst q
   simp [inD]
  .have b: ¬s=t:=λe=>q e.symm
   simp only [inD,Ab1,Ag9,a,Ab8,b,false_or]
   simp [q]
theorem u6: ∀(a:List Tx) (h),(GQ h (a.map .str)=a.map .str/\Gc (a.map .str)=u0)/\GG (a.map .str)=0
 | [],_=>⟨⟨rfl,rfl⟩,rfl⟩
 | t::a,h=>by
  have b:=u6 a h
  simp [b]
def xz (s) (a:List Tx) (w) (h) (b:yJ (w.dd h)=k0 (GQ h (a.map .str))):Kd (.s s) w h=k0 (u9 (s∈a)):=by
 unfold Kd
 simp [b,(u6 a h),sT]
structure Nm (ts:List Tx):Prop where
 nd:ts.Nodup
 good: ∀t∈ts,MN t
def jf (x) (r:List α):aQ (x::r) 0=k0 x:=by
 have: 0< (x::r).length:=by simp
 simp [aQ,dv,this]
def Bg (xs) (n) (h) (b:n<=1000) (a:xs.length*n<=1000000):GV .mul (.own xs) (.i n) h= .ok (.own (Ab n xs).flatten) h:=by
 show Kw xs n h=_
 rw [Kw,if_pos ⟨by lia,by lia,by rw [Ad5,Gg];exact a⟩,Ad5]
def mE (a:Gd d=u0) (c:n<=h.length) (b:Gu (h.take n)=u0): ∃h',Gw n (.ret (.v d) h)= .ok (.v d) h'/\h'=h.take n:=by
 by_cases q:h.length=n
 .exact⟨h,by simp [Gw,fin,q],by rw [← q,Ap5]⟩
 .exact⟨h.take n,by simp [Gw,fin,q,W.keep,a,b],rfl⟩
theorem jm: ∀i:List Tx,Gc (i.map .str)=u0
 | []=>rfl
 | t::i=>by simp [jm i]
def Mg (c:Gf F es τ h= .ok ws h) (a:F.call f (ws.map W.arg) h= .ok (.own xs) h) (b:Gc xs=u0):eval F (.share (.call f es)) τ h= .ok (.r h.length) (h++ [.lst xs]):=by
 simp only [eval,c,R.ae,a,b,if_true]
theorem qt (x): ∀ys:List Tx,(Kf x ys).Perm (x::ys)
 | []=> .refl _
 | y::ys=>by
  unfold Kf
  by_cases q:y<x
  .rw [if_pos q]
   exact((qt x ys).cons y).trans (.swap x y ys)
  .rw [if_neg q]
theorem Zl: ∀xs:List Tx,(GA xs).Perm xs
 | []=> .refl _
 | x::xs=>(qt x (GA xs)).trans ((Zl xs).cons x)
abbrev hX (a:List Tx):D:= .tup (a.map .str)
abbrev wD (K T:List Tx):D:= .tup [hX K,hX T]
def WO (ts) (h) (a:ts.length<64):dw .sorted [.own (ts.map .str)] h= .ok (.own ((GA ts).map .str)) h:=by
 show(R.of h ((k0 _).bind GR)).bind _=_
 rw [Ag2,qE,R.ao,R.ae,if_pos a]
abbrev aA (l:List Nat):List D:=l.map λ(x:Nat)=> .n x
abbrev ig (n:Nat) (a b:List Nat):D:= .tup [.n n,.tup (aA a),.tup (aA b)]
structure DO (n K T:Nat) (ks ts:List Nat):Prop where
 n4:n<=4
 lk:ks.length=K
 lt:ts.length=T
 bk: ∀x∈ks,x<2 ^ n
 bt: ∀x∈ts,x<2 ^ (n*n)
inductive Ex where
 | name (t:Tx)
 | same
 | all
 | none
 | turned (a:Ex)
 | closed (a:Ex)
 | plus (a b:Ex)
 | less (a b:Ex)
 | both (a b:Ex)
 | joined (a b:Ex)
abbrev zh:Tx:= [110,97,109,101]
abbrev wg:Tx:= [115,97,109,101]
abbrev Zp:Tx:= [97,108,108]
abbrev Xh:Tx:= [110,111,110,101]
abbrev qF:Tx:= [112,108,117,115]
abbrev jr:Tx:= [108,101,115,115]
abbrev Xz:Tx:= [98,111,116,104]
abbrev Zh:Tx:= [106,111,105,110,101,100]
abbrev zj:Tx:= [116,117,114,110,101,100]
abbrev Ji:Tx:= [99,108,111,115,101,100]
noncomputable def aV:Ex->D
 | .name t=> .tup [.str zh,.str t]
 | .same=> .tup [.str wg]
 | .all=> .tup [.str Zp]
 | .none=> .tup [.str Xh]
 | .turned a=> .tup [.str zj,aV a]
 | .closed a=> .tup [.str Ji,aV a]
 | .plus a b=> .tup [.str qF,aV a,aV b]
 | .less a b=> .tup [.str jr,aV a,aV b]
 | .both a b=> .tup [.str Xz,aV a,aV b]
 | .joined a b=> .tup [.str Zh,aV a,aV b]
def Ex.wf (N:List Tx):Ex->Prop
 | .name t=>t∈N
 | .turned a=>a.wf N
 | .closed a=>a.wf N
 | .plus a b=>a.wf N/\b.wf N
 | .less a b=>a.wf N/\b.wf N
 | .both a b=>a.wf N/\b.wf N
 | .joined a b=>a.wf N/\b.wf N
 | _=>True
noncomputable def Ex.dp:Ex->Nat
 | .turned a=>a.dp+1
 | .closed a=>a.dp+1
 | .plus a b=>max a.dp b.dp+1
 | .less a b=>max a.dp b.dp+1
 | .both a b=>max a.dp b.dp+1
 | .joined a b=>max a.dp b.dp+1
 | _=>0
end M
namespace Wf
def wr (g:Nat->Nat->Bool):Nat->Nat->Nat->Bool
 | 0,a,b=>g a b
 | k+1,a,b=>wr g k a b||(wr g k a k&&wr g k k b)
theorem w9 : ∀k,g a b=u0->wr g k a b=u0
 | 0,h=>h
 | k+1,h=>by rw [wr,w9 k h,Am2]
theorem vj : ∀ k m,m<k-> ∀a b,wr g k a m=u0->wr g k m b=u0->wr g k a b=u0
 | 0,m,f=>absurd f (Ag7 _)
 | k+1,m,f=>λa b d c=>by
  rw [wr,Ae8,Aa1]at d c
  rw [wr,Ae8,Aa1]
  by_cases q:m=k
  .subst q
   have d:=d.elim id And.left
   have c:=c.elim id And.right
   exact .inr ⟨d,c⟩
  .have h:m<k:=by lia
   have e:=vj (g:=g) k m h
   rcases d with d | d<;>rcases c with c | c
   .exact .inl (e a b d c)
   .exact .inr ⟨e a k d c.1,c.2⟩
   .exact .inr ⟨d.1,e k b d.2 c⟩
   .exact .inr ⟨d.1,c.2⟩
theorem qH (e: ∀a b,a<n->b<n->(g a b=u0↔t.testBit (a*n+b)=u0)): ∀k,k<=n-> ∀a b,a<n->b<n->wr g k a b=u0->TC n t a b
 | 0,_,a,b,d,c,h=> .step d c ((e a b d c).mp h)
 | k+1,f,a,b,d,c,h=>by
  rw [wr,Ae8,Aa1]at h
  rcases h with h | h
  .exact qH e k (by lia) a b d c h
  .exact(qH e k (by lia) a k d (by lia) h.1).trans (qH e k (by lia) k b (by lia) c h.2)
def BK (f: ∀a b,a<n->b<n->(g a b=u0↔t.testBit (a*n+b)=u0))(h:TC n t a b):wr g n a b=true:=by
 induction h with
 | step c e d=>exact w9 n ((f _ _ c e).mpr d)
 | more j c e d i=>exact vj n _ c _ _ i (w9 n ((f _ _ c e).mpr d))
def ia (c: ∀a b,a<n->b<n->(g a b=u0↔t.testBit (a*n+b)=u0))(e:a<n) (d:b<n):wr g n a b=u0↔TC n t a b:=⟨qH c n (Aa9 n) a b e d,BK c⟩
end Wf
namespace M
def cX (t:Tx) (a:List Tx):Nat:=(Kj t a).getD 0
theorem zo : ∀ {i},t∈i->Kj t i=k0 (cX t i)/\cX t i<i.length
 | y::b,h=>by
  unfold cX
  by_cases q:y=t
  .simp [Kj,q]
  .have a:t∈b:=by
    rcases Ab8.mp h with e | e
    .exact absurd e.symm q
    .exact e
   obtain⟨e,l⟩:=zo a
   simp only [Kj,q,if_false,e,Option.map_some,Al0,Aa7]at l ⊢
   exact⟨trivial,by lia⟩
structure Wo where
 n:Nat
 K:List Tx
 T:List Tx
 ks:List Nat
 ts:List Nat
structure Wo.Ok (w:Wo):Prop where
 hK:w.K.length<=4
 hT:w.T.length<=4
 nd:(w.K++w.T).Nodup
 wl:DO w.n w.K.length w.T.length w.ks w.ts
def Wo.at (w:Wo) (t:Tx) (a b:Nat):Prop:=if t∈w.T then(w.ts.getD (cX t w.T) 0).testBit (a*w.n+b)=u0 else a=b/\(w.ks.getD (cX t w.K) 0).testBit a=u0
def fk (w:Wo):Ex->Nat->Nat->Prop
 | .name t,a,b=>w.at t a b
 | .same,a,b=>a=b
 | .all,_,_=>True
 | .none,_,_=>False
 | .turned e,a,b=>fk w e b a
 | .closed e,a,b=> ∃t,t<2 ^ (w.n*w.n)/\(∀ x y,x<w.n->y<w.n->(t.testBit (x*w.n+y)=u0↔fk w e x y))/\Wf.TC w.n t a b
 | .plus e f,a,b=>fk w e a b\/fk w f a b
 | .less e f,a,b=>fk w e a b/\ ¬fk w f a b
 | .both e f,a,b=>fk w e a b/\fk w f a b
 | .joined e f,a,b=> ∃c,c<w.n/\fk w e a c/\fk w f c b
def Is (w:Wo) (e:Ex) (v:Nat):Prop:=v<2 ^ (w.n*w.n)/\ ∀a b,a<w.n->b<w.n->(v.testBit (a*w.n+b)=u0↔fk w e a b)
def oZ (a:s<2 ^ n) (b:t<2 ^ n):s ||| t<2 ^ n:=Ak9 a b
def Wo.words (w:Wo):D:=wD w.K w.T
def Wo.aT (w:Wo):D:=ig w.n w.ks w.ts
def mY (l) (i:Nat) (h:i<l.length):aQ (aA l) (i:Int)=k0 (.n (l.getD i 0)):=by
 rw [Zd _ _ (by simp_all),Ac,Aa4 h,Ac5,Aa4 h]
 rfl
def JY (ts) (t) (h) (a:t∈ts) (b:ts.length<=1000):lZ .index (.v (hX ts)) [.s t] h= .ok (.i (cX t ts)) h:=by
 show(R.of h ((k0 _).bind GR)).bind _=_
 rw [Ag2,qE,R.ao,R.ae]
 show(R.of h (k0 t)).bind _=_
 rw [R.ao,R.ae,(zo a).1,R.ao,R.ae,if_pos (by rw [Gg];lia)]
def He (x y z:D):aQ [x,y,z] 0=k0 x:=rfl
def Qh (x y:D):aQ [x,y] 0=k0 x:=rfl
def xf (x y:D):aQ [x,y] 1=k0 y:=rfl
def L0 (x:D):aQ [x] 0=k0 x:=rfl
def z8 (n x:Nat):List (Nat×Nat):=((Aa3 n).filter x.testBit).map λa=>(a,a)
def XT (n x):Wf.gw n (z8 n x):=λp b=>by
 obtain⟨a,c,rfl⟩:=Ab6.mp b
 have:=Ab4.mp (Ai9.mp c).1
 exact⟨this,this⟩
def vQ (j:a<n) (f:b<n):(Wf.cO n (z8 n x)).testBit (a*n+b)=u0↔a=b/\x.testBit a=true:=by
 rw [Wf.cB,Ad2]
 refine⟨λ⟨p,i,e⟩=> ?_,λ⟨e,h⟩=> ?_⟩
 .obtain⟨c,d,rfl⟩:=Ab6.mp i
  have g:=Ai9.mp d
  have d:=Ab4.mp g.1
  have e:=of_decide_eq_true e
  have e1:=congrArg (· / n) e
  have e2:=congrArg (· % n) e
  simp [Wf.aD d,Wf.aD f,Wf.aH d,Wf.aH f]at e1 e2
  subst e1
  exact⟨e2,g.2⟩
 .subst e
  exact⟨_,Ab6.mpr ⟨a,Ai9.mpr ⟨Ab4.mpr j,h⟩,rfl⟩,decide_eq_true rfl⟩
def DU (n x) (o:n<=4) (h):eval F Zi [a,b,c,si n,si x] h= .ok (.own ((z8 n x).map pD)) h:=by
 rw [Zi,rX (λd=>match d with
  | .int i=>if x.testBit i.toNat then k0 (.tup [.int i,.int i])else y0
  | _=>y0) (jj (m:=n) (by simp_all []) (by lia)) (by simp;rw [Gg];lia)]
 .congr 2
  rw [List.filterMap_map,z8,Ad1]
  induction Aa3 n with
  | nil=>rfl
  | cons y l f=>
   by_cases e:x.testBit y=u0
   .simp [e,pD,f]
   .simp [e,f]
 .intro d j
  obtain⟨i,k,rfl⟩:=iX _ j
  have g:Ke ((x / 2 ^ i:Nat)) 1=k0 (((x.testBit i).toNat:Nat):Int):=by
   rw [show 1=((1:Nat):Int)from rfl,jd,wR]
  refine⟨[si i,si x],x.testBit i,rfl,?_,?_⟩
  .unfold Gm
   simp only [eval,Gi,Gn,R.ae,GH,Zq,jc,g,R.ao,vT]
   cases x.testBit i<;>rfl
  .by_cases e:x.testBit i=u0
   .simp [e,Gi]
   .simp [e]
def vF (t) (ts) (h):Gq .mem (.s t) (.v (hX ts)) h=k0 (u9 (t∈ts)):=xz t ts (.v (hX ts)) h rfl
def zu (k)(ok:w.Ok) (t) (g:t∈w.K++w.T) (h): ∃v,Is w (.name t) v/\call prog (k+4) "value_of_name" [.v w.words,.v w.aT,.s t] h= .ok (.i v) h:=by
 rw [Gb rfl _ _ _ rfl]
 simp only [jt]
 show ∃v,_/\Gw _ (execs _ _ [sv (wD w.K w.T),sv (ig w.n w.ks w.ts),k0 _,y0,y0] h)=_
 have j:=ok.hK
 have i:=ok.hT
 by_cases q:t∈w.T
 .have d:=(zo q).2
  refine⟨w.ts.getD (cX t w.T) 0,⟨?_,λa b f c=> ?_⟩,?_⟩
  .rw [Ac5,Aa4 (by rw [ok.wl.lt];exact d)]
   exact ok.wl.bt _ (Al4 _)
  .show _↔w.at t a b
   rw [Wo.at,if_pos q]
  .rw [qa,Ga _ _ _ rfl]
   rw [Zr (h1:=h) (by simp_all [aa,xf,vF,decide_eq_true q])]
   exact qa (Ja rfl (by simp only [eval,Gf,Gi,Gn,R.ae,aa,xf,kv,R.ao,tL,if_true,JY w.T t h q (by lia)];rw [mY _ _ (by rw [ok.wl.lt];exact d)];rfl))
 .have e:=(Ac8.mp g).resolve_right q
  have n4:=ok.wl.n4
  refine⟨Wf.cO w.n (z8 w.n (w.ks.getD (cX t w.K) 0)),⟨Wf.cW (XT _ _),λa b f c=> ?_⟩,?_⟩
  .show _↔w.at t a b
   rw [Wo.at,if_neg q]
   exact vQ f c
  .rw [za (τ1:= [sv (wD w.K w.T),sv (ig w.n w.ks w.ts),k0 (.s t),y0,y0]) (h1:=h) (by simp_all [aa,xf,vF,decide_eq_false q])]
   rw [za (τ1:= [sv _,sv _,k0 _,si w.n,y0]) rfl]
   rw [za (τ1:= [sv _,sv _,k0 _,si w.n,si _]) (by simp only [exec,eval,Gf,Gi,Gn,R.ae,aa,Qh,Q0,R.ao,tL,if_true,JY w.K t h e (by lia)];rw [mY _ _ (by rw [ok.wl.lk];exact ((zo e).2))];rfl)]
   rw [qa (Ja rfl ?_),Ga _ _ _ rfl]
   simp only [eval,Gf,Gi,Gn,R.ae,DU w.n _ n4 h,Ab1,Af0,W.bY,W.eN,jL k w.n _ h (by lia) (XT _ _)]
def Xa (s t:Tx) (h:AH):Gq .eq (.s s) (.s t) h=k0 (s==t):=by simp [G6]
def xa (e:Gm F c τ h= .ok k9 h):execs F (.cons (.iff c a .nil) ss) τ h=execs F ss τ h:=za (hY e)
def zf (e:Gm F c τ h= .ok u0 h) (r:exec F s τ h= .ret w h):execs F (.cons (.iff c (.cons s .nil) .nil) ss) τ h= .ret w h:=qa ((Zr e).trans (qa r))
def Qb (s X) (h):Gm F (.cmp .eq .v1 (.str X)) [a,k0 (.s s),c] h= .ok (s==X) h:=by
 simp only [Gm,eval,Gi,Gn,R.ae,Xa,R.ao,GT]
abbrev kz (n:Nat) (s:Tx) (l:List D):Sl:= [si n,k0 (.s s),k0 (.l l)]
def Et (k n) (l) (h) (a:n<=4):call prog (k+5) "made" [.i n,.s wg,.l l] h= .ok (.i (Wf.bD n)) h:=by
 rw [Gb rfl _ _ _ rfl]
 simp only [ZB]
 show Gw _ (execs _ _ (kz n wg l) h)=_
 rw [zf (Qb _ _ _) (Ja rfl (by simp only [eval,Gf,Gi,Gn,R.ae,Ab1,Af0,W.bY,C8 k n h (by lia)];rfl)),Ga _ _ _ rfl]
def Hd (k n) (l) (h) (a:n<=4):call prog (k+5) "made" [.i n,.s Zp,.l l] h= .ok (.i (2 ^ (n*n)-1)) h:=by
 rw [Gb rfl _ _ _ rfl]
 simp only [ZB]
 show Gw _ (execs _ _ (kz n Zp l) h)=_
 rw [xa (Qb _ _ _),zf (Qb _ _ _) (Ja rfl (by simp only [eval,Gf,Gi,Gn,R.ae,Ab1,Af0,W.bY,ra _ n h (by lia)];rfl)),Ga _ _ _ rfl]
def AL (k n) (l) (h):call prog (k+5) "made" [.i n,.s Xh,.l l] h= .ok (.i (0)) h:=by
 rw [Gb rfl _ _ _ rfl]
 simp only [ZB]
 rw [xa (Qb _ _ _),xa (Qb _ _ _),zf (Qb _ _ _) _,Ga _ _ _ rfl]
 rfl
abbrev l2 (s t:Nat):List D:= [.n s,.n t]
def ZY (k n s t) (h):call prog (k+5) "made" [.i n,.s qF,.l (l2 s t)] h= .ok (.i (s ||| t)) h:=by
 rw [Gb rfl _ _ _ rfl]
 simp only [ZB]
 show Gw _ (execs _ _ (kz n qF _) h)=_
 rw [xa (Qb _ _ _),xa (Qb _ _ _),xa (Qb _ _ _),zf (Qb _ _ _) (Ja rfl (by simp only [eval,Gf,Gi,Gn,R.ae,xr,Qh,xf,R.ao,Ab1,Af0,W.bY,jT _ s t h];rfl)),Ga _ _ _ rfl]
def XW (k n s t) (h):call prog (k+5) "made" [.i n,.s Xz,.l (l2 s t)] h= .ok (.i (s &&& t)) h:=by
 rw [Gb rfl _ _ _ rfl]
 simp only [ZB]
 show Gw _ (execs _ _ (kz n Xz _) h)=_
 rw [xa (Qb _ _ _),xa (Qb _ _ _),xa (Qb _ _ _),xa (Qb _ _ _),xa (Qb _ _ _),zf (Qb _ _ _) (Ja rfl (by simp only [eval,Gf,Gi,Gn,R.ae,xr,Qh,xf,R.ao,Ab1,Af0,W.bY,DQ _ s t h];rfl)),Ga _ _ _ rfl]
def xM (k n s t) (h) (a:n<=4):call prog (k+5) "made" [.i n,.s Zh,.l (l2 s t)] h= .ok (.i (Wf.joinM n s t)) h:=by
 rw [Gb rfl _ _ _ rfl]
 simp only [ZB]
 show Gw _ (execs _ _ (kz n Zh _) h)=_
 rw [xa (Qb _ _ _),xa (Qb _ _ _),xa (Qb _ _ _),xa (Qb _ _ _),xa (Qb _ _ _),xa (Qb _ _ _),zf (Qb _ _ _) (Ja rfl (by simp only [eval,Gf,Gi,Gn,R.ae,xr,Qh,xf,R.ao,Ab1,Af0,W.bY,jR _ n s t h (by lia)];rfl)),Ga _ _ _ rfl]
def jI (k n s) (h) (a:n<=4):call prog (k+5) "made" [.i n,.s zj,.l [.n s]] h= .ok (.i (Wf.bG n s)) h:=by
 rw [Gb rfl _ _ _ rfl]
 simp only [ZB]
 show Gw _ (execs _ _ (kz n zj [.n s]) h)=_
 rw [xa (Qb _ _ _),xa (Qb _ _ _),xa (Qb _ _ _),xa (Qb _ _ _),xa (Qb _ _ _),xa (Qb _ _ _),xa (Qb _ _ _),zf (Qb _ _ _) (Ja rfl (by simp only [eval,Gf,Gi,Gn,R.ae,xr,L0,R.ao,Ab1,Af0,W.bY,LX k n s h (by lia)];rfl)),Ga _ _ _ rfl]
def JJ (k n s) (h) (c:n<=4) (a:s<2 ^ (n*n)): ∃r,Wf.fe n s r/\call prog (k+5) "made" [.i n,.s Ji,.l [.n s]] h= .ok (.i r) h:=by
 obtain⟨r,b,e⟩:=El _ n s h c a
 refine⟨r,b,?_⟩
 rw [Gb rfl _ _ _ rfl]
 simp only [ZB]
 rw [xa (Qb _ _ _),xa (Qb _ _ _),xa (Qb _ _ _),xa (Qb _ _ _),xa (Qb _ _ _),xa (Qb _ _ _),xa (Qb _ _ _),xa (Qb _ _ _),qa (Ja rfl (by assumption)),Ga _ _ _ rfl]
def E7 (a:Gk F it τ h= .ok [] h):eval F (.comp tg one k aB it k9 c elt) τ h= .ok (.own []) h:=by
 rw [eval,a,R.ae,if_pos (show [].length<=bf from Ae6 _)]
 rfl
def uL (b:Gk F it τ h= .ok [d] h) (e:eval F elt (GB (Ab k y0++aB.map λj=>Gi τ j) 0 (.v d)) h= .ok (.v y) h):eval F (.comp [0] u0 k aB it k9 c elt) τ h= .ok (.own [y]) h:=by
 have a: [d].length<=bf:=by rw [Gg];simp
 rw [eval,b,R.ae,if_pos a]
 simp [Gy,e,R.ao]
def qZ (b:Gk F it τ h= .ok [d1,d2] h) (a:eval F elt (GB (Ab k y0++aB.map λj=>Gi τ j) 0 (.v d1)) h= .ok (.v y1) h) (e:eval F elt (GB (Ab k y0++aB.map λj=>Gi τ j) 0 (.v d2)) h= .ok (.v y2) h):eval F (.comp [0] u0 k aB it k9 c elt) τ h= .ok (.own [y1,y2]) h:=by
 have d: [d1,d2].length<=bf:=by rw [Gg];simp
 rw [eval,b,R.ae,if_pos d]
 simp [Gy,a,e,R.ao]
def Zn (f) (b:eval F e τ h= .ok (.i n) h) (m:n<=1000)
 (a: ∀i,i<n-> ∃w,eval F elt (si i::aB.map λj=>Gi τ j) h= .ok w h/\w.d=k0 (f i)):eval F (.comp [0] u0 1 aB (.aj e) k9 (.bl u0) elt) τ h= .ok (.own ((Aa3 n).map f)) h:=by
 rw [wm (λd=>match d with | .int i=>f i.toNat | d=>d) (jj b (by lia)) (by simp;rw [Gg];lia)]
 .simp [Function.comp_def]
 .intro d l
  obtain⟨i,c,rfl⟩:=iX _ l
  obtain⟨w,k,g⟩:=a i c
  exact⟨_,rfl,w,k,by simpa using g⟩
def Wr (x y) (r:List D):aQ (x::y::r) 1=k0 y:=by
 have:=Zd (x::y::r) 1 (by simp)
 exact this
abbrev tb (n v:Nat) (a b:Nat):Bool:=v.testBit (a*n+b)
def eR (n:Nat) (g:Nat->Nat->Bool) (a:Nat):Nat:=((Aa3 n).map λb=>(g a b).toNat).sum
theorem Jv (g): ∀l:List Nat,(l.filter g).length=(l.map λb=>(g b).toNat).sum
 | []=>rfl
 | x::l=>by
  have a:=Jv g l
  by_cases q:g x=u0
  .rw [List.filter_cons_of_pos q,Aa7,Ab1,Am9,a,q];simp;lia
  .have c:=by simpa using q
   rw [List.filter_cons_of_neg q,Ab1,Am9,a,c];simp
def jE (m n):Aa3 ((m+1)*n)=Aa3 (m*n)++(Aa3 n).map (m*n+ ·):=by
 rw [Nat.succ_mul,List.range_add]
def Ek {b:Nat}(a:b<n):(m*n+b) / n=m:=Wf.aD a
theorem uz (n v) (a): ∀m,((((Aa3 (m*n)).filter v.testBit).map (· / n)).count a)=if a<m then eR n (tb n v) a else 0
 | 0=>by simp
 | m+1=>by
  have f:=uz n v a m
  rw [jE,List.filter_append,Ae0,List.count_append,f,An5,Ad1]
  have e:((Aa3 n).filter (v.testBit∘(m*n+ ·))).map ((· / n)∘(m*n+ ·))=Ab ((Aa3 n).filter (v.testBit∘(m*n+ ·))).length m:=by
   rw [List.eq_replicate_iff]
   refine⟨by simp,λx g=> ?_⟩
   obtain⟨b,d,rfl⟩:=Ab6.mp g
   exact Ek (Ab4.mp (Ai9.mp d).1)
  rw [e,List.count_replicate,Jv]
  by_cases q:a=m
  .subst q
   simp [eR,tb]
  .have h: ¬(m==a)=true:=by simp;exact λe=>q e.symm
   rw [if_neg h]
   by_cases c:a<m
   .rw [if_pos c,if_pos (by lia)];lia
   .rw [if_neg c,if_neg (by lia)]
def Dg (b:a<n):((Wf.aw n v).map (·.1)).count a=eR n (tb n v) a:=by
 have:=uz n v a n
 rw [if_pos b]at this
 rw [← this,Wf.aw,Ad1]
 rfl
theorem jH (n v): ∀m,((Aa3 (m*n)).filter v.testBit).length=((Aa3 m).map (eR n (tb n v))).sum
 | 0=>by simp
 | m+1=>by
  have a:=jH n v m
  rw [jE,List.filter_append,Aa6,a,An5,Aa,Jv,An3,Ae0,List.sum_append]
  simp [eR,tb]
def MK (n v):(Wf.aw n v).length=((Aa3 n).map (eR n (tb n v))).sum:=by
 rw [Wf.aw,Aa,jH]
abbrev Za:Tx:= [108,101,97,115,116]
abbrev zc:Tx:= [109,111,115,116]
abbrev xb:Tx:= [101,97,99,104,108,101,97,115,116]
abbrev Qi:Tx:= [101,97,99,104,109,111,115,116]
abbrev wH:Tx:= [105,110]
abbrev Xb:Tx:= [101,113,117,97,108]
abbrev Zk:Tx:= [115,111,109,101]
abbrev wX:Tx:= [110,111]
def WR (s a b) (h):Gq .mem (.s s) (.t [.str a,.str b]) h=k0 (u9 (s∈ [a,b])):=xz s [a,b] (.t [.str a,.str b]) h rfl
def ZD (n v:Nat):List Nat:=(Aa3 n).map (eR n (tb n v))
def zl (n v:Nat) (s:Tx):List Nat:=if s∈ [Za,zc]then [(ZD n v).sum]else ZD n v
theorem w6: ∀l:List Nat,GM (aA l)=k0 (l.map λ(x:Nat)=>(x:Int))
 | []=>rfl
 | x::l=>by
  have:=w6 l
  simp only [Ab1,GM]at this ⊢
  rw [this];rfl
def C5 (l:List Nat) (a:Nat):(l.map λ(x:Nat)=>(x:Int)).count (a:Int)=l.count a:=by
 induction l with
 | nil=>rfl
 | cons x l b=>
  rw [Ab1,List.count_cons,List.count_cons,b]
  by_cases q:x=a
  .simp [q]
  .have: ¬(x=(a:Int)):=by lia
   simp [q,this]
def ud (k n v) (s) (i:n<=4) (h):call prog (k+2) "counts" [.i n,.s s,.i v] h= .ok (.own (aA (zl n v s))) h:=by
 rw [Gb rfl _ _ _ rfl]
 simp only [yT]
 refine fx (by simp_all [Zv k n v h (by lia)];rfl) ?_
 by_cases q:s∈ [Za,zc]
 .rw [qa,Gv _ _ _ rfl]
  rw [Zr (h1:=h) (by simp_all [WR,decide_eq_true q])]
  refine qa (QB rfl ?_)
  simp only [eval,Gx,Gf,Gi,Gn,R.ae,Qx,W.lj,R.ao,Aa,MK]
  rw [zl,if_pos q]
  rfl
 .refine fx (by simp_all [WR,decide_eq_false q];rfl) ?_
  have e2:eval (k8 (k+1)) XB [si n,k0 (.s s),si v,k0 (.l ((Wf.aw n v).map pD)),y0] h= .ok (.own (aA ((Wf.aw n v).map (·.1)))) h:=by
   rw [XB,wm (λd=>match d with | .tup [x,_]=>x | d=>d) (by simp_all []) (XJ n v (by lia))]
   .simp [pD,aA,Function.comp_def]
   .intro d g
    obtain⟨p,_,rfl⟩:=Ab6.mp g
    exact⟨_,rfl,_,rfl,rfl⟩
  have e1:eval (k8 (k+1)) WB [si n,k0 (.s s),si v,k0 (.l ((Wf.aw n v).map pD)),k0 (.l (aA ((Wf.aw n v).map (·.1))))] h= .ok (.own (aA (ZD n v))) h:=by
   rw [WB,Zn (λa=> .n _) rfl (by lia) λa f=>⟨.i _,?_,rfl⟩]
   .rw [aA,ZD,Ad1];rfl
   .have b:((((Wf.aw n v).map (·.1)).map λ(x:Nat)=>(x:Int))).length<=bf:=by
     have:=XJ n v (show n<=20 by lia)
     simpa using this
    have c:lZ .count (.l (aA ((Wf.aw n v).map (·.1)))) [.i a] h= .ok (.i (eR n (tb n v) a)) h:=by
     show(R.of h ((k0 (aA ((Wf.aw n v).map (·.1)))).bind GM)).bind _=_
     rw [Ag2,w6,R.ao,R.ae]
     show(R.of h (k0 (a:Int))).bind _=_
     rw [R.ao,R.ae,if_pos b,C5,Dg f]
    have e:mW .count (.l (aA ((Wf.aw n v).map (·.1)))) h=true:=rfl
    simp only [eval,Gf,Gi,Gn,Ab1,Af0,R.ae,e,if_true,c]
  rw [za (τ1:= [si n,k0 (.s s),si v,k0 (.l ((Wf.aw n v).map pD)),k0 (.l (aA ((Wf.aw n v).map (·.1))))]) (by rw [exec,e2];rfl)]
  rw [qa (QB rfl e1),Gv _ _ _ rfl,zl,if_neg q]
inductive Fc where
 | dD (a b:Ex)
 | d6 (a b:Ex)
 | d5 (a:Ex)
 | au (a:Ex)
 | cnt (s:Tx) (k:Nat) (a:Ex)
def dm:Fc->D
 | .dD a b=> .tup [.str wH,aV a,aV b]
 | .d6 a b=> .tup [.str Xb,aV a,aV b]
 | .d5 a=> .tup [.str Zk,aV a]
 | .au a=> .tup [.str wX,aV a]
 | .cnt s k a=> .tup [.str s,.n k,aV a]
def Fc.wf (N:List Tx):Fc->Prop
 | .dD a b=>a.wf N/\b.wf N
 | .d6 a b=>a.wf N/\b.wf N
 | .d5 a=>a.wf N
 | .au a=>a.wf N
 | .cnt s _ a=>s∈ [Za,zc,xb,Qi]/\a.wf N
def Fc.dp:Fc->Nat
 | .dD a b=>max a.dp b.dp
 | .d6 a b=>max a.dp b.dp
 | .d5 a=>a.dp
 | .au a=>a.dp
 | .cnt _ _ a=>a.dp
theorem nR: ∀bs:List Bool,Kl (bs.map .bl)=k0 bs
 | []=>rfl
 | b::bs=>by simp [Kl,nR bs]
def qv {bs:List Bool}(q:eval F e τ h= .ok (.own (bs.map .bl)) h):eval F (.bi .all (.cons e .nil)) τ h= .ok (.b (bs.all id)) h:=by
 rw [eval,Gf,q]
 simp [nR,R.ao]
def oQ (p) (l:List α):(l.map p).all id=l.all p:=by
 rw [An6];rfl
theorem JR: ∀l:List Nat,Kk (aA l)=k0 ((l.sum:Nat):Int)
 | []=>rfl
 | x::l=>by
  have:=JR l
  simp only [Ab1,Kk]at this ⊢
  rw [this,Am9]
  simp
def Ni :eval F (.neg (.int 1)) τ h= .ok (.v (.int (-1))) h:=rfl
def uf (x y:D):aQ [x,y] (-1)=k0 y:=rfl
def ZR (x y z:D):aQ [x,y,z] (-1)=k0 z:=rfl
def vv (s:Tx) (k:Nat) (l:List Nat):Bool:=if s∈ [Za,xb]then l.all λx=>u9 (k<=x)else l.all λx=>u9 (x<=k)
def QG (x y z:D):aQ [x,y,z] 2=k0 z:=rfl
def ql (X)(e:Gn τ i=k0 (.s s)):Gm F (.cmp .eq (.var i) (.str X)) τ h= .ok (s==X) h:=by
 simp only [Gm,eval,Gi,e,R.ae,Xa,R.ao,GT]
structure V (n v:Nat) (g:Nat->Nat->Bool):Prop where
 lt:v<2 ^ (n*n)
 bit: ∀a b,a<n->b<n->(v.testBit (a*n+b)=u0↔g a b=u0)
section
variable {n s t:Nat}{g f:Nat->Nat->Bool}
def V.plus (h:V n s g) (q:V n t f):V n (s ||| t) λa b=>g a b||f a b:=⟨oZ h.1 q.1,λa b d c=>by
 rw [Af,Ae8,h.2 a b d c,q.2 a b d c,Ae8]⟩
def V.both (h:V n s g) (q:V n t f):V n (s &&& t) λa b=>g a b&&f a b:=⟨Nat.and_lt_two_pow s q.1,λa b d c=>by
 rw [Ah2,Aa1,h.2 a b d c,q.2 a b d c,Aa1]⟩
def V.less (h:V n s g) (q:V n t f):V n (s-(s &&& t)) λa b=>g a b&& !f a b:=⟨Ah6 (Ap0 _ _) h.1,λa b d c=>by
 rw [Wf.aR,Aa1,h.2 a b d c,(Bool.eq_iff_iff.mpr (q.2 a b d c)),Aa1]⟩
def V.turned (h:V n s g):V n (Wf.bG n s) λa b=>g b a:=⟨Wf.f7 _ _,λa b d c=>by
 rw [Wf.ff (Wf.place_lt d c),Wf.aD c,Wf.aH c,h.2 b a c d]⟩
def V.joined (h:V n s g) (q:V n t f):V n (Wf.joinM n s t) λa b=>(Aa3 n).any λc=>g a c&&f c b:=⟨Wf.dc _ _ _,λa b j i=>by
 rw [Wf.b9 (Wf.place_lt j i),Wf.cG i,Ad2,Ad2]
 constructor
 .rintro ⟨c,e,z⟩
  have d:=Ab4.mp e
  rw [Aa1]at z
  exact⟨c,e,by rw [Aa1];exact⟨(h.2 a c j d).mp z.1,(q.2 c b d i).mp z.2⟩⟩
 .rintro ⟨c,e,z⟩
  have d:=Ab4.mp e
  rw [Aa1]at z
  exact⟨c,e,by rw [Aa1];exact⟨(h.2 a c j d).mpr z.1,(q.2 c b d i).mpr z.2⟩⟩⟩
def V.closed (h:V n s g)(q:Wf.fe n s r):V n r (Wf.wr g n):=⟨q.lt,λa b d c=>(q.bit a b d c).trans (Wf.ia (λx y e f=>(h.2 x y e f).symm) d c).symm⟩
end
abbrev Q5 (s:Tx):Nat->Nat->Bool:=λa b=>(s==Zp)||((s==wg)&&u9 (a=b))
abbrev bX (a b:Wo):D:= .tup [a.aT,b.aT]
structure Pt (a b:Wo):Prop where
 pI:a.Ok
 HV:b.Ok
 en:b.n=a.n
 eK:b.K=a.K
 eT:b.T=a.T
def Pt.ew (p:Pt a b):b.words=a.words:=by rw [Wo.words,Wo.words,p.eK,p.eT]
abbrev fG (a b:Wo) (d:D) (s:Tx) (c x5 e x7 x8:Option W):Sl:= [sv a.words,sv (bX a b),sv d,k0 (.s s),c,x5,e,x7,x8]
abbrev bb (v u:Nat):D:= .tup [.n v,.n u]
section
variable {m:Nat}{a b:Wo}{h:AH}
def X6 :Gk F (.seq (.fZ .v2 (.int 1))) (fG a b (.tup (s::ds)) z x4 x5 x6 x7 x8) h= .ok ds h:=by
 have e:cut (s::ds) (k0 1) y0=ds:=z6 (s::ds) 1
 refine FA ?_
 show(if aZ (s::ds).length 0 (k0 1)=0/\aZ (s::ds).length (s::ds).length y0=(s::ds).length then R.fail else R.ok _ h)=_
 rw [if_neg (λc=>by have:=c.1;simp [aZ]at this),e]
def ww (q:call prog m "bounds" [.v a.words,.v (bX a b),.v d] h= .ok (.v y) h):eval (k8 m) (.call "bounds" (.c .v1 .v2 .v0)) (GB (List.replicate 1 none++ [0,1].map fun j=>Gi (fG a b v z x4 x5 x6 x7 x8) j) 0 (.v d)) h= .ok (.v y) h:=by simp_all
def uy {s:Tx}{ds:List D}{x:W}(f:(s==zh)=k9){ps:List (Nat×Nat)}(i:ps.length<=2)
 (h1:eval (k8 m) Xu (fG a b (.tup (.str s::ds)) s y0 y0 y0 y0 y0) h= .ok (.own (ps.map pD)) h){d:D}
 (q:execs (k8 m) (match bE.body with | .cons _ (.cons _ (.cons _ (.cons _ (.cons _ r))))=>r | r=>r) (fG a b (.tup (.str s::ds)) s y0 (k0 (.l (ps.map pD))) (k0 (.l (aA (ps.map (·.1))))) (k0 (.l (aA (ps.map (·.2))))) y0) h= .ret (.v d) h):
 call prog (m+1) "bounds" [.v a.words,.v (bX a b),.t (.str s::ds)] h= .ok (.v d) h:=by
 rw [Gb (d:=bE) rfl _ _ _ rfl]
 simp only [bE]at q ⊢
 refine fx (by simp_all [aa,jf];rfl) ?_
 rw [xa (by simp_all [Xa,f])]
 have e:(ps.map pD).length<=bf:=by rw [Gg];simp;lia
 rw [za (τ1:=fG a b _ s y0 _ y0 y0 y0) (h1:=h) (by rw [exec,h1];rfl)]
 have e2:eval (k8 m) xD (fG a b (.tup (.str s::ds)) s y0 (k0 (.l (ps.map pD))) y0 y0 y0) h= .ok (.own (aA (ps.map (·.1)))) h:=by
  rw [xD,wm (h:=h) (ds:=ps.map pD) (λd=>match d with | .tup [x,_]=>x | d=>d) (by simp_all []) e]
  .simp [pD,aA,Function.comp_def]
  .intro d c
   obtain⟨p,_,rfl⟩:=Ab6.mp c
   exact⟨_,rfl,_,rfl,rfl⟩
 rw [za (τ1:=fG a b _ s y0 _ _ y0 y0) (h1:=h) (by rw [exec,e2];rfl)]
 have g:eval (k8 m) XD (fG a b (.tup (.str s::ds)) s y0 (k0 (.l (ps.map pD))) (k0 (.l (aA (ps.map (·.1))))) y0 y0) h= .ok (.own (aA (ps.map (·.2)))) h:=by
  rw [XD,wm (h:=h) (ds:=ps.map pD) (λd=>match d with | .tup [_,x]=>x | d=>d) (by simp_all []) e]
  .simp [pD,aA,Function.comp_def]
  .intro d c
   obtain⟨p,_,rfl⟩:=Ab6.mp c
   exact⟨_,rfl,_,rfl,rfl⟩
 rw [za (τ1:=fG a b _ s y0 _ _ _ y0) (h1:=h) (by rw [exec,g];rfl)]
 rw [q,Ga _ _ _ rfl]
def QD {s:Tx}{ds:List D}(d:(s==zh)=k9) (c:(s==jr)=k9){ps:List (Nat×Nat)}(f:ps.length<=2){v u:Nat}
 (h1:eval (k8 m) Xu (fG a b (.tup (.str s::ds)) s y0 y0 y0 y0 y0) h= .ok (.own (ps.map pD)) h)
 (g:call prog m "made" [.i a.n,.s s,.l (aA (ps.map (·.1)))] h= .ok (.i v) h) (e:call prog m "made" [.i a.n,.s s,.l (aA (ps.map (·.2)))] h= .ok (.i u) h):
 call prog (m+1) "bounds" [.v a.words,.v (bX a b),.t (.str s::ds)] h= .ok (.v (bb v u)) h:=by
 refine uy (x:= .v .au) d f h1 ?_
 simp only [bE]
 rw [xa (by simp_all [Xa,c])]
 have i:c5 (.v (bX a b)) (.v (.int 0)) h=k0 a.aT:=rfl
 have e1:c5 (.v a.aT) (.v (.int 0)) h=k0 _:=rfl
 refine(za (by simp_all [e1];rfl)).trans ?_
 rw [qa (Ja rfl (by simp_all [g,e];rfl))]
def E1 
 (h1:eval (k8 (k+1)) Xu (fG a b (.tup (.str jr::ds)) jr y0 y0 y0 y0 y0) h= .ok (.own ([(s,s'),(t,t')].map pD)) h):
 call prog (k+2) "bounds" [.v a.words,.v (bX a b),.t (.str jr::ds)] h= .ok (.v (bb (s-(s &&& t')) (s'-(s' &&& t)))) h:=by
 refine uy (x:= .v .au) rfl (by simp) h1 ?_
 refine qa ((Zr (h1:=h) ?_).trans (qa (Ja rfl ?_)))
 .simp_all [Xa];rfl
 .simp_all [xr,Qh,xf,QA k s t' h,QA k s' t h]
end
abbrev WJ:Tx:= [110,111,116]
abbrev wx:Tx:= [97,110,100]
abbrev zB:Tx:= [111,114]
inductive Sy where
 | fact (f:Fc)
 | neg (a:Sy)
 | bP (a b:Sy)
 | bO (a b:Sy)
def az:Sy->D
 | .fact f=>dm f
 | .neg a=> .tup [.str WJ,az a]
 | .bP a b=> .tup [.str wx,az a,az b]
 | .bO a b=> .tup [.str zB,az a,az b]
def Sy.wf (N:List Tx):Sy->Prop
 | .fact f=>f.wf N
 | .neg a=>a.wf N
 | .bP a b=>a.wf N/\b.wf N
 | .bO a b=>a.wf N/\b.wf N
def Sy.dp:Sy->Nat
 | .fact f=>f.dp
 | .neg a=>a.dp+1
 | .bP a b=>max a.dp b.dp+1
 | .bO a b=>max a.dp b.dp+1
def DE (f) (wf:f.wf N): ∃s ds,dm f= .tup (.str s::ds)/\(s==WJ)=k9/\(s==wx)=k9/\(s==zB)=false:=by
 cases f with
 | dD a b=>exact⟨wH,_,rfl,rfl,rfl,rfl⟩
 | d6 a b=>exact⟨Xb,_,rfl,rfl,rfl,rfl⟩
 | d5 a=>exact⟨Zk,_,rfl,rfl,rfl,rfl⟩
 | au a=>exact⟨wX,_,rfl,rfl,rfl,rfl⟩
 | cnt s j a=>
  have: ∀s∈ [Za,zc,xb,Qi],(s==WJ)=k9/\(s==wx)=k9/\(s==zB)=false:=by decide
  exact⟨s,_,rfl,this s wf.1⟩
def aF:Option Bool->D
 | none=> .au
 | some b=> .bl b
def qR (a b:Bool):Option Bool:=if a then k0 u0 else if b then k0 k9 else y0
def j7 (r q:Option Bool):Option Bool:=qR (r==k0 u0&&q==k0 u0) (r==k0 k9||q==k0 k9)
def fq (r q:Option Bool):Option Bool:=qR (r==k0 u0||q==k0 u0) (r==k0 k9&&q==k0 k9)
def Qp (k) (a b) (h):call prog (k+1) "settled" [.b a,.b b] h= .ok (.v (aF (qR a b))) h:=by
 rw [Gb rfl _ _ _ rfl]
 simp [J3]
 cases a
 .cases b
  .simp_all []
   rfl
  .simp_all []
   rfl
 .simp_all []
  rfl
def Mr (r) (b):Kq (.v (aF r)) (.b b)=k0 (r==k0 b):=by
 cases r with
 | none=>rfl
 | some c=>cases c<;>cases b<;>rfl
def ki (r) (b) (h):Gq .c6 (.v (aF r)) (.b b) h=k0 (r==k0 b):=Mr r b
section
variable {k:Nat}{r q:Option Bool}{h:AH}
def MH:call prog (k+2) "not_told" [.v (aF r)] h= .ok (.v (aF (r.map (!·)))) h:=by
 rw [Gb rfl _ _ _ rfl]
 simp only [WP]
 rw [qa (Ja (d:=aF (qR (r==k0 k9) (r==k0 u0))) (h1:=h) rfl (by simp_all [ki,Qp])),Ga _ _ _ rfl]
 cases r with
 | none=>rfl
 | some c=>cases c<;>rfl
def kf (h1:eval F e τ h= .ok (.b a) h) (c:eval F f τ h= .ok (.b b) h):eval F (.or e f) τ h= .ok (.b (a||b)) h:=by
 rw [eval,h1]
 cases a
 .simp [c,Bool.false_or]
 .simp [Am2]
def W1 (h1:eval F e τ h= .ok (.b a) h) (c:eval F f τ h= .ok (.b b) h):eval F (.and e f) τ h= .ok (.b (a&&b)) h:=by
 rw [eval,h1]
 cases a
 .simp [Ae9]
 .simp [c,Ae5]
def jF (b) (e:Gi τ i=sv (aF r)):eval F (.cmp .c6 (.var i) (.bl b)) τ h= .ok (.b (r==k0 b)) h:=by
 simp [e,ki,R.ao]
def QP:call prog (k+2) "and_told" [.v (aF r),.v (aF q)] h= .ok (.v (aF (j7 r q))) h:=by
 rw [Gb rfl _ _ _ rfl]
 simp only [ZO]
 show Gw _ (execs _ _ [sv _,sv _] h)=_
 rw [qa (Ja (d:=aF (j7 r q)) rfl (by
  rw [eval,Gf,(W1 (F:=(k8 (k+1))) (jF (h:=h) (τ:= [sv (aF r),sv (aF q)]) (i:=0) u0 rfl) (jF (i:=1) u0 rfl)),R.ae,Gf,(kf (F:=(k8 (k+1))) (jF (h:=h) (τ:= [sv (aF r),sv (aF q)]) (i:=0) k9 rfl) (jF (i:=1) k9 rfl))]
  simp only [R.ae,Gf,Ab1,Af0,W.bY,Qp]
  rfl)),Ga _ _ _ rfl]
def LY:call prog (k+2) "or_told" [.v (aF r),.v (aF q)] h= .ok (.v (aF (fq r q))) h:=by
 rw [Gb rfl _ _ _ rfl]
 simp only [qW]
 show Gw _ (execs _ _ [sv _,sv _] h)=_
 rw [qa (Ja (d:=aF (fq r q)) rfl (by
  rw [eval,Gf,(kf (F:=(k8 (k+1))) (jF (h:=h) (τ:= [sv (aF r),sv (aF q)]) (i:=0) u0 rfl) (jF (i:=1) u0 rfl)),R.ae,Gf,(W1 (F:=(k8 (k+1))) (jF (h:=h) (τ:= [sv (aF r),sv (aF q)]) (i:=0) k9 rfl) (jF (i:=1) k9 rfl))]
  simp only [R.ae,Gf,Ab1,Af0,W.bY,Qp]
  rfl)),Ga _ _ _ rfl]
end
def zH {bs:List Bool}(q:eval F e τ h= .ok (.own (bs.map .bl)) h):eval F (.bi .any (.cons e .nil)) τ h= .ok (.b (bs.any id)) h:=by
 rw [eval,Gf,q]
 simp [nR,R.ao]
def nA (p) (l:List α):(l.map p).any id=l.any p:=by
 rw [Ap2];rfl
def Ln (n) (h):Gq .ne (.i n) (.v (.int 0)) h=k0 (!u9 (n=0)):=by
 have this:Gq .eq _ (.v (.int 0)) h=k0 _:=Xm n 0 h
 rw [KO]at this
 rw [FI]
 split at this
 .rename_i c
  rw [if_pos c]
  have:=Ad6.inj this
  rw [← this]
 .cases this
def oP (n) (h):Gq .eq (.i n) (.v (.int 0)) h=k0 (u9 (n=0)):=Xm n 0 h
def dq (v u a b:Nat):Option Bool:=qR (u9 (u-(u &&& a)=0)) (!u9 (v-(v &&& b)=0))
def zZ (k v u v' u') (h):call prog (k+2) "in_told" [.v (bb v u),.v (bb v' u')] h= .ok (.v (aF (dq v u v' u'))) h:=by
 rw [Gb rfl _ _ _ rfl]
 simp only [xW]
 rw [qa (Ja (d:=aF (dq v u v' u')) rfl (by simp_all [aa,Qh,xf,QA k u v' h,QA k v u' h,oP,Ln,Qp];rfl)),Ga _ _ _ rfl]
noncomputable def JM (s:Tx) (j:Nat) (l u:List Nat):Option Bool:=if s∈ [Za,xb]then qR (l.all λx=>u9 (j<=x)) (u.any λx=>u9 (x<j))else qR (u.all λx=>u9 (x<=j)) (l.any λx=>u9 (j<x))
def mX (p) (m:l.length<=4) (b:Gi τ i=k0 (.l (aA l))) (g:Gi τ c=si j) (f: ∀x:Nat,Gq o (.i x) (.i j) h=k0 (p x)):
 eval F (.comp [0] u0 1 [c] (.seq (.var i)) k9 (.bl u0) (.cmp o .v0 .v1)) τ h= .ok (.own ((l.map p).map .bl)) h:=by
 have a:Gk F (.seq (.var i)) τ h= .ok (aA l) h:=by
  simp [b,R.ae]
 rw [wm (λd=>match d with | .int x=> .bl (p x.toNat) | d=>d) a (by rw [Gg,aA,Aa];lia)]
 .simp [Function.comp_def]
 .intro k e
  obtain⟨x,_,rfl⟩:=Ab6.mp e
  refine⟨[si x,si j],by simp only [Ab1,g];rfl,.b (p x),?_,by simp⟩
  simp_all [f]
def t5 (j x) (h):Gq .le (.i x) (.i j) h=k0 (u9 (x<=j)):=by
 rw [Q1];congr 1;exact decide_eq_decide.mpr (by lia)
def tM (j x) (h):Gq .ge (.i x) (.i j) h=k0 (u9 (j<=x)):=by
 rw [DW];congr 1;exact decide_eq_decide.mpr (by lia)
def me (j x) (h):Gq .lt (.i x) (.i j) h=k0 (u9 (x<j)):=by
 rw [XZ];congr 1;exact decide_eq_decide.mpr (by lia)
def gA (j x) (h):Gq .gt (.i x) (.i j) h=k0 (u9 (j<x)):=by
 rw [M1];congr 1;exact decide_eq_decide.mpr (by lia)
def yL (n v) (s) (a:n<=4):(zl n v s).length<=4:=by
 rw [zl]
 split
 .simp
 .simp [ZD];lia
abbrev mN (n:Nat) (s:Tx) (j v u:Nat) (a x5:Option W):Sl:= [si n,k0 (.s s),si j,sv (bb v u),a,x5]
def Xr (k n) (s) (j v u) (a:n<=4) (h):call prog (k+3) "count_told" [.i n,.s s,.i j,.v (bb v u)] h= .ok (.v (aF (JM s j (zl n v s) (zl n u s)))) h:=by
 rw [Gb rfl _ _ _ rfl]
 simp only [zF]
 refine fx (by simp_all [aa,Qh,ud k n v s a h];rfl) ?_
 refine fx (by simp_all [aa,xf,ud k n u s a h];rfl) ?_
 have e:=yL n v s a
 have b:=yL n u s a
 rw [JM]
 by_cases q:s∈ [Za,xb]
 .have e1:=mX (F:=(k8 (k+2))) (τ:=mN n s j v u (k0 (.l _)) (k0 (.l (aA (zl n u s))))) (i:=4) (c:=2) _ e rfl rfl λx=>tM j x h
  have e2:=mX (F:=(k8 (k+2))) (τ:=mN n s j v u (k0 (.l (aA (zl n v s)))) (k0 (.l _))) (i:=5) (c:=2) (h:=h) _ b rfl rfl λx=>me j x h
  rw [if_pos q,zf (by simp_all [WR,decide_eq_true q]) (Ja (d:=aF (qR ((zl n v s).all λx=>u9 (j<=x)) ((zl n u s).any λx=>u9 (x<j)))) rfl (by
   rw [eval,Gf,qx,qv e1,R.ae,Gf,jw,zH e2,oQ,nA]
   simp only [R.ae,Gf,Ab1,Af0,W.bY,Qp])),Ga _ _ _ rfl]
 .have e1:=mX (F:=(k8 (k+2))) (τ:=mN n s j v u (k0 (.l (aA (zl n v s)))) (k0 (.l (aA (zl n u s))))) (i:=5) (c:=2) (o:= .le) (h:=h) _ b rfl rfl λx=>t5 j x h
  have e2:=mX (F:=(k8 (k+2))) (τ:=mN n s j v u (k0 (.l (aA (zl n v s)))) (k0 (.l (aA (zl n u s))))) (i:=4) (c:=2) (o:= .gt) (h:=h) _ e rfl rfl λx=>gA j x h
  rw [if_neg q,xa (by simp_all [WR,decide_eq_false q]),qa (Ja (d:=aF (qR ((zl n u s).all λx=>u9 (x<=j)) ((zl n v s).any λx=>u9 (j<x)))) (h1:=h) rfl (by
   rw [eval,Gf,jx,qv e1,R.ae,Gf,Zw,zH e2,oQ,nA]
   simp only [R.ae,Gf,Ab1,Af0,W.bY,Qp])),Ga _ _ _ rfl]
noncomputable abbrev sW (a b:Wo) (d:D) (s:Tx) (v u:Nat) (c:Option W):Sl:= [sv a.words,sv (bX a b),sv d,k0 (.s s),si a.n,sv (bb v u),c]
section
variable {k m:Nat}{a b:Wo}{h:AH}{v u v' u':Nat}{e e':Ex}
def jz (f:aQ (.str s::ds) (-1)=k0 (aV e)) (c:call prog m "bounds" [.v a.words,.v (bX a b),.v (aV e)] h= .ok (.v (bb v u)) h)
 (q:execs (k8 m) (match aU.body with | .cons _ (.cons _ (.cons _ r))=>r | r=>r) (sW a b (.tup (.str s::ds)) s v u y0) h= .ret (.v d) h):call prog (m+1) "fact_told" [.v a.words,.v (bX a b),.t (.str s::ds)] h= .ok (.v d) h:=by
 rw [Gb rfl _ _ _ rfl]
 simp only [aU]at q ⊢
 have i0:c5 (.v (bX a b)) (.v (.int 0)) h=k0 a.aT:=rfl
 have i1:c5 (.v a.aT) (.v (.int 0)) h=k0 _:=rfl
 refine fx (by simp_all [aa,jf];rfl) ?_
 refine fx (by simp_all [i1];rfl) ?_
 rw [za (τ1:=sW a b (.tup (.str s::ds)) s v u y0) (h1:=h) (by simp_all [aa,f,c]),q,Ga _ _ _ rfl]
variable (n4:a.n<=4) (e1:call prog (k+3) "bounds" [.v a.words,.v (bX a b),.v (aV e)] h= .ok (.v (bb v u)) h) (e2:call prog (k+3) "bounds" [.v a.words,.v (bX a b),.v (aV e')] h= .ok (.v (bb v' u')) h)
include n4 e1
def MG:call prog (k+4) "fact_told" [.v a.words,.v (bX a b),.v (dm (.d5 e))] h= .ok (.v (aF (JM Za 1 (zl a.n v Za) (zl a.n u Za)))) h:=by
 refine jz (uf _ _) e1 ?_
 have c:=Xr k a.n Za 1 v u n4 h
 have c:=c
 simp only [aU]
 rw [zf (ql (s:=Zk) _ rfl) (Ja rfl (by assumption))]
def EG:call prog (k+4) "fact_told" [.v a.words,.v (bX a b),.v (dm (.au e))] h= .ok (.v (aF (JM zc 0 (zl a.n v zc) (zl a.n u zc)))) h:=by
 refine jz (uf _ _) e1 ?_
 have c:=Xr k a.n zc 0 v u n4 h
 have c:=c
 simp only [aU]
 rw [xa (ql (s:=wX) _ rfl),zf (ql (s:=wX) _ rfl) (Ja rfl (by assumption))]
def Lx (d:s∈ [Za,zc,xb,Qi]):call prog (k+4) "fact_told" [.v a.words,.v (bX a b),.v (dm (.cnt s j e))] h= .ok (.v (aF (JM s j (zl a.n v s) (zl a.n u s)))) h:=by
 refine jz (ZR _ _ _) e1 ?_
 have c:=Xr k a.n s j v u n4 h
 have ne:=by
  have: ∀s∈ [Za,zc,xb,Qi],(s==Zk)=k9/\(s==wX)=k9/\(s==wH)=k9/\(s==Xb)=false:=by decide
  exact this s d
 simp only [aU]
 rw [xa ((ql _ rfl).trans (by rw [ne.1])),xa ((ql _ rfl).trans (by rw [ne.2.1])),xa ((ql _ rfl).trans (by rw [ne.2.2.1])),xa ((ql _ rfl).trans (by rw [ne.2.2.2])),qa (Ja rfl (by assumption))]
include e2
theorem Cr:call prog (k+4) "fact_told" [.v a.words,.v (bX a b),.v (dm (.dD e' e))] h= .ok (.v (aF (dq v' u' v u))) h:=by
 refine jz (ZR _ _ _) e1 ?_
 simp only [aU]
 rw [xa (ql (s:=wH) _ rfl),xa (ql (s:=wH) _ rfl),zf (ql (s:=wH) _ rfl) (Ja rfl (by simp_all [aa,Wr,e2,zZ];rfl))]
theorem Cz:call prog (k+4) "fact_told" [.v a.words,.v (bX a b),.v (dm (.d6 e' e))] h= .ok (.v (aF (j7 (dq v' u' v u) (dq v u v' u')))) h:=by
 refine jz (ZR _ _ _) e1 ?_
 simp only [aU]
 rw [xa (ql (s:=Xb) _ rfl),xa (ql (s:=Xb) _ rfl),xa (ql (s:=Xb) _ rfl)]
 refine qa ((Zr (ql (s:=Xb) _ rfl)).trans ?_)
 refine(za (by simp_all [aa,Wr,e2];rfl)).trans ?_
 exact qa (Ja rfl (by simp_all [zZ,QP]))
end
def V.leaf :V n (Wf.bD n) (Q5 wg)/\V n (2 ^ (n*n)-1) (Q5 Zp)/\V n 0 (Q5 Xh):=by
 refine⟨⟨Wf.gd _,λa b c d=> ?_⟩,⟨Nat.sub_lt (Ad4 _) (by decide),λa b c d=> ?_⟩,⟨Ad4 _,λa b c d=> ?_⟩⟩
 .rw [Wf.et c d,decide_eq_true_eq]
  show _↔(k9||(u0&&decide _))=u0
  simp
 .rw [Ag3,decide_eq_true (Wf.place_lt c d)]
  show _↔(u0||(k9&&decide _))=u0
  simp
 .rw [Af9]
  show _↔(k9||(k9&&decide _))=u0
  simp
noncomputable def bh (w:Wo) (t:Tx) (x y:Nat):Bool:=if t∈w.T then(w.ts.getD (cX t w.T) 0).testBit (x*w.n+y)else u9 (x=y)&&(w.ks.getD (cX t w.K) 0).testBit x
def vw (w) (t) (x y):bh w t x y=u0↔fk w (.name t) x y:=by
 show _↔w.at t x y
 unfold bh Wo.at
 split
 .exact Iff.rfl
 .rw [Aa1,decide_eq_true_eq]
def bt (a b:Wo):Bool->Ex->Nat->Nat->Bool
 | false,.name t=>bh a t
 | true,.name t=>bh b t
 | _,.same=>Q5 wg
 | _,.all=>Q5 Zp
 | _,.none=>Q5 Xh
 | p,.turned e=>λx y=>bt a b p e y x
 | p,.closed e=>Wf.wr (bt a b p e) a.n
 | p,.plus e f=>λx y=>bt a b p e x y||bt a b p f x y
 | p,.less e f=>λx y=>bt a b p e x y&& !bt a b (!p) f x y
 | p,.both e f=>λx y=>bt a b p e x y&&bt a b p f x y
 | p,.joined e f=>λx y=>(Aa3 a.n).any λc=>bt a b p e x c&&bt a b p f c y
def B0 (w): ∀ e p,bt w w p e=bt w w u0 e:=by
 intro e
 induction e with
 | name t=>intro p;cases p<;>rfl
 | turned e b=>intro p;simp [bt,b p]
 | closed e b=>intro p;simp [bt,b p]
 | plus e f b a=>intro p;simp [bt,b p,a p]
 | less e f b a=>intro p;simp [bt,b p,a _]
 | both e f b a=>intro p;simp [bt,b p,a p]
 | joined e f b a=>intro p;simp [bt,b p,a p]
 | _=>intro p;cases p<;>rfl
structure Le (a c:Wo):Prop where
 en:c.n=a.n
 nm: ∀t x y,bh a t x y=u0->bh c t x y=u0
def Le.refl (a):Le a a:=⟨rfl,λ_ _ _ h=>h⟩
theorem lL (h: ∀x y,g x y=u0->g' x y=u0): ∀k x y,Wf.wr g k x y=u0->Wf.wr g' k x y=u0
 | 0,x,y,z=>h x y z
 | k+1,x,y,z=>by
  rw [Wf.wr,Ae8,Aa1]at z ⊢
  exact z.elim (λz=> .inl (lL h k x y z)) λz=> .inr ⟨lL h k _ _ z.1,lL h k _ _ z.2⟩
def tY (h: ∀c,f c=u0->g c=u0) (l:List Nat) (z:l.any f=u0):l.any g=true:=by
 rw [Ad2]at z ⊢
 exact let ⟨c,b,a⟩:=z; ⟨c,b,h c a⟩
def WS (L:Le a a') (h:Le b' b): ∀ e x y,(bt a b k9 e x y=u0->bt a' b' k9 e x y=u0)/\(bt a' b' u0 e x y=u0->bt a b u0 e x y=u0):=by
 intro e
 induction e with
 | name t=>exact λx y=>⟨L.nm t x y,h.nm t x y⟩
 | same=>exact λx y=>⟨id,id⟩
 | all=>exact λx y=>⟨id,id⟩
 | none=>exact λx y=>⟨id,id⟩
 | turned e g=>exact λx y=>g y x
 | closed e g=>
  intro x y
  simp [bt,L.en]
  exact⟨lL (λx y=>(g x y).1) _ x y,lL (λx y=>(g x y).2) _ x y⟩
 | plus e f g d=>
  intro x y
  simp [bt,Ae8]
  exact⟨λz=>z.elim (λz=> .inl ((g x y).1 z)) λz=> .inr ((d x y).1 z),λz=>z.elim (λz=> .inl ((g x y).2 z)) λz=> .inr ((d x y).2 z)⟩
 | less e f g d=>
  intro x y
  simp only [bt,Aa1,Ag6,←Ap7]
  exact⟨λz=>⟨(g x y).1 z.1,λq=>z.2 ((d x y).2 q)⟩,λz=>⟨(g x y).2 z.1,λq=>z.2 ((d x y).1 q)⟩⟩
 | both e f g d=>
  intro x y
  simp only [bt,Aa1]
  exact⟨λz=>⟨(g x y).1 z.1,(d x y).1 z.2⟩,λz=>⟨(g x y).2 z.1,(d x y).2 z.2⟩⟩
 | joined e f g d=>
  intro x y
  simp only [bt,L.en]
  exact⟨tY (λc z=>by rw [Aa1]at z ⊢;exact⟨(g x c).1 z.1,(d c y).1 z.2⟩) _,tY (λc z=>by rw [Aa1]at z ⊢;exact⟨(g x c).2 z.1,(d c y).2 z.2⟩) _⟩
def Sub (v w:Nat):Prop:= ∀k,v.testBit k=u0->w.testBit k=u0
def V.sub (h:V n v g) (q:V n w f) (d: ∀x y,g x y=u0->f x y=u0):Sub v w:=λk z=>by
 by_cases a:k<n*n
 .have c:=h.2 _ _ (Wf.ba a) (Wf.aX a)
  have b:=q.2 _ _ (Wf.ba a) (Wf.aX a)
  rw [Wf.br]at c b
  exact b.mpr (d _ _ (c.mp z))
 .rw [Ai8 (Ab3 h.1 (Ad0 (by decide) (Nat.not_lt.mp a)))]at z
  cases z
def Sub.and (h:Sub v w):v &&& w=v:=Aj8 λk=>by
 rw [Ah2]
 cases q:v.testBit k with
 | false=>rfl
 | true=>rw [h k q];rfl
def sub_zero :v-(v &&& w)=0↔Sub v w:=by
 refine⟨λh k z=> ?_,λh=>by rw [h.and,Am3]⟩
 have e:=congrArg (·.testBit k) h
 simp [Wf.aR,z,Ae5]at e
 simpa using e
structure B (a b:Wo) (e:Ex) (v u:Nat):Prop where
 lo:V a.n v (bt a b k9 e)
 hi:V a.n u (bt a b u0 e)
section
variable {a b a' b':Wo}{e:Ex}{v u w z:Nat}
def B.mono (h:B a b e v u) (q:B a' b' e w z) (L:Le a a') (c:Le b' b):Sub v w/\Sub z u:=
 ⟨V.sub h.lo (L.en▸q.lo) λx y=>(WS L c e x y).1,V.sub (L.en▸q.hi) h.hi λx y=>(WS L c e x y).2⟩
def B.in (h:B a b e v u) (L:Le a b):Sub v u:=V.sub h.lo h.hi λx y q=>(WS (Le.refl a) L e x y).2 (B0 a e k9▸(WS (Le.refl a) L e x y).1 q)
end
def zM (h:a=u0->a'=u0) (q:b=u0->b'=u0) (n:a'=u0->b'=u0->False) (e:qR a b=k0 x):qR a' b'=k0 x:=by
 cases a with
 | true=>rw [h rfl];exact e
 | false=>
  cases b with
  | false=>cases e
  | true=>
   rw [q rfl]
   cases a' with
   | true=>exact(n rfl (q rfl)).elim
   | false=>exact e
def tF (a):qR a (!a)=k0 a:=by cases a<;>rfl
def wV (h:Sub v w/\Sub z u) (q:Sub v' w'/\Sub z' u') (h1:Sub w z) (c:Sub w' z') (e:dq v u v' u'=k0 x):dq w z w' z'=k0 x:=by
 refine zM (λk=> ?_) (λk=> ?_) (λk b=> ?_) e
 .rw [decide_eq_true_eq,sub_zero]at k ⊢
  exact λi a=>q.1 i (k i (h.2 i a))
 .rw [Ag6,decide_eq_false_iff_not,sub_zero]at k ⊢
  exact λl=>k λi a=>q.2 i (l i (h.1 i a))
 .rw [decide_eq_true_eq,sub_zero]at k
  rw [Ag6,decide_eq_false_iff_not,sub_zero]at b
  exact b λi a=>c i (k i (h1 i a))
def du:List Nat->List Nat->Prop
 | [],[]=>True
 | x::xs,y::ys=>x<=y/\du xs ys
 | _,_=>False
theorem du.map (h: ∀x,f x<=g x): ∀l:List Nat,du (l.map f) (l.map g)
 | []=>trivial
 | x::l=>⟨h x,du.map h l⟩
theorem du.sum: ∀ {l m},du l m->l.sum<=m.sum
 | [],[],_=>Aa9 _
 | x::a,y::b,h=>by
  exact Nat.add_le_add h.1 (du.sum h.2)
 | [],_::_,h=>h.elim
 | _::_,[],h=>h.elim
theorem du.all (a: ∀x y,x<=y->p x=u0->q y=u0): ∀ {l m},du l m->l.all p=u0->m.all q=u0
 | [],[],_,_=>rfl
 | x::b,y::c,h,z=>by
  rw [Al6,Aa1]at z ⊢
  exact⟨a x y h.1 z.1,du.all a h.2 z.2⟩
 | [],_::_,h,_=>h.elim
 | _::_,[],h,_=>h.elim
theorem du.dn (a: ∀x y,x<=y->p y=u0->q x=u0): ∀ {l m},du l m->m.all p=u0->l.all q=u0
 | [],[],_,_=>rfl
 | x::b,y::c,h,z=>by
  rw [Al6,Aa1]at z ⊢
  exact⟨a x y h.1 z.1,du.dn a h.2 z.2⟩
 | [],_::_,h,_=>h.elim
 | _::_,[],h,_=>h.elim
def uj (p q) (h: ∀x,p x= !q x) (l:List Nat):l.any p= !l.all q:=by
 induction l with
 | nil=>rfl
 | cons x l a=>rw [Ag9,Al6,a,h x,Bool.not_and]
def sI (j x:Nat):u9 (x<j)= !u9 (j<=x):=by grind
def sY (s) (j) (l u):JM s j l u=if s∈ [Za,xb]then qR (l.all λx=>u9 (j<=x)) (!u.all λx=>u9 (j<=x))else qR (u.all λx=>u9 (x<=j)) (!l.all λx=>u9 (x<=j)):=by
 rw [JM,uj _ (λx=>decide _) (λx=>sI j x),uj (λx=>decide _) (λx=>decide _) (λx=>sI x j)]
def Ea (h:du l l') (q:du u' u) (n:du l' u') (e:JM s j l u=k0 x):JM s j l' u'=k0 x:=by
 have up: ∀x y:Nat,x<=y->u9 (j<=x)=u0->u9 (j<=y)=true:=λx y h k=>by
  rw [decide_eq_true_eq]at k ⊢;lia
 have dn: ∀x y:Nat,x<=y->u9 (y<=j)=u0->u9 (x<=j)=true:=λx y h k=>by
  rw [decide_eq_true_eq]at k ⊢;lia
 rw [sY]at e ⊢
 split at e
 .rename_i c
  rw [if_pos c]
  refine zM (λk=>h.all up k) (λk=> ?_) (λk a=> ?_) e
  .rw [Ag6,←Ap7]at k ⊢
   exact λl=>k (q.all up l)
  .rw [n.all up k]at a;cases a
 .rename_i c
  rw [if_neg c]
  refine zM (λk=>q.dn dn k) (λk=> ?_) (λk a=> ?_) e
  .rw [Ag6,←Ap7]at k ⊢
   exact λl=>k (h.dn dn l)
  .rw [n.dn dn k]at a;cases a
def nq (s) (h:Sub v w):du (zl n v s) (zl n w s):=by
 have r:du (ZD n v) (ZD n w):=du.map (λa=>du.sum (du.map (λb=>by
  unfold tb
  cases q:v.testBit (a*n+b)with
  | false=>exact Ae6 _
  | true=>rw [h _ q];exact Aa9 _) _)) _
 unfold zl
 split
 .exact⟨r.sum,trivial⟩
 .exact r
def qM (s) (j) (l):JM s j l l=k0 (vv s j l):=by
 rw [sY,vv]
 split<;>exact tF _
def zU (v u):dq v v u u=k0 (u9 (v-(v &&& u)=0)):=tF _
def gq (a b:Wo):Fc->Option Bool->Prop
 | .dD x y,r=> ∃v u v' u',B a b x v u/\B a b y v' u'/\r=dq v u v' u'
 | .d6 x y,r=> ∃v u v' u',B a b x v u/\B a b y v' u'/\r=j7 (dq v u v' u') (dq v' u' v u)
 | .d5 x,r=> ∃v u,B a b x v u/\r=JM Za 1 (zl a.n v Za) (zl a.n u Za)
 | .au x,r=> ∃v u,B a b x v u/\r=JM zc 0 (zl a.n v zc) (zl a.n u zc)
 | .cnt s j x,r=> ∃v u,B a b x v u/\r=JM s j (zl a.n v s) (zl a.n u s)
def Td (a b:Wo):Sy->Option Bool->Prop
 | .fact f,r=>gq a b f r
 | .neg s,r=> ∃q,Td a b s q/\r=q.map (!·)
 | .bP s t,r=> ∃p q,Td a b s p/\Td a b t q/\r=j7 p q
 | .bO s t,r=> ∃p q,Td a b s p/\Td a b t q/\r=fq p q
def jZ (h: ∀x,p=k0 x->p'=k0 x) (k: ∀x,q=k0 x->q'=k0 x) (e:j7 p q=k0 x):j7 p' q'=k0 x:=by
 rcases p with _ | _ | _<;>rcases q with _ | _ | _<;>cases e<;>(first | rw [h _ rfl] | skip)<;>(first | rw [k _ rfl] | skip)<;>first | rfl | (rcases p' with _ | _ | _<;>rfl) | (rcases q' with _ | _ | _)
def Iu (h: ∀x,p=k0 x->p'=k0 x) (k: ∀x,q=k0 x->q'=k0 x) (e:fq p q=k0 x):fq p' q'=k0 x:=by
 rcases p with _ | _ | _<;>rcases q with _ | _ | _<;>cases e<;>(first | rw [h _ rfl] | skip)<;>(first | rw [k _ rfl] | skip)<;>first | rfl | (rcases p' with _ | _ | _<;>rfl) | (rcases q' with _ | _ | _)
theorem gq.mono (L:Le a a') (g:Le b' b) (k:Le a' b')(h:gq a b f r) (q:gq a' b' f r') (e:r=k0 x):r'=k0 x:=by
 have cnt: ∀ {y}{v u l n}{s}{j},B a b y v u->B a' b' y l n->JM s j _ _=k0 x->JM s j (zl a'.n l s) (zl a'.n n s)=k0 x:=λd c e=>by
  have m:=d.mono c L g
  rw [L.en]
  exact Ea (nq _ m.1) (nq _ m.2) (nq _ (c.in k)) e
 cases f with
 | dD y z=>
  obtain⟨v,u,l,n,d,o,rfl⟩:=h
  obtain⟨w,t,A,p,c,i,rfl⟩:=q
  exact wV (d.mono c L g) (o.mono i L g) (c.in k) (i.in k) e
 | d6 y z=>
  obtain⟨v,u,l,n,d,o,rfl⟩:=h
  obtain⟨w,t,A,p,c,i,rfl⟩:=q
  exact jZ (λx=>wV (d.mono c L g) (o.mono i L g) (c.in k) (i.in k)) (λx=>wV (o.mono i L g) (d.mono c L g) (i.in k) (c.in k)) e
 | d5 y=>
  obtain⟨v,u,d,rfl⟩:=h
  obtain⟨w,t,c,rfl⟩:=q
  exact cnt d c e
 | au y=>
  obtain⟨v,u,d,rfl⟩:=h
  obtain⟨w,t,c,rfl⟩:=q
  exact cnt d c e
 | cnt s j y=>
  obtain⟨v,u,d,rfl⟩:=h
  obtain⟨w,t,c,rfl⟩:=q
  exact cnt d c e
theorem Td.mono (L:Le a a') (d:Le b' b) (g:Le a' b'): ∀ s r r' x,Td a b s r->Td a' b' s r'->r=k0 x->r'=k0 x
 | .fact f,r,r',x,h,q,e=>gq.mono L d g h q e
 | .neg s,r,r',x,⟨p,h,i⟩,⟨w,q,c⟩,e=>by
  rw [c] ;rw [i]at e
  cases p with
  | none=>cases e
  | some y=>rw [Td.mono L d g s _ _ y h q rfl];exact e
 | .bP s t,r,r',x,⟨u,v,l,m,i⟩,⟨n,o,j,k,c⟩,e=>by
  rw [c];rw [i]at e
  exact jZ (λy z=>Td.mono L d g s _ _ y l j z) (λy z=>Td.mono L d g t _ _ y m k z) e
 | .bO s t,r,r',x,⟨u,v,l,m,i⟩,⟨n,o,j,k,c⟩,e=>by
  rw [c];rw [i]at e
  exact Iu (λy z=>Td.mono L d g s _ _ y l j z) (λy z=>Td.mono L d g t _ _ y m k z) e
def Wp (P:Pt a b) (h): ∀ e m,e.dp+7<=m->e.wf (a.K++a.T)-> ∃v u,B a b e v u/\call prog m "bounds" [.v a.words,.v (bX a b),.v (aV e)] h= .ok (.v (bb v u)) h:=by
 have n4:=P.pI.wl.n4
 have leaf: ∀ e s k v,aV e= .tup [.str s]->(s==zh)=k9->(s==jr)=k9->V a.n v (bt a b k9 e)->V a.n v (bt a b u0 e)->(∀ l,call prog (k+5) "made" [.i a.n,.s s,.l l] h= .ok (.i v) h)-> ∃v u,B a b e v u/\call prog (k+6) "bounds" [.v a.words,.v (bX a b),.v (aV e)] h= .ok (.v (bb v u)) h:=by
  intro e s k v N E O z A f
  rw [N]
  exact⟨v,v,⟨z,A⟩,QD (ps:= []) E O (by simp) (E7 X6) (f _) (f _)⟩
 intro e
 induction e with
 | name t=>
  intro m f wf
  obtain⟨k,rfl⟩: ∃k,m=k+6:=⟨m-6,by simp [Ex.dp]at f;lia⟩
  have G:t∈b.K++b.T:=by rw [P.eK,P.eT];exact wf
  obtain⟨v,z,e1⟩:=zu (k+1) P.pI t wf h
  obtain⟨u,A,e2⟩:=zu (k+1) P.HV t G h
  have K:V a.n v _:=⟨z.1,λx y I C=>(z.2 x y I C).trans (vw a t x y).symm⟩
  have J:V b.n u _:=⟨A.1,λx y I C=>(A.2 x y I C).trans (vw b t x y).symm⟩
  rw [P.en]at J
  rw [P.ew]at e2
  refine⟨v,u,⟨K,J⟩,?_⟩
  rw [Gb (d:=bE) rfl _ _ _ rfl]
  simp only [bE,aV]
  have i0:c5 (.v (bX a b)) (.v (.int 0)) h=k0 a.aT:=rfl
  have i1:c5 (.v (bX a b)) (.v (.int 1)) h=k0 b.aT:=rfl
  refine fx (by simp_all [aa,jf];rfl) ?_
  rw [qa (w:= .v (bb v u)) (h1:=h) ((Zr (h1:=h) (ql (s:=zh) _ rfl)).trans ?_),Ga _ _ _ rfl]
  refine(za (by simp_all [aa,xf];rfl)).trans ?_
  exact qa (Ja rfl (by simp_all [i0,i1,e1,e2]))
 | same=>
  intro m f wf
  obtain⟨k,rfl⟩: ∃k,m=k+6:=⟨m-6,by simp [Ex.dp]at f;lia⟩
  exact leaf .same wg k _ rfl rfl rfl V.leaf.1 V.leaf.1 λl=>Et k a.n l h n4
 | all=>
  intro m f wf
  obtain⟨k,rfl⟩: ∃k,m=k+6:=⟨m-6,by simp [Ex.dp]at f;lia⟩
  exact leaf .all Zp k _ rfl rfl rfl V.leaf.2.1 V.leaf.2.1 λl=>Hd k a.n l h n4
 | none=>
  intro m f wf
  obtain⟨k,rfl⟩: ∃k,m=k+6:=⟨m-6,by simp [Ex.dp]at f;lia⟩
  exact leaf .none Xh k _ rfl rfl rfl V.leaf.2.2 V.leaf.2.2 λl=>AL k a.n l h
 | turned c F=>
  intro m f wf
  simp only [Ex.dp]at f
  obtain⟨k,rfl⟩:=nk m 6 (by lia)
  obtain⟨v,u,q,e1⟩:=F (k+5) (by lia) wf
  exact⟨_,_,⟨q.lo.turned,q.hi.turned⟩,QD (ps:= [(v,u)]) rfl rfl (by simp) (uL X6 (ww e1)) (jI k a.n v h n4) (jI k a.n u h n4)⟩
 | closed c F=>
  intro m f wf
  simp only [Ex.dp]at f
  obtain⟨k,rfl⟩:=nk m 6 (by lia)
  obtain⟨v,u,q,e1⟩:=F (k+5) (by lia) wf
  obtain⟨r,M,L⟩:=JJ k a.n v h n4 q.lo.1
  obtain⟨Q,D,H⟩:=JJ k a.n u h n4 q.hi.1
  exact⟨_,_,⟨q.lo.closed M,q.hi.closed D⟩,QD (ps:= [(v,u)]) rfl rfl (by simp) (uL X6 (ww e1)) L H⟩
 | plus c d i g=>
  intro m f wf
  simp only [Ex.dp]at f
  obtain⟨k,rfl⟩:=nk m 6 (by lia)
  obtain⟨v,u,q,e1⟩:=i (k+5) (by lia) wf.1
  obtain⟨o,p,n,j⟩:=g (k+5) (by lia) wf.2
  exact⟨_,_,⟨q.lo.plus n.lo,q.hi.plus n.hi⟩,QD (ps:= [(v,u),(o,p)]) rfl rfl (by simp) (qZ X6 (ww e1) (ww j)) (ZY k a.n v o h) (ZY k a.n u p h)⟩
 | less c d i g=>
  intro m f wf
  simp only [Ex.dp]at f
  obtain⟨k,rfl⟩:=nk m 6 (by lia)
  obtain⟨v,u,q,e1⟩:=i (k+5) (by lia) wf.1
  obtain⟨o,p,n,j⟩:=g (k+5) (by lia) wf.2
  exact⟨_,_,⟨q.lo.less n.hi,q.hi.less n.lo⟩,E1 (qZ X6 (ww e1) (ww j))⟩
 | both c d i g=>
  intro m f wf
  simp only [Ex.dp]at f
  obtain⟨k,rfl⟩:=nk m 6 (by lia)
  obtain⟨v,u,q,e1⟩:=i (k+5) (by lia) wf.1
  obtain⟨o,p,n,j⟩:=g (k+5) (by lia) wf.2
  exact⟨_,_,⟨q.lo.both n.lo,q.hi.both n.hi⟩,QD (ps:= [(v,u),(o,p)]) rfl rfl (by simp) (qZ X6 (ww e1) (ww j)) (XW k a.n v o h) (XW k a.n u p h)⟩
 | joined c d i g=>
  intro m f wf
  simp only [Ex.dp]at f
  obtain⟨k,rfl⟩:=nk m 6 (by lia)
  obtain⟨v,u,q,e1⟩:=i (k+5) (by lia) wf.1
  obtain⟨o,p,n,j⟩:=g (k+5) (by lia) wf.2
  exact⟨_,_,⟨q.lo.joined n.lo,q.hi.joined n.hi⟩,QD (ps:= [(v,u),(o,p)]) rfl rfl (by simp) (qZ X6 (ww e1) (ww j)) (xM k a.n v o h n4) (xM k a.n u p h n4)⟩
def q9 (P:Pt a b) (h) (f) (m) (c:f.dp+7<=m) (wf:f.wf (a.K++a.T)): ∃r,gq a b f r/\call prog (m+1) "fact_told" [.v a.words,.v (bX a b),.v (dm f)] h= .ok (.v (aF r)) h:=by
 have n4:=P.pI.wl.n4
 obtain⟨k,rfl⟩:=nk m 3 (by lia)
 cases f with
 | dD x y=>
  simp [Fc.dp]at c
  obtain⟨d,l,g,i⟩:=Wp P h x (k+3) (by lia) wf.1
  obtain⟨v,u,q,e⟩:=Wp P h y (k+3) (by lia) wf.2
  exact⟨_,⟨d,l,v,u,g,q,rfl⟩,Cr n4 e i⟩
 | d6 x y=>
  simp [Fc.dp]at c
  obtain⟨d,l,g,i⟩:=Wp P h x (k+3) (by lia) wf.1
  obtain⟨v,u,q,e⟩:=Wp P h y (k+3) (by lia) wf.2
  exact⟨_,⟨d,l,v,u,g,q,rfl⟩,Cz n4 e i⟩
 | d5 x=>
  obtain⟨v,u,q,e⟩:=Wp P h x _ c wf
  exact⟨_,⟨v,u,q,rfl⟩,MG n4 e⟩
 | au x=>
  obtain⟨v,u,q,e⟩:=Wp P h x _ c wf
  exact⟨_,⟨v,u,q,rfl⟩,EG n4 e⟩
 | cnt s j x=>
  obtain⟨v,u,q,e⟩:=Wp P h x _ c wf.2
  exact⟨_,⟨v,u,q,rfl⟩,Lx n4 e wf.1⟩
abbrev rM (a b:Wo) (d:D) (s:Tx):Sl:= [sv a.words,sv (bX a b),sv d,k0 (.s s)]
section
variable {m k:Nat}{a b:Wo}{h:AH}{x y:D}{r q:Option Bool}
def JH (z:execs (k8 m) (match cx.body with | .cons _ r=>r | r=>r) (rM a b (.tup (.str s::ds)) s) h= .ret (.v d) h):call prog (m+1) "told" [.v a.words,.v (bX a b),.t (.str s::ds)] h= .ok (.v d) h:=by
 rw [Gb rfl _ _ _ rfl]
 simp only [cx]at z ⊢
 rw [za (τ1:=rM a b (.tup (.str s::ds)) s) (h1:=h) (by simp_all [aa,jf]),z,Ga _ _ _ rfl]
def BG (c:call prog (k+2) "told" [.v a.words,.v (bX a b),.v x] h= .ok (.v (aF r)) h):call prog (k+3) "told" [.v a.words,.v (bX a b),.t [.str WJ,x]] h= .ok (.v (aF (r.map (!·)))) h:=by
 refine JH ?_
 simp only [cx]
 rw [zf (ql (s:=WJ) _ rfl) (Ja rfl (by simp_all [aa,Wr,c,MH];rfl))]
def Ey (d:call prog (k+2) "told" [.v a.words,.v (bX a b),.v x] h= .ok (.v (aF r)) h) (c:call prog (k+2) "told" [.v a.words,.v (bX a b),.v y] h= .ok (.v (aF q)) h):call prog (k+3) "told" [.v a.words,.v (bX a b),.t [.str wx,x,y]] h= .ok (.v (aF (j7 r q))) h:=by
 refine JH ?_
 simp only [cx]
 rw [xa (ql (s:=wx) _ rfl),zf (ql (s:=wx) _ rfl) (Ja rfl (by simp_all [aa,Wr,QG,d,c,QP];rfl))]
def CF (d:call prog (k+2) "told" [.v a.words,.v (bX a b),.v x] h= .ok (.v (aF r)) h) (c:call prog (k+2) "told" [.v a.words,.v (bX a b),.v y] h= .ok (.v (aF q)) h):call prog (k+3) "told" [.v a.words,.v (bX a b),.t [.str zB,x,y]] h= .ok (.v (aF (fq r q))) h:=by
 refine JH ?_
 simp only [cx]
 rw [xa (ql (s:=zB) _ rfl),xa (ql (s:=zB) _ rfl),zf (ql (s:=zB) _ rfl) (Ja rfl (by simp_all [aa,Wr,QG,d,c,LY];rfl))]
def MY (wf:f.wf N) (e:call prog m "fact_told" [.v a.words,.v (bX a b),.v (dm f)] h= .ok (.v (aF r)) h):call prog (m+1) "told" [.v a.words,.v (bX a b),.v (dm f)] h= .ok (.v (aF r)) h:=by
 obtain⟨s,j,i,g,d,c⟩:=DE f wf
 rw [i]at e ⊢
 refine JH ?_
 simp only [cx]
 rw [xa ((ql _ rfl).trans (by rw [g])),xa ((ql _ rfl).trans (by rw [d])),xa ((ql _ rfl).trans (by rw [c])),qa (Ja rfl (by assumption))]
end
def Dl (P:Pt a b) (h): ∀ s m,s.dp+9<=m->s.wf (a.K++a.T)-> ∃r,Td a b s r/\call prog m "told" [.v a.words,.v (bX a b),.v (az s)] h= .ok (.v (aF r)) h:=by
 intro s
 induction s with
 | fact f=>
  intro m c wf
  simp [Sy.dp]at c
  obtain⟨k,rfl⟩:=nk m 2 (by lia)
  obtain⟨r,t,e⟩:=q9 P h f k (by lia) wf
  exact⟨r,t,MY wf e⟩
 | neg x l=>
  intro m c wf
  simp [Sy.dp]at c
  obtain⟨k,rfl⟩:=nk m 3 (by lia)
  obtain⟨r,t,e⟩:=l (k+2) (by lia) wf
  exact⟨_,⟨r,t,rfl⟩,BG e⟩
 | bP x y d g=>
  intro m c wf
  simp [Sy.dp]at c
  obtain⟨k,rfl⟩:=nk m 3 (by lia)
  obtain⟨r,t,e⟩:=d (k+2) (by lia) wf.1
  obtain⟨q,i,j⟩:=g (k+2) (by lia) wf.2
  exact⟨_,⟨r,q,t,i,rfl⟩,Ey e j⟩
 | bO x y d g=>
  intro m c wf
  simp [Sy.dp]at c
  obtain⟨k,rfl⟩:=nk m 3 (by lia)
  obtain⟨r,t,e⟩:=d (k+2) (by lia) wf.1
  obtain⟨q,i,j⟩:=g (k+2) (by lia) wf.2
  exact⟨_,⟨r,q,t,i,rfl⟩,CF e j⟩
mutual
theorem As: ∀ {d:D},Gd d=u0->cy d d=u0
 | .au,_=>rfl
 | .bl b,_=>by simp
 | .int i,_=>by simp
 | .str s,_=>by simp
 | .tup xs,h=>by
  rw [cy];exact GJ (by simpa [Gd]using h)
 | .lst xs,h=>by
  rw [cy];exact GJ (by simpa [Gd]using h)
 | .ref _,h=>by simp at h
theorem GJ: ∀ {xs:List D},Gc xs=u0->GL xs xs=u0
 | [],_=>rfl
 | x::xs,h=>by
  have h':Gd x=u0/\Gc xs=true:=by simpa [Gc]using h
  rw [GL,As h'.1,GJ h'.2];rfl
end
mutual
theorem wW {h:AH}: ∀ {d:D},Gd d=u0->res h d=d
 | .au,_=>rfl
 | .bl b,_=>rfl
 | .int i,_=>rfl
 | .str s,_=>rfl
 | .tup xs,q=>by
  rw [res,GN (by simpa [Gd]using q)]
 | .lst xs,q=>by
  rw [res,GN (by simpa [Gd]using q)]
 | .ref _,q=>by simp at q
theorem GN {h:AH}: ∀ {xs:List D},Gc xs=u0->GQ h xs=xs
 | [],_=>rfl
 | x::xs,q=>by
  have h':Gd x=u0/\Gc xs=true:=by simpa [Gc]using q
  rw [GQ,wW h'.1,GN h'.2]
end
theorem xl (f) (a: ∀x,Gd (f x)=u0): ∀l:List α,Gc (l.map f)=u0
 | []=>rfl
 | x::l=>by simp [a x,xl f a l]
theorem Qz (f) (k) (a: ∀x,dep (f x)<=k): ∀l:List α,GG (l.map f)<=k
 | []=>Ae6 _
 | x::l=>by
  have c:=a x
  have b:=Qz f k a l
  exact Nat.max_le.mpr ⟨c,b⟩
def xR (d) (a:Gd d=u0) (b:dep d<150) (h):Gq .ne (.v d) (.v d) h=k0 false:=by
 show(if G6 (res h d) (res h d)then k0 (!cy (res h d) (res h d))else y0)=_
 rw [wW a,if_pos (by simp_all),As a];rfl
def X0 (g f) (l:List α) (e:Gk F it τ h= .ok (l.map g) h) (k:l.length<=1000) (b: ∀x∈l,∃w,eval F elt (sv (g x)::aB.map λj=>Gi τ j) h= .ok w h/\w.d=k0 (f x)):eval F (.comp [0] u0 1 aB it k9 (.bl u0) elt) τ h= .ok (.own (l.map f)) h:=by
 rw [eval,e,R.ae,if_pos (by rw [Gg,Aa];lia)]
 have d: ∀ step (l:List α),(∀ x∈l,step (g x) h= .ok (k0 (f x)) h)->Gy step (l.map g) h= .ok (l.map f) h:=λstep l=>by
  induction l with
  | nil=>intro _;rfl
  | cons x l c=>
   intro a
   rw [Ab1,Gy,a x Aa5]
   simp [c λy i=>a y (Aa2 _ i),Ab1]
 rw [d _ l λx a=> ?_]
 .rfl
 .obtain⟨w,e1,e2⟩:=b x a
  show(eval F elt (sv _::aB.map λj=>Gi τ j) h).bind _=_
  rw [e1]
  simp [e2,R.ao]
def Xs:D->Bool
 | .int _=>u0
 | _=>k9
def Qt (d:D) (e:Int):Bool:=match d with
 | .int i=>u9 (0<=i)&&u9 (i<e)
 | _=>k9
def xE (k) (d) (h) (a:Gd d=u0):call prog (k+1) "is_whole" [.v d] h= .ok (.b (Xs d)) h:=by
 cases d<;>first | exact Ga _ _ _ rfl | cases a
def QC (k) (d) (e) (h) (b:Gd d=u0):call prog (k+2) "is_below" [.v d,.v (.int e)] h= .ok (.b (Qt d e)) h:=by
 rw [Gb rfl _ _ _ rfl]
 have a:=xE k d h b
 cases d with
 | int i=>
  simp [a,ZC,Xs,Qt,Gi]
  by_cases c:0<=i<;>simp [c]
 | _=>first | (simp [a,ZC,Xs,Qt,Gi]) | (simp at b)
def m1 (l):Gc (aA l)=true:=xl _ (λ_=>rfl) l
def B4 (l):GG (aA l)<=0:=Qz _ 0 (λ_=>Aa9 _) l
def BJ (k) (d) (h) (c:Gd d=u0):call prog (k+3) "is_size" [.v d] h= .ok (.b (Qt d 5)) h:=by
 rw [Gb rfl _ _ _ rfl]
 have a:prog.con.lookup "GREATEST_SIZE" =some _:=rfl
 have b:(4:Int)+1=5:=rfl
 simp only [jX]
 simp_all [a,Jc,b,(QC k d 5 h c)]
def yF (k) (d) (h) (c:Gd d=u0) (b:Qt d 5=u0):call prog (k+4) "check_size" [.v d] h= .ok (.v .au) h:=by
 rw [Gb rfl _ _ _ rfl]
 have a:=BJ k d h c
 rw [b]at a
 simp only [WF]
 rw [xa (by simp_all [a])]
 simp_all []
def cd:List (Nat×Nat)->Nat
 | []=>0
 | q::r=>q.2+2 ^ q.1*cd r
def dg:List Nat->Nat->List Nat
 | [],_=> []
 | w::a,c=>c % 2 ^ w::dg a (c / 2 ^ w)
def cR (n K T:Nat):List Nat:=Ab K n++Ab T (n*n)
structure Wl (n:Nat) (ks ts:List Nat):Prop where
 n4:n<=4
 k4:ks.length<=4
 t4:ts.length<=4
 bk: ∀x∈ks,x<2 ^ n
 bt: ∀x∈ts,x<2 ^ (n*n)
def l4 (n K T):(cR n K T).length=K+T:=by simp [cR]
abbrev mr (A B:List D):D:= .tup [.tup A,.tup B]
def By (n K T):aA (cR n K T)=Ab K (.n n)++Ab T (.n (n*n)):=by simp [cR]
theorem wE (x): ∀m,(Ab m x).sum=m*x
 | 0=>by simp
 | m+1=>by rw [Af2,Am9,wE x m,Nat.succ_mul,Ap4]
def ng (n K T):(cR n K T).sum=K*n+T*(n*n):=by rw [cR,List.sum_append,wE,wE]
theorem yI (h): ∀ ws c i x5,(∀ w∈ws,w<=16)->i.length+ws.length<=1000-> ∃j L,
 Gp (Gr [5] u0) (λτ h=>execs F xt τ h) (aA ws) [x0,x1,x2,k0 (.own (aA i)),si c,x5,x6] h= .next [x0,x1,x2,k0 (.own (aA (i++dg ws c))),j,L,x6] h
 | [],c,i,x5,_,_=>⟨si c,x5,by simp [dg]⟩
 | w::ws,c,i,x5,a,n=>by
  rw [Aa7]at n
  have d:=a w Aa5
  obtain⟨j,L,e⟩:=yI h ws (c / 2 ^ w) (i++ [c % 2 ^ w]) (si w) (λx m=>a x (Aa2 _ m)) (by simp;lia)
  refine⟨j,L,?_⟩
  have k:=el w (by lia)
  have p:0<2 ^ w:=Nat.pow_pos (by decide)
  have o:((2 ^ w:Nat))-1=((2 ^ w-1:Nat):Int):=by lia
  have b:=jd c (2 ^ w-1)
  rw [Af4]at b
  have g:=Zq c w
  have f:(aA i).length<bf:=by rw [Gg,Aa];lia
  have l:aA (i++ [c % 2 ^ w])=aA i++ [.n (c % 2 ^ w)]:=by simp
  rw [show aA (w::ws)= .n w::aA ws from rfl,zb rfl ?_,e,Ae]
  .rfl
  .rw [l]
   simp_all [xt,k,Wc,o,jc,b,f,if_true,g]
def rl (x) (m) (a:m<=1000) (h):GV .mul (.own [x]) (.i m) h= .ok (.own (Ab m x)) h:=by
 show Kw [x] m h=_
 have c: -1000<=(m:Int)/\(m:Int)<=1000/\ [x].length*(m:Int).toNat<=bf:=by rw [Gg,Ad5];simp;lia
 rw [Kw,if_pos c,Ad5,show(Ab m [x]).flatten=Ab m x by simp]
def rq (k n) (A B) (h) (d:n<=4) (b:A.length<=4) (c:B.length<=4):call prog (k+1) "widths" [.v (mr A B),.i n] h= .ok (.own (aA (cR n A.length B.length))) h:=by
 rw [Gb rfl _ _ _ rfl]
 have a:(Ab A.length (D.n n)).length+(Ab B.length (D.n (n*n))).length<=bf:=by rw [Gg];simp;lia
 rw [By]
 simp only [rQ]
 simp_all [aa,Qh,xf,Xc,(rl (.n n) A.length (by lia) h),(je n n (by lia)),(rl (.n (n*n)) B.length (by lia) h),Ff,a,if_true]
def uR (k n) (A B) (h) (c:n<=4) (a:A.length<=4) (b:B.length<=4):call prog (k+2) "bits" [.v (mr A B),.i n] h= .ok (.i ((cR n A.length B.length).sum)) h:=by
 rw [Gb rfl _ _ _ rfl]
 have d:(aA (cR n A.length B.length)).length<=bf:=by rw [Gg,Aa,l4];lia
 simp only [yw]
 simp_all [(rq k n A B h c a b),yX,d,if_true,JR]
theorem tj (n): ∀m,Aa3 (m*n)=(Aa3 m).flatMap λa=>(Aa3 n).map (a*n+ ·)
 | 0=>by simp
 | m+1=>by rw [jE,tj n m,An3,List.flatMap_append];simp
def HS (n t):Wf.aw n t=(Aa3 n).flatMap λa=>((Aa3 n).filter λb=>t.testBit (a*n+b)).map λb=>(a,b):=by
 unfold Wf.aw
 rw [tj n n,List.filter_flatMap,List.map_flatMap]
 rw [List.flatMap_def,List.flatMap_def]
 congr 1
 refine Ai1 λa d=> ?_
 rw [An5,Ad1]
 refine Ai1 λb c=> ?_
 have c:=Ab4.mp (Ai9.mp c).1
 show(_ / n,_ % n)=_
 rw [Wf.aD c,Wf.aH c]
def W4 (n t) (f) (z:α):(Wf.aw n t).foldl f z=(Aa3 n).foldl (λz a=>(Aa3 n).foldl (λz b=>if t.testBit (a*n+b)then f z (a,b)else z) z) z:=by
 rw [HS,List.foldl_flatMap]
 congr 1
 funext z a
 rw [List.foldl_map,List.foldl_filter]
def zev (e:Gi τ i=si n) (a:n<=1000000):Gs F (.aj (.var i)) τ h= .ok ((Aa3 n).map λi=> .n i) h:=jj (by rw [eval,e]) a
def tm {st:Nat->Option W->Option W->Option W->Sl}{f:Nat->Nat->Nat->Nat}(w:n<=1000)
 (m:b2= .a (.for [j] u0 (.aj .v0) b1)) (s: ∀t x y z,Gi (st t x y z) 0=si n)
 (v: ∀d t x y z,GB (st t x y z) i (.v d)=st t (sv d) y z) (A: ∀d t x y z,GB (st t x y z) j (.v d)=st t x (sv d) z)
 (q: ∀a b t z,a<n->b<n-> ∃L,execs F b1 (st t (si a) (si b) z) h= .next (st (f a b t) (si a) (si b) L) h):
 ∀(l:List Nat) t x y z,(∀ a∈l,a<n)-> ∃V M L,Gp (Gr [i] u0) (λτ h=>execs F b2 τ h) (l.map λa=>D.n a) (st t x y z) h= .next (st (l.foldl (λt a=>(Aa3 n).foldl (λt b=>f a b t) t) t) V M L) h:=by
 have dD: ∀ a,a<n-> ∀(l:List Nat) t y z,(∀ b∈l,b<n)-> ∃M L,Gp (Gr [j] u0) (λτ h=>execs F b1 τ h) (l.map λb=>D.n b) (st t (si a) y z) h= .next (st (l.foldl (λt b=>f a b t) t) (si a) M L) h:=by
  intro a u l
  induction l with
  | nil=>exact λt y z _=>⟨y,z,rfl⟩
  | cons b l o=>
   intro t y z g
   obtain⟨k,e1⟩:=q a b t z u (g b Aa5)
   obtain⟨M,L,e⟩:=o _ _ k λc p=>g c (Aa2 _ p)
   refine⟨M,L,?_⟩
   rw [Ab1,zb (by simp_all) e1,e]
   rfl
 intro l
 induction l with
 | nil=>exact λt x y z _=>⟨x,y,z,rfl⟩
 | cons a l o=>
  intro t x y z g
  obtain⟨r,k,e1⟩:=dD a (g a Aa5) _ t y z λb m=>Ab4.mp m
  obtain⟨V,M,L,e⟩:=o _ _ r k λc p=>g c (Aa2 _ p)
  refine⟨V,M,L,?_⟩
  rw [Ab1,zb (by rw [GD,v]) (by
   rw [m,execs,exec]
   rw [zev (s _ _ _ _) (by lia),R.ar,e1,O.bw,execs]),e]
  rfl
def nJ (o c):Gj .band ((o / 2 ^ c:Nat):Int) 1=k0 ((((o.testBit c).toNat:Nat)):Int):=by
 rw [jc,show 1=((1:Nat):Int)from rfl,jd,wR]
def t7 (x) (h):Gq .eq (.i (x.toNat)) (.v (.int 1)) h=k0 x:=by
 cases x<;>rfl
abbrev kU (n o p t:Nat) (x y z:Option W):Sl:= [si n,si o,si p,si t,x,y,z]
def J2 (k n o p) (h) (l:n<=20):call prog (k+1) "_law_joined" [.i n,.i o,.i p] h= .ok (.i (Wf.joinM n o p)) h:=by
 rw [Gb rfl _ _ _ rfl]
 have step: ∀a b t z,a<n->b<n-> ∃g,execs (k8 k) Xi (kU n o p t (si a) (si b) z) h= .next (kU n o p (if o.testBit (a*n+b)then t ||| Wf.cq n p b*2 ^ (a*n)else t) (si a) (si b) g) h:=by
  intro a b t z f y
  have j:Gj .mul (a:Int) (n:Int)=k0 _:=je a n (by lia)
  have c:Gj .mul (b:Int) (n:Int)=k0 _:=je b n (by lia)
  have v:(p / 2 ^ (b*n) &&& (2 ^ n-1))=Wf.cq n p b:=by rw [Af4];rfl
  have s:a*n<=400:=Ab5 (Af5 (Ag1 f) (Aa9 n)) (xj l)
  have d:((2 ^ n:Nat):Int)-1=((2 ^ n-1:Nat):Int):=by
   have:=Ad4 n
   lia
  have m:Gm (k8 k) (.cmp .eq (.bin .band (.bin .shr .v1 (.bin .add (.bin .mul .v4 .v0) .v5)) (.int 1)) (.int 1)) (kU n o p t (si a) (si b) z) h= .ok (o.testBit (a*n+b)) h:=by
   have r:(((a*n:Nat):Int)+(b:Int))=((a*n+b:Nat):Int):=rfl
   simp_all [j,Jc,r,Zq,nJ,t7]
  cases q:o.testBit (a*n+b)with
  | false=>
   refine⟨z,?_⟩
   unfold Xi
   rw [xa (by rw [m,q]),execs]
   rfl
  | true=>
   refine⟨si (Wf.cq n p b),?_⟩
   unfold Xi
   rw [execs,Zr (by rw [m,q])]
   simp_all [j,c,Zq,(el n (by lia)),Wc,d,jc,jd,v,(ZS _ (a*n) (Ab3 (Wf.cZ n p b) (Ab5 (Ad0 (by decide) l) (by decide))) (by lia)),xo,wn,if_true]
 obtain⟨x,u,g,e⟩:=tm (i:=4) (b2:=xw) (by lia) rfl (λ_ _ _ _=>rfl) (λ_ _ _ _ _=>rfl) (λ_ _ _ _ _=>rfl) step _ 0 y0 y0 y0 λa f=>Ab4.mp f
 simp only [ZF]
 rw [za (τ1:=kU n o p 0 y0 y0 y0) rfl]
 rw [za (τ1:=kU n o p (Wf.joinM n o p) x u g) (h1:=h) (by
  rw [exec,zev (n:=n) rfl (by lia),R.ar,e]
  rw [Wf.joinM,W4])]
 rw [qa (w:= .i (Wf.joinM n o p)) (h1:=h) rfl,Ga _ _ _ rfl]
abbrev kL (n o t:Nat) (x y:Option W):Sl:= [si n,si o,si t,x,y]
def tQ (k n o) (h) (v:n<=20):call prog (k+1) "_law_turned" [.i n,.i o] h= .ok (.i (Wf.bG n o)) h:=by
 rw [Gb (d:=qs) rfl _ _ _ rfl]
 have step: ∀a b t (z:Option W),a<n->b<n-> ∃u:Option W,execs (k8 k) jp (kL n o t (si a) (si b)) h= .next (kL n o (if o.testBit (a*n+b)then t ||| 2 ^ (b*n+a)else t) (si a) (si b)) h:=by
  intro a b t z f A
  refine⟨y0,?_⟩
  have m:Gj .mul (a:Int) (n:Int)=k0 _:=je a n (by lia)
  have c:Gj .mul (b:Int) (n:Int)=k0 _:=je b n (by lia)
  have p:b*n+a<=400:=Ab5 (Ag1 (Wf.place_lt A f)) (xj v)
  have s:(((b*n:Nat):Int)+(a:Int))=((b*n+a:Nat):Int):=rfl
  have g:Gm (k8 k) (.cmp .eq (.bin .band (.bin .shr .v1 (.bin .add (.bin .mul .v3 .v0) .v4)) (.int 1)) (.int 1)) (kL n o t (si a) (si b)) h= .ok (o.testBit (a*n+b)) h:=by
   have l:(((a*n:Nat):Int)+(b:Int))=((a*n+b:Nat):Int):=rfl
   simp_all [m,Jc,l,Zq,nJ,t7]
  unfold jp
  cases q:o.testBit (a*n+b)with
  | false=>
   rw [xa (by rw [g,q]),execs]
   rfl
  | true=>
   rw [execs,Zr (h1:=h) (by rw [g,q])]
   simp_all [c,Jc,s,(el (b*n+a) (by lia)),xo,wn,if_true]
 obtain⟨B,r,u,e⟩:=tm (st:=λt x y _=>kL n o t x y) (i:=3) (j:=4) (b2:=Jw) (by lia) rfl (λ_ _ _ _=>rfl) (λ_ _ _ _ _=>rfl) (λ_ _ _ _ _=>rfl) step _ 0 y0 y0 y0 λa f=>Ab4.mp f
 simp only [qs]
 rw [za (τ1:=kL n o 0 y0 y0) (h1:=h) rfl]
 rw [za (τ1:=kL n o (Wf.bG n o) B r) (h1:=h) (by
  rw [exec,zev (n:=n) rfl (by lia),R.ar,e]
  rw [Wf.bG,Wf.cO,Wf.lx,List.foldl_map,W4])]
 rw [qa (w:= .i (Wf.bG n o)) (h1:=h) rfl,Ga _ _ _ rfl]
def cL (n t:Nat):Nat->Nat
 | 0=>t
 | i+1=>cL n t i ||| Wf.joinM n (cL n t i) t
theorem m8 : ∀ {l:List Nat},(∀ x∈l,p x=u0->q x=u0)->(∃ x∈l,q x=u0/\p x=k9)->(l.filter p).length<(l.filter q).length
 | [],_,h=>by obtain⟨x,a,_⟩:=h;cases a
 | y::l,h,j=>by
  have le: ∀l:List Nat,(∀ x∈l,p x=u0->q x=u0)->(l.filter p).length<=(l.filter q).length:=by
   intro l
   induction l with
   | nil=>exact λ_=>Aa9 _
   | cons z l b=>
    intro d
    have f:=b λx a=>d x (Aa2 _ a)
    have i:=d z Aa5
    rw [Al5,Al5]
    cases e1:p z with
    | true=>rw [i e1,if_pos rfl,if_pos rfl,Aa7,Aa7];lia
    | false=>
     rw [if_neg Ac3]
     cases q z with
     | true=>rw [if_pos rfl,Aa7];lia
     | false=>rw [if_neg Ac3];exact f
  have k:=le l λx a=>h x (Aa2 _ a)
  have g:=h y Aa5
  obtain⟨x,a,c,e⟩:=j
  rw [Al5,Al5]
  rcases Ab8.mp a with rfl | a
  .rw [c,e,if_pos rfl,if_neg Ac3,Aa7];lia
  .have b:=m8 (λx a=>h x (Aa2 _ a)) ⟨x,a,c,e⟩
   cases e1:p y with
   | true=>rw [g e1,if_pos rfl,if_pos rfl,Aa7,Aa7];lia
   | false=>
    rw [if_neg Ac3]
    cases q y with
    | true=>rw [if_pos rfl,Aa7];lia
    | false=>rw [if_neg Ac3];exact b
section
variable {n t:Nat}
def Wu (e:a<n) (d:b<n):(cL n t (i+1)).testBit (a*n+b)=((cL n t i).testBit (a*n+b)||(Aa3 n).any λc=>(cL n t i).testBit (a*n+c)&&t.testBit (c*n+b)):=by
 rw [cL,Af,Wf.b9 (Wf.place_lt e d),Wf.cG d]
def kA (n t i a:Nat):Prop:= ∀b,b<n->(cL n t (i+1)).testBit (a*n+b)=(cL n t i).testBit (a*n+b)
def q5 (e:a<n) (h:kA n t i a):kA n t (i+1) a:=λb d=>by
 rw [Wu e d]
 cases q:(Aa3 n).any λc=>(cL n t _).testBit _&&t.testBit (c*n+b)with
 | false=>rw [Bool.or_false]
 | true=>
  rw [Bool.or_true,Wu e d,Ao5.mpr (.inr ?_)]
  rw [Ad2]at q ⊢
  obtain⟨c,f,z⟩:=q
  rw [h c (Ab4.mp f)]at z
  exact⟨c,f,z⟩
abbrev mF (n t i a:Nat):Nat:=((Aa3 n).filter λb=>(cL n t i).testBit (a*n+b)).length
def vm (d:a<n) (h: ¬kA n t i a):mF n t i a<mF n t (i+1) a:=by
 have h: ∃b,b<n/\(cL n t _).testBit _≠(cL n t i).testBit _:=Aj2 λz=>h λb c=>Aj2 λq=>z ⟨b,c,q⟩
 obtain⟨b,c,ne⟩:=h
 refine m8 (λx e z=>by rw [Wu d (Ab4.mp e),z,Am2]) ⟨b,Ab4.mpr c,?_⟩
 cases q:(cL n t i).testBit (a*n+b)with
 | false=>rw [q]at ne;exact⟨by simpa using ne,rfl⟩
 | true=>exact absurd (by rw [Wu d c,q,Am2]) ne
theorem vc (b:a<n): ∀i,kA n t i a\/i<=mF n t i a
 | 0=> .inr (Ae6 _)
 | i+1=>(vc b i).elim (λz=> .inl (q5 b z)) λz=>by
  by_cases q:kA n t i a
  .exact .inl (q5 b q)
  .have:=vm b q
   exact .inr (by lia)
def Hf (b:a<n):kA n t n a:=(vc b n).elim id λz=>Aj2 λq=>by
 have d:=vm b q
 have c:mF n t (n+1) a<=n:=Ab5 (Aj0 _ _) (by simp)
 lia
theorem J9: ∀(i a b),a<n->b<n->(cL n t i).testBit (a*n+b)=u0->Wf.TC n t a b
 | 0,a,b,e,d,z=> .step e d z
 | i+1,a,b,e,d,z=>by
  rw [Wu e d,Ae8,Ad2]at z
  rcases z with z | ⟨c,f,z⟩
  .exact J9 i a b e d z
  .rw [Aa1]at z
   have f:=Ab4.mp f
   exact .more (J9 i a c e f z.1) f d z.2
theorem yE: ∀(i k),t.testBit k=u0->(cL n t i).testBit k=u0
 | 0,_,z=>z
 | i+1,k,z=>by rw [cL,Af,yE i k z,Am2]
theorem sZ (a:t<2 ^ (n*n)): ∀i,cL n t i<2 ^ (n*n)
 | 0=>a
 | i+1=>Ak9 (sZ a i) (Wf.dc _ _ _)
def tZ (j:t<2 ^ (n*n)):Wf.fe n t (cL n t n):=⟨sZ j n,λa b f h=>⟨J9 n a b f h,λg=>by
 induction g with
 | step e d c=>exact yE n _ c
 | more g e d c i=>
  rw [← Hf f _ d,Wu f d,Ao5,Ad2]
  exact .inr ⟨_,Ab4.mpr e,by rw [i e,c];rfl⟩⟩⟩
end
abbrev mB (n t r:Nat) (x:Option W):Sl:= [si n,si t,si r,x]
theorem JO (k n t) (a:n<=20) (h): ∀ m i x,∃L,Gp (Gr [3] u0) (λτ h=>execs (k8 (k+1)) Zo τ h) ((Aa3 m).map λj=>D.n (i+j)) (mB n t (cL n t i) x) h= .next (mB n t (cL n t (i+m)) L) h
 | 0,i,x=>⟨x,rfl⟩
 | m+1,i,x=>by
  obtain⟨L,e⟩:=JO k n t a h m (i+1) (si (i))
  refine⟨L,?_⟩
  rw [Ah3,Ab1,Ad1,zb (τ1:=mB n t (cL n t i) (si (i))) rfl (by
   unfold Zo
   rw [za (τ1:=mB n t (cL n t (i+1)) (si (i))) (by simp_all [J2 k n (cL n t i) t h a,wn];rfl),execs])]
  have:((λj=>D.n (i+j))∘Nat.succ)=λj=>D.n (i+1+j):=by
   funext j
   show D.n (i+(j+1))=_
   rw [show i+(j+1)=i+1+j by lia]
  rw [this,e,show i+1+m=i+(m+1)by lia]
def ym (k n t) (h) (a:n<=20):call prog (k+2) "_law_closed" [.i n,.i t] h= .ok (.i (cL n t n)) h:=by
 rw [Gb rfl _ _ _ rfl]
 obtain⟨b,e⟩:=JO k n t a h n 0 y0
 simp [Ak0]at e
 simp only [xG]
 rw [za rfl]
 rw [za (by rw [exec,zev rfl (by lia),R.ar];exact e)]
 rw [qa rfl,Ga _ _ _ rfl]
def Hl (a b:Nat):Kz (a:Int) (b:Int)=k0 ((a ^^^ b:Nat):Int):=rfl
def uw (k n) (h) (l:n<=4):call prog (k+1) "_law_same" [.i n] h= .ok (.i (Wf.bD n)) h:=by
 rw [Gb rfl _ _ _ rfl]
 have e:eval (k8 k) Jt [si n] h= .ok (.own (aA ((Aa3 n).map λa=>2 ^ (a*n+a)))) h:=by
  unfold Jt
  rw [Zn (λa=> .n _) rfl (by lia) λa c=>⟨.i _,?_,rfl⟩]
  .rw [aA,Ad1];rfl
  .have f:=je a n (by lia)
   have j:=el (a*n+a) (by have:=Wf.place_lt c c;have:=xj (show n<=20 by lia);lia)
   have d:(((a*n:Nat):Int)+(a:Int))=((a*n+a:Nat):Int):=rfl
   simp_all [f,Jc,d,j]
 have g:((Aa3 n).map λa=>2 ^ (a*n+a)).sum=Wf.bD n:=by
  have:n=0\/n=1\/n=2\/n=3\/n=4:=by lia
  rcases this with rfl | rfl | rfl | rfl | rfl<;>decide +kernel
 have i:dw .sum [.own (aA ((Aa3 n).map λa=>2 ^ (a*n+a)))] h= .ok (.i (Wf.bD n)) h:=by
  show(R.of h ((k0 (aA ((Aa3 n).map λa=>2 ^ (a*n+a)))).bind λb=>if b.length<=bf then Kk b else y0)).bind _=_
  rw [Ag2,if_pos (by rw [Gg,aA,Aa,Aa,Af3];lia),JR,g]
  rfl
 simp only [qQ]
 rw [qa (w:= .i (Wf.bD n)) (h1:=h) (Ja rfl (by simp_all [e,i])),Ga _ _ _ rfl]
def JN (k n s t) (h) (a:n<=20):(call prog (k+2) "_law_two" [.s qF,.i n,.i s,.i t] h= .ok (.i (s ||| t)) h ∧
 call prog (k+2) "_law_two" [.s Xz,.i n,.i s,.i t] h= .ok (.i (s &&& t)) h) ∧
 call prog (k+2) "_law_two" [.s Zh,.i n,.i s,.i t] h= .ok (.i (Wf.joinM n s t)) h:=by
 refine⟨⟨?_,?_⟩,?_⟩
 all_goals
  rw [Gb rfl _ _ _ rfl]
  simp only [ZZ]
 .show Gw _ (execs _ _ [k0 _,si n,si s,si t] h)=_
  rw [zf (w:= .i (s ||| t)) (ql (s:=qF) _ rfl) (Ja rfl (by simp_all [xo,wn])),Ga _ _ _ rfl]
 .show Gw _ (execs _ _ [k0 _,si n,si s,si t] h)=_
  rw [xa (ql (s:=Xz) _ rfl),zf (w:= .i (s &&& t)) (ql (s:=Xz) _ rfl) (Ja rfl (by simp_all [jc,jd])),Ga _ _ _ rfl]
 .show Gw _ (execs _ _ [k0 _,si n,si s,si t] h)=_
  rw [xa (ql (s:=Zh) _ rfl),xa (ql (s:=Zh) _ rfl),qa (w:= .i (Wf.joinM n s t)) (h1:=h) (Ja rfl (by simp_all [J2 k n s t h a])),Ga _ _ _ rfl]
def V.gY (h:V n s g) (q:V n t f):V n (s &&& ((2 ^ (n*n)-1) ^^^ t)) λa b=>g a b&& !f a b:=⟨Ah6 Nat.and_le_left h.1,λa b j d=>by
 have k:=q.2 a b j d
 rw [Ah2,Nat.testBit_xor,Ag3,decide_eq_true (Wf.place_lt j d),Bool.true_xor,Aa1,Aa1,(h.2 a b j d)]
 constructor
 .rintro ⟨i,c⟩
  refine⟨i,?_⟩
  cases e:f a b with
  | false=>rfl
  | true=>rw [k.mpr e]at c;cases c
 .rintro ⟨i,c⟩
  refine⟨i,?_⟩
  cases e:t.testBit (a*n+b)with
  | false=>rfl
  | true=>rw [k.mp e]at c;cases c⟩
def aM (N:List Tx) (f:Tx->Nat×Nat):List (Tx×D):=N.map λt=>(t,bb (f t).1 (f t).2)
theorem oW : ∀ {N},t∈N->(aM N f).lookup t=k0 (bb (f t).1 (f t).2)
 | y::N,h=>by
  show Aj t ((y,_)::aM N f)=_
  rw [Ab7]
  by_cases e:t=y
  .subst e;rw [beq_self_eq_true]
  .rw [beq_eq_false_iff_ne.mpr e]
   exact oW ((Ab8.mp h).resolve_left e)
structure Dc (a b:Wo) (f:Tx->Nat×Nat) (r:Nat) (h:AH):Prop where
 ad:h[r]? =k0 (.aN (aM (a.K++a.T) f))
 n4:a.n<=4
 lo: ∀t∈a.K++a.T,V a.n (f t).1 (bh a t)
 hi: ∀t∈a.K++a.T,V a.n (f t).2 (bh b t)
noncomputable abbrev iQ (n r:Nat) (d:D) (s:Tx) (x5 a x7 x8 x9:Option W):Sl:= [si n,k0 (.r r),sv d,k0 (.s s),si (2 ^ (n*n)-1),x5,a,x7,x8,x9]
def JV (s) (a:List Tx) (h):Gq .mem (.s s) (.own (a.map .str)) h=k0 (u9 (s∈a)):=xz s a (.own _) h rfl
section
variable {m n r:Nat}{h:AH}
def wU (d:n<=4) (z:execs (k8 m) (match ay.body with | .cons _ (.cons _ r)=>r | r=>r) (iQ n r (.tup (.str s::ds)) s y0 y0 y0 y0 y0) h= .ret w h) (c:Gw h.length (.ret w h)= .ok w h):call prog (m+1) "_law_bounds" [.i n,.r r,.t (.str s::ds)] h= .ok w h:=by
 rw [Gb rfl _ _ _ rfl]
 simp only [ay]at z ⊢
 have b:=el (n*n) (by have:=xj (show n<=20 by lia);lia)
 have a:((2 ^ (n*n):Nat):Int)-1=((2 ^ (n*n)-1:Nat):Int):=by
  have:=Ad4 (n*n)
  lia
 refine fx (by simp_all [aa,jf];rfl) ?_
 rw [za (τ1:=iQ n r (.tup (.str s::ds)) s y0 y0 y0 y0 y0) (h1:=h) (by simp_all [(je n n (by lia)),b,Wc,a]),z]
 exact c
def MV (a:n<=4) (e:h[r]? =k0 (.aN kvs)) (l:kvs.lookup t=k0 d):call prog (m+1) "_law_bounds" [.i n,.r r,.t [.str zh,.str t]] h= .ok (.v d) h:=by
 refine wU a ?_ (Ga _ _ _ rfl)
 simp only [ay]
 have dd:GU h (k0 (.r r))=k0 (r,kvs):=by unfold GU;simp [e]
 have dg:eU (.s t) (k0 (r,kvs)) h=ag d h:=by unfold eU;simp [l]
 rw [zf (w:= .v d) (ql (s:=zh) _ rfl) (Ja rfl (by simp_all [dd,aa,xf,dg]))]
def pC (e:n<=4) (f:(s==zh)=k9) (g:s∈ [wg,Zp,Xh]) (a:List.lookup s [(wg,Wf.bD n),(Zp,2 ^ (n*n)-1),(Xh,0)]=k0 v):call prog (m+2) "_law_bounds" [.i n,.r r,.t [.str s]] h= .ok (.v (bb v v)) h:=by
 refine wU e ?_ (Ga _ _ _ rfl)
 simp only [ay]
 have j:Gm (k8 (m+1)) (.cmp .mem .v3 (.lst (.c (.str wg) (.str Zp) (.str Xh)))) (iQ n r (.tup [.str s]) s y0 y0 y0 y0 y0) h= .ok u0 h:=by
  have:=JV s [wg,Zp,Xh] h
  simp only [Ab1,Af0]at this
  simp_all [this,decide_eq_true g]
 have i:fT [(wg,.i (Wf.bD n)),(Zp,.i (2 ^ (n*n)-1)),(Xh,.v (.int 0))] (k0 (.s s)) h= .ok (.i v) h:=by
  unfold fT
  simp only [Ab7,List.lookup_nil]at a ⊢
  cases b:s==wg with
  | true=>rw [b]at a;cases a;rfl
  | false=>
   rw [b]at a
   cases d:s==Zp with
   | true=>rw [d]at a;cases a;rfl
   | false=>
    rw [d]at a
    cases c:s==Xh with
    | true=>rw [c]at a;cases a;rfl
    | false=>rw [c]at a;cases a
 rw [xa ((ql _ rfl).trans (by rw [f]))]
 rw [qa]
 refine(Zr j).trans ?_
 refine(za (by simp_all [uw m n h e,i];rfl)).trans ?_
 rw [qa (w:= .v (bb v v)) (h1:=h) (Ja rfl (by simp_all []))]
def pX (a:aQ (.str s::ds) i=k0 d) (e:call prog m "_law_bounds" [.i n,.r r,.v d] h= .ok (.v (bb v u)) h):eval (k8 m) (.call "_law_bounds" (.c .v0 .v1 (.ix .v2 (.int i)))) (iQ n r (.tup (.str s::ds)) s x5 x6 x7 x8 x9) h= .ok (.v (bb v u)) h:=by
 simp_all [aa,a,e]
def oU (g:n<=4) (a:(s==zh)=k9) (b:s∉ [wg,Zp,Xh]) (e:call prog m "_law_bounds" [.i n,.r r,.v d] h= .ok (.v (bb v u)) h)
 (z:execs (k8 m) (match ay.body with | .cons _ (.cons _ (.cons _ (.cons _ (.cons _ r))))=>r | r=>r) (iQ n r (.tup (.str s::d::ds)) s y0 (si v) (si u) y0 y0) h= .ret w h) (f:Gw h.length (.ret w h)= .ok w h):call prog (m+1) "_law_bounds" [.i n,.r r,.t (.str s::d::ds)] h= .ok w h:=by
 refine wU g ?_ f
 simp only [ay]at z ⊢
 have c:Gm (k8 m) (.cmp .mem .v3 (.lst (.c (.str wg) (.str Zp) (.str Xh)))) (iQ n r (.tup (.str s::d::ds)) s y0 y0 y0 y0 y0) h= .ok k9 h:=by
  have:=JV s [wg,Zp,Xh] h
  simp only [Ab1,Af0]at this
  simp_all [this,decide_eq_false b]
 rw [xa ((ql _ rfl).trans (by rw [a])),xa c]
 refine(za (by rw [exec,pX (Wr _ _ _) e,R.ar];rfl)).trans ?_
 exact z
def BR (a:n<=4) (e:call prog (m+1) "_law_bounds" [.i n,.r r,.v d] h= .ok (.v (bb v u)) h):call prog (m+2) "_law_bounds" [.i n,.r r,.t [.str zj,d]] h= .ok (.v (bb (Wf.bG n v) (Wf.bG n u))) h:=by
 refine oU a rfl (by decide) e ?_ (Ga _ _ _ rfl)
 simp only [ay]
 rw [zf (w:= .v (bb (Wf.bG n v) (Wf.bG n u))) (ql (s:=zj) _ rfl) (Ja rfl (by simp_all [tQ m n v h (by lia),tQ m n u h (by lia)]))]
def Dx (a:n<=4) (e:call prog (m+2) "_law_bounds" [.i n,.r r,.v d] h= .ok (.v (bb v u)) h):call prog (m+3) "_law_bounds" [.i n,.r r,.t [.str Ji,d]] h= .ok (.v (bb (cL n v n) (cL n u n))) h:=by
 refine oU a rfl (by decide) e ?_ (Ga _ _ _ rfl)
 simp only [ay]
 rw [xa (ql (s:=Ji) _ rfl),zf (w:= .v (bb (cL n v n) (cL n u n))) (ql (s:=Ji) _ rfl) (Ja rfl (by simp_all [ym m n v h (by lia),ym m n u h (by lia)]))]
def vz (i:n<=4) (a:(s==zh)=k9) (b:s∉ [wg,Zp,Xh]) (h1:(s==zj)=k9) (c:(s==Ji)=k9) (e:call prog m "_law_bounds" [.i n,.r r,.v d] h= .ok (.v (bb v u)) h) (g:call prog m "_law_bounds" [.i n,.r r,.v d'] h= .ok (.v (bb v' u')) h)
 (z:execs (k8 m) (match ay.body with | .cons _ (.cons _ (.cons _ (.cons _ (.cons _ (.cons _ (.cons _ (.cons _ r)))))))=>r | r=>r) (iQ n r (.tup [.str s,d,d']) s y0 (si v) (si u) (si v') (si u')) h= .ret w h) (f:Gw h.length (.ret w h)= .ok w h):call prog (m+1) "_law_bounds" [.i n,.r r,.t [.str s,d,d']] h= .ok w h:=by
 refine oU i a b e ?_ f
 simp only [ay]at z ⊢
 rw [xa ((ql _ rfl).trans (by rw [h1])),xa ((ql _ rfl).trans (by rw [c]))]
 refine(za (by rw [exec,pX (QG _ _ _) g,R.ar];rfl)).trans ?_
 exact z
def II (c:n<=4) (e:call prog m "_law_bounds" [.i n,.r r,.v d] h= .ok (.v (bb v u)) h) (b:call prog m "_law_bounds" [.i n,.r r,.v d'] h= .ok (.v (bb v' u')) h):call prog (m+1) "_law_bounds" [.i n,.r r,.t [.str jr,d,d']] h= .ok (.v (bb (v &&& ((2 ^ (n*n)-1) ^^^ u')) (u &&& ((2 ^ (n*n)-1) ^^^ v')))) h:=by
 refine vz c rfl (by decide) rfl rfl e b ?_ (Ga _ _ _ rfl)
 simp only [ay]
 have a: ∀i j:Int,Gj .bxor i j=Kz i j:=λ_ _=>rfl
 rw [zf (w:= .v (bb (v &&& ((2 ^ (n*n)-1) ^^^ u')) (u &&& ((2 ^ (n*n)-1) ^^^ v')))) (ql (s:=jr) _ rfl) (Ja rfl (by simp_all [a,Hl,jc,jd]))]
def o2 (k:n<=4) (a:(s==zh)=k9) (c:s∉ [wg,Zp,Xh]) (h1:(s==zj)=k9) (g:(s==Ji)=k9) (b:(s==jr)=k9) (e:call prog m "_law_bounds" [.i n,.r r,.v d] h= .ok (.v (bb v u)) h) (i:call prog m "_law_bounds" [.i n,.r r,.v d'] h= .ok (.v (bb v' u')) h)
 (j:call prog m "_law_two" [.s s,.i n,.i v,.i v'] h= .ok (.i x) h) (f:call prog m "_law_two" [.s s,.i n,.i u,.i u'] h= .ok (.i y) h):call prog (m+1) "_law_bounds" [.i n,.r r,.t [.str s,d,d']] h= .ok (.v (bb x y)) h:=by
 refine vz k a c h1 g e i ?_ (Ga _ _ _ rfl)
 simp only [ay]
 rw [xa ((ql _ rfl).trans (by rw [b])),qa (w:= .v (bb x y)) (h1:=h) (Ja rfl (by simp_all [j,f]))]
end
def Zm (P:Dc a b f r h): ∀ e m,e.dp+4<=m->e.wf (a.K++a.T)-> ∃v u,B a b e v u/\call prog m "_law_bounds" [.i a.n,.r r,.v (aV e)] h= .ok (.v (bb v u)) h:=by
 have n4:=P.n4
 intro e
 induction e with
 | name t=>
  intro m g wf
  obtain⟨k,rfl⟩:=nk m 1 (by lia)
  exact⟨_,_,⟨P.lo t wf,P.hi t wf⟩,MV n4 P.ad (oW wf)⟩
 | same=>
  intro m g wf
  obtain⟨k,rfl⟩:=nk m 2 (by lia)
  exact⟨_,_,⟨V.leaf.1,V.leaf.1⟩,pC n4 rfl (by decide) rfl⟩
 | all=>
  intro m g wf
  obtain⟨k,rfl⟩:=nk m 2 (by lia)
  exact⟨_,_,⟨V.leaf.2.1,V.leaf.2.1⟩,pC n4 rfl (by decide) rfl⟩
 | none=>
  intro m g wf
  obtain⟨k,rfl⟩:=nk m 2 (by lia)
  exact⟨_,_,⟨V.leaf.2.2,V.leaf.2.2⟩,pC n4 rfl (by decide) rfl⟩
 | turned c s=>
  intro m g wf
  simp only [Ex.dp]at g
  obtain⟨k,rfl⟩:=nk m 2 (by lia)
  obtain⟨v,u,q,e1⟩:=s (k+1) (by lia) wf
  exact⟨_,_,⟨q.lo.turned,q.hi.turned⟩,BR n4 e1⟩
 | closed c s=>
  intro m g wf
  simp only [Ex.dp]at g
  obtain⟨k,rfl⟩:=nk m 3 (by lia)
  obtain⟨v,u,q,e1⟩:=s (k+2) (by lia) wf
  exact⟨_,_,⟨q.lo.closed (tZ q.lo.1),q.hi.closed (tZ q.hi.1)⟩,Dx n4 e1⟩
 | plus c d j i=>
  intro m g wf
  simp only [Ex.dp]at g
  obtain⟨k,rfl⟩:=nk m 3 (by lia)
  obtain⟨v,u,q,e1⟩:=j (k+2) (by lia) wf.1
  obtain⟨o,p,n,l⟩:=i (k+2) (by lia) wf.2
  exact⟨_,_,⟨q.lo.plus n.lo,q.hi.plus n.hi⟩,o2 n4 rfl (by decide) rfl rfl rfl e1 l (JN k a.n v o h (by lia)).1.1 (JN k a.n u p h (by lia)).1.1⟩
 | less c d j i=>
  intro m g wf
  simp only [Ex.dp]at g
  obtain⟨k,rfl⟩:=nk m 3 (by lia)
  obtain⟨v,u,q,e1⟩:=j (k+2) (by lia) wf.1
  obtain⟨o,p,n,l⟩:=i (k+2) (by lia) wf.2
  exact⟨_,_,⟨q.lo.gY n.hi,q.hi.gY n.lo⟩,II n4 e1 l⟩
 | both c d j i=>
  intro m g wf
  simp only [Ex.dp]at g
  obtain⟨k,rfl⟩:=nk m 3 (by lia)
  obtain⟨v,u,q,e1⟩:=j (k+2) (by lia) wf.1
  obtain⟨o,p,n,l⟩:=i (k+2) (by lia) wf.2
  exact⟨_,_,⟨q.lo.both n.lo,q.hi.both n.hi⟩,o2 n4 rfl (by decide) rfl rfl rfl e1 l (JN k a.n v o h (by lia)).1.2 (JN k a.n u p h (by lia)).1.2⟩
 | joined c d j i=>
  intro m g wf
  simp only [Ex.dp]at g
  obtain⟨k,rfl⟩:=nk m 3 (by lia)
  obtain⟨v,u,q,e1⟩:=j (k+2) (by lia) wf.1
  obtain⟨o,p,n,l⟩:=i (k+2) (by lia) wf.2
  exact⟨_,_,⟨q.lo.joined n.lo,q.hi.joined n.hi⟩,o2 n4 rfl (by decide) rfl rfl rfl e1 l (JN k a.n v o h (by lia)).2 (JN k a.n u p h (by lia)).2⟩
def kB:Nat->Nat->Nat
 | 0,_=>0
 | L+1,v=>v % 2+kB L (v / 2)
theorem nT: ∀(L v),kB L v=((Aa3 L).filter v.testBit).length
 | 0,_=>rfl
 | L+1,v=>by
  rw [kB,nT L,Ah3,Al5,An5]
  have e:(v.testBit∘Nat.succ)=(v / 2).testBit:=by
   funext i
   exact Nat.testBit_succ v i
  rw [e]
  by_cases q:v % 2=1
  .rw [if_pos (by rw [Nat.testBit_zero,decide_eq_true q]),Aa7,Aa,q];lia
  .rw [if_neg (by rw [Nat.testBit_zero,decide_eq_false q];exact Ac3),Aa];lia
abbrev lE (v a:Nat):Sl:= [si v,si a]
theorem ya (h): ∀ L f v a,v<2 ^ L->L<f->GI (λτ h=>Gm F jo τ h) (λτ h=>execs F jn τ h) f (lE v a) h= .next (lE 0 (a+kB L v)) h
 | L,0,v,a,_,b=>absurd b (Ag7 _)
 | L,f+1,v,a,c,b=>by
  have i:Gm F jo (lE v a) h= .ok (u9 (0<v)) h:=by
   have:Gq .gt (.i v) (.v (.int 0)) h=k0 (u9 (0<v)):=by
    show k0 (u9 (0<(v:Int)))=_
    congr 1
    exact decide_eq_decide.mpr (by lia)
   unfold jo
   simp_all [this]
  rw [GI,i,R.ar]
  by_cases q:0<v
  .cases L with
   | zero=>simp at c;lia
   | succ L=>
    have d:execs F jn (lE v a) h= .next (lE (v / 2) (a+v % 2)) h:=by
     have e:Gj .mod v 2=k0 ((v % 2:Nat):Int):=nI v 2 (by decide)
     have g:Gj .fdiv v 2=k0 ((v / 2:Nat):Int):=DG v 2 (by decide) (by decide)
     unfold jn
     simp_all [e,g,Cg]
    rw [decide_eq_true q]
    simp only [d]
    rw [ya h L f (v / 2) (a+v % 2) (by rw [Nat.pow_succ]at c;lia) (by lia),kB,Nat.add_assoc]
  .have v0:v=0:=by lia
   subst v0
   have z:kB L 0=0:=by rw [nT];simp
   rw [decide_eq_false q,z]
   rfl
def qS (k L v) (h) (b:L<=16) (a:v<2 ^ L):call prog (k+1) "_law_many" [.i v] h= .ok (.v (.int ((((List.range L).filter v.testBit).length:Nat):Int))) h:=by
 rw [Gb rfl _ _ _ rfl]
 simp only [xQ]
 rw [za rfl]
 rw [za (by rw [exec];exact ya h L 100000 v 0 a (by lia))]
 rw [qa rfl,Ga _ _ _ rfl,Ak0,nT]
def J6 {F:Fx}{e:E}{τ:Sl}{h:AH}{b:Bool}(q:eval F e τ h= .ok (.b b) h):eval F (.ix (.lst (.b .au (.bl k9))) (.bi .int (.cons e .nil))) τ h= .ok (.v (aF (qR k9 b))) h:=by
 have e1:eval F (.bi .int (.cons e .nil)) τ h= .ok (.i b.toNat) h:=by
  rw [eval,Gf,q];rfl
 rw [eval,show eval F _ τ h= .ok _ h from rfl,R.ae,e1,R.ae,JP]
 cases b<;>rfl
def mI {F:Fx}{τ:Sl}{i j:Nat}{ps:List (Nat×Nat)}{h:AH}{o:Cp}(p:Nat->Bool) (k:ps.length<=4) (c:Gk F (.seq .v2) τ h= .ok (ps.map pD) h) (b:Gi τ 1=si j) (e:i=0\/i=1) (a: ∀x:Nat,Gq o (.i x) (.i j) h=k0 (p x)):
 eval F (.comp [0,1] k9 2 [1] (.seq .v2) k9 (.bl u0) (.cmp o (.var i) .v2)) τ h= .ok (.own ((ps.map λq=>p (if i=0 then q.1 else q.2)).map .bl)) h:=by
 rw [wm (h:=h) (ds:=ps.map pD) (λd=>match d with | .tup [.int x,.int y]=> .bl (p (if i=0 then x.toNat else y.toNat)) | d=>d) c (by rw [Gg,Aa];lia)]
 .simp [Function.comp_def,pD]
 .intro g f
  obtain⟨q,_,rfl⟩:=Ab6.mp f
  refine⟨[si (q.1),si (q.2),si j],?_,?_⟩
  .rw [Ab1,Af0,b];rfl
  .obtain rfl | rfl:=e
   .exact⟨.b (p q.1),by simp_all [a],by simp [pD]⟩
   .exact⟨.b (p q.2),by simp_all [a],by simp [pD]⟩
def nK {F:Fx}{e:E}{a:Ss}{b:Ss}{τ:Sl}{h:AH}{x y:Bool}(c:eval F e τ h= .ok (.b x) h) (z:execs F b τ h= .ret (.v (aF (qR k9 y))) h):execs F (.cons (.r e (.bl u0)) b) τ h= .ret (.v (aF (qR x y))) h:=by
 have t:Gm F e τ h= .ok x h:=by rw [Gm,c,R.ae];rfl
 cases x with
 | true=>exact qa ((Zr t).trans (qa rfl))
 | false=>rw [xa t];exact z
def HH (k j:Nat) (up:Bool){w:W}{ps:List (Nat×Nat)}(h:AH) (e:ps.length<=4) (c: ∀a b:Option W,Gk (k8 k) (.seq .v2) [a,b,k0 w] h= .ok (ps.map pD) h):
 call prog (k+1) "_law_ruled" [.b up,.i j,w] h= .ok (.v (aF (if up then qR ((ps.map (·.1)).all fun x=>decide (j<=x)) ((ps.map (·.2)).any fun x=>decide (x<j))else qR ((ps.map (·.2)).all fun x=>decide (x<=j)) ((ps.map (·.1)).any fun x=>decide (j<x))))) h:=by
 rw [Gb (d:=Wx) rfl _ _ _ rfl]
 show Gw _ (execs _ _ [k0 _,si j,k0 w] h)=_
 simp only [Wx,wA,qz,qA,Zy]
 have g:=qv (mI (F:=(k8 k)) (τ:= [k0 (.b up),si j,k0 w]) (i:=0) (λx=>decide _) e (c _ _) rfl (.inl rfl) (λx=>tM j x h))
 have f:=zH (mI (F:=(k8 k)) (τ:= [k0 (.b up),si j,k0 w]) (i:=1) (λx=>decide _) e (c _ _) rfl (.inr rfl) (λx=>me j x h))
 have e2:=qv (mI (F:=(k8 k)) (τ:= [k0 (.b up),si j,k0 w]) (i:=1) (λx=>u9 (x<=j)) e (c _ _) rfl (.inr rfl) (λx=>t5 j x h))
 have e1:=zH (mI (F:=(k8 k)) (τ:= [k0 (.b up),si j,k0 w]) (i:=0) (λx=>u9 (j<x)) e (c _ _) rfl (.inl rfl) (λx=>gA j x h))
 rw [oQ]at g e2
 rw [nA]at f e1
 rw [An6,Ap2,An6,Ap2]
 cases up with
 | true=>
  rw [qa (w:= .v _) (h1:=h) ((Zr (h1:=h) rfl).trans (nK (a:= .nil) g (qa (Ja rfl (J6 f))))),Ga _ _ _ rfl]
  rfl
 | false=>
  rw [xa rfl,nK (a:= .nil) e2 (qa (Ja rfl (J6 e1))),Ga _ _ _ rfl]
  rfl
def p9 (u v):u9 (u &&& v=u)=u9 (u-(u &&& v)=0):=by
 have:= @Nat.and_le_left u v
 exact decide_eq_decide.mpr (by lia)
def yp (i j) (h):Gq .ne (.i i) (.i j) h=k0 (!u9 (i=j)):=by
 have this:=Xm i j h
 exact congrArg (Option.map (!·)) this
def HL (k v u v' u') (h):call prog (k+1) "_law_within" [.v (bb v u),.v (bb v' u')] h= .ok (.v (aF (dq v u v' u'))) h:=by
 rw [Gb rfl _ _ _ rfl]
 simp only [ZG]
 rw [nK (a:= .nil) (x:=u9 (u &&& v'=u)) (y:= !u9 (v &&& u'=v)) (by simp_all [aa,Qh,xf,jc,jd,Xm]) (qa (Ja rfl (J6 (by simp_all [aa,Qh,xf,jc,jd,yp])))),Ga _ _ _ rfl,dq,p9,p9]
abbrev lO (n r:Nat) (d:D) (s:Tx) (a x5 b x7:Option W):Sl:= [si n,k0 (.r r),sv d,k0 (.s s),a,x5,b,x7]
def rk (n v a):((Aa3 n).filter (v / 2 ^ (a*n) &&& (2 ^ n-1)).testBit).length=eR n (tb n v) a:=by
 rw [Jv,eR]
 congr 1
 refine Ai1 λb c=> ?_
 rw [Af4,Ah,decide_eq_true (Ab4.mp c),Ae5,Ah0,Ap4]
section
variable {m n r:Nat}{h:AH}
def pG (B:n<=4) (I:s∈ [Za,zc,xb,Qi]) (E:v<2 ^ (n*n)) (F:u<2 ^ (n*n)) (e:call prog (m+1) "_law_bounds" [.i n,.r r,.v x] h= .ok (.v (bb v u)) h):
 execs (k8 (m+1)) (match bp.body with | .cons _ (.cons _ r)=>r | r=>r) (lO n r (.tup [.str s,.n j,x]) s y0 y0 y0 y0) h= .ret (.v (aF (JM s j (zl n v s) (zl n u s)))) h:=by
 have i:n*n<=16:=Af5 B B
 simp only [bp]
 refine(za (by rw [exec];simp_all [aa,QG,e];rfl)).trans ?_
 have y:Gm (k8 (m+1)) (.or (.cmp .eq .v3 (.str Za)) (.cmp .eq .v3 (.str zc))) (lO n r (.tup [.str s,.n j,x]) s (si v) (si u) y0 y0) h= .ok (s==Za||s==zc) h:=by
  rw [Gm,kf (a:=s==Za) (b:=s==zc) (by simp_all [Xa]) (by simp_all [Xa]),R.ae];rfl
 have g: ∀(w:W) (p:List (Nat×Nat)) (X:Tx),p.length<=4->(∀ a b:Option W,Gk (k8 m) (.seq .v2) [a,b,k0 w] h= .ok (p.map pD) h)->call prog _ "_law_ruled" [.b _,.i j,w] h= .ok _ h:=fun w p X d G=>HH m j (s==X) h d G
 have up:(s∈ [Za,xb])↔(s==Za)=u0\/(s==xb)=true:=by simp
 by_cases c:(s==Za||s==zc)=u0
 .have f:s∈ [Za,zc]:=by simpa using c
  have ne:(s==xb)=false:=by
   have: ∀s∈ [Za,zc],(s==xb)=false:=by decide
   exact this s f
  have k:=g (.bor [bb (ZD n v).sum (ZD n u).sum]) [((ZD n v).sum,(ZD n u).sum)] Za (by simp) (λa b=>rfl)
  have l:call prog (m+1) "_law_many" [.i v] h= .ok (.i ((ZD n v).sum)) h:=by rw [qS m _ v h i E,jH n v n,ZD]
  have t:call prog (m+1) "_law_many" [.i u] h= .ok (.i ((ZD n u).sum)) h:=by rw [qS m _ u h i F,jH n u n,ZD]
  rw [qa (w:= .v (aF (JM s j (zl n v s) (zl n u s)))) (h1:=h)]
  refine(Zr (h1:=h) (by rw [y,c])).trans (qa (Ja rfl ?_))
  rw [JM,zl,zl,if_pos f,if_pos f]
  simp_all [Xa,aa,Wr,l,t,k]
  have iff:(s∈ [Za,xb])↔(s==Za)=true:=up.trans (by rw [ne];simp)
  by_cases q:s∈ [Za,xb]
  .rw [if_pos q,if_pos (iff.mp q)]
  .rw [if_neg q,if_neg λz=>q (iff.mpr z)]
 .have o:(s==Za||s==zc)=false:=by simpa using c
  have f:s∉ [Za,zc]:=by simpa using c
  have ne:(s==Za)=false:=by
   rw [Bool.or_eq_false_iff]at o
   exact o.1
  rw [xa (by rw [y,o])]
  have H:=el n (by lia)
  have d:((2 ^ n:Nat):Int)-1=((2 ^ n-1:Nat):Int):=by
   have:=Ad4 n
   lia
  refine(za (by simp_all [H,Wc,d];rfl)).trans ?_
  have D:eval (k8 (m+1)) wt (lO n r (.tup [.str s,.n j,x]) s (si v) (si u) (si (2 ^ n-1)) y0) h= .ok (.own (((ZD n v).zip (ZD n u)).map pD)) h:=by
   unfold wt
   rw [Zn (n:=n) (λa=>bb (eR n (tb n v) a) (eR n (tb n u) a)) rfl (by lia) λa J=>⟨.v _,?_,rfl⟩]
   .rw [ZD,ZD,List.zip_map',Ad1];rfl
   .have C:Gj .mul (a:Int) (n:Int)=k0 _:=je a n (by lia)
    have lt: ∀w:Nat,(w / 2 ^ (a*n) &&& (2 ^ n-1))<2 ^ n:=λw=>by rw [Af4];exact Aj5 _ (Ad4 n)
    have l:call prog (m+1) "_law_many" [.i (v / 2 ^ (a*n) &&& (2 ^ n-1))] h= .ok (.i (eR n (tb n v) a)) h:=by rw [qS m n _ h (by lia) (lt v),rk]
    have t:call prog (m+1) "_law_many" [.i (u / 2 ^ (a*n) &&& (2 ^ n-1))] h= .ok (.i (eR n (tb n u) a)) h:=by rw [qS m n _ h (by lia) (lt u),rk]
    simp_all [C,Zq,jc,jd,l,t]
  have A:(ZD n v).length=(ZD n u).length:=by simp [ZD]
  have k:=g (.l (((ZD n v).zip (ZD n u)).map pD)) ((ZD n v).zip (ZD n u)) xb (by rw [Al8];simp [ZD];lia) (λa b=>rfl)
  rw [List.map_fst_zip (Al1 A),List.map_snd_zip (Al1 A.symm)]at k
  refine(za (by rw [exec,D];rfl)).trans ?_
  rw [qa (w:= .v (aF (JM s j (zl n v s) (zl n u s)))) (h1:=h)]
  refine Ja rfl ?_
  rw [JM,zl,zl,if_neg f,if_neg f]
  simp_all [Xa,aa,Wr,k]
  have iff:(s∈ [Za,xb])↔(s==xb)=true:=up.trans (by rw [ne];simp)
  by_cases q:s∈ [Za,xb]
  .rw [if_pos q,if_pos (iff.mp q)]
  .rw [if_neg q,if_neg λz=>q (iff.mpr z)]
def Ig (i:n<=4) (c:s∈ [Za,zc,xb,Qi]) (f:v<2 ^ (n*n)) (g:u<2 ^ (n*n)) (e:call prog (m+1) "_law_bounds" [.i n,.r r,.v x] h= .ok (.v (bb v u)) h):call prog (m+2) "_law_fact" [.i n,.r r,.t [.str s,.n j,x]] h= .ok (.v (aF (JM s j (zl n v s) (zl n u s)))) h:=by
 have z:=pG (j:=j) i c f g e
 rw [Gb rfl _ _ _ rfl]
 simp only [bp]at z ⊢
 have d:=by
  have: ∀s∈ [Za,zc,xb,Qi],(s==Zk)=k9/\(s==wX)=false:=by decide
  exact this s c
 refine fx (by simp_all [jf];rfl) ?_
 rw [xa (by rw [Gm,kf (a:=s==Zk) (b:=s==wX) (by simp_all [Xa]) (by simp_all [Xa]),R.ae,d.1,d.2];rfl),z,Ga _ _ _ rfl]
def yz {b:Bool}(f:n<=4) (a:v<2 ^ (n*n)) (c:u<2 ^ (n*n)) (e:call prog (m+1) "_law_bounds" [.i n,.r r,.v x] h= .ok (.v (bb v u)) h):call prog (m+2) "_law_fact" [.i n,.r r,.t [.str (if b then Zk else wX),x]] h= .ok (.v (aF (JM (if b then Za else zc) b.toNat (zl n v (if b then Za else zc)) (zl n u (if b then Za else zc))))) h:=by
 cases b with
 | true=>
  have z:=pG (s:=Za) (j:=1) f (by decide) a c e
  rw [Gb rfl _ _ _ rfl]
  simp only [bp]at z ⊢
  refine fx (by simp_all [aa,jf];rfl) ?_
  rw [za (τ1:=lO n r (.tup [.str Za,.n (1),x]) Za y0 y0 y0 y0) rfl,z,Ga _ _ _ rfl]
  rfl
 | false=>
  have z:=pG (s:=zc) (j:=0) f (by decide) a c e
  rw [Gb (d:=bp) rfl _ _ _ rfl]
  simp only [bp]at z ⊢
  refine fx (by simp_all [aa,jf];rfl) ?_
  rw [za (τ1:=lO n r (.tup [.str zc,.n (0),x]) zc y0 y0 y0 y0) (h1:=h) rfl,z,Ga _ _ _ rfl]
  rfl
end
abbrev gC (n r:Nat) (d:D) (s:Tx) (a x5 b:Option W):Sl:= [si n,k0 (.r r),sv d,k0 (.s s),a,x5,b]
def Ew (b) (p q) (h):Gq .mem (.b b) (.l [aF p,aF q]) h=k0 (p==k0 b||q==k0 b):=by
 cases b<;>rcases p with _ | _ | _<;>rcases q with _ | _ | _<;>rfl
def Mq (p q) (h):Gq .mem (.v .au) (.l [aF p,aF q]) h=k0 (p==y0||q==y0):=by
 rcases p with _ | _ | _<;>rcases q with _ | _ | _<;>rfl
def Cu (b) (p q:Option Bool) (c:(p==k0 b||q==k0 b)=u0):k0 b=if b then fq p q else j7 p q:=by
 cases b<;>rcases p with _ | _ | _<;>rcases q with _ | _ | _<;>first | rfl | cases c
def Ez (b) (p q:Option Bool) (c:(p==k0 b||q==k0 b)=k9) (a:(p==y0||q==y0)=u0):y0=if b then fq p q else j7 p q:=by
 cases b<;>rcases p with _ | _ | _<;>rcases q with _ | _ | _<;>first | rfl | exact absurd c (by decide) | exact absurd a (by decide)
def AG (b) (p q) (a:(p==k0 b||q==k0 b)=k9) (c:(p==y0||q==y0)=k9):k0 (!b)=if b then fq p q else j7 p q:=by
 cases b<;>rcases p with _ | _ | _<;>rcases q with _ | _ | _<;>first | rfl | exact absurd a (by decide) | exact absurd c (by decide)
section
variable {m n r:Nat}{h:AH}
def jA (z:execs (k8 m) (match a9.body with | .cons _ r=>r | r=>r) (gC n r (.tup (.str s::ds)) s y0 y0 y0) h= .ret (.v d) h):call prog (m+1) "_law_told" [.i n,.r r,.t (.str s::ds)] h= .ok (.v d) h:=by
 rw [Gb rfl _ _ _ rfl]
 simp only [a9]at z ⊢
 rw [za (τ1:=gC n r (.tup (.str s::ds)) s y0 y0 y0) (h1:=h) (by simp_all [aa,jf]),z,Ga _ _ _ rfl]
def AJ (e:call prog m "_law_told" [.i n,.r r,.v x] h= .ok (.v (aF p)) h):call prog (m+1) "_law_told" [.i n,.r r,.t [.str WJ,x]] h= .ok (.v (aF (p.map (!·)))) h:=by
 refine jA ?_
 simp only [a9]
 rw [qa]
 refine(Zr (ql (s:=WJ) _ rfl)).trans ?_
 refine(za (by simp_all [aa,Wr,e];rfl)).trans ?_
 cases p with
 | none=>exact qa ((Zr rfl).trans (qa rfl))
 | some b=>
  rw [xa rfl]
  exact qa (Ja rfl (by simp_all [];rfl))
def Ma (b:call prog m "_law_told" [.i n,.r r,.v x] h= .ok (.v (aF p)) h) (a:call prog m "_law_told" [.i n,.r r,.v y] h= .ok (.v (aF q)) h):eval (k8 m) Qr (gC n r d s x4 (some (.l [x,y])) none) h= .ok (.own [aF p,aF q]) h:=by
 exact qZ rfl (by assumption) (by assumption)
def sh (f:call prog m "_law_told" [.i n,.r r,.v x] h= .ok (.v (aF p)) h) (g:call prog m "_law_told" [.i n,.r r,.v y] h= .ok (.v (aF q)) h):execs (k8 m) (.d (.af 6 Qr) (.r (.cmp .mem (.cmp .eq .v3 (.str zB)) .v6) (.cmp .eq .v3 (.str zB))) (.r (.cmp .mem .au .v6) .au) (.ret (.cmp .ne .v3 (.str zB)))) (gC n r d s none (some (.l [x,y])) none) h= .ret (.v (aF (if s==zB then fq p q else j7 p q))) h:=by
 rw [za (τ1:=gC n r d s y0 _ _) (by rw [exec,Ma f g];rfl)]
 have c:Gm (k8 m) (.cmp .mem (.cmp .eq .v3 (.str zB)) .v6) (gC n r d s y0 (k0 (.l [x,y])) (k0 (.l [aF p,aF q]))) h= .ok (p==k0 (s==zB)||q==k0 (s==zB)) h:=by
  simp_all [Xa,Ew]
 have e:Gm (k8 m) (.cmp .mem .au .v6) (gC n r d s y0 (k0 (.l [x,y])) (k0 (.l [aF p,aF q]))) h= .ok (p==y0||q==y0) h:=by
  simp_all [Mq]
 have ne:Gq .ne (.s s) (.s zB) h=k0 (!(s==zB)):=by
  have this:=Xa s zB h
  exact congrArg (Option.map (!·)) this
 cases a:(p==k0 _||q==k0 _)with
 | true=>
  rw [zf (w:= .b (s==zB)) (by rw [c,a]) (Ja rfl (by simp_all [Xa]))]
  rw [← Cu _ p q a]
  rfl
 | false=>
  rw [xa (by rw [c,a])]
  cases b:(p==y0||q==y0)with
  | true=>
   rw [zf (by rw [e,b]) rfl]
   rw [← Ez _ p q a b]
   rfl
  | false=>
   rw [xa (by rw [e,b]),qa (w:= .b (!(s==zB))) (h1:=h) (Ja rfl (by simp_all [ne]))]
   rw [← AG _ p q a b]
   rfl
def lU :Gm (k8 m) (.cmp .mem .v3 (.lst (.c (.str wx) (.str zB) (.str Xb)))) (gC n r d s y0 y0 y0) h= .ok (u9 (s∈ [wx,zB,Xb])) h:=by
 have:=JV s [wx,zB,Xb] h
 simp only [Ab1,Af0]at this
 simp_all [this]
def vD (e:(s==WJ)=k9) (a:s∈ [wx,zB,Xb]) (b:(s==Xb)=k9) (c:call prog m "_law_told" [.i n,.r r,.v x] h= .ok (.v (aF p)) h) (d:call prog m "_law_told" [.i n,.r r,.v y] h= .ok (.v (aF q)) h):call prog (m+1) "_law_told" [.i n,.r r,.t [.str s,x,y]] h= .ok (.v (aF (if s==zB then fq p q else j7 p q))) h:=by
 refine jA ?_
 simp only [a9]
 rw [xa ((ql _ rfl).trans (by rw [e])),qa]
 refine(Zr (by rw [lU,decide_eq_true a])).trans ?_
 refine(za (by simp_all [QG];rfl)).trans ?_
 rw [xa ((ql _ rfl).trans (by rw [b]))]
 exact sh c d
def K1 (b:call prog m "_law_told" [.i n,.r r,.t [.str wH,x,y]] h= .ok (.v (aF p)) h) (a:call prog m "_law_told" [.i n,.r r,.t [.str wH,y,x]] h= .ok (.v (aF q)) h):call prog (m+1) "_law_told" [.i n,.r r,.t [.str Xb,x,y]] h= .ok (.v (aF (j7 p q))) h:=by
 refine jA ?_
 simp only [a9]
 rw [xa (ql (s:=Xb) _ rfl),qa]
 refine(Zr (by rw [lU];rfl)).trans ?_
 refine(za (by simp_all [QG];rfl)).trans ?_
 rw [za ((Zr (ql (s:=Xb) _ rfl)).trans (by
  rw [za (τ1:=gC n r (.tup [.str Xb,x,y]) Xb y0 (k0 (.l [.tup [.str wH,x,y],.tup [.str wH,y,x]])) y0) (h1:=h) (by simp_all [aa,Wr,QG]),execs]))]
 exact sh b a
def nM (b:call prog (m+1) "_law_bounds" [.i n,.r r,.v x] h= .ok (.v (bb v u)) h) (a:call prog (m+1) "_law_bounds" [.i n,.r r,.v y] h= .ok (.v (bb v' u')) h):call prog (m+2) "_law_told" [.i n,.r r,.t [.str wH,x,y]] h= .ok (.v (aF (dq v u v' u'))) h:=by
 refine jA ?_
 simp only [a9]
 rw [xa (ql (s:=wH) _ rfl),xa (by rw [lU];rfl),zf (w:= .v (aF (dq v u v' u'))) (ql (s:=wH) _ rfl) (Ja rfl (by simp_all [aa,Wr,QG,b,a,HL]))]
def n3 (h1:(s==WJ)=k9) (a:s∉ [wx,zB,Xb]) (b:(s==wH)=k9) (e:call prog m "_law_fact" [.i n,.r r,.t (.str s::ds)] h= .ok (.v d) h):call prog (m+1) "_law_told" [.i n,.r r,.t (.str s::ds)] h= .ok (.v d) h:=by
 refine jA ?_
 simp only [a9]
 rw [xa ((ql _ rfl).trans (by rw [h1])),xa (by rw [lU,decide_eq_false a]),xa ((ql _ rfl).trans (by rw [b])),qa (w:= .v d) (h1:=h) (Ja rfl (by assumption))]
end
def rf (P:Dc a b f r h): ∀ s m,s.dp+8<=m->s.wf (a.K++a.T)-> ∃q,Td a b s q/\call prog m "_law_told" [.i a.n,.r r,.v (az s)] h= .ok (.v (aF q)) h:=by
 have n4:=P.n4
 intro s
 induction s with
 | fact f=>
  intro m c wf
  simp only [Sy.dp]at c
  cases f with
  | dD x y=>
   simp only [Fc.dp]at c
   obtain⟨k,rfl⟩:=nk m 2 (by lia)
   obtain⟨v,u,q,e⟩:=Zm P x (k+1) (by lia) wf.1
   obtain⟨l,w,o,d⟩:=Zm P y (k+1) (by lia) wf.2
   exact⟨_,⟨v,u,l,w,q,o,rfl⟩,nM e d⟩
  | d6 x y=>
   simp only [Fc.dp]at c
   obtain⟨k,rfl⟩:=nk m 3 (by lia)
   obtain⟨v,u,q,e⟩:=Zm P x (k+1) (by lia) wf.1
   obtain⟨l,w,o,d⟩:=Zm P y (k+1) (by lia) wf.2
   exact⟨_,⟨v,u,l,w,q,o,rfl⟩,K1 (nM e d) (nM d e)⟩
  | d5 x=>
   simp only [Fc.dp]at c
   obtain⟨k,rfl⟩:=nk m 3 (by lia)
   obtain⟨v,u,q,e⟩:=Zm P x (k+1) (by lia) wf
   exact⟨_,⟨v,u,q,rfl⟩,n3 rfl (by decide) rfl (yz (b:=u0) n4 q.lo.1 q.hi.1 e)⟩
  | au x=>
   simp only [Fc.dp]at c
   obtain⟨k,rfl⟩:=nk m 3 (by lia)
   obtain⟨v,u,q,e⟩:=Zm P x (k+1) (by lia) wf
   exact⟨_,⟨v,u,q,rfl⟩,n3 rfl (by decide) rfl (yz (b:=k9) n4 q.lo.1 q.hi.1 e)⟩
  | cnt s j x=>
   simp only [Fc.dp]at c
   obtain⟨k,rfl⟩:=nk m 3 (by lia)
   obtain⟨v,u,q,e⟩:=Zm P x (k+1) (by lia) wf.2
   have z: ∀s∈ [Za,zc,xb,Qi],(s==WJ)=k9/\s∉ [wx,zB,Xb]/\(s==wH)=false:=by decide
   obtain⟨B,D,A⟩:=z s wf.1
   exact⟨_,⟨v,u,q,rfl⟩,n3 B D A (Ig n4 wf.1 q.lo.1 q.hi.1 e)⟩
 | neg x C=>
  intro m c wf
  simp only [Sy.dp]at c
  obtain⟨k,rfl⟩:=nk m 1 (by lia)
  obtain⟨q,t,e⟩:=C k (by lia) wf
  exact⟨_,⟨q,t,rfl⟩,AJ e⟩
 | bP x y g i=>
  intro m c wf
  simp only [Sy.dp]at c
  obtain⟨k,rfl⟩:=nk m 1 (by lia)
  obtain⟨p,t,e⟩:=g k (by lia) wf.1
  obtain⟨q,n,d⟩:=i k (by lia) wf.2
  exact⟨_,⟨p,q,t,n,rfl⟩,vD (s:=wx) rfl (by decide) rfl e d⟩
 | bO x y g i=>
  intro m c wf
  simp only [Sy.dp]at c
  obtain⟨k,rfl⟩:=nk m 1 (by lia)
  obtain⟨p,t,e⟩:=g k (by lia) wf.1
  obtain⟨q,n,d⟩:=i k (by lia) wf.2
  exact⟨_,⟨p,q,t,n,rfl⟩,vD (s:=zB) rfl (by decide) rfl e d⟩
abbrev ah (ns:List Int) (i:Nat) (v:Int):Cell:= .lst [.lst (ns.map .int),.n i,.int v]
def ID:Gj .pow 10 18=k0 1000000000000000000:=by
 have:(0:Int)<=18/\ 18<=BP/\(10:Int).natAbs<kl:=by rw [Kc,GC];decide
 show(if _ then _ else _)=_
 rw [if_pos this]
 rfl
def MM (v)(e:eval F (.ix .v0 (.int 2)) τ h= .ok (.v (.int v)) h):Gm F (.not (.chain .le .lt (.int 0) (.ix .v0 (.int 2)) (.bin .pow (.int 10) (.int 18)))) τ h= .ok (!(u9 (0<=v)&&u9 (v<1000000000000000000))) h:=by
 rw [Gm,eval]
 rw [show eval F _ τ h= .ok (.b (u9 (0<=v)&&u9 (v<1000000000000000000))) h by
  rw [eval,eval,R.ae,e,R.ae]
  by_cases q: 0<=v
  .simp_all [Q1,XZ,ID,q,decide_true,Ae5]
  .simp_all [Q1,q,decide_false,Ae9]]
 simp_all []
def qh (k:Nat){ns:List Int}{i:Nat}{v:Int}{h:AH}{r m:Nat}(e:h[r]? =k0 (ah ns i v)) (C:0<m) (F:m<1073741824):
 ∃(d:Nat) (j:Int),d<m/\call prog (k+1) "_law_draw" [.r r,.i m] h= .ok (.i d) (h.set r (ah ns i j)):=by
 rw [Gb (d:=qC) rfl _ _ _ rfl]
 have a:(0:Int)<(m:Int):=by lia
 have A:r<h.length:=(Aa0.mp e).1
 have i2:eval (k8 k) (.ix .v0 (.int 2)) [k0 (.r r),si m,y0] h= .ok (.v (.int v)) h:=by simp_all [Zs e,kv]
 have o:=MM v i2
 show ∃d j,_/\Gw _ (execs _ _ [k0 (.r r),si m,y0] h)=_
 simp only [qC]
 have l: ∀x:Int,∃d:Nat,d<m/\x % (m:Int)=(d:Int):=λx=>⟨(x % (m:Int)).toNat,by have:=Ap x a;have:=An9 x (Int.ne_of_gt a);lia,by have:=An9 x (Int.ne_of_gt a);lia⟩
 cases c:(u9 (0<=v)&&u9 (v<1000000000000000000))with
 | false=>
  obtain⟨d,f,b⟩:=l v
  refine⟨d,v / (m:Int),f,?_⟩
  have y:dw .divmod [.v (.int v),.i m] h=ag (.tup [.int (v / (m:Int)),.n d]) h:=by
   rw [AD,if_pos ⟨a,by rw [GO];lia⟩,b]
  rw [qa (w:= .i d) (h1:=h.set r (ah ns i (v / (m:Int))))]
  .exact Ga _ h _ (by rw [Ae1])
  refine(Zr (h1:=h) (by rw [o,c];rfl)).trans ?_
  refine(za (by
   rw [exec,show eval (k8 k) (.bi .divmod (.b (.ix .v0 (.int 2)) .v1)) [k0 (.r r),si m,y0] h=ag (.tup [.int (v / (m:Int)),.n d]) h by simp_all [Zs e,kv,y]]
   simp_all [ag,gb,Kv,e,Fs,Km,if_true]
   rfl)).trans ?_
  exact qa rfl
 | true=>
  rw [Aa1,decide_eq_true_eq,decide_eq_true_eq]at c
  have q:Gj .mul v 742939=k0 _:=oX _ _ (by decide)
  have B:Gj .mul (i:Int) 65063=k0 _:=oX _ _ (by decide)
  have g:Gj .mod _ 16777213=k0 ((v*742939+(i:Int)*65063+40503) % 16777213):=xL _ _ (by decide)
  have s:=An9 (v*742939+(i:Int)*65063+40503) (show (16777213:Int)≠0 by decide)
  have t:=Ap (v*742939+(i:Int)*65063+40503) (show (0:Int)<16777213 by decide)
  generalize D:(v*742939+(i:Int)*65063+40503) % 16777213=w at g s t
  have i1:eval (k8 k) (.ix .v0 (.int 1)) [k0 (.r r),si m,y0] h= .ok (.i i) h:=by simp_all [Zs e,Q0]
  have e2:(h.set r (ah ns i w))[r]? =k0 (ah ns i w):=Ab9 A
  obtain⟨d,f,b⟩:=l (w*(w % 4093+7) / 64)
  refine⟨d,w,f,?_⟩
  rw [xa (by rw [o,decide_eq_true c.1,decide_eq_true c.2];rfl)]
  rw [za (τ1:= [k0 (.r r),si m,y0]) (h1:=h.set r (ah ns i w)) (WA (d:= .int w) (xs:= [.lst (ns.map .int),.n i,.int v]) (n:=2) (by
   simp_all [Zs e,Q0,kv,q,B,Jc,g]) rfl e rfl rfl rfl)]
  have G:=An9 w (show (4093:Int)≠0 by decide)
  have E:=Ap w (show (0:Int)<4093 by decide)
  have p:Gj .mod w 4093=k0 (w % 4093):=xL _ _ (by decide)
  have u:Gj .mul w (w % 4093+7)=k0 (w*(w % 4093+7)):=oX _ _ (by lia)
  have z:Gj .fdiv (w*(w % 4093+7)) 64=k0 (w*(w % 4093+7) / 64):=sQ _ _ (by decide) (by decide)
  have n4:Gj .mod (w*(w % 4093+7) / 64) (m:Int)=k0 ((d:Nat):Int):=by rw [xL _ _ a,b]
  rw [qa (w:= .i d) (h1:=h.set r (ah ns i w)) (Ja rfl (by simp_all [Zs e2,kv,p,Jc,u,z,n4]))]
  exact Ga _ h _ (by rw [Ae1])
def uY {ns:List Int}(b:ns.length<=63) (q:eval F e τ h= .ok (.l (ns.map .int)) h): ∃s,eval F (.bi .sum (.a (.fb e (.int j)))) τ h= .ok (.v (.int s)) h:=by
 have a:(cut ns y0 (k0 j)).length<=bf:=by
  have:=Br ns y0 (k0 j)
  rw [Gg];lia
 refine⟨(cut ns y0 (k0 j)).sum,?_⟩
 simp_all [q,uB,HZ,yX,Z0,Aa,a,if_true]
def DP (k) (ns:List Int) (a:ns.length<=63) (h): ∃v,call prog (k+1) "_law_start" [.l (ns.map .int)] h= .ok (.own [.lst (ns.map .int),.n (0),.int v]) h:=by
 show ∃v,Gw _ (execs _ _ [k0 _] h)=_
 obtain⟨s,e⟩:=uY (F:=(k8 k)) (e:= .var 0) (τ:= [k0 (.l (ns.map .int))]) (h:=h) (j:=1) a (by simp_all [])
 refine⟨s,?_⟩
 simp only [ZI]
 rw [qa (w:= .own [.lst (ns.map .int),.n (0),.int s]) (h1:=h) (QB rfl (by
  generalize E.bi _ _=X at e ⊢
  simp_all [e]
  rfl)),Gv _ _ _ rfl]
def yP (k)(m:ns.length<=63) (e:h[r]? =k0 (ah ns i v)):
 ∃v':Int,call prog (k+1) "_law_turn" [.r r] h= .ok (.v .au) (h.set r (ah ns (i+1) v')):=by
 rw [Gb rfl _ _ _ rfl]
 have f:r<h.length:=(Aa0.mp e).1
 have e1:(h.set r (ah ns (i+1) v))[r]? =k0 _:=Ab9 f
 show ∃v',Gw _ (execs _ _ [k0 _] h)=_
 simp only [ZN]
 obtain⟨s,c⟩:=uY (F:=(k8 k)) (e:= .ix .v0 (.int 0)) (τ:= [k0 (.r r)]) (h:=h.set r (ah ns (i+1) v)) m (by simp_all [Zs e1,kK])
 have l:Gj .mul 7 _=k0 (7*((i+1:Nat):Int)):=IA _ _ (by decide)
 have o: ∀x:Int,Gj .mod x 16777213=k0 _:=λx=>xL _ _ (by decide)
 have a: ∀x y,(h.set r (ah ns (i+1) x)).set r _=h.set r (ah ns (i+1) y):=λx y=>Ad8 ..
 have i1:((i:Int)+1)=((i+1:Nat):Int):=rfl
 generalize j:(7*((i+1:Nat):Int)+s) % 16777213=w
 have e2:(h.set r (ah ns (i+1) w))[r]? =k0 _:=Ab9 f
 rw [za (h1:=h.set r (ah ns (i+1) v)) (WA (d:= .n (i+1)) (xs:= [.lst (ns.map .int),.n i,.int v]) (n:=1) (by simp_all [Zs e,Q0,Jc,i1]) rfl e rfl rfl rfl)]
 rw [za (τ1:= [k0 (.r r)]) (h1:=h.set r (ah ns (i+1) w)) (WA (d:= .int w) (xs:= [.lst (ns.map .int),.n (i+1),.int v]) (n:=2) (by
  generalize E.bi _ _=X at c ⊢
  simp_all [c,Zs e1,Q0,l,Jc,o,j]) rfl e1 rfl rfl (a v w).symm)]
 have g:Gm (k8 k) (.cmp .lt (.ix .v0 (.int 1)) (.bi .len (.a (.ix .v0 (.int 0))))) [k0 (.r r)] (h.set r (ah ns (i+1) w))= .ok (u9 (i+1<ns.length)) (h.set r (ah ns (i+1) w)):=by
  have:(u9 (((i+1:Nat):Int)<(ns.length:Int)))=u9 (i+1<ns.length):=decide_eq_decide.mpr (by lia)
  simp_all [Zs e2,Q0,kK,Qx,ag,Aa,XZ,this]
 by_cases q:i+1<ns.length
 .refine⟨ns[i+1],?_⟩
  have b:aQ (ns.map D.int) ((i+1:Nat):Int)=k0 (.int ns[i+1]):=by
   rw [Zd _ _ (by rw [Aa];exact q),Ac,Aa4 q];rfl
  rw [za (τ1:= [k0 (.r r)]) (h1:=h.set r (ah ns (i+1) ns[i+1])) ((Zr (h1:=h.set r (ah ns (i+1) w)) (by rw [g,decide_eq_true q])).trans (by
   rw [za (τ1:= [k0 (.r r)]) (h1:=h.set r (ah ns (i+1) ns[i+1])) (WA (d:= .int ns[i+1]) (xs:= [.lst (ns.map .int),.n (i+1),.int w]) (n:=2) (by
    simp_all [Zs e2,kK,Q0,xr,b]) rfl e2 rfl rfl (a w _).symm),execs]))]
  rw [execs]
  exact Gz _ h _ (by rw [Ae1])
 .refine⟨w,?_⟩
  rw [xa (by rw [g,decide_eq_false q]),execs]
  exact Gz _ h _ (by rw [Ae1])
def V.uniq (h:V n v g) (q:V n w g):v=w:=Wf.eg h.lt q.lt λk a=>by
 have c:=h.2 _ _ (Wf.ba a) (Wf.aX a)
 have b:=q.2 _ _ (Wf.ba a) (Wf.aX a)
 rw [Wf.br]at c b
 rw [Bool.eq_iff_iff,c,b]
theorem B.uniq (h:B a b e v u) (q:B a b e v' u'):v=v'/\u=u':=⟨h.lo.uniq q.lo,h.hi.uniq q.hi⟩
theorem gq.uniq (h:gq a b f p) (k:gq a b f q):p=q:=by
 cases f with
 | dD x y=>
  obtain⟨v,u,i,m,d,g,rfl⟩:=h
  obtain⟨w,t,n,l,c,e,rfl⟩:=k
  obtain⟨rfl,rfl⟩:=d.uniq c
  obtain⟨rfl,rfl⟩:=g.uniq e
  rfl
 | d6 x y=>
  obtain⟨v,u,i,m,d,g,rfl⟩:=h
  obtain⟨w,t,n,l,c,e,rfl⟩:=k
  obtain⟨rfl,rfl⟩:=d.uniq c
  obtain⟨rfl,rfl⟩:=g.uniq e
  rfl
 | d5 x=>
  obtain⟨v,u,d,rfl⟩:=h
  obtain⟨w,t,c,rfl⟩:=k
  obtain⟨rfl,rfl⟩:=d.uniq c
  rfl
 | au x=>
  obtain⟨v,u,d,rfl⟩:=h
  obtain⟨w,t,c,rfl⟩:=k
  obtain⟨rfl,rfl⟩:=d.uniq c
  rfl
 | cnt s j x=>
  obtain⟨v,u,d,rfl⟩:=h
  obtain⟨w,t,c,rfl⟩:=k
  obtain⟨rfl,rfl⟩:=d.uniq c
  rfl
theorem Td.uniq : ∀ {s}{p q},Td a b s p->Td a b s q->p=q
 | .fact _,_,_,h,k=>gq.uniq h k
 | .neg _,_,_,⟨p,h,e⟩,⟨q,k,c⟩=>by rw [e,c,Td.uniq h k]
 | .bP _ _,_,_,⟨p,q,h,d,e⟩,⟨g,i,k,f,c⟩=>by rw [e,c,Td.uniq h k,Td.uniq d f]
 | .bO _ _,_,_,⟨p,q,h,d,e⟩,⟨g,i,k,f,c⟩=>by rw [e,c,Td.uniq h k,Td.uniq d f]
theorem vY : ∀ {N},((aM N f).lookup t).isSome=u9 (t∈N)
 | []=>rfl
 | y::N=>by
  show(Aj t ((y,_)::aM N f)).isSome=_
  rw [Ab7]
  by_cases e:t=y
  .subst e;rw [beq_self_eq_true,decide_eq_true Aa5];rfl
  .rw [beq_eq_false_iff_ne.mpr e]
   rw [vY]
   exact decide_eq_decide.mpr ⟨Aa2 _,λh=>(Ab8.mp h).resolve_left e⟩
def zW (f:Tx->Nat×Nat) (t:Tx) (p:Nat×Nat):Tx->Nat×Nat:=λx=>if x=t then p else f x
def vO (h:t∈N):GE (aM N f) t (bb p.1 p.2)=aM N (zW f t p):=by
 unfold GE aM
 rw [if_pos (Ad2.mpr ⟨_,Ab6.mpr ⟨t,h,rfl⟩,by simp⟩)]
 rw [Ad1]
 refine Ai1 λx a=> ?_
 show(if x=t then(x,bb p.1 p.2)else(x,bb (f x).1 (f x).2))=(x,bb (zW f t p x).1 (zW f t p x).2)
 unfold zW
 by_cases e:x=t
 .rw [if_pos e,if_pos e]
 .rw [if_neg e,if_neg e]
def xn (k) (d) (h) (a:Gd d=u0):call prog (k+1) "_law_whole" [.v d] h= .ok (.b (Xs d)) h:=by
 cases d<;>first | exact Ga _ _ _ rfl | cases a
abbrev yc (n r:Nat) (a dn b c:D) (d x7 x8 x9 x10:Option W):Sl:= [si n,k0 (.r r),sv a,sv dn,sv b,sv c,d,x7,x8,x9,x10]
def Xt (e:h[r]? =k0 (.aN ks)):GU h (k0 (.r r))=k0 (r,ks):=by unfold GU;simp [e]
def X8 (v p:Nat):Gj .band (v:Int) ((2 ^ p:Nat):Int)=k0 ((if v.testBit p then 2 ^ p else 0:Nat):Int):=by
 rw [jc,jd]
 congr 2
 refine Aj8 λk=> ?_
 rw [Ah2,Ad7]
 by_cases e:p=k
 .subst e
  rw [decide_eq_true rfl,Bool.and_true]
  cases v.testBit p with
  | true=>rw [if_pos rfl,Ak1]
  | false=>rw [if_neg Ac3,Af9]
 .rw [decide_eq_false e,Ah7]
  cases v.testBit p with
  | true=>rw [if_pos rfl,Ad7,decide_eq_false e]
  | false=>rw [if_neg Ac3,Af9]
def AU (k)(e:h[r]? =k0 (.aN (aM N f))) (C:n<=4) (i:t∈N) (Z:N.length<=100) (u:a<n) (v:b<n) (o:(f t).1.testBit (a*n+b)=k9) (j:(f t).2.testBit (a*n+b)=u0):
 call prog (k+2) "_law_split" [.i n,.r r,.t [.str t,.n a,.n b]] h= .ok (.own [.ref h.length,.ref (h.length+1)]) (h++ [.aN (aM N (zW f t ((f t).1 ||| 2 ^ (a*n+b),(f t).2))),.aN (aM N (zW f t ((f t).1,(f t).2-2 ^ (a*n+b))))]):=by
 rw [Gb (d:=xx) rfl _ _ _ rfl]
 have R:r<h.length:=(Aa0.mp e).1
 have s:a*n+b<16:=by
  have:=Wf.place_lt u v
  have:n*n<=16:=Af5 C C
  lia
 have ge:2 ^ _<=(f t).2:=Nat.ge_two_pow_of_testBit j
 generalize V:a*n+b=p at o j s ge ⊢
 have z:(aM N f).length<bf:=by rw [Gg,aM,Aa];lia
 generalize T:(f t).1=A at o ⊢
 generalize I:(f t).2=c at j ge ⊢
 have E:aM N _=GE (aM N f) t _:=(vO (p:=(A ||| 2 ^ p,c)) i).symm
 have K:aM N _=GE (aM N f) t _:=(vO (p:=(A,c-2 ^ p)) i).symm
 have q:(aM N f).lookup t=k0 (bb A c):=by rw [oW i,T,I]
 simp only [xx]
 have dd:=Xt e
 refine fx (by simp_all [];rfl) ?_
 have J:cP u0 (.s t) (k0 (r,aM N f)) h= .ok (.b k9) h:=by
  unfold cP
  simp only [vY,decide_eq_true i,if_true]
  rfl
 have l:bZ .str (.s t)=k0 true:=rfl
 rw [xa (by simp_all [l,dd,J,(xn k (.n a) h rfl),(xn k (.n b) h rfl),Xs])]
 have g: ∀x:Nat,x<n->((0:Int)<=(x:Int)/\(x:Int)<(n:Int)):=λx Y=>by lia
 rw [xa (by simp_all [Q1,XZ,decide_eq_true (g a u).1,decide_eq_true (g a u).2,decide_eq_true (g b v).1,decide_eq_true (g b v).2,ag])]
 have dg:eU (.s t) (k0 (r,aM N f)) h= .ok (.v (bb A c)) h:=by unfold eU;simp only [q]
 refine fx (by simp_all [dd,dg];rfl) ?_
 have H:Gj .mul (a:Int) (n:Int)=k0 ((a*n:Nat):Int):=je a n (by lia)
 have G:(((a*n:Nat):Int)+(b:Int))=((p:Nat):Int):=by rw [← V];rfl
 refine fx (by simp_all [H,Jc,G,(el p (by lia))];rfl) ?_
 have B:=X8 A p
 have F:=X8 c p
 rw [o,if_neg Ac3]at B
 rw [j,if_pos rfl]at F
 have X:0<2 ^ p:=Ad4 p
 have O:Gq .ne (.i (0)) (.v (.int 0)) h=k0 false:=rfl
 have M:Gq .eq (.i (2 ^ p)) (.v (.int 0)) h=k0 false:=by
  have:=Xm (2 ^ p) 0 h
  rw [decide_eq_false (by lia)]at this
  exact this
 rw [xa (by simp_all [B,F,O,M])]
 have S:((c:Int)-((2 ^ p:Nat):Int))=((c-2 ^ p:Nat):Int):=by lia
 have L:(h++ [Cell.aN (aM N f)])[h.length]? =k0 (.aN (aM N f)):=by simp
 have y:(h++ [Cell.aN (aM N f)]).set h.length (.aN (GE (aM N f) t (bb (A ||| 2 ^ p) c)))=h++ [.aN (GE (aM N f) t (bb (A ||| 2 ^ p) c))]:=by simp
 have nr:Gd (bb (A ||| 2 ^ p) c)=true:=rfl
 have mn:Gd (bb A (c-2 ^ p))=true:=rfl
 refine fx (by simp_all [dd,ag];rfl) ?_
 rw [za (τ1:=yc n r (.tup [.str t,.n a,.n b]) (.str t) (.n a) (.n b) (si A) (si c) (si (2 ^ p)) (k0 (.r h.length)) y0) (h1:=h++ [.aN (GE (aM N f) t (bb (A ||| 2 ^ p) c))]) (by
  simp_all [xo,wn,Xt L,ag]
  rw [if_pos ⟨z,nr⟩,y])]
 have D:(h++ [Cell.aN (GE (aM N f) t (bb (A ||| 2 ^ p) c))])[r]? =k0 (.aN (aM N f)):=by rw [Ac9 R,e]
 generalize GE (aM N f) t (bb (A ||| 2 ^ p) c)=U at D E ⊢
 have P:(h++ [Cell.aN U]++ [Cell.aN (aM N f)])[h.length+1]? =k0 (.aN (aM N f)):=by simp
 have m:(h++ [Cell.aN U]++ [Cell.aN (aM N f)]).set (h.length+1) (.aN (GE (aM N f) t (bb A (c-2 ^ p))))=h++ [Cell.aN U,.aN (GE (aM N f) t (bb A (c-2 ^ p)))]:=by simp [List.set_append]
 have Q:(h++ [Cell.aN U]).length=h.length+1:=by simp
 refine fx (by simp_all [Xt D,ag,Q];rfl) ?_
 rw [za (τ1:=yc n r (.tup [.str t,.n a,.n b]) (.str t) (.n a) (.n b) (si A) (si c) (si (2 ^ p)) (k0 (.r h.length)) (k0 (.r (h.length+1)))) (h1:=h++ [.aN U,.aN (GE (aM N f) t (bb A (c-2 ^ p)))]) (by
  simp_all [Wc,S,Xt P,ag]
  rw [if_pos ⟨z,mn⟩,m])]
 rw [qa (w:= .own [.ref h.length,.ref (h.length+1)]) (h1:=h++ [.aN U,.aN (GE (aM N f) t (bb A (c-2 ^ p)))]) (QB rfl (by simp_all [])),E,K]
 show fin h.length (.own [.ref h.length,.ref (h.length+1)]) _=_
 unfold fin
 rw [if_neg (by simp),if_neg (by simp [W.keep])]
abbrev Pl:=Tx×Nat×Nat
def bK (p:Pl):D:= .tup [.str p.1,.n (p.2.1),.n (p.2.2)]
def eO (n:Nat) (t:Tx):List Pl:=(Aa3 n).map λa=>(t,a,a)
def fL (n:Nat) (t:Tx):List Pl:=(Wf.aw n (2 ^ (n*n)-1)).map λq=>(t,q.1,q.2)
abbrev eV (K T:List Tx) (n:Nat) (l:List Pl) (x:Option W):Sl:= [sv (wD K T),si n,k0 (.own (l.map bK)),x]
theorem nC (g) (d: ∀t,(g t).length<=16) (c: ∀ t l,l.length<=200->execs F b (eV K T n l (k0 (.s t))) h= .next (eV K T n (l++g t) (k0 (.s t))) h):
 ∀(a:List Tx) l x,l.length+16*a.length<=200-> ∃i,Gp (Gr [3] u0) (λτ h=>execs F b τ h) (a.map .str) (eV K T n l x) h= .next (eV K T n (l++a.flatMap g) i) h
 | [],l,x,_=>⟨x,by simp [Gp]⟩
 | t::a,l,x,f=>by
  rw [Aa7]at f
  have:=d t
  obtain⟨i,e⟩:=nC g d c a (l++g t) (k0 (.s t)) (by rw [Aa6];lia)
  refine⟨i,?_⟩
  rw [Ab1,zb rfl (c t l (by lia)),e,Ag0,Ae]
def F3 (k n) (K T) (h) (p:n<=4) (E:K.length<=4) (D:T.length<=4):call prog (k+3) "places_of" [.v (wD K T),.i n] h= .ok (.own ((K.flatMap (eO n)++T.flatMap (fL n)).map bK)) h:=by
 rw [Gb (d:=Zx) rfl _ _ _ rfl]
 have o:n*n<=16:=Af5 p p
 simp only [Zx]
 have j: ∀t,(eO n t).length<=16:=λt=>by simp [eO];lia
 have lt: ∀t,(fL n t).length<=16:=λt=>by
  rw [fL,Aa,Wf.aw,Aa]
  exact Ab5 (Aj0 _ _) (by rw [Af3];exact o)
 have m: ∀(c:List Tx) (g:Tx->List Pl),(∀ t,(g t).length<=16)->(c.flatMap g).length<=16*c.length:=λc g f=>by
  induction c with
  | nil=>simp
  | cons t c G=>rw [Ag0,Aa6,Aa7];have:=f t;lia
 have ext: ∀ e b (g:Tx->List Pl),(∀ t,(g t).length<=16)->b= .a (.ext 2 e)->(∀ (t:Tx) (l:List Pl),eval (k8 (k+2)) e (eV K T n l (k0 (.s t))) h= .ok (.own ((g t).map bK)) h)-> ∀(t:Tx) (l:List Pl),l.length<=200->execs (k8 (k+2)) b (eV K T n l (k0 (.s t))) h= .next (eV K T n (l++g t) (k0 (.s t))) h:=λe b g f z B t l H=>by
  have r:(l.map bK).length+((g t).map bK).length<bf:=by rw [Gg,Aa,Aa];have:=f t;lia
  rw [z,za (τ1:=eV K T n (l++g t) (k0 (.s t))) (h1:=h) (by rw [exec];simp_all [B,r,if_true];rw [← Ae0]),execs]
 have u:=ext jq Jy _ j rfl λt l=>by
  unfold jq
  rw [Zn (n:=n) (λa=>bK (t,a,a)) rfl (by lia) λa F=>⟨.v _,by simp_all [];rfl,rfl⟩]
  rw [eO,Ad1];rfl
 have A:=ext Xq jy _ lt rfl λt l=>by
  unfold Xq
  have v:Gk (k8 (k+2)) (.seq (.call "pairs_of" (.b .v1 (.call "every" (.a .v1))))) (eV K T n l (some (.s t))) h= .ok ((Wf.aw n (2 ^ (n*n)-1)).map pD) h:=by
   simp_all [ra _ n h (by lia),Zv _ n _ h (by lia)]
  rw [wm (h:=h) (ds:=(Wf.aw n (2 ^ (n*n)-1)).map pD) (λd=>match d with | .tup [x,y]=> .tup [.str t,x,y] | d=>d) v (by rw [Gg,Aa,Wf.aw,Aa];have:=Aj0 (2 ^ (n*n)-1).testBit (Aa3 (n*n));rw [Af3]at this;lia)]
  .rw [fL,Ad1,Ad1];rfl
  .intro d C
   obtain⟨q,_,rfl⟩:=Ab6.mp C
   exact⟨[si _,si _,k0 _],rfl,.t [.str t,.n _,.n _],by simp_all [],rfl⟩
 obtain⟨i,e1⟩:=nC _ j u K [] y0 (by simp;lia)
 obtain⟨s,e2⟩:=nC _ lt A T (K.flatMap (eO n)) i (by have:=m K (eO n) j;lia)
 rw [Ae7]at e1
 rw [za (τ1:=eV K T n [] y0) (h1:=h) rfl]
 rw [za (τ1:=eV K T n (K.flatMap (eO n)) i) (h1:=h) (by
  rw [exec,show Gs (k8 (k+2)) (.seq (.ix .v0 (.int 0))) (eV K T n [] y0) h= .ok (K.map .str) h by simp_all [aa,Qh],R.ar];exact e1)]
 rw [za (τ1:=eV K T n (K.flatMap (eO n)++T.flatMap (fL n)) s) (h1:=h) (by
  rw [exec,show Gs (k8 (k+2)) (.seq (.ix .v0 (.int 1))) (eV K T n (K.flatMap (eO n)) i) h= .ok (T.map .str) h by simp_all [aa,xf],R.ar];exact e2)]
 rw [qa (w:= .own ((K.flatMap (eO n)++T.flatMap (fL n)).map bK)) (h1:=h) rfl,Gv _ _ _ rfl]
noncomputable abbrev lK:List Tx:= [gm,g7,fE,gF,[101,97,99,104],f6,hG,fM,eX,eG,iZ,ic,[107,105,110,100],[116,105,101],[115,97,121]]
def XV (st:Tx) (at' f k:Nat):Tx:=st.take at'++ [97+(f+5*k) % 26]++st.drop at'
def cK (st:Tx) (at' f k:Nat):Tx:=if XV st at' f k∈lK then XV st at' f k++ [113]else XV st at' f k
def Aq (h:at'<=st.length):(cK st at' f k)[at']? =k0 (97+(f+5*k) % 26):=by
 have b:(XV st at' f k)[at']? =k0 (97+(f+5*k) % 26):=by
  unfold XV
  rw [Ae,Ad9 (by simp_all),Af6,Ak5 h,Am3]
  rfl
 unfold cK
 split
 .rw [Ac9 (Aa0.mp b).1];exact b
 .exact b
def AN (a:st.length<=6):(cK st at' f k).length<=8:=by
 have b:(XV st at' f k).length<=7:=by
  unfold XV
  rw [Aa6,Aa6,Af6,Af7]
  simp only [Aa7,Ad3]
  lia
 unfold cK
 split
 .rw [Aa6];simp [Ad3];lia
 .lia
def CQ (st) (at' f m) (h:at'<=st.length) (a:m<=8):((Aa3 m).map (cK st at' f)).Nodup:=yD _ m a λi b j c ne z=>by
 have e1:=Aq (f:=f) (k:=i) h
 rw [z,(Aq (f:=f) (k:=j) h)]at e1
 have:=Ad6.inj e1
 lia
abbrev c9 (r m:Nat) (f:Nat) (a x5 b x7 x8:Option W):Sl:= [k0 (.r r),si m,k0 (.s la),si f,a,x5,b,x7,x8]
theorem uq (k): ∀(l:List Nat) h v st x,h[r]? =k0 (ah ns i v)->st.length+l.length<=6-> ∃ L v' M,L.length<=6 ∧
 Gp (Gr [5] u0) (λτ h=>execs (k8 (k+1)) zq τ h) (l.map λj=>D.n j) (c9 r m f (k0 (.s st)) x y0 y0 y0) h= .next (c9 r m f (k0 (.s L)) M y0 y0 y0) (h.set r (ah ns i v'))
 | [],h,v,st,x,e,a=>⟨st,v,x,by simpa using a,by
  rw [show h.set r (ah ns i v)=h by
   refine List.ext_getElem? λj=> ?_
   by_cases q:r=j
   .subst q
    rw [Ab9 (Aa0.mp e).1,e]
   .rw [Ae4 q]]
  rfl⟩
 | j::l,h,v,st,x,e,a=>by
  rw [Aa7]at a
  obtain⟨d,v1,g,e1⟩:=qh k e (m:=26) (by decide) (by decide)
  have c:=(Aa0.mp e).1
  obtain⟨L,v',M,b,e2⟩:=uq k l (h.set r (ah ns i v1)) v1 (st++ [97+d]) (si j) (Ab9 c) (by rw [Aa6];simp;lia)
  rw [Ad8]at e2
  refine⟨L,v',M,b,?_⟩
  have e1:call prog (k+1) "_law_draw" [.r r,.v (.int 26)] h= .ok (.i d) (h.set r (ah ns i v1)):=e1
  rw [Ab1,zb (τ1:=c9 r m f (k0 (.s st)) (si j) y0 y0 y0) rfl (by
   unfold zq
   rw [za (τ1:=c9 r m f (k0 (.s (st++ [97+d]))) (si j) y0 y0 y0) (h1:=h.set r (ah ns i v1)) (by simp_all [e1,WD d g,add_str st [97+d] _ (by simp;lia)]),execs]),e2]
theorem yR (d:st.length<=6) (h): ∀ c j x5 x8,j+c<=100-> ∃M L,Gp (Gr [5] u0) (λτ h=>execs F Qk τ h) ((Aa3 c).map λi=>D.n (j+i)) (c9 r m f (k0 (.s st)) x5 (si at') (k0 (.own (((Aa3 j).map (cK st at' f)).map .str))) x8) h= .next (c9 r m f (k0 (.s st)) M (si at') (k0 (.own (((Aa3 (j+c)).map (cK st at' f)).map .str))) L) h
 | 0,j,x5,x8,_=>⟨x5,x8,rfl⟩
 | c+1,j,x5,x8,G=>by
  obtain⟨A,B,e⟩:=yR d h c (j+1) (si (j)) (k0 (.s (cK st at' f j))) (by lia)
  refine⟨A,B,?_⟩
  have z:execs F Qk (c9 r m f (k0 (.s st)) (si (j)) (si at') (k0 (.own (((Aa3 j).map (cK st at' f)).map .str))) x8) h= .next (c9 r m f (k0 (.s st)) (si (j)) (si at') (k0 (.own (((Aa3 (j+1)).map (cK st at' f)).map .str))) (k0 (.s (cK st at' f j)))) h:=by
   have k:Gj .mul 5 (j:Int)=k0 ((5*j:Nat):Int):=je 5 j (by decide)
   have n:((f:Int)+((5*j:Nat):Int))=((f+5*j:Nat):Int):=rfl
   have u:Gj .mod ((f+5*j:Nat):Int) 26=k0 (((f+5*j) % 26:Nat):Int):=nI _ 26 (by decide)
   have g:=WD ((f+5*j) % 26) (Aj5 _ (by decide)) h
   have x:st.length<=bf:=by rw [Gg];lia
   have s:cut st y0 (k0 (at':Int))=st.take at':=mG st at'
   have l:cut st (k0 (at':Int)) y0=st.drop at':=z6 st at'
   have E:(st.take at').length<=6:=by rw [Af6];lia
   have l2:(st.drop at').length<=6:=by rw [Af7];lia
   have v:=add_str (st.take at') [97+(f+5*j) % 26] h (by simp only [Aa7,Ad3];lia)
   have a2:=add_str (st.take at'++ [97+(f+5*j) % 26]) (st.drop at') h (by rw [Aa6];simp only [Aa7,Ad3];lia)
   have C:(XV st at' f j).length<=13:=by
    unfold XV
    rw [Aa6,Aa6]
    simp only [Aa7,Ad3]
    lia
   have a3:=add_str (XV st at' f j) [113] h (by simp only [Aa7,Ad3];lia)
   have p:=JV (XV st at' f j) lK h
   have o:(((Aa3 j).map (cK st at' f)).map D.str).length<bf:=by rw [Gg,Aa,Aa,Af3];lia
   have y:((Aa3 (j+1)).map (cK st at' f)).map D.str=((Aa3 j).map (cK st at' f)).map D.str++ [.str (cK st at' f j)]:=by rw [An3];simp
   unfold Qk
   rw [za (τ1:=c9 r m f (k0 (.s st)) (si (j)) (si at') (k0 (.own (((Aa3 j).map (cK st at' f)).map .str))) (k0 (.s (XV st at' f j)))) (by
    simp_all [pE,x,s,l,k,Jc,n,u,g,v,a2]
    rfl)]
   have b:Gm F (.cmp .mem .v8 (.dM yN lK)) (c9 r m f (k0 (.s st)) (si (j)) (si at') (k0 (.own (((Aa3 j).map (cK st at' f)).map .str))) (k0 (.s (XV st at' f j)))) h= .ok (u9 (XV st at' f j∈lK)) h:=by
    rw [Gm,eval,eval]
    rw [show Gi (c9 r m f (k0 (.s st)) (si (j)) (si at') (k0 (.own (((Aa3 j).map (cK st at' f)).map .str))) (k0 (.s (XV st at' f j)))) 8=k0 (.s (XV st at' f j))from rfl,R.ae,eval,R.ae,p]
    rfl
   have a: ∀t:Tx,t=cK st at' f j->execs F (.a (.app 7 .v8)) (c9 r m f (k0 (.s st)) (si (j)) (si at') (k0 (.own (((Aa3 j).map (cK st at' f)).map .str))) (k0 (.s t))) h= .next (c9 r m f (k0 (.s st)) (si (j)) (si at') (k0 (.own (((Aa3 (j+1)).map (cK st at' f)).map .str))) (k0 (.s (cK st at' f j)))) h:=λt w=>by
    subst w
    rw [y]
    simp_all [o,if_true]
   by_cases q:XV st at' f j∈lK
   .rw [za (τ1:=c9 r m f (k0 (.s st)) (si (j)) (si at') (k0 (.own (((Aa3 j).map (cK st at' f)).map .str))) (k0 (.s (XV st at' f j++ [113])))) (h1:=h) ((Zr (by rw [b,decide_eq_true q])).trans (by simp_all [a3]))]
    exact a _ (by rw [cK,if_pos q])
   .rw [xa (by rw [b,decide_eq_false q])]
    exact a _ (by rw [cK,if_neg q])
  rw [Ah3,Ab1,Ad1,zb rfl z]
  have:((λi=>D.n (j+i))∘Nat.succ)=λi=>D.n (j+1+i):=by
   funext i
   show D.n (j+(i+1))=_
   rw [show j+(i+1)=j+1+i by lia]
  rw [this,e,show j+1+c=j+(c+1)by lia]
def Ho (c k:Nat):(Ab k [c]).flatten=Ab k c:=by simp
def Mb (k)(e:h[r]? =k0 (ah ns i v)) (B:m<=8): ∃(N:List Tx) (E:Int),N.length=m/\N.Nodup/\(∀ t∈N,t.length<=8)/\call prog (k+2) "_law_names" [.r r,.i m] h= .ok (.own (N.map .str)) (h.set r (ah ns i E)):=by
 have S:r<h.length:=(Aa0.mp e).1
 have s: ∀w,_[r]? =k0 (ah ns i w):=λw=>Ab9 S
 have C: ∀w,(h.set r (ah ns i w)).length=h.length:=λw=>Ae1 ..
 rw [Gb (d:=Jx) rfl _ _ _ rfl]
 show ∃N E,_/\_/\_/\Gw _ _=_
 simp only [Jx]
 obtain⟨f,v1,M,e1⟩:=qh k e (m:=26) (by decide) (by decide)
 have e1:call prog _ "_law_draw" [.r r,.v (.int 26)] h= .ok _ _:=e1
 obtain⟨d,v2,V,e2⟩:=qh k (s v1) (m:=3) (by decide) (by decide)
 rw [Ad8]at e2
 have e2:call prog _ "_law_draw" [.r r,.v (.int 3)] _= .ok _ _:=e2
 rw [za (τ1:= [k0 (.r r),si m,k0 (.s la),y0,y0,y0,y0,y0,y0]) (h1:=h) rfl]
 rw [za (τ1:=c9 r m f y0 y0 y0 y0 y0) (h1:=h.set r (ah ns i v1)) (by simp_all [e1])]
 have L: ∀h,Gq .eq _ (.v (.int 0)) h=k0 _:=λh=>Xm d 0 h
 have I:Gm (k8 (k+1)) (.cmp .eq (.call "_law_draw" (.b .v0 (.int 3))) (.int 0)) (c9 r m f none none none none none) (h.set r (ah ns i v1))= .ok (decide (d=0)) (h.set r (ah ns i v2)):=by simp_all [e2,L]
 by_cases q:d=0
 .refine⟨(Aa3 m).map λj=>Ab (j+1) (97+f),v2,by simp,yD _ m B (λa P b H ne z=>by have:=congrArg List.length z;simp at this;lia),λt x=> ?_,?_⟩
  .obtain⟨j,y,rfl⟩:=Ab6.mp x
   rw [Ae2]
   have:=Ab4.mp y
   lia
  .rw [qa (w:= .own (((Aa3 m).map λj=>Ab (j+1) (97+f)).map .str)) (h1:=h.set r (ah ns i v2)) ((Zr (h1:=h.set r (ah ns i v2)) (by rw [I,decide_eq_true q])).trans (qa (QB rfl ?_)))]
   .exact Gv _ h _ (C v2)
   .unfold JA
    rw [Zn (n:=m) (λj=> .str (Ab (j+1) (97+f))) rfl (by lia) λj y=>⟨.s (Ab (j+1) (97+f)),?_,rfl⟩]
    .rw [Ad1];rfl
    .have u:((j:Int)+1)=((j+1:Nat):Int):=rfl
     have D:=mul_str [97+f] (j+1) (h.set r (ah ns i v2)) (by lia) (by simp;lia)
     rw [Ho]at D
     simp_all [WD f M,Jc,u,D]
 .rw [za (τ1:=c9 r m f y0 y0 y0 y0 y0) (h1:=h.set r (ah ns i v2)) ((hY (h1:=h.set r (ah ns i v2)) (by rw [I,decide_eq_false q])).trans rfl)]
  rw [za (τ1:=c9 r m f (k0 (.s [])) y0 y0 y0 y0) (h1:=h.set r (ah ns i v2)) rfl]
  obtain⟨c,v3,U,o⟩:=qh k (s v2) (m:=6) (by decide) (by decide)
  rw [Ad8]at o
  have o:call prog (k+1) "_law_draw" [.r r,.v (.int 6)] (h.set r (ah ns i v2))= .ok (.i c) (h.set r (ah ns i v3)):=o
  obtain⟨g,v4,p,l,G⟩:=uq k (ns:=ns) (i:=i) (r:=r) (m:=m) (f:=f) (Aa3 c) (h.set r (ah ns i v3)) v3 [] y0 (s v3) (by simp;lia)
  rw [Ad8]at G
  have K:Gs (k8 (k+1)) (.aj (.call "_law_draw" (.b .v0 (.int 6)))) (c9 r m f (some (.s [])) none none none none) (h.set r (ah ns i v2))= .ok ((List.range c).map fun i=> .n i) (h.set r (ah ns i v3)):=by
   have H: -fY<=(c:Int)/\(c:Int)<fY:=by rw [GS];lia
   simp_all [o]
   rw [if_pos H,Ad5]
  rw [za (τ1:=c9 r m f (k0 (.s g)) p y0 y0 y0) (h1:=h.set r (ah ns i v4)) (by rw [exec,K,R.ar];exact G)]
  obtain⟨a,v5,P,J⟩:=qh k (s v4) (m:=g.length+1) (by lia) (by lia)
  rw [Ad8]at J
  have O:g.length<=bf:=by rw [Gg];lia
  have u:((g.length:Int)+1)=((g.length+1:Nat):Int):=rfl
  rw [za (τ1:=c9 r m f (k0 (.s g)) p (si a) y0 y0) (h1:=h.set r (ah ns i v5)) (by simp_all [len_str,O,if_true,ag,Jc,u,J])]
  rw [za (τ1:=c9 r m f (k0 (.s g)) p (si a) (k0 (.own [])) y0) (h1:=h.set r (ah ns i v5)) rfl]
  obtain⟨Q,T,A⟩:=yR (F:=(k8 (k+1))) (r:=r) (m:=m) (f:=f) (at':=a) l (h.set r (ah ns i v5)) m 0 p y0 (by lia)
  simp only [Ak0]at A
  rw [za (τ1:=c9 r m f (k0 (.s g)) Q (si a) (k0 (.own (((Aa3 m).map (cK g a f)).map .str))) T) (h1:=h.set r (ah ns i v5)) (by rw [exec,zev (n:=m) rfl (by lia),R.ar];exact A)]
  refine⟨(Aa3 m).map (cK g a f),v5,by simp,CQ g a f m (by lia) B,λt x=> ?_,?_⟩
  .obtain⟨j,y,rfl⟩:=Ab6.mp x
   exact AN l
  .rw [qa (w:= .own (((Aa3 m).map (cK g a f)).map .str)) (h1:=h.set r (ah ns i v5)) rfl]
   exact Gv _ h _ (C v5)
abbrev di:List (Nat×Nat×Nat):= [(0,1,2),(1,1,1),(0,1,2),(1,0,3),(2,0,2),(0,1,1),(1,0,2),(1,1,0),(2,1,1)]
def ck (p:Nat×Nat×Nat):D:= .tup [.n (p.1),.n (p.2.1),.n (p.2.2)]
structure bz (n:Nat) (K T:List Tx):Prop where
 n4:n<=4
 k4:K.length<=4
 t4:T.length<=4
 b6:K.length*n+T.length*(n*n)<=6
 nd:(K++T).Nodup
 l8: ∀t∈K++T,t.length<=8
abbrev mQ (r:Nat) (l:List D) (a b c:Option W) (x:Option W):Sl:= [k0 (.r r),k0 (.l l),a,b,c,x]
def L1 (k)(e:h[r]? =k0 (ah ns i v)): ∃ n K T v',bz n K T/\call prog (k+3) "_law_words" [.r r] h= .ok (.t [.n n,wD K T]) (h.set r (ah ns i v')):=by
 have G:r<h.length:=(Aa0.mp e).1
 have J: ∀w,_[r]? =k0 (ah ns i w):=λw=>Ab9 G
 have C: ∀w,(h.set r (ah ns i w)).length=h.length:=λw=>Ae1 ..
 rw [Gb rfl _ _ _ rfl]
 show ∃n K T v',_/\Gw _ _=_
 simp only [wM]
 obtain⟨d,v1,z,e1⟩:=qh _ e (m:=9) (by decide) (by decide)
 have e1:call prog _ "_law_draw" [.r r,.v _] h= .ok _ _:=e1
 have O: ∀p∈di,p.1+p.2.1<=8/\p.2.2<=4/\p.1<=4/\p.2.1<=4/\p.1*p.2.2+p.2.1*(p.2.2*p.2.2)<=6:=by decide
 obtain⟨⟨a,b,n⟩,y⟩: ∃p,di[d]? =k0 p:=⟨di[d],Aa4 z⟩
 obtain⟨o,j,g,q,H⟩:=O _ (Ac4 y)
 have o:a+b<=8:=o
 have j:n<=4:=j
 have g:a<=4:=g
 have q:b<=4:=q
 have c:aQ (di.map ck) (d:Int)=k0 (ck (a,b,n)):=by
  rw [Zd _ _ (by rw [Aa];exact z),Ac,y];rfl
 obtain⟨N,v2,P,nn,E,e2⟩:=Mb k (J v1) (m:=a+b) o
 rw [Ad8]at e2
 have l:((a:Int)+(b:Int))=((a+b:Nat):Int):=rfl
 refine⟨n,GA (N.take a),GA (N.drop a),v2,?_,?_⟩
 .have u:=Zl (N.take a)
  have pt:=Zl (N.drop a)
  have s:(GA (N.take a)).length=a:=by rw [u.length_eq,Af6];lia
  have lt:(GA (N.drop a)).length=b:=by rw [pt.length_eq,Af7];lia
  have x:(GA (N.take a)++GA (N.drop a)).Perm N:=(u.append pt).trans (by rw [List.take_append_drop])
  exact⟨j,by rw [s];exact g,by rw [lt];exact q,by rw [s,lt];exact H,x.nodup_iff.mpr nn,λt F=>E t (x.mem_iff.mp F)⟩
 .rw [za (τ1:=mQ r (di.map ck) y0 y0 y0 y0) (h1:=h) rfl]
  rw [za (τ1:=mQ r (di.map ck) (si a) (si b) (si n) y0) (h1:=h.set r (ah ns i v1)) (by
   rw [exec,show eval (k8 (k+2)) (.ix .v1 (.call "_law_draw" (.b .v0 (.bi .len (.a .v1))))) (mQ r (di.map ck) none none none none) h= .ok (.v (ck (a,b,n))) (h.set r (ah ns i v1))by
    have Q:((di.map ck).length:Int)=9:=rfl
    have f:call prog (k+2) "_law_draw" [.r r,.v (.int ((di.map ck).length:Int))] h= .ok (.i d) (h.set r (ah ns i v1)):=e1
    generalize di.map ck=L at c f ⊢
    simp_all [Qx,ag,f,xr,c]]
   rfl)]
  rw [za (τ1:=mQ r (di.map ck) (si a) (si b) (si n) (k0 (.l (N.map .str)))) (h1:=h.set r (ah ns i v2)) (by simp_all [Jc,l,e2])]
  have I:=WO (N.take a) (h.set r (ah ns i v2)) (by rw [Af6];lia)
  have B:=WO (N.drop a) (h.set r (ah ns i v2)) (by rw [Af7];lia)
  have A:cut (N.map D.str) y0 (k0 (a:Int))=(N.take a).map D.str:=by rw [mG,List.map_take]
  have M:cut (N.map D.str) (k0 (a:Int)) y0=(N.drop a).map D.str:=by rw [z6,List.map_drop]
  rw [qa (w:= .t [.n n,wD (GA (N.take a)) (GA (N.drop a))]) (h1:=h.set r (ah ns i v2)) (Ja rfl (by
   simp_all [uB,A,M,I,B,ZX,ag]))]
  exact Ga _ h _ (C v2)
def LV (s:Nat) (h1:3<=s) (b:s<5): ∃f:Ex->Ex,(∀ a,(f a).dp=a.dp+1)/\(∀ N a,a.wf N->(f a).wf N)/\ ∃t,aQ [D.str zj,.str Ji] ((s:Int)-3)=k0 (.str t)/\ ∀a,aV (f a)= .tup [.str t,aV a]:=by
 match s,h1,b with
 | 3,_,_=>exact⟨.turned,λ_=>rfl,λ_ _ h=>h,zj,rfl,λ_=>rfl⟩
 | 4,_,_=>exact⟨.closed,λ_=>rfl,λ_ _ h=>h,Ji,rfl,λ_=>rfl⟩
 | s+5,_,h=>exact absurd h (by lia)
def C9 (s:Nat) (h1:5<=s) (c:s<10): ∃f:Ex->Ex->Ex,(∀ a b,(f a b).dp=max a.dp b.dp+1)/\(∀ N a b,a.wf N->b.wf N->(f a b).wf N)/\ ∃t,aQ [D.str qF,.str jr,.str Xz,.str Zh,.str Zh] ((s:Int)-5)=k0 (.str t)/\ ∀a b,aV (f a b)= .tup [.str t,aV a,aV b]:=by
 match s,h1,c with
 | 5,_,_=>exact⟨.plus,λ_ _=>rfl,λ_ _ _ h g=>⟨h,g⟩,qF,rfl,λ_ _=>rfl⟩
 | 6,_,_=>exact⟨.less,λ_ _=>rfl,λ_ _ _ h g=>⟨h,g⟩,jr,rfl,λ_ _=>rfl⟩
 | 7,_,_=>exact⟨.both,λ_ _=>rfl,λ_ _ _ h g=>⟨h,g⟩,Xz,rfl,λ_ _=>rfl⟩
 | 8,_,_=>exact⟨.joined,λ_ _=>rfl,λ_ _ _ h g=>⟨h,g⟩,Zh,rfl,λ_ _=>rfl⟩
 | 9,_,_=>exact⟨.joined,λ_ _=>rfl,λ_ _ _ h g=>⟨h,g⟩,Zh,rfl,λ_ _=>rfl⟩
 | s+10,_,h=>exact absurd h (by lia)
abbrev kb (r:Nat) (N:List Tx) (g p:Nat) (a x5 b:Option W):Sl:= [k0 (.r r),k0 (.l (N.map .str)),si g,si p,a,x5,b]
def fu (N:List Tx):List Ex:=(N++N).map .name++ [.same,.all,.none]
def mK (h:e∈fu N):e.wf N/\e.dp=0:=by
 obtain h | h:=Ac8.mp h
 .obtain⟨t,a,rfl⟩:=Ab6.mp h
  exact⟨(Ac8.mp a).elim id id,rfl⟩
 .have:e= .same\/e= .all\/e= .none:=by simpa using h
  rcases this with rfl | rfl | rfl<;>exact⟨trivial,rfl⟩
def so (m)(l:N.length<=8) (e:h[r]? =some (ah ns i v)): ∃ x v',x∈fu N/\execs (k8 (m+1)) (.b (.af 4 (.bin .add (.bin .mul Ze (.int 2)) (.lst (.c (.tup (.a (.str wg))) (.tup (.a (.str Zp))) (.tup (.a (.str Xh))))))) (.ret (.ix .v4 (.call "_law_draw" (.b .v0 (.bi .len (.a .v4))))))) (kb r N g p none none none) h= .ret (.v (aV x)) (h.set r (ah ns i v')):=by
 have k:(fu N).length=2*N.length+3:=by simp [fu];lia
 obtain⟨d,v1,f,e1⟩:=qh m e (m:=(fu N).length) (by lia) (by lia)
 refine⟨_[d],v1,Al4 f,?_⟩
 have c:eval (k8 (m+1)) Ze (kb r N g p y0 y0 y0) h= .ok (.own (N.map λt=>aV (.name t))) h:=by
  unfold Ze
  rw [wm (ds:=N.map .str) (λd=> .tup [.str zh,d]) (by simp_all []) (by rw [Gg,Aa];lia)]
  .rw [Ad1];rfl
  .intro d f
   exact⟨[sv d],rfl,.t [.str zh,d],by simp_all [],rfl⟩
 have b:=Bg (N.map λt=>aV (.name t)) 2 h (by decide) (by rw [Aa];lia)
 have j:GV .add (.own (Ab 2 (N.map λt=>aV (.name t))).flatten) (.own [.tup [.str wg],.tup [.str Zp],.tup [.str Xh]]) h= .ok (.own ((fu N).map aV)) h:=by
  show(if ((Ab 2 (N.map λt=>aV (.name t))).flatten).length+3<=bf then _ else _)=_
  rw [if_pos (by rw [Gg];simp;lia)]
  simp [fu,aV,ag,Af2,Function.comp_def]
 rw [za (τ1:=kb r N g p (k0 (.l ((fu N).map aV))) y0 y0) (h1:=h) (by
  have b:GV .mul _ (.v (.int 2)) h= .ok _ h:=b
  generalize (Ab 2 (N.map λt=>aV (.name t))).flatten=Z at b j
  simp_all [c,b,j])]
 have a:aQ ((fu N).map aV) d=k0 (aV (fu N)[d]):=by
  rw [Zd _ _ (by rw [Aa];exact f),Ac,Aa4 f];rfl
 have e1:call prog (m+1) "_law_draw" [.r r,.v (.int (((fu N).map aV).length))] h= .ok (.i d) (h.set r (ah ns i v1)):=by rw [List.length_map];exact e1
 generalize (fu N).map aV=L at a e1 ⊢
 exact qa (Ja rfl (by simp_all [Qx,ag,e1,xr,a]))
def yb (K:N.length<=8): ∀ g k h v,h[r]? =k0 (ah ns i v)-> ∃ e v',e.wf N/\e.dp<=g/\call prog (g+k+2) "_law_expression" [.r r,.l (N.map .str),.i g] h= .ok (.v (aV e)) (h.set r (ah ns i v')):=by
 intro g
 induction g with
 | zero=>
  intro k h v e
  have A:r<h.length:=(Aa0.mp e).1
  have j: ∀w,_[r]? =k0 (ah ns i w):=λw=>Ab9 A
  obtain⟨p,v1,J,e1⟩:=qh _ e (m:=10) (by decide) (by decide)
  have e1:call prog (0+k+1) "_law_draw" [.r r,.v (.int 10)] h= .ok _ _:=e1
  obtain⟨x,v2,c,e2⟩:=so _ K (j v1)
  rw [Ad8]at e2
  refine⟨x,v2,(mK c).1,Al1 (mK c).2,?_⟩
  rw [Gb rfl _ _ _ rfl]
  simp only [jg]
  refine fx (by simp_all [e1];rfl) ?_
  rw [qa ((Zr (h1:=h.set r (ah ns i v1)) (by
   have z:Gq .eq (.i (0)) (.v (.int 0)) (h.set r (ah ns i v1))=k0 true:=Xm 0 0 _
   simp_all [z])).trans e2)]
  exact Ga _ h _ (Ae1 ..)
 | succ g F=>
  intro k h v e
  have A:r<h.length:=(Aa0.mp e).1
  have j: ∀w,_[r]? =k0 (ah ns i w):=λw=>Ab9 A
  have l: ∀w,(h.set r (ah ns i w)).length=h.length:=λw=>Ae1 ..
  rw [show g+1+k+2=(g+k+2)+1 by lia]
  obtain⟨p,v1,J,e1⟩:=qh (g+k+1) e (m:=10) (by decide) (by decide)
  have e1:call prog (g+k+2) "_law_draw" [.r r,.v (.int 10)] h= .ok (.i p) (h.set r (ah ns i v1)):=e1
  have I:Gm (k8 (g+k+2)) (.or (.cmp .eq .v2 (.int 0)) (.cmp .lt .v3 (.int 3))) (kb r N (g+1) p y0 y0 y0) (h.set r (ah ns i v1))= .ok (u9 (p<3)) (h.set r (ah ns i v1)):=by
   have z:Gq .eq (.i (g+1)) (.v (.int 0)) (h.set r (ah ns i v1))=k0 false:=by
    have:=Xm (g+1) 0 (h.set r (ah ns i v1))
    rw [decide_eq_false (by lia)]at this
    exact this
   have o:=me 3 p (h.set r (ah ns i v1))
   have o:Gq .lt (.i p) (.v (.int 3)) (h.set r (ah ns i v1))=k0 (u9 (p<3)):=o
   rw [Gm,kf (a:=k9) (b:=u9 (p<3)) (by simp_all [z]) (by simp_all [o]),R.ae]
   rfl
  rw [Gb (d:=jg) rfl _ _ _ rfl]
  show ∃e v',_/\_/\Gw _ (execs _ _ [k0 (.r r),k0 (.l (N.map .str)),si (g+1),y0,y0,y0,y0] h)=_
  simp only [jg]
  rw [za (τ1:=kb r N (g+1) p y0 y0 y0) (h1:=h.set r (ah ns i v1)) (by simp_all [e1])]
  by_cases q:p<3
  .obtain⟨x,v2,c,e2⟩:=so (g+k+1) (g:=g+1) (p:=p) K (j v1)
   rw [Ad8]at e2
   refine⟨x,v2,(mK c).1,by rw [(mK c).2];lia,?_⟩
   rw [qa (w:= .v (aV x)) (h1:=h.set r (ah ns i v2)) ((Zr (h1:=h.set r (ah ns i v1)) (by rw [I,decide_eq_true q])).trans e2)]
   exact Ga _ h _ (l v2)
  .rw [xa (by rw [I,decide_eq_false q])]
   obtain⟨x,v2,E,M,e2⟩:=F k _ v1 (j v1)
   rw [Ad8]at e2
   have G:(((g+1:Nat):Int)-1)=((g:Nat):Int):=by lia
   rw [za (τ1:=kb r N (g+1) p y0 (sv (aV x)) y0) (h1:=h.set r (ah ns i v2)) (by simp_all [Wc,G,e2])]
   have H:Gq .lt (.i p) (.v (.int 5)) (h.set r (ah ns i v2))=k0 (u9 (p<5)):=me 5 p _
   by_cases B:p<5
   .obtain⟨f,C,s,t,u,n⟩:=LV p (by lia) B
    refine⟨f x,v2,s N x E,by rw [C];lia,?_⟩
    rw [zf (w:= .v (aV (f x))) (by simp_all [H,decide_eq_true B]) (Ja rfl (by rw [n];simp_all [Wc,JP,u]))]
    exact Ga _ h _ (l v2)
   .rw [xa (by simp_all [H,decide_eq_false B])]
    obtain⟨y,v3,L,O,D⟩:=F k _ v2 (j v2)
    rw [Ad8]at D
    rw [za (τ1:=kb r N (g+1) p y0 (sv (aV x)) (sv (aV y))) (h1:=h.set r (ah ns i v3)) (by simp_all [Wc,G,D])]
    obtain⟨f,C,s,t,u,n⟩:=C9 p (by lia) J
    refine⟨f x y,v3,s N x y E L,by rw [C];lia,?_⟩
    rw [qa (w:= .v (aV (f x y))) (h1:=h.set r (ah ns i v3)) (Ja rfl (by rw [n];simp_all [Wc,JP,u]))]
    exact Ga _ h _ (l v3)
theorem pL: ∀(ws) (c j w),ws[j]? =k0 w->(dg ws c)[j]? =k0 (c / 2 ^ (ws.take j).sum % 2 ^ w)
 | [],_,_,_,h=>by simp at h
 | u::ws,c,0,w,h=>by
  have:u=w:=by simpa using h
  subst this
  simp [dg]
 | u::ws,c,j+1,w,h=>by
  have h:=by simpa using h
  show(dg ws (c / 2 ^ u))[j]? =_
  rw [pL ws _ j w h,List.take_succ_cons,Am9,Nat.div_div_eq_div_mul,←Nat.pow_add]
theorem oE: ∀(ws) (c),(dg ws c).length=ws.length
 | [],_=>rfl
 | w::ws,c=>by rw [dg,Aa7,oE ws,Aa7]
def cM (n a b c:Nat):List Nat:=(dg (cR n a b) c).take a
def cU (n a b c:Nat):List Nat:=(dg (cR n a b) c).drop a
def Na (n a b j) (h:j<=a):((cR n a b).take j).sum=j*n:=by
 rw [cR,List.take_append_of_le_length (by simp_all),List.take_replicate,wE,Ak5 h]
def Ba (n a b j:Nat) (h:j<=b):((cR n a b).take (a+j)).sum=a*n+j*(n*n):=by
 rw [cR,List.take_append,Ae2,Ai7 (by simp),List.sum_append,List.take_replicate,wE,wE,An,Ak5 h]
def m3 (h:j<a):(cM n a b c)[j]? =k0 (c / 2 ^ (j*n) % 2 ^ n):=by
 rw [cM,Am7 h,pL _ _ _ n (by rw [cR,Ac9 (by simp_all),Ai2,if_pos h]),Na _ _ _ _ (Ag1 h)]
def lR (h:j<b):(cU n a b c)[j]? =k0 (c / 2 ^ (a*n+j*(n*n)) % 2 ^ (n*n)):=by
 rw [cU,List.getElem?_drop,pL _ _ _ _ (by rw [cR,Ad9 (by simp),Ae2,An,Ai2,if_pos h]),Ba _ _ _ _ (Ag1 h)]
def wo (n:Nat) (K T:List Tx) (c:Nat):Wo:=⟨n,K,T,cM n K.length T.length c,cU n K.length T.length c⟩
def qT (n a b c):(cM n a b c).length=a:=by rw [cM,Af6,oE,l4];lia
def JU (n a b c):(cU n a b c).length=b:=by rw [cU,Af7,oE,l4];lia
theorem bz.wo (g:bz n K T) (c):(wo n K T c).Ok:=by
 refine⟨g.k4,g.t4,g.nd,g.n4,qT ..,JU ..,λx b=> ?_,λx b=> ?_⟩
 .obtain⟨j,a,e⟩:=Al9 b
  have:(cM n K.length T.length c)[j]? =k0 x:=by rw [← e];exact Aa4 a
  rw [m3 (by rw [← qT n K.length T.length c];exact a)]at this
  rw [← Ad6.inj this]
  exact Aj5 _ (Ad4 _)
 .obtain⟨j,a,e⟩:=Al9 b
  have:(cU n K.length T.length c)[j]? =k0 x:=by rw [← e];exact Aa4 a
  rw [lR (by rw [← JU n K.length T.length c];exact a)]at this
  rw [← Ad6.inj this]
  exact Aj5 _ (Ad4 _)
def bz.pt (g:bz n K T) (c d):Pt (M.wo n K T c) (M.wo n K T d):=⟨g.wo c,g.wo d,rfl,rfl,rfl⟩
theorem j4 : ∀ {i}{j},i.Nodup->i[j]? =k0 t->cX t i=j
 | [],_,_,h=>by simp at h
 | y::c,0,_,h=>by
  have:y=t:=by simpa using h
  simp [cX,Kj,this]
 | y::c,j+1,a,h=>by
  have h:=by simpa using h
  have m:=Ac4 h
  have a:=Ai.mp a
  have ne:y≠t:=λe=>a.1 (e▸m)
  have b:=j4 a.2 h
  rw [cX]at b ⊢
  rw [Kj,if_neg ne,(zo m).1]
  rw [(zo m).1]at b
  simpa using b
theorem pK {b d:Type}(g) (m) (a: ∀t,(g t).length=m): ∀(l:List b) i (y:d),(l.flatMap g)[i]? =k0 y-> ∃j t p,l[j]? =k0 t/\(g t)[p]? =k0 y/\p<m/\i=j*m+p
 | [],i,y,h=>by simp at h
 | t::l,i,y,h=>by
  rw [Ag0]at h
  by_cases q:i<m
  .rw [Ac9 (by rw [a];exact q)]at h
   exact⟨0,t,i,rfl,h,q,by lia⟩
  .rw [Ad9 (by rw [a];lia),a]at h
   obtain⟨j,u,p,f,e,c,k⟩:=pK g m a l _ y h
   exact⟨j+1,u,p,f,e,c,by rw [Nat.add_mul];lia⟩
theorem jP {b c:Type}(g:b->List c) (m) (a: ∀t,(g t).length=m): ∀l:List b,(l.flatMap g).length=l.length*m
 | []=>by simp
 | t::l=>by rw [Ag0,Aa6,a,jP g m a l,Aa7,Nat.add_mul];lia
def bS (n:Nat) (K T:List Tx):List Pl:=K.flatMap (eO n)++T.flatMap (fL n)
def qD (n):Wf.aw n (2 ^ (n*n)-1)=(Aa3 (n*n)).map λk=>(k / n,k % n):=by
 rw [Wf.aw,List.filter_eq_self.mpr λk a=>by rw [Ag3,decide_eq_true (Ab4.mp a)]]
def ZJ (n) (t):(eO n t).length=n:=by simp [eO]
def vR (n) (t):(fL n t).length=n*n:=by simp [fL,qD]
def XF (n) (K T):(bS n K T).length=K.length*n+T.length*(n*n):=by rw [bS,Aa6,jP _ _ (ZJ n),jP _ _ (vR n)]
def zm (g:bz n K T)(h:(bS n K T)[i]? =k0 (t,x,y)) (c):bh (wo n K T c) t x y=c.testBit i/\t∈K++T/\x<n/\y<n:=by
 obtain⟨f,e,m⟩:=Aj3.mp g.nd
 rw [bS]at h
 by_cases q:i<K.length*n
 .rw [Ac9 (by rw [jP _ _ (ZJ n)];exact q)]at h
  obtain⟨j,u,p,d,b,a,l⟩:=pK _ n (ZJ n) _ _ _ h
  rw [eO,Ac,List.getElem?_range a]at b
  have b:=Ad6.inj b
  obtain⟨rfl,rfl,rfl⟩:u=t/\p=x/\p=y:=by simpa using b
  have mk:=Ac4 d
  refine⟨?_,Ad _ mk,a,a⟩
  rw [bh,if_neg (show u∉(wo n K T c).T from (λz=>m u mk u z rfl))]
  show(decide _&&((cM n K.length T.length c).getD (cX u K) 0).testBit p)=_
  rw [j4 f d,Ac5,m3 ((Aa0.mp d).1),Al0,Ah,Ah0,decide_eq_true a,decide_eq_true rfl,l,Ap4]
  rfl
 .rw [Ad9 (by rw [jP _ _ (ZJ n)];lia),jP _ _ (ZJ n)]at h
  obtain⟨j,u,p,d,b,a,l⟩:=pK _ _ (vR n) _ _ _ h
  rw [fL,qD,Ad1,Ac,List.getElem?_range a]at b
  have b:=Ad6.inj b
  obtain⟨rfl,rfl,rfl⟩:u=t/\p / n=x/\p % n=y:=by simpa using b
  have k:=Ac4 d
  refine⟨?_,Ab0 _ k,Wf.ba a,Wf.aX a⟩
  rw [bh,if_pos (show u∈(wo n K T c).T from k)]
  show(((cU n K.length T.length c).getD (cX u T) 0).testBit (p / n*n+p % n))=_
  rw [j4 e d,Ac5,lR ((Aa0.mp d).1),Al0,Ah,Ah0,Wf.br,decide_eq_true a,Ae5]
  congr 1
  lia
def o4 (b:x<n) (a:y<n) (h:t∈T\/(t∈K/\x=y)): ∃i:Nat,(bS n K T)[i]? =k0 (t,x,y):=by
 have:(t,x,y)∈bS n K T:=by
  rw [bS,Ac8,Al3,Al3]
  obtain h | ⟨h,rfl⟩:=h
  .refine .inr ⟨t,h,?_⟩
   rw [fL,qD,Ad1]
   refine Ab6.mpr ⟨x*n+y,Ab4.mpr (Wf.place_lt b a),?_⟩
   show(t,_ / n,_ % n)=_
   rw [Wf.aD a,Wf.aH a]
  .exact .inl ⟨t,h,Ab6.mpr ⟨x,Ab4.mpr b,rfl⟩⟩
 obtain⟨i,c,e⟩:=Al9 this
 exact⟨i,by rw [← e];exact Aa4 c⟩
def r9 (b:t∈K++T) (a:x<n) (d:y<n) (h:bh (wo n K T c) t x y=u0): ∃i:Nat,(bS n K T)[i]? =k0 (t,x,y):=by
 refine o4 a d ?_
 by_cases q:t∈T
 .exact .inl q
 .rw [bh,if_neg (show t∉(wo n K T c).T from q),Aa1,decide_eq_true_eq]at h
  exact .inr ⟨(Ac8.mp b).resolve_right q,h.1⟩
def oH (g:bz n K T){i j:Nat}(h:(bS n K T)[i]? =k0 p) (q:(bS n K T)[j]? =k0 p):i=j:=by
 have a:=(zm g q (2 ^ i)).1
 rw [((zm g h _).1),Ak1,Ad7]at a
 simpa using a.symm
def Mp (k n) (A B) (c) (h) (d:n<=4) (h1:A.length<=4) (f:B.length<=4) (lt:c<2 ^ (cR n A.length B.length).sum):call prog (k+5) "world_of" [.v (mr A B),.i n,.i c] h= .ok (.v (ig n (cM n A.length B.length c) (cU n A.length B.length c))) h:=by
 rw [Gb rfl _ _ _ rfl]
 have b:=Af5 d d
 have l:=yF k (.n n) h rfl (by simp [Qt];lia)
 have a:=rq (k+3) n A B h d h1 f
 have m:(cR n A.length B.length).sum<=100:=by
  rw [ng]
  have p:A.length*n<=4*4:=Af5 h1 d
  have a2:B.length*(n*n)<=4*16:=Af5 f b
  lia
 have g:=QC (k+2) (.n c) ((2 ^ (cR n A.length B.length).sum:Nat):Int) h rfl
 have bt:Qt (.n c) ((2 ^ (cR n A.length B.length).sum:Nat):Int)=true:=by
  simp only [Qt,Aa1,decide_eq_true_eq];lia
 rw [bt]at g
 obtain⟨o,q,e⟩:=yI h (cR n A.length B.length) c [] y0 (λw a=>by
  rcases Ac8.mp a with a | a
  .rw [(List.mem_replicate.mp a).2];lia
  .rw [(List.mem_replicate.mp a).2];exact b) (by rw [l4];simp;lia)
 rw [Ae7]at e
 simp only [wP]
 refine fx (by simp_all [l];rfl) ?_
 rw [xa (by simp_all [(uR (k+2) n A B h d h1 f),(el (cR n A.length B.length).sum (by lia)),g])]
 refine fx (by simp_all [];rfl) ?_
 refine fx (by simp_all [];rfl) ?_
 have ew:eval (k8 (k+4)) (.call "widths" (.b .v0 .v1)) [sv (mr A B),si n,si c,some (.own []),si c,none,none] h= .ok (.own (aA (cR n A.length B.length))) h:=by
  simp_all [a]
 rw [za (by
  simp only [exec,Gs,GK,ew,R.ae,Kh,R.ao,R.ar]
  exact e)]
 have i:cut (aA (dg (cR n A.length B.length) c)) y0 (k0 (A.length:Int))=aA (cM n A.length B.length c):=by rw [mG,aA,←List.map_take];rfl
 have j:cut (aA (dg (cR n A.length B.length) c)) (k0 (A.length:Int)) y0=aA (cU n A.length B.length c):=by rw [z6,aA,←List.map_drop];rfl
 refine fx (by simp_all [aa,Qh,Xc];rfl) ?_
 rw [qa (w:= .v (ig n (cM n A.length B.length c) (cU n A.length B.length c))) (h1:=h) (Ja rfl (by simp_all [D5,i,j,ZX]))]
 exact Ga _ _ _ rfl
abbrev bN (n:Nat) (K T:List Tx):Nat:=K.length*n+T.length*(n*n)
def cC (n:Nat) (K T:List Tx) (S:List Sy):List (String×D):= [("words",wD K T),("sayings",.tup (S.map az)),("size",.n n),("places",.lst ((bS n K T).map bK)),("whole",.n (2 ^ bN n K T-1))]
def Wq (e:h[r]? =k0 (.obj c fs)):GZ h (k0 (.r r))=k0 (r,c,fs):=by unfold GZ;simp [e]
def Ql (a:h[r]? =k0 (.obj c fs)) (e:Gn τ i=k0 (.r r)) (b:fs.lookup f=k0 d):eval F (.aI (.var i) c f) τ h= .ok (.v d) h:=by
 rw [eval,eval,Gi,e]
 simp [Wq a,b,ag]
def QI (a:h[r]? =k0 (.obj c fs)) (e:Gn τ i=k0 (.r r)) (b:(fs.lookup m).isNone=u0) (d:Gf F es τ h= .ok ws h):eval F (.bL (.var i) c m q es) τ h=F.call q (.r r::ws.map W.arg) h:=by
 rw [eval,eval,Gi,e]
 simp [Wq a,b,d]
section
variable {n:Nat}{K T:List Tx}{S:List Sy}{ro:Nat}{h:AH}
def Z6 (k c) (g:bz n K T) (C:h[ro]? =k0 (.obj "Cases" (cC n K T S))) (d:c<2 ^ bN n K T):call prog (k+6) "Cases.world_of_code" [.r ro,.i c] h= .ok (.v (wo n K T c).aT) h:=by
 rw [Gb rfl _ _ _ rfl]
 have e:=Mp k n (K.map .str) (T.map .str) c h g.n4 (by rw [Aa];exact g.k4) (by rw [Aa];exact g.t4) (by rw [ng,Aa,Aa];exact d)
 rw [Aa,Aa]at e
 simp only [wj]
 have a:=Ql (F:=(k8 (k+5))) (τ:= [k0 _,si c]) (i:=0) (f:= "words") C rfl rfl
 have b:=Ql (F:=(k8 (k+5))) (τ:= [k0 _,si c]) (i:=0) (f:= "size") C rfl rfl
 rw [qa (w:= .v (wo n K T c).aT) (h1:=h) (Ja rfl (by
  generalize E.aI _ _ _=X at a ⊢
  generalize E.aI _ _ _=Y at b ⊢
  simp_all [a,b,e]
  rfl)),Ga _ _ _ rfl]
def xU (m j c d) (g:bz n K T) (C:h[ro]? =some (.obj "Cases" (cC n K T S))) (z:c<2 ^ bN n K T) (v:d<2 ^ bN n K T)(o:S[j]? =some s) (u:s.dp+9<=m) (wf:s.wf (K++T)): ∃r,Td (wo n K T c) (wo n K T d) s r/\call prog (m+1) "Cases.truth" [.r ro,.i j,.i c,.i d] h= .ok (.v (aF r)) h:=by
 obtain⟨k,rfl⟩:=nk m 6 (by lia)
 obtain⟨r,x,e⟩:=Dl (g.pt c d) h s _ u wf
 refine⟨r,x,?_⟩
 rw [Gb rfl _ _ _ rfl]
 simp only [jB]
 have b:=QI (F:=(k8 (k+6))) (τ:= [k0 _,si j,si c,si d,y0]) (i:=0) (m:= "world_of_code") (q:= "Cases.world_of_code") (es:= .cons .v2 .nil) (ws:= [.i c]) C rfl rfl (by simp_all [])
 have a:=QI (F:=(k8 (k+6))) (τ:= [k0 _,si j,si c,si d,y0]) (i:=0) (m:= "world_of_code") (q:= "Cases.world_of_code") (es:= .cons .v3 .nil) (ws:= [.i d]) C rfl rfl (by simp_all [])
 have b:=b.trans (Z6 k c g C z)
 have a:=a.trans (Z6 k d g C v)
 have y:j<S.length:=(Aa0.mp o).1
 have l:aQ (S.map az) (j:Int)=k0 (az s):=by rw [Zd _ _ (by rw [Aa];exact y),Ac,o];rfl
 rw [za (τ1:= [k0 (.r ro),si j,si c,si d,sv (bX (wo n K T c) (wo n K T d))]) (h1:=h) (by
  generalize E.bL _ _ _ _ _=X at b ⊢
  generalize E.bL _ _ _ _ _=Y at a ⊢
  simp_all [b,a])]
 have t:=Ql (F:=(k8 (k+6))) (τ:= [k0 _,si j,si c,si d,sv (bX (wo n K T c) (wo n K T d))]) (i:=0) (f:= "words") C rfl rfl
 have p:=Ql (F:=(k8 (k+6))) (τ:= [k0 _,si j,si c,si d,sv (bX (wo n K T c) (wo n K T d))]) (i:=0) (f:= "sayings") C rfl rfl
 have e:call prog _ "told" [.v (wD K T),.v _,.v _] h= .ok _ h:=e
 rw [qa (w:= .v (aF r)) (h1:=h) (Ja rfl (by
  generalize E.aI _ _ _=X at t ⊢
  generalize E.aI _ _ _=Y at p ⊢
  simp_all [t,p,aa,l,e])),Ga _ _ _ rfl]
end
def pV (p) (t) (a b):cy (bK p) (.tup [.str t,.int a,.int b])=u0↔p.1=t/\(p.2.1:Int)=a/\(p.2.2:Int)=b:=by
 simp [bK,GL]
theorem vG (t) (a b): ∀L:List Pl,inD (.tup [.str t,.int a,.int b]) (L.map bK)=u0-> ∃ i x y,Kr (.tup [.str t,.int a,.int b]) (L.map bK)=k0 i/\L[i]? =k0 (t,x,y)/\a=(x:Int)/\b=(y:Int)
 | [],h=>by simp [inD]at h
 | p::L,h=>by
  rw [Ab1,Kr]
  by_cases q:cy (bK p) (.tup [.str t,.int a,.int b])=u0
  .obtain⟨e,d,c⟩:=(pV p t a b).mp q
   refine⟨0,p.2.1,p.2.2,by rw [if_pos q],?_,d.symm,c.symm⟩
   rw [← e];rfl
  .rw [if_neg q]
   have h:=by
    rw [inD,Ab1,Ag9,Ae8]at h
    exact h.resolve_left q
   obtain⟨i,x,y,e,d,c,f⟩:=vG t a b L h
   exact⟨i+1,x,y,by rw [e];rfl,d,c,f⟩
def uQ {x y i:Nat}{L:List Pl}(h:L[i]? =k0 (t,x,y)):inD (.tup [.str t,.n x,.n y]) (L.map bK)=true:=by
 rw [inD,Ad2]
 exact⟨bK _,Ab6.mpr ⟨_,Ac4 h,rfl⟩,(pV _ _ _ _).mpr ⟨rfl,rfl,rfl⟩⟩
def WI (L:List Pl):Gc (L.map bK)=true:=xl _ (λ_=>rfl) L
def uZ (L:List Pl):GG (L.map bK)<140:=Ah6 (Qz bK 1 (λ_=>by simp [bK]) L) (by decide)
def Fj (t) (a b) (L:List Pl) (h):Gq .e6 (.t [.str t,.int a,.int b]) (.l (L.map bK)) h=k0 (!inD (.tup [.str t,.int a,.int b]) (L.map bK)):=by
 have g:Kd (.t [.str t,.int a,.int b]) (.l (L.map bK)) h=k0 (inD (.tup [.str t,.int a,.int b]) (L.map bK)):=by
  unfold Kd
  rw [W.gK,W.gK,wW (by exact WI L)]
  show(if _=u0 then _ else _)=_
  rw [WI,decide_eq_true (uZ L)]
  rfl
 show(Kd _ _ h).map (!·)=_
 rw [g]
 rfl
def EX {L:List Pl}(h) (c:L.length<=1000) (e:Kr (.tup [.str t,.int a,.int b]) (L.map bK)=k0 i):lZ .b5 (.l (L.map bK)) [.t [.str t,.int a,.int b]] h= .ok (.i i) h:=by
 have g:Kx (.t [.str t,.int a,.int b]) (.l (L.map bK)) h=k0 i:=by
  unfold Kx
  rw [W.gK,W.gK,wW (by exact WI L)]
  show(if _=u0 then _ else _)=_
  rw [WI,decide_eq_true (uZ L),decide_eq_true (by rw [Gg,Aa];lia)]
  exact e
 show(R.of h _).bind _=_
 rw [g]
 rfl
section
variable {n:Nat}{K T:List Tx}{S:List Sy}{ro:Nat}{h:AH}
def Hv (k) (g:bz n K T) (C:h[ro]? =some (.obj "Cases" (cC n K T S)))(b:(bS n K T)[i]? =some (t,x,y)):call prog (k+2) "Cases.bit_of" [.r ro,.s t,.i x,.i y] h= .ok (.i (2 ^ i)) h:=by
 rw [Gb rfl _ _ _ rfl]
 simp only [Qw]
 have a:bZ .str (.s t)=k0 true:=rfl
 rw [xa (by simp_all [a,(xE k (.n x) h rfl),(xE k (.n y) h rfl),Xs])]
 have c:=Ql (F:=(k8 (k+1))) (τ:= [k0 _,k0 (.s t),si x,si y]) (i:=0) (f:= "places") C rfl rfl
 have d:=Fj t x y (bS n K T) h
 rw [uQ b]at d
 obtain⟨j,o,p,e,l,e1,e2⟩:=vG t x y _ (uQ b)
 obtain rfl:=Int.ofNat.inj e1
 obtain rfl:=Int.ofNat.inj e2
 obtain rfl:=oH g b l
 have q:(bS n K T).length<=100:=by rw [XF];have:=g.b6;lia
 have m:mW .b5 (.l ((bS n K T).map bK)) h=true:=rfl
 generalize E.aI _ _ _=X at c ⊢
 rw [xa (by simp_all [c,d])]
 rw [qa (w:= .i (2 ^ i)) (h1:=h) (Ja rfl (by simp_all [c,m,if_true,(EX h (by lia) e),(el i (by grind))])),Ga _ _ _ rfl]
end
def yj (n a b c j p):((cU n a b c).getD j 0).testBit p=(u9 (j<b)&&(u9 (p<n*n)&&c.testBit (p+(a*n+j*(n*n))))):=by
 rw [Ac5]
 by_cases q:j<b
 .rw [lR q,Al0,Ah,Ah0,decide_eq_true q,Ae5]
 .rw [List.getElem?_eq_none (by rw [JU];lia),Option.getD_none,Af9,decide_eq_false q,Ae9]
def yr (n a b c j p):((cM n a b c).getD j 0).testBit p=(u9 (j<a)&&(u9 (p<n)&&c.testBit (p+j*n))):=by
 rw [Ac5]
 by_cases q:j<a
 .rw [m3 q,Al0,Ah,Ah0,decide_eq_true q,Ae5]
 .rw [List.getElem?_eq_none (by rw [qT];lia),Option.getD_none,Af9,decide_eq_false q,Ae9]
def k5 (h:Sub c d):Le (wo n K T c) (wo n K T d):=⟨rfl,λt x y z=>by
 unfold bh at z ⊢
 by_cases q:t∈T
 .rw [if_pos (show t∈(wo n K T _).T from q)]at z ⊢
  have z:((cU n K.length T.length c).getD _ 0).testBit _=true:=z
  show((cU n K.length T.length d).getD _ 0).testBit _=u0
  rw [yj,Aa1,Aa1]at z ⊢
  exact⟨z.1,z.2.1,h _ z.2.2⟩
 .rw [if_neg (show t∉(wo n K T _).T from q)]at z ⊢
  have z:(decide _&&((cM n K.length T.length c).getD (cX t K) 0).testBit x)=true:=z
  show(decide _&&((cM n K.length T.length d).getD (cX t K) 0).testBit x)=u0
  rw [yr,Aa1,Aa1,Aa1]at z ⊢
  exact⟨z.1,z.2.1,z.2.2.1,h _ z.2.2.2⟩⟩
section
variable {n:Nat}{K T:List Tx}
def XC (c d:Nat)(b:t∈K++T) (a:x<n) (f:y<n) (q: ¬ ∃i:Nat,(bS n K T)[i]? =k0 (t,x,y)):bh (wo n K T c) t x y=false:=by
 cases e:bh _ t x y with
 | false=>rfl
 | true=>exact absurd (r9 b a f e) q
def EA (g:bz n K T)(h:(bS n K T)[i]? =k0 (t,x,y)) (c) (d:t'∈K++T) (b:x'<n) (f:y'<n):bh (wo n K T (c ||| 2 ^ i)) t' x' y'=(bh (wo n K T c) t' x' y'||u9 ((t',x',y')=(t,x,y))):=by
 by_cases q: ∃j:Nat,(bS n K T)[j]? =k0 (t',x',y')
 .obtain⟨j,a⟩:=q
  rw [(zm g a _).1,(zm g a _).1,Af,Ad7]
  congr 1
  refine decide_eq_decide.mpr ⟨λe=> ?_,λe=> ?_⟩
  .subst e;rw [h]at a;exact(Ad6.inj a).symm
  .rw [e]at a;exact oH g h a
 .rw [XC _ c d b f q,XC _ c d b f q,decide_eq_false λe=>q ⟨i,by rw [e];exact h⟩]
  rfl
def E4 (g:bz n K T)(h:(bS n K T)[i]? =k0 (t,x,y)) (c) (d:t'∈K++T) (b:x'<n) (f:y'<n):bh (wo n K T (c-(c &&& 2 ^ i))) t' x' y'=(bh (wo n K T c) t' x' y'&& !u9 ((t',x',y')=(t,x,y))):=by
 by_cases q: ∃j:Nat,(bS n K T)[j]? =k0 (t',x',y')
 .obtain⟨j,a⟩:=q
  rw [(zm g a _).1,(zm g a _).1,Wf.aR,Ad7]
  congr 2
  refine decide_eq_decide.mpr ⟨λe=> ?_,λe=> ?_⟩
  .subst e;rw [h]at a;exact(Ad6.inj a).symm
  .rw [e]at a;exact oH g h a
 .rw [XC _ c d b f q,XC _ c d b f q]
  rfl
def vh {t t':Tx}(c:y<n) (b:y'<n):u9 ((t',x',y')=(t,x,y))=(u9 (t'=t)&&u9 (x*n+y=x'*n+y')):=by
 by_cases e:t'=t
 .rw [decide_eq_true e,Ae5]
  refine decide_eq_decide.mpr ⟨λz=> ?_,λz=> ?_⟩
  .have:x'=x/\y'=y:=by simpa [e]using z
   rw [this.1,this.2]
  .have f:x=x':=by rw [← Wf.aD (a:=x) c,z,Wf.aD b]
   have d:y=y':=by rw [← Wf.aH c,z,Wf.aH b]
   rw [e,f,d]
 .rw [decide_eq_false e,Ae9,decide_eq_false]
  exact λz=>e (by injection z)
variable {f:Tx->Nat×Nat}{r low high:Nat}{h:AH}
def Dc.dM (P:Dc (wo n K T low) (wo n K T high) f r h) (g:bz n K T)(b:(bS n K T)[i]? =k0 (t,x,y)) (h1:high.testBit i=u0) (e:low.testBit i=k9):(f t).1.testBit (x*n+y)=k9/\(f t).2.testBit (x*n+y)=true:=by
 obtain⟨e1,c,d,a⟩:=zm g b low
 refine⟨Ak8.mpr λz=> ?_,((P.hi t c).bit x y d a).mpr (by rw [((zm g b high).1),h1])⟩
 have:=((P.lo t c).bit x y d a).mp z
 rw [e1,e]at this
 cases this
def Dc.yes (P:Dc (wo n K T low) (wo n K T high) f r h) (g:bz n K T)(m:(bS n K T)[i]? =k0 (t,x,y))(e:h'[r']? =k0 (.aN (aM (K++T) (zW f t ((f t).1 ||| 2 ^ (x*n+y),(f t).2))))):Dc (wo n K T (low ||| 2 ^ i)) (wo n K T high) (zW f t ((f t).1 ||| 2 ^ (x*n+y),(f t).2)) r' h':=by
 obtain⟨-,s,p,o⟩:=zm g m low
 refine⟨e,g.n4,λd l=> ?_,λd l=> ?_⟩
 .have v:=P.lo d l
  have k: ∀a b,a<n->b<n->bh _ d a b=(bh (wo n K T low) d a b||(u9 (d=t)&&u9 (x*n+y=a*n+b))):=λa b j k=>by rw [EA g m low l j k,vh o k]
  unfold zW
  by_cases q:d=t
  .subst q
   rw [if_pos rfl]
   refine⟨oZ v.lt (Ao1 (by decide) (Wf.place_lt p o)),λa b j c=> ?_⟩
   rw [k a b j c,decide_eq_true rfl,Ae5]
   rw [Af,Ad7,Ae8,Ae8]
   exact or_congr (v.bit a b j c) Iff.rfl
  .rw [if_neg q]
   refine⟨v.lt,λa b j c=> ?_⟩
   rw [k a b j c,decide_eq_false q,Ae9,Bool.or_false]
   exact v.bit a b j c
 .have v:=P.hi d l
  unfold zW
  by_cases q:d=t
  .subst q;rw [if_pos rfl];exact v
  .rw [if_neg q];exact v
def Dc.no (P:Dc (wo n K T low) (wo n K T high) f r h) (g:bz n K T)(s:(bS n K T)[i]? =k0 (t,x,y)) (o:high.testBit i=u0)(e:h'[r']? =k0 (.aN (aM (K++T) (zW f t ((f t).1,(f t).2-2 ^ (x*n+y)))))):Dc (wo n K T low) (wo n K T (high-(high &&& 2 ^ i))) (zW f t ((f t).1,(f t).2-2 ^ (x*n+y))) r' h':=by
 obtain⟨m,A,z,p⟩:=zm g s high
 refine⟨e,g.n4,λc l=> ?_,λc l=> ?_⟩
 .have v:=P.lo c l
  unfold zW
  by_cases q:c=t
  .subst q;rw [if_pos rfl];exact v
  .rw [if_neg q];exact v
 .have v:=P.hi c l
  have k: ∀a b,a<n->b<n->bh _ c a b=(bh (wo n K T high) c a b&& !(u9 (c=t)&&u9 (x*n+y=a*n+b))):=λa b j k=>by rw [E4 g s high l j k,vh p k]
  unfold zW
  by_cases q:c=t
  .subst q
   rw [if_pos rfl]
   have bt:(f c).2.testBit (x*n+y)=true:=(v.bit x y z p).mpr (by rw [m];exact o)
   have u:=by
    have:=X8 (f c).2 (x*n+y)
    rw [jc,jd,bt,if_pos rfl]at this
    exact Int.ofNat.inj (Ad6.inj this)
   refine⟨Ah6 (Ap0 _ _) v.lt,λa b j d=> ?_⟩
   rw [k a b j d,decide_eq_true rfl,Ae5]
   have w:(f c).2-2 ^ (x*n+y)=(f c).2-((f c).2 &&& 2 ^ (x*n+y)):=by rw [u]
   rw [w,Wf.aR,Ad7,Aa1,Aa1]
   exact and_congr (v.bit a b j d) Iff.rfl
  .rw [if_neg q]
   refine⟨v.lt,λa b j d=> ?_⟩
   rw [k a b j d,decide_eq_false q,Ae9,Ao3,Bool.and_true]
   exact v.bit a b j d
end
abbrev xA:Tx:= [98,114,111,107,101,110]
abbrev zk:Tx:= [115,112,108,105,116]
abbrev aG (K T:List Tx) (S:List Sy):D:= .tup [wD K T,.tup (S.map az)]
def zD (k) (w) (l)(h):call prog (k+1) "is_tuple_of" [.t (.str s::r),.s w,.i l] h= .ok (.b (decide (r.length+1=l)&&s==w)) h:=by
 rw [Gb rfl _ _ _ rfl]
 simp only [wz]
 have a:bZ .tuple (.t (.str s::r))=k0 true:=rfl
 have c:bZ .str (.s s)=k0 true:=rfl
 have b:=yp (r.length+1) l h
 by_cases e:r.length+1=l
 .rw [decide_eq_true e]at b ⊢
  rw [xa (by simp_all [a,Xc,ag,Aa7,b])]
  rw [qa (w:= .b (s==w)) (h1:=h) (Ja rfl (by simp_all [aa,jf,c,Xa])),Ga _ _ _ rfl]
  rfl
 .rw [decide_eq_false e]at b ⊢
  rw [zf (by simp_all [a,Xc,ag,Aa7,b]) rfl,Ga _ _ _ rfl]
  rfl
section
variable {n:Nat}{K T:List Tx}{S:List Sy}{h:AH}
def Dm (m r)(c:S[j]? =some s) (e:call prog (m+1) "_law_told" [.i n,.r r,.v (az s)] h= .ok (.v (aF (some false))) h):call prog (m+2) "_law_walks" [.v (aG K T S),.i n,.r r,.t [.str xA,.n j]] h= .ok (.b true) h:=by
 rw [Gb rfl _ _ _ rfl]
 simp only [xq]
 have f:=(Aa0.mp c).1
 have d:=xn m (.n j) h rfl
 have b:aQ (S.map az) (j:Int)=k0 (az s):=by rw [Zd _ _ (by rw [Aa];exact f),Ac,c];rfl
 have a:bZ .tuple (.t [.str xA,.n j])=k0 true:=rfl
 have g:Gq .eq (.i (2)) (.v (.int 0)) h=k0 false:=rfl
 have i:Gq .eq (.i (2)) (.v (.int 2)) h=k0 true:=rfl
 have l:((0:Int)<=(j:Int)):=by lia
 have k:((j:Int)<(S.length:Int)):=by lia
 rw [xa (by simp_all [a,Xc,ag,Aa7,Ad3,g])]
 rw [qa ((Zr (h1:=h) (by simp_all [aa,Qh,Xa,ag,show(xA== ir)=u0 from rfl,Xc,Aa7,Ad3,i])).trans ?_),Ga _ _ _ rfl]
 rw [xa (by simp_all [aa,xf,d,Xs,ag,Q1,XZ,l,k,decide_true,Xc,Aa])]
 exact qa (Ja rfl (by simp_all [aa,xf,b,e,(ki _ k9 h),ag];rfl))
def Hw (m r)(e:call prog (m+1) "_law_split" [.i n,.r r,.t [dn,da,db]] h= .ok (.own [.ref h.length,.ref (h.length+1)]) h2) (b:h2.take h.length=h) (i:h.length<=h2.length) (o:Gu h=true)
 (f:call prog (m+1) "_law_walks" [.v (aG K T S),.i n,.r h.length,.v p1] h2= .ok (.b true) h2) (p:call prog (m+1) "_law_walks" [.v (aG K T S),.i n,.r (h.length+1),.v p2] h2= .ok (.b true) h2):
 call prog (m+2) "_law_walks" [.v (aG K T S),.i n,.r r,.t [.str zk,dn,da,db,p1,p2]] h= .ok (.b true) h:=by
 rw [Gb (d:=xq) rfl _ _ _ rfl]
 simp only [xq]
 have a:bZ .tuple (.t [.str zk,dn,da,db,p1,p2])=k0 true:=rfl
 have g:Gq .eq (.i (6)) (.v (.int 0)) h=k0 false:=rfl
 have l:Gq .ne (.i (6)) (.v (.int 6)) h=k0 false:=rfl
 have q:Gq .ne (.s zk) (.s lM) h=k0 false:=rfl
 rw [xa (by simp_all [a,Xc,ag,Aa7,Ad3,g])]
 rw [xa (by simp_all [aa,jf,Xa,ag,show(zk== ir)=k9 from rfl]),xa (by simp_all [aa,jf,q,ag,Xc,Aa7,Ad3,l])]
 have c:fv (.t [D.str zk,dn,da,db,p1,p2]) (k0 1) (k0 4) h= .ok (.t [dn,da,db]) h:=rfl
 refine fx (by simp_all [c,e];rfl) ?_
 rw [xa (by simp_all [])]
 have a4:aQ [D.str zk,dn,da,db,p1,p2] 4=k0 p1:=rfl
 have a5:aQ [D.str zk,dn,da,db,p1,p2] 5=k0 p2:=rfl
 rw [qa (w:= .b u0) (h1:=h2) (Ja rfl (by simp_all [xr,Qh,xf,aa,a4,a5,f,p]))]
 obtain⟨s,j,k⟩:=mE (d:= .bl u0) (h:=h2) (n:=h.length) rfl i (by rw [b];exact o)
 rw [j,k,b]
end
section
variable {n:Nat}{K T:List Tx}{S:List Sy}{h:AH}{ro low high:Nat}
abbrev iN (ro:Nat) (p:D) (b a:Nat) (x y:Option W):Sl:= [k0 (.r ro),sv p,si b,si a,x,y]
def Ec (m)(C:h[ro]? =some (.obj "Cases" (cC n K T S))) (g:j<S.length) (e:call prog (m+2) "Cases.truth" [.r ro,.i j,.i low,.i high] h= .ok (.v (aF o)) h):call prog (m+3) "Cases.is_shown" [.r ro,.t [.str xA,.n j],.i low,.i high] h= .ok (.b (o==some false)) h:=by
 rw [Gb rfl _ _ _ rfl]
 simp only [qg]
 have b:call prog _ "is_tuple_of" [.t [.str xA,.n j],.s ir,.v (.int 2)] h= .ok (.b true) h:=zD (m+1) xA 2 h
 rw [qa ((Zr (h1:=h) (by simp_all [b])).trans ?_),Ga _ _ _ rfl]
 refine(za (by simp_all [aa,xf];rfl)).trans ?_
 have d:=QC m (.n j) S.length h rfl
 rw [show Qt _ S.length=u0 by rw [Qt,Aa1,decide_eq_true_eq,decide_eq_true_eq];lia]at d
 have c:=Ql (F:=(k8 (m+2))) (τ:=iN ro (.tup [.str xA,.n j]) low high (si j) y0) (i:=0) (f:= "sayings") C rfl rfl
 have a:=QI (F:=(k8 (m+2))) (τ:=iN ro (.tup [.str xA,.n j]) low high (si j) y0) (i:=0) (m:= "truth") (q:= "Cases.truth") (es:= .cons .v4 (.b .v2 .v3)) (ws:= [.i j,.i low,.i high]) C rfl rfl (by simp_all [])
 have a:=a.trans e
 have c6:=ki o k9 h
 generalize E.aI _ _ _=X at c ⊢
 generalize E.bL _ _ _ _ _=Y at a ⊢
 exact qa (Ja rfl (by simp_all))
def M4 (i):((2 ^ i &&& high)-((2 ^ i &&& high) &&& low)=0)↔ ¬(high.testBit i=u0/\low.testBit i=k9):=by
 rw [sub_zero]
 constructor
 .rintro z ⟨c,b⟩
  have:=z i (by simp_all)
  rw [b]at this
  cases this
 .intro z k a
  rw [Ah2,Ad7,Aa1,decide_eq_true_eq]at a
  obtain⟨rfl,a⟩:=a
  cases q:low.testBit i with
  | true=>rfl
  | false=>exact absurd ⟨a,q⟩ z
def Ms (m)(C:h[ro]? =k0 (.obj "Cases" (cC n K T S)))(e:call prog (m+1) "Cases.bit_of" [.r ro,.v dn,.v da,.v db] h= .ok (.i v) h)(f:call prog (m+1) "Cases.is_shown" [.r ro,.v p1,.i (low ||| v),.i high] h= .ok (.b b1) h) (k:call prog (m+1) "Cases.is_shown" [.r ro,.v p2,.i low,.i (high-(high &&& v))] h= .ok (.b b2) h):
 call prog (m+2) "Cases.is_shown" [.r ro,.t [.str zk,dn,da,db,p1,p2],.i low,.i high] h= .ok (.b (!decide ((v &&& high)-((v &&& high) &&& low)=0)&&(b1&&b2))) h:=by
 rw [Gb (d:=qg) rfl _ _ _ rfl]
 simp only [qg]
 have c:call prog _ "is_tuple_of" [.t [.str zk,dn,da,db,p1,p2],.s ir,.v (.int 2)] h= .ok (.b false) h:=zD m xA 2 h
 have g:call prog _ "is_tuple_of" [.t [.str zk,dn,da,db,p1,p2],.s lM,.v (.int 6)] h= .ok (.b true) h:=zD m zk 6 h
 rw [xa (by simp_all [c]),xa (by simp_all [g,ag])]
 have j:aQ [D.str zk,dn,da,db,p1,p2] 1=k0 dn:=rfl
 have a2:aQ [D.str zk,dn,da,db,p1,p2] 2=k0 da:=rfl
 have a3:aQ [D.str zk,dn,da,db,p1,p2] 3=k0 db:=rfl
 have a4:aQ [D.str zk,dn,da,db,p1,p2] 4=k0 p1:=rfl
 have a5:aQ [D.str zk,dn,da,db,p1,p2] 5=k0 p2:=rfl
 have a:=QI (F:=(k8 (m+1))) (τ:=iN ro (.tup [.str zk,dn,da,db,p1,p2]) low high y0 y0) (i:=0) (m:= "bit_of") (q:= "Cases.bit_of") (es:= .cons (.ix .v1 (.int 1)) (.b (.ix .v1 (.int 2)) (.ix .v1 (.int 3)))) (ws:= [.v dn,.v da,.v db]) C rfl rfl (by simp_all [aa,j,a2,a3])
 have a:=a.trans e
 rw [za (τ1:=iN ro (.tup [.str zk,dn,da,db,p1,p2]) low high y0 (si v)) (h1:=h) (by
  generalize E.bL _ _ _ _ _=X at a ⊢
  simp_all [a])]
 have b:Gm (k8 (m+1)) (.cmp .eq (.bin .band (.bin .band .v5 .v3) (.inv .v2)) (.int 0)) (iN ro (.tup [.str zk,dn,da,db,p1,p2]) low high y0 (si v)) h= .ok (u9 ((v &&& high)-((v &&& high) &&& low)=0)) h:=by
  simp_all [jc,jd,qK,oP]
 cases q:u9 ((v &&& high)-((v &&& high) &&& low)=0)
 .rw [q]at b
  rw [xa b]
  rw [qa (w:= .b (b1&&b2)) (h1:=h) (Ja rfl (W1 ((QI (F:=(k8 (m+1))) (τ:=iN ro (.tup [.str zk,dn,da,db,p1,p2]) low high none (si v)) (i:=0) (m:= "is_shown") (q:= "Cases.is_shown") (es:= .cons (.ix .v1 (.int 4)) (.b (.bin .bor .v2 .v5) .v3)) (ws:= [.v p1,.i (low ||| v),.i high]) C rfl rfl (by simp_all [aa,a4,xo,wn])).trans f) ((QI (F:=(k8 (m+1))) (τ:=iN ro (.tup [.str zk,dn,da,db,p1,p2]) low high none (si v)) (i:=0) (m:= "is_shown") (q:= "Cases.is_shown") (es:= .cons (.ix .v1 (.int 5)) (.b .v2 (.bin .band .v3 (.inv .v5)))) (ws:= [.v p2,.i low,.i (high-(high &&& v))]) C rfl rfl (by simp_all [aa,a5,jc,qK])).trans k))),Ga _ _ _ rfl]
  rfl
 .rw [q]at b
  rw [zf (w:= .b k9) b rfl,Ga _ _ _ rfl]
  rfl
end
def sA (h:Sub a w) (q:Sub b w):Sub (a ||| b) w:=λk z=>by
 rw [Af,Ae8]at z
 exact z.elim (h k) (q k)
def yH (h:Sub w c) (q:w.testBit i=k9):Sub w (c-(c &&& 2 ^ i)):=λk z=>by
 rw [Wf.aR,h k z,Ad7,Ae5,Ag6]
 refine decide_eq_false λe=> ?_
 rw [← e,q]at z
 cases z
def yA (p:Gu h=u0) (a b):Gu (h++ [.aN a,.aN b])=true:=by
 rw [Gu,List.all_append,show h.all Cell.pure=u0 from p];rfl
inductive Pp (n:Nat) (K T:List Tx) (S:List Sy):D->Prop where
 | brk {j:Nat}(h:j<S.length):Pp n K T S (.tup [.str xA,.n j])
 | dM {i x y:Nat}{t:Tx}{p1 p2:D}(h:(bS n K T)[i]? =k0 (t,x,y)) (h1:Pp n K T S p1) (h2:Pp n K T S p2):Pp n K T S (.tup [.str zk,.str t,.n x,.n y,p1,p2])
def Pp.nr {S:List Sy}(h:Pp n K T S p):Gd p=true:=by
 induction h with
 | brk _=>rfl
 | dM _ _ _ a b=>simp [a,b]
structure Wk (n:Nat) (K T:List Tx) (S:List Sy) (c:Nat) (p:D) (low high r:Nat) (h:AH):Prop where
 mT:Gu h=true-> ∀m,c<=m->call prog m "_law_walks" [.v (aG K T S),.i n,.r r,.v p] h= .ok (.b true) h
 snd: ∀w,Sub low w->Sub w high-> ∃s∈S,∀o,Td (wo n K T w) (wo n K T w) s o->o=k0 k9
def Lw (n:Nat) (K T:List Tx) (S:List Sy) (c:Nat) (p:D) (b a:Nat):Prop:= ∀f r h,Dc (wo n K T b) (wo n K T a) f r h->Wk n K T S c p b a r h
section
variable {n q c low high:Nat}{K T:List Tx}{S:List Sy}
def Lw.up (w:Lw n K T S c p low high) (l:c<=c'):Lw n K T S c' p low high:=λf r h P=>⟨λb m a=>(w f r h P).mT b m (Ab5 l a),(w f r h P).snd⟩
def Lw.brk (l: ∀s∈S,s.wf (K++T)/\s.dp<=q)(b:S[j]? =k0 s) (g:Td (wo n K T low) (wo n K T high) s (k0 k9)):Lw n K T S (q+10) (.tup [.str xA,.n j]) low high:=λf r h P=>by
 have c:=Ac4 b
 obtain⟨wf,dp⟩:=l s c
 refine⟨λ_ m p=> ?_,λw i o=>⟨s,c,λd a=>Td.mono (k5 i) (k5 o) (Le.refl _) s _ d k9 g a rfl⟩⟩
 obtain⟨k,rfl⟩:=nk m 2 (by lia)
 obtain⟨d,a,e⟩:=rf P s (k+1) (by lia) wf
 rw [a.uniq g]at e
 exact Dm k r b e
theorem Lw.dM (g:bz n K T)(a:(bS n K T)[i]? =k0 (t,x,y)) (q:high.testBit i=u0) (v:low.testBit i=k9) (F:3<=c) (u:Lw n K T S c p1 (low ||| 2 ^ i) high) (z:Lw n K T S c p2 low (high-(high &&& 2 ^ i))):Lw n K T S (c+1) (.tup [.str zk,.str t,.n x,.n y,p1,p2]) low high:=λf r h P=>by
 obtain⟨-,B,C,d⟩:=zm g a low
 obtain⟨D,l2⟩:=P.dM g a q v
 have A:(K++T).length<=100:=by rw [Aa6];have:=g.k4;have:=g.t4;lia
 have e:=u _ _ _ (P.yes g a (r':=h.length) (h':=h++ [.aN (aM (K++T) (zW f t ((f t).1 ||| 2 ^ (x*n+y),(f t).2))),.aN (aM (K++T) (zW f t ((f t).1,(f t).2-2 ^ (x*n+y))))]) (by simp))
 have j:=z _ _ _ (P.no g a q (r':=h.length+1) (h':=h++ [.aN (aM (K++T) (zW f t ((f t).1 ||| 2 ^ (x*n+y),(f t).2))),.aN (aM (K++T) (zW f t ((f t).1,(f t).2-2 ^ (x*n+y))))]) (by simp))
 refine⟨λb m E=> ?_,λw p s=> ?_⟩
 .obtain⟨k,rfl⟩:=nk m 3 (by lia)
  exact Hw _ r (AU k P.ad g.n4 B A C d D l2) (by simp) (by simp) b (e.mT (yA b _ _) _ (by lia)) (j.mT (yA b _ _) _ (by lia))
 .cases o:w.testBit i with
  | true=>exact e.snd w (sA p λk l=>by
   rw [Ad7,decide_eq_true_eq]at l
   rw [← l];exact o) s
  | false=>exact j.snd w p (yH s o)
def walk (g:bz n K T) (A: ∀s∈S,s.wf (K++T)/\s.dp<=q)(O:Pp n K T S p): ∀d,dep p<=d-> ∀low high:Nat,low<2 ^ bN n K T->high<2 ^ bN n K T-> ∃b:Bool,(∀ m ro (h':AH),d+q+12<=m->h'[ro]? =some (.obj "Cases" (cC n K T S))->call prog m "Cases.is_shown" [.r ro,.v p,.i low,.i high] h'= .ok (.b b) h')/\(b=true->Lw n K T S (d+q+12) p low high):=by
 induction O with
 | @brk j B=>
  intro d D low high c a
  obtain⟨s,f⟩: ∃s,S[j]? =k0 s:=⟨S[j],Aa4 B⟩
  obtain⟨wf,dp⟩:=A s (Ac4 f)
  obtain⟨o,w, -⟩:=xU (q+9) j low high (ro:=0) (h:= [Cell.obj "Cases" _]) g rfl c a f (by lia) wf
  refine⟨o==k0 k9,λm ro h' F C=> ?_,λz=>(Lw.brk A f (eq_of_beq z▸w)).up (by lia)⟩
  obtain⟨k,rfl⟩:=nk m 3 (by lia)
  obtain⟨Q,u,e⟩:=xU (k+1) j low high g C c a f (by lia) wf
  rw [u.uniq w]at e
  exact Ec k C B e
 | @dM i x y t R U v _ _ r l=>
  intro d D low high c a
  simp only [dep,GG]at D
  obtain⟨d,rfl⟩: ∃e,d=e+1:=⟨d-1,by lia⟩
  have J:i<bN n K T:=by
   have:=(Aa0.mp v).1
   rw [XF]at this
   exact this
  obtain⟨H,M,E⟩:=r d (by lia) _ high (oZ c (Ao1 (by decide) J)) a
  obtain⟨P,I,N⟩:=l d (by lia) low _ c (Ah6 (Ap0 _ _) a)
  refine⟨!u9 ((2 ^ i &&& high)-((2 ^ i &&& high) &&& low)=0)&&(H&&P),λm ro h' F C=> ?_,λz=> ?_⟩
  .obtain⟨k,rfl⟩:=nk m 3 (by lia)
   exact Ms _ C (Hv k g C v) (M _ ro h' (by lia) C) (I _ ro h' (by lia) C)
  .rw [Aa1,Aa1,Ag6,decide_eq_false_iff_not]at z
   obtain⟨L,G⟩:=Classical.not_not.mp λy=>z.1 ((M4 i).mpr y)
   rw [show d+1+q+12=d+q+12+1 by lia]
   exact Lw.dM g v L G (by lia) (E z.2.1) (N z.2.2)
end
abbrev kc:List Tx:= [wH,Xb,Zk,wX,Za,zc,xb,Qi]
abbrev gO (r:Nat) (N:List Tx) (g p:Nat) (a x5:Option W):Sl:= [k0 (.r r),k0 (.l (N.map .str)),si g,si p,a,x5]
def i7 (X Y)(e:Gn τ i=k0 (.s s)):Gm F (.or (.cmp .eq (.var i) (.str X)) (.cmp .eq (.var i) (.str Y))) τ h= .ok (s==X||s==Y) h:=by
 rw [Gm,kf (a:=s==X) (b:=s==Y) (by simp only [eval,Gi,e,R.ae,Xa,R.ao,ag]) (by simp only [eval,Gi,e,R.ae,Xa,R.ao,ag]),R.ae]
 rfl
def MC (k)(G:N.length<=8) (e:h[r]? =k0 (ah ns i v)): ∃ f v',f.wf N/\f.dp<=2/\execs (k8 (k+4)) (match bc.body with | .cons _ (.cons _ r)=>r | r=>r) (gO r N g p y0 y0) h= .ret (.v (dm f)) (h.set r (ah ns i v')):=by
 have L:r<h.length:=(Aa0.mp e).1
 have A: ∀w,_[r]? =k0 (ah ns i w):=λw=>Ab9 L
 obtain⟨a,v1,l,x,e1⟩:=yb G 1 _ h v e
 have e1:call prog (k+4) "_law_expression" [.r r,.l (N.map .str),.v (.int 1)] h= .ok (.v (aV a)) (h.set r (ah ns i v1)):=by
  rw [show 1+(k+1)+2=k+4 by lia]at e1
  exact e1
 have H:Gj .mod (p:Int) 8=k0 _:=nI p 8 (by decide)
 have pl:p % 8<8:=Aj5 _ (by decide)
 obtain⟨w,B⟩: ∃w,kc[p % 8]? =k0 w:=⟨kc[p % 8],Aa4 pl⟩
 have u:aQ [D.str wH,.str Xb,.str Zk,.str wX,.str Za,.str zc,.str xb,.str Qi] ((p % 8:Nat):Int)=k0 (.str w):=by
  show aQ (kc.map D.str) _=_
  rw [Zd _ _ (by rw [Aa];exact pl),Ac,B];rfl
 have n:w=wH\/w=Xb\/w=Zk\/w=wX\/w∈ [Za,zc,xb,Qi]:=by
  have:=Ac4 B
  simpa using this
 simp only [bc]
 have K: ∀X,execs (k8 _) X _ _=execs (k8 (k+4)) (.cons (.af 5 (.ix (.lst (.cons (.str f6) (.cons (.str iR) (.g (.str gm) (.str g7) (.str fE) (.str gF) (.str lP) (.str vW))))) (.bin .mod .v3 (.int 8)))) (.cons (.af 4 (.call "_law_expression" (.c .v0 .v1 (.int 1)))) X)) (gO r N g p none none) h:=fun X=>by
  rw [za (τ1:=gO r N g p y0 (k0 (.s w))) (h1:=h) (by simp_all [H,JP,u])]
  rw [za (τ1:=gO r N g p (sv (aV a)) (k0 (.s w))) (h1:=h.set r (ah ns i v1)) (by simp_all [e1])]
 rw [← K]
 have two:(w==wH||w==Xb)=true-> ∃ b v',b.wf N/\b.dp<=2/\ ∀X,execs (k8 (k+4)) (.cons (.r (.or (.cmp .eq .v5 (.str f6)) (.cmp .eq .v5 (.str iR))) (.tup (.c .v5 .v4 (.call "_law_expression" (.c .v0 .v1 (.int 1)))))) X) (gO r N g p (sv (aV a)) (some (.s w))) _= .ret (.t [.str w,aV a,aV b]) (h.set r (ah ns i v')):=fun q=>by
  obtain⟨b,v2,d,C,e2⟩:=yb G 1 _ _ v1 (A v1)
  have e2:call prog (k+4) "_law_expression" [.r r,.l (N.map .str),.v (.int 1)] (h.set r (ah ns i v1))= .ok (.v (aV b)) (h.set r (ah ns i v2)):=by
   rw [show 1+(k+1)+2=k+4 by lia,Ad8]at e2
   exact e2
  refine⟨b,v2,d,by lia,λX=> ?_⟩
  refine qa ((Zr (h1:=h.set r (ah ns i v1)) ?_).trans (qa (Ja rfl ?_)))
  .rw [i7 wH Xb rfl,q]
  .simp_all [e2]
 rcases n with rfl | rfl | rfl | rfl | n
 .obtain⟨b,v2,d,C,e2⟩:=two rfl
  exact⟨.dD a b,v2,⟨l,d⟩,by simp only [Fc.dp];lia,e2 _⟩
 .obtain⟨b,v2,d,C,e2⟩:=two rfl
  exact⟨.d6 a b,v2,⟨l,d⟩,by simp only [Fc.dp];lia,e2 _⟩
 .refine⟨.d5 a,v1,l,Ap1 x,?_⟩
  rw [xa (i7 (s:=Zk) wH Xb rfl)]
  exact zf (i7 (s:=Zk) Zk wX rfl) (Ja rfl (by simp_all [];rfl))
 .refine⟨.au a,v1,l,Ap1 x,?_⟩
  rw [xa (i7 (s:=wX) wH Xb rfl)]
  exact zf (i7 (s:=wX) Zk wX rfl) (Ja rfl (by simp_all [];rfl))
 .obtain⟨c,v2,z,e2⟩:=qh (k+3) (A v1) (m:=90) (by decide) (by decide)
  rw [Ad8]at e2
  have e2:call prog (k+4) "_law_draw" [.r r,.v (.int 90)] (h.set r (ah ns i v1))= .ok (.i c) (h.set r (ah ns i v2)):=e2
  obtain⟨t,v3,E,o⟩:=qh (k+3) (A v2) (m:=8) (by decide) (by decide)
  rw [Ad8]at o
  have o:call prog (k+4) "_law_draw" [.r r,.v (.int 8)] (h.set r (ah ns i v2))= .ok (.i t) (h.set r (ah ns i v3)):=o
  have I:((10:Int)+(c:Int))=((10+c:Nat):Int):=rfl
  obtain⟨j,J⟩: ∃j,[0,1,1,2,2,3,4,10+c][t]? =k0 j:=⟨_,Aa4 (show t< [0,1,1,2,2,3,4,10+c].length from E)⟩
  have y:aQ [D.int 0,.int 1,.int 1,.int 2,.int 2,.int 3,.int 4,.n (10+c)] (t:Int)=k0 (.n j):=by
   show aQ (aA [0,1,1,2,2,3,4,10+c]) _=_
   rw [Zd _ _ (by rw [Aa];exact E),Ac,J];rfl
  refine⟨.cnt w j a,v3,⟨n,l⟩,Ap1 x,?_⟩
  have F:(w==wH||w==Xb)=k9/\(w==Zk||w==wX)=false:=by
   have:w=Za\/w=zc\/w=xb\/w=Qi:=by simpa using n
   rcases this with rfl | rfl | rfl | rfl<;>exact⟨rfl,rfl⟩
  rw [xa (by rw [i7 wH Xb rfl,F.1])]
  rw [xa (by rw [i7 Zk wX rfl,F.2])]
  exact qa (Ja rfl (by simp_all [e2,Jc,I,o,JP,y];rfl))
def Bq (Q:N.length<=8): ∀ g k h v,h[r]? =k0 (ah ns i v)-> ∃ s v',s.wf N/\s.dp<=g+2/\call prog (g+k+5) "_law_saying" [.r r,.l (N.map .str),.i g] h= .ok (.v (az s)) (h.set r (ah ns i v')):=by
 have leaf: ∀ g K h v,h[r]? =k0 (ah ns i v)-> ∀ p v1,(g=0\/ ¬7<p)->call prog (K+4) "_law_draw" [.r r,.v (.int 11)] h= .ok (.i p) (h.set r (ah ns i v1))-> ∃ s v',s.wf N/\s.dp<=g+2/\call prog (K+5) "_law_saying" [.r r,.l (N.map .str),.i g] h= .ok (.v (az s)) (h.set r (ah ns i v')):=by
  intro g K h v e p v1 q e1
  have n:r<h.length:=(Aa0.mp e).1
  obtain⟨f,v2,wf,S,e2⟩:=MC K Q (Ab9 n)
  rw [Ad8]at e2
  refine⟨.fact f,v2,wf,by simp only [Sy.dp];lia,?_⟩
  rw [Gb rfl _ _ _ rfl]
  simp only [bc]at e2 ⊢
  refine fx (by simp_all [e1];rfl) ?_
  rw [xa (by
   have c:=gA 0 g (h.set r (ah ns i v1))
   have c:Gq .gt (.i g) (.v (.int 0)) (h.set r (ah ns i v1))=k0 (u9 (0<g)):=c
   have l:Gq .gt (.i p) (.v (.int 7)) (h.set r (ah ns i v1))=k0 (u9 (7<p)):=gA 7 p _
   rw [Gm,W1 (a:=u9 (0<g)) (b:=u9 (7<p)) (by simp_all [c]) (by simp_all [l]),R.ae]
   have:(u9 (0<g)&&u9 (7<p))=false:=by
    rw [Bool.and_eq_false_iff,decide_eq_false_iff_not,decide_eq_false_iff_not]
    rcases q with q | q
    .exact .inl (by lia)
    .exact .inr q
   rw [this]
   rfl),e2]
  exact Ga _ h _ (Ae1 ..)
 intro g
 induction g with
 | zero=>
  intro k h v e
  obtain⟨p,v1,P,e1⟩:=qh _ e (m:=11) (by decide) (by decide)
  rw [show 0+k+5=k+5 by lia]
  have e1:call prog _ "_law_draw" [.r r,.v _] h= .ok _ _:=e1
  exact leaf 0 k h v e p v1 (.inl rfl) e1
 | succ g B=>
  intro k h v e
  have n:r<h.length:=(Aa0.mp e).1
  have E: ∀w,_[r]? =k0 (ah ns i w):=λw=>Ab9 n
  have u: ∀w,(h.set r (ah ns i w)).length=h.length:=λw=>Ae1 ..
  rw [show g+1+k+5=(g+k+1)+5 by lia]
  obtain⟨p,v1,P,e1⟩:=qh _ e (m:=11) (by decide) (by decide)
  by_cases q:7<p
  .have e1:call prog (g+k+5) "_law_draw" [.r r,.v (.int 11)] h= .ok (.i p) (h.set r (ah ns i v1)):=e1
   obtain⟨s,v2,x,T,e2⟩:=B k _ v1 (E v1)
   rw [Ad8]at e2
   have A:(((g+1:Nat):Int)-1)=((g:Nat):Int):=by lia
   rw [Gb (d:=bc) rfl _ _ _ rfl]
   show ∃s v',_/\_/\Gw _ (execs _ _ [k0 (.r r),k0 (.l (N.map .str)),si (g+1),y0,y0,y0] h)=_
   simp only [bc]
   rw [za (τ1:=gO r N (g+1) p y0 y0) (h1:=h.set r (ah ns i v1)) (by simp_all [e1])]
   have M: ∀a X,execs (k8 (g+k+5)) (.cons (.iff (.and (.cmp .gt .v2 (.int 0)) (.cmp .gt .v3 (.int 7))) a .nil) X) (gO r N (g+1) p y0 y0) (h.set r (ah ns i v1))=(execs (k8 (g+k+5)) a (gO r N (g+1) p y0 y0) (h.set r (ah ns i v1))).seq λG h=>execs (k8 (g+k+5)) X G h:=λa X=>by
    rw [execs,Zr (h1:=h.set r (ah ns i v1))]
    have c:Gq .gt (.i (g+1)) (.v (.int 0)) (h.set r (ah ns i v1))=k0 (u9 (0<g+1)):=gA 0 (g+1) _
    have l:Gq .gt (.i p) (.v (.int 7)) (h.set r (ah ns i v1))=k0 (u9 (7<p)):=gA 7 p _
    rw [Gm,W1 (a:=u9 (0<g+1)) (b:=u9 (7<p)) (by simp_all [c]) (by simp_all [l]),R.ae,decide_eq_true q,decide_eq_true (by lia)]
    rfl
   rw [M]
   rw [za (τ1:=gO r N (g+1) p (sv (az s)) y0) (h1:=h.set r (ah ns i v2)) (by simp_all [Wc,A,e2])]
   have C:Gq .eq (.i p) (.v (.int 8)) (h.set r (ah ns i v2))=k0 (u9 (p=8)):=Xm p 8 _
   by_cases o:p=8
   .refine⟨.neg s,v2,x,by simp only [Sy.dp];lia,?_⟩
    rw [zf (w:= .v (az (.neg s))) (by simp_all [C,decide_eq_true o]) (Ja rfl (by simp_all [];rfl)),O.bM]
    exact Ga _ h _ (u v2)
   .rw [xa (by simp_all [C,decide_eq_false o])]
    obtain⟨z,v3,j,F,y⟩:=B k _ v2 (E v2)
    rw [Ad8]at y
    obtain⟨f,L,I,t,J,H⟩: ∃f:Sy->Sy->Sy,(∀ a b,(f a b).dp=max a.dp b.dp+1)/\(∀ a b,a.wf N->b.wf N->(f a b).wf N)/\ ∃t,aQ [D.str wx,.str zB] ((p:Int)-9)=k0 (.str t)/\ ∀a b,az (f a b)= .tup [.str t,az a,az b]:=by
     have:p=9\/p=10:=by lia
     rcases this with rfl | rfl
     .exact⟨.bP,λ_ _=>rfl,λ_ _ h g=>⟨h,g⟩,wx,rfl,λ_ _=>rfl⟩
     .exact⟨.bO,λ_ _=>rfl,λ_ _ h g=>⟨h,g⟩,zB,rfl,λ_ _=>rfl⟩
    refine⟨f s z,v3,I _ _ x j,by rw [L];lia,?_⟩
    rw [qa (w:= .v (az (f s z))) (h1:=h.set r (ah ns i v3)) (Ja rfl (by rw [H];simp_all [Wc,JP,J,A,y])),O.bM]
    exact Ga _ h _ (u v3)
  .have e1:call prog (g+k+1+4) "_law_draw" [.r r,.v (.int 11)] h= .ok (.i p) (h.set r (ah ns i v1)):=e1
   exact leaf (g+1) (g+k+1) h v e p v1 (.inr q) e1
noncomputable abbrev cV (r:Nat) (w:D) (M:Nat) (N:List Tx) (L:List D) (x:Option W):Sl:= [k0 (.r r),sv w,si M,k0 (.l (N.map .str)),k0 (.own L),x]
def Mz (k)(E:N.length<=8) (D:ns.length<=63) (e:h[r]? =k0 (ah ns i v)) (F:L.length=j) (G:j<5) (y: ∀s∈L,s.wf N/\s.dp<=4+j): ∃ s O v',s.wf N/\s.dp<=5+j/\execs (k8 (k+7)) qj (cV r w M N (L.map az) (si j)) h= .next (cV r w M N ((L++ [s]).map az) (si j)) (h.set r (ah ns O v')):=by
 have B:r<h.length:=(Aa0.mp e).1
 have g: ∀i w,_[r]? =k0 (ah ns i w):=λi w=>Ab9 B
 obtain⟨v1,e1⟩:=yP (k+6) D e
 obtain⟨s,v2,l,I,e2⟩:=Bq E 1 _ _ v1 (g (i+1) v1)
 have e2:call prog (k+7) "_law_saying" [.r r,.l (N.map .str),.v (.int 1)] (h.set r (ah ns (i+1) v1))= .ok (.v (az s)) (h.set r (ah ns (i+1) v2)):=by
  rw [Ad8,show 1+(k+1)+5=k+7 by lia]at e2
  exact e2
 unfold qj
 rw [za (τ1:=cV r w M N (L.map az) (si j)) (h1:=h.set r (ah ns (i+1) v1)) (by simp_all [e1])]
 have z:(L.map az).length<bf:=by rw [Gg,Aa];lia
 rw [za (τ1:=cV r w M N ((L++ [s]).map az) (si j)) (h1:=h.set r (ah ns (i+1) v2)) (by
  simp_all [e2,z,if_true]
  rw [Ae0]
  rfl)]
 have o: ∀C:AH,Gq .gt _ (.v (.int 0)) C=k0 _:=gA 0 j
 by_cases q:0<j
 .obtain⟨d,v3,K,c⟩:=qh _ (g (i+1) v2) (m:=9) (by decide) (by decide)
  rw [Ad8]at c
  have c:call prog (k+7) "_law_draw" [.r r,.v (.int 9)] _= .ok _ _:=c
  have u:Gm (k8 (k+7)) (.and (.cmp .gt .v5 (.int 0)) (.cmp .eq (.call "_law_draw" (.b .v0 (.int 9))) (.int 0))) (cV r w M N ((L++ [s]).map az) (si j)) (h.set r (ah ns (i+1) v2))= .ok (decide (d=0)) (h.set r (ah ns (i+1) v3)):=by
   simp_all [o,decide_eq_true q,c,oP]
  by_cases p:d=0
  .obtain⟨x,v4,J,n⟩:=qh (k+6) (g (i+1) v3) (m:=j) q (by lia)
   rw [Ad8]at n
   have f:x<L.length:=by lia
   have a:aQ ((L++ [s]).map az) (x:Int)=k0 (az L[x]):=by
    rw [Zd _ _ (by rw [Aa,Aa6];lia),Ac,Ac9 f,Aa4 f];rfl
   obtain⟨A,H⟩:=y _ (Al4 f)
   refine⟨.neg L[x],i+1,v4,A,by simp only [Sy.dp];lia,?_⟩
   have b:dv ((L++ [s]).map az).length (-1)=k0 L.length:=by
    rw [Aa,Aa6]
    simp [dv]
    lia
   have t:((L++ [s]).map az).set L.length (.tup [.str WJ,az L[x]])=(L++ [Sy.neg L[x]]).map az:=by
    rw [Ae0,Ae0,An2 _ _ (by rw [Aa];lia),Aa,Am3]
    rfl
   rw [za (τ1:=cV r w M N ((L++ [Sy.neg L[x]]).map az) (si j)) (h1:=h.set r (ah ns (i+1) v4)) ((Zr (h1:=h.set r (ah ns (i+1) v3)) (by rw [u,decide_eq_true p])).trans ?_),execs]
   rw [za (τ1:=cV r w M N ((L++ [Sy.neg L[x]]).map az) (si j)) (h1:=h.set r (ah ns (i+1) v4)),execs]
   generalize (L++ [s]).map az=Z at a b t ⊢
   simp_all [n,mm,a,b,t,Int.reduceNeg]
  .refine⟨s,i+1,v3,l,by lia,?_⟩
   rw [za (hY (h1:=h.set r (ah ns (i+1) v3)) (by rw [u,decide_eq_false p])),execs]
 .refine⟨s,i+1,v2,l,by lia,?_⟩
  rw [xa (by simp_all [o,decide_eq_false q]),execs]
theorem vP (k)(t:N.length<=8) (q:ns.length<=63): ∀ c j i v (h:AH) (L:List Sy) (x:Option W),h[r]? =k0 (ah ns i v)->L.length=j->j+c<=5->(∀ s∈L,s.wf N/\s.dp<=4+j)-> ∃(d:List Sy) (l:Nat) (g:Int) (m:Option W),(∀ s∈d,s.wf N/\s.dp<=4+(j+c))/\d.length=j+c/\Gp (Gr [5] u0) (λτ h=>execs (k8 (k+7)) qj τ h) ((Al7 j c).map λ(x:Nat)=>D.n x) (cV r w M N (L.map az) x) h= .next (cV r w M N (d.map az) m) (h.set r (ah ns l g))
 | 0,j,i,v,h,L,x,e,f,_,b=>⟨L,i,v,x,b,f,by
  rw [List.range'_zero,Af0,zI]
  congr 1
  obtain⟨p,e⟩:=Aa0.mp e
  rw [← e,List.set_getElem_self]⟩
 | c+1,j,i,v,h,L,x,e,f,B,b=>by
  have p:r<h.length:=(Aa0.mp e).1
  obtain⟨s,i1,v1,u,z,e1⟩:=Mz k (M:=M) (w:=w) t q e f (by lia) b
  obtain⟨d,l,g,m,y,A,n⟩:=vP k (M:=M) (w:=w) t q c (j+1) i1 v1 (h.set r (ah ns i1 v1)) (L++ [s]) (si j) (Ab9 p) (by rw [Aa6,f];rfl) (by lia) (λo a=>by
   rcases Ac8.mp a with a | a
   .exact⟨(b o a).1,by have:=(b o a).2;lia⟩
   .rw [Ac2.mp a];exact⟨u,by lia⟩)
  rw [Ad8]at n
  refine⟨d,l,g,m,λs b=>by have:=y s b;exact⟨this.1,by lia⟩,by lia,?_⟩
  rw [Al2,Ab1,zb (τ1:=cV r w M N (L.map az) (si j)) rfl e1,n]
def vf (k)(g:bz n K T)(z:M<=5) (t:ns.length<=63) (e:h[r]? =k0 (ah ns i v)): ∃ S j v',(∀ s∈S,s.wf (K++T)/\s.dp<=9)/\S.length<=M/\call prog (k+8) "_law_theory" [.r r,.v (wD K T),.i M] h= .ok (.v (aG K T S)) (h.set r (ah ns j v')):=by
 have q:r<h.length:=(Aa0.mp e).1
 obtain⟨d,v1,B,e1⟩:=qh _ e (m:=M+1) (by lia) (by lia)
 have e1:call prog (k+7) "_law_draw" [.r r,.i _] h= .ok _ _:=e1
 have y:(K++T).length<=8:=by rw [Aa6];have:=g.k4;have:=g.t4;lia
 obtain⟨L,j,v',u,a,A,f⟩:=vP k (M:=M) (N:=K++T) (w:=wD K T) y t d 0 i v1 _ [] y0 (Ab9 q) rfl (by lia) (λ_ h=>absurd h Ai4)
 rw [Ad8]at f
 refine⟨L,j,v',λs l=>by have:=a s l;exact⟨this.1,by lia⟩,by lia,?_⟩
 rw [Gb (d:=xu) rfl _ _ _ rfl]
 show Gw _ (execs _ _ [k0 _,sv _,si M,y0,y0,y0] h)=_
 simp only [xu]
 have o:(K.map D.str).length+(T.map D.str).length<=bf:=by rw [Gg,Aa,Aa];have:=g.k4;have:=g.t4;lia
 rw [za (τ1:= [k0 _,sv _,si M,k0 (.l ((K++T).map .str)),y0,y0]) (h1:=h) (by
  simp_all [aa,Qh,xf,vb,o,if_true,ag,vA]
  rw [Ae0])]
 rw [za (τ1:=cV r (wD K T) M (K++T) [] y0) (h1:=h) (by simp_all [])]
 have c:((M:Int)+1)=((M+1:Nat):Int):=rfl
 have p:Gs (k8 (k+7)) (.aj (.call "_law_draw" (.b .v0 (.bin .add .v2 (.int 1))))) (cV r (wD K T) M (K++T) [] none) h= .ok ((List.range d).map fun x=>D.n x) (h.set r (ah ns i v1)):=by
  have b: -(fY)<=(d:Int)/\(d:Int)<fY:=by rw [GS];lia
  simp_all [Jc,c,e1,b,and_self,if_true,Ad5]
 rw [za (τ1:=cV r (wD K T) M (K++T) (L.map az) u) (h1:=h.set r (ah ns j v')) (by
  rw [exec,p,R.ar,Aj7]
  exact f)]
 rw [qa (w:= .v (aG K T L)) (h1:=h.set r (ah ns j v')) (Ja rfl (by simp_all [W2,ag]))]
 exact Ga _ h _ (Ae1 ..)
def vH {f:Tx->Nat×Nat}{t:Tx}{N:List Tx}(h:t∉N):GE (aM N f) t (bb (f t).1 (f t).2)=aM (N++ [t]) f:=by
 unfold GE aM
 rw [if_neg,Ae0]
 .rfl
 .rw [Ad2]
  rintro ⟨p,b,e⟩
  obtain⟨x,a,rfl⟩:=Ab6.mp b
  have e:=by simpa using e
  exact h (e▸a)
def jv (h) (a b:Cell):(h++ [a]).set h.length b=h++ [b]:=by simp
def Jn (h) (a:Cell):(h++ [a])[h.length]? =k0 a:=by simp
theorem ot {st:Option W->Sl}(c: ∀x d,GB (st x) 3 (.v d)=st (sv d)): ∀(a N:List Tx) (x:Option W),(N++a).Nodup->(∀ t∈a,∀N:List Tx,N.length<=8->execs F b (st (k0 (.s t))) (h++ [.aN (aM N f)])= .next (st (k0 (.s t))) (h++ [.aN (GE (aM N f) t (bb (f t).1 (f t).2))]))->(N++a).length<=8-> ∃i,Gp (Gr [3] u0) (λτ h=>execs F b τ h) (a.map .str) (st x) (h++ [.aN (aM N f)])= .next (st i) (h++ [.aN (aM (N++a) f)])
 | [],N,x,_,_,_=>⟨x,by rw [Ae3];rfl⟩
 | t::a,N,x,k,g,j=>by
  have l:t∉N:=λz=>(Aj3.mp k).2.2 t z t Aa5 rfl
  have e1:=g t Aa5 N (by rw [Aa6]at j;lia)
  rw [vH l]at e1
  obtain⟨i,e⟩:=ot c a (N++ [t]) (k0 (.s t)) (by rw [Ae];exact k) (λu m=>g u (Aa2 _ m)) (by rw [Ae];exact j)
  refine⟨i,?_⟩
  rw [Ab1,zb (τ1:=st (k0 (.s t))) (by rw [GD,c]) e1,e,Ae]
  rfl
def fO (n:Nat) (T:List Tx) (t:Tx):Nat×Nat:=if t∈T then(0,2 ^ (n*n)-1)else(0,Wf.bD n)
def Fu (k)(g:bz n K T) (h):call prog (k+2) "_law_open" [.v (wD K T),.i n] h= .ok (.r h.length) (h++ [.aN (aM (K++T) (fO n T))]):=by
 obtain⟨j,r,u⟩:=Aj3.mp g.nd
 have v:n*n<=16:=Af5 g.n4 g.n4
 have o:Gj .mul (n:Int) (n:Int)=k0 _:=je n n (by have:=g.n4;lia)
 have m:=el (n*n) (by lia)
 have a:((2 ^ (n*n):Nat):Int)-1=((2 ^ (n*n)-1:Nat):Int):=by
  have:=Ad4 (n*n)
  lia
 rw [Gb (d:=zC) rfl _ _ _ rfl]
 simp only [zC]
 have l: ∀N:List Tx,N.length<=8->(aM N (fO n T)).length<bf:=λN c=>by rw [Gg,aM,Aa];lia
 obtain⟨e,e1⟩:=ot (F:=(k8 (k+1))) (h:=h) (b:=Wt) (f:=fO n T) (st:=λx=> [sv _,si n,k0 (.r h.length),x]) (λ_ _=>rfl) K [] y0 j (λt i N c=>by
  have p:t∉T:=λz=>u t i t z rfl
  have q:=uw k n (h++ [.aN (aM N (fO n T))]) g.n4
  have nr:Gd (bb (fO n T t).1 (fO n T t).2)=true:=rfl
  have:fO n T t=(0,Wf.bD n):=by rw [fO,if_neg p]
  unfold Wt
  rw [za (τ1:= [sv (wD K T),si n,k0 (.r h.length),k0 (.s t)]) (h1:=h++ [.aN (GE (aM N (fO n T)) t (bb (fO n T t).1 (fO n T t).2))]) (by
   simp_all [q,Xt (Jn h (.aN (aM N (fO n T)))),ag]
   rw [if_pos ⟨l N c,rfl⟩,jv,this]
   rfl),execs]) (by have:=g.k4;rw [Ae7];lia)
 obtain⟨s,e2⟩:=ot (F:=(k8 (k+1))) (h:=h) (b:=zt) (f:=fO n T) (st:=λx=> [sv (wD K T),si n,k0 (.r h.length),x]) (λ_ _=>rfl) T K e g.nd (λt i N c=>by
  have:fO n T t=(0,2 ^ (n*n)-1):=by rw [fO,if_pos i]
  unfold zt
  rw [za (τ1:= [sv (wD K T),si n,k0 (.r h.length),k0 (.s t)]) (h1:=h++ [.aN (GE (aM N (fO n T)) t (bb (fO n T t).1 (fO n T t).2))]) (by
   simp_all [o,m,Wc,a,Xt (Jn h (.aN (aM N (fO n T)))),ag]
   rw [if_pos ⟨l N c,rfl⟩,jv,this]
   rfl),execs]) (by have:=g.k4;have:=g.t4;rw [Aa6];lia)
 rw [Ae7]at e1
 rw [za (τ1:= [sv (wD K T),si n,k0 (.r h.length),y0]) (h1:=h++ [.aN (aM [] (fO n T))]) (by simp_all [ag];rfl)]
 rw [za (τ1:= [sv (wD K T),si n,k0 (.r h.length),e]) (h1:=h++ [.aN (aM K (fO n T))]) (by
  rw [exec,show Gs (k8 (k+1)) (.seq (.ix .v0 (.int 0))) [sv (wD K T),si n,k0 (.r h.length),y0] (h++ [.aN (aM [] (fO n T))])= .ok (K.map .str) (h++ [.aN (aM [] (fO n T))])by simp_all [aa,Qh],R.ar]
  exact e1)]
 rw [za (τ1:= [sv (wD K T),si n,k0 (.r h.length),s]) (h1:=h++ [.aN (aM (K++T) (fO n T))]) (by
  rw [exec,show Gs (k8 (k+1)) (.seq (.ix .v0 (.int 1))) [sv (wD K T),si n,k0 (.r h.length),e] (h++ [.aN (aM K (fO n T))])= .ok (T.map .str) (h++ [.aN (aM K (fO n T))])by simp_all [aa,xf],R.ar]
  exact e2)]
 rw [qa (w:= .r h.length) (h1:=h++ [.aN (aM (K++T) (fO n T))]) rfl]
 show fin h.length _ _=_
 unfold fin
 rw [if_neg (by simp),if_neg (by simp [W.keep])]
def MR {n:Nat}{K T:List Tx}(g:bz n K T){r:Nat}{h:AH}(e:h[r]? =k0 (.aN (aM (K++T) (fO n T)))):Dc (wo n K T 0) (wo n K T (2 ^ bN n K T-1)) (fO n T) r h:=by
 have a: ∀ {i x y:Nat}{t:Tx},_[i]? =k0 _->bh _ t x y=true:=λ{i x y t} c=>by
  have j:=(Aa0.mp c).1
  rw [XF]at j
  rw [(zm g c _).1,Ag3,decide_eq_true j]
 refine⟨e,g.n4,λt f=> ?_,λt f=> ?_⟩
 .have:(fO n T t).1=0:=by unfold fO;split<;>rfl
  rw [this]
  refine⟨Ad4 _,λx y b d=> ?_⟩
  rw [Af9]
  refine⟨(λz=>by cases z),λz=> ?_⟩
  obtain⟨i,c⟩:=r9 f b d z
  rw [(zm g c 0).1,Af9]at z
  cases z
 .unfold fO
  by_cases q:t∈T
  .rw [if_pos q]
   refine⟨Nat.sub_lt (Ad4 _) (by decide),λx y b d=> ?_⟩
   obtain⟨i,c⟩:=o4 (K:=K) b d (.inl q)
   have k:x*n+y<n*n:=Wf.place_lt b d
   show(2 ^ _-1).testBit (x*n+y)=u0↔_
   rw [Ag3,decide_eq_true k,a c]
  .rw [if_neg q]
   have v:=(V.leaf (n:=n)).1
   refine⟨v.lt,λx y b d=>(v.bit x y b d).trans ?_⟩
   by_cases e:x=y
   .subst e
    obtain⟨i,c⟩:=o4 (T:=T) b b (.inr ⟨((Ac8.mp f).resolve_right q),rfl⟩)
    rw [a c]
    simp [Q5]
   .rw [bh,if_neg (show t∉(wo n K T _).T from q),decide_eq_false e,Ae9]
    simp [Q5,e]
def eM (n x:Nat):Nat:=((Aa3 n).map λa=>(x.testBit a).toNat*2 ^ (a*n+a)).sum
def yu {n x:Nat}(b:n<=4) (a:x<2 ^ n):eM n x=Wf.cO n (z8 n x):=by
 have: ∀n,n<5-> ∀x,x<16->eM n x=Wf.cO n (z8 n x):=by decide +kernel
 exact this n (by lia) x (Ab3 a (Ad0 (by decide) b))
def FG (k n x) (h) (l:n<=4):call prog (k+1) "_law_spread" [.i n,.i x] h= .ok (.i (eM n x)) h:=by
 rw [Gb rfl _ _ _ rfl]
 have e:eval (k8 k) Jo [si n,si x] h= .ok (.own (aA ((Aa3 n).map λa=>(x.testBit a).toNat*2 ^ (a*n+a)))) h:=by
  unfold Jo
  rw [Zn (λa=> .n _) rfl (by lia) λa c=>⟨.i _,?_,rfl⟩]
  .rw [aA,Ad1];rfl
  .have f:=je a n (by lia)
   have j:(x.testBit a).toNat<=1:=by cases x.testBit a<;>decide
   have i:=ZS (x.testBit a).toNat (a*n+a) (by lia) (by have:=Wf.place_lt c c;have:=xj (show n<=20 by lia);lia)
   have d:(((a*n:Nat):Int)+(a:Int))=((a*n+a:Nat):Int):=rfl
   simp_all [f,Jc,d,Zq,nJ,i]
 have g:dw .sum [.own (aA ((Aa3 n).map λa=>(x.testBit a).toNat*2 ^ (a*n+a)))] h= .ok (.i (eM n x)) h:=by
  show(R.of h ((k0 _).bind λb=>if b.length<=bf then Kk b else y0)).bind _=_
  rw [Ag2,if_pos (by rw [Gg,aA,Aa,Aa,Af3];lia),JR]
  rfl
 simp only [QF]
 rw [qa (w:= .i (eM n x)) (h1:=h) (Ja rfl (by simp_all [e,g])),Ga _ _ _ rfl]
theorem nD {st:Option W->Option W->Sl}(g: ∀x y d,GB (st x y) 4 (.v d)=st (sv d) y) (L a:List Tx) (l:(a++L).Nodup) (o:(a++L).length<=8) (n: ∀(j:Nat) (t:Tx) (y:Option W) (N:List Tx),L[j]? =k0 t->N.length<=8-> ∃i,execs F b (st (si j) y) (h++ [.aN (aM N f)])= .next (st (si j) i) (h++ [.aN (GE (aM N f) t (bb (f t).1 (f t).2))])): ∀(c j:Nat) (x y:Option W),j+c=L.length-> ∃M i,Gp (Gr [4] u0) (λτ h=>execs F b τ h) ((Al7 j c).map λ(x:Nat)=>D.n x) (st x y) (h++ [.aN (aM (a++L.take j) f)])= .next (st M i) (h++ [.aN (aM (a++L) f)])
 | 0,j,x,y,s=>⟨x,y,by rw [Ai7 (by lia)];rfl⟩
 | c+1,j,x,y,s=>by
  have k:j<L.length:=by lia
  have r:L[j]? =k0 L[j]:=Aa4 k
  have m:a++L=(a++L.take j)++(L[j]::L.drop (j+1)):=by
   rw [Ae,←Am4 k,List.take_append_drop]
  have p:L[j]∉a++L.take j:=λz=>by
   rw [m]at l
   exact(Aj3.mp l).2.2 _ z _ Aa5 rfl
  obtain⟨q,e1⟩:=n j L[j] y (a++L.take j) r (by rw [m,Aa6]at o;lia)
  rw [vH p,Ae,show L.take j++ [L[j]]=L.take (j+1)by rw [List.take_append_getElem k]]at e1
  obtain⟨M,i,e⟩:=nD g L a l o n c (j+1) (si j) q (by lia)
  refine⟨M,i,?_⟩
  rw [Al2,Ab1,zb (τ1:=st (si j) y) (by rw [GD,g]) e1,e]
noncomputable def fS (n:Nat) (K T:List Tx) (c:Nat) (t:Tx):Nat×Nat:=if t∈T then((cU n K.length T.length c).getD (cX t T) 0,(cU n K.length T.length c).getD (cX t T) 0)else(eM n ((cM n K.length T.length c).getD (cX t K) 0),eM n ((cM n K.length T.length c).getD (cX t K) 0))
def Q6 {n c:Nat}{K T:List Tx}(g:bz n K T){r:Nat}{h:AH}(e:h[r]? =k0 (.aN (aM (K++T) (fS n K T c)))):Dc (wo n K T c) (wo n K T c) (fS n K T c) r h:=by
 have ok:=g.wo c
 have a: ∀t∈K++T,V n (fS n K T c t).1 (bh _ t)/\(fS n K T c t).2=(fS n K T c t).1:=λt b=>by
  unfold fS
  by_cases q:t∈T
  .rw [if_pos q]
   have i:=(zo q).2
   refine⟨⟨?_,λx y f d=> ?_⟩,rfl⟩
   .show(cU n K.length T.length c).getD _ 0<_
    rw [Ac5,lR i]
    exact Aj5 _ (Ad4 _)
   .rw [bh,if_pos (show t∈(wo n K T c).T from q)]
    exact Iff.rfl
  .rw [if_neg q]
   have lt:(cM n K.length T.length c).getD (cX t K) 0<2 ^ n:=by
    rw [Ac5,m3 ((zo ((Ac8.mp b).resolve_right q)).2)]
    exact Aj5 _ (Ad4 _)
   refine⟨⟨?_,λx y f d=> ?_⟩,rfl⟩
   .show eM n _<_
    rw [yu g.n4 lt]
    exact Wf.cW (XT _ _)
   .show(eM n _).testBit _=u0↔_
    rw [yu g.n4 lt,vQ f d,bh,if_neg (show t∉(wo n K T c).T from q),Aa1,decide_eq_true_eq]
    exact Iff.rfl
 exact⟨e,g.n4,λt b=>(a t b).1,λt b=>by rw [(a t b).2];exact(a t b).1⟩
def IL (k c)(g:bz n K T) (h):call prog (k+2) "_law_seen" [.v (wD K T),.v (wo n K T c).aT] h= .ok (.r h.length) (h++ [.aN (aM (K++T) (fS n K T c))]):=by
 obtain⟨p,u,Q⟩:=Aj3.mp g.nd
 have J:=g.k4
 have P:=g.t4
 rw [Gb (d:=JD) rfl _ _ _ rfl]
 show Gw _ (execs _ _ [sv (wD K T),sv (ig n (cM n K.length T.length c) (cU n K.length T.length c)),y0,y0,y0,y0] h)=_
 simp only [JD]
 have E: ∀N:List Tx,N.length<=8->(aM N (fS n K T c)).length<bf:=λN r=>by rw [Gg,aM,Aa];lia
 have o: ∀(L:List Tx) (j:Nat) (t:Tx),L[j]? =k0 t->aQ (L.map D.str) (j:Int)=k0 _:=λL j t e=>by
  rw [Zd _ _ (by rw [Aa];exact(Aa0.mp e).1),Ac,e];rfl
 generalize m:ig n _ _=a
 have X:aQ [D.n n,.tup _,.tup (aA (cU n K.length T.length c))] 1=k0 (.tup (aA (cM n K.length T.length c))):=rfl
 obtain⟨v,A,e1⟩:=nD (F:=(k8 (k+1))) (h:=h) (b:=Qu) (f:=fS n K T c) (st:=λx y=> [sv (wD K T),sv a,si n,k0 (.r h.length),x,y]) (λ_ _ _=>rfl) K [] p (by rw [Ae7];lia) (λj t y N l r=>by
  have M:=Ac4 l
  have I:t∉T:=λz=>Q t M t z rfl
  have B:j<(cM n K.length T.length c).length:=by rw [qT];exact(Aa0.mp l).1
  have H:=FG k n ((cM n K.length T.length c).getD j 0) (h++ [.aN (aM N (fS n K T c))]) g.n4
  have s:fS n K T c t=(eM n ((cM n K.length T.length c).getD j 0),eM n ((cM n K.length T.length c).getD j 0)):=by rw [fS,if_neg I,j4 p l]
  have U:=mY _ j B
  have a2:=o K j t l
  refine⟨sv (.int ((eM n ((cM n K.length T.length c).getD j 0):Nat):Int)),?_⟩
  unfold Qu
  rw [za (τ1:= [sv (wD K T),sv a,si n,k0 (.r h.length),si j,sv (.int ((eM n ((cM n K.length T.length c).getD j 0):Nat):Int))]) (h1:=h++ [.aN (aM N (fS n K T c))]) (by
   rw [← m]
   simp_all [aa,Q0,U,H])]
  rw [za (τ1:= [sv (wD K T),sv a,si n,k0 (.r h.length),si j,sv (.int ((eM n ((cM n K.length T.length c).getD j 0):Nat):Int))]) (h1:=h++ [.aN (GE (aM N (fS n K T c)) t (bb (fS n K T c t).1 (fS n K T c t).2))]) (by
   simp_all [aa,Qh,a2,Xt (Jn h (.aN (aM N (fS n K T c)))),ag]
   rw [if_pos ⟨E N r,rfl⟩,jv,s]),execs]) K.length 0 y0 y0 (by lia)
 obtain⟨O,S,e2⟩:=nD (F:=(k8 (k+1))) (h:=h) (b:=qu) (f:=fS n K T c) (st:=λx y=> [sv (wD K T),sv a,si n,k0 (.r h.length),x,y]) (λ_ _ _=>rfl) T K g.nd (by rw [Aa6];lia) (λj t y N l r=>by
  have B:j<(cU n K.length T.length c).length:=by rw [JU];exact(Aa0.mp l).1
  have s:fS n K T c t=((cU n K.length T.length c).getD j 0,(cU n K.length T.length c).getD j 0):=by rw [fS,if_pos (Ac4 l),j4 u l]
  have a2:=o T j t l
  refine⟨y,?_⟩
  unfold qu
  rw [za (τ1:= [sv (wD K T),sv a,si n,k0 (.r h.length),si j,y]) (h1:=h++ [.aN (GE (aM N (fS n K T c)) t (bb (fS n K T c t).1 (fS n K T c t).2))]) (by
   rw [← m]
   simp_all [aa,xf,kv,(mY _ j B),a2,Xt (Jn h (.aN (aM N (fS n K T c)))),ag]
   rw [if_pos ⟨E N r,rfl⟩,jv,s]),execs]) T.length 0 v A (by lia)
 rw [List.take_zero,Ae7]at e1
 rw [List.take_zero,Ae3]at e2
 rw [Ae7]at e1
 have G: ∀(i:Int) (L:List Tx) (x y:Option W) (C:AH),L.length<=4->aQ [hX K,hX T] i=k0 (hX L)->Gs (k8 (k+1)) (.aj (.bi .len (.a (.ix .v0 (.int i))))) [sv (wD K T),sv a,si n,k0 (.r h.length),x,y] C= .ok ((Al7 0 L.length).map λ(x:Nat)=>D.n x) C:=λi L x y C V q=>by
  rw [← Aj7]
  exact jj (by simp_all [aa,q,Xc,ag,Aa]) (by lia)
 rw [za (τ1:= [sv (wD K T),sv a,si n,y0,y0,y0]) (h1:=h) (by
  rw [← m]
  simp_all [aa,kK])]
 rw [za (τ1:= [sv (wD K T),sv a,si n,k0 (.r h.length),y0,y0]) (h1:=h++ [.aN (aM [] (fS n K T c))]) (by simp_all [ag];rfl)]
 rw [za (τ1:= [sv (wD K T),sv a,si n,k0 (.r h.length),v,A]) (h1:=h++ [.aN (aM K (fS n K T c))]) (by
  rw [exec,G 0 K y0 y0 _ J rfl,R.ar]
  exact e1)]
 rw [za (τ1:= [sv (wD K T),sv a,si n,k0 (.r h.length),O,S]) (h1:=h++ [.aN (aM (K++T) (fS n K T c))]) (by
  rw [exec,G 1 T v A _ P rfl,R.ar]
  exact e2)]
 rw [qa (w:= .r h.length) (h1:=h++ [.aN (aM (K++T) (fS n K T c))]) rfl]
 show fin h.length (.r h.length) _=_
 unfold fin
 rw [if_neg (by simp),if_neg (by simp [W.keep])]
def nE {F:Fx}{k:Nat}{aB:List Nat}{it:It}{c elt:E}{τ:Sl}{h:AH}{ds:List D}(Q:D->D->Prop) (i:Gk F it τ h= .ok ds h) (l:ds.length<=1000) (e: ∀d∈ds,∃y,eval F elt (GB (Ab k y0++aB.map λj=>Gi τ j) 0 (.v d)) h= .ok (.v y) h/\Q d y): ∃f:D->D,eval F (.comp [0] u0 k aB it k9 c elt) τ h= .ok (.own (ds.map f)) h/\ ∀d∈ds,Q d (f d):=by
 have: ∀d,∃y,d∈ds->eval F elt _ h= .ok _ h/\Q d y:=λd=>by
  by_cases m:d∈ds
  .obtain⟨y,g⟩:=e d m
   exact⟨y,λ_=>g⟩
  .exact⟨.au,λz=>absurd z m⟩
 obtain⟨f,b⟩:=Classical.skolem.mp this
 refine⟨f,?_,λd a=>(b d a).2⟩
 exact wm f i (by rw [Gg];lia) λd a=>⟨_,rfl,_,(b d a).1,rfl⟩
theorem vJ (f:D->D): ∀ds:List D,(∀ d∈ds,∃b,f d= .bl b)-> ∃bs:List Bool,ds.map f=bs.map .bl
 | [],_=>⟨[],rfl⟩
 | d::ds,h=>by
  obtain⟨b,e⟩:=h d Aa5
  obtain⟨bs,e2⟩:=vJ f ds λd a=>h d (Aa2 _ a)
  exact⟨b::bs,by rw [Ab1,e,e2];rfl⟩
section
variable {n q:Nat}{K T:List Tx}{S:List Sy}
def uD (m c) (g:bz n K T) (I: ∀s∈S,s.wf (K++T)/\s.dp<=q) (W:S.length<=100) (U:q+8<=m) (h) (R:Gu h=true): ∃b:Bool,call prog (m+1) "_law_keeps" [.v (aG K T S),.v (wo n K T c).aT] h= .ok (.b b) h/\(b=true↔ ∀s∈S,Td (wo n K T c) (wo n K T c) s (some true)):=by
 obtain⟨k,rfl⟩:=nk m 2 (by lia)
 have e1:=IL k c g h
 have P:=Q6 g (c:=c) (Jn h (.aN (aM (K++T) (fS n K T c))))
 rw [Gb (d:=zy) rfl _ _ _ rfl]
 show ∃b,Gw _ (execs _ _ [sv (aG K T S),sv ((wo n K T c).aT),y0] h)=_/\_
 simp only [zy]
 have u:(h++ [Cell.aN (aM (K++T) (fS n K T c))]).take h.length=h:=by simp
 have J:h.length<=(h++ [Cell.aN (aM (K++T) (fS n K T c))]).length:=by simp
 generalize h++ [Cell.aN _]=j at e1 P u J
 have B:aQ [D.n n,.tup (aA (cM n K.length T.length c)),.tup (aA (cU n K.length T.length c))] 0=k0 _:=rfl
 have H: ∀s∈S,∃o,Td _ _ s o/\eval (k8 (k+2)) (.cmp .c6 (.call "_law_told" (.c (.ix .v1 (.int 0)) .v2 .v0)) (.bl true)) [sv (az s),sv ((wo n K T c).aT),some (.r h.length)] j= .ok (.b (o==some true)) j:=fun s a=>by
  obtain⟨o,r,p⟩:=rf P s (k+2) (by have:=(I s a).2;lia) (I s a).1
  have p:call prog (k+2) "_law_told" [.i n,.r h.length,.v (az s)] j= .ok (.v (aF o)) j:=p
  have O:(wo n K T c).aT= .tup [.n n,.tup (aA (cM n K.length T.length c)),.tup (aA (cU n K.length T.length c))]:=rfl
  refine⟨o,r,?_⟩
  rw [O]
  simp_all [aa,B,p,(ki o u0 j)]
 obtain⟨f,t,x⟩:=nE (F:=(k8 (k+2))) (k:=1) (aB:= [1,2]) (it:= .seq (.ix .v0 (.int 1))) (c:= .bl true) (elt:= .cmp .c6 (.call "_law_told" (.c (.ix .v1 (.int 0)) .v2 .v0)) (.bl true)) (τ:= [sv (aG K T S),sv ((wo n K T c).aT),some (.r h.length)]) (h:=j) (ds:=S.map az) (fun d y=> ∀s∈S,d=az s-> ∃o,Td (wo n K T c) (wo n K T c) s o/\y= .bl (o==some true)) (by simp_all [aa,xf]) (by rw [List.length_map];lia) (fun d l=>by
  obtain⟨s,a,rfl⟩:=Ab6.mp l
  obtain⟨o,r,p⟩:=H s a
  refine⟨.bl (o==k0 u0),p,λN A e=> ?_⟩
  obtain⟨L,C,i⟩:=H N A
  rw [← e]at i
  rw [p]at i
  refine⟨L,C,?_⟩
  injection i with i
  injection i)
 obtain⟨bs,v⟩:=vJ f (S.map az) λd l=>by
  obtain⟨s,a,e⟩:=Ab6.mp l
  obtain⟨o, -,e2⟩:=x d l s a e.symm
  exact⟨_,e2⟩
 rw [v]at t
 have t:eval (k8 (k+2)) Wz [sv (aG K T S),sv ((wo n K T c).aT),k0 (.r h.length)] j= .ok (.own (bs.map .bl)) j:=t
 refine⟨bs.all id,?_,λz s a=> ?_,λz=> ?_⟩
 .have E:aQ [wD K T,D.tup (S.map az)] 0=k0 (wD K T):=rfl
  refine fx (by simp_all [aa,E,e1];rfl) ?_
  rw [qa (w:= .b (bs.all id)) (h1:=j) (Ja rfl (qv t))]
  obtain⟨V,Q,M⟩:=mE (d:= .bl (bs.all id)) (h:=j) (n:=h.length) rfl J (by rw [u];exact R)
  rw [Q,M,u]
 .obtain⟨o,r,e⟩:=x (az s) (Ab6.mpr ⟨s,a,rfl⟩) s a rfl
  have m:f (az s)∈bs.map D.bl:=by rw [← v];exact Ab6.mpr ⟨_,Ab6.mpr ⟨s,a,rfl⟩,rfl⟩
  obtain⟨b,G,e2⟩:=Ab6.mp m
  rw [e]at e2
  have e2:b=(o==k0 u0):=by injection e2
  have:=Ai6.mp z b G
  rw [e2]at this
  have:o=k0 true:=eq_of_beq this
  rw [← this]
  exact r
 .rw [Ai6]
  intro b G
  have m:D.bl b∈bs.map D.bl:=Ab6.mpr ⟨b,G,rfl⟩
  rw [← v]at m
  obtain⟨d,l,e⟩:=Ab6.mp m
  obtain⟨s,a,rfl⟩:=Ab6.mp l
  obtain⟨o,r,e2⟩:=x (az s) l s a rfl
  rw [e2,r.uniq (z s a)]at e
  injection e with e
  exact e.symm
end
def Iy (l) (x):aA (l++ [x])=aA l++ [.n x]:=by simp
noncomputable def cb:Ex->List Tx
 | .name t=> [t]
 | .turned a=>cb a
 | .closed a=>cb a
 | .plus a b=>cb a++cb b
 | .less a b=>cb a++cb b
 | .both a b=>cb a++cb b
 | .joined a b=>cb a++cb b
 | _=> []
def CN:Fc->List Tx
 | .dD a b=>cb a++cb b
 | .d6 a b=>cb a++cb b
 | .d5 a=>cb a
 | .au a=>cb a
 | .cnt _ _ a=>cb a
def J7:Sy->List Tx
 | .fact f=>CN f
 | .neg a=>J7 a
 | .bP a b=>J7 a++J7 b
 | .bO a b=>J7 a++J7 b
def zG (h:a<=2 ^ x) (g:b<=2 ^ y):a+b<=2 ^ (max x y+1):=by
 have c:2 ^ x<=2 ^ max x y:=Ad0 (by decide) (Nat.le_max_left _ _)
 have d:2 ^ y<=2 ^ max x y:=Ad0 (by decide) (Nat.le_max_right _ _)
 lia
def kM (h:a<=2 ^ x):a<=2 ^ (x+1):=Ab5 h (Ad0 (by decide) (Ag4 _))
theorem Jd: ∀e:Ex,(cb e).length<=2 ^ e.dp
 | .name _=>Aa9 _
 | .same=>Ae6 _
 | .all=>Ae6 _
 | .none=>Ae6 _
 | .turned a=>kM (Jd a)
 | .closed a=>kM (Jd a)
 | .plus a b=>by rw [cb,Aa6];exact zG (Jd a) (Jd b)
 | .less a b=>by rw [cb,Aa6];exact zG (Jd a) (Jd b)
 | .both a b=>by rw [cb,Aa6];exact zG (Jd a) (Jd b)
 | .joined a b=>by rw [cb,Aa6];exact zG (Jd a) (Jd b)
theorem Qo: ∀s:Sy,(J7 s).length<=2 ^ (s.dp+1)
 | .fact f=>by
  cases f with
  | dD a b=>show(cb a++cb b).length<=_;rw [Aa6];exact zG (Jd a) (Jd b)
  | d6 a b=>show(cb a++cb b).length<=_;rw [Aa6];exact zG (Jd a) (Jd b)
  | d5 a=>exact kM (Jd a)
  | au a=>exact kM (Jd a)
  | cnt _ _ a=>exact kM (Jd a)
 | .neg a=>kM (Qo a)
 | .bP a b=>by
  rw [J7,Aa6,Sy.dp]
  have:=zG (Qo a) (Qo b)
  rw [show max (a.dp+1) (b.dp+1)+1=max a.dp b.dp+1+1 by lia]at this
  exact this
 | .bO a b=>by
  rw [J7,Aa6,Sy.dp]
  have:=zG (Qo a) (Qo b)
  rw [show max (a.dp+1) (b.dp+1)+1=max a.dp b.dp+1+1 by lia]at this
  exact this
def g8 (m:Nat) (h:AH) (p:D×List Tx):Prop:=(∃ i,p.1= .int i/\p.2= [])\/ ∃xs,p.1= .tup xs/\call prog m "names_in" [.v p.1] h= .ok (.own (p.2.map .str)) h
theorem r6 : ∀(ps:List (D×List Tx)) j x,(∀ p∈ps,g8 m h p)->j.length+(ps.flatMap (·.2)).length<=900000-> ∃L,Gp (Gr [2] u0) (λτ h=>execs (k8 m) qo τ h) (ps.map (·.1)) [sv th,k0 (.own (j.map .str)),x] h= .next [sv th,k0 (.own ((j++ps.flatMap (·.2)).map .str)),L] h
 | [],j,x,_,_=>⟨x,by simp [Gp]⟩
 | (d,l)::ps,j,x,c,a=>by
  rw [Ag0,Aa6]at a
  have a:j.length+(l.length+(ps.flatMap (·.2)).length)<=900000:=a
  obtain⟨L,e⟩:=r6 ps (j++l) (sv d) (λp b=>c p (Aa2 _ b)) (by rw [Aa6];lia)
  refine⟨L,?_⟩
  rw [Ab1,zb (τ1:= [sv th,k0 (.own (j.map .str)),sv d]) rfl,e,Ag0,Ae]
  show execs _ qo _ h=_
  unfold qo
  rcases c (d,l) Aa5 with⟨i,e1,e2⟩ | ⟨f,e1,e2⟩
  .cases e1
   cases e2
   rw [xa (by simp_all [M6,Ty.kP]),execs,Ae3]
  .cases e1
   have e2:=e2
   have g:(j.map D.str).length+(l.map D.str).length<bf:=by rw [Gg,Aa,Aa];lia
   rw [za ((Zr (h1:=h) (by simp_all [Ld,Ty.gB])).trans ?_),execs]
   rw [za (τ1:= [sv th,k0 (.own ((j++l).map .str)),k0 (.t f)]) (by
    simp_all [e2,g,if_true]
    rw [Ae0]),execs]
def pw (a:(s==zh)=k9) (ps:List (D×List Tx)) (b: ∀p∈ps,g8 m h p) (c:(ps.flatMap (·.2)).length<=900000):call prog (m+1) "names_in" [.t (.str s::ps.map (·.1))] h= .ok (.own ((ps.flatMap (·.2)).map .str)) h:=by
 obtain⟨d,e⟩:=r6 ps [] y0 b (by simp_all)
 rw [Ae7]at e
 rw [Gb rfl _ _ _ rfl]
 simp only [ZE]
 rw [xa (by
  rw [← a]
  simp_all [aa,jf,Xa])]
 refine fx (by simp_all [];rfl) ?_
 have sl:fv (.t (.str s::ps.map (·.1))) (k0 1) y0 h= .ok (.t (ps.map (·.1))) h:=by
  show ag _ h=_
  rw [show cut _ (k0 1) y0=_ from z6 _ 1]
  rfl
 rw [za (by
  rw [exec,show Gs (k8 m) _ [k0 _,k0 _,y0] h= .ok (ps.map (·.1)) h by simp_all [sl],R.ar]
  exact e)]
 rw [qa rfl,Gv _ _ _ rfl]
def Z7 (a:(s==zh)=k9):call prog (m+1) "names_in" [.t [.str s]] h= .ok (.own (([]:List Tx).map .str)) h:=pw a [] (fun _ h=>absurd h List.not_mem_nil) (Nat.zero_le _)
def lY (a:(s==zh)=k9) (c:g8 m h (d,l)) (e:l.length<=400000):call prog (m+1) "names_in" [.t [.str s,d]] h= .ok (.own (l.map .str)) h:=by
 have:=pw a [_] (λp b=>by rw [Ac2.mp b];exact c) (by simp;lia)
 simpa using this
def zP (c:(s==zh)=k9) (f:g8 m h (d,l)) (a:g8 m h (d',l')) (g:l.length<=400000) (e:l'.length<=400000):call prog (m+1) "names_in" [.t [.str s,d,d']] h= .ok (.own ((l++l').map .str)) h:=by
 have:=pw c [_,_] (λp b=>by
  obtain rfl | b:=Ab8.mp b
  .exact f
  .rw [Ac2.mp b];exact a) (by simp;lia)
 simpa using this
def sH (e): ∃xs,aV e= .tup xs:=by cases e<;>exact⟨_,rfl⟩
def Z1 (s): ∃xs,az s= .tup xs:=by
 cases s with
 | fact f=>cases f<;>exact⟨_,rfl⟩
 | _=>exact⟨_,rfl⟩
def xJ (d) (h:d<=17):2 ^ d<=400000:=Ab5 (Ad0 (by decide) h) (by decide)
def KL (h): ∀ e m,e.dp+1<=m->e.dp<=16->call prog m "names_in" [.v (aV e)] h= .ok (.own ((cb e).map .str)) h:=by
 intro e
 have ok: ∀ e m,(∀ m,e.dp+1<=m->e.dp<=16->call prog m "names_in" [.v _] h= .ok _ h)->e.dp+1<=m->e.dp<=16->g8 m h (aV e,cb e)/\(cb e).length<=400000:=fun e m d f j=>by
  obtain⟨n,ex⟩:=sH e
  exact⟨.inr ⟨n,ex,d m f j⟩,Ab5 (Jd e) (xJ _ (by lia))⟩
 have one: ∀ s a,_=k9->(∀ m,a.dp+1<=m->a.dp<=16->call prog m "names_in" [.v _] h= .ok _ h)-> ∀m,a.dp+1+1<=m->a.dp+1<=16->call prog m "names_in" [.t [.str s,aV a]] h= .ok _ h:=fun s a g d m f j=>by
  obtain⟨k,rfl⟩:=nk m 1 (by lia)
  obtain⟨i,l⟩:=ok a k d (by lia) (by lia)
  exact lY g i l
 have two: ∀ s a b,_=k9->(∀ m,a.dp+1<=m->a.dp<=16->call prog m "names_in" [.v _] h= .ok _ h)->(∀ m,b.dp+1<=m->b.dp<=16->call prog m "names_in" [.v _] h= .ok _ h)-> ∀m,max a.dp b.dp+1+1<=m->max a.dp b.dp+1<=16->call prog m "names_in" [.t [.str s,aV a,aV b]] h= .ok _ h:=fun s a b g d c m f j=>by
  obtain⟨k,rfl⟩:=nk m 1 (by lia)
  obtain⟨i,l⟩:=ok a k d (by lia) (by lia)
  obtain⟨p,o⟩:=ok b k c (by lia) (by lia)
  exact zP g i p l o
 induction e with
 | name t=>
  intro m f _
  obtain⟨k,rfl⟩: ∃k,m=k+1:=⟨m-1,by simp [Ex.dp]at f;lia⟩
  rw [Gb rfl _ _ _ rfl]
  show Gw _ (execs _ _ [k0 (.t [.str zh,.str t]),y0,y0] h)=_
  simp only [ZE]
  rw [qa (w:= .own [.str t]) (h1:=h) ((Zr (by simp_all [Xa];rfl)).trans (qa (QB rfl (by simp_all [aa,xf])))),Gv _ _ _ rfl]
  rfl
 | same=>intro m f _;obtain⟨k,rfl⟩:=nk m 1 (by lia);exact Z7 rfl
 | all=>intro m f _;obtain⟨k,rfl⟩:=nk m 1 (by lia);exact Z7 rfl
 | none=>intro m f _;obtain⟨k,rfl⟩:=nk m 1 (by lia);exact Z7 rfl
 | turned a d=>exact one zj a rfl d
 | closed a d=>exact one Ji a rfl d
 | plus a b d c=>exact two qF a b rfl d c
 | less a b d c=>exact two jr a b rfl d c
 | both a b d c=>exact two Xz a b rfl d c
 | joined a b d c=>exact two Zh a b rfl d c
def HY (h): ∀ s m,s.wf N->s.dp+2<=m->s.dp<=14->call prog m "names_in" [.v (az s)] h= .ok (.own ((J7 s).map .str)) h:=by
 intro s
 have c: ∀ e m,e.dp+1<=m->e.dp<=14->g8 m h (aV e,cb e)/\(cb e).length<=400000:=λe m d g=>by
  obtain⟨n,ex⟩:=sH e
  exact⟨.inr ⟨n,ex,KL h e m d (by lia)⟩,Ab5 (Jd e) (xJ _ (by lia))⟩
 induction s with
 | fact f=>
  intro m wf d g
  obtain⟨k,rfl⟩:=nk m 1 (by lia)
  cases f with
  | dD a b=>
   simp only [Sy.dp,Fc.dp]at d g
   obtain⟨i,l⟩:=c a k (by lia) (by lia)
   obtain⟨u,q⟩:=c b k (by lia) (by lia)
   exact zP rfl i u l q
  | d6 a b=>
   simp only [Sy.dp,Fc.dp]at d g
   obtain⟨i,l⟩:=c a k (by lia) (by lia)
   obtain⟨u,q⟩:=c b k (by lia) (by lia)
   exact zP rfl i u l q
  | d5 a=>
   simp only [Sy.dp,Fc.dp]at d g
   obtain⟨i,l⟩:=c a k (by lia) (by lia)
   exact lY rfl i l
  | au a=>
   simp only [Sy.dp,Fc.dp]at d g
   obtain⟨i,l⟩:=c a k (by lia) (by lia)
   exact lY rfl i l
  | cnt t j a=>
   simp only [Sy.dp,Fc.dp]at d g
   obtain⟨i,l⟩:=c a k (by lia) (by lia)
   have w:(t==zh)=false:=by
    have:t=Za\/t=zc\/t=xb\/t=Qi:=by simpa using wf.1
    rcases this with rfl | rfl | rfl | rfl<;>rfl
   have:=zP w (.inl ⟨_,rfl,rfl⟩:g8 k h (.n j,[])) i (Ae6 _) l
   exact this
 | neg a p=>
  intro m wf d g
  obtain⟨k,rfl⟩:=nk m 1 (by lia)
  simp only [Sy.dp]at d g
  obtain⟨n,ex⟩:=Z1 a
  exact lY rfl (.inr ⟨n,ex,p k wf (by lia) (by lia)⟩) (Ab5 (Qo a) (xJ _ (by lia)))
 | bP a b p o=>
  intro m wf d g
  obtain⟨k,rfl⟩:=nk m 1 (by lia)
  simp only [Sy.dp]at d g
  obtain⟨n,ex⟩:=Z1 a
  obtain⟨r,v⟩:=Z1 b
  exact zP rfl (.inr ⟨n,ex,p k wf.1 (by lia) (by lia)⟩) (.inr ⟨r,v,o k wf.2 (by lia) (by lia)⟩) (Ab5 (Qo a) (xJ _ (by lia))) (Ab5 (Qo b) (xJ _ (by lia)))
 | bO a b p o=>
  intro m wf d g
  obtain⟨k,rfl⟩:=nk m 1 (by lia)
  simp only [Sy.dp]at d g
  obtain⟨n,ex⟩:=Z1 a
  obtain⟨r,v⟩:=Z1 b
  exact zP rfl (.inr ⟨n,ex,p k wf.1 (by lia) (by lia)⟩) (.inr ⟨r,v,o k wf.2 (by lia) (by lia)⟩) (Ab5 (Qo a) (xJ _ (by lia))) (Ab5 (Qo b) (xJ _ (by lia)))
def kn (L:List Tx):Nat->List Pl->Nat->Nat
 | _,[],v=>v
 | i,p::ps,v=>kn L (i+1) ps (if p.1∈L then v ||| 2 ^ i else v)
theorem sN : ∀ ps i v j,(kn L i ps v).testBit j=u0↔v.testBit j=u0\/ ∃ k p,ps[k]? =k0 p/\j=i+k/\p.1∈L
 | [],i,v,j=>by
  exact⟨.inl,λh=>h.elim id λ⟨k,p,e,_⟩=>by simp at e⟩
 | p::ps,i,v,j=>by
  rw [kn,sN ps]
  have b:(if p.1∈L then v ||| 2 ^ i else v).testBit j=u0↔v.testBit j=u0\/(j=i/\p.1∈L):=by
   by_cases q:p.1∈L
   .rw [if_pos q,Af,Ad7,Ae8,decide_eq_true_eq]
    exact or_congr Iff.rfl ⟨λz=>⟨z.symm,q⟩,λz=>z.1.symm⟩
   .rw [if_neg q]
    exact⟨.inl,λz=>z.elim id λz=>absurd z.2 q⟩
  rw [b]
  constructor
  .rintro ((h | ⟨rfl,h⟩) | ⟨k,a,e,rfl,h⟩)
   .exact .inl h
   .exact .inr ⟨0,p,rfl,rfl,h⟩
   .exact .inr ⟨k+1,a,e,by lia,h⟩
  .rintro (h | ⟨k,a,e,rfl,h⟩)
   .exact .inl (.inl h)
   .cases k with
    | zero=>
     have:p=a:=by simpa using e
     exact .inl (.inr ⟨rfl,this▸h⟩)
    | succ k=>exact .inr ⟨k,a,by simpa using e,by lia,h⟩
abbrev hO (ro:Nat) (s:D) (L:List Tx) (v:Nat) (x y:Option W):Sl:= [k0 (.r ro),sv s,k0 (.l (L.map .str)),si v,x,y]
def LP (s) (a:List Tx) (h):Gq .mem (.s s) (.l (a.map .str)) h=k0 (u9 (s∈a)):=xz s a (.l _) h rfl
theorem tw : ∀ ps i v x y,i+ps.length<=1000-> ∃j M,Gp (Gr [4,5] k9) (λτ h=>execs F Jm τ h) (GY i (ps.map bK)) (hO ro s L v x y) h= .next (hO ro s L (kn L i ps v) j M) h
 | [],i,v,x,y,_=>⟨x,y,rfl⟩
 | p::ps,i,v,x,y,b=>by
  rw [Aa7]at b
  obtain⟨j,M,e⟩:=tw ps (i+1) (if p.1∈L then v ||| 2 ^ i else v) (si i) (sv (bK p)) (by lia)
  refine⟨j,M,?_⟩
  rw [Ab1,GY,zb (τ1:=hO ro s L v (si i) (sv (bK p))) rfl,e,kn]
  unfold Jm
  have i0:c5 (.v (bK p)) (.v (.int 0)) h=k0 (.str p.1):=rfl
  have a:Gm F (.cmp .mem (.ix .v5 (.int 0)) .v2) (hO ro s L v (si i) (sv (bK p))) h= .ok (u9 (p.1∈L)) h:=by simp_all [i0,LP]
  by_cases q:p.1∈L
  .rw [if_pos q,za ((Zr (by rw [a,decide_eq_true q])).trans ?_),execs]
   have c:=el i (by lia)
   rw [za (τ1:=hO ro s L (v ||| 2 ^ i) (si i) (sv (bK p))) (h1:=h) (by simp_all [c,xo,wn]),execs]
  .rw [if_neg q,xa (by rw [a,decide_eq_false q]),execs]
def eB (n:Nat) (K T:List Tx) (s:Sy):Nat:=kn (J7 s) 0 (bS n K T) 0
section
variable {n:Nat}{K T:List Tx}{S:List Sy}{ro:Nat}{h:AH}
def yO (s) (j):(eB n K T s).testBit j=u0↔ ∃p:Pl,(bS n K T)[j]? =k0 p/\p.1∈J7 s:=by
 rw [eB,sN,Af9]
 constructor
 .rintro (h | ⟨k,p,e,rfl,h⟩)
  .cases h
  .exact⟨p,by rw [Ak0];exact e,h⟩
 .rintro ⟨p,e,h⟩
  exact .inr ⟨j,p,e,(Ak0 j).symm,h⟩
def Lo (m) (g:bz n K T) (C:h[ro]? =k0 (.obj "Cases" (cC n K T S)))(wf:s.wf (K++T)) (a:s.dp+2<=m) (c:s.dp<=14):call prog (m+1) "needed_bits" [.r ro,.v (az s)] h= .ok (.i (eB n K T s)) h:=by
 have d:0+(bS n K T).length<=1000:=by rw [XF];have:=g.b6;lia
 obtain⟨e,j,e2⟩:=tw _ 0 0 y0 y0 d
 refine fx (by simp_all [(HY h s m wf a c)];rfl) ?_
 rw [za (τ1:=hO ro _ _ 0 y0 y0) (by simp_all [];rfl)]
 rw [za (by
  have b:Gs (k8 m) (.cw (.aI .v0 "Cases" "places")) (hO ro (az s) (J7 s) 0 none none) h= .ok (GY 0 ((bS n K T).map bK)) h:=by
   show(eval _ _ _ h).bind _=_
   rw [(Ql (F:=(k8 m)) (τ:=hO ro (az s) (J7 s) 0 y0 y0) (i:=0) (f:= "places") C rfl rfl)]
   rfl
  rw [exec,b,R.ar]
  exact e2)]
 rw [qa (w:= .i (eB n K T s)) (h1:=h) rfl,Ga _ _ _ rfl]
end
theorem uH : ∀ f x a,x<f-> ∃y:Nat,GI (λτ h=>Gm F Wd τ h) (λτ h=>execs F qk τ h) f [si x,si a] h= .next [si (0),si y] h
 | 0,x,a,c=>absurd c (Ag7 _)
 | f+1,x,a,c=>by
  have g:Gm F Wd [si x,si a] h= .ok (u9 (0<x)) h:=by
   have z:Gq .gt (.i x) (.v (.int 0)) h=k0 (u9 (0<x)):=gA 0 x h
   unfold Wd
   simp_all [z]
  show ∃y:Nat,((Gm F Wd _ h).cA _)=_
  rw [g,R.ar]
  by_cases q:0<x
  .obtain⟨y,e⟩:=uH f (x &&& (x-1)) (a+1) (by have:x &&& (x-1)<=x-1:=Nat.and_le_right;lia)
   refine⟨y,?_⟩
   rw [decide_eq_true q]
   have b:execs F qk [si x,si a] h= .next [si (x &&& (x-1)),si (a+1)] h:=by
    have i: x-1=((x-1:Nat):Int):=by lia
    have d: a+1=((a+1:Nat):Int):=rfl
    refine(za (by simp_all [Wc,i,jc,jd];rfl)).trans ?_
    rw [za (τ1:= [si (x &&& (x-1)),si (a+1)]) (h1:=h) (by simp_all [Jc,d]),execs]
   simp only [b]
   exact e
  .refine⟨a,?_⟩
   have:x=0:=by lia
   subst this
   rfl
def KY (k x) (h) (a:x<100000): ∃y:Nat,call prog (k+1) "how_many_set" [.i x] h= .ok (.i y) h:=by
 obtain⟨y,e⟩:=uH 100000 x 0 a
 refine⟨y,?_⟩
 refine fx (by simp_all [];rfl) ?_
 rw [za (by assumption)]
 rw [qa rfl,Ga _ _ _ rfl]
theorem XS : ∀ xs b j,(∀ m∈xs,∃y,G7 (key m)=k0 y)-> ∃i∈b::xs,GW key b j xs=k0 i
 | [],b,j,_=>⟨b,Aa5,rfl⟩
 | x::xs,b,j,h=>by
  obtain⟨y,e⟩:=h x Aa5
  rw [GW,e,Ag2]
  by_cases q:y<j
  .obtain⟨i,a,d⟩:=XS xs x y λm c=>h m (Aa2 _ c)
   exact⟨i,Aa2 _ a,by rw [if_pos q];exact d⟩
  .obtain⟨i,a,d⟩:=XS xs b j λm c=>h m (Aa2 _ c)
   refine⟨i,?_,by rw [if_neg q];exact d⟩
   rcases Ab8.mp a with rfl | a
   .exact Aa5
   .exact Aa2 _ (Aa2 _ a)
def Fz (b:xs≠ []) (h: ∀m∈xs,∃y,G7 (key m)=k0 y): ∃i∈xs,G9 key (k0 xs)=k0 i:=by
 cases xs with
 | nil=>exact absurd rfl b
 | cons x xs=>
  obtain⟨y,e⟩:=h x Aa5
  obtain⟨i,c,d⟩:=XS xs x y λm a=>h m (Aa2 _ a)
  exact⟨i,c,by rw [G9,e];exact d⟩
def Bh (b:0<f) (h1:f<1024): ∃i:Nat,i<10/\f.testBit i=u0/\f-(f &&& (f-1))=2 ^ i:=by
 have: ∀f,f<1024->0<f->(Aa3 10).any λi=>f.testBit i&&u9 (f-(f &&& (f-1))=2 ^ i):=by decide +kernel
 obtain⟨i,a,e⟩:=Ad2.mp (this f h1 b)
 rw [Aa1,decide_eq_true_eq]at e
 exact⟨i,Ab4.mp a,e.1,e.2⟩
def Hg {f:Nat}(a:0<f):Gj .band (f:Int) (-(f:Int))=k0 ((f-(f &&& (f-1)):Nat):Int):=by
 rw [jc,Ke,if_pos (Ao9 f),if_neg (by lia),Ad5,show(-(-(f:Int))-1).toNat=f-1 by lia]
def KZ (i):Kb ((2 ^ i:Nat):Int)=i+1:=by
 have:(2 ^ i)≠0:=Ap3 (Ad4 i)
 rw [Kb,if_neg (by lia),Int.natAbs_natCast,Nat.log2_two_pow]
def i8 (e:Ex):Gd (aV e)=u0/\dep (aV e)<=e.dp+1:=by
 induction e with
 | turned a c=>obtain⟨d,g⟩:=c;exact⟨by simp [aV,d],by simp [aV,Ex.dp];lia⟩
 | closed a c=>obtain⟨d,g⟩:=c;exact⟨by simp [aV,d],by simp [aV,Ex.dp];lia⟩
 | plus a b c k=>obtain⟨d,g⟩:=c;obtain⟨f,h⟩:=k;exact⟨by simp [aV,d,f],by simp [aV,Ex.dp];lia⟩
 | less a b c k=>obtain⟨d,g⟩:=c;obtain⟨f,h⟩:=k;exact⟨by simp [aV,d,f],by simp [aV,Ex.dp];lia⟩
 | both a b c k=>obtain⟨d,g⟩:=c;obtain⟨f,h⟩:=k;exact⟨by simp [aV,d,f],by simp [aV,Ex.dp];lia⟩
 | joined a b c k=>obtain⟨d,g⟩:=c;obtain⟨f,h⟩:=k;exact⟨by simp [aV,d,f],by simp [aV,Ex.dp];lia⟩
 | _=>exact⟨rfl,by simp [aV]⟩
def px (s:Sy):Gd (az s)=u0/\dep (az s)<=s.dp+2:=by
 induction s with
 | fact f=>
  cases f with
  | dD a b=>obtain⟨c,e⟩:=i8 a;obtain⟨d,h⟩:=i8 b;exact⟨by simp [az,dm,c,d],by simp [az,dm,Sy.dp,Fc.dp];lia⟩
  | d6 a b=>obtain⟨c,e⟩:=i8 a;obtain⟨d,h⟩:=i8 b;exact⟨by simp [az,dm,c,d],by simp [az,dm,Sy.dp,Fc.dp];lia⟩
  | d5 a=>obtain⟨c,e⟩:=i8 a;exact⟨by simp [az,dm,c],by simp [az,dm,Sy.dp,Fc.dp];lia⟩
  | au a=>obtain⟨c,e⟩:=i8 a;exact⟨by simp [az,dm,c],by simp [az,dm,Sy.dp,Fc.dp];lia⟩
  | cnt t j a=>obtain⟨c,e⟩:=i8 a;exact⟨by simp [az,dm,c],by simp [az,dm,dep,GG,Sy.dp,Fc.dp];lia⟩
 | neg a g=>obtain⟨c,e⟩:=g;exact⟨by simp [az,c],by simp [az,dep,GG,Sy.dp];lia⟩
 | bP a b g k=>obtain⟨c,e⟩:=g;obtain⟨d,h⟩:=k;exact⟨by simp [az,c,d],by simp [az,dep,GG,Sy.dp];lia⟩
 | bO a b g k=>obtain⟨c,e⟩:=g;obtain⟨d,h⟩:=k;exact⟨by simp [az,c,d],by simp [az,dep,GG,Sy.dp];lia⟩
def wu (k)(g:bz n K T) (h):call prog (k+5) "check_bits" [.v (wD K T),.i n,.v (.int 16)] h= .ok (.v .au) h:=by
 have n4:=g.n4
 have c:=g.b6
 have b:=yF k (.n n) h rfl (by simp [Qt];lia)
 have a:=uR (k+2) n (K.map .str) (T.map .str) h n4 (by rw [Aa];exact g.k4) (by rw [Aa];exact g.t4)
 rw [Aa,Aa,ng]at a
 rw [Gb rfl _ _ _ rfl]
 simp only [xF]
 refine fx (by simp_all [b];rfl) ?_
 refine fx (by simp_all [a];rfl) ?_
 have z:Gq .gt _ (.v (.int 16)) h=k0 _:=gA 16 (bN n K T) h
 rw [decide_eq_false (by lia)]at z
 rw [xa (by simp_all [z]),execs]
 exact Gz _ h _ rfl
def zV (j:eval F e τ (g++ [.obj c fs])= .ok (.v d) (g++ [.obj c fs])) (a:Gn τ i=k0 (.r g.length)) (b:Gd d=u0) (h:fs.length<100):exec F (.bH i c f e) τ (g++ [.obj c fs])= .next τ (g++ [.obj c (aW f d fs)]):=by
 rw [exec,j,R.ar]
 simp only [a,Wq (Jn g _),b,h,and_self,if_true,jv]
def BY (h:eval F e τ (g++ [.obj c fs])= .ok (.own xs) (g++ [.obj c fs])) (a:Gn τ i=k0 (.r g.length)) (b:Gc xs=u0) (d:fs.length<100):exec F (.bU i c f e) τ (g++ [.obj c fs])= .next τ (g++ [.obj c (aW f (.lst xs) fs)]):=by
 rw [exec,h,R.ar]
 simp only [W.dQ,a,Wq (Jn g _),show Gd (.lst xs)=u0 from b,d,and_self,if_true,jv]
def Bt (k){S:List Sy}(g:bz n K T) (h:AH):call prog (k+4) "Cases.__init__" [.r h.length,.v (aG K T S),.i n] (h++ [.obj "Cases" []])= .ok (.v .au) (h++ [Cell.obj "Cases" (cC n K T S)]):=by
 rw [Gb (d:=jk) rfl _ _ _ rfl]
 show Gw _ (execs _ _ [k0 (.r h.length),sv (aG K T S),si n] (h++ [.obj "Cases" []]))=_
 simp only [jk]
 have e:Gd (wD K T)=true:=by
  show(Gc (K.map .str)&&(Gc (T.map .str)&&u0))=u0
  rw [jm,jm];rfl
 have p:Gd (.tup (S.map az))=true:=xl _ (λs=>(px s).1) S
 have j: ∀a,eval (k8 (k+3)) (.ix .v1 (.int 0)) [k0 (.r h.length),sv (aG K T S),si n] a= .ok (.v (wD K T)) a:=λa=>by simp_all [aa,Qh]
 have l: ∀a,eval (k8 (k+3)) (.ix .v1 (.int 1)) [k0 (.r h.length),sv (aG K T S),si n] a= .ok (.t (S.map az)) a:=λa=>by simp_all [aa,xf]
 rw [za (zV (fs:= []) (j _) rfl e (show 0<100 by decide))]
 rw [za (zV (fs:=aW "words" (wD K T) []) (l _) rfl p (show 1<100 by decide))]
 rw [za (zV (fs:=aW "sayings" (.tup (S.map az)) (aW "words" (wD K T) [])) (d:= .n n) (by simp_all []) rfl rfl (show 2<100 by decide))]
 have pl: ∀a,eval (k8 (k+3)) (.call "places_of" (.b (.ix .v1 (.int 0)) .v2)) [some (.r h.length),sv (aG K T S),si n] a= .ok (.own ((bS n K T).map bK)) a:=fun a=>by
  simp_all [aa,Qh,(F3 k n K T a g.n4 g.k4 g.t4)]
  rfl
 rw [za (BY (fs:=aW "size" (.n n) (aW "sayings" (.tup (S.map az)) (aW "words" (wD K T) []))) (pl _) rfl (WI _) (show 3<100 by decide))]
 have c:aW "places" (.lst ((bS n K T).map bK)) (aW "size" (.n n) (aW "sayings" (.tup (S.map az)) (aW "words" (wD K T) [])))= [("words",wD K T),("sayings",.tup (S.map az)),("size",.n n),("places",.lst ((bS n K T).map bK))]:=rfl
 rw [c]
 have q:=g.b6
 have m:=el (bN n K T) (by show K.length*n+T.length*(n*n)<=_;lia)
 have o:((2 ^ bN n K T:Nat):Int)-1=((2 ^ bN n K T-1:Nat):Int):=by
  have:=Ad4 (bN n K T)
  lia
 rw [za (zV (d:= .n (2 ^ bN n K T-1)) (by
  have b:=Ql (F:=(k8 (k+3))) (τ:= [k0 (.r h.length),sv (aG K T S),si n]) (i:=0) (f:= "places") (Jn h (.obj "Cases" [("words",wD K T),("sayings",.tup (S.map az)),("size",.n n),("places",.lst ((bS n K T).map bK))])) rfl rfl
  generalize E.aI _ _ _=X at b ⊢
  simp_all [b,Qx,ag,Aa,XF,m,Wc,o]) rfl rfl (by simp))]
 rw [execs]
 exact Gz _ _ _ (by simp)
noncomputable def eL (n:Nat) (K T:List Tx) (S:List Sy) (a:Nat):List (String×D):= [("cases",.ref a),("needs",.lst (aA (S.map (eB n K T))))]
structure Se (n:Nat) (K T:List Tx) (S:List Sy) (rs rc:Nat) (h:AH):Prop where
 se:h[rs]? =k0 (.obj "Search" (eL n K T S rc))
 cs:h[rc]? =k0 (.obj "Cases" (cC n K T S))
theorem sP (f) (P:Nat->Prop): ∀ds:List D,(∀ d∈ds,∃x:Nat,f d= .n x/\P x)-> ∃xs:List Nat,ds.map f=aA xs/\(∀ x∈xs,P x)/\xs.length=ds.length
 | [],_=>⟨[],rfl,λ_ h=>absurd h Ai4,rfl⟩
 | d::ds,h=>by
  obtain⟨x,e,p⟩:=h d Aa5
  obtain⟨xs,e2,b,l2⟩:=sP f P ds λd c=>h d (Aa2 _ c)
  refine⟨x::xs,by rw [Ab1,e,e2];rfl,λy a=> ?_,by rw [Aa7,l2,Aa7]⟩
  rcases Ab8.mp a with rfl | a
  .exact p
  .exact b y a
section
variable {n q:Nat}{K T:List Tx}{S:List Sy}
def DJ (m:Nat) (g:bz n K T) (p: ∀s∈S,s.wf (K++T)/\s.dp<=q) (N:S.length<=100) (L:q+7<=m) (M:q<=14) (h:AH):call prog (m+1) "Search.__init__" [.r h.length,.v (aG K T S),.i n] (h++ [.obj "Search" []])= .ok (.v .au) (h++ [.obj "Search" (eL n K T S (h.length+1)),.obj "Cases" (cC n K T S)]):=by
 obtain⟨k,rfl⟩:=nk m 4 (by lia)
 have e1:=Bt k (S:=S) g (h++ [Cell.obj "Search" []])
 have r:(h++ [Cell.obj "Search" []]).length=h.length+1:=by simp
 rw [r]at e1
 rw [Gb (d:=ji) rfl _ _ _ rfl]
 show Gw _ (execs _ _ [k0 (.r h.length),sv (aG K T S),si n] (h++ [.obj "Search" []]))=_
 simp only [ji]
 have A: ∀fs x,GZ (h++ [Cell.obj "Search" fs]++x) _=some (h.length, "Search",fs):=fun fs x=>Wq (by simp)
 have v: ∀fs b x,(h++ [Cell.obj "Search" fs]++x).set h.length (.obj "Search" b)=h++ [Cell.obj "Search" b]++x:=fun fs b x=>by simp
 have mk:eval (k8 (k+4)) (.make "Cases" "Cases.__init__" (.b .v1 .v2)) [some (.r h.length),sv (aG K T S),si n] (h++ [.obj "Search" []])= .ok (.r (h.length+1)) (h++ [.obj "Search" []]++ [.obj "Cases" (cC n K T S)]):=by
  simp_all [r,e1,ag]
 rw [za (τ1:= [k0 (.r h.length),sv (aG K T S),si n]) (h1:=h++ [.obj "Search" [("cases",.ref (h.length+1))]]++ [.obj "Cases" (cC n K T S)]) (by
  rw [exec,mk,R.ar]
  simp only [Gn,A,Ad3,show(0:Nat)<100 by decide,and_self,if_true,v]
  rfl)]
 have u:(h++ [Cell.obj "Search" [("cases",.ref (h.length+1))]]++ [Cell.obj "Cases" (cC n K T S)])[h.length+1]? =some (.obj "Cases" (cC n K T S)):=by simp
 have j:(h++ [Cell.obj "Search" [("cases",.ref (h.length+1))]]++ [Cell.obj "Cases" (cC n K T S)])[h.length]? =some (.obj "Search" [("cases",.ref (h.length+1))]):=by simp
 have t:=A [("cases",.ref (h.length+1))] [Cell.obj "Cases" (cC n K T S)]
 have w:=v [("cases",.ref (h.length+1))] (eL n K T S (h.length+1)) [Cell.obj "Cases" (cC n K T S)]
 have D:h++ [Cell.obj "Search" (eL n K T S (h.length+1))]++ [Cell.obj "Cases" (cC n K T S)]=h++ [.obj "Search" (eL n K T S (h.length+1)),.obj "Cases" (cC n K T S)]:=by simp
 generalize h++ [Cell.obj "Search" [("cases",.ref (h.length+1))]]++ [Cell.obj "Cases" (cC n K T S)]=H at u j t w ⊢
 have comp:eval (k8 (k+4)) xg [k0 (.r h.length),sv (aG K T S),si n] H= .ok (.own (aA (S.map (eB n K T)))) H:=by
  unfold xg
  obtain⟨f,B,G⟩:=nE (F:=(k8 (k+4))) (k:=1) (aB:= [0]) (it:= .seq (.ix .v1 (.int 1))) (c:= .bl true) (elt:= .call "needed_bits" (.cons (.aI .v1 "Search" "cases") (.a .v0))) (τ:= [some (.r h.length),sv (aG K T S),si n]) (h:=H) (ds:=S.map az) (fun d y=> ∀s∈S,d=az s->y= .n (eB n K T s)) (by simp_all [aa,xf]) (by rw [List.length_map];lia) (fun d J=>by
   have o: ∀s∈S,eval (k8 (k+4)) (.call "needed_bits" (.cons (.aI .v1 "Search" "cases") (.a .v0))) [sv (az s),some (.r h.length)] H= .ok (.i (eB n K T s)) H:=fun s a=>by
    have e:=Lo (k+3) g u (p s a).1 (by have:=(p s a).2;lia) (by have:=(p s a).2;lia)
    have z:=Ql (F:=(k8 (k+4))) (τ:= [sv (az s),k0 (.r h.length)]) (i:=1) (f:= "cases") j rfl rfl
    generalize E.aI _ _ _=X at z ⊢
    simp_all [z,e]
   obtain⟨s,a,rfl⟩:=Ab6.mp J
   refine⟨_,o s a,λI l e=> ?_⟩
   have e1:=o s a
   rw [e,o I l]at e1
   injection e1 with e1
   injection e1 with e1
   exact e1.symm)
  rw [B]
  congr 2
  rw [Ad1,aA,Ad1]
  exact Ai1 λs a=>G (az s) (Ab6.mpr ⟨s,a,rfl⟩) s a rfl
 rw [za (τ1:= [k0 (.r h.length),sv (aG K T S),si n]) (h1:=h++ [.obj "Search" (eL n K T S (h.length+1)),.obj "Cases" (cC n K T S)]) (by
  rw [exec,comp,R.ar]
  simp only [W.dQ,Gn,t,show Gd (.lst (aA (S.map (eB n K T))))=u0 from m1 _,Aa7,Ad3,show(0+1:Nat)<100 by decide,and_self,if_true]
  rw [show (aW "needs" (.lst (aA (S.map (eB n K T)))) [("cases",.ref (h.length+1))])=eL n K T S (h.length+1)from rfl,w,D]),execs]
 show fin _ (.v .au) _=_
 unfold fin
 have C:Gu ((h++ [Cell.obj "Search" (eL n K T S (h.length+1)),.obj "Cases" (cC n K T S)]).take (h++ [Cell.obj "Search" []]).length)=false:=by
  rw [r,show h++ [Cell.obj "Search" (eL n K T S (h.length+1)),.obj "Cases" (cC n K T S)]=h++ [Cell.obj "Search" (eL n K T S (h.length+1))]++ [.obj "Cases" (cC n K T S)]by simp,List.take_left' (by simp),Gu,List.all_append]
  show(h.all Cell.pure&&k9)=k9
  rw [Ah7]
 rw [if_neg (by simp),C,Ah7,if_neg Ac3]
def gD (n:Nat) (K T:List Tx) (b a:Nat) (s:Sy):Nat:=(eB n K T s &&& a)-((eB n K T s &&& a) &&& b)
def td (low high) (s) (i):(gD n K T low high s).testBit i=((eB n K T s).testBit i&&high.testBit i&& !low.testBit i):=by
 rw [gD,Wf.aR,Ah2]
def EN (m)(g:bz n K T) (R:Se n K T S rs rc H) (hh:high<2 ^ bN n K T) (t:js≠ []) (Y:js.length<=1000) (G: ∀j∈js,∃s,S[j]? =k0 s/\gD n K T low high s≠0):
 ∃i:Nat,i<bN n K T/\high.testBit i=u0/\low.testBit i=k9/\call prog (m+2) "Search.chosen_place" [.r rs,.bor (aA js),.i low,.i high] H= .ok (.i i) H:=by
 have O:bN n K T<=6:=g.b6
 obtain⟨f,l,N⟩:=nE (F:=(k8 (m+1))) (k:=1) (aB:= [0,3,2]) (it:= .seq .v1) (c:= .bl true) (elt:= .bin .band (.bin .band (.ix (.aI .v1 "Search" "needs") .v0) .v2) (.inv .v3)) (τ:= [some (.r rs),some (.bor (aA js)),si low,si high,none,none]) (h:=H) (ds:=aA js) (fun d y=> ∃x:Nat,y= .n x/\(∃ s,x=gD n K T low high s)/\x≠0) (by simp_all []) (by rw [List.length_map];exact Y) (fun d u=>by
  obtain⟨j,t,rfl⟩:=Ab6.mp u
  obtain⟨s,e1,e2⟩:=G j t
  have V:j<S.length:=(Aa0.mp e1).1
  have C:=Ql (F:=(k8 (m+1))) (τ:= [si j,k0 (.r rs),si high,si low]) (i:=1) (f:= "needs") R.se rfl rfl
  have r:aQ (aA (S.map (eB n K T))) (j:Int)=k0 (.n (eB n K T s)):=by
   rw [Zd _ _ (by rw [Aa,Aa];exact V),Ac,Ac,e1];rfl
  refine⟨.n (gD n K T low high s),?_,_,rfl,⟨s,rfl⟩,e2⟩
  show eval _ _ [si j,k0 (.r rs),si high,si low] H=_
  generalize E.aI _ _ _=X at C ⊢
  simp_all [C,xr,r,jc,jd,qK]
  rfl)
 obtain⟨b,ex,D,v⟩:=sP f (λx=>(∃ s,x=gD n K T low high s)/\x≠0) _ λd u=>by
  obtain⟨x,e,p⟩:=N d u
  exact⟨x,e,p⟩
 rw [ex]at l
 have lt: ∀x∈b,0<x/\x<64:=λx a=>by
  obtain⟨⟨s,e⟩,ne⟩:=D x a
  refine⟨Nat.pos_of_ne_zero ne,?_⟩
  have U:gD n K T low high s<=high:=Ab5 (Ap0 _ _) Nat.and_le_right
  have h2:2 ^ bN n K T<=2 ^ 6:=Ad0 (by decide) O
  lia
 obtain⟨i0,o,q⟩:=Fz (key:=fun x=>call prog (m+1) "how_many_set" [.v (.int x)] []) (xs:=b.map fun(x:Nat)=>(x:Int)) (by
  cases b with
  | nil=>
   rw [Aa]at v
   exact absurd (List.length_eq_zero_iff.mp v.symm) t
  | cons _ _=>simp) (λy P=>by
  obtain⟨x,a,rfl⟩:=Ab6.mp P
  obtain⟨y,e⟩:=KY m x [] (by have:=(lt x a).2;lia)
  exact⟨_,by show G7 (call prog (m+1) "how_many_set" [.i x] [])=_;rw [e];rfl⟩)
 obtain⟨x,a,rfl⟩:=Ab6.mp o
 obtain⟨B,M⟩:=lt x a
 obtain⟨i,_,z,Z⟩:=Bh B (by lia)
 obtain⟨⟨s,rfl⟩,_⟩:=D x a
 rw [td,Aa1,Aa1,Ag6]at z
 obtain⟨⟨Q,L⟩,I⟩:=z
 obtain⟨p,J,_⟩:=(yO s i).mp Q
 refine⟨i,?_,L,I,?_⟩
 .have:=(Aa0.mp J).1
  rw [XF]at this
  exact this
 rw [Gb (d:=qf) rfl _ _ _ rfl]
 simp only [qf]
 have l:eval (k8 _) Wg [k0 _,k0 _,si low,si high,y0,y0] H= .ok _ H:=l
 refine fx (by simp_all [l];rfl) ?_
 refine fx (by
  simp_all [W.ll,w6,q,ag]
  rfl) ?_
 have A:=Hg B
 rw [Z]at A
 have e1:((i+1:Nat):Int)-1=(i:Int):=by lia
 rw [qa (w:= .i i) (h1:=H) (Ja rfl (by simp_all [A,KZ,ag,Wc,e1])),Ga _ _ _ rfl]
end
def E5 : ∀ e p,(∀ t∈cb e,bh a t=bh b t)->bt a b p e=bt a b u0 e:=by
 intro e
 induction e with
 | name t=>intro p h;cases p with
  | true=>rfl
  | false=>exact h t Aa5
 | turned e g=>intro p h;simp [bt,g p h]
 | closed e g=>intro p h;simp [bt,g p h]
 | plus e f g c=>intro p h;simp [bt,g p λt d=>h t (Ad _ d),c p λt d=>h t (Ab0 _ d)]
 | less e f g c=>
  intro p h
  simp [bt,g p (λt d=>h t (Ad _ d)),c _ (λt d=>h t (Ab0 _ d))]
 | both e f g c=>intro p h;simp [bt,g p λt d=>h t (Ad _ d),c p λt d=>h t (Ab0 _ d)]
 | joined e f g c=>intro p h;simp [bt,g p λt d=>h t (Ad _ d),c p λt d=>h t (Ab0 _ d)]
 | _=>intro p h;cases p<;>rfl
def B.nm (h:B a b e v u) (k: ∀t∈cb e,bh a t=bh b t):v=u:=by
 have l:=h.lo
 rw [E5 e k9 k]at l
 exact l.uniq h.hi
def Q3 (h:p≠y0) (g:q≠y0):j7 p q≠none:=by
 rcases p with _ | _ | _<;>rcases q with _ | _ | _<;>first | exact absurd rfl h | exact absurd rfl g | (intro z;cases z)
def LQ (h:p≠y0) (g:q≠y0):fq p q≠none:=by
 rcases p with _ | _ | _<;>rcases q with _ | _ | _<;>first | exact absurd rfl h | exact absurd rfl g | (intro z;cases z)
theorem Td.nm : ∀ s r,Td a b s r->(∀ t∈J7 s,bh a t=bh b t)->r≠y0
 | .fact f,r,h,k=>by
  cases f with
  | dD x y=>
   obtain⟨v,u,l,m,c,i,rfl⟩:=h
   cases c.nm λt d=>k t (Ad _ d)
   cases i.nm λt d=>k t (Ab0 _ d)
   rw [zU];intro z;cases z
  | d6 x y=>
   obtain⟨v,u,l,m,c,i,rfl⟩:=h
   cases c.nm λt d=>k t (Ad _ d)
   cases i.nm λt d=>k t (Ab0 _ d)
   rw [zU,zU]
   exact Q3 (λz=>by cases z) λz=>by cases z
  | d5 x=>obtain⟨v,u,c,rfl⟩:=h;cases c.nm k;rw [qM];intro z;cases z
  | au x=>obtain⟨v,u,c,rfl⟩:=h;cases c.nm k;rw [qM];intro z;cases z
  | cnt s j x=>obtain⟨v,u,c,rfl⟩:=h;cases c.nm k;rw [qM];intro z;cases z
 | .neg s,r,⟨q,h,e⟩,k=>by
  have:=Td.nm s q h k
  cases q with
  | none=>exact absurd rfl this
  | some x=>rw [e];intro z;cases z
 | .bP s t,r,⟨p,q,c,i,e⟩,k=>by
  rw [e]
  exact Q3 (Td.nm s p c λx g=>k x (Ad _ g)) (Td.nm t q i λx g=>k x (Ab0 _ g))
 | .bO s t,r,⟨p,q,c,i,e⟩,k=>by
  rw [e]
  exact LQ (Td.nm s p c λx g=>k x (Ad _ g)) (Td.nm t q i λx g=>k x (Ab0 _ g))
theorem Jj : ∀e:Ex,e.wf N-> ∀t∈cb e,t∈N
 | .name x,w,t,h=>by rw [Ac2.mp h];exact w
 | .turned a,w,t,h=>Jj a w t h
 | .closed a,w,t,h=>Jj a w t h
 | .plus a b,w,t,h=>(Ac8.mp h).elim (Jj a w.1 t) (Jj b w.2 t)
 | .less a b,w,t,h=>(Ac8.mp h).elim (Jj a w.1 t) (Jj b w.2 t)
 | .both a b,w,t,h=>(Ac8.mp h).elim (Jj a w.1 t) (Jj b w.2 t)
 | .joined a b,w,t,h=>(Ac8.mp h).elim (Jj a w.1 t) (Jj b w.2 t)
theorem QQ : ∀s:Sy,s.wf N-> ∀t∈J7 s,t∈N
 | .fact f,w,t,h=>by
  cases f with
  | dD a b=>exact(Ac8.mp h).elim (Jj a w.1 t) (Jj b w.2 t)
  | d6 a b=>exact(Ac8.mp h).elim (Jj a w.1 t) (Jj b w.2 t)
  | d5 a=>exact Jj a w t h
  | au a=>exact Jj a w t h
  | cnt _ _ a=>exact Jj a w.2 t h
 | .neg a,w,t,h=>QQ a w t h
 | .bP a b,w,t,h=>(Ac8.mp h).elim (QQ a w.1 t) (QQ b w.2 t)
 | .bO a b,w,t,h=>(Ac8.mp h).elim (QQ a w.1 t) (QQ b w.2 t)
section
variable {n:Nat}{K T:List Tx}{low high:Nat}
def M0 (g:bz n K T)(j:t∈K++T) (h: ∀ i x y,(bS n K T)[i]? =k0 (t,x,y)->low.testBit i=high.testBit i):bh (wo n K T low) t=bh (wo n K T high) t:=by
 have a: ∀x y,x<n->y<n->bh _ t x y=bh (wo n K T high) t x y:=λx y f k=>by
  by_cases q: ∃i:Nat,(bS n K T)[i]? =k0 (t,x,y)
  .obtain⟨i,d⟩:=q
   rw [(zm g d low).1,(zm g d high).1,h i x y d]
  .rw [XC low 0 j f k q,XC high 0 j f k q]
 funext x y
 by_cases q:t∈T
 .have b: ∀c,bh _ t x y=if x*n+y<n*n then bh _ t _ (_ % n)else false:=λc=>by
   unfold bh
   rw [if_pos (show t∈(wo n K T c).T from q),if_pos (show t∈(wo n K T c).T from q)]
   show((cU n K.length T.length c).getD (cX t T) 0).testBit (x*n+y)=if _ then((cU n K.length T.length c).getD (cX t T) 0).testBit ((x*n+y) / n*n+(x*n+y) % n)else k9
   rw [Wf.br]
   by_cases z:x*n+y<n*n
   .rw [if_pos z]
   .rw [if_neg z,yj,decide_eq_false z,Ae9,Ah7]
  rw [b,b]
  by_cases z:x*n+y<n*n
  .rw [if_pos z,if_pos z]
   exact a _ _ (Wf.ba z) (Wf.aX z)
  .rw [if_neg z,if_neg z]
 .by_cases z:x=y/\x<n
  .obtain⟨rfl,z⟩:=z
   exact a x x z z
  .have b: ∀c,bh _ t x y=false:=λc=>by
    unfold bh
    rw [if_neg (show t∉(wo n K T c).T from q)]
    show(decide _&&((cM n K.length T.length c).getD _ 0).testBit x)=k9
    by_cases e:x=y
    .rw [yr,decide_eq_false (λl=>z ⟨e,l⟩),Ae9,Ah7,Ah7]
    .rw [decide_eq_false e,Ae9]
   rw [b,b]
def Fe (g:bz n K T) (sub:Sub low high)(wf:s.wf (K++T)) (h:Td (wo n K T low) (wo n K T high) s y0):gD n K T low high s≠0:=λz=>by
 refine Td.nm s y0 h (λt b=>M0 g (QQ s wf t b) λi x y d=> ?_) rfl
 have c:=(yO s i).mpr ⟨_,d,b⟩
 have e:=td (n:=n) (K:=K) (T:=T) low high s i
 rw [z,Af9,c,Ae5]at e
 cases q:high.testBit i with
 | true=>
  rw [q,Ae5]at e
  cases a:low.testBit i with
  | true=>rfl
  | false=>rw [a]at e;cases e
 | false=>
  cases a:low.testBit i with
  | false=>rfl
  | true=>rw [sub i a]at q;cases q
def oc (n:Nat) (K T:List Tx) (b a:Nat):Nat:=((Aa3 (bN n K T)).filter λi=>a.testBit i&& !b.testBit i).length
def HN (a:i<bN n K T) (h:high.testBit i=u0) (l:low.testBit i=k9):oc n K T (low ||| 2 ^ i) high<oc n K T low high:=by
 refine m8 (λj _ z=> ?_) ⟨i,Ab4.mpr a,by rw [h,l];rfl,by rw [Af,Ak1,Bool.or_true,Ao8,Ah7]⟩
 rw [Af,Bool.not_or,Aa1,Aa1]at z
 rw [z.1,z.2.1];rfl
def FU (a:i<bN n K T) (h:high.testBit i=u0) (l:low.testBit i=k9):oc n K T low (high-(high &&& 2 ^ i))<oc n K T low high:=by
 refine m8 (λj _ z=> ?_) ⟨i,Ab4.mpr a,by rw [h,l];rfl,by rw [Wf.aR,Ak1,Ao8,Ah7,Ae9]⟩
 rw [Wf.aR,Aa1,Aa1]at z
 rw [z.1.1,z.2];rfl
def KU:oc n K T low high<=bN n K T:=by
 have:=Aj0 (λi=>high.testBit i&& !low.testBit i) (Aa3 (bN n K T))
 rw [Af3]at this
 exact this
end
abbrev Jf:Tx:= [119,111,114,108,100]
abbrev Xd:Tx:= [112,97,112,101,114]
structure GP (n:Nat) (K T:List Tx) (S:List Sy) (q d:Nat) (p:D) (low high:Nat):Prop where
 pp:Pp n K T S p
 dp:dep p<=d
 wk:Lw n K T S (d+q+12) p low high
section
variable {n q:Nat}{K T:List Tx}{S:List Sy}{d low high:Nat}{p:D}
theorem GP.up (h:GP n K T S q d p low high) (l:d<=d'):GP n K T S q d' p low high:=⟨h.pp,Ab5 h.dp l,h.wk.up (by lia)⟩
theorem GP.brk (c: ∀s∈S,s.wf (K++T)/\s.dp<=q)(a:S[j]? =k0 s) (b:Td (wo n K T low) (wo n K T high) s (k0 k9)) (e:1<=d):GP n K T S q d (.tup [.str xA,.n j]) low high:=⟨.brk (Aa0.mp a).1,by simp;lia,(Lw.brk c a b).up (by lia)⟩
theorem GP.dM (g:bz n K T)(c:(bS n K T)[i]? =k0 (t,x,y)) (e:high.testBit i=u0) (f:low.testBit i=k9) (a:GP n K T S q d p1 (low ||| 2 ^ i) high) (b:GP n K T S q d p2 low (high-(high &&& 2 ^ i))):GP n K T S q (d+1) (.tup [.str zk,.str t,.n x,.n y,p1,p2]) low high:=⟨.dM c a.pp b.pp,by
 have:=a.dp
 have:=b.dp
 simp [GG]
 lia,(Lw.dM g c e f (by lia) a.wk b.wk).up (by lia)⟩
def gk (n:Nat) (K T:List Tx) (S:List Sy) (q d e b:Nat) (a:D):Prop:=(∃ c,Sub e c/\Sub c b/\c<2 ^ bN n K T/\a= .tup [.str Jf,(wo n K T c).aT]/\ ∀s∈S,Td (wo n K T c) (wo n K T c) s (k0 u0))\/ ∃p,a= .tup [.str Xd,p]/\GP n K T S q d p e b
noncomputable abbrev cD (c:Nat) (d:List Nat) (b a:Nat) (l:List Nat) (x y:Option W):Sl:= [k0 (.r c),k0 (.bor (aA d)),si b,si a,k0 (.own (aA l)),x,y]
theorem pO (g:bz n K T) (C: ∀s∈S,s.wf (K++T)/\s.dp<=q) (I:low<2 ^ bN n K T) (G:high<2 ^ bN n K T)(r:Se n K T S rs rc H) (Q:q+10<=m): ∀ O L x y,(∀ j∈O,j<S.length)->L.length+O.length<=1000 →
 (∃ j s,S[j]? =k0 s/\Td (wo n K T low) (wo n K T high) s (k0 k9)/\Gp (Gr [5] u0) (λτ h=>execs (k8 m) ja τ h) (aA O) (cD rs j0 low high L x y) H= .ret (.t [.str Xd,.tup [.str xA,.n (j)]]) H) ∨
 ∃ M W V,(∀ j∈M,∃s,S[j]? =k0 s/\Td (wo n K T low) (wo n K T high) s y0)/\(∀ j∈O,j∉M-> ∃s,S[j]? =k0 s/\Td (wo n K T low) (wo n K T high) s (k0 u0))/\M.length<=O.length/\Gp (Gr [5] u0) (λτ h=>execs (k8 m) ja τ h) (aA O) (cD rs j0 low high L x y) H= .next (cD rs j0 low high (L++M) W V) H
 | [],L,x,y,_,_=> .inr ⟨[],x,y,λ_ h=>absurd h Ai4,λ_ h=>absurd h Ai4,Aa9 _,by rw [Ae3];rfl⟩
 | j::O,L,x,y,P,hc=>by
  rw [Aa7]at hc
  have jl:=P j Aa5
  obtain⟨s,p⟩: ∃s,S[j]? =k0 s:=⟨S[j],Aa4 jl⟩
  obtain⟨wf,dp⟩:=C s (Ac4 p)
  obtain⟨k,rfl⟩:=nk m 1 (by lia)
  obtain⟨o,A,e1⟩:=xU k j low high g r.cs I G p (by lia) wf
  have U:=Ql (F:=(k8 (k+1))) (τ:=cD rs j0 low high L (si j) y) (i:=0) (f:= "cases") r.se rfl rfl
  have tr:eval (k8 (k+1)) (.bL (.aI .v0 "Search" "cases") "Cases" "truth" "Cases.truth" (.c .v5 .v2 .v3)) (cD rs j0 low high L (si j) y) H= .ok (.v (aF o)) H:=by
   generalize E.aI _ _ _=X at U ⊢
   rw [eval,U,R.ae]
   simp only [Wq r.cs]
   rw [if_pos ⟨trivial,rfl⟩]
   simp_all [e1]
  have D: ∀X,execs (k8 (k+1)) (.cons (.af 6 (.bL (.aI .v0 "Search" "cases") "Cases" "truth" "Cases.truth" (.c .v5 .v2 .v3))) X) (cD rs j0 low high L (si j) y) H=execs (k8 (k+1)) X (cD rs j0 low high L (si j) (sv (aF o))) H:=fun X=>by
   generalize E.bL _ _ _ _ _=Z at tr ⊢
   rw [za (τ1:=cD rs j0 low high L (si j) (sv (aF o))) (h1:=H) (by simp_all [tr])]
  have i1:=ki o k9 H
  have J:Gm (k8 (k+1)) (.cmp .c6 .v6 (.bl k9)) (cD rs j0 low high L (si j) (sv (aF o))) H= .ok (o==k0 k9) H:=by simp_all [i1]
  have u: ∀ c,c.length+O.length<=1000->execs (k8 (k+1)) ja (cD rs j0 low high L (si j) y) H= .next (cD rs j0 low high c (si j) (sv (aF o))) H->Gp (Gr [5] u0) (λτ h=>execs (k8 (k+1)) ja τ h) (aA (j::O)) (cD rs j0 low high L x y) H=Gp (Gr [5] u0) (λτ h=>execs (k8 (k+1)) ja τ h) (aA O) (cD rs j0 low high c (si j) (sv (aF o))) H:=λc _ e=>by
   rw [aA,Ab1,zb (τ1:=cD rs j0 low high L (si j) y) rfl e]
  rcases o with _ | _ | _
  .have b:execs (k8 (k+1)) ja (cD rs j0 low high L (si j) y) H= .next (cD rs j0 low high (L++ [j]) (si j) (sv (aF y0))) H:=by
    unfold ja
    rw [D,xa J]
    rw [za (τ1:=cD rs j0 low high (L++ [j]) (si j) (sv (aF y0))) (h1:=H) ((Zr (h1:=H) (by simp_all [aF,ag,Ao3])).trans ?_),execs]
    have Y:(aA L).length<bf:=by rw [Gg,Aa];lia
    rw [za (τ1:=cD rs j0 low high (L++ [j]) (si j) (sv (aF y0))) (h1:=H) (by
     simp_all [Y,if_true]
     simp only [cD,Iy]),execs]
   rcases pO (j0:=j0) g C I G r Q O (L++ [j]) (si j) (sv (aF y0)) (λi a=>P i (Aa2 _ a)) (by rw [Aa6];simp;lia)with⟨w,B,d,l,t⟩ | ⟨M,W,V,d,l,t,N⟩
   .exact .inl ⟨w,B,d,l,(u _ (by rw [Aa6];simp;lia) b).trans t⟩
   .refine .inr ⟨j::M,W,V,λi a=> ?_,λi a v=> ?_,by rw [Aa7,Aa7];lia,?_⟩
    .rcases Ab8.mp a with rfl | a
     .exact⟨s,p,A⟩
     .exact d i a
    .rcases Ab8.mp a with rfl | a
     .exact absurd Aa5 v
     .exact l i a λz=>v (Aa2 _ z)
    .rw [u _ (by rw [Aa6];simp;lia) b,N,Ae]
     rfl
  .refine .inl ⟨j,s,p,A,?_⟩
   rw [aA,Ab1,Gp,show Gr [5] u0 (.n j) (cD rs j0 low high L x y)=k0 (cD rs j0 low high L (si j) y)from rfl]
   have b:execs (k8 (k+1)) ja (cD rs j0 low high L (si j) y) H= .ret (.t [.str Xd,.tup [.str xA,.n j]]) H:=by
    unfold ja
    rw [D]
    exact zf J (Ja rfl (by simp_all []))
   simp only [b]
  .have b:execs (k8 (k+1)) ja (cD rs j0 low high L (si j) y) H= .next (cD rs j0 low high L (si j) (sv (aF (k0 u0)))) H:=by
    unfold ja
    rw [D,xa J,xa (by simp_all [aF,ag]),execs]
   rcases pO (j0:=j0) g C I G r Q O L (si j) (sv (aF (k0 u0))) (λi a=>P i (Aa2 _ a)) (by lia)with⟨w,B,d,l,t⟩ | ⟨M,W,V,d,l,t,N⟩
   .exact .inl ⟨w,B,d,l,(u _ (by lia) b).trans t⟩
   .refine .inr ⟨M,W,V,d,λi a v=> ?_,by rw [Aa7];lia,(u _ (by lia) b).trans N⟩
    rcases Ab8.mp a with rfl | a
    .exact⟨s,p,A⟩
    .exact l i a v
end
def vC (f:eval F a τ h= .ok (.r r) h) (b:h[r]? =k0 (.obj c fs)) (d:(fs.lookup m).isNone=u0) (e:Gf F es τ h= .ok ws h):eval F (.bL a c m q es) τ h=F.call q (.r r::ws.map W.arg) h:=by
 rw [eval,f,R.ae]
 simp only [Wq b]
 rw [if_pos ⟨trivial,d⟩,e,R.ae]
def sf (g:eval F a τ h= .ok (.r r) h) (b:h[r]? =k0 (.obj c fs)) (e:fs.lookup f=k0 d):eval F (.aI a c f) τ h= .ok (.v d) h:=by
 rw [eval,g,R.ae]
 simp only [Wq b]
 rw [if_pos trivial,e]
 rfl
def uU (l) (h):Gq .eq (.bor (aA l)) (.own []) h=k0 (l== []):=by
 cases l with
 | nil=>rfl
 | cons x a=>
  show(if G6 _ ((W.own []).dd h)then k0 (cy _ _)else y0)=_
  rw [W.ij,W.iH,GN (m1 (x::a))]
  have e:G6 (.lst (aA (x::a))) (.lst (GQ h []))=true:=by
   have:=B4 (x::a)
   have:=m1 (x::a)
   simp only [GQ,decide_eq_true_eq]
   lia
  rw [if_pos e]
  rfl
section
variable {n q:Nat}{K T:List Tx}{S:List Sy}{low high:Nat}
def Tr (n:Nat) (K T:List Tx) (S:List Sy) (b a j:Nat):Prop:= ∃s,S[j]? =k0 s/\Td (wo n K T b) (wo n K T a) s (k0 u0)
theorem Tr.mono (g:bz n K T) (i: ∀s∈S,s.wf (K++T)/\s.dp<=q)(h:Tr n K T S low high j) (f:Sub low low') (b:Sub high' high) (k:Sub low' high') (d:low'<2 ^ bN n K T) (c:high'<2 ^ bN n K T):Tr n K T S low' high' j:=by
 obtain⟨s,e,t⟩:=h
 obtain⟨wf,dp⟩:=i s (Ac4 e)
 obtain⟨r,a,_⟩:=xU _ j low' high' (ro:=0) (h:= [Cell.obj "Cases" _]) g rfl d c e (Nat.le_refl _) wf
 have:=Td.mono (k5 f) (k5 b) (k5 k) s _ _ u0 t a rfl
 exact⟨s,e,this▸a⟩
def Sub.eJ (a):Sub a a:=λ_ h=>h
def Sub.tr (h:Sub a b) (k:Sub b c):Sub a c:=λi z=>k i (h i z)
def gk.of (g:Sub low low') (b:Sub high' high) (h: ∃c,Sub low' c/\Sub c high'/\c<2 ^ bN n K T/\a= .tup [.str Jf,(wo n K T c).aT]/\ ∀s∈S,Td (wo n K T c) (wo n K T c) s (k0 u0)):gk n K T S q d low high a:=by
 obtain⟨c,i,f,e⟩:=h
 exact .inl ⟨c,g.tr i,f.tr b,e⟩
def C2 (w:Wo):Gd w.aT=true:=by simp [Wo.aT,m1,Bool.and_self]
def yM (a b):Sub a (a ||| b):=λk z=>by rw [Af,z];rfl
def tX (a b):Sub (a-(a &&& b)) a:=λk z=>by
 rw [Wf.aR,Aa1]at z
 exact z.1
def Ip (h:a.testBit i=u0):Sub (2 ^ i) a:=λk z=>by
 rw [Ad7]at z
 rw [← of_decide_eq_true z]
 exact h
def rh (i:Nat) (h:i<=1000):Gj .shl (1:Int) (i:Int)=k0 ((2 ^ i:Nat):Int):=by
 have:=ZS 1 i (by decide) (by lia)
 rwa [Nat.one_mul]at this
noncomputable abbrev gv (c:Nat) (d:List Nat) (b a i:Nat) (y z u v w:Option W):Sl:= [k0 (.r c),k0 (.bor (aA d)),si b,si a,si i,si (2 ^ i),y,z,u,v,w]
def sO (g:bz n K T) (I: ∀s∈S,s.wf (K++T)/\s.dp<=q)(v:Se n K T S rs rc H)(IH: ∀(u r:Nat) (l:List Nat),oc n K T u r<oc n K T low high->Sub u r->u<2 ^ bN n K T->r<2 ^ bN n K T->(∀ j∈l,j<S.length)->l.length<=500->(∀ j,j<S.length->j∉l->Tr n K T S u r j)-> ∃a,Gd a=true/\gk n K T S q k u r a/\call prog (m+2) "Search.told_of_case" [.r rs,.bor (aA l),.i u,.i r] H= .ok (.v a) H) (hk:k<90) (sub:Sub low high) (B:low<2 ^ bN n K T) (N:high<2 ^ bN n K T) (w: ∀j∈js,j<S.length) (l5:js.length<=500) (tr: ∀j,j<S.length->j∉js->Tr n K T S low high j) (hm:k+q+18<=m): ∃a,Gd a=true/\gk n K T S q (k+1) low high a/\call prog (m+4) "Search.told_of_case" [.r rs,.bor (aA js),.i low,.i high] H= .ok (.v a) H:=by
 have run:=λ(a:D) (e:execs (k8 (m+3)) aL.body [k0 (.r rs),k0 (.bor (aA js)),si low,si high,y0,y0,y0] H= .ret (.v a) H)=>(show call prog (m+4) "Search.told_of_case" [.r rs,.bor (aA js),.i low,.i high] H= .ok (.v a) H from by
  rw [Gb (d:=aL) rfl _ _ _ rfl]
  show Gw _ (execs _ _ [k0 (.r rs),k0 (.bor (aA js)),si low,si high,y0,y0,y0] H)=_
  rw [e,Ga _ _ _ rfl])
 simp only [aL]at run
 have st: ∀X,execs (k8 _) (.cons (.set 4 (.lst .nil)) (.cons (.for [5] u0 (.seq .v1) ja) X)) [k0 (.r rs),k0 (.bor (aA js)),si low,si high,y0,y0,y0] H=(Gp (Gr [5] u0) (λτ h=>execs (k8 (m+3)) ja τ h) (aA js) (cD rs js low high [] y0 y0) H).seq λτ h=>execs (k8 (m+3)) X τ h:=λX=>by
  rw [za (τ1:=cD rs js low high [] y0 y0) (h1:=H) (by simp_all [];rfl),execs,exec,show Gs (k8 (m+3)) (.seq .v1) (cD rs js low high [] y0 y0) H= .ok (aA js) H by simp_all [],R.ar]
 rcases pO (j0:=js) g I B N v (m:=m+3) (by lia) js [] y0 y0 w (by simp;lia)with⟨j,s,h1,h2,h3⟩ | ⟨l,x',y',h1,h2,h3,h4⟩
 .refine⟨_,by simp,.inr ⟨_,rfl,GP.brk I h1 h2 (by lia)⟩,run _ ?_⟩
  rw [st,h3,O.bM]
 rw [Ae7]at h4
 have L: ∀j,j<S.length->j∉l->Tr n K T S low high j:=λj w W=>by
  by_cases C:j∈js
  .exact h2 j C W
  .exact tr j w C
 by_cases nil:l= []
 .subst nil
  refine⟨_,by simp [C2],.inl ⟨low,Sub.eJ low,sub,B,rfl,λs hs=> ?_⟩,run _ ?_⟩
  .obtain⟨j,w,rfl⟩:=Al9 hs
   obtain⟨s,e,t⟩:=(L j w Ai4).mono g I (Sub.eJ low) sub (Sub.eJ low) B B
   rw [Aa4 w]at e
   injection e with e
   rw [e]
   exact t
  .rw [st,h4,O.bw]
   have f3:=Z6 (m-3) low g v.cs B
   rw [show m-3+6=m+3 by lia]at f3
   have f3:=(vC (m:= "world_of_code") (q:= "Cases.world_of_code") (es:= .cons .v2 .nil) (ws:= [.i low]) (Ql (F:=(k8 (m+3))) (τ:=cD rs js low high [] x' y') (i:=0) (f:= "cases") v.se rfl rfl) v.cs rfl (by simp_all [])).trans f3
   generalize E.bL _ _ _ _ _=X at f3 ⊢
   exact zf (by simp_all [show Gq .eq (.bor []) (.own []) H=k0 u0 from uU [] H,ag]) (Ja rfl (by simp_all [f3]))
 have P: ∀j∈l,j<S.length:=λj w=>by
  obtain⟨s,e,_⟩:=h1 j w
  exact(Aa0.mp e).1
 have op: ∀j∈l,∃s,S[j]? =k0 s/\gD n K T low high s≠0:=λj w=>by
  obtain⟨s,e,t⟩:=h1 j w
  exact⟨s,e,Fe g sub (I s (Ac4 e)).1 t⟩
 have Q:l.length<=500:=by lia
 obtain⟨i,C,hb,lb,ec⟩:=EN m g v N nil (by lia) op
 have b6:bN n K T<=6:=g.b6
 have J:2 ^ i<2 ^ bN n K T:=Ao1 (by decide) C
 have hl1:low ||| 2 ^ i<2 ^ bN n K T:=Ak9 B J
 have hh1:high-(high &&& 2 ^ i)<2 ^ bN n K T:=Ah6 (Ap0 _ _) N
 have su1:Sub (low ||| 2 ^ i) high:=sA sub (Ip hb)
 have U:Sub low (high-(high &&& 2 ^ i)):=yH sub lb
 obtain⟨V,n1,A1,c1⟩:=IH (low ||| 2 ^ i) high l (HN C hb lb) su1 hl1 N P Q λj w W=>(L j w W).mono g I (yM _ _) (Sub.eJ _) su1 hl1 N
 obtain⟨a2,n2,A2,c2⟩:=IH low (high-(high &&& 2 ^ i)) l (FU C hb lb) U B hh1 P Q λj w W=>(L j w W).mono g I (Sub.eJ _) (tX _ _) U B hh1
 have G: ∀a,call prog (m+3) "Search.told_of_halves" [.r rs,.bor (aA l),.i low,.i high] H= .ok (.v a) H->call prog (m+4) "Search.told_of_case" [.r rs,.bor (aA js),.i low,.i high] H= .ok (.v a) H:=fun a e=>run a (by
  rw [st,h4,O.bw]
  rw [xa (by simp_all [uU,beq_eq_false_iff_ne.mpr nil,ag])]
  exact qa (Ja rfl ((QI (F:=(k8 (m+3))) (τ:=cD rs js low high l x' y') (i:=0) (m:= "told_of_halves") (q:= "Search.told_of_halves") (es:= .cons .v4 (.b .v2 .v3)) (ws:= [.bor (aA l),.i low,.i high]) v.se rfl rfl (by simp_all [])).trans e)))
 have o:=λ(a:D) (e:execs (k8 (m+2)) aE.body [k0 (.r rs),k0 (.bor (aA l)),si low,si high,y0,y0,y0,y0,y0,y0,y0] H= .ret (.v a) H)=>G a (show call prog (m+3) "Search.told_of_halves" [.r rs,.bor (aA l),.i low,.i high] H= .ok (.v a) H from by
  rw [Gb (d:=aE) rfl _ _ _ rfl]
  show Gw _ (execs _ _ [k0 (.r rs),k0 (.bor (aA l)),si low,si high,y0,y0,y0,y0,y0,y0,y0] H)=_
  rw [e,Ga _ _ _ rfl])
 clear run G st h4
 simp only [aE]at o
 have g1:eval (k8 (m+2)) (.bL .v0 "Search" "chosen_place" "Search.chosen_place" (.c .v1 .v2 .v3)) [some (.r rs),some (.bor (aA l)),si low,si high,none,none,none,none,none,none,none] H= .ok (.i i) H:=(QI (ws:= [.bor (aA l),.i low,.i high]) v.se rfl rfl (by simp_all [])).trans ec
 have g2:eval (k8 (m+2)) (.bL .v0 "Search" "told_of_case" "Search.told_of_case" (.c .v1 (.bin .bor .v2 .v5) .v3)) (gv rs l low high i none none none none none) H= .ok (.v V) H:=(QI (ws:= [.bor (aA l),.i (low ||| 2 ^ i),.i high]) v.se rfl rfl (by simp_all [xo,wn,ag])).trans c1
 have g3:eval (k8 (m+2)) (.bL .v0 "Search" "told_of_case" "Search.told_of_case" (.c .v1 .v2 (.bin .band .v3 (.inv .v5)))) (gv rs l low high i (sv V) none none none none) H= .ok (.v a2) H:=(QI (ws:= [.bor (aA l),.i low,.i (high-(high &&& 2 ^ i))]) v.se rfl rfl (by simp_all [jc,qK,ag])).trans c2
 generalize E.bL _ _ _ _ _=X1 at g1 o
 generalize E.bL _ _ _ _ _=X2 at g2 o
 generalize E.bL _ _ _ _ _=X3 at g3 o
 have A: ∀X,execs (k8 (m+2)) (.cons (.af 4 X1) (.cons (.af 5 (.bin .shl (.int 1) .v4)) (.cons (.af 6 X2) X))) [k0 (.r rs),k0 (.bor (aA l)),si low,si high,y0,y0,y0,y0,y0,y0,y0] H=execs (k8 (m+2)) X (gv rs l low high i (sv V) y0 y0 y0 y0) H:=λX=>by
  rw [za (τ1:= [k0 (.r rs),k0 (.bor (aA l)),si low,si high,si i,y0,y0,y0,y0,y0,y0]) (h1:=H) (by simp_all [g1]),
   za (τ1:=gv rs l low high i y0 y0 y0 y0 y0) (h1:=H) (by simp_all [(rh i (by lia)),ag]),za (τ1:=gv rs l low high i (sv V) y0 y0 y0 y0) (h1:=H) (by simp_all [g2])]
 rcases A1 with wd | ⟨z,rfl,M⟩
 .refine⟨V,n1,gk.of (yM _ _) (Sub.eJ _) wd,o _ ?_⟩
  obtain⟨c,_,_,_,rfl,_⟩:=wd
  rw [A]
  generalize E.bL _ _ _ _ _=Y
  exact zf (by simp_all [aa,jf,Xa,ag];rfl) rfl
 obtain⟨b,Wb,Wl⟩:=walk g I M.pp k M.dp low high B N
 have g4:eval (k8 (m+2)) (.bL (.aI .v0 "Search" "cases") "Cases" "is_shown" "Cases.is_shown" (.c (.ix .v6 (.int 1)) .v2 .v3)) (gv rs l low high i (some (.t [.str Xd,z])) none none none none) H= .ok (.b b) H:=(vC (ws:= [.v z,.i low,.i high]) (Ql v.se rfl rfl) v.cs rfl (by simp_all [aa,show aQ [D.str Xd,z] 1=some z from rfl,ag])).trans (Wb (m+2) rc H (by lia) v.cs)
 generalize E.bL _ _ _ _ _=Y at g4 o
 have tt:Gm (k8 (m+2)) (.or (.cmp .eq (.ix .v6 (.int 0)) (.str fj)) Y) (gv rs l low high i (k0 (.t [.str Xd,z])) y0 y0 y0 y0) H= .ok b H:=by
  simp_all [aa,jf,Xa,ag,show(Xd== fj)=k9 from rfl,g4]
 cases b with
 | true=>
  refine⟨_,n1,.inr ⟨z,rfl,GP.up ⟨M.pp,M.dp,Wl rfl⟩ (Ag4 k)⟩,o _ ?_⟩
  rw [A]
  exact zf tt rfl
 | false=>
  rcases A2 with wd | ⟨J,rfl,P2⟩
  .refine⟨a2,n2,gk.of (Sub.eJ _) (tX _ _) wd,o _ ?_⟩
   obtain⟨c,_,_,_,rfl,_⟩:=wd
   rw [A,xa tt,za (τ1:=gv rs l low high i (k0 (.t [.str Xd,z])) (k0 (.t [.str Jf,(wo n K T c).aT])) y0 y0 y0) (h1:=H) (by simp_all [g3])]
   exact zf (by simp_all [aa,jf,Xa,ag];rfl) rfl
  .obtain⟨⟨t,x,y⟩,hp⟩: ∃p,(bS n K T)[i]? =k0 p:=⟨_,Aa4 (by rw [XF];exact C)⟩
   refine⟨.tup [.str Xd,.tup [.str zk,.str t,.n x,.n y,z,J]],by simp [M.pp.nr,P2.pp.nr],.inr ⟨_,rfl,GP.dM g hp hb lb M P2⟩,o _ ?_⟩
   have at1:aQ ((bS n K T).map bK) (i:Int)=k0 (.tup [.str t,.n x,.n y]):=by
    rw [Zd _ _ (by rw [Aa,XF];exact C),Ac,hp]
    rfl
   have g5:eval (k8 (m+2)) (.aI (.aI .v0 "Search" "cases") "Cases" "places") (gv rs l low high i (some (.t [.str Xd,z])) (some (.t [.str Xd,J])) none none none) H= .ok (.l ((bS n K T).map bK)) H:=sf (Ql v.se rfl rfl) v.cs rfl
   generalize E.aI _ _ _=Z at g5 ⊢
   rw [A,xa tt,za (τ1:=gv rs l low high i (k0 (.t [.str Xd,z])) (k0 (.t [.str Xd,J])) y0 y0 y0) (h1:=H) (by simp_all [g3]),xa (by simp_all [aa,jf,Xa,ag,show(Xd== fj)=k9 from rfl])]
   refine(za (by simp_all [g5,xr,at1,ag];rfl)).trans ?_
   exact qa (Ja rfl (by simp_all [aa,show aQ [D.str Xd,z] 1=k0 z from rfl,show aQ [D.str Xd,J] 1=k0 J from rfl,ag]))
theorem sg (g:bz n K T) (o: ∀s∈S,s.wf (K++T)/\s.dp<=q)(l:Se n K T S rs rc H): ∀ k low high m i,oc n K T low high<=k->k<80->Sub low high->low<2 ^ bN n K T->high<2 ^ bN n K T->(∀ j∈i,j<S.length)->i.length<=500->(∀ j,j<S.length->j∉i->Tr n K T S low high j)->2*k+q+22<=m-> ∃a,Gd a=u0/\gk n K T S q (k+1) low high a/\call prog m "Search.told_of_case" [.r rs,.bor (aA i),.i low,.i high] H= .ok (.v a) H
 | 0,low,high,m,i,B,w,sub,r,p,t,f,tr,u=>by
  obtain⟨m,rfl⟩: ∃x,m=x+4:=⟨m-4,by lia⟩
  exact sO g o l (λ_ _ _ z=>absurd z (by lia)) (by lia) sub r p t f tr (by lia)
 | k+1,low,high,m,i,B,w,sub,r,p,t,f,tr,u=>by
  obtain⟨m,rfl⟩: ∃x,m=x+4:=⟨m-4,by lia⟩
  exact sO g o l (λy v h z A a b c d e=>sg g o l k y v (m+2) h (by lia) (by lia) A a b c d e (by lia)) (by lia) sub r p t f tr (by lia)
end
section
variable {n q:Nat}{K T:List Tx}{S:List Sy}
def CP (h:w<2 ^ b):Sub w (2 ^ b-1):=λk z=>by
 rw [Ag3,decide_eq_true_eq]
 refine Nat.lt_of_not_le λl=> ?_
 rw [Ai8 (Ab3 h (Ad0 (by decide) l))]at z
 cases z
def tJ (w):Sub 0 w:=λk z=>by rw [Af9]at z;cases z
def MF (g:bz n K T) (o: ∀s∈S,s.wf (K++T)/\s.dp<=q) (t:S.length<=100)(b:Se n K T S rs rc H) (r:q+34<=m): ∃a,Gd a=u0/\gk n K T S q 7 0 (2 ^ bN n K T-1) a/\call prog (m+1) "Search.told_of_sayings" [.r rs,.bor (aA (List.range S.length))] H= .ok (.v a) H:=by
 have l:bN n K T<=6:=g.b6
 have h:=Ad4 (bN n K T)
 obtain⟨a,f,A,e⟩:=sg g o b 6 0 (2 ^ bN n K T-1) m _ (Ab5 KU l) (by decide) (tJ _) h (by lia) (λj c=>Ab4.mp c) (by grind) (λj c p=>absurd (Ab4.mpr c) p) (by lia)
 refine⟨a,f,A,?_⟩
 rw [Gb rfl _ _ _ rfl]
 show Gw _ (execs _ _ [k0 _,k0 _] H)=_
 simp only [Qg]
 have d:eval (k8 m) (.aI (.aI .v0 "Search" "cases") "Cases" "whole") [some _,some (.bor (aA (List.range S.length)))] H= .ok _ H:=sf (Ql b.se rfl rfl) b.cs rfl
 generalize E.aI _ _ _=Z at d ⊢
 have k:=QI (F:=(k8 m)) (τ:= [k0 _,k0 (.bor (aA (List.range S.length)))]) (i:=0) (m:= "told_of_case") (q:= "Search.told_of_case") (es:= .cons .v1 (.cons (.int 0) (.cons Z .nil))) (ws:= [.bor _,.i (0),.i _]) b.se rfl rfl (by simp_all [d];rfl)
 rw [qa (Ja rfl (k.trans e)),Ga _ _ _ rfl]
def ve (xs ys) (h) (a:xs.length+ys.length<=100):GV .add (.t xs) (.t ys) h= .ok (.t (xs++ys)) h:=by
 rw [vb,if_pos (by rw [Gg];lia)]
def zr (p:Gu h=u0) (a:Gu h'=u0):Gu (h++h')=true:=by
 rw [Gu,List.all_append,show h.all Cell.pure=u0 from p,show h'.all Cell.pure=u0 from a]
 rfl
def Z9 (a:Gd d=u0) (b:Gu h=u0):Gw h.length (.ret (.v d) (h++h'))= .ok (.v d) h:=by
 have e:(h++h').take h.length=h:=List.take_left' rfl
 obtain⟨x,e1,e2⟩:=mE (n:=h.length) (h:=h++h') a (by simp) (by rw [e];exact b)
 rw [e1,e2,e]
def L3 (g:bz n K T) (e: ∀s∈S,s.wf (K++T)/\s.dp<=q) (f:S.length<=100) (i:q<=14)(r:Gu h=u0) (t:q+35<=m): ∃a,Gd a=u0/\gk n K T S q 7 0 (2 ^ bN n K T-1) a/\call prog (m+1) "found" [.v (aG K T S),.i n] h= .ok (.v a) h:=by
 obtain⟨k,rfl⟩:=nk m 5 (by lia)
 have c:Se n K T S h.length (h.length+1) (h++ [.obj "Search" (eL n K T S (h.length+1)),.obj "Cases" (cC n K T S)]):=⟨by simp,by simp⟩
 obtain⟨a,b,A,o⟩:=MF g e f (m:=k+4) c (by lia)
 refine⟨a,b,A,?_⟩
 rw [Gb (d:=z9) rfl _ _ _ rfl]
 simp only [z9]
 refine fx (by simp_all [aa,Qh,ag,show List.lookup "MOST_BITS" prog.con=some (.int 16)from rfl,(wu k g h)];rfl) ?_
 have mk:eval (k8 (k+5)) (.make "Search" "Search.__init__" (.b .v0 .v1)) [sv (aG K T S),si n] h= .ok (.r h.length) (h++ [.obj "Search" (eL n K T S (h.length+1)),.obj "Cases" (cC n K T S)]):=by
  simp_all [(DJ (k+4) g e f (by lia) i h),ag]
 have p:(0:Int)<=(S.length:Int)/\(S.length:Int)<=1000:=by lia
 have j:Gf (k8 (k+5)) (.a (.b4 (.bi .len (.a (.ix .v0 (.int 1)))))) [sv (aG K T S),si n] (h++ [.obj "Search" (eL n K T S (h.length+1)),.obj "Cases" (cC n K T S)])= .ok [.own (aA (List.range S.length))] (h++ [.obj "Search" (eL n K T S (h.length+1)),.obj "Cases" (cC n K T S)]):=by
  simp_all [aa,xf,ag,Xc,Aa,p,and_self,if_true,Ad5]
 generalize E.make _ _ _=Z at mk ⊢
 have l:eval (k8 (k+5)) (.bL Z "Search" "told_of_sayings" "Search.told_of_sayings" (.a (.b4 (.bi .len (.a (.ix .v0 (.int 1))))))) [sv (aG K T S),si n] h= .ok (.v a) (h++ [.obj "Search" (eL n K T S (h.length+1)),.obj "Cases" (cC n K T S)]):=by
  rw [eval,mk,R.ae]
  simp only [Wq c.se]
  rw [if_pos ⟨trivial,rfl⟩,j,R.ae]
  exact o
 rw [qa (Ja rfl l),Z9 b r]
def oA (k) (a:S.length<=11) (h):call prog (k+1) "check_room" [.v (aG K T S)] h= .ok (.v .au) h:=by
 rw [Gb rfl _ _ _ rfl]
 simp only [qG]
 have c:Gq .ge (.i S.length) (.v (.int 12)) h=k0 false:=by
  show k0 _=_
  rw [decide_eq_false (by lia)]
 rw [xa (by simp_all [aa,xf,Xc,List.length_map,show List.lookup "MOST_SAYINGS" prog.con=some (.int 12)from rfl,c]),execs]
 exact Gz _ _ _ rfl
def EO (g:bz n K T)(l: ∀s∈S++ [Sy.neg x],s.wf (K++T)/\s.dp<=q) (f:S.length<=11) (c:q<=14)(j:Gu h=u0) (o:q+36<=m): ∃a,Gd a=u0/\gk n K T (S++ [Sy.neg x]) q 7 0 (2 ^ bN n K T-1) a/\call prog (m+1) "follows" [.v (aG K T S),.i n,.v (az x)] h= .ok (.v a) h:=by
 obtain⟨k,rfl⟩:=nk m 5 (by lia)
 obtain⟨a,e,A,b⟩:=L3 g l (by rw [Aa6];simp;lia) c (m:=k+4) j (by lia)
 refine⟨a,e,A,?_⟩
 rw [Gb (d:=wK) rfl _ _ _ rfl]
 simp only [wK]
 have i:=ve (S.map az) [az (.neg x)] h (by simp;lia)
 refine fx (by simp_all [];rfl) ?_
 refine fx (by simp_all [ag,show List.lookup "MOST_BITS" prog.con=some (.int 16)from rfl,(wu k g h)];rfl) ?_
 refine fx (by simp_all [(oA (K:=K) (T:=T) (S:=S) (k+4) f h)];rfl) ?_
 have b:call prog (k+5) "found" [.t [wD K T,.tup (S.map az++ [az (.neg x)])],.i n] h= .ok (.v a) h:=by
  rw [aG,Ae0]at b
  exact b
 rw [qa (w:= .v a) (h1:=h) (Ja rfl (by
  simp_all [ag,i,show D.tup [.str eX,az x]=az (.neg x)from rfl,b])),Ga _ _ _ rfl]
end
section
variable {n q:Nat}{K T:List Tx}{S:List Sy}
abbrev iL (K T:List Tx) (n:Nat) (w:D) (x3 a x5:Option W):Sl:= [sv (wD K T),si n,sv w,x3,a,x5]
theorem rH (a:n<=4) (d:i=0/\e=n\/i=1/\e=n*n): ∀ l x,(∀ y∈l,y<2 ^ e)-> ∃j,Gp (Gr [5] u0) (λτ h=>execs (k8 (m+1)) Wj τ h) (aA l) (iL K T n w (si i) x4 x) h= .next (iL K T n w (si i) x4 j) h
 | [],x,_=>⟨x,rfl⟩
 | y::l,x,c=>by
  obtain⟨j,e2⟩:=rH a d l (si y) λz o=>c z (Aa2 _ o)
  refine⟨j,?_⟩
  have p:=Af5 a a
  rw [aA,Ab1,zb (τ1:=iL K T n w (si i) x4 (si y)) rfl ?_]
  .exact e2
  have e1:=xn m (.n y) h rfl
  have f:=je n n (by lia)
  have q:=rh e (by lia)
  have b:eval (k8 (m+1)) (.ix (.lst (.b .v1 (.bin .mul .v1 .v1))) .v3) (iL K T n w (si i) x4 (si y)) h= .ok (.i e) h:=by
   rcases d with⟨rfl,rfl⟩ | ⟨rfl,rfl⟩
   .simp_all [f,ag]
    rfl
   .simp_all [f,ag]
    rfl
  have k:Gq .le (.v (.int 0)) (.i y) h=k0 true:=by
   show k0 (u9 (0<= y))=_
   rw [decide_eq_true (by lia)]
  have g:Gq .lt (.i y) (.i (2 ^ e)) h=k0 true:=by
   show k0 (u9 (y<((2 ^ e:Nat):Int)))=_
   rw [decide_eq_true (Int.ofNat_lt.mpr (c y Aa5))]
  unfold Wj
  generalize E.ix _ _=X at b ⊢
  rw [xa (by simp_all [e1,ag,Xs,k,b,q,g]),execs]
def vr {m i e:Nat}(b:n<=4) (g:i=0/\e=n\/i=1/\e=n*n) (l) (N:List Tx) (f: ∀y∈l,y<2 ^ e) (c:aQ [x,y,z] (1+(i:Int))=k0 (.tup (aA l))) (o:aQ [D.tup (K.map .str),.tup (T.map .str)] (i:Int)=k0 (.tup (N.map .str))) (d:l.length=N.length): ∃L j,execs (k8 (m+1)) qr (iL K T n (.tup [x,y,z]) (si i) x4 x5) h= .next (iL K T n (.tup [x,y,z]) (si i) L j) h:=by
 obtain⟨k,e2⟩:=rH b g l x5 f
 refine⟨k0 (.t (aA l)),k,?_⟩
 refine(za (by simp_all [Jc,aa,c,ag];rfl)).trans ?_
 rw [xa (by
  have a:bZ .tuple (.t (aA l))=k0 true:=rfl
  have nn:Gq .ne (.i l.length) (.i N.length) h=k0 false:=by
   rw [d]
   show k0 (!(decide _))=_
   rw [decide_eq_true rfl]
   rfl
  simp_all [a,Xc,Aa,aa,o,nn])]
 rw [za (by
  exact e2),execs]
def K6 (g:bz n K T) (m c) (h):call prog (m+2) "_law_is_world" [.v (wD K T),.i n,.v (wo n K T c).aT] h= .ok (.b true) h:=by
 have ok:=(g.wo c).wl
 obtain⟨j,i,e1⟩:=vr g.n4 (.inl ⟨rfl,rfl⟩) (wo n K T c).ks K ok.bk rfl rfl ok.lk
 obtain⟨a2,k,e2⟩:=vr g.n4 (.inr ⟨rfl,rfl⟩) (wo n K T c).ts T ok.bt rfl rfl ok.lt
 have f:=xn m (.n n) h rfl
 show Gw _ (execs _ _ (iL K T n (.tup [.n n,.tup _,.tup _]) y0 y0 y0) h)=_
 simp only [Ww]
 rw [xa (by
  have a:bZ .tuple (.t [.n n,.tup (aA (wo n K T c).ks),.tup (aA (wo n K T c).ts)])=k0 true:=rfl
  have d:Gq .ne (.i (3)) (.v (.int 3)) h=k0 false:=rfl
  have e:Gq .ne (.i n) (.i n) h=k0 false:=by
   show k0 (!(decide _))=_
   rw [decide_eq_true rfl]
   rfl
  simp_all [a,ag,Xc,Aa7,Ad3,d,aa,He,e,f,Xs])]
 rw [za (by
  rw [exec,show Gs (k8 _) _ _ h= .ok [.n (0),.n (1)] h by(have b: -(fY)<= 2/\ 2<fY:=by rw [GS];lia);simp_all [b,and_self,if_true];rfl,R.ar]
  rw [zb rfl e1]
  rw [zb rfl e2,zI])]
 rw [qa rfl,Ga _ _ _ rfl]
end
def bz.le (g:bz n K T) (h:m<=n):bz m K T:=⟨Ab5 h g.n4,g.k4,g.t4,Ab5 (Nat.add_le_add (Nat.mul_le_mul_left _ h) (Nat.mul_le_mul_left _ (Af5 h h))) g.b6,g.nd,g.l8⟩
abbrev Ix:=Nat×Nat×Nat
def dO (P:Ix->D->Prop):List Ix->List D->Prop
 | [],[]=>True
 | x::xs,d::ds=>P x d/\dO P xs ds
 | _,_=>False
theorem dO.app : ∀ {xs ys}{ds es},dO P xs ds->dO P ys es->dO P (xs++ys) (ds++es)
 | [],_,[],_,_,k=>k
 | _::_,_,_::_,_,h,k=>⟨h.1,h.2.app k⟩
theorem dO.len : ∀ {xs}{ds},dO P xs ds->ds.length=xs.length
 | [],[],_=>rfl
 | _::_,_::_,h=>congrArg (· +1) h.2.len
theorem dO.get : ∀ {xs}{ds}{k:Nat}{x},dO P xs ds->xs[k]? =k0 x-> ∃d,ds[k]? =k0 d/\P x d
 | _::_,d::_,0,_,h,e=>by cases e;exact⟨d,rfl,h.1⟩
 | _::_,_::_,k+1,_,h,e=>h.2.get e
def sd (A B:List Sy) (i:Nat):List Sy:=if i=0 then A else B
section
variable {K T:List Tx}{A B:List Sy}{m q:Nat}{H:AH}
def gI (K T:List Tx) (A B:List Sy) (q:Nat) (x:Ix) (d:D):Prop:= ∃(y:Sy) (p:D),(sd A B x.2.1)[x.2.2]? =k0 y/\d= .tup [.n x.1,.n x.2.1,.n x.2.2,p]/\GP x.1 K T (sd B A x.2.1++ [Sy.neg y]) q 7 p 0 (2 ^ bN x.1 K T-1)
def iI (K T:List Tx) (A B:List Sy) (m:Nat) (a:D):Prop:= ∃(s c i:Nat) (y:Sy),s<=m/\i<2/\a= .tup [.str Jf,(wo s K T c).aT,.n (1-i)]/\c<2 ^ bN s K T/\y∈sd A B i/\ ∀z∈sd B A i++ [Sy.neg y],Td (wo s K T c) (wo s K T c) z (k0 u0)
abbrev iz (K T:List Tx) (A B:List Sy) (m r:Nat) (x5 a x7 x8 x9 x10:Option W):Sl:= [sv (aG K T A),sv (aG K T B),si m,sv (.tup [aG K T A,aG K T B]),k0 (.r r),x5,a,x7,x8,x9,x10]
def Rs (K T:List Tx) (A B:List Sy) (m q:Nat) (H:AH) (st:Sl->Prop) (ix:List Ix) (ds:List D) (o:O):Prop:=(∃ a H',o= .ret (.v a) (H++H')/\Gd a=u0/\iI K T A B m a)\/ ∃τ es,o= .next τ (H++ [.lst (ds++es)])/\st τ/\dO (gI K T A B q) ix es
def Rs.up (h: ∀τ,st τ->st' τ):Rs K T A B m q H st ix ds o->Rs K T A B m q H st' ix ds o
 | .inl z=> .inl z
 | .inr ⟨τ,d,a,b,c⟩=> .inr ⟨τ,d,a,h τ b,c⟩
theorem Rs.loop : ∀(L:List α),(∀ a∈L,∀τ ds,st τ->ds.length+(ixf a).length<=1000-> ∃τ1,bnd (e a) τ=k0 τ1/\Rs K T A B m q H st (ixf a) ds (body τ1 (H++ [.lst ds])))-> ∀τ ds,st τ->ds.length+(L.flatMap ixf).length<=1000->Rs K T A B m q H st (L.flatMap ixf) ds (Gp bnd body (L.map e) τ (H++ [.lst ds]))
 | [],_,τ,ds,h,_=> .inr ⟨τ,[],by rw [Ae3];rfl,h,trivial⟩
 | a::L,step,τ,ds,h,r=>by
  rw [Ag0,Aa6]at r
  obtain⟨τ1,e1,o⟩:=step a Aa5 τ ds h (by lia)
  rw [Ab1,wQ,e1]
  rcases o with⟨x,c,e2,z⟩ | ⟨i,j,e2,l,k⟩
  .exact .inl ⟨x,c,by simp only [e2],z⟩
  have R2:=Rs.loop L (λb p=>step b (Aa2 _ p)) i (ds++j) l (by rw [Aa6,k.len];lia)
  simp only [e2]
  rcases R2 with⟨x,c,d,z⟩ | ⟨g,f,d,n,s⟩
  .exact .inl ⟨x,c,d,z⟩
  .exact .inr ⟨g,j++f,by rw [d,Ae],n,by rw [Ag0];exact k.app s⟩
theorem Rs.for {F:Fx}{d:Type}{e:d->D}{c:d->List Ix}{st:Sl->Prop}{L:List d}{g:List Nat}{one:Bool}{it:It}{b:Ss}{τ:Sl}{ds:List D}(h:Gs F it τ (H++ [.lst ds])= .ok (L.map e) (H++ [.lst ds])) (step: ∀a∈L,∀τ ds,st τ->ds.length+(c a).length<=1000-> ∃τ1,Gr g one (e a) τ=k0 τ1/\Rs K T A B m q H st (c a) ds (execs F b τ1 (H++ [.lst ds]))) (f:st τ) (i:ds.length+(L.flatMap c).length<=1000):Rs K T A B m q H st (L.flatMap c) ds (exec F (.for g one it b) τ (H++ [.lst ds])):=by
 rw [exec,h,R.ar]
 exact Rs.loop L step τ ds f i
def Rs.one (r:Rs K T A B m q H st ix ds (exec F s τ h)):Rs K T A B m q H st ix ds (execs F (.cons s .nil) τ h):=by
 rw [execs]
 obtain⟨a,c,e,z⟩ | ⟨b,d,e,z⟩:=r
 .exact .inl ⟨a,c,by rw [e,O.bM],z⟩
 .exact .inr ⟨b,d,by rw [e,O.bw,execs],z⟩
def mn (h:Gd (.tup [.str s,d])=u0):Gd d=true:=by simpa using h
theorem p8: ∀(L) (k),GY k L=(L.zipIdx k).map λp=> .tup [.n p.2,p.1]
 | [],_=>rfl
 | d::L,k=>by rw [GY,p8 L (k+1)];rfl
abbrev S1 (K T:List Tx) (A B:List Sy) (m r s i:Nat) (τ:Sl):Prop:= ∃b d c a,τ=iz K T A B m r (si s) (si i) b d c a
def Be (g:bz m K T)(l:s<=m) (D:i<2) (d: ∀z∈A++B,z.wf (K++T)/\z.dp<=11) (J:A.length<=2) (M:B.length<=2) (E:Gu H=u0)(G:49<=f)(j:(sd A B i)[k]? =k0 y)(N:ds.length+1<=1000):
 Rs K T A B m 12 H (S1 K T A B m H.length s i) [(s,i,k)] ds (execs (k8 f) wh (iz K T A B m H.length (si s) (si i) (si k) (sv (az y)) x9 x10) (H++ [.lst ds])):=by
 obtain⟨f,rfl⟩:=nk f 1 (by lia)
 have v: ∀z∈sd A B i,z∈A++B:=λz b=>by unfold sd at b;split at b<;>simp [b]
 have q: ∀z∈sd B A i,z∈A++B:=λz b=>by unfold sd at b;split at b<;>simp [b]
 have I:(sd B A i).length<=2:=by unfold sd;split<;>assumption
 have o:=v y (Ac4 j)
 have e: ∀z∈sd B A i++ [Sy.neg y],z.wf _/\z.dp<=12:=λz b=>by
  rcases Ac8.mp b with b | b
  .exact⟨(d z (q z b)).1,by have:=(d z (q z b)).2;lia⟩
  .rw [Ac2.mp b]
   exact⟨(d y o).1,by rw [Sy.dp];have:=(d y o).2;lia⟩
 obtain⟨a,n,u,e1⟩:=EO (h:=H++ [.lst ds]) (m:=f) (g.le l) e (by lia) (by decide) (zr E rfl) (by lia)
 have r:c5 (.v (.tup [aG K T A,aG K T B])) (.v (.int ((1:Int)-(i:Int)))) (H++ [.lst ds])=k0 (aG K T (sd B A i)):=by
  obtain rfl | rfl:i=0\/i=1:=by lia
  .rfl
  .rfl
 have i1:((1:Int)-(i:Int))=((1-i:Nat):Int):=by lia
 unfold wh
 rcases u with⟨c,_,_,F,rfl,w⟩ | ⟨p,rfl,P⟩
 .refine .inl ⟨.tup [.str Jf,(wo s K T c).aT,.n (1-i)],[.lst ds],?_,?_,s,c,i,y,l,D,rfl,F,Ac4 j,w⟩
  .refine(za (by simp_all [Wc,r,ag,e1];rfl)).trans ?_
   exact zf (by simp_all [Xa,ag,show(Jf== fj)=u0 from rfl]) (Ja rfl (by simp_all [Wc,ag,i1]))
  .have:=mn n
   simp [this]
 .refine .inr ⟨_,[.tup [.n s,.n i,.n k,p]],?_,⟨si k,sv (az y),k0 (.s Xd),sv p,rfl⟩,⟨y,p,j,rfl,P⟩,trivial⟩
  refine(za (by simp_all [Wc,r,ag,e1];rfl)).trans ?_
  rw [xa (by simp_all [Xa,ag,show(Xd== fj)=k9 from rfl])]
  have L:GF (H++ [.lst ds]) (k0 (.r H.length))=k0 (H.length,ds):=by simp [GF]
  have x:Gd (.tup [.n s,.n i,.n k,p])=true:=by simp [mn n]
  have t:ds.length<bf/\Gd (.tup [.n s,.n i,.n k,p])=true:=⟨by rw [Gg];lia,x⟩
  have C:(H++ [Cell.lst ds]).set H.length (.lst (ds++ [.tup [.n s,.n i,.n k,p]]))=H++ [.lst (ds++ [.tup [.n s,.n i,.n k,p]])]:=by
   rw [An2 _ _ (Aa9 _),Am3];rfl
  rw [za (τ1:=iz K T A B m H.length (si s) (si i) (si k) (sv (az y)) (k0 (.s Xd)) (sv p)) (h1:=H++ [.lst (ds++ [.tup [.n s,.n i,.n k,p]])]) (by simp_all [L,ag,W.lj,t,and_self,if_true,C]),execs]
end
section
variable {K T:List Tx}{A B:List Sy}{m q:Nat}{H:AH}
def gp (A B:List Sy) (s:Nat):List Ix:=(Aa3 2).flatMap λi=>(sd A B i).zipIdx.flatMap λp=> [(s,i,p.2)]
def dF (A B:List Sy) (m:Nat):List Ix:=(Aa3 (m+1)).flatMap (gp A B)
def pP (l:List Sy) (s i:Nat):(l.zipIdx.flatMap λp=> [(s,i,p.2)])=(Aa3 l.length).map λk=>(s,i,k):=by
 rw [← List.map_eq_flatMap,show(λp:Sy×Nat=>(s,i,p.2))=(λk=>(s,i,k))∘Prod.snd from rfl,←Ad1,List.zipIdx_map_snd,Aj7]
def oT (A B) (s):gp A B s=((Aa3 A.length).map λk=>(s,0,k))++(Aa3 B.length).map λk=>(s,1,k):=by
 show((A.zipIdx.flatMap λp=> [_])++((B.zipIdx.flatMap λp=> [(s,1,p.2)])++ []))=_
 rw [Ae3,pP,pP]
def uX (a:A.length<=2) (b:B.length<=2) (s):(gp A B s).length<=4:=by
 rw [oT,Aa6,Aa,Aa,Af3,Af3];lia
def o8 (b:A.length<=2) (c:B.length<=2) (h:m<=4):(dF A B m).length<=1000:=by
 have: ∀l:List Nat,(l.flatMap (gp A B)).length<=4*l.length:=λl=>by
  induction l with
  | nil=>exact Ae6 _
  | cons a l d=>rw [Ag0,Aa6,Aa7];have:=uX b c a;lia
 have:=this (Aa3 (m+1))
 rw [Af3]at this
 unfold dF
 lia
abbrev QL:Tx:= [115,97,109,101]
def Ie (K T) (h):Gq .ne (.v (wD K T)) (.v (wD K T)) h=k0 false:=by
 exact xR _ (by simp [(jm K),(jm T)]) (by have x:=Qz D.str 0 (λ_=>Aa9 _) K;have y:=Qz D.str 0 (λ_=>Aa9 _) T;simp [wD];lia) h
def BB (g:bz m K T) (R: ∀z∈A++B,z.wf (K++T)/\z.dp<=11) (F:A.length<=2) (I:B.length<=2) (J:Gu H=u0){f:Nat}(N:49<=f):(∃ a,iI K T A B m a/\call prog (f+1) "same_or_parted" [.v (aG K T A),.v (aG K T B),.i m] H= .ok (.v a) H)\/ ∃ds,dO (gI K T A B 12) (dF A B m) ds/\call prog (f+1) "same_or_parted" [.v (aG K T A),.v (aG K T B),.i m] H= .ok (.v (.tup [.str QL,.ref H.length])) (H++ [.lst ds]):=by
 have in1: ∀ {s i:Nat},s<=m->i<2-> ∀ {j ds},S1 K T A B m H.length s i j->ds.length+((sd A B i).zipIdx.flatMap λp=> [(s,i,p.2)]).length<=1000->Rs K T A B m 12 H (S1 K T A B m H.length s i) ((sd A B i).zipIdx.flatMap λp=> [(s,i,p.2)]) ds (execs (k8 f) Xn j (H++ [.lst ds])):=by
  intro s i u E j ds c t
  refine Rs.one (Rs.for (e:=λp:Sy×Nat=>D.tup [.n p.2,az p.1]) ?_ (λp x j ds c t=> ?_) c t)
  .obtain⟨l,q,n,b,rfl⟩:=c
   have U:c5 (.v (.tup [aG K T A,aG K T B])) (.i i) (H++ [.lst ds])=k0 (aG K T (sd A B i)):=by
    obtain rfl | rfl:i=0\/i=1:=by lia
    .rfl
    .rfl
   have e:GY 0 ((sd A B i).map az)=(sd A B i).zipIdx.map λp=>D.tup [.n p.2,az p.1]:=by
    rw [p8,List.zipIdx_map,Ad1];rfl
   simp_all [U,ag,aa,xf,e]
  .obtain⟨l,q,n,b,rfl⟩:=c
   exact⟨_,rfl,Be g u E R F I J N (List.mem_zipIdx_iff_getElem?.mp x) t⟩
 have n4:=g.n4
 obtain⟨k,rfl⟩:=nk f 5 (by lia)
 have L:Rs K T A B m 12 H (λj=> ∃y r l q n b,j=iz K T A B m H.length y r l q n b) (dF A B m) [] (exec (k8 (k+5)) (.for [5] u0 (.aj (.bin .add .v2 (.int 1))) Xg) (iz K T A B m H.length y0 y0 y0 y0 y0 y0) (H++ [.lst []])):=by
  refine Rs.for (e:=λi:Nat=>D.n i) (by
   show Gk _ _ _ _=_
   exact jj (m:=m+1) (by simp_all [Jc,ag];rfl) (by lia)) (λs u j ds c t=> ?_) ⟨_,_,_,_,_,_,rfl⟩ (by have:=o8 F I n4;simpa [dF]using this)
  obtain⟨y,r,l,q,n,b,rfl⟩:=c
  have:=Ab4.mp u
  refine⟨_,rfl,Rs.up (st:=λj=> ∃r l q n b,j=iz K T A B m H.length (si s) r l q n b) (λj ⟨r,l,q,n,b,e⟩=>⟨_,_,_,_,_,_,e⟩) (Rs.one (Rs.for (e:=λi:Nat=>D.n i) (by
   show Gk _ _ _ _=_
   exact jj (m:=2) rfl (by decide)) (λi E j ds c t=> ?_) ⟨_,_,_,_,_,rfl⟩ t))⟩
  obtain⟨r,l,q,n,b,rfl⟩:=c
  exact⟨_,rfl,(in1 (by lia) (Ab4.mp E) ⟨l,q,n,b,rfl⟩ t).up λj ⟨l,q,n,b,e⟩=>⟨_,_,_,_,_,e⟩⟩
 have e1:=wu k g H
 have e2:=oA (K:=K) (T:=T) (S:=A) (k+4) (by lia) H
 have Q:=oA (K:=K) (T:=T) (S:=B) (k+4) (by lia) H
 have C: ∀ {X},(∀ o,exec (k8 (k+5)) (.for [5] u0 (.aj (.bin .add .v2 (.int 1))) Xg) (iz K T A B m H.length y0 y0 y0 y0 y0 y0) (H++ [.lst []])=o->Gw H.length (o.seq fun j h=>execs (k8 (k+5)) (.a (.ret (.tup (.b (.str QL) .v4)))) j h)=X)->call prog (k+5+1) "same_or_parted" [.v (aG K T A),.v (aG K T B),.i m] H=X:=fun {X} h=>by
  rw [Gb (d:=xk) rfl _ _ _ rfl]
  simp only [xk]
  refine fx (hY (h1:=H) (by simp_all [aa,Qh,ag,Ie])) ?_
  refine fx (by simp_all [aa,Qh,ag,show List.lookup "MOST_BITS" prog.con=some (.int 16)from rfl,e1];rfl) ?_
  refine fx (by simp_all [e2];rfl) ?_
  refine fx (by simp_all [Q];rfl) ?_
  refine fx (by simp_all [ag];rfl) ?_
  refine fx (by simp_all [ag,Gc,if_true];rfl) ?_
  rw [execs]
  exact h _ rfl
 rcases L with⟨a,V,e,M,z⟩ | ⟨P,G,e,⟨y,r,l,q,n,b,rfl⟩,z⟩
 .refine .inl ⟨a,z,C λo v=> ?_⟩
  rw [← v,e,O.bM,Z9 M J]
 .refine .inr ⟨G,z,C λo v=> ?_⟩
  rw [← v,e,O.bw,qa (w:= .t [.str QL,.ref H.length]) (h1:=H++ [.lst G]) (Ja rfl (by simp_all [ag]))]
  simp [Gw,fin,W.keep]
end
theorem rP {st:Sl->AH->Prop}: ∀(L:List α),(∀ a∈L,∀τ h,st τ h-> ∃τ1 j h2,bnd (e a) τ=k0 τ1/\body τ1 h= .next j h2/\st j h2)-> ∀τ h,st τ h-> ∃i h',Gp bnd body (L.map e) τ h= .next i h'/\st i h'
 | [],_,τ,h,z=>⟨τ,h,rfl,z⟩
 | a::L,step,τ,h,z=>by
  obtain⟨τ1,j,h2,e1,e2,c⟩:=step a Aa5 τ h z
  obtain⟨i,h',d,g⟩:=rP L (λb f=>step b (Aa2 _ f)) j h2 c
  exact⟨i,h',by rw [Ab1,zb e1 e2,d],g⟩
def EY (e:h[r]? =k0 (.lst xs)):dw .len [.r r] h=ag (.int xs.length) h:=by
 show(R.of h _).bind _=_
 rw [show (W.r r).seq? h=k0 xs by simp [W.seq?,e]];rfl
section
variable {K T:List Tx}{A B:List Sy}{m q:Nat}{H:AH}
abbrev eh (K T:List Tx) (A B:List Sy) (m r:Nat) (a x5 b x7 x8 x9 x10:Option W):Sl:= [sv (aG K T A),sv (aG K T B),si m,k0 (.r r),a,x5,b,x7,x8,x9,x10]
def E2 (i:A.length<=2) (j:B.length<=2)(l:L.length<=100):execs (k8 f) We (eh K T A B m r (k0 (.l (L.map ck))) (si s) x6 x7 x8 x9 x10) H= .next (eh K T A B m r (k0 (.l ((L++gp A B s).map ck))) (si s) x6 x7 x8 x9 x10) H:=by
 have e:eval (k8 f) Xe (eh K T A B m r (k0 (.l (L.map ck))) (si s) x6 x7 x8 x9 x10) H= .ok (.own ((Aa3 A.length).map λk=>ck (s,0,k))) H:=by
  unfold Xe
  exact Zn (λk=>ck _) (by simp_all [aa,xf,ag,Xc,Aa]) (by lia) λk g=>⟨.v _,by simp_all [ag];rfl,rfl⟩
 have c:eval (k8 f) we (eh K T A B m r (k0 (.l ((L++(Aa3 A.length).map λk=>(s,0,k)).map ck))) (si s) x6 x7 x8 x9 x10) H= .ok (.own ((Aa3 B.length).map λk=>ck (s,1,k))) H:=by
  unfold we
  exact Zn (λk=>ck _) (by simp_all [aa,xf,ag,Xc,Aa]) (by lia) λk g=>⟨.v _,by simp_all [ag];rfl,rfl⟩
 have d: ∀(X:List Ix) b,X.length+b.length<=1000->GV .add (.l (X.map ck)) (.own b) H= .ok _ H:=λX b h=>by
  rw [BV,if_pos (by rw [Gg,Aa];lia)]
 unfold We
 rw [za (τ1:=eh K T A B m r (k0 (.l ((L++(Aa3 A.length).map λk=>(s,0,k)).map ck))) (si s) x6 x7 x8 x9 x10) (h1:=H) (by
  rw [Ae0,Ad1]
  have a:=d L ((Aa3 A.length).map λk=>ck (s,0,k)) (by simp;lia)
  generalize Xe=X at e ⊢
  simp_all [e,a,W.dQ];rfl)]
 rw [za (τ1:=eh K T A B m r (k0 (.l ((L++gp A B s).map ck))) (si s) x6 x7 x8 x9 x10) (h1:=H) (by
  rw [oT,←Ae,Ae0 (l₂:=(Aa3 B.length).map λk=>(s,1,k)),Ad1 (f:=λk=>(s,1,k))]
  have a:=d (L++(Aa3 A.length).map λk=>(s,0,k)) ((Aa3 B.length).map λk=>ck (s,1,k)) (by simp;lia)
  generalize we=X at c ⊢
  simp_all [c,a,W.dQ];rfl),execs]
theorem uT (b:A.length<=2) (d:B.length<=2): ∀ c j x5,j+c<=5-> ∃L,Gp (Gr [5] u0) (λτ h=>execs (k8 f) We τ h) ((Al7 j c).map λi=>D.n i) (eh K T A B m r (k0 (.l (((Aa3 j).flatMap (gp A B)).map ck))) x5 y0 y0 y0 y0 y0) H= .next (eh K T A B m r (k0 (.l (((Aa3 (j+c)).flatMap (gp A B)).map ck))) L y0 y0 y0 y0 y0) H
 | 0,j,x5,_=>⟨x5,rfl⟩
 | c+1,j,x5,h=>by
  obtain⟨L,e⟩:=uT b d c (j+1) (si j) (by lia)
  have g:((Aa3 j).flatMap (gp A B)).length<=100:=by
   have: ∀l:List Nat,(l.flatMap (gp A B)).length<=4*l.length:=λl=>by
    induction l with
    | nil=>exact Ae6 _
    | cons a l k=>rw [Ag0,Aa6,Aa7];have:=uX b d a;lia
   have:=this (Aa3 j)
   rw [Af3]at this
   lia
  refine⟨L,?_⟩
  rw [Al2,Ab1,zb rfl (E2 b d g)]
  rw [An3,List.flatMap_append,List.flatMap_singleton,show j+1+c=j+(c+1)by lia]at e
  exact e
def IY (g:bz m K T) (hS: ∀z∈A++B,z.wf (K++T)/\z.dp<=11) (Y:A.length<=2) (lB:B.length<=2) (R:Gu H=u0)(U:40<=f)(N:H[r]? =k0 (.lst ds)){I:List Ix}(t:s<=m) (hi:i<2) (e:I[k]? =k0 (s,i,j))(o:ds[k]? =k0 d) (v:gI K T A B 12 (s,i,j) d):
 ∃V Z M L ex,execs (k8 f) Qe (eh K T A B m r (k0 (.l (I.map ck))) x5 (si k) x7 x8 x9 x10) H= .next (eh K T A B m r (k0 (.l (I.map ck))) x5 (si k) V Z M L) (H++ex)/\Gu ex=true:=by
 obtain⟨y,p,n,rfl,P⟩:=v
 have q:=g.le t
 obtain⟨f,rfl⟩:=nk f 2 (by lia)
 have C:k<ds.length:=(Aa0.mp o).1
 have a:k<I.length:=(Aa0.mp e).1
 have e1:c5 (.r r) (.i k) H=k0 (.tup [.n s,.n i,.n j,p]):=by rw [Zs N,Zd _ _ C,o]
 have e2:aQ (I.map ck) (k:Int)=k0 (.tup [.n s,.n i,.n j]):=by rw [Zd _ _ (by rw [Aa];exact a),Ac,e];rfl
 have c:cut [D.n s,D.n i,D.n j,p] y0 (k0 3)= [.n s,.n i,.n j]:=mG _ 3
 have ne:=xR (.tup [.n s,.n i,.n j]) rfl (by show max 0 (max 0 (max 0 0))+1<150;decide) H
 have n4:Gq .ne (.i (4)) (.v (.int 4)) H=k0 false:=rfl
 have b:bZ .tuple (.t [.n s,.n i,.n j,p])=k0 true:=rfl
 have l:eval (k8 (f+2)) (.bi .all (.a xh)) (eh K T A B m r (k0 (.l (I.map ck))) x5 (si k) (k0 (.t [.n s,.n i,.n j,p])) x8 x9 x10) H= .ok (.b u0) H:=by
  refine qv (bs:= [u0,u0,u0]) ?_
  unfold xh
  exact X0 (λi:Nat=>D.n i) (λ_=> .bl u0) [s,i,j] (by simp_all [fv,W.dh,W.dr,c,ag]) (by simp) λx _=>⟨.b u0,by
   simp_all [(xn (f+1) (.n x) H rfl)];rfl,rfl⟩
 have Q:c5 (.own [.tup [aG K T A,aG K T B],.tup [aG K T B,aG K T A]]) (.i i) H=k0 (.tup [aG K T (sd A B i),aG K T (sd B A i)]):=by
  obtain rfl | rfl:i=0\/i=1:=by lia
  .rfl
  .rfl
 have S:j<(sd A B i).length:=(Aa0.mp n).1
 have u:aQ ((sd A B i).map az) (j:Int)=k0 (az y):=by
  rw [Zd _ _ (by rw [Aa];exact S),Ac,show(sd A B i)[j]? =k0 y from n];rfl
 have w:=ve ((sd B A i).map az) [az (.neg y)] H (by
  have:(sd B A i).length<=2:=by unfold sd;split<;>assumption
  simp;lia)
 have F:aQ [D.n s,.n i,.n j,p] 0=k0 (.n s):=rfl
 have O:aQ [D.n s,.n i,.n j,p] 1=k0 (.n i):=rfl
 have a2:aQ [D.n s,.n i,.n j,p] 2=k0 (.n j):=rfl
 have a3:aQ [D.n s,.n i,.n j,p] 3=k0 p:=rfl
 have G:D.tup [wD K T,.tup ((sd B A i).map az++ [az (.neg y)])]=aG K T (sd B A i++ [Sy.neg y]):=by rw [aG,Ae0];rfl
 have J: ∀s:Sy,D.tup [.str eX,az s]=az (.neg s):=λ_=>rfl
 refine⟨k0 (.t [.n s,.n i,.n j,p]),sv (aG K T (sd A B i)),sv (aG K T (sd B A i)),sv (aG K T (sd B A i++ [Sy.neg y])),[.aN (aM (K++T) (fO s T))],?_,rfl⟩
 unfold Qe
 refine(za (by simp_all [e1,ag];rfl)).trans ?_
 rw [xa (by simp_all [b,ag,Xc,Aa7,Ad3,n4,fv,W.dh,W.dr,c,xr,e2,ne])]
 rw [xa (by
  generalize E.bi _ _=X at l ⊢
  simp_all [l,ag])]
 refine(za (by simp_all [ag,aa,O,Q];rfl)).trans ?_
 refine(za (by simp_all [ag,aa,Qh,xf,a2,u,J,w,G];rfl)).trans ?_
 rw [za (hY (h1:=H++ [.aN (aM (K++T) (fO s T))]) (by simp_all [ag,aa,Qh,F,a3,(Fu f q H),((P.wk _ _ _ (MR q (r:=H.length) (h:=H++ [.aN (aM (K++T) (fO s T))]) (by simp))).mT (zr R rfl) (f+2) (by lia))])),execs]
def M9 (h:(s,i,j)∈dF A B m):s<=m/\i<2:=by
 obtain⟨x,a,h⟩:=Al3.mp h
 rw [oT]at h
 have:=Ab4.mp a
 obtain h | h:=Ac8.mp h
 .obtain⟨y,_,e⟩:=Ab6.mp h
  cases e
  lia
 .obtain⟨y,_,e⟩:=Ab6.mp h
  cases e
  lia
def Ds (g:bz m K T) (V: ∀z∈A++B,z.wf (K++T)/\z.dp<=11) (v:A.length<=2) (C:B.length<=2) (I:Gu H=true)(N:40<=f)(o:H[r]? =some (.lst ds)) (F:dO (gI K T A B 12) (dF A B m) ds):call prog (f+1) "_law_papers_are" [.v (aG K T A),.v (aG K T B),.i m,.r r] H= .ok (.b true) H:=by
 have n4:=g.n4
 obtain⟨p,e1⟩:=uT (K:=K) (T:=T) (A:=A) (B:=B) (m:=m) (H:=H) (f:=f) (r:=r) v C (m+1) 0 y0 (by lia)
 rw [Ak0]at e1
 have O:Gs (k8 f) (.aj (.bin .add .v2 (.int 1))) (eh K T A B m r (k0 (.l [])) y0 y0 y0 y0 y0 y0) H= .ok ((Al7 0 (m+1)).map λi=>D.n i) H:=by
  show Gk _ _ _ _=_
  rw [← Aj7]
  exact jj (m:=m+1) (by simp_all [Jc,ag];rfl) (by lia)
 have X:=F.len
 have q:Gs (k8 f) (.aj (.bi .len (.a .v4))) (eh K T A B m r (k0 (.l ((dF A B m).map ck))) p y0 y0 y0 y0 y0) H= .ok ((Aa3 (dF A B m).length).map λi=>D.n i) H:=by
  show Gk _ _ _ _=_
  exact jj (by simp_all [ag,Qx,Aa]) (by have:=o8 v C n4;lia)
 obtain⟨P,h',Q,u,b,l,c,a,ex,rfl,rfl,_⟩:=rP (e:=λi:Nat=>D.n i) (bnd:=Gr [6] u0) (body:=λn h=>execs (k8 f) Qe n h) (st:=λn h=> ∃u b l c a ex,n=eh K T A B m r (k0 (.l ((dF A B m).map ck))) p u b l c a/\h=H++ex/\Gu ex=u0) (Aa3 (dF A B m).length) (λk L n h E=>by
  obtain⟨u,b,l,c,a,ex,rfl,rfl,G⟩:=E
  obtain⟨⟨s,i,j⟩,t⟩: ∃x,_[k]? =k0 x:=⟨_,Aa4 (Ab4.mp L)⟩
  obtain⟨d,S,J⟩:=F.get t
  obtain⟨y,h2⟩:=M9 (Ac4 t)
  obtain⟨y7,y8,y9,Z,M,e,Y⟩:=IY (H:=H++ex) g V v C (zr I G) N (by rw [Ac9 (Aa0.mp o).1,o]) y h2 t S J (x5:=p) (x7:=b) (x8:=l) (x9:=c) (x10:=a)
  exact⟨_,_,_,rfl,e,_,_,_,_,_,ex++M,rfl,by rw [Ae],zr G Y⟩) _ H ⟨_,_,_,_,_,[],rfl,by rw [Ae3],rfl⟩
 have U:GF H (k0 (.r r))=k0 (r,ds):=by simp only [W.r,GF,o]
 have nn:Gq .ne (.v (.int (ds.length:Int))) (.v (.int (((dF A B m).map ck).length:Int))) H=k0 false:=by
  rw [Aa,X]
  exact xR (.int _) rfl (show (0:Nat)<150 by decide) H
 rw [Gb (d:=Xj) rfl _ _ _ rfl]
 simp only [Xj]
 refine fx (by simp_all [ag];rfl) ?_
 refine fx (τ1:=eh K T A B m r (k0 (.l ((dF A B m).map ck))) p y0 y0 y0 y0 y0) (h1:=H) (by
  rw [exec]
  refine(congrArg (λx=>R.cA x _) O).trans ?_
  rw [R.ar]
  exact e1) ?_
 rw [xa (by simp_all [U,ag,(EY o),Qx,nn])]
 refine fx (by
  rw [exec,q,R.ar]
  exact Q) ?_
 rw [qa (w:= .b u0) (h1:=H++ex) rfl,Z9 rfl I]
end
section
variable {n:Nat}{K T:List Tx}
def B9 (g:bz n K T) (a b): ∃f,Dc (wo n K T a) (wo n K T b) f 0 [.aN (aM (K++T) f)]:=⟨λt=>((fS n K T a t).1,(fS n K T b t).1),rfl,g.n4,λt c=>(Q6 (r:=0) (h:= [.aN _]) g rfl).lo t c,λt c=>(Q6 (r:=0) (h:= [.aN (aM _ (fS n K T b))]) g rfl).lo t c⟩
end
section
variable {K T:List Tx}{A B:List Sy}{m q:Nat}{H:AH}
def ri (h1:x<=y) (f:eval F a τ h= .ok (.v (.int 0)) h) (d:eval F b τ h= .ok (.i x) h) (e:eval F c τ h= .ok (.i y) h):eval F (.chain .le .le a b c) τ h= .ok (.b u0) h:=by simp_all
abbrev kR (K T:List Tx) (A B:List Sy) (m:Nat) (a:List D) (b x5:Option W):Sl:= [sv (aG K T A),sv (aG K T B),si m,k0 (.t a),b,x5]
def FW (g:bz m K T) (j: ∀z∈A++B,z.wf (K++T)/\z.dp<=11) (b:A.length<=2) (c:B.length<=2) (i:Gu H=true)(k:41<=f)(h:H[r]? =some (.lst ds)) (e:dO (gI K T A B 12) (dF A B m) ds):call prog (f+1) "_law_right" [.v (aG K T A),.v (aG K T B),.i m,.t [.str QL,.ref r]] H= .ok (.b true) H:=by
 obtain⟨f,rfl⟩:=nk f 1 (by lia)
 have e1:=Ds g j b c i (f:=f) (by lia) h e
 rw [Gb (d:=Wm) rfl _ _ _ rfl]
 simp only [Wm]
 have a:bZ .tuple (.t [.str QL,.ref r])=k0 true:=rfl
 have l2:Gq .lt (.i (2)) (.v (.int 2)) H=k0 false:=rfl
 have l:Gq .eq (.i (2)) (.v (.int 2)) H=k0 true:=rfl
 refine fx (hY (h1:=H) (by simp_all [a,ag,Xc,Aa7,Ad3,l2])) ?_
 rw [zf (w:= .b u0) (by simp_all [aa,Qh,Xa,ag,show(QL== eG)=u0 from rfl]) (Ja rfl (by assumption))]
 exact Ga _ _ _ rfl
def Hy (g:bz m K T) (G: ∀z∈A++B,z.wf (K++T)/\z.dp<=11) (lA:A.length<=2) (lB:B.length<=2) (J:Gu H=true)(hf:41<=f)(w:iI K T A B m a):call prog (f+1) "_law_right" [.v (aG K T A),.v (aG K T B),.i m,.v a] H= .ok (.b true) H:=by
 obtain⟨s,c,i,y,C,hi,rfl,hc,Q,F⟩:=w
 have u:=g.le C
 obtain⟨f,rfl⟩:=nk f 3 (by lia)
 have V: ∀z∈sd A B i,z∈A++B:=λz b=>by unfold sd at b;split at b<;>simp [b]
 have Y: ∀z∈sd B A i,z∈A++B:=λz b=>by unfold sd at b;split at b<;>simp [b]
 have lS:(sd A B i).length<=2/\(sd B A i).length<=2:=by unfold sd;split<;>exact⟨by assumption,by assumption⟩
 obtain⟨b1,p,W⟩:=uD (f+2) c u (λz b=>G z (Y z b)) (by lia) (by lia) H J
 obtain⟨L,I,U⟩:=uD (f+2) c u (λz b=>G z (V z b)) (by lia) (by lia) H J
 rw [W.mpr λz b=>F z (Ad _ b)]at p
 have:L=false:=by
  cases L with
  | false=>rfl
  | true=>
   obtain⟨o,S,e⟩:=F _ (Ab0 _ (Ac2.mpr rfl))
   rw [Td.uniq S (U.mp rfl y Q)]at e
   cases e
 subst this
 have e1:=K6 u (f+1) c H
 have p1:c5 (.l [aG K T A,aG K T B]) (.i (1-i)) H=k0 (aG K T (sd B A i)):=by
  obtain rfl | rfl:i=0\/i=1:=by lia
  .rfl
  .rfl
 have p2:c5 (.l [aG K T A,aG K T B]) (.v (.int (1-((1-i:Nat):Int)))) H=k0 (aG K T (sd A B i)):=by
  obtain rfl | rfl:i=0\/i=1:=by lia
  .rfl
  .rfl
 generalize O:(wo s K T c).aT=w at p I e1
 have Z: ∃k t,w= .tup [.n s,k,t]:=⟨_,_,O.symm⟩
 obtain⟨h,j,rfl⟩:=Z
 rw [Gb (d:=Wm) rfl _ _ _ rfl]
 have r:aQ [D.str Jf,.tup [.n s,h,j],.n (1-i)] 0=k0 _:=rfl
 have n:aQ [D.str Jf,.tup [.n s,h,j],.n (1-i)] 1=k0 (.tup [.n s,h,j]):=rfl
 have a2:aQ [D.str Jf,.tup [.n s,h,j],.n (1-i)] 2=k0 (.n (1-i)):=rfl
 have a3: [D.str Jf,.tup [.n s,h,j],.n (1-i)].length=3:=rfl
 show Gw _ (execs _ _ (kR K T A B m [.str Jf,.tup [.n s,h,j],.n (1-i)] y0 y0) H)=_
 generalize [D.str Jf,.tup [.n s,h,j],.n (1-i)]=a at r n a2 a3
 simp only [Wm]
 have q:bZ .tuple (.t a)=k0 true:=rfl
 have v:bZ .tuple (.t [.n s,h,j])=k0 true:=rfl
 have l2:Gq .lt (.i (3)) (.v (.int 2)) H=k0 false:=rfl
 have M:Gq .ne (.i (3)) (.v (.int 3)) H=k0 false:=rfl
 have N:Gq .ne (.s Jf) (.s fj) H=k0 false:=rfl
 rw [xa (by simp_all [q,ag,Xc,a3,l2])]
 rw [xa (by simp_all [aa,r,Xa,ag,show(Jf== eG)=k9 from rfl])]
 have l: ∀ {X:E},X= .chain .le .le (.int 0) (.ix .v3 (.int 2)) (.int 1)->eval (k8 (f+3)) X (kR K T A B m a y0 y0) H= .ok (.b u0) H:=λ{X} P=>by
  rw [P]
  exact ri (x:=1-i) (y:=1) (by lia) rfl (by simp_all [aa,a2,ag]) rfl
 rw [xa (by
  generalize R:E.chain _ _ _ _ _=X
  have l:=l R.symm
  simp_all [aa,r,a2,ag,N,Xc,a3,M,(xn (f+2) (.n (1-i)) H rfl),Xs,l])]
 rw [xa (by simp_all [aa,n,ag,v,Xc,Aa7,Ad3,M,kK,(xn (f+2) (.n s) H rfl),Xs])]
 rw [za (τ1:=kR K T A B m a (si s) y0) (h1:=H) (by simp_all [aa,n,ag,kK])]
 rw [xa (by
  have l:eval (k8 (f+3)) (.chain .le .le (.int 0) .v4 .v2) (kR K T A B m a (si s) y0) H= .ok (.b u0) H:=ri C rfl rfl rfl
  generalize E.chain _ _ _ _ _=X at l ⊢
  simp_all [l,ag,aa,Qh,n,e1])]
 rw [za (τ1:=kR K T A B m a (si s) (k0 (.l [aG K T A,aG K T B]))) (h1:=H) (by simp_all [ag])]
 rw [qa (w:= .b u0) (h1:=H) (Ja rfl (by simp_all [aa,n,a2,ag,p1,p,Wc,p2,I])),Ga _ _ _ rfl]
def oe (g:bz m K T) (h: ∀z∈A++B,z.wf (K++T)/\z.dp<=11) (c:A.length<=2) (d:B.length<=2) (b:Gu H=true): ∃a H',call prog 69 "same_or_parted" [.v (aG K T A),.v (aG K T B),.i m] H= .ok (.v a) H'/\Gu H'=true/\call prog 69 "_law_right" [.v (aG K T A),.v (aG K T B),.i m,.v a] H'= .ok (.b true) H'/\(iI K T A B m a/\H'=H\/ ∃ds,dO (gI K T A B 12) (dF A B m) ds/\a= .tup [.str QL,.ref H.length]/\H'=H++ [.lst ds]):=by
 rcases BB g h c d b (f:=68) (by decide)with⟨a,w,e⟩ | ⟨ds,p,e⟩
 .exact⟨a,H,e,b,Hy g h c d b (by decide) w,.inl ⟨w,rfl⟩⟩
 .exact⟨_,_,e,zr b rfl,FW g h c d (zr b rfl) (by decide) (by simp) p,.inr ⟨ds,p,rfl,rfl⟩⟩
def sj (g:bz m K T)(w:iI K T A B m a) (p:dO (gI K T B A 12) (dF B A m) ds):False:=by
 obtain⟨s,c,i,y,h,C,rfl,u,n,r⟩:=w
 obtain⟨k,e⟩:=List.mem_iff_getElem?.mp n
 have e1:sd B A (1-i)=sd A B i/\sd A B (1-i)=sd B A i:=by
  obtain rfl | rfl:i=0\/i=1:=by lia
  .exact⟨rfl,rfl⟩
  .exact⟨rfl,rfl⟩
 have l:(s,1-i,k)∈dF B A m:=by
  refine Al3.mpr ⟨s,Ab4.mpr (by lia),Al3.mpr ⟨1-i,Ab4.mpr (by lia),?_⟩⟩
  rw [pP,e1.1]
  exact Ab6.mpr ⟨k,Ab4.mpr (Aa0.mp e).1,rfl⟩
 obtain⟨j,t⟩:=List.mem_iff_getElem?.mp l
 obtain⟨d,_,v,x,b,_,P⟩:=p.get t
 have b:=b
 rw [e1.1,e]at b
 cases b
 have P:=P
 rw [e1.2]at P
 obtain⟨f,D⟩:=B9 (g.le h) 0 _
 obtain⟨z,o,q⟩:=(P.wk _ _ _ D).snd c (tJ c) (CP u)
 cases q _ (r z o)
end
def EL {S:List Sy}(h) (f: ∀s∈S,s.dp<=9):Gq .ne (.bor (S.map az)) (.own []) h=k0 (!S.isEmpty):=by
 have a:=xl _ (λs=>(px s).1) S
 have g:dep (.lst (S.map az))<150:=by
  have: ∀L:List Sy,(∀ s∈L,s.dp<=9)->GG (L.map az)<=11:=λL=>by
   induction L with
   | nil=>intro _;simp [GG]
   | cons s L c=>
    intro h
    have:=c λs b=>h s (Aa2 _ b)
    have:=(px s).2
    have:=h s Aa5
    rw [Ab1,GG]
    lia
  have:=this S f
  lia
 have e:W.dd h (.bor _)= .lst _:=wW (d:= .lst _) a
 show(if G6 _ (.lst [])then k0 (!cy _ _)else y0)=_
 rw [e,if_pos (show (Gd _&&u0&&decide _)=u0 by rw [decide_eq_true g,show Gd (.lst _)=u0 from a];rfl)]
 cases S<;>rfl
def sX:Ss:=match bx.body with
 | .cons _ (.cons (.iff _ y _) _)=>y
 | y=>y
section
variable {K T:List Tx}{A B:List Sy}{n:Nat}
abbrev gT (K T:List Tx) (A C:List Sy) (x3 a:Option W):Sl:= [k0 (.r 0),sv (aG K T A),k0 (.own (C.map az)),x3,a]
def HI (hA: ∀z∈A,z.wf (K++T)/\z.dp<=9) (V:A.length<=2)(f:Nat): ∃(B:List Sy) (j:Int),(∀ z∈B,z.wf (K++T)/\z.dp<=11)/\B.length<=2/\call prog (f+2) "_law_other" [.r 0,.v (aG K T A)] [ah ns i v]= .ok (.v (aG K T B)) [ah ns i j]:=by
 have b: ∀z∈A.reverse,z.wf _/\z.dp<=9:=λz n=>hA z (List.mem_reverse.mp n)
 have y:A.reverse.length<=2:=by rw [Ao4];exact V
 generalize X:A.reverse=C at b y
 have o:(A.map az).reverse=C.map az:=by rw [← X,List.map_reverse]
 have run: ∀ {B:List Sy}{j:Int}{O J:Option W},exec (k8 _) _ _ [ah ns i v]= .next (gT K T A B O J) [ah ns i j]->call prog (f+2) "_law_other" [.r 0,.v _] [ah ns i v]= .ok _ [ah ns i j]:=fun {B j O J} e=>by
  rw [Gb (d:=bx) rfl _ _ _ rfl]
  show Gw 1 (execs _ _ [k0 (.r 0),sv (aG K T A),y0,y0,y0] [ah ns i v])=_
  simp only [bx]
  refine fx (τ1:=gT K T A C y0 y0) (h1:= [ah ns i v]) (by simp_all [aa,xf,ag,W.dr,o,vA]) (fx e ?_)
  rw [qa (w:= .v (aG K T B)) (h1:= [ah ns i j]) (Ja rfl (by simp_all [aa,Qh,ag,W2]))]
  exact Ga _ [ah ns i v] [ah ns i j] rfl
 have ne:=EL (S:=C) [ah ns i v] λs Q=>(b s Q).2
 by_cases P:C.isEmpty=u0
 .refine⟨C,v,λz n=>⟨(b z n).1,by have:=(b z n).2;lia⟩,y,run ((hY (h1:= [ah ns i v]) (by simp_all [ne,P,ag])).trans (by rw [execs]))⟩
 have M:C.isEmpty=false:=by simpa using P
 have q:0<C.length:=by cases C with | nil=>cases M | cons _ _=>simp
 obtain⟨x,v1,E,e1⟩:=qh f (h:= [ah ns i v]) (r:=0) rfl (m:=C.length) q (by lia)
 have e1:call prog (f+1) "_law_draw" [.r 0,.i C.length] [ah ns i v]= .ok (.i x) [ah ns i v1]:=e1
 obtain⟨d,v2,hd,e2⟩:=qh f (h:= [ah ns i v1]) (r:=0) rfl (m:=4) (by decide) (by decide)
 have e2:call prog (f+1) "_law_draw" [.r 0,.v (.int 4)] [ah ns i v1]= .ok (.i d) [ah ns i v2]:=e2
 have H:aQ (C.map az) (x:Int)=k0 (az C[x]):=by
  rw [Zd _ _ (by rw [Aa];exact E),Ac,Aa4 E];rfl
 have N:aQ (C.map az) 0=k0 (az C[0]):=by
  have:=Zd (C.map az) 0 (by rw [Aa];exact q)
  rw [show ((0:Nat):Int)=0 from rfl]at this
  rw [this,Ac,Aa4 q];rfl
 have l:dv (C.map az).length (x:Int)=k0 x:=by
  simp [dv,E]
 have I: ∀z:Sy,(C.map az).set x (az z)=(C.set x z).map az:=λz=>by rw [List.map_set]
 have eq: ∀k:Nat,Gq .eq (.i d) (.i k) [ah ns i v2]=k0 (u9 (d=k)):=λk=>Xm d k _
 have o:=eq 0
 have g:=eq 1
 have c:=eq 2
 have G:=b _ (Al4 E)
 have L:=b _ (Al4 q)
 have fin: ∀z:Sy,z.wf (K++T)->z.dp<=11->((∀ w∈C.set x z,w.wf (K++T)/\w.dp<=11)/\(C.set x z).length<=2):=λz a Y=>⟨λw u=>by
  rcases List.mem_or_eq_of_mem_set u with u | rfl
  .exact⟨(b w u).1,by have:=(b w u).2;lia⟩
  .exact⟨a,Y⟩,by rw [Ae1];exact y⟩
 have U: ∀s:Sy,D.tup [.str eX,az s]=az (.neg s):=λ_=>rfl
 have R: ∀s t:Sy,D.tup [.str hG,az s,az t]=az (.bP s t):=λ_ _=>rfl
 have Z: ∀s t:Sy,D.tup [.str fM,az s,az t]=az (.bO s t):=λ_ _=>rfl
 suffices F: ∃p,((∀ w∈p,w.wf (K++T)/\w.dp<=11)/\p.length<=2)/\execs (k8 (f+1)) sX (gT K T A C y0 y0) [ah ns i v]= .next (gT K T A p (si x) (si d)) [ah ns i v2]by
  obtain⟨p,a,e⟩:=F
  exact⟨p,v2,a.1,a.2,run ((Zr (h1:= [ah ns i v]) (by simp_all [ne,M,ag])).trans e)⟩
 simp only [sX,bx]
 rw [za (τ1:=gT K T A C (si x) y0) (h1:= [ah ns i v1]) (by simp_all [FP,Aa,ag,e1]),za (τ1:=gT K T A C (si x) (si d)) (h1:= [ah ns i v2]) (by simp_all [e2])]
 obtain rfl | rfl | rfl | rfl:d=0\/d=1\/d=2\/d=3:=by lia
 .refine⟨C.set x (.neg (.neg C[x])),fin (.neg (.neg C[x])) G.1 (by rw [Sy.dp,Sy.dp];lia),?_⟩
  rw [za (τ1:=gT K T A (C.set x (.neg (.neg C[x]))) (si x) (si (0))) (h1:= [ah ns i v2]) ((Zr (h1:= [ah ns i v2]) (by simp_all [o,ag];rfl)).trans ((za (by simp_all [mm,H,ag,U,l,I])).trans rfl))]
  rw [xa (by simp_all [g,ag];rfl),xa (by simp_all [c,ag];rfl),execs]
 .refine⟨C.set x (.bP C[0] C[x]),fin (.bP C[0] C[x]) ⟨L.1,G.1⟩ (by rw [Sy.dp];lia),?_⟩
  rw [xa (by simp_all [o,ag];rfl)]
  rw [za (τ1:=gT K T A (C.set x (.bP C[0] C[x])) (si x) (si (1))) (h1:= [ah ns i v2]) ((Zr (h1:= [ah ns i v2]) (by simp_all [g,ag];rfl)).trans ((za (by simp_all [mm,N,H,ag,R,l,I])).trans rfl))]
  rw [xa (by simp_all [c,ag];rfl),execs]
 .refine⟨C.set x (.bO C[0] C[x]),fin (.bO C[0] C[x]) ⟨L.1,G.1⟩ (by rw [Sy.dp];lia),?_⟩
  rw [xa (by simp_all [o,ag];rfl),xa (by simp_all [g,ag];rfl)]
  rw [za (τ1:=gT K T A (C.set x (.bO C[0] C[x])) (si x) (si (2))) (h1:= [ah ns i v2]) ((Zr (h1:= [ah ns i v2]) (by simp_all [c,ag];rfl)).trans ((za (by simp_all [mm,N,H,ag,Z,l,I])).trans rfl)),execs]
 .refine⟨C,⟨λz n=>⟨(b z n).1,by have:=(b z n).2;lia⟩,y⟩,?_⟩
  rw [xa (by simp_all [o,ag];rfl),xa (by simp_all [g,ag];rfl),xa (by simp_all [c,ag];rfl),execs]
end
abbrev gZ (sc:D) (a x3 b x5 c x7:Option W):Sl:= [sv sc,k0 (.r 0),a,x3,b,x5,c,x7]
def u1:Ss:=match cI.body with
 | .cons _ (.cons _ (.cons _ (.cons _ (.cons _ (.cons _ y)))))=>y
 | y=>y
def Lf:S:=match cI.body with
 | .cons _ (.cons _ (.cons _ (.cons _ (.cons _ (.cons s _)))))=>s
 | _=> .dI
def rp (x) (xs:List D):aQ (x::xs) 0=k0 x:=Zd (x::xs) 0 (by simp)
section
variable {K T:List Tx}{A B:List Sy}{m:Nat}{H:AH}
def tK (h:iI K T A B m a/\H'=H\/ ∃ds,dO (gI K T A B 12) (dF A B m) ds/\a= .tup [.str QL,.ref H.length]/\H'=H++ [.lst ds]): ∃t xs,a= .tup (.str t::xs)/\(t=Jf/\iI K T A B m a\/t=QL/\xs= [.ref H.length]/\ ∃ds,dO (gI K T A B 12) (dF A B m) ds/\H'=H++ [.lst ds]):=by
 obtain⟨w,_⟩ | ⟨ds,p,rfl,rfl⟩:=h
 .have b:=w
  obtain⟨s,c,i,y,_,_,rfl,_⟩:=b
  exact⟨_,_,rfl,.inl ⟨rfl,w⟩⟩
 .exact⟨_,_,rfl,.inr ⟨rfl,rfl,ds,p,rfl⟩⟩
def DB (g:bz m K T) (j: ∀z∈A++B,z.wf (K++T)/\z.dp<=11) (d:A.length<=2) (e:B.length<=2) (q:Gu H=u0): ∃H',execs (k8 69) u1 (gZ sc (si m) x3 (sv (aG K T A)) (sv (aG K T B)) y0 y0) H= .ret (.b u0) H':=by
 have f: ∀z∈B++A,z.wf _/\z.dp<=11:=λz G=>j z (by simpa [or_comm]using G)
 obtain⟨V,o,e1,O,F,D⟩:=oe (H:=H) g j d e q
 obtain⟨h,b,rfl,n⟩:=tK D
 have i: ∃c,Gu c=u0/\ ∀X,execs (k8 69) (.cons (.iff (.cmp .eq (.ix .v6 (.int 0)) (.str eG)) (.a (.ej (.ix .v6 (.int 1)) .au)) .nil) X) (gZ sc (si m) x3 (sv (aG K T A)) (sv (aG K T B)) (k0 (.t (.str h::b))) y0) o=execs (k8 69) X (gZ sc (si m) x3 (sv (aG K T A)) (sv (aG K T B)) (k0 (.t (.str h::b))) y0) c:=by
  rcases n with⟨rfl,_⟩ | ⟨rfl,rfl,a,_,rfl⟩
  .exact⟨o,O,λX=>xa (by simp_all [aa,rp,Xa,ag,show(Jf== eG)=k9 from rfl])⟩
  .refine⟨H++ [.lst (a++ [.au])],zr q rfl,λX=>za ((Zr (h1:=H++ [.lst a]) (by simp_all [aa,Qh,Xa,ag,show(QL== eG)=u0 from rfl])).trans ?_)⟩
   have L:GF (H++ [.lst a]) (k0 (.r H.length))=k0 (H.length,a):=by simp [GF]
   have w:a.length<bf/\Gd .au=true:=⟨by
    rename_i v
    have:=v.len
    have:=o8 d e g.n4
    rw [Gg];lia,rfl⟩
   have N:(H++ [Cell.lst a]).set H.length (.lst (a++ [.au]))=H++ [.lst (a++ [.au])]:=by
    rw [An2 _ _ (Aa9 _),Am3];rfl
   rw [za (τ1:=gZ sc (si m) x3 (sv (aG K T A)) (sv (aG K T B)) (k0 (.t [.str QL,.ref H.length])) y0) (h1:=H++ [.lst (a++ [.au])]) (by simp_all [aa,xf,ag,L,W.lj,w,and_self,if_true,N]),execs]
 obtain⟨c,P,i⟩:=i
 obtain⟨a3,l,I,R,J,s⟩:=oe (H:=c) g f e d P
 obtain⟨p,E,rfl,k⟩:=tK s
 obtain⟨a4,y,C,Z,M,U⟩:=oe (H:=l) g j d e R
 have Q:p=h:=by
  rcases n with⟨rfl,r⟩ | ⟨rfl,_,S,t,_⟩
  .rcases k with⟨rfl,_⟩ | ⟨_,_,Y,x,_⟩
   .rfl
   .exact(sj g r x).elim
  .rcases k with⟨_,u⟩ | ⟨rfl,_⟩
   .exact(sj g u t).elim
   .rfl
 subst Q
 refine⟨y,?_⟩
 have ne:=xR (.str p) rfl (show (0:Nat)<150 by decide) l
 simp only [u1,cI]
 refine(za (by simp_all [e1];rfl)).trans ?_
 rw [xa (by simp_all [F,ag])]
 refine(i _).trans ?_
 refine(za (by simp_all [I];rfl)).trans ?_
 rw [xa (by simp_all [aa,rp,ag,ne,J])]
 exact qa (Ja rfl (by simp_all [C,M]))
end
def fU (ns:List Int) (f:ns.length<=63): ∃h',call prog 70 "law" [.l (ns.map .int)] []= .ok (.b true) h':=by
 suffices a: ∃H,execs (k8 69) cI.body [k0 _,y0,y0,y0,y0,y0,y0,y0] []= .ret _ H by
  obtain⟨H,e⟩:=a
  rw [Gb (d:=cI) rfl _ _ _ rfl]
  show ∃h',Gw 0 (execs _ cI.body [k0 (.l (ns.map .int)),y0,y0,y0,y0,y0,y0,y0] [])=_
  rw [e]
  obtain⟨h',J,L⟩:=mE (d:= .bl u0) (h:=H) (n:=0) rfl (Ae6 _) rfl
  exact⟨h',J⟩
 obtain⟨v0,y⟩:=DP 68 ns f []
 obtain⟨n,K,T,v1,g,e1⟩:=L1 66 (h:= [ah ns 0 v0]) (r:=0) (i:=0) rfl
 have e1:call prog 69 "_law_words" [.r 0] [ah ns 0 v0]= .ok _ [ah ns 0 v1]:=e1
 obtain⟨A,i2,v2,o,u,e2⟩:=vf 61 g (M:=2) (by decide) f (h:= [ah ns 0 v1]) (r:=0) (i:=0) rfl
 have e2:call prog 69 "_law_theory" [.r 0,.v _,.v (.int 2)] [ah ns 0 v1]= .ok _ [ah ns i2 v2]:=e2
 obtain⟨B,i3,v3,p,I,l⟩:=vf 61 g (M:=2) (by decide) f (h:= [ah ns i2 v2]) (r:=0) (i:=i2) rfl
 have l:call prog 69 "_law_theory" [.r 0,.v _,.v (.int 2)] [ah ns i2 v2]= .ok (.v (aG K T B)) [ah ns i3 v3]:=l
 obtain⟨v4,k⟩:=yP 68 f (h:= [ah ns i3 v3]) (r:=0) (i:=i3) rfl
 have k:call prog 69 "_law_turn" [.r 0] [ah ns i3 v3]= .ok (.v .au) [ah ns (i3+1) v4]:=k
 obtain⟨d,v5,N,j⟩:=qh 68 (h:= [ah ns (i3+1) v4]) (r:=0) rfl (m:=2) (by decide) (by decide)
 have j:call prog 69 "_law_draw" [.r 0,.v (.int 2)] [ah ns (i3+1) v4]= .ok (.i d) [ah ns (i3+1) v5]:=j
 have up: ∀C:List Sy,(∀ z∈C,z.wf (K++T)/\z.dp<=11)-> ∀z∈A++C,z.wf (K++T)/\z.dp<=11:=λC c z b=>by
  rcases Ac8.mp b with b | b
  .exact⟨(o z b).1,by have:=(o z b).2;lia⟩
  .exact c z b
 have t:eval (k8 69) (.share (.call "_law_start" (.a .v0))) [some (.l (ns.map .int)),none,none,none,none,none,none,none] []= .ok (.r 0) [ah ns 0 v0]:=Mg (ws:= [.l (ns.map .int)]) (by simp_all []) y (by
  show(Gc (ns.map .int)&&u0)=u0
  rw [xl _ (λ_=>rfl)];rfl)
 have eq:Gq .eq (.i d) (.v (.int 0)) [ah ns (i3+1) v5]=k0 (u9 (d=0)):=Xm d 0 _
 have a: ∀(C:List Sy) (v:Int),(∀ z∈C,z.wf (K++T)/\z.dp<=11)->C.length<=2->exec (k8 69) Lf (gZ (.lst (ns.map .int)) (si n) (sv (wD K T)) (sv (aG K T A)) (sv (aG K T B)) y0 y0) [ah ns (i3+1) v4]= .next (gZ (.lst (ns.map .int)) (si n) (sv (wD K T)) (sv (aG K T A)) (sv (aG K T C)) y0 y0) [ah ns (i3+1) v]-> ∃H,execs (k8 69) cI.body [k0 (.l (ns.map .int)),y0,y0,y0,y0,y0,y0,y0] []= .ret (.b u0) H:=λC v c lC s=>by
  obtain⟨F,w⟩:=DB (H:= [ah ns (i3+1) v]) g (up C c) u lC rfl (sc:= .lst (ns.map .int)) (x3:=sv (wD K T))
  refine⟨F,?_⟩
  simp only [cI]
  rw [za (τ1:=gZ (.lst (ns.map .int)) y0 y0 y0 y0 y0 y0) (h1:= [ah ns 0 v0]) (by
   generalize E.share _=X at t ⊢
   simp_all [t])]
  generalize D.lst (ns.map .int)=G at w s ⊢
  refine(za (by simp_all [e1];rfl)).trans ?_
  refine(za (by simp_all [e2];rfl)).trans ?_
  refine(za (by simp_all [l];rfl)).trans ?_
  refine(za (by simp_all [k];rfl)).trans ?_
  exact(za s).trans w
 by_cases q:d=0
 .obtain⟨C,v6,c,lC,x⟩:=HI o u (ns:=ns) (i:=i3+1) (v:=v5) 67
  refine a C v6 c lC ((Zr (h1:= [ah ns (i3+1) v5]) (by simp_all [j,eq,ag,decide_eq_true q])).trans ?_)
  rw [za (τ1:=gZ (.lst (ns.map .int)) (si n) (sv (wD K T)) (sv (aG K T A)) (sv (aG K T C)) y0 y0) (h1:= [ah ns (i3+1) v6]) (by simp_all [x]),execs]
 .refine a B v5 (λz b=>⟨(p z b).1,by have:=(p z b).2;lia⟩) I ((hY (h1:= [ah ns (i3+1) v5]) (by simp_all [j,eq,ag,decide_eq_false q])).trans ?_)
  rw [execs]
end M
namespace L2.MS
open PySem PyProof.Rows
noncomputable def nB:List String:= ["is_whole", "is_below", "pairs_of", "gathered", "common", "either", "without", "turned", "joined", "closed", "same", "every", "value_of_name", "made", "counts", "bounds", "settled", "not_told", "and_told", "or_told", "in_told", "count_told", "told", "fact_told", "is_size", "widths", "bits", "check_size", "check_bits", "world_of", "places_of", "is_tuple_of", "names_in", "needed_bits", "how_many_set", "found", "check_room", "follows", "same_or_parted", "_law_start", "_law_turn", "_law_draw", "_law_names", "_law_words", "_law_expression", "_law_saying", "_law_theory", "_law_joined", "_law_turned", "_law_closed", "_law_same", "_law_two", "_law_bounds", "_law_many", "_law_ruled", "_law_within", "_law_fact", "_law_told", "_law_whole", "_law_spread", "_law_seen", "_law_is_world", "_law_keeps", "_law_open", "_law_split", "_law_walks", "_law_papers_are", "_law_right", "_law_other", "law"]
def pS:List String:= ["NoSize", "NoCode", "Crowded", "Unlike"]
def pe:List String:= ["NoSize", "NoCode", "Crowded", "Unlike"]
def nH:List String:= []
noncomputable def DT:gg:=⟨[("Cases", "words"),("Cases", "sayings"),("Cases", "size"),("Cases", "places"),("Cases", "whole"),("Search", "cases"),("Search", "needs")],[("Cases", "world_of_code", "Cases.world_of_code"),("Cases", "truth", "Cases.truth"),("Cases", "bit_of", "Cases.bit_of"),("Cases", "is_shown", "Cases.is_shown"),("Search", "told_of_sayings", "Search.told_of_sayings"),("Search", "chosen_place", "Search.chosen_place"),("Search", "told_of_case", "Search.told_of_case"),("Search", "told_of_halves", "Search.told_of_halves")],[("Cases", "Cases.__init__"),("Search", "Search.__init__")],["Cases.__init__", "Cases.world_of_code", "Cases.truth", "Cases.bit_of", "Cases.is_shown", "Search.__init__", "Search.told_of_sayings", "Search.chosen_place", "Search.told_of_case", "Search.told_of_halves"],[]⟩
noncomputable def C3:List (String×List String):= [("_law_names",["_law_pack", "_law_many_here", "_law_letters", "_law_first", "_law_stem", "_law_k", "_law_at", "_law_names_here", "_law_name"])]
end L2.MS
namespace PySem.W.Fast
def tw13359809969887423921:=Nat
def tw16287705849461653241:=Nat
def tw15225280240115214501:=Nat
def tw4625107291754182602:=Nat
def tw16010123213435608396:=Nat
def tw13187831099697528691:=Nat
def tw2732895522369557128:=Nat
def tw2869127003484246648:=Nat
def tw5083209277393854164:=Nat
def tw16006007583288453544:=Nat
def tw12927277789772120805:=Nat
def tw11062981127347206145:=Nat
def tw7709305336437058391:=Nat
def tw10905925736722628744:=Nat
def tw5951244562825380560:=Nat
def tw2291535604986326459:=Nat
def tw8794051372223381741:=Nat
def tw12731438275430300269:=Nat
def tw7068394217151035549:=Nat
def tw17704254179233649988:=Nat
def tw12174593465165498758:=Nat
def tw9344939893097638637:=Nat
def tw13395090928915999385:=Nat
def tw978482894344921509:=Nat
def tw18405035448890069720:=Nat
def tw3639526530641970368:=Nat
def tw1718186546669307001:=Nat
def tw12702836214236990204:=Nat
def tw7927297219065913466:=Nat
def tw10459183264889109867:=Nat
def tw212973946467129468:=Nat
def tw12514464789343417672:=Nat
def tw8173636225064571548:=Nat
def tw5126696590107154611:=Nat
def tw5064719242651116780:=Nat
def tw4497119403169032728:=Nat
def tw3402655177991947891:=Nat
def tw3126520713699316643:=Nat
def tw10096719629667939465:=Nat
def tw16192366487536654363:=Nat
def tw1349616081573622692:=Nat
def tw2586418175832488020:=Nat
def tw17196103075837649360:=Nat
def tw263099247491956578:=Nat
def tw7782960191806922646:=Nat
def tw1278634058260009798:=Nat
def tw115204646484495566:=Nat
def tw14036022308596641571:=Nat
def tw3311847182922284161:=Nat
def tw6947983543250241009:=Nat
def tw9489875215588671157:=Nat
def tw3131950171829404576:=Nat
def tw7101480696020359177:=Nat
def tw14441001350576726527:=Nat
def tw3853228851396901315:=Nat
def tw4279764026824063458:=Nat
def tw10915033847768591916:=Nat
def tw9738553977405103453:=Nat
def tw8895228213050447252:=Nat
def tw12084463341423880313:=Nat
def tw13051399690614112128:=Nat
def tw3072036934994794670:=Nat
def tw3266462671967415594:=Nat
def tw9847847683131600520:=Nat
def tw1780577792727755887:=Nat
def tw12672082962444333385:=Nat
def tw108924792636436899:=Nat
def tw16967814545588291545:=Nat
def tw374804809381424985:=Nat
def tw17599444230165995741:=Nat
def tw7441048073419357280:=Nat
def tw384336878765425173:=Nat
def tw731877780261595004:=Nat
def tw15417983256786136866:=Nat
def tw12881017641294100085:=Nat
def tw14410700587183404637:=Nat
def tw16035244239937390617:=Nat
def tw1471287140084235907:=Nat
def tw6704298350004715076:=Nat
def tw15357930168879652244:=Nat
def tw8281276259163936452:=Nat
def tw4470789732295958538:=Nat
def tw17898967403050185323:=Nat
def tw2151501259134356322:=Nat
def tw443359663477765999:=Nat
def tw11446206301503531218:=Nat
def tw10787318022463544184:=Nat
def tw6983560609352453348:=Nat
def tw7904330120854874066:=Nat
def tw5757695426202865892:=Nat
def tw16185828308805164896:=Nat
def tw1182983547571845135:=Nat
def tw4955068567945950941:=Nat
def tw2140860322138685258:=Nat
def tw18386757935541567753:=Nat
def tw14734465739719067969:=Nat
def tw4272872540654843806:=Nat
def tw13414678797841472305:=Nat
def tw1146375619085316894:=Nat
def tw14843025317508151903:=Nat
def tw13246430196032679902:=Nat
def tw13189101335933994176:=Nat
def tw11074674815418346117:=Nat
def tw3871981705978622666:=Nat
def tw2048235435273628437:=Nat
def tw12029341986347193361:=Nat
def tw9114575126089894897:=Nat
def tw8018061090865910275:=Nat
def tw2518077676513865878:=Nat
def tw9981653837737623152:=Nat
def tw7338873699720704229:=Nat
def tw14232951409452288530:=Nat
def tw13721513385454243526:=Nat
def tw10441053767272073219:=Nat
def tw15766741131991984210:=Nat
def tw12540865749308478771:=Nat
def tw8903007482153740252:=Nat
def tw7377794874103179536:=Nat
def tw17866133404727140448:=Nat
def tw11038543914837759790:=Nat
def tw17676987868794608389:=Nat
def tw9711134894181778295:=Nat
def tw3022219479705163571:=Nat
def tw907059901421116651:=Nat
def tw8186738422031917887:=Nat
def tw5633773677500759775:=Nat
def tw17874871750387016139:=Nat
def tw16536426783859327793:=Nat
def tw13157340497635572697:=Nat
def tw6391855935968896576:=Nat
def tw6470977796798259443:=Nat
def tw1388869425009758571:=Nat
def tw10585709260829000779:=Nat
def tw91228273688558289:=Nat
def tw11653238949733671086:=Nat
def tw10323265648994422158:=Nat
def tw8151859807188146932:=Nat
def tw60442809977438554:=Nat
def tw15487472705049798852:=Nat
def tw15634578381079467276:=Nat
def tw6881692098084488638:=Nat
def tw2772836743739786826:=Nat
def tw15339316272404901982:=Nat
def tw4924424654053901967:=Nat
def tw9881282857257385700:=Nat
def tw17487910695165144046:=Nat
def tw842605265724410368:=Nat
def tw11982980355968274651:=Nat
def tw11735825340233784916:=Nat
def tw7506106669103230209:=Nat
def tw14955784610225752716:=Nat
def tw4572080232233966171:=Nat
def tw9998221827535468880:=Nat
def tw4073043238947561696:=Nat
def tw17131754890269355439:=Nat
def tw9107557343260201319:=Nat
def tw18023905001358997998:=Nat
def tw2783811963781960780:=Nat
def tw13064873568719385340:=Nat
def tw10691702919982621777:=Nat
def tw6786527960073207851:=Nat
def tw17408834804048756071:=Nat
def tw7561682902599890237:=Nat
def tw4739975201950940663:=Nat
def tw9736923346932660662:=Nat
def tw8696872483945615079:=Nat
def tw3170790933069983970:=Nat
def tw10074201712404497269:=Nat
def tw4020483114149327841:=Nat
def tw14847637410668256303:=Nat
def tw7452347352825750777:=Nat
def tw9771187048683495853:=Nat
def tw10502440177184565052:=Nat
def tw7839665796127591803:=Nat
def tw3537852087937969567:=Nat
def tw11601383281982950664:=Nat
def tw12394891355504741952:=Nat
def tw4817583807672334571:=Nat
def tw15806325870514263281:=Nat
def tw7996641392136130417:=Nat
def tw5770473108442763878:=Nat
def tw8900370929408587024:=Nat
def tw14819349292582614149:=Nat
def tw2660197494238656912:=Nat
def tw1836054316988917158:=Nat
def tw15330271110243044622:=Nat
def tw6439001454107291415:=Nat
def tw12590573867964881388:=Nat
def tw7146458179743918197:=Nat
def tw8437250518568025629:=Nat
def tw3312479473238306523:=Nat
def tw2592397075298985088:=Nat
def tw2138131388226842754:=Nat
def tw1394522181893963469:=Nat
def tw11944806349801405509:=Nat
def tw11067975228567928664:=Nat
def tw7130747556728402925:=Nat
def tw583062641746873435:=Nat
def tw12704486759436171940:=Nat
def tw12554778329702240925:=Nat
def tw1252706104676616845:=Nat
def tw11188362977688171056:=Nat
def tw5633329865001484133:=Nat
def tw18404433544742526506:=Nat
def tw11946346580965288558:=Nat
def tw12855432815742128661:=Nat
def tw6274454687604070505:=Nat
def tw252534053128463151:=Nat
def tw16418517205831686540:=Nat
def tw14603702457956670879:=Nat
def tw12127880273596888790:=Nat
def tw2562441344365788144:=Nat
def tw16360560124328662128:=Nat
def tw4185673584532659642:=Nat
def tw14700005338289874832:=Nat
def tw13162398585087189101:=Nat
def tw12879823028230495124:=Nat
def tw7969073412323014472:=Nat
def tw11202622932263191068:=Nat
def tw9695066862714710713:=Nat
def tw5876417586106440018:=Nat
def tw5301552373834346026:=Nat
def tw3425464777007270259:=Nat
def tw8038281915669398581:=Nat
def tw7010440720353837540:=Nat
def tw370738556435989391:=Nat
def tw3684196337378262918:=Nat
def tw15949369089761084048:=Nat
def tw15785537382844225902:=Nat
def tw381601802588514208:=Nat
def tw8271286256965860869:=Nat
def tw18092726207659375001:=Nat
def tw14009075742139377841:=Nat
def tw16469340562110322778:=Nat
def tw2712728425403456072:=Nat
def tw15850038789773183789:=Nat
def tw14922820007607727769:=Nat
def tw17306325291127990188:=Nat
def tw14681179190566040434:=Nat
def tw5568613204130546055:=Nat
def tw6968392314816245138:=Nat
def tw3415319549450964422:=Nat
def tw14816321375763628710:=Nat
def tw11688983458691280411:=Nat
def tw12075429990799338811:=Nat
def tw15241636596306362871:=Nat
def tw13464489147297949897:=Nat
def tw946003507685970848:=Nat
def tw12300672962708715539:=Nat
def tw438358060023919868:=Nat
def tw231702406146627919:=Nat
def tw18232568363886628904:=Nat
def tw17652016456943124274:=Nat
def tw7869986962669560059:=Nat
def tw9567405125883866299:=Nat
def tw5059943654254257524:=Nat
def tw15140158588079679672:=Nat
def tw1664286486820583187:=Nat
def tw6946355077274722740:=Nat
def tw8264833821073593418:=Nat
def tw12959287748821108199:=Nat
def tw3929767444708809392:=Nat
def tw13517849929335820990:=Nat
def tw6459140670784543159:=Nat
def tw12474510953643239885:=Nat
def tw9523265547745381617:=Nat
def tw1280606630347759424:=Nat
def tw4724970019428035943:=Nat
def tw17960538031246008861:=Nat
def tw9701873280123973687:=Nat
def tw14157695630417659116:=Nat
def tw1204090048659559366:=Nat
def tw8743750363757096725:=Nat
def tw18177407477778973304:=Nat
def tw295703144019222151:=Nat
def tw1630307922615824492:=Nat
def tw1246608995716096519:=Nat
def tw5300793715341401712:=Nat
def tw15588585981670862009:=Nat
def tw13703298076074296073:=Nat
def tw1443889099394288839:=Nat
def tw3719693263369681200:=Nat
def tw291212727770923858:=Nat
def tw15121263860850227934:=Nat
def tw8353308015054682956:=Nat
def tw11990033810779358887:=Nat
def tw3972209367007946789:=Nat
def tw1108518630583017281:=Nat
def tw5249617303993384857:=Nat
def tw7285098330046413283:=Nat
def tw10523753876143567769:=Nat
def tw17259786650630169179:=Nat
def tw10434092688467505832:=Nat
def tw4872569251931851230:=Nat
def tw15097607280982990808:=Nat
def tw10911766401034548390:=Nat
def tw16334174967401622877:=Nat
def tw4730568444056388246:=Nat
def tw7593287876467251165:=Nat
def tw13728952117720604282:=Nat
def tw5919078795354207250:=Nat
def tw6623888721250100313:=Nat
def tw13867490778861713809:=Nat
def tw16868316680502531197:=Nat
def tw329801761105358070:=Nat
def tw8909617607922393859:=Nat
def tw16025628130710292832:=Nat
def tw14859610939983554499:=Nat
def tw13099860234552512244:=Nat
def tw15895697785221828212:=Nat
def tw1334157153234258275:=Nat
def tw10988524210656393191:=Nat
def tw2021105747929933225:=Nat
def tw17439220152799619597:=Nat
def tw13726658818636066414:=Nat
def tw15081546177903619329:=Nat
def tw14212006990677620598:=Nat
def tw5622984109470159641:=Nat
def tw6267259536604286928:=Nat
def tw15585648739043088323:=Nat
def tw11344418476767679502:=Nat
def tw8542590881612665052:=Nat
def tw16488271926419964828:=Nat
def tw4986246560207448484:=Nat
def tw17712721123182557017:=Nat
def tw6994663997927493263:=Nat
def tw13781578159560990480:=Nat
def tw11336646665582531840:=Nat
def tw9134181074691654757:=Nat
def tw3663865903036481568:=Nat
def tw5349122783720585367:=Nat
def tw12566120902983918977:=Nat
def tw8195432488874314766:=Nat
def tw14056931584380927439:=Nat
def tw12613604060506666344:=Nat
def tw1899221017121661652:=Nat
def tw12259054359048744290:=Nat
def tw13608343390094506488:=Nat
def tw6188531174470999220:=Nat
def tw14873645989960181268:=Nat
def tw1610867792612655091:=Nat
def tw15466334118301606490:=Nat
def tw4403695547375677939:=Nat
def tw4662161724939456512:=Nat
def tw11914188814972159193:=Nat
def tw5939283660671522629:=Nat
def tw12756656418613663873:=Nat
def tw15648291816743350098:=Nat
def tw2478322272775213180:=Nat
def tw2422482640522563749:=Nat
def tw15897836023236501318:=Nat
def tw6551981845370708998:=Nat
def tw1089110315587597670:=Nat
def tw1127239542923818162:=Nat
def tw2964850507797106037:=Nat
def tw12241309164842503105:=Nat
def tw7929616685891985783:=Nat
def tw9800177709444139263:=Nat
def tw6549868632759070679:=Nat
def tw15671840212239607603:=Nat
def tw17413798024688104187:=Nat
def tw1727263853128804517:=Nat
def tw12024162914133423599:=Nat
def tw16492886113701038794:=Nat
def tw3300941082512195640:=Nat
def tw10455017094821155008:=Nat
def tw13706846882790891597:=Nat
def tw7857706561118531002:=Nat
def tw6836112597785626701:=Nat
def tw4172965766257050716:=Nat
def tw8912818126024580226:=Nat
def tw3745057805603946507:=Nat
def tw442793938989719456:=Nat
def tw5712228937497892764:=Nat
def tw170531508419464834:=Nat
def tw8331363685481401671:=Nat
def tw7258767124244283519:=Nat
def tw13757032793861011041:=Nat
def tw18093140932043404313:=Nat
def tw12823440013838047732:=Nat
def tw3588582335495425096:=Nat
def tw16061497056873417577:=Nat
def tw5756189669514341604:=Nat
def tw16254058600416521588:=Nat
def tw4439935717281256337:=Nat
def tw14098365244224978824:=Nat
def tw18236922388137340005:=Nat
def tw11283339531842794770:=Nat
def tw211483278474013132:=Nat
def tw13366278377442204237:=Nat
def tw14495911941255541126:=Nat
def tw12149297943116594301:=Nat
def tw1547075746693595248:=Nat
def tw4933637744117626914:=Nat
def tw2815601127813307541:=Nat
def tw17669743640075159509:=Nat
def tw13697552842761584968:=Nat
def tw7289838266180398635:=Nat
def tw13469672406084522932:=Nat
def tw6144688716514289587:=Nat
def tw7986355953125489274:=Nat
def tw4886490318152936834:=Nat
def tw15081761409960442086:=Nat
def tw5652371274683969087:=Nat
def tw445097943016642677:=Nat
def tw5471383530283237479:=Nat
def tw12785092460089516803:=Nat
def tw15524477906472358334:=Nat
def tw16854884719624616926:=Nat
def tw17661745655137963891:=Nat
def tw10671695791679172738:=Nat
def tw17621252052775924886:=Nat
def tw1914740624528036394:=Nat
def tw1643021973086663254:=Nat
end PySem.W.Fast
open PySem PySem.W PyProof.Rows
set_option maxRecDepth 100000 in
set_option maxHeartbeats 0 in
theorem PySem.Challenge.cw_worldfind_k64_whole_same_or_parted_holds : PySem.Challenge.rw_worldfind_k64_whole_same_or_parted.Holds := by
 w_on;o_law;k_head;(case hw=>w_witness2)
 k_fill
 refine L2.MS.walk (l:=PySem.Challenge.rw_worldfind_k64_whole_same_or_parted) (x:= "_law_script") (2*70+1) ⟨rfl,by decide,by decide⟩ rfl rfl (fun w h Y=>PySem.W.kIn_of Y) ?F
 case F=>
  intro w mg fa h KX G hmg
  exact L2.MS.iw M.prog L2.MS.nB L2.MS.pS L2.MS.pe L2.MS.nH L2.MS.DT L2.MS.C3 69 KX G hmg (by kernel_rfl) M.fU
