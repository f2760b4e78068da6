import PyProof.Rows.All
import Wide.All
import OpenK.AllK
import Wide.FinOn
import Lean
import PyProof.EqAt
import PyProof.EqKinds
import PyProof.TupleCall
import PyProof.NeKinds
import PyProof.NsDelKeeps
import KE.KRevSl
import PyProof.StrWalks
import PyProof.ConsumeWalk
import PyProof.SumWalk
import PyProof.Rows.SortStr
import PyProof.SumWalkG
import PyProof.StrCalls2
import PyProof.StrLawsIdx
import PyProof.WalkInts
import PyProof.StrOps2
import PyProof.SliceStr2
import PyProof.Draws
import PyProof.EnumMake
import PyProof.Rows.SetFrom
import PyProof.SetRoads
import PyProof.WalksMore
import PyProof.ListRange
import PyProof.TupleOfSeq
import PyProof.TupleOfGen
import PyProof.Rows.SortShell
import PyProof.ZipIter
import PyProof.DictStraight
import PyProof.TupleKey
import PyProof.DictRoadsH
import PyProof.DictTruth
import PyProof.Rows.TupTab
import KE.KTabLook
import PyProof.FString
import PyProof.CallStr
import KE.KIntText
import PyProof.Rows.Range3
import PyProof.DictRoads
import PySem.Challenge.RW_worldfind_k52_numbers
set_option Elab.async false
set_option linter.all false
set_option maxRecDepth 100000
set_option compiler.extract_closed false
local macro_rules | `(tactic| omega) => `(tactic| lia)
set_option bootstrap.genMatcherCode false
noncomputable section
open List renaming length_map → Aa, range → Aa0, mem_cons_of_mem → Aa1, mem_cons_self → Aa3, getElem?_eq_getElem → Aa4, size_toArray → Aa8, replicate → Aa9, map_cons → Ab, mem_append_right → Ab1, length_append → Ab2, mem_range → Ab3, getD_eq_getElem?_getD → Ab5, length_cons → Ab8, mem_cons → Ab9, getElem?_eq_some_iff → Ac0, mem_map → Ac1, lookup_cons → Ac3, getElem?_map → Ac4, map_map → Ac5, map_append → Ac6, mem_append_left → Ac7, getElem?_set_ne → Ad, getElem?_set_self → Ad0, map_nil → Ad1, replicate_succ → Ad2, not_mem_nil → Ad5, length_filter_le → Ad6, map_congr_left → Ad7, all_eq_true → Ad8, mem_filter → Ae, length_set → Ae0, isEmpty_iff → Ae1, append_nil → Ae4, any_eq_true → Ae5, length_replicate → Ae6, append_assoc → Ae7, mem_singleton → Ae8, mem_append → Ae9, any_cons → Af, getElem?_append_right → Af2, range_succ_eq_map → Af3, getElem?_append_left → Af5, length_singleton → Af7, length_take → Af8, any_eq_false → Ag, nodup_cons → Ag1, nil_append → Ag2, foldl_cons → Ag3, eq_nil_of_length_eq_zero → Ah6, contains_iff_mem → Ah7, sum_cons → Ai0, all_cons → Ai1, length_drop → Ai4, getElem_map → Ai5, cons_append → Ai6, map_eq_nil_iff → Ai7, filterMap_cons → Ai8, getElem_range → Ai9, length_range → Aj1, nodup_range → Aj5, getElem_mem → Aj6, filter_cons → Aj7, mem_of_getElem? → Aj8, replicate_zero → Aj9, length_zip → Ak, length_nil → Ak0, mem_replicate → Ak7, contains_cons → Ak8, drop_eq_getElem_cons → Al2, reverse_cons → Al4, getElem?_replicate → Al8, ext_getElem → Al9, all_map → Am1, length_pos_iff → Am5, mem_filterMap → Am9, map → An, filter_append → An0, take_length → An8
open PySem.Heap renaming get?_push_of_some → Aa2, lt_size → Ab4, get?_push_size → Ab6, size_push → Af6, get?_update_self → Ah8, get?_update_other → Aj0, SameBut → Aj3, FlyingW → Al, get?_update_ne → Am6
open Nat renaming le_refl → Aa5, lt_of_lt_of_le → Ab0, le_trans → Ac, ne_of_lt → Ac2, pow_le_pow_right → Ac8, mul_le_mul → Ad3, testBit_lt_two_pow → Ae3, eq_of_testBit_eq → Af0, zero_add → Af9, lt_succ_self → Ag6, lt_irrefl → Ag8, testBit_or → Ag9, le_of_lt → Ah1, zero_le → Ah2, pow_pos → Ah3, le_succ → Ah4, not_lt_zero → Ah9, mul_comm → Ai, lt_pow_two_of_testBit → Ai3, two_pow_pos → Aj, and_two_pow_sub_one_eq_mod → Aj4, testBit_two_pow → Ak1, testBit_and → Ak2, pow_add → Ak3, min_eq_left → Ak4, div_add_mod → Ak5, ne_of_gt → Al1, not_lt → Al6, lt_succ_of_lt → Al7, mod_eq_of_lt → Am, mul_le_mul_right → Am3, mul_add → Am8, lt_of_le_of_lt → An1, or_lt_two_pow → An4, not_le → An5, mod_lt → An6, add_comm → An7
open Bool renaming and_eq_true → Aa6, false_ne_true → Ab7, eq_iff_iff → Ad4, false_eq_true → Ag7, true_and → Ai2, eq_false_iff → Aj2, false_and → Al3, or_eq_true → Am2, not_eq_true' → An2, noConfusion → An9
open PySem.W renaming Frag → Aa7, kia_one → Ad9, keepIn → Ag5, cellsFrom_some → Al5, kitOne → Am0, kitx_list → Am7, instObj → An3
open Option renaming bind_eq_some_iff → Ac9, some → Ae2, map_eq_some_iff → Af1, bind_some → Ag4, isSome_iff_exists → Ah, isNone_iff_eq_none → Ak6
open Classical renaming choose_spec → Af4, choose → Ah0, propDecidable → Al0
open Int renaming toNat_natCast → Ag0, eq_ofNat_of_zero_le → Ah5, fdiv_eq_ediv_of_nonneg → Ak9
open Array renaming length_toList → Am4
open Decidable renaming decide → u9
open Option renaming some → y0, none → u0
open Bool renaming true → k9, false → y9
namespace L2
open PySem PySem.Spec PyProof.Rows
abbrev dw:=Sum Int Str
def m9:dw->Value->Bool
 | .inl k,v=>Value.isInt k v
 | .inr x,v=>Value.isStrOf x v
def K1 (w:World):dw->Int
 | .inl k=>hashInt k
 | .inr x=>hashStr w x
def Wc: ∀ {k}{v},m9 k v=k9->(∃ i t,k=Sum.inl i/\v=Value.int i t)\/(∃ x t,k=Sum.inr x/\v=Value.str x t)
 | .inl i,v,h=>by
  obtain⟨t,e⟩:=Value.isInt_shape h
  exact .inl ⟨i,t,rfl,e⟩
 | .inr x,v,h=>by
  obtain⟨t,e⟩:=Value.isStrOf_shape h
  exact .inr ⟨x,t,rfl,e⟩
def IH (i:Int) (t:Tok):m9 (.inl i) (.int i t)=true:=by simp [m9,Value.isInt]
def B7 (a b):u9 ((Sum.inl a:dw)=Sum.inl b)=(a==b):=by grind
def L3 (a b):u9 ((Sum.inr a:dw)=Sum.inr b)=u9 (a=b):=by simp
def KN (a) (b):u9 ((Sum.inl a:dw)=Sum.inr b)=false:=decide_eq_false (λq=>nomatch q)
def Mi (a) (b):u9 ((Sum.inr a:dw)=Sum.inl b)=false:=decide_eq_false (λq=>nomatch q)
noncomputable def jD (prog:Program) (w:World):PySem.KeyKind prog w dw where
 is:=m9
 hash:=K1 w
 inj:=λv a b g f=>by
  rcases Wc g with⟨i,t,rfl,rfl⟩ | ⟨x,t,rfl,rfl⟩
  ·rcases Wc f with⟨j,u,rfl,e⟩ | ⟨y,u,rfl,e⟩
   ·injection e with c _;rw [c]
   ·exact nomatch e
  ·rcases Wc f with⟨j,u,rfl,e⟩ | ⟨y,u,rfl,e⟩
   ·exact nomatch e
   ·injection e with c _;rw [c]
 byValue:=λk v h=>by
  rcases Wc h with⟨i,t,rfl,rfl⟩ | ⟨x,t,rfl,rfl⟩<;>rfl
 pyHash:=λd h=>by
  rcases Wc d with⟨i,t,rfl,rfl⟩ | ⟨x,t,rfl,rfl⟩
  ·exact wpAny_pyHash_int h
  ·exact wpAny_pyHash_str h
 eqBool:=λl d h=>by
  rcases Wc l with⟨i,t,rfl,rfl⟩ | ⟨x,t,rfl,rfl⟩
  ·rcases Wc d with⟨j,u,rfl,rfl⟩ | ⟨y,u,rfl,rfl⟩
   ·rw [B7]at h;exact wpAny_eqBool_int h
   ·rw [KN]at h;exact SeqAt.EqAt.int_str i t y u _ _ _ _ h
  ·rcases Wc d with⟨j,u,rfl,rfl⟩ | ⟨y,u,rfl,rfl⟩
   ·rw [Mi]at h;exact SeqAt.EqAt.str_int x t j u _ _ _ _ h
   ·rw [L3]at h;exact wpAny_eqBool_str h
 «strs» :=λk x t v h=>by
  rcases Wc h with⟨i,u,rfl,e⟩ | ⟨y,u,rfl,e⟩
  ·exact nomatch e
  ·injection e with c _
   subst c
   cases v<;>rfl
def Zu (prog:Program) (w:World) (i:Int) (t:Tok):(jD prog w).is (.inl i) (.int i t)=true:=IH i t
inductive V where
 | au | bl (b:Bool) | int (i:Int) | str (x:Str) | il (b:Array UInt8) | hF (b:UInt64) | ref (a:Addr) | ty (n:String)
 deriving DecidableEq
def RelV:V->Value->Prop
 | .au,u=>u=Value.none
 | .bl b,u=>u=Value.bool b
 | .int i,u=> ∃t,u=Value.int i t
 | .str x,u=> ∃t,u=Value.str x t
 | .il b,u=> ∃t,u=Value.bytes b t
 | .hF b,u=> ∃t,u=Value.float b t
 | .ref a,u=>u=Value.ref a
 | .ty n,u=>u=Value.type n
abbrev Vals:List V->List Value->Prop:=Paired RelV
theorem Vals.length (r:Vals xs us):xs.length=us.length:=Paired.length r
theorem Vals.get: ∀ {xs}{us}{i:Nat}{x},Vals xs us->xs[i]? =y0 x-> ∃u,us[i]? =y0 u/\RelV x u
 | _,_,_,_,.nil,e=>by simp at e
 | _,_,0,_,.cons r _,e=>by simp at e;subst e;exact⟨_,rfl,r⟩
 | _,_,i+1,x,.cons _ t,e=>by
  obtain⟨u,b,a⟩:=Vals.get t (by simpa using e)
  exact⟨u,by simpa using b,a⟩
theorem Vals.set (r:RelV x u): ∀ {xs}{j} i,Vals xs j->Vals (xs.set i x) (j.set i u)
 | _,_,_,.nil=> .nil
 | _,_,0,.cons _ t=> .cons r t
 | _,_,i+1,.cons q t=> .cons q (Vals.set r i t)
theorem Vals.append: ∀ {xs ys}{i ws},Vals xs i->Vals ys ws->Vals (xs++ys) (i++ws)
 | _,_,_,_,.nil,s=>s
 | _,_,_,_,.cons r t,s=> .cons r (Vals.append t s)
theorem Vals.take: ∀ {xs}{i}(n),Vals xs i->Vals (xs.take n) (i.take n)
 | _,_,0,_=> .nil
 | _,_,_+1,.nil=> .nil
 | _,_,n+1,.cons r t=> .cons r (Vals.take n t)
theorem Vals.drop: ∀ {xs}{i}(n),Vals xs i->Vals (xs.drop n) (i.drop n)
 | _,_,0,r=>r
 | _,_,_+1,.nil=> .nil
 | _,_,n+1,.cons _ t=>Vals.drop n t
def dq:Option V->Option Value->Prop
 | some v,y0 u=>RelV v u
 | none,none=>True
 | _,_=>False
def KV {a:Type}:List (a×V)->List (a×Value)->Prop:=Paired λ(p:a×V) (q:a×Value)=>p.1=q.1/\RelV p.2 q.2
def kV:dw->V
 | .inl i=> .int i
 | .inr x=> .str x
inductive HO where
 | lst (xs:List V)
 | tup (xs:List V)
 | dK (kvs:List (dw×V)) | dT (kvs:List (List dw×V))
 | set (S:Int->Bool) (n:Nat)
 | ins (C dx:Addr) (fs:List (Str×V))
 | own (x:Addr)
 | xd (fs:List (Str×V))
 | met (f x:Addr)
 | gF (lo hi:Int)
 | dP (o:Obj) (u:HO)
 | hJ (ps:Array Value)
 | ext (φ:Heap->Prop)
abbrev Hp:=Addr->Option HO
def aG (H:Hp) (a:Addr) (o:HO):Hp:=λb=>if b=a then y0 o else H b
def wb :aG H a o a=y0 o:=by unfold aG;rw [if_pos rfl]
def ja (h:b≠a):aG H a o b=H b:=by unfold aG;rw [if_neg h]
def Wa {H:Hp}(h:H a=y0 o) (h':H b=u0):a≠b:=by
 intro e;subst e;rw [h]at h';cases h'
def cW (h:Heap) (a:Addr) (b:Array Value):Prop:= ∃o,h.get? a=some o/\o.cls= .type "tuple" /\o.dict=none/\ ∃n,o.data= .seq b n
def cW.is (p:cW h a items):IsTup h a items:=let ⟨o,e,c,_,n,d⟩:=p; ⟨o,e,c,n,d⟩
theorem cW.lt (p:cW h a items):a<h.objs.size:=p.is.lt
def cW.new (h:Heap) (items):cW (h.push { cls:= .type "tuple",data:= .seq items }) h.objs.size items:=⟨_,Heap.get?_push_size _ rfl,rfl,rfl,_,rfl⟩
section
variable (P:Program) (w:World)
def aO (H:Hp) (h:Heap) (a:Addr):HO->Prop
 | .lst xs=>xs.length<=sizeLine/\ ∃(b:List Value) (n:Nat),Vals xs b/\h.get? a=y0 { cls:= .type "list",data:= .seq b.toArray n }
 | .tup xs=>xs.length<=sizeLine/\ ∃b:List Value,Vals xs b/\cW h a b.toArray
 | .dK c=>c.length<=sizeLine/\(a==sysModules)=y9/\ ∃e,KV c e/\h.DictOf (jD P w) a e
 | .dT c=>c.length<=sizeLine/\(a==sysModules)=y9/\ ∃xs:List (List dw×Addr×Value),
  Paired (λ(p:List dw×V) (q:List dw×Addr×Value)=>p.1=q.1/\H q.2.1=y0 (.tup (p.1.map kV))/\RelV p.2 q.2.2) c xs ∧
  ∃o es g,h.get? a=y0 o/\o.ExactDict/\o.data= .dict es g/\es.toList=xs.map (entryOfKey (tupleKind (jD P w)))/\(xs.map (·.1)).Nodup
 | .set S n=>h.SetOf (intKind P w) a S n
 | .ins C dx fs=>H dx=y0 (.own a)/\fs.length<=1000/\dx≠a/\h.get? a=y0 (An3 C dx) ∧
  ∃mA,h.Ns1 dx mA/\(∀ f,dq (fs.lookup f) (mA f))/\PySem.Within mA (fs.map (·.1))
 | .own _=> ∃o,h.get? a=y0 o
 | .xd fs=> ∃mA,h.Ns1 a mA/\ ∀f,dq (fs.lookup f) (mA f)
 | .gF lo hi=> ∃t u v,h.get? a=y0 { cls:= .type "range",data:= .fields #[.int lo t,.int hi u,.int 1 v] }
 | .dP o u=>h.get? a=y0 o/\aO H h a u
 | .hJ ps=>h.get? a=y0 { cls:= .none,data:= .fields ps }
 | .met f x=>h.get? a=y0 (PySem.W.methodObj (.ref f) (.ref x))
 | .ext d=>d h/\(∃ o,h.get? a=y0 o)/\ ∀h1 h2:Heap,d h1->(∀ o,h1.get? a=y0 o->h2.get? a=y0 o)->d h2
def cF (H:Hp) (h:Heap):Prop:= ∀a o,H a=y0 o->aO P w H h a o
end
section
variable {P:Program}{w:World}{H H':Hp}{h h':Heap}{a:Addr}{o:HO}
theorem aO.lt (x:aO P w H h a o):a<h.objs.size:=by
 cases o with
 | lst c=>obtain⟨_,_,_,_,e⟩:=x;exact Ab4 e
 | tup c=>obtain⟨_,_,_,p⟩:=x;exact p.lt
 | dK b=>obtain⟨_,_,_,_,o,_,_,e,_⟩:=x;exact Ab4 e
 | dT b=>obtain⟨_,_,_,_,o,_,_,e,_⟩:=x;exact Ab4 e
 | set S n=>obtain⟨o,_,_,_,e,_⟩:=x;exact Ab4 e
 | ins C k fs=>obtain⟨_,_,_,e,_⟩:=x;exact Ab4 e
 | own y=>obtain⟨_,e⟩:=x;exact Ab4 e
 | xd fs=>obtain⟨_,⟨_,_,_,e,_⟩,_⟩:=x;exact Ab4 e
 | gF i j=>obtain⟨_,_,_,e⟩:=x;exact Ab4 e
 | dP l u=>obtain⟨e,_⟩:=x;exact Ab4 e
 | hJ g=>exact Ab4 (x)
 | met f y=>exact Ab4 (x)
 | ext d=>obtain⟨_,⟨_,e⟩,_⟩:=x;exact Ab4 e
theorem Paired.lu : ∀ {i}{j},Paired F i j->(∀ a b,F a b->G a b)->Paired G i j
 | _,_,.nil,_=> .nil
 | _,_,.cons r t,f=> .cons (f _ _ r) (Paired.lu t f)
def aO.b8 (x:aO P w H h a o) (k: ∀b u,(b=a\/H b=y0 (.own a))->h.get? b=y0 u->h'.get? b=y0 u)
 (E: ∀b,H b=y0 (.own a)->H' b=y0 (.own a)) (F: ∀b xs,H b=y0 (.tup xs)->H' b=y0 (.tup xs)):aO P w H' h' a o:=by
 induction o with
 | lst xs=>obtain⟨z,l,n,r,e⟩:=x;exact⟨z,l,n,r,k _ _ (.inl rfl) e⟩
 | tup xs=>obtain⟨z,l,r,g,e,c⟩:=x;exact⟨z,l,r,g,k _ _ (.inl rfl) e,c⟩
 | dK s=>obtain⟨z,y,I,r,g,j,i,e,c⟩:=x;exact⟨z,y,I,r,g,j,i,k _ _ (.inl rfl) e,c⟩
 | dT s=>
  obtain⟨z,y,xs,r,g,j,i,e,c⟩:=x
  exact⟨z,y,xs,Paired.lu r λp q z=>⟨z.1,F _ _ z.2.1,z.2.2⟩,g,j,i,k _ _ (.inl rfl) e,c⟩
 | set S n=>obtain⟨g,j,i,t,e,c⟩:=x;exact⟨g,j,i,t,k _ _ (.inl rfl) e,c⟩
 | ins C N fs=>
  obtain⟨d,z,ne,e,m,⟨A,j,i,G,c⟩,r⟩:=x
  exact⟨E _ d,z,ne,k _ _ (.inl rfl) e,m,⟨A,j,i,k _ _ (.inr d) G,c⟩,r⟩
 | own y=>obtain⟨g,e⟩:=x;exact⟨g,k _ _ (.inl rfl) e⟩
 | xd fs=>obtain⟨m,⟨A,j,i,e,c⟩,r⟩:=x;exact⟨m,⟨A,j,i,k _ _ (.inl rfl) e,c⟩,r⟩
 | gF L M=>obtain⟨t,u,v,e⟩:=x;exact⟨t,u,v,k _ _ (.inl rfl) e⟩
 | dP g u D=>obtain⟨e,q⟩:=x;exact⟨k _ _ (.inl rfl) e,D q⟩
 | hJ K=>
  have e:=x
  exact k a _ (.inl rfl) e
 | met f y=>
  have e:=x
  exact k a _ (.inl rfl) e
 | ext J=>obtain⟨p,⟨o,e⟩,B⟩:=x;exact⟨B _ _ p λo q=>k _ _ (.inl rfl) q,⟨o,k _ _ (.inl rfl) e⟩,B⟩
theorem cF.lt (x:cF P w H h) (e:H a=y0 o):a<h.objs.size:=(x a o e).lt
def cF.fresh (x:cF P w H h) (e:h.objs.size<=a):H a=none:=by
 cases q:H a with
 | none=>rfl
 | some u=>exact absurd (Ab0 (x.lt q) e) (Ag8 _)
def cF.kept (x:cF P w H h) (k: ∀b u,h.get? b=y0 u->h'.get? b=y0 u):cF P w H h':=λa o e=>
 (x a o e).b8 (λb u _ q=>k b u q) (λ_ q=>q) λ_ _ q=>q
def cF.laid (x:cF P w H h) (k: ∀b u,h.get? b=y0 u->h'.get? b=y0 u) (f:h.objs.size<=a) (new:aO P w (aG H a o) h' a o):cF P w (aG H a o) h':=λb u e=>by
 have hn:=x.fresh f
 by_cases d:b=a
 ·subst d;rw [wb]at e;cases e;exact new
 ·rw [ja d]at e
  exact(x b u e).b8 (λc v _ q=>k c v q) (λc q=>by rw [ja (Wa q hn)];exact q) λc g q=>by rw [ja (Wa q hn)];exact q
end
def Rd (H:Hp) (a:Addr) (u:HO):Prop:=H a=y0 u\/ ∃o,H a=y0 (.dP o u)
def Rd.ok (r:Rd H a u) (x:cF P w H h):aO P w H h a u:=by
 rcases r with r | ⟨o,r⟩
 ·exact x a u r
 ·obtain⟨_,q⟩:=x a _ r
  exact q
def ml:Option HO->Prop
 | some (.lst _)=>True
 | some (.dK _)=>True
 | some (.dT _)=>True
 | some (.set _ _)=>True
 | some (.ins _ _ _)=>True
 | some (.ext _)=>True
 | _=>False
section
variable {P:Program}{w:World}{H:Hp}{h h':Heap}{x e:Addr}{o':HO}
def cF.write (ok:cF P w H h) (i:ml (H x)) (n:e=x\/H e=y0 (.own x)) (k: ∀b u,b≠e->h.get? b=y0 u->h'.get? b=y0 u) (m: ∃u,h'.get? e=y0 u)
 (new:aO P w (aG H x o') h' x o'):cF P w (aG H x o') h':=λb u q=>by
 have d: ∀c y,H c=y0 (.own y)->c≠x:=λc y r z=>by subst z;rw [r]at i;exact i
 have f: ∀c g,H c=y0 (.tup g)->c≠x:=λc g r z=>by subst z;rw [r]at i;exact i
 by_cases j:b=x
 ·subst j;rw [wb]at q;cases q;exact new
 ·rw [ja j]at q
  by_cases a:b=e
  ·have o:H b=y0 (.own x):=by
    rcases n with z | z
    ·exact absurd (a.trans z) j
    ·rw [a];exact z
   rw [q]at o;cases o
   obtain⟨v,p⟩:=m
   exact⟨v,by rw [a];exact p⟩
  ·refine(ok b u q).b8 (λc v l r=>k c v ?_ r) (λc r=>by rw [ja (d c b r)];exact r) λc g r=>by rw [ja (f c g r)];exact r
   rcases l with rfl | l
   ·exact a
   ·rintro rfl
    rcases n with z | z
    ·exact d c b l z
    ·rw [l]at z;cases z;exact j rfl
end
structure Un (fs ex:List Addr) (H H':Hp) (h h':Heap):Prop where
 keep: ∀b o,h.get? b=y0 o->H b=u0->b∉fs->b∉ex->h'.get? b=y0 o
 slot: ∀b o,h.get? b=y0 o->H b=u0->b∈fs->b∉ex-> ∃sl,h'.get? b=y0 { o with slots:=sl }
 free: ∀b o,h.get? b=y0 o->H b=u0->b∉ex->H' b=u0
 there: ∀b o,h.get? b=y0 o->b∉ex-> ∃o',h'.get? b=y0 o'
 cz: ∀b xs,H b=y0 (.tup xs)->H' b=y0 (.tup xs)
 cg: ∀b o u,H b=y0 (.dP o u)->H' b=y0 (.dP o u)
 cA: ∀b ps,H b=y0 (.hJ ps)-> ∃more,H' b=y0 (.hJ (ps++more))
section
variable {fs fs' ex ex':List Addr}{H H1 H2:Hp}{h h1 h2 h':Heap}{a x e:Addr}{o:HO}
def Un.any (u:Un fs ex H H1 h h1)(q:h.get? b=y0 ob) (n:H b=u0) (a:b∉ex): ∃sl,h1.get? b=y0 { ob with slots:=sl }:=by
 by_cases c:b∈fs
 ·exact u.slot b ob q n c a
 ·exact⟨ob.slots,u.keep b ob q n c a⟩
def Un.kept (k: ∀b u,h.get? b=y0 u->h'.get? b=y0 u):Un fs ex H H h h':=
 ⟨λb a q _ _ _=>k b a q,λb a q _ _ _=>⟨a.slots,k b a q⟩,λ_ _ _ n _=>n,λb a q _=>⟨a,k b a q⟩,λ_ _ q=>q,λ_ _ _ q=>q,λ_ c q=>⟨#[],by rw [q];simp⟩⟩
def Un.refl:Un fs ex H H h h:=Un.kept λ_ _ q=>q
def Un.laid (k: ∀b u,h.get? b=y0 u->h'.get? b=y0 u) (d:h.objs.size<=a) (c:H a=u0):Un fs ex H (aG H a o) h h' where
 keep:=λb u q _ _ _=>k b u q
 slot:=λb u q _ _ _=>⟨u.slots,k b u q⟩
 free:=λb u q n _=>by rw [ja (Ac2 (Ab0 (Ab4 q) d))];exact n
 there:=λb u q _=>⟨u,k b u q⟩
 cz:=λb e q=>by rw [ja (Wa q c)];exact q
 cg:=λb u e q=>by rw [ja (Wa q c)];exact q
 cA:=λb f q=>⟨#[],by rw [ja (Wa q c),q];simp⟩
def Un.write (c:ml (H x)) (l:e=x\/H e=y0 (.own x)) (k: ∀b u,b≠e->h.get? b=y0 u->h'.get? b=y0 u) (f: ∃u,h'.get? e=y0 u):Un fs ex H (aG H x o) h h':=by
 have g: ∀b,H b=u0->b≠x:=λb n z=>by subst z;rw [n]at c;exact c
 have i: ∀b,H b=u0->b≠e:=λb n z=>by
  subst z
  rcases l with r | r
  ·exact g b n r
  ·rw [n]at r;cases r
 have d: ∀b u,H b=y0 u-> ¬ml (y0 u)->b≠x:=λb u q j z=>by subst z;rw [q]at c;exact j c
 refine⟨λb u q n _ _=>k b u (i b n) q,λb u q n _ _=>⟨u.slots,k b u (i b n) q⟩,λb u q n _=>by rw [ja (g b n)];exact n,λb u q _=> ?_,
  λb m q=>by rw [ja (d b _ q λz=>z)];exact q,λb u m q=>by rw [ja (d b _ q λz=>z)];exact q,λb p q=>⟨#[],by rw [ja (d b _ q λz=>z),q];simp⟩⟩
 by_cases a:b=e
 ·subst a;exact f
 ·exact⟨u,k b u a q⟩
end
def dF (h:Heap) (H:Hp):List Addr:=(Aa0 h.objs.size).filter λa=>(H a).isSome
def gj (h:Heap) (H:Hp):Heap:=PySem.W.hideAll h (dF h H)
def LV (h) (H):(gj h H).objs.size=h.objs.size:=PySem.W.hideAll_size _ _
def Iz (e:h.get? b=y0 o) (n:H b=u0):(gj h H).get? b=y0 o:=
 PySem.W.hideAll_get _ e λa=>by
  have q:=(Ae.mp a).2
  rw [n]at q;simp at q
def BL (e:(gj h H).get? b=y0 o):h.get? b=y0 o/\H b=none:=by
 have a:=PySem.W.of_hideAll (dF h H) e
 refine⟨a,?_⟩
 cases q:H b with
 | none=>rfl
 | some x=>
  have c:b∈dF h H:=Ae.mpr ⟨Ab3.mpr (Ab4 a),by simp [q]⟩
  have z:(gj h H).get? b=none:=PySem.W.hideAll_none (dF h H) c
  rw [z]at e;cases e
noncomputable def Ip (g h:Heap) (L:Addr):List (Addr×Obj):=(Aa0 h.objs.size).filterMap λa=>if a=L\/(g.get? a).isSome=k9 then u0 else(h.get? a).map λo=>(a,o)
def rest (g h:Heap) (L d:Addr):List (Addr×Obj):=(Ip g h L).filter λp=>u9 (p.1≠d)
structure Mod (K:Aa7) (mg:Str->Option Value) (base:Heap):Prop where
 kb:K.In base
 glob:base.Ns mainGlobals mg
 blt: ∃mb,base.Ns builtinsNs mb/\ ∀x:Str,x≠ "__name__" ->mb x=bootBuiltins x
 nolimit:base.NoLimit
structure Cx where
 prog:Program
 w:World
 K:Aa7
 mg:Str->Option Value
 base:Heap
 A:Around
 N:List Str
 s₀:Shared
 H₀:Hp
 env:Env
 outer:List Env
 stack:List Env
 ex:List Addr
 fn:Str->Bool
 calm:Bool
 pn:List (Addr×Obj)
 xe:Value->Shared->Prop
def bE (l:List Env):List Addr:=l.filterMap (·.frame)
abbrev Cx.fs (X:Cx):List Addr:=bE X.outer
def iF (a:Scope) (x:Str):Prop:=a.names.lookup x=y0 .local\/a.names.lookup x=y0 .cell\/a.names.lookup x=y0 .free
def kg (a:Scope) (x:Str):Prop:=a.names.lookup x=y0 .local\/a.names.lookup x=y0 .cell
def vt (env:Env) (h:Heap) (m:Str->Option Value) (x:Str) (u:Value):Prop:=
 (env.kindOf x=y0 .local/\m x=y0 u)\/((env.kindOf x=y0 .cell\/env.kindOf x=y0 .free)/\ ∃c,env.cells.lookup x=y0 c/\h.IsCell c (y0 u))
structure Cx.Ok (X:Cx):Prop where
 mod:Mod X.K X.mg X.base
 kind:X.env.scope.kind= .function
 glob:X.env.globals=mainGlobals
 blt:X.env.builtins=builtinsNs
 above:X.s₀.heap.objs.size<=X.env.locals
 inj: ∀x y c,X.env.cells.lookup x=y0 c->X.env.cells.lookup y=y0 c->x=y
 has: ∀x,(X.env.kindOf x=y0 .cell\/X.env.kindOf x=y0 .free)-> ∃c,X.env.cells.lookup x=y0 c
 lq: ∀x c,X.fn x=k9->X.env.cells.lookup x=y0 c->X.s₀.heap.objs.size<=c
 hd:X.calm=k9->X.A.handled=u0
 frames:X.A.frames=y0 X.stack
 iT:X.stack=X.outer\/(X.stack=X.env::X.outer/\X.env.frame=y0 X.env.locals)
 mR: ∀b∈X.ex,b≠X.env.locals/\ ∀x c,X.env.cells.lookup x=y0 c->c≠b
 bs: ∀b o,X.base.get? b=y0 o->X.s₀.heap.get? b=y0 o/\X.H₀ b=u0
 gN:X.base.objs.size<=X.s₀.heap.objs.size
 fH: ∀b o,X.base.get? b=y0 o->b∉X.ex
 fB: ∀b∈X.ex,b∉X.fs
 cH:X.s₀.heap.FunFrames X.base X.outer
 iq: ∀b∈X.fs,X.H₀ b=u0
structure Inv (X:Cx) (y8:List (Addr×Obj)) (U:List (Option V)) (H:Hp) (s:Shared):Prop where
 ok:X.Ok
 os:s.os=X.s₀.os
 bare:AllBare s.gens
 base:Un X.fs X.ex X.H₀ H X.s₀.heap s.heap
 loc: ∃m,s.heap.Ns X.env.locals m/\ ∀(i:Nat) (x:Str) (v:V),X.N[i]? =y0 x->U[i]? =y0 (y0 v)->iF X.env.scope x-> ∃u,RelV v u/\vt X.env s.heap m x u
 cell: ∀x c,X.env.cells.lookup x=y0 c-> ∃v,s.heap.IsCell c v
 free:H X.env.locals=u0
 bq: ∀x c,X.env.cells.lookup x=y0 c->H c=u0
 pin: ∀p∈X.pn++y8,s.heap.get? p.1=y0 p.2/\H p.1=u0/\p.1≠X.env.locals/\p.1∉X.fs/\ ∀v,p.2.data≠ .cell v
 aL:cF X.prog X.w H s.heap
 len:U.length=X.N.length
section
variable {X:Cx}{y8:List (Addr×Obj)}{U:List (Option V)}{H H':Hp}{s:Shared}{h':Heap}
def Cx.Ok.ot (ok:X.Ok)(e:X.base.get? b=y0 o):b∉X.fs:=λa=>by
 have:=(ok.cH.mem a).1
 rw [e]at this;cases this
theorem Inv.bs (I:Inv X y8 U H s): ∀b o,X.base.get? b=y0 o->s.heap.get? b=y0 o/\H b=none:=λb o e=>
 ⟨I.base.keep b o (I.ok.bs b o e).1 (I.ok.bs b o e).2 (I.ok.ot e) (I.ok.fH b o e),I.base.free b o (I.ok.bs b o e).1 (I.ok.bs b o e).2 (I.ok.fH b o e)⟩
def Inv.bk (I:Inv X y8 U H s): ∀b o,X.base.get? b=y0 o->s.heap.get? b=y0 o:=λb o e=>(I.bs b o e).1
theorem Inv.mod (I:Inv X y8 U H s):Mod X.K X.mg X.base:=I.ok.mod
def Inv.bH (I:Inv X y8 U H s):X.K.In s.heap:=I.ok.mod.kb.keeps I.bk
theorem Inv.lt (I:Inv X y8 U H s):X.env.locals<s.heap.objs.size:=let ⟨_,hn,_⟩:=I.loc;hn.lt
def Inv.sz (I:Inv X y8 U H s):X.s₀.heap.objs.size<=s.heap.objs.size:=Ac I.ok.above (Ah1 I.lt)
def Inv.o3 (I:Inv X y8 U H s)(h:s.heap.objs.size<=a):a∉X.fs:=λc=>by
 obtain⟨_,o,b,_⟩:=I.ok.cH.mem c
 exact absurd (Ab0 (Ab4 b) (Ac I.sz h)) (Ag8 _)
def Inv.gv (I:Inv X y8 U H s): ∀x c,X.env.cells.lookup x=y0 c->c≠X.env.locals:=λx c e z=>by
 obtain⟨v,o,d,f⟩:=I.cell x c e
 obtain⟨m,⟨g,h,i,b,a,_⟩,_⟩:=I.loc
 rw [z,b]at d;cases d;rw [a]at f;cases f
theorem Inv.cH (I:Inv X y8 U H s):s.heap.FunFrames X.base X.outer:=by
 have all: ∀ l,(∀ b∈bE l,b∈X.fs)->X.s₀.heap.FunFrames X.base l->s.heap.FunFrames X.base l:=by
  intro l
  induction l with
  | nil=>intro _ _;trivial
  | cons n r j=>
   intro f g
   obtain⟨i,⟨L,o,d,hn,k,h⟩,m⟩:=g
   have c:=f L (by unfold bE;rw [Ai8,d];exact Aa3)
   obtain⟨sl,e⟩:=I.base.slot L o k (I.ok.iq L c) c λz=>I.ok.fB L z c
   exact⟨i,⟨L,_,d,hn,e,h⟩,j (λb a=>f b (by unfold bE;rw [Ai8,d];exact Aa1 _ a)) m⟩
 exact all X.outer (λ_ a=>a) I.ok.cH
theorem Inv.stack (I:Inv X y8 U H s):s.heap.FunFrames X.base X.stack:=by
 rcases I.ok.iT with e | ⟨e,a⟩
 ·rw [e];exact I.cH
 ·rw [e]
  obtain⟨m,hn,_⟩:=I.loc
  refine .cons (by rw [I.ok.kind];decide) a hn ?_ I.cH
  exact Heap.get?_none_of_le (Ac I.ok.gN I.ok.above)
def Inv.di (I:Inv X y8 U H s): ∀b∈bE X.stack,b∈X.env.locals::X.fs:=λb a=>by
 rcases I.ok.iT with e | ⟨e,c⟩
 ·rw [e]at a;exact Aa1 _ a
 ·rw [e]at a
  unfold bE at a
  rw [Ai8,c]at a
  exact a
def Inv.b9 (I:Inv X y8 U H s): ∀b∈bE X.stack,H b=none:=λb a=>by
 rcases Ab9.mp (I.di b a)with e | a
 ·rw [e];exact I.free
 ·obtain⟨_,o,c,_⟩:=I.ok.cH.mem a
  exact I.base.free b o c (I.ok.iq b a) λz=>I.ok.fB b z a
def Inv.step {ch:List Addr}(I:Inv X y8 U H s)
 (h: ∀b∈ch,(b∈X.ex\/X.s₀.heap.objs.size<=b)/\b≠X.env.locals/\(∀ x c,X.env.cells.lookup x=y0 c->c≠b)/\ ∀p∈X.pn++y8,p.1≠b)
 (keep: ∀b o,b≠X.env.locals->b∉X.fs->b∉ch->s.heap.get? b=y0 o->H b=u0->h'.get? b=y0 o)
 (y: ∀b o,b≠X.env.locals->b∈X.fs->b∉ch->s.heap.get? b=y0 o->H b=u0-> ∃sl,h'.get? b=y0 { o with slots:=sl }) (f: ∀b o,b∉ch->s.heap.get? b=y0 o->H b=u0->H' b=u0)
 (there: ∀b o,b∉ch->s.heap.get? b=y0 o-> ∃o',h'.get? b=y0 o')
 (C: ∀b xs,H b=y0 (.tup xs)->H' b=y0 (.tup xs)) (E: ∀b o u,H b=y0 (.dP o u)->H' b=y0 (.dP o u)) (F: ∀b ps,H b=y0 (.hJ ps)-> ∃more,H' b=y0 (.hJ (ps++more)))
 (S: ∀m,s.heap.Ns X.env.locals m->h'.Ns X.env.locals m) (K:cF X.prog X.w H' h') (V:AllBare g'):
 Inv X y8 U H' { s with heap:=h',gens:=g',drawn:=d',toks:=t' }:=by
 have D: ∀b o,X.s₀.heap.get? b=y0 o->b≠X.env.locals:=λb o e=>Ac2 (Ab0 (Ab4 e) I.ok.above)
 have w: ∀b o,X.s₀.heap.get? b=y0 o->b∉X.ex->b∉ch:=λb o e a A=>by
  rcases (h b A).1 with z | z
  ·exact a z
  ·exact absurd (Ab0 (Ab4 e) z) (Ag8 _)
 have j: ∀x c,X.env.cells.lookup x=y0 c-> ∀v,s.heap.IsCell c v->h'.IsCell c v:=by
  rintro x c e v ⟨o,B,J⟩
  have g:c∉ch:=λz=>(h c z).2.2.1 x c e rfl
  by_cases O:c∈X.fs
  ·obtain⟨sl,q⟩:=y c o (I.gv x c e) O g B (I.bq x c e)
   exact⟨_,q,J⟩
  ·exact⟨o,keep c o (I.gv x c e) O g B (I.bq x c e),J⟩
 refine⟨I.ok,I.os,V,⟨λb o e n A a=> ?_,λb o e n A a=> ?_,λb o e n a=> ?_,λb o e a=> ?_,λb xs e=>C b xs (I.base.cz b xs e),λb o xs e=>E b o xs (I.base.cg b o xs e),λb ps e=> ?_⟩,?_,λx c e=> ?_,?_,λx c e=> ?_,λp N=> ?_,K,I.len⟩
 ·exact keep b o (D b o e) A (w b o e a) (I.base.keep b o e n A a) (I.base.free b o e n a)
 ·obtain⟨sl,t⟩:=I.base.slot b o e n A a
  obtain⟨L,G⟩:=y b _ (D b o e) A (w b o e a) t (I.base.free b o e n a)
  exact⟨L,G⟩
 ·obtain⟨o',t⟩:=I.base.there b o e a
  exact f b o' (w b o e a) t (I.base.free b o e n a)
 ·obtain⟨o',t⟩:=I.base.there b o e a
  exact there b o' (w b o e a) t
 ·obtain⟨R,t⟩:=I.base.cA b ps e
  obtain⟨T,G⟩:=F b _ t
  exact⟨R++T,by rw [G,Array.append_assoc]⟩
 ·obtain⟨m,hn,P⟩:=I.loc
  refine⟨m,S m hn,λi x v t G Q=> ?_⟩
  obtain⟨u,r,l⟩:=P i x v t G Q
  refine⟨u,r,?_⟩
  rcases l with l | ⟨k,c,e,z⟩
  ·exact .inl l
  ·exact .inr ⟨k,c,e,j x c e _ z⟩
 ·obtain⟨v,z⟩:=I.cell x c e
  exact⟨v,j x c e v z⟩
 ·obtain⟨m,⟨o,_,_,B,_⟩,_⟩:=I.loc
  exact f _ o (λz=>(h _ z).2.1 rfl) B I.free
 ·obtain⟨v,o,B,J⟩:=I.cell x c e
  exact f c o (λz=>(h c z).2.2.1 x c e rfl) B (I.bq x c e)
 ·obtain⟨e,n,ne,M,d⟩:=I.pin p N
  have g:p.1∉ch:=λz=>(h p.1 z).2.2.2 p N rfl
  exact⟨keep p.1 p.2 ne M g e n,f p.1 p.2 g e n,ne,M,d⟩
def Inv.un (I:Inv X y8 U H s) (u:Un X.fs [] H H' s.heap h') (g:cF X.prog X.w H' h'):Inv X y8 U H' { s with heap:=h',toks:=t' }:=by
 obtain⟨m,⟨o,t,p,h,r⟩,_⟩:=id I.loc
 obtain⟨sl,k⟩:=u.any h I.free (by simp)
 exact I.step (ch:= []) (λ_ z=>nomatch z) (λb o _ d _ e n=>u.keep b o e n d (by simp)) (λb o _ d _ e n=>u.slot b o e n d (by simp)) (λb o _ e n=>u.free b o e n (by simp)) (λb o _ e=>u.there b o e (by simp)) u.cz u.cg u.cA (λl i=>by
  obtain⟨q,f,c,a,j⟩:=i
  rw [h]at a;cases a
  exact⟨_,f,c,k,j⟩) g I.bare
def Inv.call (I:Inv X y8 U H s) (u:Un (bE X.stack) ch H H' s.heap h') (i:cF X.prog X.w H' h') (v:AllBare g')
 (f: ∀b∈ch,(b∈X.ex\/X.s₀.heap.objs.size<=b)/\b≠X.env.locals/\(∀ x c,X.env.cells.lookup x=y0 c->c≠b)/\ ∀p∈X.pn++y8,p.1≠b):
 Inv X y8 U H' { s with heap:=h',gens:=g',drawn:=d',toks:=t' }:=by
 obtain⟨m,⟨o,B,y,k,r⟩,_⟩:=id I.loc
 obtain⟨sl,j⟩:=u.any k I.free λz=>(f _ z).2.1 rfl
 exact I.step f (λb o j q a e n=>u.keep b o e n (λz=>(Ab9.mp (I.di b z)).elim j q) a) (λb o _ _ a e n=>u.any e n a) (λb o a e n=>u.free b o e n a) (λb o a e=>u.there b o e a) u.cz u.cg u.cA (λw l=>by
  obtain⟨A,h,g,d,t⟩:=l
  rw [k]at d;cases d
  exact⟨_,h,g,j,t⟩) i v
def Inv.turned (I:Inv X y8 U H s) (k: ∀b o,b≠it->s.heap.get? b=y0 o->h'.get? b=y0 o) (h:H it=u0) (f:it≠X.env.locals)
 (h1:it∈X.ex\/X.s₀.heap.objs.size<=it) (h2: ∀x c,X.env.cells.lookup x=y0 c->c≠it) (g: ∀p∈X.pn++y8,p.1≠it):Inv X y8 U H { s with heap:=h',toks:=t' }:=by
 have d: ∀b u,H b=y0 u->b≠it:=λb u e z=>by rw [z,h]at e;cases e
 refine I.step (ch:= [it]) (λb j=> ?_) (λb o _ _ a e _=>k b o (λz=>a (by simp [z])) e) (λb o _ _ a e _=>⟨o.slots,k b o (λz=>a (by simp [z])) e⟩) (λ_ _ _ _ n=>n)
  (λb o a e=>⟨o,k b o (λz=>a (by simp [z])) e⟩) (λ_ _ e=>e) (λ_ _ _ e=>e) (λb y e=>⟨#[],by rw [e];simp⟩) (λm i=> ?_) (λb u e=> ?_) I.bare
 ·have e:=by simpa using j
  subst e
  exact⟨h1,f,h2,g⟩
 ·obtain⟨o,w,t,l,r⟩:=i
  exact⟨o,w,t,k _ o (Ne.symm f) l,r⟩
 ·refine(I.aL b u e).b8 (λc v a q=>k c v ?_ q) (λ_ q=>q) λ_ _ q=>q
  rcases a with z | z
  ·rw [z];exact d b u e
  ·exact d c _ z
def Inv.tok (I:Inv X y8 U H s) (t):Inv X y8 U H { s with toks:=t }:=I.un Un.refl I.aL
theorem Inv.kept (I:Inv X y8 U H s) (k: ∀b u,s.heap.get? b=y0 u->h'.get? b=y0 u):Inv X y8 U H { s with heap:=h',toks:=t' }:=I.un (Un.kept k) (I.aL.kept k)
theorem Inv.laid (I:Inv X y8 U H s) (k: ∀b u,s.heap.get? b=y0 u->h'.get? b=y0 u) (c:s.heap.objs.size<=a) (new:aO X.prog X.w (aG H a o) h' a o):
 Inv X y8 U (aG H a o) { s with heap:=h',toks:=t' }:=I.un (Un.laid k c (I.aL.fresh c)) (I.aL.laid k c new)
theorem Inv.write (I:Inv X y8 U H s) (d:ml (H x)) (c:e=x\/H e=y0 (.own x)) (k: ∀b u,b≠e->s.heap.get? b=y0 u->h'.get? b=y0 u) (a: ∃u,h'.get? e=y0 u)
 (new:aO X.prog X.w (aG H x o) h' x o):Inv X y8 U (aG H x o) { s with heap:=h',toks:=t' }:=I.un (Un.write d c k a) (I.aL.write d c k a new)
def Inv.bz (I:Inv X y8 U H s) (h: ∀p∈pins',s.heap.get? p.1=y0 p.2/\H p.1=u0/\p.1≠X.env.locals/\p.1∉X.fs/\ ∀v,p.2.data≠ .cell v):Inv X pins' U H s:=
 ⟨I.ok,I.os,I.bare,I.base,I.loc,I.cell,I.free,I.bq,λp a=>(Ae9.mp a).elim (λz=>I.pin p (Ac7 _ z)) (h p),I.aL,I.len⟩
def xP {N:List Str}(c:N.Nodup){i j:Nat}(a:N[i]? =y0 x) (b:N[j]? =y0 x):i=j:=by
 obtain⟨g,d⟩:=Ac0.mp a
 obtain⟨f,e⟩:=Ac0.mp b
 exact(List.getElem_inj c).mp (d.trans e.symm)
def LO (I:Inv X y8 U H s) (hN:X.N.Nodup) (S:X.N[i]? =y0 x) (w:kg X.env.scope x) (r:RelV v u)
 (h: ∀s',Inv X y8 (U.set i (y0 v)) H s'->(∃ a,Aj3 a s.heap s'.heap/\(a=X.env.locals\/X.env.cells.lookup x=y0 a))->Q () s') (hf:X.fn x=k9\/X.env.scope.names.lookup x=y0 .local:=by first | exact .inl rfl | exact .inr rfl | assumption):wpAny M A (storeName X.env x u) Q E s:=by
 obtain⟨m,hn,hl⟩:=id I.loc
 have R:(X.env.scope.kind== .class||(X.env.scope.kind== .module&&X.env.locals != X.env.globals))=false:=by rw [I.ok.kind];rfl
 have O:i<U.length:=by rw [I.len];exact(Ac0.mp S).1
 have gv:=I.gv
 have l: ∀ {a}{K},(∃ o,s.heap.get? a=y0 o/\H a=u0)->Aj3 a s.heap K->cF X.prog X.w H K:=λ{a K} ha f b ob e=>by
  obtain⟨_,_,B⟩:=ha
  refine(I.aL b ob e).b8 (λc V t q=>(f.2 c ?_).trans q) (λ_ q=>q) λ_ _ q=>q
  rintro rfl
  rcases t with rfl | t
  ·rw [B]at e;cases e
  ·rw [B]at t;cases t
 rcases w with D | D
 ·refine wpAny_storeName_local D hn (λK hn' f=> ?_) R
  obtain⟨oL,_,_,hoL,_⟩:=id hn
  refine h _ ⟨I.ok,I.os,I.bare,⟨λb o e n G w=> ?_,λb o e n G w=> ?_,I.base.free,λb o e w=> ?_,I.base.cz,I.base.cg,I.base.cA⟩,⟨_,hn',λj y v' g C e3=> ?_⟩,λy c e=> ?_,I.free,I.bq,λp hp=> ?_,l ⟨oL,hoL,I.free⟩ f,by simpa using I.len⟩ ⟨_,f,.inl rfl⟩
  ·exact(f.2 b (Ac2 (Ab0 (Ab4 e) I.ok.above))).trans (I.base.keep b o e n G w)
  ·obtain⟨sl,g⟩:=I.base.slot b o e n G w
   exact⟨sl,(f.2 b (Ac2 (Ab0 (Ab4 e) I.ok.above))).trans g⟩
  ·obtain⟨o',g⟩:=I.base.there b o e w
   exact⟨o',(f.2 b (Ac2 (Ab0 (Ab4 e) I.ok.above))).trans g⟩
  ·by_cases F:j=i
   ·subst F
    rw [S]at g;cases g
    rw [Ad0 O]at C
    cases C
    exact⟨u,r,.inl ⟨D,by simp⟩⟩
   ·rw [Ad (Ne.symm F)]at C
    obtain⟨Y,r',q⟩:=hl j y v' g C e3
    refine⟨Y,r',?_⟩
    rcases q with⟨k,e⟩ | ⟨k,c,e,z⟩
    ·refine .inl ⟨k,?_⟩
     have:y≠x:=λe=>F (xP hN g (e▸S))
     simp [this,e]
    ·exact .inr ⟨k,c,e,z.sameBut f (gv y c e)⟩
  ·obtain⟨V,z⟩:=I.cell y c e
   exact⟨V,z.sameBut f (gv y c e)⟩
  ·obtain⟨e,n,ne,Z,d⟩:=I.pin p hp
   exact⟨(f.2 p.1 ne).trans e,n,ne,Z,d⟩
 ·have J:X.fn x=true:=by
   rcases hf with z | z
   ·exact z
   ·rw [z]at D;cases D
  obtain⟨c,t⟩:=I.ok.has x (.inl D)
  obtain⟨V,z⟩:=I.cell x c t
  refine wpAny_storeName_cell I.ok.kind D t z (λK P f=> ?_)
  obtain⟨oc,L,N⟩:=id z
  refine h { s with heap:=K } ⟨I.ok,I.os,I.bare,⟨λb o e n G w=> ?_,λb o e n G w=> ?_,I.base.free,λb o e w=> ?_,I.base.cz,I.base.cg,I.base.cA⟩,⟨m,hn.sameBut f (Ne.symm (gv x c t)),λj y v' g C e3=> ?_⟩,λy W e=> ?_,I.free,I.bq,λp hp=> ?_,l ⟨oc,L,I.bq x c t⟩ f,by simpa using I.len⟩ ⟨c,f,.inr t⟩
  ·exact(f.2 b (Ac2 (Ab0 (Ab4 e) (I.ok.lq x c J t)))).trans (I.base.keep b o e n G w)
  ·obtain⟨sl,g⟩:=I.base.slot b o e n G w
   exact⟨sl,(f.2 b (Ac2 (Ab0 (Ab4 e) (I.ok.lq x c J t)))).trans g⟩
  ·obtain⟨o',g⟩:=I.base.there b o e w
   exact⟨o',(f.2 b (Ac2 (Ab0 (Ab4 e) (I.ok.lq x c J t)))).trans g⟩
  ·by_cases F:j=i
   ·subst F
    rw [S]at g;cases g
    rw [Ad0 O]at C
    cases C
    exact⟨u,r,.inr ⟨.inl D,c,t,P⟩⟩
   ·rw [Ad (Ne.symm F)]at C
    obtain⟨Y,r',q⟩:=hl j y v' g C e3
    refine⟨Y,r',?_⟩
    rcases q with q | ⟨k,W,e,z'⟩
    ·exact .inl q
    ·refine .inr ⟨k,W,e,z'.sameBut f ?_⟩
     rintro rfl
     exact F (xP hN g (I.ok.inj _ _ _ e t▸S))
  ·by_cases T:W=c
   ·subst T;exact⟨_,P⟩
   ·obtain⟨w2,z2⟩:=I.cell y W e
    exact⟨w2,z2.sameBut f T⟩
  ·obtain⟨e,n,ne,Z,d⟩:=I.pin p hp
   refine⟨(f.2 p.1 ?_).trans e,n,ne,Z,d⟩
   intro q
   rw [q,L]at e
   have q':=Ae2.inj e
   exact d V (by rw [← q'];exact N)
def Xn (I:Inv X y8 U H s) (a:X.N.Nodup) (d:X.N[i]? =y0 x) (c:kg X.env.scope x) (r:RelV v u)
 (h: ∀s',Inv X y8 (U.set i (y0 v)) H s'->Q () s') (b:X.fn x=k9\/X.env.scope.names.lookup x=y0 .local:=by first | exact .inl rfl | exact .inr rfl | assumption):wpAny M A (storeName X.env x u) Q E s:=
 LO I a d c r (λs' e _=>h s' e) b
def Inv.hV (I:Inv X y8 U H s) (f:s'.os=s.os) (u:Un (bE X.stack) ch H H' s.heap s'.heap) (d:cF X.prog X.w H' s'.heap) (g:AllBare s'.gens)
 (a: ∀b∈ch,(b∈X.ex\/X.s₀.heap.objs.size<=b)/\b≠X.env.locals/\(∀ x c,X.env.cells.lookup x=y0 c->c≠b)/\ ∀p∈X.pn++y8,p.1≠b):Inv X y8 U H' s':=by
 obtain⟨j,h,i,k,l⟩:=s'
 have e:=f
 subst e
 exact I.call u d g a
end
abbrev XK:=Value->Option Addr->Hp->Prop
abbrev St:=List (Option V)
abbrev VK:=V->Hp->Prop
abbrev TE:=St->Hp->VK->Prop
abbrev TT:=St->Hp->(Bool->Hp->Prop)->Prop
abbrev TA:=St->Hp->(List V->Hp->Prop)->Prop
structure hU where
 nx:St->Hp->Prop
 rt:VK
 bk:St->Hp->Prop:=λ_ _=>False
 ct:St->Hp->Prop:=λ_ _=>False
abbrev TS:=hU->St->Hp->Prop
def EP (X:Cx) (a:List (Addr×Obj)) (U:St) (Q:VK) (u:Value) (s':Shared):Prop:= ∃v H',Inv X a U H' s'/\RelV v u/\Q v H'
def TP (X:Cx) (a:List (Addr×Obj)) (U:St) (Q:Bool->Hp->Prop) (b:Bool) (s':Shared):Prop:= ∃H',Inv X a U H' s'/\Q b H'
def AP (X:Cx) (a:List (Addr×Obj)) (U:St) (Q:List V->Hp->Prop) (c:List Value) (s':Shared):Prop:= ∃b H',Inv X a U H' s'/\Vals b c/\Q b H'
def SP (X:Cx) (a:List (Addr×Obj)) (D:hU) (f:Flow) (s':Shared):Prop:=
 match f with
 | .next=> ∃b H',Inv X a b H' s'/\D.nx b H'
 | .brk=> ∃b H',Inv X a b H' s'/\D.bk b H'
 | .cont=> ∃b H',Inv X a b H' s'/\D.ct b H'
 | .ret u=> ∃v b H',Inv X a b H' s'/\RelV v u/\D.rt v H'
def PE (X:Cx) (e:Expr) (t:TE):Prop:=
 ∀(y8:List (Addr×Obj)) (s:Shared) (U:St) (H:Hp) (Q:VK),Inv X y8 U H s->t U H Q->wpAny (model X.prog X.w) X.A (eval e X.env) (EP X y8 U Q) X.xe s
def PT (X:Cx) (e:Expr) (t:TT):Prop:=
 ∀(y8:List (Addr×Obj)) (s:Shared) (U:St) (H:Hp) (Q:Bool->Hp->Prop),Inv X y8 U H s->t U H Q->wpAny (model X.prog X.w) X.A (isTrue e X.env (eval e X.env)) (TP X y8 U Q) X.xe s
def PW (X:Cx) (e:Expr) (t:TT):Prop:=
 ∀(a:Sem Value) (y8:List (Addr×Obj)) (s:Shared) (U:St) (H:Hp) (Q:Bool->Hp->Prop),Inv X y8 U H s->t U H Q->wpAny (model X.prog X.w) X.A (isTrue e X.env a) (TP X y8 U Q) X.xe s
def PW.pt (h:PW X e t):PT X e t:=h _
def PA (X:Cx) (es:List Expr) (t:TA):Prop:=
 ∀(pos:Pos) (y8:List (Addr×Obj)) (s:Shared) (U:St) (H:Hp) (Q:List V->Hp->Prop),Inv X y8 U H s->t U H Q->wpAny (model X.prog X.w) X.A (spliced (backTo pos (starEach es X.env))) (AP X y8 U Q) X.xe s
def PS (X:Cx) (a:Stmt) (t:TS):Prop:=
 ∀(y8:List (Addr×Obj)) (s:Shared) (U:St) (H:Hp) (D:hU),Inv X y8 U H s->t D U H->wpAny (model X.prog X.w) X.A (exec a X.env) (SP X y8 D) X.xe s
def cG (X:Cx) (a:List Stmt) (t:TS):Prop:=
 ∀(y8:List (Addr×Obj)) (s:Shared) (U:St) (H:Hp) (D:hU),Inv X y8 U H s->t D U H->wpAny (model X.prog X.w) X.A (execs a X.env) (SP X y8 D) X.xe s
def aJ (h:wpAny M A t Q E s) (b: ∀a s,Q a s->Q' a s):wpAny M A t Q' E s:=wpAny_mono h b λ_ _ x=>x
section
variable {X:Cx}
def bin (c:PE X a ta) (l:PE X b tb){R:V->V->Hp->Prop}(I:Inv X y8 U H s) (h:ta U H λx H1=>tb U H1 λy H2=>R x y H2)
 {f:Value->Value->Sem α}
 (p: ∀v u J x y H2,Inv X y8 U H2 J->RelV x v->RelV y u->R x y H2->wpAny (model X.prog X.w) X.A (f v u) Q X.xe J):
 wpAny (model X.prog X.w) X.A (eval a X.env) (λv i=>wpAny (model X.prog X.w) X.A (eval b X.env) (λu j=>wpAny (model X.prog X.w) X.A (f v u) Q X.xe j) X.xe i) X.xe s:=by
 refine aJ (c y8 s U H _ I h) ?_
 rintro v g ⟨x,H1,d,o,m⟩
 refine aJ (l y8 g U H1 _ d m) ?_
 rintro u J ⟨y,H2,n,e,k⟩
 exact p v u J x y H2 n o e k
def mz (i:Nat):TE:=λU H Q=> ∃v,U[i]? =y0 (y0 v)/\Q v H
def tC (v:V):TE:=λ_ H Q=>Q v H
def xm (o:X.N[i]? =some x) (p:iF X.env.scope x) (f:(x==("__debug__" :Str))=false:=by decide) (g:(x==("__classdict__" :Str))=false:=by decide):PE X (.Name x pos) (mz i):=by
 intro d s U H Q I h
 obtain⟨v,e,h⟩:=h
 obtain⟨m,hn,k⟩:=I.loc
 obtain⟨u,r,l⟩:=k i x v o e p
 have fin:EP X d U Q u s:=⟨v,H,I,r,h⟩
 rcases l with⟨b,n⟩ | ⟨b,c,j,a⟩
 ·exact wpAny_Name (wpAny_loadName_local I.ok.kind b hn n fin) f
 ·rcases b with b | b
  ·exact wpAny_Name (wpAny_loadName_cell I.ok.kind b j a fin) f
  ·exact wpAny_Name (wpAny_loadName_free I.ok.kind b j a fin g) f
def u6 {i j pos}:PE X (.Constant (.int i) j pos) (tC (.int i)):=λ_ _ _ H _ I h=>wpAny_Constant_int ⟨.int i,H,I.tok _,⟨_,rfl⟩,h⟩
def CS {b j pos}:PE X (.Constant (.bool b) j pos) (tC (.bl b)):=λ_ _ _ H _ I h=>Constant_bool ⟨.bl b,H,I,rfl,h⟩
def FI {j pos}:PE X (.Constant .none j pos) (tC .au):=λ_ _ _ H _ I h=>Constant_none ⟨.au,H,I,rfl,h⟩
def Hw {x j pos}:PE X (.Constant (.str x) j pos) (tC (.str x)):=λ_ _ _ H _ I h=>Calls.Constant_str ⟨.str x,H,I.tok _,⟨_,rfl⟩,h⟩
def Gl (X:Cx) (x:Str):Prop:=X.env.kindOf x=y0 .globalImplicit
def wA (I:Inv X y8 U H s) (c:Gl X x) (b:X.mg x=y0 u) (h:Q u s)
 (a:(x==("__debug__" :Str))=false:=by decide):wpAny (model X.prog X.w) X.A (eval (.Name x pos) X.env) Q E s:=
 Calls.Name_function_global I.ok.kind c (Calls.loadGlobal_global (by rw [I.ok.glob];exact I.mod.glob.keeps I.bk) b h) a
def qB (I:Inv X y8 U H s) (g:Gl X x) (e:X.mg x=u0) (a:bootBuiltins x=y0 u) (h:Q u s)
 (b:x≠ "__name__" :=by decide) (d:(x==("__debug__" :Str))=false:=by decide):wpAny (model X.prog X.w) X.A (eval (.Name x pos) X.env) Q E s:=by
 obtain⟨i,f,c⟩:=I.mod.blt
 exact Calls.Name_function_global I.ok.kind g (Calls.loadGlobal_builtin (by rw [I.ok.glob];exact I.mod.glob.keeps I.bk) e (by rw [I.ok.blt];exact f.keeps I.bk) ((c x b).trans a) h) d
def Z2 (c:Gl X x) (b:X.mg x=some u) (r:RelV v u) (a:(x==("__debug__" :Str))=false:=by decide):PE X (.Name x pos) (tC v):=
 λ_ _ _ H _ I h=>wA I c b ⟨v,H,I,r,h⟩ a
def rb (e:Gl X x) (d:X.mg x=none) (a:bootBuiltins x=some u) (r:RelV v u) (b:x≠ "__name__" :=by decide) (c:(x==("__debug__" :Str))=false:=by decide):PE X (.Name x pos) (tC v):=
 λ_ _ _ H _ I h=>qB I e d a ⟨v,H,I,r,h⟩ b c
variable {a b:Expr}{ta tb:TE}{pos:Pos}
def PC (X:Cx) (op:CmpOp) (a b:Expr) (t:TE):Prop:=
 ∀(y8:List (Addr×Obj)) (s:Shared) (U:St) (H:Hp) (Q:VK),Inv X y8 U H s->t U H Q →
  wpAny (model X.prog X.w) X.A (eval a X.env) (λv d=>wpAny (model X.prog X.w) X.A (eval b X.env) (λu c=>wpAny (model X.prog X.w) X.A (compareOp op v u) (EP X y8 U Q) X.xe c) X.xe d) X.xe s
def rP (b)(h:op≠ .In) (h2:op≠ .NotIn):behindInMarks op b=false:=by
 have c:(op==CmpOp.In)=false:=by cases op<;>first | rfl | exact absurd rfl h
 have a:(op==CmpOp.NotIn)=false:=by cases op<;>first | rfl | exact absurd rfl h2
 cases b<;>simp [behindInMarks,c,a]
def Cj (a:TE):TE:=λU H Q=>a U H λx H1=>Q (.bl (u9 (x= .au))) H1
def CN (a:TE):TE:=λU H Q=>a U H λx H1=>Q (.bl (!u9 (x= .au))) H1
def RelV.dy (r:RelV x v):(v==Value.none)=u9 (x= .au):=by
 cases x with
 | au=>cases r;rfl
 | bl _=>cases r;rfl
 | int _=>obtain⟨t,rfl⟩:=r;rfl
 | str _=>obtain⟨t,rfl⟩:=r;rfl
 | il _=>obtain⟨t,rfl⟩:=r;rfl
 | hF _=>obtain⟨t,rfl⟩:=r;rfl
 | ref _=>cases r;rfl
 | ty _=>cases r;rfl
def ro {j pos'}(c:PE X a ta):PC X .Is a (.Constant .none j pos') (Cj ta):=by
 intro b s U H Q I h
 refine aJ (c b s U H _ I h) ?_
 rintro v i ⟨x,f,e,g,d⟩
 exact Constant_none (is_none_gen ⟨.bl _,f,e,by rw [g.dy];rfl,d⟩)
def p8 {j pos'}(c:PE X a ta):PC X .IsNot a (.Constant .none j pos') (CN ta):=by
 intro b s U H Q I h
 refine aJ (c b s U H _ I h) ?_
 rintro v i ⟨x,f,e,g,d⟩
 exact Constant_none (isnot_none_gen ⟨.bl _,f,e,by rw [g.dy];rfl,d⟩)
def tB (t:TE):TT:=λU H Q=>t U H λx H1=> ∃c,x= .bl c/\Q c H1
def pR (h:PC X op a b t) (h1:behindInMarks op b=false:=by first | exact rP _ (by decide) (by decide) | rfl):PE X (.Compare a [op] [b] pos) t:=λc s U H Q I d=>wpAny_Compare1 (h c s U H Q I d) h1
def uk (h:PC X op a b t) (h1:behindInMarks op b=false:=by first | exact rP _ (by decide) (by decide) | rfl):PT X (.Compare a [op] [b] pos) (tB t):=by
 intro e s U H Q I i
 refine wpAny_isTrue_Compare1 (aJ (h e s U H _ I i) λv o h1=>aJ h1 λu m f=>aJ f λc n ⟨x,k,g,l,j⟩=> ?_) h1
 obtain⟨d,rfl,q⟩:=j
 cases l
 exact wpAny_truthy_bool ⟨k,g,q⟩
variable {tA tB':TT}{rest:List Expr}
def Au (t u:TT):TT:=λU H Q=>t U H λc H1=>if c=k9 then u U H1 Q else Q y9 H1
def Hu (t u:TT):TT:=λU H Q=>t U H λc H1=>if c=k9 then Q k9 H1 else u U H1 Q
def Hd (t:TT):TT:=λU H Q=>t U H λc H1=>Q (!c) H1
def Aw (d:PT X a tA):PW X (.BoolOp .And [a] pos) tA:=by
 intro f b s U H Q I h
 refine isTrue_and (aJ (d b s U H Q I h) λc g e=> ?_)
 cases c with
 | true=>exact isTrue_and_nil e
 | false=>exact e
def C4 (d:PT X a tA):PW X (.BoolOp .Or [a] pos) tA:=by
 intro f b s U H Q I h
 refine isTrue_or (aJ (d b s U H Q I h) λc g e=> ?_)
 cases c with
 | false=>exact isTrue_or_nil e
 | true=>exact e
def IT (i:PT X a tA) (l:PW X (.BoolOp .And (b::rest) pos) tB'):PW X (.BoolOp .And (a::b::rest) pos) (Au tA tB'):=by
 intro j d s U H Q I h
 refine isTrue_and (aJ (i d s U H _ I h) ?_)
 rintro c k ⟨g,f,e⟩
 cases c with
 | true=>exact l j d k U g Q f e
 | false=>exact⟨g,f,e⟩
def B5 (i:PT X a tA) (l:PW X (.BoolOp .Or (b::rest) pos) tB'):PW X (.BoolOp .Or (a::b::rest) pos) (Hu tA tB'):=by
 intro j d s U H Q I h
 refine isTrue_or (aJ (i d s U H _ I h) ?_)
 rintro c k ⟨g,f,e⟩
 cases c with
 | true=>exact⟨g,f,e⟩
 | false=>exact l j d k U g Q f e
def DP (d:PT X a tA):PT X (.UnaryOp .Not a pos) (Hd tA):=by
 intro b s U H Q I h
 exact isTrue_not (d b s U H (λc e=>Q (!c) e) I h)
def vU {op}(h:PE X a t):PE X (.BoolOp op [a] pos) t:=λb s U H Q I c=>BoolOp_one (h b s U H Q I c)
end
def aZ (K:Aa7) (H:Hp) (a:Addr) (xs:List V):Prop:=
 Rd H a (.lst xs) ∨
  ∃(o:Obj) (b:Array Value) (n:Nat),K.lookup a=some o/\o.cls= .type "list" /\o.dict=none/\o.data= .seq b n/\b.size<=sizeLine/\Vals xs b.toList
def bB (K:Aa7) (H:Hp) (a:Addr) (xs:List V):Prop:=
 Rd H a (.tup xs) ∨
  ∃(o:Obj) (b:Array Value) (n:Nat),K.lookup a=y0 o/\o.cls= .type "tuple" /\o.data= .seq b n/\b.size<=sizeLine/\Vals xs b.toList
noncomputable def ID:Value->Option V
 | .none=>y0 .au
 | .bool b=>y0 (.bl b)
 | .int i _=>y0 (.int i)
 | .str x _=>y0 (.str x)
 | .bytes b _=>y0 (.il b)
 | .float b _=>y0 (.hF b)
 | .ref a=>y0 (.ref a)
 | .type n=>y0 (.ty n)
 | _=>u0
def RelV.abs (r:RelV x u):ID u=y0 x:=by
 cases x with
 | au=>cases r;rfl
 | bl _=>cases r;rfl
 | int _=>obtain⟨t,rfl⟩:=r;rfl
 | str _=>obtain⟨t,rfl⟩:=r;rfl
 | il _=>obtain⟨t,rfl⟩:=r;rfl
 | hF _=>obtain⟨t,rfl⟩:=r;rfl
 | ref _=>cases r;rfl
 | ty _=>cases r;rfl
theorem RelV.inj (r:RelV x u) (q:RelV y u):x=y:=Ae2.inj (r.abs.symm.trans q.abs)
theorem Vals.inj: ∀ {xs ys}{i},Vals xs i->Vals ys i->xs=ys
 | _,_,_,.nil,.nil=>rfl
 | _,_,_,.cons r t,.cons a b=>by rw [r.inj a,Vals.inj t b]
section
variable {X:Cx}{y8:List (Addr×Obj)}{U:St}{H:Hp}{s:Shared}{a:Addr}{xs ys:List V}
def aZ.of {K:Aa7}(h:H a=y0 (.lst xs)):aZ K H a xs:= .inl (.inl h)
def Inv.list (I:Inv X y8 U H s) (h:aZ X.K H a xs): ∃i:List Value,Vals xs i/\PlainL s.heap a i.toArray/\xs.length<=sizeLine:=by
 rcases h with h | ⟨o,i,n,f,c,d,b,g,r⟩
 ·obtain⟨z,i,n,r,e⟩:=h.ok I.aL
  exact⟨i,r,⟨_,n,e,rfl,rfl,rfl⟩,z⟩
 ·refine⟨i.toList,r,⟨o,n,I.bH a o f,c,d,by simpa using b⟩,?_⟩
  have e:=r.length
  simp only [Am4]at e
  omega
def Inv.tuple (I:Inv X y8 U H s) (h:bB X.K H a xs): ∃i:List Value,Vals xs i/\IsTup s.heap a i.toArray/\xs.length<=sizeLine:=by
 rcases h with h | ⟨o,i,n,d,c,b,f,r⟩
 ·obtain⟨z,i,r,p⟩:=h.ok I.aL
  exact⟨i,r,p.is,z⟩
 ·refine⟨i.toList,r,⟨o,I.bH a o d,c,n,by simpa using b⟩,?_⟩
  have e:=r.length
  simp only [Am4]at e
  omega
def Inv.cU (I:Inv X y8 U H s) (h:aZ X.K H a xs) (h':aZ X.K H a ys):xs=ys:=by
 obtain⟨c,r,⟨o,n,e,_,_,d⟩,_⟩:=I.list h
 obtain⟨b,j,⟨l,k,g,_,_,f⟩,_⟩:=I.list h'
 rw [e]at g;cases g
 rw [d]at f
 injection f with i _
 have:c=b:=by simpa using congrArg Array.toList i
 subst this
 exact r.inj j
def Inv.cv (I:Inv X y8 U H s) (h:bB X.K H a xs) (h':bB X.K H a ys):xs=ys:=by
 obtain⟨c,r,⟨o,e,_,n,d⟩,_⟩:=I.tuple h
 obtain⟨b,j,⟨l,g,_,k,f⟩,_⟩:=I.tuple h'
 rw [e]at g;cases g
 rw [d]at f
 injection f with i _
 have:c=b:=by simpa using congrArg Array.toList i
 subst this
 exact r.inj j
end
abbrev Cx.c8 (X:Cx) (E:Value->Shared->Prop):Cx:= { X with xe:=E }
abbrev Cx.fg (X:Cx):Cx:=X.c8 λ_ _=>False
theorem Cx.Ok.c8 {X:Cx}(ok:X.Ok) (E:Value->Shared->Prop):(X.c8 E).Ok:=
 ⟨ok.mod,ok.kind,ok.glob,ok.blt,ok.above,ok.inj,ok.has,ok.lq,ok.hd,ok.frames,ok.iT,ok.mR,ok.bs,ok.gN,ok.fH,ok.fB,ok.cH,ok.iq⟩
def Cx.Ok.bO {X:Cx}(ok:(X.c8 E).Ok):X.Ok:=
 ⟨ok.mod,ok.kind,ok.glob,ok.blt,ok.above,ok.inj,ok.has,ok.lq,ok.hd,ok.frames,ok.iT,ok.mR,ok.bs,ok.gN,ok.fH,ok.fB,ok.cH,ok.iq⟩
section
variable {X:Cx}{y8:List (Addr×Obj)}{U:St}{H:Hp}{s:Shared}{E:Value->Shared->Prop}
theorem Inv.c8 (I:Inv X y8 U H s) (E):Inv (X.c8 E) y8 U H s:=⟨I.ok.c8 E,I.os,I.bare,I.base,I.loc,I.cell,I.free,I.bq,I.pin,I.aL,I.len⟩
theorem Inv.bO (I:Inv (X.c8 E) y8 U H s):Inv X y8 U H s:=⟨I.ok.bO,I.os,I.bare,I.base,I.loc,I.cell,I.free,I.bq,I.pin,I.aL,I.len⟩
theorem SP.bO (h:SP (X.c8 E) y8 D f s'):SP X y8 D f s':=by
 cases f with
 | next=>obtain⟨b,a,I,q⟩:=h;exact⟨b,a,I.bO,q⟩
 | brk=>obtain⟨b,a,I,q⟩:=h;exact⟨b,a,I.bO,q⟩
 | cont=>obtain⟨b,a,I,q⟩:=h;exact⟨b,a,I.bO,q⟩
 | ret u=>obtain⟨v,b,a,I,r,q⟩:=h;exact⟨v,b,a,I.bO,r,q⟩
end
section
variable {X:Cx}{st:Stmt}{rest:List Stmt}{t u:TS}{e:Expr}{te:TE}{pos:Pos}
def DG:TS:=λD U H=>D.nx U H
def Fg (t u:TS):TS:=λD U H=>t { D with nx:=u D } U H
def CD:cG X [] DG:=λ_ _ U H _ I h=>wpAny_execs_nil ⟨U,H,I,h⟩
def Mp (h1:PS X c t) (h2:cG X rest u):cG X (c::rest) (Fg t u):=by
 intro a s U H D I h
 refine wpAny_execs_cons (aJ (h1 a s U H { D with nx:=u D } I h) λf e q=> ?_)
 cases f with
 | next=>
  obtain⟨d,b,g,q⟩:=q
  exact h2 a e d b D g q
 | ret v=>exact q
 | brk=>exact q
 | cont=>exact q
def Li (h1:PS X st t):cG X [st] t:=by
 intro a s U H D I h
 refine wpAny_execs_cons (aJ (h1 a s U H D I h) λf b q=> ?_)
 cases f with
 | next=>exact wpAny_execs_nil q
 | ret v=>exact q
 | brk=>exact q
 | cont=>exact q
def Inv.quiet (I:Inv X y8 U H s):interactive X.env=false:=by simp [interactive,I.ok.kind]
def Hz (a:TE):TS:=λD U H=>a U H λ_ H1=>D.nx U H1
def XN (g:PE X e te) (c:swapsWith e u0 pos.line X.env=pure false:=by rfl):PS X (.Expr e pos) (Hz te):=by
 intro a s U H D I h
 exact wpAny_Expr_any (aJ (g a s U H _ I h) λv j ⟨x,f,d,i,b⟩=>⟨U,f,d,b⟩) I.quiet c
def HX (a:TE):TS:=λD U H=>a U H D.rt
def sH (g:PE X e te):PS X (.Return (y0 e) pos) (HX te):=by
 intro a s U H D I h
 exact wpAny_Return_some (aJ (g a s U H _ I h) λv i ⟨x,d,c,f,b⟩=>⟨x,U,d,c,f,b⟩)
def Bb (c:TT) (t u:TS):TS:=λD U H=>c U H λb H1=>if b=k9 then t D U H1 else u D U H1
def Bq (l:PT X c tc) (k:cG X a t) (m:cG X b u):PS X (.If c a b pos) (Bb tc t u):=by
 intro e s U H D I h
 refine wpAny_If (aJ (l e s U H _ I h) ?_)
 rintro d j ⟨i,g,f⟩
 cases d with
 | true=>exact k e j U i D g f
 | false=>exact m e j U i D g f
end
abbrev TG:=V->St->Hp->(St->Hp->Prop)->Prop
abbrev lH:=List V->St->Hp->(St->Hp->Prop)->Prop
def PG (X:Cx) (a:Expr) (t:TG):Prop:=
 ∀(y8:List (Addr×Obj)) (s:Shared) (U:St) (H:Hp) (v:V) (u:Value) (Q:St->Hp->Prop),Inv X y8 U H s->RelV v u->t v U H Q →
  wpAny (model X.prog X.w) X.A (assign a X.env u) (λ_ s'=> ∃b H',Inv X y8 b H' s'/\Q b H') X.xe s
def kO (X:Cx) (ts:List Expr) (t:lH):Prop:=
 ∀(y8:List (Addr×Obj)) (s:Shared) (U:St) (H:Hp) (a:List V) (b:List Value) (Q:St->Hp->Prop),Inv X y8 U H s->Vals a b->t a U H Q →
  wpAny (model X.prog X.w) X.A (assignInOrder ((assignEach ts X.env).map (·.2)) b) (λ_ s'=> ∃c H',Inv X y8 c H' s'/\Q c H') X.xe s
abbrev pK:=V->V->V->Hp->(Hp->Prop)->Prop
def pk (X:Cx) (t:pK):Prop:=
 ∀(y8:List (Addr×Obj)) (s:Shared) (U:St) (H:Hp) (o i v:V) (a b u:Value) (Q:Hp->Prop),Inv X y8 U H s->RelV o a->RelV i b->RelV v u->t o i v H Q →
  wpAny (model X.prog X.w) X.A (setItem a b u) (λ_ s'=> ∃H',Inv X y8 U H' s'/\Q H') X.xe s
section
variable {X:Cx}{pos:Pos}
def xV (i:Nat):TG:=λv U H Q=>Q (U.set i (y0 v)) H
def yB (b:X.N.Nodup) (e:X.N[i]? =y0 x) (d:kg X.env.scope x) (c:X.fn x=k9\/X.env.scope.names.lookup x=y0 .local:=by first | exact .inl rfl | exact .inr rfl | assumption):PG X (.Name x pos) (xV i):=by
 intro a s U H v u Q I r h
 exact wpAny_assign_Name (Xn I b e d r (λg f=>⟨_,H,f,h⟩) c)
def Ll:lH:=λa U H Q=>a= []/\Q U H
def Fs (t:TG) (u:lH):lH:=λa U H Q=> ∃v r,a=v::r/\t v U H λb H'=>u r b H' Q
def DR:kO X [] Ll:=by
 intro a s U H c b Q I r h
 obtain⟨e,h⟩:=h
 subst e
 cases r
 exact assignInOrder_nil ⟨U,H,I,h⟩
def AW (h1:PG X e t) (h2:kO X es u)
 (i:(assignEach (e::es) X.env).map (·.2)=assign e X.env::(assignEach es X.env).map (·.2):=by rfl):kO X (e::es) (Fs t u):=by
 intro a s U H n m Q I r h
 obtain⟨v,l,c,h⟩:=h
 subst c
 cases r with
 | cons r k=>
  rw [i]
  refine assignInOrder_cons (aJ (h1 a s U H _ _ _ I r h) ?_)
  rintro _ d ⟨f,j,b,g⟩
  exact h2 a d f j _ _ Q b k g
def FX (K:Aa7) (n:Nat) (t:lH):TG:=λv U H Q=> ∃a xs,v= .ref a/\bB K H a xs/\xs.length=n/\t xs U H Q
def L9 (x:X.calm=k9) (h:kO X es t)
 (p:(assignEach es X.env).length=n:=by rfl) (f:(assignEach es X.env).findIdx? (·.1)=none:=by rfl):PG X (.Tuple es k pos) (FX X.K n t):=by
 intro c s U H v u Q I r d
 obtain⟨a,m,l,y,g,d⟩:=d
 subst l
 cases r
 obtain⟨i,rv,z,A⟩:=I.tuple y
 refine assign_Tuple_tuple (I.ok.hd x) z (by simp [p,←g,rv.length]) f λw q=> ?_
 have j:Inv X c U H { s with heap:=w }:=I.kept λb o e=>q b o (Ac2 (Ab4 e)) e
 exact h c _ U H m _ Q j (by simpa using rv) d
def KZ (b c:TE) (t:pK):TG:=λv U H Q=>b U H λo H1=>c U H1 λi H2=>t o i v H2 λa=>Q U a
def pU (n:PE X o to) (B:PE X i ti) (m:pk X t)
 (b: ∀v,assign (.Subscript o i pos) X.env v=(do
   let j ←holding [v] (eval o X.env)
   let J ←holding [v,j] (eval i X.env)
   standAt pos
   holding [v,j,J] (setItem j J v)
   release [v,j,J] []):=by intro _;rfl):PG X (.Subscript o i pos) (KZ to ti t):=by
 intro a s U H v u Q I r h
 rw [b]
 refine wpAny_bind (wpAny_holding (aJ (n a s U H _ I h) ?_))
 rintro j f ⟨x,q,c,A,l⟩
 refine wpAny_bind (wpAny_holding (aJ (B a f U q _ c l) ?_))
 rintro J d ⟨y,g,w,e,k⟩
 refine wpAny_bind (wpAny_standAt (wpAny_bind (wpAny_holding (aJ (m a d U g x y v j J u _ w A e r k) ?_))))
 rintro _ D ⟨C,z,p⟩
 exact wpAny_release ⟨U,C,z,p⟩
def g7 (a:TE) (g:TG):TS:=λD U H=>a U H λx H1=>g x U H1 D.nx
def Q6 (k:PE X e te) (m:PG X tg g) (i:swapsWithSole [tg] e pos.line X.env=pure false:=by rfl) (c:swappedStores [tg] e X.env=pure none:=by rfl)
 (h1:(assignEach [tg] X.env).map (·.2)= [assign tg X.env]:=by rfl):PS X (.Assign [tg] e pos) (g7 te g):=by
 intro a s U H D I h
 refine wpAny_Assign_stores (aJ (k a s U H _ I h) λv d ⟨x,j,b,l,f⟩=> ?_) i c
 rw [h1]
 exact aJ (m a d U j x v _ b l f) λ_ n q=>q
def nW (g:X.N.Nodup) (n:X.N[i]? =y0 x) (c:kg X.env.scope x) (l:PE X e te) (f:swapsWith e (y0 (.Name x pos')) pos.line X.env=pure false:=by rfl) (o:X.fn x=k9\/X.env.scope.names.lookup x=y0 .local:=by first | exact .inl rfl | exact .inr rfl | assumption):
 PS X (.Assign [.Name x pos'] e pos) (g7 te (xV i)):=by
 intro a s U H D I h
 refine wpAny_Assign_Name (aJ (l a s U H _ I h) λv q ⟨y,j,b,m,d⟩=> ?_) f
 exact Xn b g n c m (λp k=>⟨_,j,k,d⟩) o
end
section
variable {X:Cx}{pos:Pos}
def EW (c:TT) (tb:TS):TS:=λD U H=> ∃W:Nat->St->Hp->Prop,(∃ m,W m U H)/\ ∀m U H,W m U H →
 c U H λb H1=>if b=k9 then ∃N:St->Hp->Prop,(∀ d H',N d H'-> ∃a,a<m/\W a d H')/\tb { D with nx:=N,ct:=N,bk:=D.nx } U H1 else D.nx U H1
def Bf (t:PassesOwn (model X.prog X.w) X.A X.env X.xe) (J:PT X c tc) (F:cG X body tb):PS X (.While c body [] pos) (EW tc tb):=by
 intro a s U H D I h
 obtain⟨W,⟨G,E⟩,d⟩:=h
 refine wpAny_While (codeAny_whileLoop (λn L=> ∃z y,Inv X a z y L/\W n z y) ?_ G ⟨U,H,I,E⟩)
 rintro n C ⟨i,w,A,K⟩
 refine wpAny_passesOwn t (aJ (J a C i w _ A (d n i w K)) ?_)
 rintro b B ⟨r,x,j⟩
 cases b with
 | true=>
  obtain⟨N,u,j⟩:=j
  refine wpAny_passesOwn t (aJ (F a B i r _ x j) λf M k=> ?_)
  cases f with
  | next=>
   obtain⟨e,g,q,l⟩:=k
   obtain⟨p,m,o⟩:=u e g l
   exact⟨p,m,e,g,q,o⟩
  | cont=>
   obtain⟨e,g,q,l⟩:=k
   obtain⟨p,m,o⟩:=u e g l
   exact⟨p,m,e,g,q,o⟩
  | brk=>exact k
  | ret v=>exact k
 | false=>
  exact wpAny_execs_nil ⟨i,r,x,j⟩
end
structure It where
 go:Nat->Hp->Prop
 eC:Nat->Hp->V->Hp->Prop
 stop:Nat->Hp->Prop
def eE (X:Cx) (a:List (Addr×Obj)) (H:Hp) (b:Addr):Prop:=
 H b=u0/\b≠X.env.locals/\b∉X.fs/\(b∈X.ex\/X.s₀.heap.objs.size<=b)/\(∀ x c,X.env.cells.lookup x=y0 c->c≠b)/\ ∀p∈X.pn++a,p.1≠b
def Inv.cP (I:Inv X y8 U H s) (a:s.heap.objs.size<=b) (f:H' b=u0):eE X y8 H' b:=by
 refine⟨f,Al1 (Ab0 I.lt a),I.o3 a,.inr (Ac I.sz a),λx c e z=> ?_,λp d z=> ?_⟩
 ·obtain⟨v,q⟩:=I.cell x c e
  exact absurd (Ab0 q.lt (by rw [z];exact a)) (Ag8 _)
 ·exact absurd (Ab0 (Ab4 (I.pin p d).1) (by rw [z];exact a)) (Ag8 _)
structure gI (P:Program) (w:World) (K:Aa7) (tg:Expr) (J:It) (fp:List Addr) (it:Addr) (tn:Nat->Heap->Prop):Prop where
 mem:it∈fp
 obj: ∀i h,tn i h-> ∀b∈fp,∃o,h.get? b=y0 o/\ ∀v,o.data≠ .cell v
 keep: ∀i h h',tn i h->(∀ b∈fp,∀o,h.get? b=y0 o->h'.get? b=y0 o)->tn i h'
 item: ∀(X:Cx),X.prog=P->X.w=w->X.K=K->X.calm=k9-> ∀(i:Nat) (y8:List (Addr×Obj)) (s:Shared) (U:St) (H:Hp) (E:Value->Shared->Prop),Inv X y8 U H s->(∀ b∈fp,eE X y8 H b)->tn i s.heap->J.go i H →
  wpAny (model P w) X.A (pyNext (.ref it)) (λr s1=> ∃u,r=y0 u ∧
   wpAny (model P w) X.A (letOwnedTupleGo tg (.ref it) u) (λ_ s2=> ∃x H',Inv X y8 U H' s2/\RelV x u/\J.eC i H x H'/\tn (i+1) s2.heap/\ ∀b∈fp,H' b=u0) E s1) E s
 done: ∀(X:Cx),X.prog=P->X.w=w->X.K=K->X.calm=k9-> ∀(i:Nat) (y8:List (Addr×Obj)) (s:Shared) (U:St) (H:Hp) (E:Value->Shared->Prop),Inv X y8 U H s->(∀ b∈fp,eE X y8 H b)->tn i s.heap->J.stop i H →
  wpAny (model P w) X.A (pyNext (.ref it)) (λr s1=>r=u0/\Inv X y8 U H s1) E s
 self: ∀(A:Around) (i:Nat) (s:Shared) (Q:Value->Shared->Prop) (E:Value->Shared->Prop),tn i s.heap->Q (.ref it) s->wpAny (model P w) A (pyIter (.ref it)) Q E s
abbrev TI:=St->Hp->(It->Hp->Prop)->Prop
def tM (X:Cx) (a:List (Addr×Obj)) (U:St) (g:Expr) (R:It->Hp->Prop) (c:Value) (d:Shared):Prop:=
 ∃(e:Addr) (fp:List Addr) (f:Nat->Heap->Prop) (J:It) (H':Hp),c= .ref e/\Inv X a U H' d/\gI X.prog X.w X.K g J fp e f/\f 0 d.heap/\(∀ b∈fp,eE X a H' b)/\R J H'
def PI (X:Cx) (c a:Expr) (b:TI):Prop:=
 ∀(y8:List (Addr×Obj)) (s:Shared) (U:St) (H:Hp) (R:It->Hp->Prop),Inv X y8 U H s->b U H R →
  wpAny (model X.prog X.w) X.A (eval a X.env) (λv d=>wpAny (model X.prog X.w) X.A (pyIter v) (tM X y8 U c R) X.xe d) X.xe s
def kr (c:s.heap.get? it=y0 o) (d:o.cls= .type n) (e:o.data= .fields vs)
 (b: ["enumerate", "zip", "dict_itemiterator", "dict_reverseitemiterator", "odict_iterator", "itertools.zip_longest", "itertools.pairwise"].contains n=false) (a:Q () s):wpAny M A (letOwnedTupleGo tg (.ref it) u) Q E s:=by
 unfold letOwnedTupleGo
 cases tg<;>first
  | exact wpAny_pure a
  | (cases u<;>first
      | exact wpAny_pure a
      | (refine wpAny_bind (wpAny_load c ?_)
         rw [d,e]
         show wpAny M A (if (["enumerate", "zip", "dict_itemiterator", "dict_reverseitemiterator", "odict_iterator", "itertools.zip_longest", "itertools.pairwise"].contains n&&vs[0]? ==some (rawInt _))=true then _ else _) Q E s
         rw [if_neg (by intro h;rw [b,Al3]at h;cases h)]
         exact wpAny_pure a))
noncomputable def lO (K:Aa7) (a:Addr):It:=
 ⟨λi H=> ∃xs x,aZ K H a xs/\xs[i]? =y0 x,λi H x H'=>H'=H/\ ∀xs,aZ K H a xs->xs[i]? =y0 x,λi H=> ∃xs,aZ K H a xs/\xs.length<=i⟩
noncomputable def ke (K:Aa7) (a:Addr):It:=
 ⟨λi H=> ∃xs x,bB K H a xs/\xs[i]? =y0 x,λi H x H'=>H'=H/\ ∀xs,bB K H a xs->xs[i]? =y0 x,λi H=> ∃xs,bB K H a xs/\xs.length<=i⟩
def lj (a:Int) (n:Nat):It:=⟨λi _=>i<n,λi H x H'=>H'=H/\x= .int (a+i),λi _=>n<=i⟩
def Ig {K:Aa7}(a it):gI P w K tg (lO K a) [it] it (λi h=>h.IsListIter it a i) where
 mem:=by simp
 obj:=λi h f b j=>by
  have e:=by simpa using j
  subst e
  obtain⟨o,e,c,d⟩:=f
  exact⟨o,e,λv z=>by rw [d]at z;cases z⟩
 keep:=λi h C f k=>f.at λo e=>k it (by simp) o e
 item:=by
  intro X hP t F L i g s U H E I n f J
  subst hP t F
  obtain⟨O,x,m,B⟩:=J
  obtain⟨r,rv,p,S⟩:=I.list m
  obtain⟨u,W,T⟩:=rv.get B
  obtain⟨A,D,N,G,y,q⟩:=n it (by simp)
  refine wpAny_pyNext_list_item f p.isList (by simpa using W) λC l Q=> ?_
  have M:Inv X g U H { s with heap:=C }:=I.turned (λb o j e=>(Q.2 b j).trans e) A D G y q
  obtain⟨o,e,c,d⟩:=id l
  exact⟨u,rfl,kr e c d (by decide) ⟨x,H,M,T,⟨rfl,λZ V=>by rw [I.cU V m];exact B⟩,l,λb j=>(n b j).1⟩⟩
 done:=by
  intro X hP t F L i g s U H E I n f J
  subst hP t F
  obtain⟨O,m,B⟩:=J
  obtain⟨r,rv,p,S⟩:=I.list m
  obtain⟨A,D,N,G,y,q⟩:=n it (by simp)
  have Y:=rv.length
  exact wpAny_pyNext_list_end (I.ok.hd L) f p.isList (by simp;omega) λC R=>⟨rfl,I.turned (λb o j e=>R b o j e) A D G y q⟩
 self:=λ_ _ _ _ _ f h=>wpAny_pyIter_listiter f h
def Dx {K:Aa7}(a it):gI P w K tg (ke K a) [it] it (λi h=>h.IsTupleIter it a i) where
 mem:=by simp
 obj:=λi h f b j=>by
  have e:=by simpa using j
  subst e
  obtain⟨o,e,c,d⟩:=f
  exact⟨o,e,λv z=>by rw [d]at z;cases z⟩
 keep:=λi h C f k=>f.at λo e=>k it (by simp) o e
 item:=by
  intro X hP t F L i g s U H E I n f J
  subst hP t F
  obtain⟨O,x,m,B⟩:=J
  obtain⟨r,rv,p,S⟩:=I.tuple m
  obtain⟨u,W,T⟩:=rv.get B
  obtain⟨A,D,N,G,y,q⟩:=n it (by simp)
  refine wpAny_pyNext_tuple_item f (p) (by simpa using W) λC l Q=> ?_
  have M:Inv X g U H { s with heap:=C }:=I.turned (λb o j e=>(Q.2 b j).trans e) A D G y q
  obtain⟨o,e,c,d⟩:=id l
  exact⟨u,rfl,kr e c d (by decide) ⟨x,H,M,T,⟨rfl,λZ V=>by rw [I.cv V m];exact B⟩,l,λb j=>(n b j).1⟩⟩
 done:=by
  intro X hP t F L i g s U H E I n f J
  subst hP t F
  obtain⟨O,m,B⟩:=J
  obtain⟨r,rv,p,S⟩:=I.tuple m
  obtain⟨A,D,N,G,y,q⟩:=n it (by simp)
  have Y:=rv.length
  exact wpAny_pyNext_tuple_end (I.ok.hd L) f (p) (by simp;omega) λC R=>⟨rfl,I.turned (λb o j e=>R b o j e) A D G y q⟩
 self:=λ_ _ _ _ _ f h=>wpAny_pyIter_tupleiter f h
def Fo {K:Aa7}(it) (lo) (n):gI P w K tg (lj lo n) [it] it (λi h=>IsRangeIter h it (lo+(i:Nat)*1) ((n:Int)-(i:Nat)) 1) where
 mem:=by simp
 obj:=λi h a b d=>by
  have e:=by simpa using d
  subst e
  exact⟨_,a,λv z=>by
   have F:=z
   cases F⟩
 keep:=λi h p a k=>k it (by simp) _ a
 item:=by
  intro X hP y A q i c s U H E I g a u
  subst hP y A
  obtain⟨m,r,D,x,l,j⟩:=g it (by simp)
  have W:=Walks.range (prog:=X.prog) (w:=X.w) (I.ok.hd q) it lo 1 n
  refine W.item i s _ _ u a λv p G L f C=> ?_
  obtain⟨t,rfl⟩:=L
  have B:Inv X c U H { s with heap:=p,toks:=G }:=I.turned (λb o d e=>C b o (by simpa using d) e) m r x l j
  refine⟨_,rfl,kr f rfl rfl (by decide) ⟨.int (lo+i),H,B,⟨t,?_⟩,⟨rfl,rfl⟩,f,λb d=>(g b d).1⟩⟩
  rw [Int.mul_one]
 done:=by
  intro X hP y A q i c s U H E I g a u
  obtain⟨m,r,D,x,l,j⟩:=g it (by simp)
  exact wpAny_pyNext_range_end (I.ok.hd q) a (by have:n<=i:=u;omega) λp J=>⟨rfl,I.turned (λb o d e=>J b o d e) m r x l j⟩
 self:=λ_ _ _ _ _ a h=>wpAny_pyIter_rangeiter a h
section
variable {X:Cx}{tg:Expr}
def j8 {a c:Int}(I:Inv X y8 U H s) (h1: -(2 ^ 62)<=a) (h2:a<2 ^ 62) (h: -(2 ^ 62)<=c) (f:c<2 ^ 62)
 (q:R (lj a (c-a).toNat) H):wpAny (model X.prog X.w) X.A (pyIter (.ref s.heap.objs.size)) (tM X y8 U tg R) E { s with heap:=s.heap.push { cls:= .type "range",data:= .fields #[.int a t,.int c u,.int 1 v] },toks:=tk }:=by
 refine wpAny_pyIter_range (IsRange.new ..) (small_one h1 h2 h f) ?_
 have d:Inv X y8 U H { s with heap:=s.heap.push { cls:= .type "range",data:= .fields #[.int a t,.int c u,.int 1 v] },toks:=tk }:=I.kept fun b o e=>Heap.get?_push_of_some _ e
 refine⟨(s.heap.push { cls:= .type "range",data:= .fields #[.int a t,.int c u,.int 1 v] }).objs.size,[(s.heap.push { cls:= .type "range",data:= .fields #[.int a t,.int c u,.int 1 v] }).objs.size],_,_,H,rfl,
  d.kept λb o e=>Aa2 _ e,Fo _ a (c-a).toNat,?_,λb j=> ?_,q⟩
 ·have g:a+ (0:Nat)*1=a:=by simp
  have i: ((c-a).toNat:Nat)- (0:Nat)=Builtin.Range.rangeSize a c 1:=by rw [rangeSize_one];split<;>omega
  rw [g,i]
  exact Ab6 _ rfl
 ·have e:b=(s.heap.push { cls:= .type "range",data:= .fields #[.int a t,.int c u,.int 1 v] }).objs.size:=by simpa using j
  subst e
  exact d.cP (Aa5 _) (d.aL.fresh (Aa5 _))
def CH (a:TA):TI:=λU H R=>a U H λb H1=> ∃j:Int,b= [.int j]/\ -(2 ^ 62)<=j/\j<2 ^ 62/\R (lj 0 j.toNat) H1
def Hm (a:TA):TI:=λU H R=>a U H λb H1=> ∃i j:Int,b= [.int i,.int j]/\(-(2 ^ 62)<=i/\i<2 ^ 62/\ -(2 ^ 62)<=j/\j<2 ^ 62)/\R (lj i (j-i).toNat) H1
def Hj (n:Gl X "range") (g:X.mg "range" =none) (d:PA X [a] ta) (k:starEach [a] X.env= [(false,eval a X.env)]:=by rfl):PI X tg (.Call (.Name "range" p) [a] [] pos) (CH ta):=by
 intro b s U H R I h
 refine Call_ (qB I n g boot_range (PyProof.Rows.callWith_type1 (aJ (d pos b s U H _ I h) λw o ⟨u,v,f,l,c⟩=> ?_) k rfl))
 obtain⟨j,e,c,i,q⟩:=c
 subst e
 cases l with
 | cons r m=>
  cases m
  obtain⟨t,rfl⟩:=r
  exact call_range_1 (j8 f (by omega) (by omega) c i (by simpa using q))
def CI (y:Gl X "range") (m:X.mg "range" =none) (k:PA X [a,b] ta) (u:starEach [a,b] X.env= [(false,eval a X.env),(false,eval b X.env)]:=by rfl) (d:starEach [b] X.env= [(false,eval b X.env)]:=by rfl):
 PI X tg (.Call (.Name "range" p) [a,b] [] pos) (Hm ta):=by
 intro c s U H R I h
 refine Call_ (qB I y m boot_range (PyProof.Rows.callWith_type1 (aJ (k pos c s U H _ I h) λD z ⟨A,C,l,x,f⟩=> ?_) (by rw [u,d]) (by rw [d];rfl)))
 obtain⟨i,j,e,⟨f,o,v,n⟩,q⟩:=f
 subst e
 cases x with
 | cons r g=>
  cases g with
  | cons w g=>
   cases g
   obtain⟨t,rfl⟩:=r
   obtain⟨B,rfl⟩:=w
   exact call_range_2 (j8 l f o v n q)
def Bk (d:TI) (g:TG) (tb:TS):TS:=λD U H=>d U H λJ H1=> ∃W:Nat->Nat->St->Hp->Prop,(∃ m,W 0 m U H1)/\ ∀i m U H,W i m U H →
 (J.stop i H/\D.nx U H)\/(J.go i H/\ ∃N:St->Hp->Prop,(∀ b H',N b H'-> ∃a,a<m/\W (i+1) a b H')/\ ∀x H',J.eC i H x H'->g x U H' λc H2=>tb { D with nx:=N,ct:=N,bk:=D.nx } c H2)
def WE (a:List Addr) (h:Heap):List (Addr×Obj):=a.filterMap λb=>(h.get? b).map λo=>(b,o)
def Zi (a:b∈fp) (e:h.get? b=y0 o):(b,o)∈WE fp h:=Am9.mpr ⟨b,a,by rw [e];rfl⟩
def jS (a:p∈WE fp h):p.1∈fp/\h.get? p.1=y0 p.2:=by
 obtain⟨b,d,e⟩:=Am9.mp a
 cases q:h.get? b with
 | none=>rw [q]at e;cases e
 | some o=>
  rw [q]at e
  have c:=Ae2.inj e
  subst c
  exact⟨d,q⟩
def Inv.pinned (I:Inv X y8 U H s) (i: ∀b∈fp,eE X y8 H b) (h: ∀b∈fp,∃o,s.heap.get? b=y0 o/\ ∀v,o.data≠ .cell v):Inv X (y8++WE fp s.heap) U H s:=
 I.bz λp g=>(Ae9.mp g).elim (λz=>I.pin p (Ab1 _ z)) λz=>by
  obtain⟨c,e⟩:=jS z
  obtain⟨f,k,j,_⟩:=i p.1 c
  obtain⟨o,a,d⟩:=h p.1 c
  rw [e]at a;cases a
  exact⟨e,f,k,j,d⟩
def Inv.bN (I:Inv X (y8++pl) U H s):Inv X y8 U H s:=I.bz λp a=>I.pin p (Ab1 _ (Ac7 _ a))
def CJ (A:PassesOwn (model X.prog X.w) X.A X.env X.xe) (hc:X.calm=k9) (hi:PI X tg iter wi) (hg:PG X tg g) (k:cG X body tb)
 (hs: ∀x,foldedSetIterable iter X.env x=pure x:=by intro _;rfl):PS X (.For tg iter body [] pos) (Bk wi g tb):=by
 intro a s U H D I h
 refine wpAny_For (aJ (hi a s U H _ I h) λv s1 h1=>aJ h1 λitv s2 h2=> ?_) hs
 obtain⟨it,F,tn,J,H2,e,I2,T,P,V,W,⟨m0,w0⟩,E⟩:=h2
 subst e
 have c: ∀ {t},(∀ b∈F,t b=u0)-> ∀b∈F,eE X a t b:=λhn b k=>⟨hn b k,(V b k).2⟩
 refine codeAny_forLoop_any (λn Y=> ∃i B t,Inv X a B t Y/\tn i Y.heap/\(∀ b∈F,t b=u0)/\W i n B t) ?_ m0 ⟨0,U,H2,I2,P,λb k=>(V b k).1,w0⟩
 rintro n Z ⟨i,G,L,S,C,z,w3⟩
 rcases E i n G L w3 with⟨stop,qn⟩ | ⟨go,N,hN,step⟩
 ·refine wpAny_passesOwn A (aJ (T.done X rfl rfl rfl hc i a Z G L X.xe S (c z) C stop) ?_)
  rintro r s4 ⟨Q,I4⟩
  subst Q
  exact wpAny_execs_nil ⟨G,L,I4,qn⟩
 ·refine wpAny_passesOwn A (aJ (T.item X rfl rfl rfl hc i a Z G L X.xe S (c z) C go) ?_)
  rintro r s4 ⟨u,Q,h4⟩
  subst Q
  refine wpAny_passesOwn A (aJ h4 ?_)
  rintro _ s5 ⟨x,H5,I5,r5,y5,y,R⟩
  have M:=I5.pinned (c R) (T.obj _ _ y)
  refine wpAny_passesOwn A (aJ (hg _ s5 G H5 x u _ M r5 (step x H5 y5)) ?_)
  rintro _ s6 ⟨U6,H6,I6,q6⟩
  refine wpAny_passesOwn A (aJ (k _ s6 U6 H6 _ I6 q6) λf O w=> ?_)
  have p: ∀ {j}{q},Inv X (a++WE F s5.heap) j q O->N j q-> ∃m,m<n/\ ∃i B t,Inv X a B t O/\tn i O.heap/\(∀ b∈F,t b=u0)/\W i m B t:=λ{j q} l K=>by
   obtain⟨m',hm,w7⟩:=hN j q K
   refine⟨m',hm,i+1,j,q,l.bN,T.keep _ _ _ y λb k o e=>(l.pin (b,o) (Ab1 _ (Ab1 _ (Zi k e)))).1,λb k=> ?_,w7⟩
   obtain⟨o,e,d⟩:=T.obj _ _ y b k
   exact(l.pin (b,o) (Ab1 _ (Ab1 _ (Zi k e)))).2.1
  cases f with
  | next=>obtain⟨j,q,l,K⟩:=w;exact p l K
  | cont=>obtain⟨j,q,l,K⟩:=w;exact p l K
  | brk=>obtain⟨j,q,l,w⟩:=w;exact⟨j,q,l.bN,w⟩
  | ret v=>obtain⟨x7,j,q,l,r7,w⟩:=w;exact⟨x7,j,q,l.bN,r7,w⟩
end
abbrev R2:=V->V->Hp->VK->Prop
def bG (X:Cx) (f:Value->Value->Sem Value) (r:R2):Prop:=
 ∀(y8:List (Addr×Obj)) (s:Shared) (U:St) (H:Hp) (x y:V) (v u:Value) (Q:VK),Inv X y8 U H s->RelV x v->RelV y u->r x y H Q →
  wpAny (model X.prog X.w) X.A (f v u) (EP X y8 U Q) X.xe s
def mG (X:Cx) (f:Value->Sem Value) (r:V->Hp->VK->Prop):Prop:=
 ∀(y8:List (Addr×Obj)) (s:Shared) (U:St) (H:Hp) (x:V) (v:Value) (Q:VK),Inv X y8 U H s->RelV x v->r x H Q →
  wpAny (model X.prog X.w) X.A (f v) (EP X y8 U Q) X.xe s
def zm (X:Cx) (f:Value) (r:List V->Hp->VK->Prop):Prop:=
 ∀(y8:List (Addr×Obj)) (s:Shared) (U:St) (H:Hp) (xs:List V) (a:List Value) (Q:VK),Inv X y8 U H s->Vals xs a->r xs H Q →
  wpAny (model X.prog X.w) X.A (call f a) (EP X y8 U Q) X.xe s
def BQ (X:Cx) (r:V->Hp->(Bool->Hp->Prop)->Prop):Prop:=
 ∀(y8:List (Addr×Obj)) (s:Shared) (U:St) (H:Hp) (x:V) (v:Value) (Q:Bool->Hp->Prop),Inv X y8 U H s->RelV x v->r x H Q →
  wpAny (model X.prog X.w) X.A (truthy v) (TP X y8 U Q) X.xe s
def la (r:R2) (a tb:TE):TE:=λU H Q=>a U H λx H1=>tb U H1 λy H2=>r x y H2 Q
def Lv (r:V->Hp->VK->Prop) (a:TE):TE:=λU H Q=>a U H λx H1=>r x H1 Q
def rI (C:Int->Int->Prop) (g:Int->Int->V):R2:=λx y H Q=> ∃i j,x= .int i/\y= .int j/\C i j/\Q (g i j) H
def fT (g:Int->Int->V):R2:=λx y H Q=> ∃i j,x= .int i/\y= .int j/\Q (g i j) H
def rU (g:Int->V):V->Hp->VK->Prop:=λx H Q=> ∃i,x= .int i/\Q (g i) H
section
variable {X:Cx}{a b c:Expr}{ta tb tc:TE}{pos:Pos}
def n8 (c:PE X a ta) (l:PE X b tb){R:V->V->Hp->Prop}(I:Inv X y8 U H s)
 (h:ta U H λx H1=>tb U H1 λy H2=>R x y H2){f:Value->Value->Sem Value}
 (p: ∀v u J x y H2,Inv X y8 U H2 J->RelV x v->RelV y u->R x y H2->wpAny (model X.prog X.w) X.A (f v u) Q X.xe J):
 wpAny (model X.prog X.w) X.A (eval a X.env) (λv i=>wpAny (model X.prog X.w) X.A (eval b X.env) (λu j=>wpAny (model X.prog X.w) X.A (f v u) Q X.xe j) X.xe i) X.xe s:=by
 refine aJ (c y8 s U H _ I h) ?_
 rintro v g ⟨x,H1,d,o,m⟩
 refine aJ (l y8 g U H1 _ d m) ?_
 rintro u J ⟨y,H2,n,e,k⟩
 exact p v u J x y H2 n o e k
def IA (k:bG X (binaryOp op) r) (d:PE X a ta) (j:PE X b tb):PE X (.BinOp a op b pos) (la r ta tb):=by
 intro c s U H Q I h
 exact wpAny_BinOp (n8 d j I h λv u e x y f l g i q=>k c e U f x y v u Q l g i q)
def nM (e:mG X (unaryOp op) r) (c:PE X a ta):PE X (.UnaryOp op a pos) (Lv r ta):=by
 intro b s U H Q I h
 exact UnaryOp_ (aJ (c b s U H _ I h) λv j ⟨x,g,f,i,d⟩=>e b j U g x v Q f i d)
def i5 {g:Int->Int->Int}
 (a: ∀ i j t u s Q E,C i j->Q (.int (g i j) s.toks) { s with toks:=s.toks+1 }->wpAny (model X.prog X.w) X.A (f (.int i t) (.int j u)) Q E s):
 bG X f (rI C λi j=> .int (g i j)):=by
 intro b s U H x y v u Q I c d h
 obtain⟨i,j,rfl,rfl,k,q⟩:=h
 obtain⟨t,rfl⟩:=c
 obtain⟨e,rfl⟩:=d
 exact a i j t e s _ _ k ⟨.int (g i j),H,I.tok _,⟨_,rfl⟩,q⟩
def mw {g:Int->Int->Int}
 (a: ∀ i j t u s Q E,Q (.int (g i j) s.toks) { s with toks:=s.toks+1 }->wpAny (model X.prog X.w) X.A (f (.int i t) (.int j u)) Q E s):
 bG X f (fT λi j=> .int (g i j)):=by
 intro b s U H x y v u Q I c d h
 obtain⟨i,j,rfl,rfl,q⟩:=h
 obtain⟨t,rfl⟩:=c
 obtain⟨e,rfl⟩:=d
 exact a i j t e s _ _ ⟨.int (g i j),H,I.tok _,⟨_,rfl⟩,q⟩
def mV {g:Int->Int->Bool}
 (a: ∀ i j t u s Q E,Q (.bool (g i j)) s->wpAny (model X.prog X.w) X.A (f (.int i t) (.int j u)) Q E s):
 bG X f (fT λi j=> .bl (g i j)):=by
 intro b s U H x y v u Q I c d h
 obtain⟨i,j,rfl,rfl,q⟩:=h
 obtain⟨t,rfl⟩:=c
 obtain⟨e,rfl⟩:=d
 exact a i j t e s _ _ ⟨.bl (g i j),H,I,rfl,q⟩
def vd (i j:Int):Prop:=0<j/\j<1073741824
def pJ (i j:Int):Prop:=0<=j/\j<=1000000/\i.natAbs<2 ^ 64
def iu (i j:Int):Prop:=(-(2 ^ 64)<i/\i<2 ^ 64)\/(-(2 ^ 64)<j/\j<2 ^ 64)
def iu.ok (h:iu i j):IntMulOk i j:=by
 rcases h with⟨a,b⟩ | ⟨a,b⟩
 ·exact .of_left (intBits_le_64 a b)
 ·exact .of_right (intBits_le_64 a b)
def FU (k:Nat):(0:Int)<=2 ^ k:=by
 rw [two_pow_cast]
 exact Int.natCast_nonneg _
def Cr:bG X (binaryOp .Add) (fT λi j=> .int (i+j)):=mw λ_ _ _ _ _ _ _ q=>add_int q
def Mc:bG X (binaryOp .Sub) (fT λi j=> .int (i-j)):=mw λ_ _ _ _ _ _ _ q=>sub_int q
def Hg:bG X (binaryOp .Mult) (rI iu λi j=> .int (i*j)):=i5 λ_ _ _ _ _ _ _ a q=>mul_int q a.ok
def yU:bG X (binaryOp .FloorDiv) (rI vd λi j=> .int (i / j)):=i5 λi j _ _ _ _ _ a q=>by
 have c:=a.1
 have b:=a.2
 exact floordiv_int (by omega) (by rw [Ak9 i (by omega)];exact q) (.inl (PyProof.noPylong_small (by omega)))
def KH:bG X (binaryOp .Mod) (rI (λ_ j=>0<j) λi j=> .int (i % j)):=i5 λi j _ _ _ _ _ a q=>by
 have b:=a
 exact mod_int' (by omega) (by rw [Int.fmod_eq_emod_of_nonneg i (by omega)];exact q)
def EK:bG X (binaryOp .Pow) (rI pJ λi j=> .int (i ^ j.toNat)):=i5 λ_ _ _ _ _ _ _ a q=>pow_int_small a.1 a.2.1 a.2.2 q
def LX:bG X (binaryOp .LShift) (rI pJ λi j=> .int (i*2 ^ j.toNat)):=i5 λ_ _ _ _ _ _ _ a q=>lshift_int_small a.1 a.2.1 a.2.2 q
def D9:bG X (binaryOp .RShift) (rI (λ_ j=>0<=j) λi j=> .int (i / 2 ^ j.toNat)):=i5 λi j _ _ _ _ _ a q=>
 rshift_int a (by rw [Ak9 i (FU _)];exact q)
def Im:bG X (binaryOp .BitAnd) (fT λi j=> .int (Builtin.bitAnd i j)):=mw λ_ _ _ _ _ _ _ q=>and_int q
def D3:bG X (binaryOp .BitOr) (fT λi j=> .int (Builtin.bitOr i j)):=mw λ_ _ _ _ _ _ _ q=>or_int q
def vD {g:Int->Int}
 (a: ∀ i t s Q E,Q (.int (g i) s.toks) { s with toks:=s.toks+1 }->wpAny (model X.prog X.w) X.A (f (.int i t)) Q E s):
 mG X f (rU λi=> .int (g i)):=by
 intro b s U H x v Q I c h
 obtain⟨i,rfl,q⟩:=h
 obtain⟨t,rfl⟩:=c
 exact a i t s _ _ ⟨.int (g i),H,I.tok _,⟨_,rfl⟩,q⟩
def u5:mG X (unaryOp .USub) (rU λi=> .int (-i)):=vD λ_ _ _ _ _ q=>neg_int q
def D7:mG X (unaryOp .Invert) (rU λi=> .int (Builtin.bitNot i)):=vD λ_ _ _ _ _ q=>invert_int q
end
section
variable {X:Cx}{a b c:Expr}{ta tb tc:TE}{pos:Pos}
def yC (I:Inv X y8 U H s) (q:Q (.bl k) H) (e:k=k'):EP X y8 U Q (.bool k') s:=by
 subst e
 exact⟨.bl k,H,I,rfl,q⟩
def Lw:bG X (compareOp .Lt) (fT λi j=> .bl (u9 (i<j))):=mV λ_ _ _ _ _ _ _ q=>lt_int q
def Cu:bG X (compareOp .LtE) (fT λi j=> .bl (u9 (i<=j))):=mV λ_ _ _ _ _ _ _ q=>le_int q
def Lh:bG X (compareOp .Gt) (fT λi j=> .bl (u9 (j<i))):=mV λ_ _ _ _ _ _ _ q=>gt_int q
def ER:bG X (compareOp .GtE) (fT λi j=> .bl (u9 (j<=i))):=mV λ_ _ _ _ _ _ _ q=>ge_int q
def Q5 (l:bG X (compareOp op) r) (d:PE X a ta) (k:PE X b tb) (j:behindInMarks op b=y9):PE X (.Compare a [op] [b] pos) (la r ta tb):=by
 intro c s U H Q I h
 exact wpAny_Compare1 (n8 d k I h λv u e x y f m g i q=>l c e U f x y v u Q m g i q) j
def vN (t:TE):TT:=λU H Q=>t U H λx H'=> ∃k,x= .bl k/\Q k H'
def jZ (w:bG X (compareOp op) r) (f:PE X a ta) (p:PE X b tb) (n:behindInMarks op b=y9):PT X (.Compare a [op] [b] pos) (vN (la r ta tb)):=by
 intro d s U H Q I h
 refine wpAny_isTrue_Compare1 (aJ (f d s U H _ I h) λv l ⟨x,B,g,E,t⟩=>aJ (p d l U B _ g t) λu i ⟨y,m,C,j,o⟩=>
  aJ (w d i U m x y v u _ C E j o) λc G ⟨z,F,D,q,k,e,A⟩=> ?_) n
 subst e
 cases q
 exact wpAny_truthy_bool ⟨F,D,A⟩
def nO (r f:R2) (c tb d:TE):TE:=λU H Q=>c U H λx H1=>tb U H1 λy H2=>r x y H2 λz a=> ∃k,z= .bl k ∧
 (if k=k9 then d U a λe b=>f y e b Q else Q (.bl y9) a)
def Md (L:bG X (compareOp op) r) (g:bG X (compareOp op') r') (n:PE X a ta) (G:PE X b tb) (P:PE X c tc)
 (D:lastMarks [op,op'] [b,c]=false:=by with_unfolding_all rfl):PE X (.Compare a [op,op'] [b,c] pos) (nO r r' ta tb tc):=by
 intro f s U H Q I h
 refine Compare_chain (aJ (n f s U H _ I h) λv A ⟨x,O,o,S,K⟩=>chain_link (aJ (G f A U O _ o K) λu p ⟨y,C,R,i,F⟩=>
  aJ (L f p U C x y v u _ R S i F) λd t ⟨z,m,l,J,k,e,j⟩=> ?_)) D
 subst e
 cases J
 refine wpAny_truthy_bool ?_
 cases k with
 | false=>exact ite_ff ⟨.bl y9,m,l,rfl,j⟩
 | true=>exact ite_tt (chain_last (aJ (P f t U m _ l j) λq T ⟨w,M,B,N,E⟩=>g f T U M y w u q Q B i N E))
def Hb (N:bG X (compareOp op) r) (g:bG X (compareOp op') r') (n:PE X a ta) (K:PE X b tb) (S:PE X c tc)
 (E:lastMarks [op,op'] [b,c]=false:=by with_unfolding_all rfl):PT X (.Compare a [op,op'] [b,c] pos) (vN (nO r r' ta tb tc)):=by
 intro f s U H Q I h
 refine isTrue_chain (aJ (n f s U H _ I h) λv A ⟨x,R,o,Y,M⟩=>test_link (aJ (K f A U R _ o M) λu p ⟨y,C,V,i,G⟩=>
  aJ (N f p U C x y v u _ V Y i G) λd t ⟨z,m,l,L,k,e,j⟩=> ?_)) E
 subst e
 cases L
 refine wpAny_truthy_bool ?_
 cases k with
 | false=>
  obtain⟨k',e',Z⟩:=j
  cases e'
  exact ite_ff ⟨m,l,Z⟩
 | true=>
  refine ite_tt (test_last (aJ (S f t U m _ l j) λq s4 ⟨w,O,B,P,F⟩=>aJ (g f s4 U O y w u q _ B i P F) ?_))
  rintro d' s5 ⟨z2,T,J,D,k2,e2,W⟩
  subst e2
  cases D
  exact wpAny_truthy_bool ⟨T,J,W⟩
def iO (K:Aa7) (x:V) (H:Hp) (k:Bool):Prop:=
 match x with
 | .au=>k=y9
 | .bl b=>k=b
 | .int i=>k=(i != 0)
 | .str y=>y.length<=sizeLine/\k=((y.length:Int) != 0)
 | .il y=>y.size<=sizeLine/\k=((y.size:Int) != 0)
 | .ref p=>(∃ xs,aZ K H p xs/\k= !xs.isEmpty)\/(∃ xs,bB K H p xs/\k= !xs.isEmpty)\/ ∃a,H p=y0 (.dK a)/\k= !a.isEmpty
 | _=>False
def DJ (r:KV kvs vs):(!vs.isEmpty)= !kvs.isEmpty:=by
 cases r<;>rfl
def wJ (r:Vals xs its):(!its.toArray.isEmpty)= !xs.isEmpty:=by
 cases r<;>simp
def JH:(sizeLine:Nat)<2 ^ 63:=by rw [sizeLine_eq];decide
def W6:BQ X (λx H Q=> ∃k,iO X.K x H k/\Q k H):=by
 intro n s U H x v Q I d h
 obtain⟨k,e,q⟩:=h
 have A:=JH
 have B:=sizeLine_eq
 cases x with
 | au=>
  cases d
  have a:=e
  subst a
  exact truthy_none ⟨H,I,q⟩
 | bl b=>
  cases d
  have a:=e
  subst a
  exact wpAny_truthy_bool ⟨H,I,q⟩
 | int i=>
  obtain⟨t,rfl⟩:=d
  have a:=e
  subst a
  exact PySem.P.truthy_int ⟨H,I,q⟩
 | str y=>
  obtain⟨t,rfl⟩:=d
  obtain⟨z,a⟩:y.length<=sizeLine/\k=((y.length:Int) != 0):=e
  subst a
  exact PySem.P.truthy_str (by omega) ⟨H,I.tok _,q⟩
 | il y=>
  obtain⟨t,rfl⟩:=d
  obtain⟨z,a⟩:y.size<=sizeLine/\k=((y.size:Int) != 0):=e
  subst a
  exact PySem.W.truthy_bytes (by omega) ⟨H,I.tok _,q⟩
 | ref p=>
  cases d
  have a:=e
  rcases a with⟨u,f,a⟩ | ⟨u,f,a⟩ | ⟨g,f,a⟩
  ·subst a
   obtain⟨j,r,pl,o⟩:=I.list f
   have c:=r.length
   exact wpAny_truthy_list pl.isList (by simp only [Aa8];omega) ⟨H,I.tok _,by rw [wJ r];exact q⟩
  ·subst a
   obtain⟨j,r,pl,o⟩:=I.tuple f
   have c:=r.length
   exact truthy_tuple pl (by simp only [Aa8];omega) ⟨H,I.tok _,by rw [wJ r];exact q⟩
  ·subst a
   obtain⟨o,w,l,r,m⟩:g.length<=sizeLine/\(p==sysModules)=y9/\ ∃l,KV g l/\s.heap.DictOf (jD X.prog X.w) p l:=I.aL p _ f
   have c:=Paired.length r
   exact wpAny_truthy_dict w m (by omega) ⟨H,I.tok _,by rw [DJ r];exact q⟩
 | _=>exact(e).elim
def Hv (c:PE X a ta) (j: ∀i,isTrue a X.env i=(do let v ←i;standAt a.pos;holding [v] (truthy v))):
 PT X a (λU H Q=>ta U H λx H'=> ∃k,iO X.K x H' k/\Q k H'):=by
 intro b s U H Q I h
 exact isTrue_plain (aJ (c b s U H _ I h) λv e ⟨x,g,d,l,f⟩=>W6 b e U g x v Q d l f) (j _)
def zI (r:Vals [x] us): ∃u,us= [u]/\RelV x u:=by
 cases r with
 | cons b a=>cases a;exact⟨_,rfl,b⟩
def w4 (r:Vals [x,y] us): ∃u i,us= [u,i]/\RelV x u/\RelV y i:=by
 cases r with
 | cons d c=>
  cases c with
  | cons a b=>cases b;exact⟨_,_,rfl,d,a⟩
def Mq (c:X.calm=k9):zm X (.builtin "max") (fun xs H Q=> ∃i j,xs= [.int i,.int j]/\Q (.int (if j>i then j else i)) H):=by
 intro b s U H xs l Q I r h
 obtain⟨i,j,rfl,q⟩:=h
 obtain⟨u,d,rfl,⟨t,rfl⟩,⟨g,rfl⟩⟩:=w4 r
 refine max_two_ints (I.ok.hd c) λf e k=>⟨_,H,I.kept k,?_,q⟩
 by_cases a:j>i
 ·rw [if_pos a,if_pos a];exact⟨_,rfl⟩
 ·rw [if_neg a,if_neg a];exact⟨_,rfl⟩
def E5 (c:X.calm=k9):zm X (.builtin "min") (fun xs H Q=> ∃i j,xs= [.int i,.int j]/\Q (.int (if j<i then j else i)) H):=by
 intro b s U H xs l Q I r h
 obtain⟨i,j,rfl,q⟩:=h
 obtain⟨u,d,rfl,⟨t,rfl⟩,⟨g,rfl⟩⟩:=w4 r
 refine min_two_ints (I.ok.hd c) λf e k=>⟨_,H,I.kept k,?_,q⟩
 by_cases a:j<i
 ·rw [if_pos a,if_pos a];exact⟨_,rfl⟩
 ·rw [if_neg a,if_neg a];exact⟨_,rfl⟩
def xU:zm X (.type "int") (fun xs H Q=>(∃ i,xs= [.int i]/\Q (.int i) H)\/ ∃k,xs= [.bl k]/\Q (.int (if k then 1 else 0)) H):=by
 intro a s U H xs c Q I r h
 rcases h with⟨i,rfl,q⟩ | ⟨k,rfl,q⟩
 ·obtain⟨u,rfl,t,rfl⟩:=zI r
  exact call_int_int ⟨.int i,H,I,⟨_,rfl⟩,q⟩
 ·obtain⟨u,rfl,b⟩:=zI r
  cases b
  exact call_int_bool ⟨.int (if k then 1 else 0),H,I.tok _,⟨_,rfl⟩,q⟩
def X2:zm X (.builtin "divmod") (fun xs H Q=> ∃i j,xs= [.int i,.int j]/\vd i j/\ ∀p,H p=none->Q (.ref p) (aG H p (.tup [.int (i / j),.int (i % j)]))):=by
 intro a s U H xs k Q I r h
 obtain⟨i,j,rfl,⟨f,c⟩,q⟩:=h
 obtain⟨u,d,rfl,⟨t,rfl⟩,⟨g,rfl⟩⟩:=w4 r
 refine divmod_int (by omega) ?_ (.inl (PyProof.noPylong_small (by omega)))
 rw [Ak9 i (by omega),Int.fmod_eq_emod_of_nonneg i (by omega)]
 have hn:H s.heap.objs.size=none:=I.aL.fresh (Aa5 _)
 refine⟨.ref s.heap.objs.size,_,?_,rfl,q _ hn⟩
 refine I.laid (λb o e=>Aa2 _ e) (Aa5 _) ⟨by simp only [Ab8,Ak0];rw [sizeLine_eq];decide,[.int (i / j) s.toks,.int (i % j) (s.toks+1)],.cons ⟨_,rfl⟩ (.cons ⟨_,rfl⟩ .nil),?_⟩
 exact⟨_,Ab6 s.heap rfl,rfl,rfl,0,rfl⟩
end
structure iR (h:Heap) (x dx C:Addr) (mA:Str->Option Value):Prop where
 obj:h.get? x=y0 (An3 C dx)
 ns:h.Ns1 dx mA
 ne:dx≠x
def QU {h:Heap}(n:h.Ns1 dx mA): ∃i,h.get? dx=y0 i/\ ∀name,PySem.W.lookIn name i=y0 (mA name):=by
 obtain⟨o,c,m,j,d,f,_,g⟩:=n
 refine⟨o,j,λname=> ?_⟩
 have e:=g name
 unfold nsFind findBy at e
 rw [← Array.find?_toList]at e
 unfold PySem.W.lookIn
 rw [d]
 dsimp only
 split
 ·rename_i y q
  rw [q]at e
  exact congrArg y0 e
 ·rename_i q
  rw [q]at e
  have a:c.toList.any (·.refKey)=false:=by
   rw [Ag]
   intro y k
   obtain⟨z,t,b⟩:=f y (Array.mem_toList_iff.mp k)
   simp [DictEntry.refKey,b]
  have l: ¬c.toList.any (·.refKey)=true:=by rw [a];exact Ab7
  rw [if_neg l]
  exact congrArg y0 e
def iR.look (I:iR h x dx C mA): ∃i,PySem.W.InstAt h x (An3 C dx) C (y0 i)/\ ∀name,PySem.W.lookIn name i=y0 (mA name):=
 let ⟨i,a,b⟩:=QU I.ns
 ⟨i,⟨I.obj,rfl,rfl,a⟩,b⟩
def dq.some_of (r:dq (y0 v) o): ∃u,o=y0 u/\RelV v u:=by
 cases o with
 | none=>exact(r).elim
 | some u=>exact⟨u,rfl,r⟩
def A0 (r:RelV v u):PySem.W.handedIn u=true:=by
 cases v with
 | au=>cases (r);rfl
 | bl b=>cases (r);rfl
 | int i=>obtain⟨t,e⟩:=(r);cases e;rfl
 | str x=>obtain⟨t,e⟩:=(r);cases e;rfl
 | il b=>obtain⟨t,e⟩:=(r);cases e;rfl
 | hF b=>obtain⟨t,e⟩:=(r);cases e;rfl
 | ref a=>cases (r);rfl
 | ty n=>cases (r);rfl
section
variable {P:Program}{w:World}{H H':Hp}{h h':Heap}{a C dx:Addr}{fs fs':List (Str×V)}
def La (b:cF P w H h) (e:H a=y0 (.ins C dx fs)): ∃mA,iR h a dx C mA/\(∀ f,dq (fs.lookup f) (mA f))/\PySem.Within mA (fs.map (·.1))/\fs.length<=1000/\H dx=y0 (.own a):=by
 obtain⟨d,z,ne,c,mA,n,r,q⟩:=(show aO P w H h a (.ins C dx fs)from b a _ e)
 exact⟨mA,⟨c,n,ne⟩,r,q,z,d⟩
end
structure dH (K:Aa7) (C:Addr):Prop where
 pg:PySem.W.plainGet K C Str.empty=k9
 hd:PySem.W.hasDictIn K C=k9
 po:PySem.W.plainOver K C=k9
 sa:PySem.W.findIn K (.ref C) "__setattr__" =some (some (.builtin "object.__setattr__"))
def dH.get {K:Aa7}(c:dH K C) (f):PySem.W.plainGet K C f=true:=c.pg
def ue (K:Aa7) (C:Addr) (f:Str):Prop:=PySem.W.findIn K (.ref C) f=y0 u0
structure My (K:Aa7) (C:Addr) (f:Str) (v:V) (u:Value):Prop where
 at_:PySem.W.findIn K (.ref C) f=y0 (y0 u)
 rel:RelV v u
 get:PySem.W.specialIn K u "__get__" =some none
 cp:PySem.W.copiedNames.contains f=y9
structure tf (K:Aa7) (C:Addr) (m:Str) (f:Addr):Prop where
 at_:PySem.W.findIn K (.ref C) m=y0 (y0 (.ref f))
 fn:PySem.W.isFn K (.ref f)=k9
 kp:Ag5 K (.ref f)=k9
section
variable {X:Cx}{y8:List (Addr×Obj)}{U:St}{H:Hp}{s:Shared}{a C dx:Addr}{fs:List (Str×V)}{f:Str}{v:V}{A:Around}{E:Value->Shared->Prop}
def C8 (a:attributeBase e f env (eval e env)=eval e env)
 (h:wpAny (model prog w) A (eval e env) (λo i=>wpAny (model prog w) A (getAttr o f k9) Q E i) E s):wpAny (model prog w) A (eval (.Attribute e f pos) env) Q E s:=
 Attribute_any_ h (by rw [arm_eval_Attribute,a])
end
section
variable {X:Cx}{y8:List (Addr×Obj)}{U:St}{H:Hp}{s:Shared}{A:Around}{E:Value->Shared->Prop}{Q:Value->Shared->Prop}{c:Value}{b:Bool}
inductive fh (K:Aa7) (H:Hp):V->Value->Prop where
 | au:fh K H .au (.type "NoneType")
 | bl (x:Bool):fh K H (.bl x) (.type "bool")
 | int (i:Int):fh K H (.int i) (.type "int")
 | str (x:Str):fh K H (.str x) (.type "str")
 | hF (x:UInt64):fh K H (.hF x) (.type "float")
 | lst {a:Addr}{xs:List V}(e:H a=y0 (.lst xs)):fh K H (.ref a) (.type "list")
 | dP {a:Addr}{o:Obj}{xs:List V}(e:H a=y0 (.dP o (.lst xs))):fh K H (.ref a) (.type "list")
 | tup {a:Addr}{xs:List V}(e:H a=y0 (.tup xs)):fh K H (.ref a) (.type "tuple")
 | dK {a:Addr}{kvs:List (dw×V)}(e:H a=y0 (.dK kvs)):fh K H (.ref a) (.type "dict")
 | dT {a:Addr}{kvs:List (List dw×V)}(e:H a=y0 (.dT kvs)):fh K H (.ref a) (.type "dict")
 | ins {a C dx:Addr}{fs:List (Str×V)}(e:H a=some (.ins C dx fs)) (cl:dH K C) (ha:PySem.W.findIn K (.ref C) "__class__" =some (some (.builtin "object.__class__")))
  (hn:PySem.W.specialIn K (.builtin "object.__class__") "__get__" =some (some (.builtin "getset_descriptor.__get__"))) (htk:PySem.W.takesIn K (.builtin "object.__class__")=some true)
  (hm:PySem.W.mroIn K C (.type "object")=some true):fh K H (.ref a) (.ref C)
def zj (I:Inv X y8 U H s) (d:RelV x u) (ty:fh X.K H x t) (e:Am0 X.K t c=y0 b) (h: ∀tk,Q (.bool b) { s with toks:=tk }):
 wpAny (model X.prog X.w) A (call (.builtin "isinstance") [u,c]) Q E s:=by
 cases ty with
 | au=>cases (show u=Value.none from d);exact Ad9 PySem.W.kitx_none I.bH True.intro e (λz=>nomatch z) h
 | bl y=>cases (show u=Value.bool y from d);exact Ad9 PySem.W.kitx_bool I.bH True.intro e (λz=>nomatch z) h
 | int i=>obtain⟨t,q⟩:=(show ∃t,u=Value.int i t from d);cases q;exact Ad9 PySem.W.kitx_int I.bH True.intro e (λz=>nomatch z) h
 | str y=>obtain⟨t,q⟩:=(show ∃t,u=Value.str y t from d);cases q;exact Ad9 PySem.W.kitx_str I.bH True.intro e (λz=>nomatch z) h
 | hF y=>obtain⟨t,q⟩:=(show ∃t,u=Value.float y t from d);cases q;exact Ad9 PySem.W.kitx_float I.bH True.intro e (λz=>nomatch z) h
 | @lst a k f=>
  cases (show u=Value.ref a from d)
  obtain⟨_,_,n,_,g⟩:=(show aO X.prog X.w H s.heap a (.lst k)from I.aL a _ f)
  exact Ad9 Am7 I.bH ⟨_,g,rfl⟩ e (λz=>nomatch z) h
 | @dP a F k f=>
  cases (show u=Value.ref a from d)
  obtain⟨_,_,_,n,_,g⟩:=(show aO X.prog X.w H s.heap a (.dP F (.lst k))from I.aL a _ f)
  exact Ad9 Am7 I.bH ⟨_,g,rfl⟩ e (λz=>nomatch z) h
 | @tup a k f=>
  cases (show u=Value.ref a from d)
  obtain⟨_,_,_,p⟩:=(show aO X.prog X.w H s.heap a (.tup k)from I.aL a _ f)
  obtain⟨o,g,l,_⟩:=p
  exact Ad9 PySem.W.kitx_tuple I.bH ⟨o,g,l⟩ e (λz=>nomatch z) h
 | @dK a j f=>
  cases (show u=Value.ref a from d)
  obtain⟨_,_,M,_,p⟩:=(show aO X.prog X.w H s.heap a (.dK j)from I.aL a _ f)
  obtain⟨o,D,B,g,l,_⟩:=p
  exact Ad9 PySem.W.kitx_dict I.bH ⟨o,g,l.1⟩ e (λz=>nomatch z) h
 | @dT a j f=>
  cases (show u=Value.ref a from d)
  obtain⟨_,_,k,_,o,D,B,g,l,_⟩:=(show aO X.prog X.w H s.heap a (.dT j)from I.aL a _ f)
  exact Ad9 PySem.W.kitx_dict I.bH ⟨o,g,l.1⟩ e (λz=>nomatch z) h
 | @ins a C K fs f r v hn m w=>
  cases (show u=Value.ref a from d)
  obtain⟨G,O,_⟩:=La I.aL f
  obtain⟨L,J,_⟩:=O.look
  exact Ad9 (PySem.W.kitx_own (r.get _) r.hd v hn m w) I.bH J e (λz=>nomatch z) h
end
structure a9 (k:Nat) (A:Around):Prop where
 hd:A.handled=u0
 dp:A.depth+k+5<recursionLimit
 un:A.units+16*k+200<cLine
def a9.mono (r:a9 k A) (h:j<=k):a9 j A:=⟨r.hd,by have:=r.dp;omega,by have:=r.un;omega⟩
theorem a9.deeper (r:a9 (k+1) A) (env):a9 k (A.deeper env):=
 ⟨r.hd,by have:=r.dp;show A.depth+1+k+5<_;omega,by have:=r.un;show A.units+3+16*k+200<_;omega⟩
def Mg {A:Around}:(A.under (.builtin "type.__call__" ⟨.ref C::us,kw⟩)).depth=A.depth+1:=by
 first | rfl | simp [guardIds]
def Fm {A:Around}:(A.under (.builtin "type.__call__" ⟨.ref C::us,kw⟩)).units=A.units+1:=by
 first | rfl | simp [Code.isFrame]
def a9.make (r:a9 (k+1) A) (C) (us) (kw):a9 k (A.under (.builtin "type.__call__" ⟨.ref C::us,kw⟩)):=
 ⟨r.hd,by have:=r.dp;rw [Mg];omega,by have:=r.un;rw [Fm];omega⟩
theorem a9.depth (r:a9 k A):A.depth<recursionLimit:=by have:=r.dp;omega
def rm:TA:=λ_ H Q=>Q [] H
def CF (b:TE) (a:TA):TA:=λU H Q=>b U H λx H1=>a U H1 λxs H2=>Q (x::xs) H2
section
variable {X:Cx}{e:Expr}{es:List Expr}{te:TE}{t:TA}{pos:Pos}
def jg:PA X [] rm:=λ_ _ _ _ H Q I h=>Calls.spliced_nil ⟨[],H,I,.nil,h⟩
def Jb (c:PE X e te) (p:PA X es t) (m:starEach (e::es) X.env=(y9,eval e X.env)::starEach es X.env:=by rfl):PA X (e::es) (CF te t):=by
 intro b a s U H Q I h
 rw [m]
 refine Calls.spliced_cons (aJ (c a s U H _ I h) ?_)
 rintro u g ⟨x,n,d,q,l⟩
 exact aJ (p b a g U n _ d l) λv r ⟨i,j,o,f,k⟩=>⟨x::i,j,o,.cons q f,k⟩
def HN (t:TA):TE:=λU H Q=>t U H λxs H1=>xs.length<=sizeLine/\ ∀p,H1 p=u0->Q (.ref p) (aG H1 p (.tup xs))
def FG (t:TA):TE:=λU H Q=>t U H λxs H1=>xs.length<=sizeLine/\ ∀p,H1 p=u0->Q (.ref p) (aG H1 p (.lst xs))
def r6 {x1}(h:PA X es t):PE X (.Tuple es x1 pos) (HN t):=by
 intro a s U H Q I i
 refine wpAny_Tuple_spliced (aJ (h pos a s U H _ I i) λk d ⟨f,g,c,r,z,q⟩=>⟨by rw [← r.length];exact z,?_⟩)
 have j:=c.aL.fresh (Aa5 _)
 refine⟨.ref d.heap.objs.size,aG g d.heap.objs.size (.tup f),c.laid (λb u e=>Aa2 _ e) (Aa5 _) ?_,rfl,q _ j⟩
 exact⟨z,k,r,⟨_,Ab6 _ rfl,rfl,rfl,_,rfl⟩⟩
def DA (h:PA X es t):PE X (.List es pos) (FG t):=by
 intro a s U H Q I i
 refine wpAny_List_spliced (aJ (h pos a s U H _ I i) λk d ⟨f,g,c,r,z,q⟩=>⟨by rw [← r.length];exact z,?_⟩)
 have j:=c.aL.fresh (Aa5 _)
 refine⟨.ref d.heap.objs.size,aG g d.heap.objs.size (.lst f),c.laid (λb u e=>Aa2 _ e) (Aa5 _) ?_,rfl,q _ j⟩
 exact⟨z,k,0,r,Ab6 _ rfl⟩
end
abbrev Sp:=List V->Hp->VK->XK->Prop
abbrev gQ:=List Env->Hp->Shared->XK->Value->Shared->Prop
structure dX (P:Program) (w:World) (K:Aa7) (mg:Str->Option Value) (base:Heap) (A:Around) (outer:List Env) (s:Shared) (H:Hp):Prop where
 frames:A.frames=y0 outer
 mod:Mod K mg base
 bs: ∀b o,base.get? b=y0 o->s.heap.get? b=y0 o/\H b=u0
 gN:base.objs.size<=s.heap.objs.size
 cH:s.heap.FunFrames base outer
 iq: ∀b∈bE outer,H b=u0
 aL:cF P w H s.heap
 bare:AllBare s.gens
def CE (a:List Env) (P:Program) (w:World) (H:Hp) (s:Shared) (Q:VK) (u:Value) (s':Shared):Prop:=
 ∃v H',s'.os=s.os/\AllBare s'.gens/\Un (bE a) [] H H' s.heap s'.heap/\cF P w H' s'.heap/\RelV v u/\Q v H'
def CR (b:gQ) (a:List Env) (P:Program) (w:World) (H:Hp) (s:Shared) (Q:VK) (E:XK) (r:Result) (s':Shared):Prop:=
 match r with
 | .ok (.ret u)=>CE a P w H s Q u s'
 | .ok _=>False
 | .error e=>b a H s E e s'
structure bg (P:Program) (w:World) (K:Aa7) (mg:Str->Option Value) (base:Heap) (CX:gQ) (k:Nat) (f:Addr) (fd:FuncData) (ps:List Str) (sp:Sp):Prop where
 len: ∀vs H Q E,sp vs H Q E->vs.length=ps.length
 run: ∀(A:Around) (outer:List Env) (s:Shared) (H:Hp) (args:Args) (us:List Value) (vs:List V) (Q:VK) (E:XK),a9 k A->dX P w K mg base A outer s H->BindsTo s fd args (ps.zip us)->Vals vs us->sp vs H Q E →
  codeAny (model P w) A (.call (.ref f) args) (CR CX outer P w H s Q E) s
def dX.make {K:Aa7}(e:dX P w K mg base A outer s H) (C) (us) (kw):
 dX P w K mg base (A.under (.builtin "type.__call__" ⟨.ref C::us,kw⟩)) outer s H:=⟨by first | exact e.frames | (simpa [pushEnvs]using e.frames),e.mod,e.bs,e.gN,e.cH,e.iq,e.aL,e.bare⟩
section
variable {X:Cx}{y8:List (Addr×Obj)}{U:St}{H:Hp}{s s':Shared}
def Inv.iH (I:Inv X y8 U H s):dX X.prog X.w X.K X.mg X.base X.A X.stack s H:=
 ⟨I.ok.frames,I.ok.mod,I.bs,Ac I.ok.gN I.sz,I.stack,I.b9,I.aL,I.bare⟩
def Inv.after (I:Inv X y8 U H s) (h:CE X.stack X.prog X.w H s Q u s'):EP X y8 U Q u s':=by
 obtain⟨v,i,f,a,un,c,r,q⟩:=h
 obtain⟨j,g,d,t,e⟩:=s'
 obtain rfl:e=s.os:=f
 exact⟨v,i,I.call un c a (λb z=>absurd z (by simp)),r,q⟩
end
def yh (c:Sp) (a:List V) (E:XK) (t:TA):TE:=λU H Q=>t U H λb H1=>c (b++a) H1 Q E
def Binds (K:Aa7) (d:FuncData) (b:List Str) (c:List Value):Prop:=
 ∀(s:Shared) (a:List Value),K.In s.heap->(a++c).length=b.length->BindsTo s d ⟨a,[]⟩ (b.zip (a++c))
def Binds.all {K:Aa7}(h: ∀i:List Value,i.length=ps.length->bindArgs fd ⟨i,[]⟩=pure (ps.zip i)):Binds K fd ps []:=λs i _ a=>by
 rw [Ae4]at a ⊢
 exact .of_eq (h i a)
def JU (a:gQ) (X:Cx) (E:XK):Prop:= ∀(y8:List (Addr×Obj)) (U:St) (H:Hp) (s:Shared) (e:Value) (s':Shared),Inv X y8 U H s->a X.stack H s E e s'->X.xe e s'
section
variable {X:Cx}{CX:gQ}{k:Nat}{f C:Addr}{fd:FuncData}{ps:List Str}{sp:Sp}{dvs:List V}{ds:List Value}{E:XK}{x m:Str}{p pos apos:Pos}{e o:Expr}{es:List Expr}{ta:TE}{t:TA}
def tO (F:bg X.prog X.w X.K X.mg X.base CX k f fd ps sp) (j:a9 k X.A) (m:Binds X.K fd ps ds) (i:Vals dvs ds) (g:JU CX X E)
 (I:Inv X y8 U H s) (r:Vals vs us) (h:sp (vs++dvs) H Q E):wpAny (model X.prog X.w) X.A (call (.ref f) us) (EP X y8 U Q) X.xe s:=by
 have b:=r.append i
 have d:(us++ds).length=ps.length:=by rw [← b.length];exact F.len _ _ _ _ h
 refine wpAny_call (codeAny_mono (F.run X.A X.stack s H ⟨us,[]⟩ (us++ds) (vs++dvs) Q E j I.iH (m s us I.bH d) b h) λr c a=> ?_)
 cases r with
 | error e=>exact g y8 U H s e c I a
 | ok l=>
  cases l with
  | ret u=>exact I.after a
  | next=>exact False.elim a
  | brk=>exact False.elim a
  | cont=>exact False.elim a
def IS (F:bg X.prog X.w X.K X.mg X.base CX k f fd ps sp) (o:a9 k X.A) (v:Gl X x) (m:X.mg x=y0 (.ref f)) (j:Ag5 X.K (.ref f)=k9) (n:Binds X.K fd ps ds) (i:Vals dvs ds) (l:JU CX X E)
 (g:PA X (e::es) t) (c:(x==("__debug__" :Str))=false:=by decide) (u:starEach (e::es) X.env=(false,eval e X.env)::starEach es X.env:=by rfl) (b:(backTo pos (starEach es X.env)).any (·.1)=false:=by rfl):
 PE X (.Call (.Name x p) (e::es) [] pos) (yh sp dvs E t):=by
 intro a s U H Q I h
 refine wpAny_Call_Name_kw (wA I v m ?_ c)
 refine PySem.W.callWith_K I.ok.mod.kb j (aJ (g pos a s U H _ I h) λz w ⟨A,y,d,r,q⟩=>⟨d.bH,?_⟩) u b
 exact tO F o n i l d r q
def AD (F:bg X.prog X.w X.K X.mg X.base CX k f fd ps sp) (g:a9 k X.A) (i:Gl X x) (e:X.mg x=y0 (.ref f)) (l:Ag5 X.K (.ref f)=k9) (j:Binds X.K fd ps ds) (d:Vals dvs ds) (c:JU CX X E)
 (a:(x==("__debug__" :Str))=false:=by decide):PE X (.Call (.Name x p) [] [] pos) (yh sp dvs E rm):=by
 intro b s U H Q I h
 refine wpAny_Call_Name_kw (wA I i e ?_ a)
 exact PySem.W.callWith_K0 I.bH l (tO F g j d c I .nil h)
structure Mk (K:Aa7) (C f:Addr):Prop where
 makes:PySem.W.makesIn K C=k9
 init:PySem.W.findIn K (.ref C) "__init__" =some (some (.ref f))
 fn:PySem.W.isFn K (.ref f)=k9
 kp:Ag5 K (.ref C)=k9
end
section
variable {X:Cx}{CX:gQ}{k:Nat}{f C:Addr}{fd:FuncData}{ps ks:List Str}{sp:Sp}{E:XK}{x m:Str}{p pos apos kpos:Pos}{e o:Expr}{es:List Expr}{kws:List Keyword}{te ta:TE}{t tk:TA}{nm:Option Str}
structure MA (K:Aa7) (fd:FuncData) (ps ks:List Str) (g:List Value->List Value->List Value) (gV:List V->List V->List V):Prop where
 to: ∀(s:Shared) (us ws:List Value),K.In s.heap->(g us ws).length=ps.length->BindsTo s fd ⟨us,ks.zip ws⟩ (ps.zip (g us ws))
 rel: ∀ {vs:List V}{us:List Value}{zs:List V}{ws:List Value},Vals vs us->Vals zs ws->Vals (gV vs zs) (g us ws)
variable {g:List Value->List Value->List Value}{gV:List V->List V->List V}
end
structure xA (N P:List Str) (sc:Scope):Prop where
 kind:sc.kind= .function
 co:sc.isCoroutine=y9
 gen:sc.isGenerator=y9
 nd:N.Nodup
 pre:N.take P.length=P
 par: ∀x∈P,sc.names.lookup x=y0 .local\/sc.names.lookup x=y0 .cell
 iG: ∀y∈sc.names,y.2≠ .free
theorem WT {a:Str->Option NameKind}: ∀ {i}{m},(∀ v,(x,v)∉i)->bindL a i m x=m x
 | [],_,_=>rfl
 | (n,v)::r,m,h=>by
  unfold bindL
  rw [WT λw b=>h w (Aa1 _ b)]
  split
  ·have:x≠n:=by rintro rfl;exact h v Aa3
   simp [this]
  ·rfl
theorem qS {a:Str->Option NameKind}: ∀ {i}{m},(∀ v,(x,v)∉i)->bindC a i m x=m x
 | [],_,_=>rfl
 | (n,v)::r,m,h=>by
  unfold bindC
  rw [qS λw b=>h w (Aa1 _ b)]
  split
  ·rfl
  ·have:x≠n:=by rintro rfl;exact h v Aa3
   simp [this]
theorem JX {a:Str->Option NameKind}: ∀ {P:List Str}{j}{i:Nat}{m},P.Nodup->P[i]? =y0 x->j[i]? =y0 v->a x=y0 .local →
 bindL a (P.zip j) m x=y0 v
 | [],_,_,_,_,h,_,_=>by simp at h
 | _::_,[],_,_,_,_,h,_=>by simp at h
 | p::P,w::j,0,m,d,c,b,e=>by
  simp at c b;subst c;subst b
  show bindL a ((p,w)::P.zip j) m p=_
  unfold bindL
  rw [WT λv f=>(Ag1.mp d).1 (List.of_mem_zip f).1,if_pos e]
  simp
 | p::P,w::j,i+1,m,d,c,b,e=>by
  unfold bindL
  exact JX (Ag1.mp d).2 (by simpa using c) (by simpa using b) e
theorem XS {a:Str->Option NameKind}: ∀ {P:List Str}{j}{i:Nat}{m},P.Nodup->P[i]? =y0 x->j[i]? =y0 v->a x≠y0 .local →
 bindC a (P.zip j) m x=y0 v
 | [],_,_,_,_,h,_,_=>by simp at h
 | _::_,[],_,_,_,_,h,_=>by simp at h
 | p::P,w::j,0,m,d,c,b,e=>by
  simp at c b;subst c;subst b
  show bindC a ((p,w)::P.zip j) m p=_
  unfold bindC
  rw [qS λv f=>(Ag1.mp d).1 (List.of_mem_zip f).1,if_neg e]
  simp
 | p::P,w::j,i+1,m,d,c,b,e=>by
  unfold bindC
  exact XS (Ag1.mp d).2 (by simpa using c) (by simpa using b) e
def start (N:List Str) (a:List V):St:=a.map y0++Aa9 (N.length-a.length) u0
noncomputable def wR (CX:gQ) (P:Program) (w:World) (K:Aa7) (mg:Str->Option Value) (base:Heap) (N:List Str) (k7:Str) (scope:Scope) (f:Addr) (cd:Value) (A:Around) (outer:List Env) (s:Shared) (H:Hp) (E:XK):Cx where
 prog:=P
 w:=w
 K:=K
 mg:=mg
 base:=base
 A:=A.deeper (envOfC k7 scope s.heap.objs.size f cd)
 N:=N
 s₀:=s
 H₀:=H
 env:=envOfC k7 scope s.heap.objs.size f cd
 outer:=outer
 stack:=envOfC k7 scope s.heap.objs.size f cd::outer
 ex:= []
 calm:=k9
 fn:=λ_=>k9
 pn:= []
 xe:=λe s'=>wpAny (model P w) (A.deeper (envOfC k7 scope s.heap.objs.size f cd)) (leaving (envOfC k7 scope s.heap.objs.size f cd) e) (λ_ s''=>CX outer H s E e s'') (λe' s''=>CX outer H s E e' s'') s'
def Z7 {a:Scope}(h:a.names.lookup x=y0 .cell): ∃c,(cellsFrom n a.names []).lookup x=y0 c:=by
 have q:=Al5 a.names n [] (.inl h)
 exact Ah.mp q
def Dj {K:Aa7}
 (S:xA N ps scope) (hd:A.handled=u0) (e0:dX P w K mg base A outer s H) (hl:vs.length=ps.length) (r:Vals vs us)
 (x:InCallC s s.heap.objs.size (bindL (envOfC k7 scope s.heap.objs.size f cd).kindOf (ps.zip us) λ_=>u0) (cellsFrom (s.heap.objs.size+1) scope.names []) (bindC (envOfC k7 scope s.heap.objs.size f cd).kindOf (ps.zip us) λ_=>u0) s1):
 Inv (wR CX P w K mg base N k7 scope f cd A outer s H E) [] (start N vs) H s1:=by
 have hpl:ps.length<=N.length:=by have:=congrArg List.length S.pre;rw [Af8]at this;omega
 obtain⟨h1,tk,rfl,hk⟩:=x.done
 have noA: ∀b:Addr,b∉(wR CX P w K mg base N k7 scope f cd A outer s H E).ex:=λb z=>absurd (show b∈([]:List Addr)from z) (by simp)
 refine⟨⟨e0.mod,S.kind,rfl,rfl,Aa5 _,λy z c h1 h2=> ?_,λy hy=> ?_,λy c _ h=> ?_,λ_=>hd,Around.frames_deeper e0.frames,.inr ⟨rfl,rfl⟩,λb z=>absurd z (noA b),e0.bs,e0.gN,λb _ _=>noA b,λb z=>absurd z (noA b),e0.cH,e0.iq⟩,
  rfl,e0.bare,Un.kept hk,⟨_,x.toInCall.ns,λi y v h1 h2 h3=> ?_⟩,λy c h=>⟨_,x.cell y c h⟩,e0.aL.fresh (Aa5 _),λy c h=> ?_,λp hp=>absurd (show p∈([]:List (Addr×Obj))from hp) (by simp),e0.aL.kept hk,?_⟩
 ·exact name_of_addr x.apart (PySem.mem_of_lookup h1) (PySem.mem_of_lookup h2)
 ·have hy:=hy
  rcases hy with hy | hy
  ·exact Z7 hy
  ·exact absurd rfl (S.iG _ (PySem.mem_of_lookup hy))
 ·exact Ah1 (x.above y c (PySem.mem_of_lookup h))
 ·have hi:i<vs.length:=by
   unfold start at h2
   by_cases hi:i<vs.length
   ·exact hi
   ·rw [Af2 (by simpa using hi)]at h2
    rw [Al8]at h2
    split at h2<;>cases h2
  have ha:vs[i]? =y0 v:=by
   unfold start at h2
   rw [Af5 (by simpa using hi),Ac4]at h2
   cases e:vs[i]? with
   | none=>rw [e]at h2;cases h2
   | some a=>rw [e]at h2;cases h2;rfl
  obtain⟨u,hu,rv⟩:=r.get ha
  have hp:ps[i]? =y0 y:=by
   rw [← S.pre,List.getElem?_take_of_lt (by omega)];exact h1
  have ndP:ps.Nodup:=by rw [← S.pre];exact S.nd.sublist (List.take_sublist _ _)
  refine⟨u,rv,?_⟩
  rcases S.par y (Aj8 hp)with k | k
  ·exact .inl ⟨k,JX ndP hp hu k⟩
  ·obtain⟨c,e⟩:=Z7 k
   refine .inr ⟨.inl k,c,e,?_⟩
   have q:=x.cell y c e
   rw [XS ndP hp hu (by show scope.names.lookup y≠_;rw [k];decide)]at q
   exact q
 ·exact e0.aL.fresh (Ah1 (x.above y c (PySem.mem_of_lookup h)))
 ·unfold start
  show _=N.length
  rw [Ab2,Aa,Ae6]
  omega
def DC {K:Aa7}{dV kV doc pm cdv ct oc:Value}
 (lk:K.lookup f=y0 ⟨oc,od,.func (PySem.W.fnOf name k7 params body scope dV kV doc pm an cdv ct),osl⟩) (hcd:PySem.W.codeIn K cdv k7=k9) (S:xA N ps scope)
 (len: ∀vs H Q E,sp vs H Q E->vs.length=ps.length)
 (hbody: ∀ A outer s H vs Q E,a9 k (A.deeper (envOfC k7 scope s.heap.objs.size f cdv))->sp vs H Q E →
   ∃t,cG (wR CX P w K mg base N k7 scope f cdv A outer s H E) body t/\t { nx:=λ_ H'=>Q .au H',rt:=Q } (start N vs) H):
 bg P w K mg base CX (k+1) f (PySem.W.fnOf name k7 params body scope dV kV doc pm an cdv ct) ps sp:=by
 refine⟨len,λA outer s H args us vs Q E hr e0 hb r hsp=> ?_⟩
 have hl:=len _ _ _ _ hsp
 have KX:=e0.mod.kb.keeps λb o e=>(e0.bs b o e).1
 have lim:=e0.mod.nolimit.keeps λb o e=>(e0.bs b o e).1
 have hkind: ∀y∈ps.zip us,scope.names.lookup y.1=y0 .local\/(scope.names.lookup y.1=y0 .cell/\((cellsFrom (s.heap.objs.size+1) scope.names []).lookup y.1).isSome=k9):=by
  rintro ⟨n,v⟩ hy
  rcases S.par n (List.of_mem_zip hy).1 with q | q
  ·exact .inl q
  ·exact .inr ⟨q,Al5 _ _ _ (.inl q)⟩
 refine codeAny_call_function hr.depth (KX _ _ lk) rfl S.co S.gen rfl (PySem.W.codeRec_of KX hcd) (hb _ _ _ _ ?_)
 refine wpAny_newFunctionEnv_cells S.kind hkind λenv he s1 x=> ?_
 subst he
 refine⟨lim.keeps x.toInCall.keep,codeAny_func ?_⟩
 obtain⟨t,ht,hq⟩:=hbody A outer s H vs Q E (hr.deeper _) hsp
 have I:Inv (wR CX P w K mg base N k7 scope f cdv A outer s H E) [] (start N vs) H s1:=Dj S hr.hd e0 hl r x
 refine wpAny_mono (ht [] s1 (start N vs) H _ I hq) (λfl s' hs=> ?_) λe s' hs=>hs
 have fin: ∀ {U'}{H'}{v}{u},Inv (wR CX P w K mg base N k7 scope f cdv A outer s H E) [] U' H' s'->RelV v u->Q v H'->CE outer P w H s Q u s':=
  λ{U' H' v u} J rv q=>⟨v,H',J.os,J.bare,J.base,J.aL,rv,q⟩
 cases fl with
 | ret u=>
  obtain⟨v,U',H',J,rv,q⟩:=hs
  exact fin J rv q
 | next=>
  obtain⟨U',H',J,q⟩:=hs
  exact fin (v:=V.au) J rfl q
 | brk=>
  obtain⟨_,_,_,q⟩:=hs
  exact False.elim q
 | cont=>
  obtain⟨_,_,_,q⟩:=hs
  exact False.elim q
section
variable {X:Cx}{x:Str}{p pos:Pos}{e:Expr}{es:List Expr}{t:TA}{id T:String}{r:List V->Hp->VK->Prop}
def oF (r:List V->Hp->VK->Prop) (t:TA):TE:=λU H Q=>t U H λa H1=>r a H1 Q
def jh (n:zm X (.builtin id) r) (w:Gl X x) (j:X.mg x=none) (u:bootBuiltins x=some (.builtin id)) (d:PA X (e::es) t) (i:x≠ "__name__" :=by decide) (c:(x==("__debug__" :Str))=false:=by decide)
 (o:starEach (e::es) X.env=(y9,eval e X.env)::starEach es X.env:=by rfl) (b:(backTo pos (starEach es X.env)).any (·.1)=false:=by rfl):PE X (.Call (.Name x p) (e::es) [] pos) (oF r t):=by
 intro a s U H Q I h
 refine wpAny_Call_Name_kw (qB I w j u ?_ i c)
 exact PyProof.Rows.callWith_builtin1 (aJ (d pos a s U H _ I h) λv g ⟨l,m,f,q,k⟩=>n a g U m l v Q f q k) o b
def Wv (n:zm X (.type T) r) (w:Gl X x) (j:X.mg x=none) (u:bootBuiltins x=some (.type T)) (d:PA X (e::es) t) (i:x≠ "__name__" :=by decide) (c:(x==("__debug__" :Str))=false:=by decide)
 (o:starEach (e::es) X.env=(y9,eval e X.env)::starEach es X.env:=by rfl) (b:(backTo pos (starEach es X.env)).any (·.1)=false:=by rfl):PE X (.Call (.Name x p) (e::es) [] pos) (oF r t):=by
 intro a s U H Q I h
 refine wpAny_Call_Name_kw (qB I w j u ?_ i c)
 exact PyProof.Rows.callWith_type1 (aJ (d pos a s U H _ I h) λv g ⟨l,m,f,q,k⟩=>n a g U m l v Q f q k) o b
end
end L2
namespace HT
open PySem PyProof.Rows
noncomputable def lexLt:List Int->List Int->Bool
 | [],[]=>y9
 | [],_::_=>k9
 | _::_,[]=>y9
 | x::xs,y::ys=>if x=y then lexLt xs ys else u9 (x<y)
def cS (x y:Int) (xs a:List Int):lexLt (x::xs) (y::a)=if x=y then lexLt xs a else u9 (x<y):=rfl
def ZN:lexLt [] []=false:=rfl
def Et (A:Around) (s:Shared) (a:Int) (t:Tok) (c:Int) (u:Tok): ∃e,SeqAt.EqAt A s (.int a t) (.int c u) e/\(e=k9↔a=c):=
 ⟨(a==c),SeqAt.EqAt.int_int a t c u,by simp⟩
def E4 (A:Around) (s:Shared) (a:Int) (t:Tok) (c:Int) (u:Tok) (prog:Program) (w:World) (E:Value->Shared->Prop) (Q:Value->Shared->Prop) (h:Q (.bool (u9 (a<c))) s):
 wpAny (model prog w) A (richCompare .Lt (.int a t) (.int c u)) Q E s:=
 (PyProof.Rows.lt_int h:wpAny (model prog w) A (compareOp .Lt (.int a t) (.int c u)) Q E s)
section
variable {prog:Program}{w:World}{A:Around}{E:Value->Shared->Prop}{s:Shared}
def gL (u:IsTup s.heap t vs.toArray) (q:IsTup s.heap b ws.toArray) (o:vs≠ [])
 (h1:ws= []->Q (.ref t) s) (h2:ws≠ []->Q (.ref s.heap.objs.size) { s with heap:=s.heap.push { cls:= .type "tuple",data:= .seq (vs++ws).toArray } })
 (hsz:vs.length+ws.length<=sizeLine):wpAny (model prog w) A (binaryOp .Add (.ref t) (.ref b)) Q E s:=by
 obtain⟨⟨J,dd,i,sl⟩,g,r,n,p⟩:=id u
 obtain⟨⟨m,c,k,d⟩,a,j,l,h⟩:=id q
 subst r p j h
 have e:vs.toArray++ws.toArray=(vs++ws).toArray:=by simp
 by_cases f:ws= []
 ·exact concat_meets ⟨_,g,rfl⟩ ⟨_,a,rfl⟩ noFill_tuple_add seq_tuple_add PySem.F.slot_tuple_add PySem.F.entry_tuple_add (PySem.F.args_tuple_add_2 _ _)
   (tuple_addW1 t b vs.toArray ws.toArray n l dd c sl d (by simpa using o) (by simp [f])) ⟨g,a,h1 f⟩
 ·refine concat_meets ⟨_,g,rfl⟩ ⟨_,a,rfl⟩ noFill_tuple_add seq_tuple_add PySem.F.slot_tuple_add PySem.F.entry_tuple_add (PySem.F.args_tuple_add_2 _ _)
   (tuple_addW2 t b vs.toArray ws.toArray n l dd c sl d (by simpa using o) (by simpa using f) (by rw [Aa8,Aa8];exact hsz)) ⟨g,a,?_⟩
  rw [e]
  exact h2 f
def aV (n d:Nat):Option Int->Nat
 | none=>d
 | some v=>if v<0 then(v+(n:Int)).toNat else min v.toNat n
def I0 (n d) (b:d<=n) (o):aV n d o<=n:=by
 cases o with
 | none=>exact b
 | some v=>
  show(if v<0 then(v+ n).toNat else min v.toNat n)<=n
  by_cases a:v<0
  ·rw [if_pos a];omega
  ·rw [if_neg a];exact Nat.min_le_right _ _
def ye (v) (n d:Nat):(if v<0 then max (v+(n:Int)) 0 else min v (n:Int))=((aV n d (y0 v):Nat):Int):=by
 show(if v<0 then max (v+ n) 0 else min v n)=(((if v<0 then(v+(n:Int)).toNat else min v.toNat n):Nat))
 by_cases a:v<0
 ·simp only [if_pos a];omega
 ·simp only [if_neg a];omega
def D8 (a b) (n:Nat):Builtin.Slice.sliceAdjust a b 1 (n:Int)=(((aV n 0 a:Nat):Int),((aV n n b:Nat):Int)):=by
 have c: ¬(1<0):=by omega
 refine Prod.ext ?_ ?_
 ·cases a with
  | none=>rfl
  | some v=>exact ye v n 0
 ·cases b with
  | none=>rfl
  | some v=>exact ye v n n
def Fe (i j:Nat):Builtin.Slice.slicePlaces (i:Int) (j:Int) 1=j-i:=by
 unfold Builtin.Slice.slicePlaces
 have a:(1:Int)>0:=by omega
 simp only [Int.ediv_one]
 split<;>omega
def WI (p:IsPart v o) (h:Q o s):wpAny (model prog w) A (Builtin.Slice.slicePartIndex v) Q E s:=by
 cases p with
 | none=>exact slicePart_none h
 | int i t=>exact slicePart_int h
def bx {a d:Option Int}{Q:Int×Int×Nat->Shared->Prop}(f:s.heap.IsSliceOf sl vl vu .none) (pl:IsPart vl a) (e:IsPart vu d)
 (h:Q (((aV n 0 a:Nat):Int),1,aV n n d-aV n 0 a) s):wpAny (model prog w) A (Builtin.Slice.sliceApplied (.ref sl) (pure (n:Int))) Q E s:=by
 obtain⟨i,c,g,b⟩:=id f
 refine wpAny_bind (wpAny_bind (wpAny_field c b (x:=vl) rfl (wpAny_bind (wpAny_field c b (x:=vu) rfl (wpAny_bind (wpAny_field c b rfl (wpAny_pure ?_)))))))
 refine wpAny_bind (slicePart_none ?_)
 refine wpAny_bind (WI pl (wpAny_bind (WI e (wpAny_bind (wpAny_pure ?_)))))
 show wpAny _ _ (match Builtin.Slice.sliceAdjust a d 1 (n:Int)with | (a,d)=>pure (a,(1:Int),Builtin.Slice.slicePlaces a d 1)) _ _ s
 rw [D8 a d n]
 show wpAny _ _ (pure (((aV n 0 a:Nat):Int),1,Builtin.Slice.slicePlaces ((aV n 0 a:Nat)) ((aV n n d:Nat)) 1)) _ _ s
 rw [Fe]
 exact wpAny_pure h
def LG (xs:Array Value) (i k:Nat):((Aa0 k).filterMap λ(m:Nat)=>xs[((i:Int)+(m:Int)*1).toNat]?).toArray=((xs.toList.drop i).take k).toArray:=by
 have e:(λ(m:Nat)=>xs[(i+(m:Int)*1).toNat]?)=λm=>xs[i+m]? :=by
  funext m
  have:(i+(m:Int)*1).toNat=i+m:=by omega
  rw [this]
 rw [e]
 have:=pick_run xs i k
 rw [List.filterMap_map]at this
 have a:((λx=>xs[x]?)∘λx=>i+x)=λm=>xs[i+m]? :=rfl
 rw [a]at this
 rw [this]
def b7 {b c:Option Int}(d:IsTup s.heap t items) (j:s.heap.IsSliceOf sl vl vu .none) (pl:IsPart vl b) (n:IsPart vu c)
 (l: ¬(aV items.size 0 b=0/\aV items.size items.size c=items.size))
 (h:Q (.ref s.heap.objs.size) { s with heap:=s.heap.push { cls:= .type "tuple",data:= .seq ((items.toList.drop (aV items.size 0 b)).take (aV items.size items.size c-aV items.size 0 b)).toArray } })
 (hsz:items.size<=sizeLine):wpAny (model prog w) A (getItem (.ref t) (.ref sl)) Q E s:=by
 have a:=by
  show((items.toList.drop (aV items.size 0 b)).take (aV items.size items.size c-aV items.size 0 b)).toArray.size<=sizeLine
  rw [Aa8,Af8,Ai4,Am4]
  omega
 have o:aV items.size items.size c<=items.size:=I0 _ _ (Aa5 _) c
 obtain⟨k,g,i,m⟩:=id j
 have e:s.TypeIs (.ref sl) "slice" :=⟨k,g,i⟩
 unfold getItem
 try with_reducible refine wpAny_holding ?_
 first | refine wpAny_bind (wpAny_pure ?_) | skip
 refine wpAny_bind (wpAny_sequenceKey d.typeIs (by decide) ?_)
 refine wpAny_bind (wpAny_callSpecial?_slot d.typeIs PyProof.Rows.slot_tuple_getitem
  (wpAny_call_entry PyProof.Rows.slot_tuple_getitem d.typeIs entry_tuple_getitem ?_ (args_tuple_getitem _ _)))
 show wpAny _ _ (Builtin.Tuple.tupleItemsOf (.ref t) >>= _) _ _ s
 refine wpAny_bind (tupleItemsOf_ d ?_)
 refine wpAny_bind (wpAny_typeOf e ?_)
 rw [if_pos (by decide)]
 refine wpAny_bind (bx j pl n ?_)
 have f: ¬((((aV items.size 0 b:Nat):Int)==0&&(1:Int)==1&&(aV items.size items.size c-aV items.size 0 b)==items.size)=k9):=by
  intro q
  rw [Aa6,Aa6]at q
  have r:=eq_of_beq q.1.1
  have p:=eq_of_beq q.2
  exact l ⟨by omega,by omega⟩
 show wpAny _ _ (if (((aV items.size 0 b:Nat):Int)==0&&(1:Int)==1&&(aV items.size items.size c-aV items.size 0 b)==items.size)=k9 then _ else _) _ _ s
 rw [if_neg f,LG]
 first
  | exact wpAny_bind (wpAny_newObj_type (wpAny_pure ⟨_,rfl,wpAny_pure h⟩) a)
  | exact wpAny_bind (wpAny_newObj_type (wpAny_bind (wpAny_pure (wpAny_pure ⟨_,rfl,wpAny_pure h⟩))) a)
  | exact wpAny_bind (wpAny_bind (wpAny_newObj_type (wpAny_pure (wpAny_pure ⟨_,rfl,wpAny_pure h⟩)) a))
  | exact wpAny_bind (wpAny_bind (wpAny_newObj_type (wpAny_pure ⟨_,rfl,wpAny_pure h⟩) a))
end
end HT
namespace L2
open PySem PySem.Spec PyProof.Rows
abbrev TO:=St->Hp->(Option Int->Hp->Prop)->Prop
def PO (X:Cx) (e:Option Expr) (t:TO):Prop:=
 ∀(y8:List (Addr×Obj)) (s:Shared) (U:St) (H:Hp) (Q:Option Int->Hp->Prop),Inv X y8 U H s->t U H Q →
  wpAny (model X.prog X.w) X.A (evalPart e X.env) (λu s'=> ∃o H',Inv X y8 U H' s'/\IsPart u o/\Q o H') X.xe s
def EA:TO:=λ_ H Q=>Q u0 H
def IK (t:TE):TO:=λU H Q=>t U H λx H1=> ∃i,x= .int i/\Q (y0 i) H1
def jK {b:List Int}: ∀ {a:List Value},Vals (b.map V.int) a->IntsAre a b:=by
 induction b with
 | nil=>intro a r;rw [Ad1]at r;cases r;exact .nil
 | cons n b c=>
  intro a r
  rw [Ab]at r
  cases r with
  | cons f d=>
   obtain⟨t,e⟩:=f
   subst e
   exact .cons n t (c d)
section
variable {X:Cx}{e:Expr}{te:TE}{lo hi:Option Expr}{tl th:TO}{pos p2:Pos}
def yG:PO X u0 EA:=by
 intro a s U H Q I h
 exact wpAny_pure ⟨u0,H,I,.none,h⟩
def wO (h:PE X e te):PO X (y0 e) (IK te):=by
 intro a s U H Q I c
 refine aJ (h a s U H _ I c) ?_
 rintro u j ⟨x,f,b,g,d⟩
 obtain⟨i,rfl,q⟩:=d
 obtain⟨t,rfl⟩:=g
 exact⟨y0 i,f,b,.int i t,q⟩
def gT (X:Cx) (r:V->Option Int->Option Int->Hp->VK->Prop):Prop:=
 ∀(y8:List (Addr×Obj)) (s:Shared) (U:St) (H:Hp) (x:V) (v a b:Value) (lo hi:Option Int) (sl:Addr) (Q:VK),Inv X y8 U H s->RelV x v->s.heap.IsSliceOf sl a b .none->IsPart a lo->IsPart b hi->r x lo hi H Q →
  ∃T id,typeLookup (.type T) "__getitem__" =pure (some (.builtin id))/\s.TypeIs v T/\wpAny (model X.prog X.w) X.A (getItem v (.ref sl)) (EP X y8 U Q) X.xe s
def gT.or (h:gT X r) (h':gT X r'):gT X (λx lo hi H Q=>r x lo hi H Q\/r' x lo hi H Q):=by
 intro a s U H x v b f lo hi sl Q I c e pl d q
 rcases q with q | q
 ·exact h a s U H x v b f lo hi sl Q I c e pl d q
 ·exact h' a s U H x v b f lo hi sl Q I c e pl d q
def D5 (r:V->Option Int->Option Int->Hp->VK->Prop) (c:TE) (b th:TO):TE:=λU H Q=>c U H λx H1=>b U H1 λl H2=>th U H2 λu a=>r x l u a Q
def QQ (C:gT X r) (D:PE X e te) (i:PO X lo tl) (K:PO X hi th):PE X (.Subscript e (.Slice lo hi u0 p2) pos) (D5 r te tl th):=by
 intro a s U H Q I h
 refine Subscript_ (aJ (D a s U H _ I h) ?_)
 rintro v n ⟨x,A,j,F,y⟩
 refine wpAny_Slice (aJ (i a n U A _ j y) λd k ⟨l,p,B,pl,t⟩=>aJ (K a k U p _ B t) ?_)
 rintro f c ⟨u,g,E,w,z⟩
 refine wpAny_pure ?_
 have m:Inv X a U g { c with heap:=c.heap.push { cls:= .type "slice",data:= .fields #[d,f,.none] } }:=E.kept fun b L q=>Heap.get?_push_of_some _ q
 obtain⟨T,id,o,G,J⟩:=C a { c with heap:=c.heap.push { cls:= .type "slice",data:= .fields #[d,f,.none] } } U g x v d f l u c.heap.objs.size Q m F (Heap.IsSliceOf.new ..) pl w z
 exact tail_any G o J (by with_unfolding_all rfl)
noncomputable def kR (xs:List V) (a b:Option Int):List V:=(xs.drop (HT.aV xs.length 0 a)).take (HT.aV xs.length xs.length b-HT.aV xs.length 0 a)
def XE (xs) (lo hi):(kR xs lo hi).length<=xs.length:=by
 unfold kR
 rw [Af8,Ai4]
 omega
def ou (K:Aa7):V->Option Int->Option Int->Hp->VK->Prop:=λx lo hi H Q=> ∃a xs,x= .ref a/\bB K H a xs ∧
 ¬(HT.aV xs.length 0 lo=0/\HT.aV xs.length xs.length hi=xs.length)/\ ∀p,H p=u0->Q (.ref p) (aG H p (.tup (kR xs lo hi)))
def HC:gT X (ou X.K):=by
 intro g s U H x v t w f j sl Q I n p pl o h
 obtain⟨a,d,rfl,m,l,q⟩:=h
 cases n
 obtain⟨e,r,k,i⟩:=I.tuple m
 have c:e.toArray.size=d.length:=by rw [Aa8];exact r.length.symm
 refine⟨"tuple",_,PyProof.Rows.slot_tuple_getitem.lookup,k.typeIs,?_⟩
 refine HT.b7 k p pl o (by rw [c];exact l) ?_ (by rw [c];exact i)
 rw [c]
 refine⟨.ref s.heap.objs.size,_,I.laid (λb u q=>Aa2 _ q) (Aa5 _) ?_,rfl,q _ (I.aL.fresh (Aa5 _))⟩
 exact⟨Ac (XE d f j) i,_,(r.drop (HT.aV d.length 0 f)).take (HT.aV d.length d.length j-HT.aV d.length 0 f),cW.new _ _⟩
def BB (K:Aa7):R2:=λx y H Q=> ∃a b xs ys,x= .ref a/\y= .ref b/\bB K H a xs/\bB K H b ys/\xs≠ []/\xs.length+ys.length<=sizeLine ∧
 (ys= []->Q (.ref a) H)/\(ys≠ []-> ∀p,H p=u0->Q (.ref p) (aG H p (.tup (xs++ys))))
def Vals.dm (r:Vals xs us):us= []↔xs= []:=by
 cases r with
 | nil=>simp
 | cons _ _=>simp
def Bv:bG X (binaryOp .Add) (BB X.K):=by
 intro e s U H x y v u Q I m n h
 obtain⟨a,b,A,B,rfl,rfl,i,p,l,f,r,o⟩:=h
 cases m
 cases n
 obtain⟨j,d,t,_⟩:=I.tuple i
 obtain⟨g,c,k,_⟩:=I.tuple p
 refine HT.gL t k (λz=>l (d.dm.mp z)) (λz=>⟨.ref a,H,I,rfl,r (c.dm.mp z)⟩) (λz=> ?_) (by rw [← d.length,←c.length];exact f)
 refine⟨.ref s.heap.objs.size,_,I.laid (λb C q=>Aa2 _ q) (Aa5 _) ?_,rfl,o (λw=>z (c.dm.mpr w)) _ (I.aL.fresh (Aa5 _))⟩
 exact⟨by rw [Ab2];exact f,_,d.append c,cW.new _ _⟩
end
noncomputable def dM (n:Nat) (i:Int):Option Nat:=if 0<=i then(if i<n then y0 i.toNat else u0)else if -(n:Int)<=i then y0 (i+n).toNat else u0
def aX {a:Type}(xs:List a) (i:Int):Option a:=(dM xs.length i).bind λj=>xs[j]?
def uZ (h:dM n i=y0 j):seqIndex? i n=y0 j/\j<n/\ -(n:Int)<=i/\i<n:=by
 unfold dM at h
 by_cases b:0<=i
 ·rw [if_pos b]at h
  by_cases a:i<n
  ·rw [if_pos a]at h
   have e:=Ae2.inj h
   exact⟨by rw [seqIndex_of b a,e],by omega,by omega,a⟩
  ·rw [if_neg a]at h;cases h
 ·rw [if_neg b]at h
  by_cases a: - n<=i
  ·rw [if_pos a]at h
   have e:=Ae2.inj h
   exact⟨by rw [seqIndex_neg (by omega) a,e],by omega,a,by omega⟩
  ·rw [if_neg a]at h;cases h
def J4 (h:aX xs i=y0 v): ∃j,seqIndex? i xs.length=y0 j/\xs[j]? =y0 v/\j<xs.length/\ -(xs.length:Int)<=i/\i<xs.length:=by
 unfold aX at h
 cases e:dM xs.length i with
 | none=>rw [e]at h;cases h
 | some j=>
  rw [e]at h
  obtain⟨d,a,c,b⟩:=uZ e
  exact⟨j,d,h,a,c,b⟩
def Xh {j:Nat}(h:xs[j]? =y0 v):aX xs (j:Int)=y0 v:=by
 have a:=(Ac0.mp h).1
 have e:dM xs.length j=y0 j:=by
  unfold dM
  rw [if_pos (by omega),if_pos (by omega)];simp
 unfold aX;rw [e];exact h
def sA (b:Expr):Prop:= ∀o i,subscripted b y9 o i=operate [o,i] (getItem o i)
def gs (X:Cx) (r:R2):Prop:=
 ∀(value a:Expr) (y8:List (Addr×Obj)) (s:Shared) (U:St) (H:Hp) (x y:V) (v u:Value) (Q:VK),Inv X y8 U H s->RelV x v->RelV y u->r x y H Q →
  subscripted a y9 v u=operate [v,u] (getItem v u)->wpAny (model X.prog X.w) X.A (subscriptTail value a v u) (EP X y8 U Q) X.xe s
def rQ (X:Cx) (id:String) (r:V->List V->Hp->VK->Prop):Prop:=
 ∀(y8:List (Addr×Obj)) (s:Shared) (U:St) (H:Hp) (x:V) (xs:List V) (v:Value) (a:List Value) (Q:VK),Inv X y8 U H s->RelV x v->Vals xs a->r x xs H Q →
  wpAny (model X.prog X.w) X.A (call (.builtin id) (v::a)) (EP X y8 U Q) X.xe s
section
variable {X:Cx}{a b:Expr}{ta tb:TE}{pos:Pos}
def gs.or (h:gs X r) (h':gs X r'):gs X (λx y H Q=>r x y H Q\/r' x y H Q):=by
 intro b a c s U H x y v u Q I e f q d
 rcases q with q | q
 ·exact h b a c s U H x y v u Q I e f q d
 ·exact h' b a c s U H x y v u Q I e f q d
def ES (m:gs X r) (d:PE X a ta) (j:PE X b tb) (k:sA b):PE X (.Subscript a b pos) (la r ta tb):=by
 intro c s U H Q I h
 exact Subscript_ (n8 d j I h λv u e x y f l g i q=>m a b c e U f x y v u Q l g i q (k _ _))
def sE (K:Aa7):R2:=λx y H Q=> ∃p xs i v,x= .ref p/\y= .int i/\aZ K H p xs/\aX xs i=y0 v/\Q v H
def rF (K:Aa7):R2:=λx y H Q=> ∃p xs i v,x= .ref p/\y= .int i/\bB K H p xs/\aX xs i=y0 v/\Q v H
def uz:R2:=λx y H Q=> ∃z i c,x= .str z/\y= .int i/\z.length<=sizeLine/\aX z.cps.toList i=y0 c/\Q (.str ⟨#[c]⟩) H
def gq:gs X (sE X.K):=by
 intro g e a s U H x y v u Q I A B h l
 obtain⟨p,J,i,z,rfl,rfl,C,D,q⟩:=h
 cases A
 obtain⟨t,rfl⟩:=B
 obtain⟨c,r,pl,K⟩:=I.list C
 obtain⟨j,b,o,G,E,F⟩:=J4 D
 obtain⟨w,m,f⟩:=r.get o
 have n:=r.length
 have hn:=JH
 have fin:EP X a U Q w s:=⟨z,H,I,f,q⟩
 by_cases k:0<=i
 ·have d:=by
   rw [seqIndex_of k F]at b
   exact Ae2.inj b
  exact item_listR pl.isList k (by omega) (by rw [d];simpa using m) fin l
 ·have d:(i+ c.toArray.size).toNat=j:=by
   rw [seqIndex_neg (by omega) E]at b
   rw [Aa8,←n]
   exact Ae2.inj b
  exact subscriptTail_builtinR pl.isList.typeIs slot_list_getitem.lookup
   (wpAny_getItem_list_neg pl.isList (by omega) (by rw [Aa8]<;>omega) (by omega) (by rw [d];simpa using m) ⟨rfl,fin⟩) l
def ah:gs X (rF X.K):=by
 intro d b a s U H x y v u Q I l m h n
 obtain⟨p,D,i,z,rfl,rfl,o,A,q⟩:=h
 cases l
 obtain⟨t,rfl⟩:=m
 obtain⟨g,r,pl,E⟩:=I.tuple o
 obtain⟨j,k,f,C,F,G⟩:=J4 A
 obtain⟨w,B,c⟩:=r.get f
 have e:=r.length
 have hn:=JH
 have fin:EP X a U Q w s:=⟨z,H,I,c,q⟩
 exact subscriptTail_builtinR pl.typeIs slot_tuple_getitem.lookup
  (getItem_tuple pl (by omega) (by omega) (by rw [Aa8,←e];exact k) (by simpa using B) ⟨rfl,fin⟩) n
def Hx:gs X uz:=by
 intro b a d s U H x y v u Q I l m h n
 obtain⟨z,i,c,rfl,rfl,B,o,q⟩:=h
 obtain⟨t,rfl⟩:=l
 obtain⟨C,rfl⟩:=m
 obtain⟨j,e,g,A,p,r⟩:=J4 o
 have f:z.cps.toList.length=z.length:=by simp [Str.length]
 rw [f]at e p r
 have hn:=JH
 exact tail_any (typeIs_str s z t) slot_str_getitem.lookup (getItem_str (by
  have k:u9 (i< -(2 ^ 63:Int))=false:=decide_eq_false (by omega)
  have w:u9 (i>=2 ^ 63)=false:=decide_eq_false (by omega)
  rw [k,w,Bool.or_false]) (by rw [e];simpa using g) ⟨.str ⟨#[c]⟩,H,I.tok _,⟨_,rfl⟩,q⟩) n
def CU (K:Aa7):R2:=λx y H Q=>sE K x y H Q\/rF K x y H Q\/uz x y H Q
def H9:gs X (CU X.K):=gq.or (ah.or Hx)
def AJ (a:List Value) (n j) (u):Obj.mapSeq (·.setIfInBounds j u) { cls:= .type "list",data:= .seq a.toArray n }= { cls:= .type "list",data:= .seq (a.set j u).toArray n }:=by
 simp [Obj.mapSeq]
theorem Inv.lst (I:Inv X y8 U H s) (h:H p=y0 (.lst xs)):
 ∃ i n,Vals xs i/\s.heap.get? p=y0 { cls:= .type "list",data:= .seq i.toArray n }/\xs.length<=sizeLine:=by
 obtain⟨z,i,n,r,e⟩:=I.aL p _ h
 exact⟨i,n,r,e,z⟩
def Inv.iQ {a its':List Value}(I:Inv X y8 U H s) (h:H p=y0 (.lst xs))
 (d:s.heap.get? p=y0 { cls:= .type "list",data:= .seq a.toArray n }) (c:f { cls:= .type "list",data:= .seq a.toArray n }= { cls:= .type "list",data:= .seq its'.toArray n' }) (r:Vals ys its') (g:ys.length<=sizeLine) (t):
 Inv X y8 U (aG H p (.lst ys)) { s with heap:=s.heap.update p f,toks:=t }:=by
 have e:(s.heap.update p f).get? p=y0 { cls:= .type "list",data:= .seq its'.toArray n' }:=by
  rw [Ah8 f d (by rw [c]<;>rfl),c]
 refine I.write (by rw [h];trivial) (.inl rfl) (λb u i q=>(Aj0 _ _ (Ne.symm i)).trans q) ⟨_,e⟩ ?_
 exact⟨g,its',n',r,e⟩
def Bh:V->V->V->Hp->(Hp->Prop)->Prop:=λo i v H Q=> ∃p xs k j,o= .ref p/\i= .int k/\H p=y0 (.lst xs)/\dM xs.length k=y0 j/\Q (aG H p (.lst (xs.set j v)))
def Bl:pk X Bh:=by
 intro f s U H o i v C F u Q I A B rv h
 obtain⟨p,E,k,j,rfl,rfl,m,y,q⟩:=h
 cases A
 obtain⟨t,rfl⟩:=B
 obtain⟨a,n,r,e,z⟩:=I.lst m
 obtain⟨b,D,g,x⟩:=uZ y
 have c:=r.length
 have hn:=JH
 have w:=
  I.iQ m e (AJ a n j u) (r.set rv j) (by rw [Ae0];exact z) s.toks
 by_cases l:0<=k
 ·have d:=by
   rw [seqIndex_of l x]at b
   exact Ae2.inj b
  exact PySem.W.ki_setAt e l (by omega) (by rw [Aa8,←c];exact x) (by rw [d];exact⟨_,w,q⟩)
 ·have d:(k+ a.toArray.size).toNat=j:=by
   rw [seqIndex_neg (by omega) g]at b
   rw [Aa8,←c]
   exact Ae2.inj b
  exact PySem.W.ki_setBack e (by omega) (by rw [Aa8,←c];exact g) (by omega) (by rw [d];exact⟨_,w,q⟩)
def JR (lo hi) (n):(sliceBounds lo hi u0 n).1=((HT.aV n 0 lo:Nat):Int)/\(sliceBounds lo hi u0 n).2.1=((HT.aV n n hi:Nat):Int)/\(sliceBounds lo hi u0 n).2.2=1:=by
 refine⟨?_,?_,rfl⟩
 ·cases lo with
  | none=>simp [sliceBounds,HT.aV]
  | some i=>
   simp only [sliceBounds,HT.aV,Option.getD_none,show(1:Int)>0 by decide,if_true]
   by_cases h:i<0
   ·simp only [h,if_true]<;>omega
   ·simp only [h,if_false]<;>omega
 ·cases hi with
  | none=>simp [sliceBounds,HT.aV]
  | some i=>
   simp only [sliceBounds,HT.aV,Option.getD_none,show(1:Int)>0 by decide,if_true]
   by_cases h:i<0
   ·simp only [h,if_true]<;>omega
   ·simp only [h,if_false]<;>omega
def WP (a:List Value) (lo hi):slicePick a.toArray lo hi u0=((a.drop (HT.aV a.length 0 lo)).take (HT.aV a.length a.length hi-HT.aV a.length 0 lo)).toArray:=by
 obtain⟨c,d,b⟩:=JR lo hi a.toArray.size
 unfold slicePick
 rw [c,d,b]
 simp only [sliceRange_one,pick_run,Aa8]<;>rfl
def nR (K:Aa7):V->Option Int->Option Int->Hp->VK->Prop:=λx lo hi H Q=> ∃a xs,x= .ref a/\aZ K H a xs/\ ∀p,H p=u0->Q (.ref p) (aG H p (.lst (kR xs lo hi)))
def gG:gT X (nR X.K):=by
 intro f s U H x v p u e g sl Q I l n pl m h
 obtain⟨a,d,rfl,k,q⟩:=h
 cases l
 obtain⟨j,r,i,o⟩:=I.list k
 have c:=r.length
 refine⟨"list",_,slot_list_getitem.lookup,i.isList.typeIs,?_⟩
 refine wpAny_getItem_list_slice i.isList n pl m .none (by simp) ?_ (by rw [Aa8]<;>omega)
 rw [WP,←c]
 refine⟨.ref s.heap.objs.size,_,I.laid (λb t q=>Aa2 _ q) (Aa5 _) ?_,rfl,q _ (I.aL.fresh (Aa5 _))⟩
 exact⟨Ac (XE d e g) o,_,0,(r.drop (HT.aV d.length 0 e)).take (HT.aV d.length d.length g-HT.aV d.length 0 e),Ab6 _ rfl⟩
def qI:V->Bool
 | .au=>k9
 | .bl _=>k9
 | .int _=>k9
 | .str _=>k9
 | _=>y9
noncomputable def gH:V->V->Bool
 | .au,.au=>k9
 | .bl a,.bl b=>a==b
 | .bl a,.int b=>(if a then 1 else 0)==b
 | .int a,.bl b=>a==(if b then 1 else 0)
 | .int a,.int b=>a==b
 | .str a,.str b=>a==b
 | _,_=>y9
def DN (e:RelV y u) (c:RelV x v) (f:qI y=k9) (fx:qI x=k9):SeqAt.EqAt A s u v (gH y x):=by
 cases y with
 | au=>
  cases e
  cases x with
  | au=>cases c;exact SeqAt.EqAt.same _
  | bl b=>cases c;exact SeqAt.EqAt.none_bool b
  | int b=>obtain⟨t,rfl⟩:=c;exact SeqAt.EqAt.none_int b t
  | str b=>obtain⟨t,rfl⟩:=c;exact SeqAt.EqAt.none_str b t
  | _=>exact absurd (fx) Ab7
 | bl a=>
  cases e
  cases x with
  | au=>cases c;exact SeqAt.EqAt.bool_none a
  | bl b=>cases c;exact SeqAt.EqAt.bool_bool a b
  | int b=>obtain⟨t,rfl⟩:=c;exact SeqAt.EqAt.bool_int a b t
  | str b=>obtain⟨t,rfl⟩:=c;exact SeqAt.EqAt.bool_str a b t
  | _=>exact absurd (fx) Ab7
 | int a=>
  obtain⟨d,rfl⟩:=e
  cases x with
  | au=>cases c;exact SeqAt.EqAt.int_none a d
  | bl b=>cases c;exact SeqAt.EqAt.int_bool a d b
  | int b=>obtain⟨t,rfl⟩:=c;exact SeqAt.EqAt.int_int a d b t
  | str b=>obtain⟨t,rfl⟩:=c;exact SeqAt.EqAt.int_str a d b t
  | _=>exact absurd (fx) Ab7
 | str a=>
  obtain⟨d,rfl⟩:=e
  cases x with
  | au=>cases c;exact SeqAt.EqAt.str_none a d
  | bl b=>cases c;exact SeqAt.EqAt.str_bool a d b
  | int b=>obtain⟨t,rfl⟩:=c;exact SeqAt.EqAt.str_int a d b t
  | str b=>obtain⟨t,rfl⟩:=c;exact SeqAt.EqAt.str_str a d b t
  | _=>exact absurd (fx) Ab7
 | _=>exact absurd (f) Ab7
def d9 (x:V) (u:Value):Bool:=match u with
 | .none=>gH .au x
 | .bool b=>gH (.bl b) x
 | .int i _=>gH (.int i) x
 | .str z _=>gH (.str z) x
 | _=>y9
def um (r:RelV y u) (f:qI y=k9):d9 x u=gH y x:=by
 cases y with
 | au=>cases r;rfl
 | bl b=>cases r;rfl
 | int i=>obtain⟨t,rfl⟩:=r;rfl
 | str z=>obtain⟨t,rfl⟩:=r;rfl
 | _=>exact absurd (f) Ab7
theorem JE : ∀ {xs}{i},Vals xs i->xs.all qI=k9->i.any (d9 x)=xs.any λy=>gH y x
 | _,_,.nil,_=>rfl
 | y::xs,u::i,.cons r t,f=>by
  rw [Ai1,Aa6]at f
  rw [Af,Af,um r f.1,JE t f.2]
theorem zw (b:RelV x v) (fx:qI x=k9): ∀ {xs}{i},Vals xs i->xs.all qI=k9-> ∀u∈i,SeqAt.EqAt A s u v (d9 x u)
 | _,_,.nil,_=>λu a=>by cases a
 | y::xs,u::i,.cons r t,f=>λc a=>by
  rw [Ai1,Aa6]at f
  rcases Ab9.mp a with rfl | a
  ·rw [um r f.1];exact DN r b f.1 fx
  ·exact zw b fx t f.2 c a
def iE (x:V) (xs:List V):Bool:=xs.any λy=>gH y x
def yO (K:Aa7) (neg:Bool):R2:=λx y H Q=> ∃p xs,y= .ref p/\(aZ K H p xs\/bB K H p xs)/\qI x=k9/\xs.all qI=k9/\Q (.bl (if neg then !iE x xs else iE x xs)) H
def AL:bG X (compareOp .In) (yO X.K y9):=by
 intro d s U H x y v u Q I e f h
 obtain⟨p,i,rfl,b,fx,fs,q⟩:=h
 cases f
 rcases b with b | b
 ·obtain⟨a,r,pl,g⟩:=I.list b
  refine SeqAt.in_listAt (d9 x) pl.isList (λw c=>zw e fx r fs w (by simpa using c)) ⟨.bl _,H,I,rfl,?_⟩
  rw [show a.toArray.any (d9 x)=a.any (d9 x)by simp,JE r fs]
  exact q
 ·obtain⟨a,r,pl,g⟩:=I.tuple b
  refine SeqAt.in_tupleAt (d9 x) pl (λw c=>zw e fx r fs w (by simpa using c)) ⟨.bl _,H,I,rfl,?_⟩
  rw [show a.toArray.any (d9 x)=a.any (d9 x)by simp,JE r fs]
  exact q
def zV:bG X (compareOp .NotIn) (yO X.K k9):=by
 intro d s U H x y v u Q I e f h
 obtain⟨p,i,rfl,b,fx,fs,q⟩:=h
 cases f
 rcases b with b | b
 ·obtain⟨a,r,pl,g⟩:=I.list b
  refine SeqAt.notIn_listAt (d9 x) pl.isList (λw c=>zw e fx r fs w (by simpa using c)) ⟨.bl _,H,I,rfl,?_⟩
  rw [show a.toArray.any (d9 x)=a.any (d9 x)by simp,JE r fs]
  exact q
 ·obtain⟨a,r,pl,g⟩:=I.tuple b
  refine SeqAt.notIn_tupleAt (d9 x) pl (λw c=>zw e fx r fs w (by simpa using c)) ⟨.bl _,H,I,rfl,?_⟩
  rw [show a.toArray.any (d9 x)=a.any (d9 x)by simp,JE r fs]
  exact q
def xW:zm X (.builtin "len") (fun xs H Q=> ∃p ys,xs= [.ref p]/\(aZ X.K H p ys\/bB X.K H p ys)/\Q (.int ys.length) H):=by
 intro e s U H xs i Q I r h
 obtain⟨p,ys,rfl,b,q⟩:=h
 obtain⟨u,rfl,f⟩:=zI r
 cases f
 have hn:=JH
 rcases b with b | b
 ·obtain⟨c,d,pl,g⟩:=I.list b
  have a:=d.length
  exact Calls.call_len_list pl.isList (by simp only [Aa8]<;>omega) ⟨.int ys.length,H,I.tok _,⟨s.toks+1,by rw [Aa8,a]⟩,q⟩
 ·obtain⟨c,d,pl,g⟩:=I.tuple b
  have a:=d.length
  exact len_tuple pl (by simp only [Aa8]<;>omega) ⟨.int ys.length,H,I.tok _,⟨s.toks+1,by rw [Aa8,a]⟩,q⟩
def xY:zm X (.builtin "len") (fun xs H Q=> ∃z,xs= [.str z]/\z.length<=sizeLine/\Q (.int z.length) H):=by
 intro a s U H xs c Q I r h
 obtain⟨z,rfl,b,q⟩:=h
 obtain⟨u,rfl,t,rfl⟩:=zI r
 have hn:=JH
 exact len_str (by omega) ⟨.int z.length,H,I.tok _,⟨_,rfl⟩,q⟩
def qW:zm X (.type "list") (fun xs H Q=> ∃p ys,xs= [.ref p]/\(aZ X.K H p ys\/bB X.K H p ys)/\ ∀l,H l=none->Q (.ref l) (aG H l (.lst ys))):=by
 intro i s U H xs z Q I r h
 obtain⟨p,ys,rfl,m,q⟩:=h
 obtain⟨u,rfl,y⟩:=zI r
 cases y
 have fin: ∀(a:List Value),Vals ys a->ys.length<=sizeLine-> ∀(c:Heap) (d:Nat),(∀ b x,s.heap.get? b=y0 x->c.get? b=y0 x) →
  c.get? s.heap.objs.size=some { cls:= .type "list",dict:=none,data:= .seq a.toArray d,slots:= #[] }->EP X i U Q (.ref s.heap.objs.size) { s with heap:=c }:=fun a f k c d j e=>
  ⟨.ref s.heap.objs.size,_,I.laid (t':=s.toks) j (Aa5 _) (show aO X.prog X.w _ c _ (.lst ys)from⟨k,a,d,f,e⟩),rfl,q _ (I.aL.fresh (Aa5 _))⟩
 rcases m with m | m
 ·obtain⟨a,f,pl,k⟩:=I.list m
  have g:=f.length
  obtain⟨o,v,w,n,t⟩:=pl.isList
  exact call_list_seq p (.inl rfl) v w t (λc d j e=>fin a f k c d j e) (by simp only [Aa8]<;>omega)
 ·obtain⟨a,f,pl,k⟩:=I.tuple m
  have g:=f.length
  obtain⟨o,v,w,n,t⟩:=pl
  exact call_list_seq p (.inr rfl) v w t (λc d j e=>fin a f k c d j e) (by simp only [Aa8]<;>omega)
def Qf:zm X (.type "tuple") (fun xs H Q=> ∃p ys,xs= [.ref p]/\((aZ X.K H p ys/\ ∀l,H l=none->Q (.ref l) (aG H l (.tup ys)))\/(bB X.K H p ys/\Q (.ref p) H))):=by
 intro a s U H xs v Q I r h
 obtain⟨p,ys,rfl,h⟩:=h
 obtain⟨u,rfl,n⟩:=zI r
 cases n
 rcases h with⟨f,q⟩ | ⟨f,q⟩
 ·obtain⟨c,g,pl,k⟩:=I.list f
  have i:=g.length
  refine call_tuple_list pl.isList (λd m=> ?_) (by simp only [Aa8]<;>omega)
  have j:Inv X a U H { s with heap:=d }:=I.kept m
  have t:Inv X a U (aG H d.objs.size (.tup ys)) { s with heap:=d.push { cls:= .type "tuple",data:= .seq c.toArray } }:=
   j.laid (λb o e=>Aa2 _ e) (Aa5 _) (show aO X.prog X.w _ _ _ (.tup ys)from⟨k,c,g,cW.new _ _⟩)
  exact⟨.ref d.objs.size,_,t,rfl,q _ (j.aL.fresh (Aa5 _))⟩
 ·obtain⟨c,g,pl,k⟩:=I.tuple f
  exact call_tuple_same pl ⟨.ref p,H,I,rfl,q⟩
def nF (K:Aa7) (T:String) (x:V) (H:Hp):Prop:=match x with
 | .str _=>T= "str"
 | .int _=>T= "int"
 | .ref p=>(T= "list" /\ ∃xs,aZ K H p xs)\/(T= "tuple" /\ ∃o,K.lookup p=some o/\o.cls= .type "tuple" /\o.dict=none) ∨
  (T= "dict" /\((∃ a,H p=some (.dK a))\/ ∃a,H p=some (.dT a)))\/(T= "set" /\ ∃S n,H p=some (.set S n))
 | _=>False
def vx (I:Inv X y8 U H s) (r:RelV x v) (ty:nF X.K T x H):
 s.TypeIs v T/\ ∀a,v= .ref a-> ∃ob,s.heap.get? a=y0 ob/\ob.dict=none:=by
 cases x with
 | str z=>
  obtain⟨t,rfl⟩:=r
  cases (ty)
  exact⟨typeIs_str s z t,λ_ e=>nomatch e⟩
 | int i=>
  obtain⟨t,rfl⟩:=r
  cases (ty)
  exact⟨typeIs_int s i t,λ_ e=>nomatch e⟩
 | ref p=>
  cases r
  rcases ty with⟨rfl,l,k⟩ | ⟨rfl,o,b,j,d⟩ | ⟨rfl,b⟩ | ⟨rfl,S,n,b⟩
  ·obtain⟨h,_,pl,_⟩:=I.list k
   refine⟨pl.isList.typeIs,λa e=> ?_⟩
   cases e
   obtain⟨o,n,e,c,d,_⟩:=pl
   exact⟨o,e,d⟩
  ·refine⟨⟨o,I.bH p o b,j⟩,λa e=> ?_⟩
   cases e
   exact⟨o,I.bH _ o b,d⟩
  ·have z: ∃o,s.heap.get? p=y0 o/\o.ExactDict:=by
    rcases b with⟨f,b⟩ | ⟨f,b⟩
    ·obtain⟨_,_,_,_,o,_,_,e,ex,_⟩:=I.aL p _ b
     exact⟨o,e,ex⟩
    ·obtain⟨_,_,_,_,o,_,_,e,ex,_⟩:=I.aL p _ b
     exact⟨o,e,ex⟩
   obtain⟨o,e,ex⟩:=z
   refine⟨⟨o,e,ex.1⟩,λa g=> ?_⟩
   cases g
   exact⟨o,e,ex.2.1⟩
  ·obtain⟨o,_,_,_,e,ex,_⟩:=I.aL p _ b
   refine⟨⟨o,e,ex.1⟩,λa g=> ?_⟩
   cases g
   exact⟨o,e,ex.2.1⟩
 | _=>exact False.elim ty
def AV (K:Aa7) (T:String) (r:V->List V->Hp->VK->Prop) (a:TE):TE:=λU H Q=>a U H λx H1=>nF K T x H1/\r x [] H1 Q
def K0 (K:Aa7) (T:String) (r:V->List V->Hp->VK->Prop) (a:TE) (t:TA):TE:=λU H Q=>a U H λx H1=>nF K T x H1/\t U H1 λxs H2=>r x xs H2 Q
variable {o e:Expr}{es:List Expr}{to:TE}{t:TA}{name:Str}{apos u7:Pos}{T id:String}{r:V->List V->Hp->VK->Prop}
def uj (j:PlainAttrs T) (d:Slot T name id) (e:typeOf (.builtin id)=pure (.type "method_descriptor")) (m:rQ X id r) (p:PE X o to)
 (b:attributeBase o name X.env (eval o X.env)=eval o X.env:=by rfl) (c:(apos.endLine==u7.line)=true:=by rfl):PE X (.Call (.Attribute o name apos) [] [] u7) (AV X.K T r to):=by
 intro a s U H Q I h
 refine wpAny_Call_method0_late b c (aJ (p a s U H _ I h) ?_)
 rintro v l ⟨x,q,f,g,ty,n⟩
 obtain⟨k,i⟩:=vx f g ty
 exact⟨T,id,j,d,e,k,i,Calls.callWith_builtin rfl (PySem.evalArgs_none (m a l U q x [] v [] Q f g .nil n))⟩
def nK (p:PlainAttrs T) (f:Slot T name id) (i:typeOf (.builtin id)=pure (.type "method_descriptor")) (z:rQ X id r) (D:PE X o to) (l:PA X (e::es) t)
 (c:attributeBase o name X.env (eval o X.env)=eval o X.env:=by rfl)
 (g:((backTo u7 (starEach (e::es) X.env)).all (λx=> !x.1)&&(backToKw u7 (keywordEach [] X.env)).all (λx=>x.1.isSome)
   &&u9 ((e::es).length+([]:List Keyword).length+(if ([]:List Keyword).isEmpty then 0 else 1)<30))=true:=by rfl)
 (d:(apos.endLine==u7.line)=true:=by rfl) (C:starEach (e::es) X.env=(y9,eval e X.env)::starEach es X.env:=by rfl) (b:(backTo u7 (starEach es X.env)).any (·.1)=false:=by rfl):
 PE X (.Call (.Attribute o name apos) (e::es) [] u7) (K0 X.K T r to t):=by
 intro a s U H Q I h
 refine wpAny_Call_method_late c g d rfl (aJ (D a s U H _ I h) ?_)
 rintro v w ⟨x,E,j,k,ty,B⟩
 obtain⟨q,m⟩:=vx j k ty
 refine⟨T,id,p,f,i,q,m,?_⟩
 have hA:=l u7 a w U E _ j B
 rw [C]at hA ⊢
 refine Calls.callWith_builtin (by show(y9||(backTo u7 (starEach es X.env)).any (·.1))=y9;rw [b]<;>rfl) (Calls.evalArgs_plain ?_)
 exact aJ hA λG n ⟨J,y,F,u,A⟩=>z a n U y x J v G Q F k u A
end
def ik (X:Cx) (id:String) (r:V->List V->Hp->VK->Prop):Prop:=
 ∀(y8:List (Addr×Obj)) (s:Shared) (U:St) (H:Hp) (x:V) (xs:List V) (v:Value) (a:List Value) (Q:VK),Inv X y8 U H s->RelV x v->Vals xs a->r x xs H Q →
  wpAny (model X.prog X.w) X.A (call (.builtin id) (v::a)) (EP X y8 U Q) X.xe s
def Vals.one: ∀ {x}{i},Vals [x] i-> ∃u,i= [u]/\RelV x u
 | _,_,.cons r .nil=>⟨_,rfl,r⟩
def Vals.zero: ∀ {a:List Value},Vals [] a->a= []
 | _,.nil=>rfl
theorem Vals.dropLast {xs:List V}{a:List Value}(h:Vals xs a):Vals xs.dropLast a.dropLast:=by
 induction h with
 | nil=>exact .nil
 | cons r t b=>
  cases t with
  | nil=>exact .nil
  | cons q c=>exact .cons r b
theorem Vals.rep (h:Vals xs us): ∀k:Nat,Vals (Aa9 k xs).flatten (Aa9 k us).flatten
 | 0=> .nil
 | k+1=>by
  exact Vals.append h (Vals.rep h k)
def CA {d:Type}(l:List d):l.eraseIdx (l.length-1)=l.dropLast:=by
 induction l with
 | nil=>rfl
 | cons a r c=>
  cases r with
  | nil=>rfl
  | cons b r=>
   have e:(a::b::r).length-1=((b::r).length-1)+1:=by
    have g:(a::b::r).length=r.length+2:=rfl
    have f:(b::r).length=r.length+1:=rfl
    omega
   rw [e,List.eraseIdx_cons_succ,c]
   all_goals rfl
theorem ZX (its): ∀ k (a:List Value),
 List.foldl (λx1 x2=>x1++x2) a.toArray (Aa9 k its.toArray)=(a++(Aa9 k its).flatten).toArray
 | 0,a=>by simp
 | k+1,a=>by
  have e:a.toArray++its.toArray=(a++its).toArray:=by simp
  have b:(a++its)++(Aa9 k its).flatten=a++(Aa9 (k+1) its).flatten:=by
   rw [Ad2,List.flatten_cons,Ae7]
  rw [← b,←ZX its k (a++its),←e,Ad2,Ag3]
section
variable {X:Cx}{y8:List (Addr×Obj)}{U:St}{H:Hp}{s:Shared}{l b:Addr}{xs ys zs:List V}
def Inv.iS {a its':List Value}(I:Inv X y8 U H s) (b:H l=y0 (.lst xs))
 (e:s.heap.get? l=y0 { cls:= .type "list",data:= .seq a.toArray n }) (d:f a.toArray=its'.toArray) (c:Vals ys its') (g:ys.length<=sizeLine):
 Inv X y8 U (aG H l (.lst ys)) { s with heap:=s.heap.update l (Obj.mapSeq f),toks:=t' }:=by
 have q:=PySem.IsL.update e f
 rw [d]at q
 refine I.write (by rw [b];exact trivial) (.inl rfl) (λj u h i=>(Aj0 s.heap (Obj.mapSeq f) (Ne.symm h)).trans i) ⟨_,q⟩ ?_
 exact⟨g,its',_,c,q⟩
def Inv.kK (I:Inv X y8 U H s) (a:Vals ys its) (b:ys.length<=sizeLine):
 Inv X y8 U (aG H s.heap.objs.size (.lst ys)) { s with heap:=s.heap.push { cls:= .type "list",data:= .seq its.toArray },toks:=t' }:=
 I.laid (λ_ _ q=>Aa2 _ q) (Aa5 _) ⟨b,its,0,a,Ab6 _ rfl⟩
theorem Inv.fresh (I:Inv X y8 U H s):H s.heap.objs.size=none:=I.aL.fresh (Aa5 _)
def Inv.gP (I:Inv X y8 U H s) (a:H l=y0 (.lst xs)):xs.length<=sizeLine/\ ∃ i n,Vals xs i/\xs.length=i.length/\s.heap.get? l=y0 { cls:= .type "list",data:= .seq i.toArray n }:=by
 obtain⟨z,i,n,r,e⟩:=I.aL l _ a
 exact⟨z,i,n,r,r.length,e⟩
def x8 (h:n<=sizeLine):Builtin.List.listTooLong n=false:=by
 exact decide_eq_false (by omega)
end
section
variable {X:Cx}
def Ds:V->List V->Hp->VK->Prop:=λx a H Q=> ∃l xs y,x= .ref l/\a= [y]/\H l=y0 (.lst xs)/\xs.length<sizeLine/\Q .au (aG H l (.lst (xs++ [y])))
def xS:ik X "list.append" Ds:=by
 intro b s U H x m v k Q I d rv h
 obtain⟨l,i,y,rfl,rfl,c,j,q⟩:=h
 cases d
 obtain⟨u,rfl,f⟩:=rv.one
 obtain⟨z,a,n,r,g,e⟩:=I.gP c
 refine call_meets F.slot_list_append ⟨_,e,rfl⟩ F.entry_list_append (F.args_list_append_2 _ _) (PySem.list_append l a.toArray n u (by rw [Aa8];omega)) ⟨e,?_⟩
 refine⟨.au,_,I.iS c e (by simp) (r.append (.cons f .nil)) ?_,rfl,q⟩
 rw [Ab2,Af7]
 omega
def Em:V->List V->Hp->VK->Prop:=λx a H Q=> ∃l b xs zs,x= .ref l/\a= [.ref b]/\H l=y0 (.lst xs)/\H b=y0 (.lst zs)/\xs.length+zs.length<=sizeLine/\Q .au (aG H l (.lst (xs++zs)))
def yV:ik X "list.extend" Em:=by
 intro g s U H x E v D Q I m rv h
 obtain⟨l,b,y,B,rfl,rfl,i,hB,C,q⟩:=h
 cases m
 obtain⟨u,rfl,o⟩:=rv.one
 cases o
 obtain⟨z,c,n,r,w,e⟩:=I.gP i
 obtain⟨A,a,k,j,t,p⟩:=I.gP hB
 have f:c.toArray.size+a.toArray.size<=sizeLine:=by rw [Aa8,Aa8];omega
 have d: ¬(!c.toArray.isEmpty&&Builtin.List.listTooLong (c.toArray.size+a.toArray.size))=true:=by
  rw [x8 f,Bool.and_false]
  exact Ab7
 refine call_meets F.slot_list_extend ⟨_,e,rfl⟩ F.entry_list_extend (F.args_list_extend_2 _ _)
  (AutoSeq1.list_extend_list_list_0 l c.toArray n b a.toArray k d (by rw [Aa8];omega) (by omega)) ⟨e,p,?_⟩
 refine⟨.au,_,I.iS (its':=c++a) i e (by simp) (r.append j) ?_,rfl,q⟩
 rw [Ab2]
 omega
def Iy:V->List V->Hp->VK->Prop:=λx a H Q=> ∃l xs y,x= .ref l/\a= []/\H l=y0 (.lst xs)/\xs[xs.length-1]? =y0 y/\Q y (aG H l (.lst xs.dropLast))
def yq:ik X "list.pop" Iy:=by
 intro d s U H x t v p Q I i rv h
 obtain⟨l,o,y,rfl,rfl,f,k,q⟩:=h
 cases i
 have b:=rv.zero
 subst b
 obtain⟨z,a,n,r,g,e⟩:=I.gP f
 obtain⟨u,m,j⟩:=r.get k
 have c:a.toArray[a.toArray.size-1]? =y0 u:=by
  show a.toArray[a.length-1]? =y0 u
  rw [← Array.getElem?_toList,←g]
  exact m
 refine call_meets F.slot_list_pop ⟨_,e,rfl⟩ F.entry_list_pop (F.args_list_pop_1 _) (MeetsSeq.list_pop_last l a.toArray n u c (by rw [Aa8];omega)) ⟨e,?_⟩
 refine⟨y,_,I.iS (its':=a.dropLast) f e ?_ r.dropLast ?_,j,q⟩
 ·show a.toArray.eraseIdxIfInBounds (a.toArray.size-1)=a.dropLast.toArray
  rw [Aa8,List.eraseIdxIfInBounds_toArray,CA]
 ·rw [List.length_dropLast]
  omega
def EJ (xs:List α) (k):(Aa9 k xs).flatten.length=k*xs.length:=by simp
end
end L2
namespace Att
open PySem PySem.W PySem.Calls PyProof.Rows
def ZG : ∀ i j,WellAll P h j (i.map WData.int)->IntsAre j i:=by
 intro i
 induction i with
 | nil=>
  intro j w
  cases w
  exact .nil
 | cons n i c=>
  intro j w
  cases w with
  | cons a b=>
   cases a
   exact .cons _ _ (c _ b)
def Ln {l:OpenLaw}(s:l.most=y0 n)
 (b:l.row.toRowW.claim.pre args=k9) (j:WellAll P h vals args):
 ∃a J i,vals= [Value.ref a]/\args= [WData.list (i.map WData.int)]/\h.get? a=y0 { cls:= .type "list",data:= .seq J.toArray }/\IntsAre J i/\i.length<=n:=by
 have g:WShape.hasAll [] args [.list .int]=true:=(pre_splitW b).1
 have u:l.pre.holds [] { args:=args }=true:=(pre_splitW b).2
 obtain⟨d,r,rfl,p,m⟩:=hasAllW_cons g
 obtain rfl:=hasAllW_nil m
 obtain⟨y,rfl,o⟩:=hasW_list p
 obtain⟨i,rfl⟩:=items_int o
 have c:i.length<=n:=by
  have f:=by
   have f:=(holds_andW u).1
   rw [s]at f
   exact f
  have k:=condW_of f (w_not (w_lt w_lit (w_len_list (w_arg rfl))))
  refine Nat.le_of_not_lt λq=> ?_
  have w:=by omega
  first
   | (rw [decide_eq_true w]at k;exact absurd k (by decide))
   | (simp at k;omega)
 cases j with
 | cons v x=>
  cases x
  cases v with
  | list t e=>exact⟨_,_,i,rfl,rfl,t,ZG i _ e,c⟩
def DO (l:OpenLaw) (args):l.row.toRowW.claim.post args (.bool k9) args=true:=
 postW_of
  (show WShape.has [] (.bool k9) .bool=k9 by first | rfl | decide | simp [WShape.armsAll])
  (show (WTm.eq .res (.lit (.bool k9))).value [] { args:=args,res:=y0 (.bool k9),after:=args }=y0 (.bool (k9==k9))from w_eq_bool (w_res rfl) w_lit) rfl
def dC {l:OpenLaw}
 (C:l.most=y0 n) (p:d.params.defaults= [])
 (call: ∀ w j i mg S M o pm cd J a L O,
   Ground q loose [] XP w j mg S i.heap->YP w i.heap →
   i.heap.get? M=y0 o->o.data= .func (docDef d.name d.params d.body d.scope pm cd J)->i.heap.CodeRec cd d.name->mg d.name=y0 (.ref M) →
   i.heap.get? a=y0 { cls:= .type "list",data:= .seq L.toArray }->IntsAre L O->O.length<=n->i.gens= #[] →
   codeAny (model l.prog w) callerA (.call (.ref M) ⟨[.ref a],[]⟩) (λr s'=>r= .ok (.ret (.bool k9))/\OldK i.heap s'.heap/\s'.os=i.os/\AllBare s'.gens) i):
 WalkO q loose XP YP l.row.toRowW d [] (λf L=>PySem.call f L):=by
 intro w j i mg S G Y M o pm cd J B kV F z m s k K u v N g t x h D
 obtain rfl:B= .none:=Dflts.none s p
 obtain rfl:kV= .none:=Dflts.noKw s
 obtain⟨a,L,O,rfl,rfl,e,b,c⟩:=Ln C g h
 refine enter_call (codeAny_mono (call w j i mg S M o pm cd J a L O G Y F (fd_plain z) m k e b c K) λr s' H=> ?_)
 obtain⟨rfl,y,A,I⟩:=H
 exact⟨.inl ⟨.bool k9,.bool k9,[],rfl,λ_=>rfl,.bool k9,DO l _,λ_=>⟨List.Pairwise.nil,λ_ E=>(nomatch E)⟩⟩,y,A,I⟩
end Att
namespace L2
open PySem PySem.Spec PyProof.Rows
theorem ZS: ∀ {i}{j},IntsAre i j->Vals (j.map V.int) i
 | _,_,.nil=> .nil
 | _,_,.cons n t h=> .cons ⟨t,rfl⟩ (ZS h)
def nq (H:Hp):Prop:= ∀b,H b=u0\/ ∃o xs,H b=y0 (.dP o (.lst xs))
def HI {K:Aa7}
 (U:K.In s₁.heap) (B:s₁.heap.Ns mainGlobals mg) (c:s₁.heap.Ns builtinsNs mb) (L: ∀x:Str,x≠ "__name__" ->mb x=bootBuiltins x) (C:s₁.heap.NoLimit) (hg:s₁.gens= #[])
 (D:s₁.heap.get? a=y0 { cls:= .type "list",data:= .seq vs.toArray }) (S:IntsAre vs ns) (Q:ns.length<=sizeLine) (hr:a9 k callerA)
 (F: ∀base:Heap,K.In base->base.Ns mainGlobals mg->bg P w K mg base CX k fa fd [x] sp) (i: ∀ s u,BindsTo s fd ⟨[u],[]⟩ [(x,u)])
 (I: ∀H:Hp,nq H->aZ K H a (ns.map V.int)->sp [.ref a] H (λv _=>v= .bl k9) λ_ _ _=>False)
 (M: ∀H e s',CX [] H s₁ (λ_ _ _=>False) e s'->False):
 codeAny (model P w) callerA (.call (.ref fa) ⟨[.ref a],[]⟩) (λr s'=>r= .ok (.ret (.bool k9))/\OldK s₁.heap s'.heap/\s'.os=s₁.os/\AllBare s'.gens) s₁:=by
 have rv:=ZS S
 have A:=S.length
 have g: ∀H:Hp,nq H->aZ K H a (ns.map V.int)->cF P w H s₁.heap->(∀ b,H b≠u0->b=a)->(H a≠u0->K.lookup a=u0) →
  codeAny (model P w) callerA (.call (.ref fa) ⟨[.ref a],[]⟩) (λr s'=>r= .ok (.ret (.bool k9))/\OldK s₁.heap s'.heap/\s'.os=s₁.os/\AllBare s'.gens) s₁:=by
  intro H T hS y hA hK
  have bS: ∀ {b}{o},s₁.heap.get? b=y0 o->H b=u0->(gj s₁.heap H).get? b=y0 o:=λe n=>Iz e n
  have O: ∀ {b}{o}{G}{E},s₁.heap.get? b=y0 o->o.data= .dict G E->H b=none:=λ{b o G E} e d=>by
   cases q:H b with
   | none=>rfl
   | some u=>
    have N:=hA b (by rw [q];simp)
    subst N
    rw [D]at e;cases e
    have Y:=d
    cases Y
  have f: ∀ {b}{m},s₁.heap.Ns b m->(gj s₁.heap H).Ns b m:=λ{b m} ⟨o,G,E,e,d,r⟩=>⟨o,G,E,bS e (O e d),d,r⟩
  have j:K.In (gj s₁.heap H):=λb o e=>bS (U b o e) (by
   cases q:H b with
   | none=>rfl
   | some u=>
    have N:b=a:=hA b (by rw [q];simp)
    subst N
    rw [hK (by rw [q];simp)]at e;cases e)
  have hM:Mod K mg (gj s₁.heap H):=⟨j,f B,⟨mb,f c,L⟩,let ⟨Z,h1,X⟩:=C; ⟨Z,f h1,X⟩⟩
  have e0:dX P w K mg (gj s₁.heap H) callerA [] s₁ H:=⟨rfl,hM,λb o e=>BL e,Nat.le_of_eq (LV _ _),trivial,λb c=>absurd (show b∈([]:List Addr)from c) (by simp),y,.of_eq hg⟩
  refine codeAny_mono ((F _ j (f B)).run callerA [] s₁ H ⟨[.ref a],[]⟩ [.ref a] [.ref a] _ _ hr e0 (i s₁ (.ref a)) (.cons rfl .nil) (I H T hS)) λr s' h=> ?_
  cases r with
  | error e=>exact(M H e s' h).elim
  | ok fl=>
   cases fl with
   | next=>exact False.elim h
   | brk=>exact False.elim h
   | cont=>exact False.elim h
   | ret u=>
    obtain⟨v,H',W,t,un,l,r',q⟩:=h
    have q':v= .bl true:=q
    subst q'
    obtain rfl:u=Value.bool true:=r'
    refine⟨rfl,OldK.of_keep λb o e=> ?_,W,t⟩
    cases q:H b with
    | none=>exact un.keep b o e q (by intro z;exact absurd (show b∈([]:List Addr)from z) (by simp)) (by simp)
    | some u=>
     rcases T b with z | ⟨ob,xs,z⟩
     ·rw [q]at z;cases z
     ·have z2:=un.cg b ob _ z
      obtain⟨R,_⟩:=y b _ z
      obtain⟨e2,_⟩:=l b _ z2
      rw [e]at R;cases R
      exact e2
 cases J:K.lookup a with
 | some o=>
  have e:=U a o J
  rw [D]at e
  cases e
  refine g (λ_=>u0) (λ_=> .inl rfl) (.inr ⟨_,vs.toArray,_,J,rfl,rfl,rfl,by rw [Aa8,A];exact Q,by simpa using rv⟩) (λb u z=>by have p:(none:Option HO)=y0 u:=z;cases p) (λb z=>absurd rfl z) λz=>absurd rfl z
 | none=>
  refine g (fun b=>if b=a then some (.dP { cls:= .type "list",data:= .seq vs.toArray } (.lst (ns.map V.int)))else none) (fun b=> ?_) (.inl (.inr ⟨{ cls:= .type "list",data:= .seq vs.toArray },if_pos rfl⟩)) (fun b u z=> ?_) (fun b z=> ?_) fun _=>J
  ·by_cases c:b=a
   ·exact .inr ⟨_,_,if_pos c⟩
   ·exact .inl (if_neg c)
  ·by_cases c:b=a
   ·have p:=(if_pos c).symm.trans z
    cases p
    subst c
    exact⟨D,by rw [Aa];exact Q,vs,_,rv,D⟩
   ·have p:=(if_neg c).symm.trans z
    cases p
  ·by_cases c:b=a
   ·exact c
   ·exact absurd (if_neg c) z
abbrev Mr {K:Aa7}{h:Heap}(_:K.In h):Aa7:=K
def gk {l:PySem.W.OpenLaw}{K:Params->Aa7}{z:World->gQ}{C:World->Sp}
 (E:l.most=y0 n) (y:n<=sizeLine) (p:d.params.defaults= []) (O:a9 k callerA)
 (M: ∀ w h,YP w h->(K w.params).In h)
 (F: ∀ w mg J h,(K w.params).In h->h.Ns mainGlobals mg->mg d.name=y0 (.ref J) →
   ∃fd:FuncData,(∀ s u,BindsTo s fd ⟨[u],[]⟩ [(x,u)]) ∧
    ∀base:Heap,(K w.params).In base->base.Ns mainGlobals mg->bg l.prog w (K w.params) mg base (z w) k J fd [x] (C w))
 (m: ∀ w H a (j:List Int),j.length<=n->nq H->aZ (K w.params) H a (j.map V.int)->C w [.ref a] H (λv _=>v= .bl k9) λ_ _ _=>False)
 (r: ∀ w H s e s',z w [] H s (λ_ _ _=>False) e s'->False):
 PySem.W.WalkO q loose XP YP l.row.toRowW d [] (λf L=>PySem.call f L):=by
 refine Att.dC E p λw A g mg W J o pm cd D a L j G Y U T Q t i c b S=> ?_
 have B:=M w _ Y
 obtain⟨fd,N,R⟩:=F w mg J _ B G.T.g t
 exact HI B G.T.g G.T.b G.T.builtins G.T.nolimit S i c (Ac b y) O R N (λH P I=>m w H a j b P I) λH e s'=>r w H g e s'
noncomputable def F4 (s:Stmt):Arguments:=match s with
 | .FunctionDef _ a _ _ _ _ _ _ _ _=>a
 | _=> { posonlyargs:= [],args:= [],vararg:=u0,kwonlyargs:= [],kw_defaults:= [],kwarg:=u0,defaults:= [] }
def wH (s:Stmt):List Stmt:=match s with
 | .FunctionDef _ _ b _ _ _ _ _ _ _=>b
 | _=> []
noncomputable def xk (s:Stmt):Scope:=match s with
 | .FunctionDef _ _ _ _ _ _ a _ _ _=>a
 | _=> { kind:= .function,names:= [],isGenerator:=y9,isCoroutine:=y9 }
abbrev lF:gQ:=λ_ _ _ _ _ _=>False
abbrev E0:XK:=λ_ _ _=>False
structure iC (K:Aa7) (x k7:Str) (st:Stmt) (f:Addr) (fd:FuncData):Prop where
 ex: ∃(oc:Value) (od:Option Addr) (kV doc pm:Value) (an:Option Addr) (cdv ct:Value) (osl:Array (Option Value)),
  fd=PySem.W.fnOf x k7 (F4 st) (wH st) (xk st) .none kV doc pm an cdv ct/\K.lookup f=y0 ⟨oc,od,.func fd,osl⟩/\PySem.W.codeIn K cdv k7=k9
 kp:Ag5 K (.ref f)=k9
def jm (h:n<=1000):n<sizeLine:=An1 h (by decide)
section
variable {X:Cx}
def pv (i)(c:X.N[i]? =some x:=by rfl) (b:iF X.env.scope x:=by first | exact Or.inl rfl | exact Or.inr (Or.inl rfl) | exact Or.inr (Or.inr rfl)) (d:(x==("__debug__" :Str))=false:=by decide)
 (a:(x==("__classdict__" :Str))=false:=by decide):PE X (.Name x pos) (mz i):=xm c b d a
end
def mY {A B:Prop}(h:B):if y9=k9 then A else B:=by
 exact h
def nc {A B:Prop}(h:A):if k9=k9 then A else B:=by
 exact h
end L2
set_option maxHeartbeats 4000000
namespace L2
open PySem PySem.Spec PyProof.Rows
noncomputable def ze (env:Env) (a:List (Str×Addr)) (y:Str×NameKind):List (Str×Addr):=
 if y.2== .free then(match env.cells.lookup y.1 with | some c=>(y.1,c)::a | none=>a)else a
def QI (a:Scope) (env:Env):List (Str×Addr):=a.names.foldl (ze env) []
theorem uY : ∀(a:List (Str×NameKind)) i,(∀ y∈a,y.2= .free-> ∃c,env.cells.lookup y.1=y0 c) →
 (do
   let mut j:=i
   for (name,kind) in a do
    if kind== .free then j:=(name,←cellOf env name)::j
   return j:Sem (List (Str×Addr)))=pure (a.foldl (ze env) i)
 | [],i,_=>by simp
 | (n,k)::r,i,h=>by
  have f:=λj=>uY r j λy g=>h y (Aa1 _ g)
  by_cases d:k= .free
  ·subst d
   obtain⟨c,b⟩:=h (n,.free) Aa3 rfl
   have b:=b
   have e:ze env i (n,.free)=(n,c)::i:=by
    show(if (NameKind.free==NameKind.free)=k9 then(match env.cells.lookup n with | some c=>(n,c)::i | none=>i)else i)=_
    rw [if_pos (show (NameKind.free==NameKind.free)=k9 from rfl),b]
   rw [Ag3,e,←f]
   simp [cellOf,b]
  ·have l:(k==NameKind.free)=false:=by simpa using d
   have e:ze env i (n,k)=i:=by
    show(if (k==NameKind.free)=k9 then _ else i)=_
    rw [l,if_neg Ab7]
   rw [Ag3,e,←f]
   simp [d]
def qO (h: ∀y∈scope.names,y.2= .free-> ∃c,env.cells.lookup y.1=y0 c):closureFor scope env=pure (QI scope env):=
 uY scope.names [] h
theorem QE : ∀(a:List (Str×NameKind)) i,(∀ x c,i.lookup x=y0 c->env.cells.lookup x=y0 c)-> ∀x c,(a.foldl (ze env) i).lookup x=y0 c->env.cells.lookup x=y0 c
 | [],_,h=>h
 | (n,k)::r,i,h=>by
  refine QE r (ze env i (n,k)) λx c e=> ?_
  unfold ze at e
  split at e
  ·split at e
   ·rename_i f b
    rw [Ac3]at e
    cases d:x==n with
    | true=>
     rw [d]at e
     have:x=n:=by simpa using d
     subst this
     cases e
     exact b
    | false=>rw [d]at e;exact h x c e
   ·exact h x c e
  ·exact h x c e
theorem ZT (b:env.cells.lookup x=y0 c): ∀(a:List (Str×NameKind)) j,((x,.free)∈a\/ ∃i,j.lookup x=y0 i)-> ∃i,(a.foldl (ze env) j).lookup x=y0 i
 | [],j,h=>h.elim (λz=>absurd z (by simp)) id
 | (n,k)::r,j,h=>by
  refine ZT b r (ze env j (n,k)) ?_
  have grow:(∃ i,j.lookup x=y0 i)-> ∃i,(ze env j (n,k)).lookup x=y0 i:=by
   rintro ⟨i,e⟩
   unfold ze
   split
   ·split
    ·rw [Ac3]
     cases x==n with
     | true=>exact⟨_,rfl⟩
     | false=>exact⟨i,e⟩
    ·exact⟨i,e⟩
   ·exact⟨i,e⟩
  rcases h with h | h
  ·rcases Ab9.mp h with h | h
   ·cases h
    refine .inr ⟨c,?_⟩
    show List.lookup x (if (NameKind.free==NameKind.free)=k9 then(match env.cells.lookup x with | some c=>(x,c)::j | none=>j)else j)=_
    rw [if_pos (show (NameKind.free==NameKind.free)=k9 from rfl),b]
    simp
   ·exact .inl h
  ·exact .inr (grow h)
def zS (I:Nat->Shared->Prop)
 (o: ∀n s,I n s->wpAny (model prog w) A (pyNext it) (λr i=>match r with
   | none=>R (.ok .next) i
   | some v=>wpAny (model prog w) A (letOwnedTupleGo tg it v) (λ_ j=>wpAny (model prog w) A (assign tg env v) (λ_ O=>
    wpAny (model prog w) A (forIn ifs k9 λc r=>if r=k9 then do let ok ←isTrue c env (eval c env);pure (ForInStep.yield ok)else pure (ForInStep.yield r)) (λok J=>
     if ok=k9 then wpAny (model prog w) A (eval elt env) (λx L=>
      wpAny (model prog w) A (call (.builtin "list.append") [acc,x]) (fun _ M=> ∃m,m<n/\I m M) (notedBy (model prog w) A env fun e s'=>R (.error e) s') L) (notedBy (model prog w) A env fun e s'=>R (.error e) s') J
     else ∃m,m<n/\I m J) (notedBy (model prog w) A env λe s'=>R (.error e) s') O) (notedBy (model prog w) A env λe s'=>R (.error e) s') j) (notedBy (model prog w) A env λe s'=>R (.error e) s') i) (notedBy (model prog w) A env λe s'=>R (.error e) s') s)
 (n) (h:I n s):codeAny (model prog w) A (.compLoop (.ListComp elt [⟨tg,iter,ifs,0⟩] scope pos) 0 it acc env) R s:=by
 refine codeAny_loop rfl I (λn s p=> ?_) n h
 refine wpAny_noted ?_
 rw [compTurn_list]
 refine wpAny_bind (wpAny_standAt (wpAny_bind (wpAny_mono (o n s p) (λr i b=> ?_) λ_ _ a=>a)))
 cases r with
 | none=>exact wpAny_pure b
 | some v=>
  refine wpAny_bind (wpAny_mono b (λ_ j f=> ?_) λ_ _ a=>a)
  refine wpAny_bind (wpAny_mono f (λ_ O l=>wpAny_bind (wpAny_mono l (λok J d=> ?_) λ_ _ a=>a)) λ_ _ a=>a)
  cases ok with
  | false=>exact wpAny_pure ⟨rfl,d⟩
  | true=>
   exact wpAny_bind (wpAny_bind (wpAny_mono d (λx L g=>wpAny_bind (wpAny_mono g (λ_ M k=>wpAny_pure (wpAny_pure ⟨rfl,k⟩)) λ_ _ a=>a)) λ_ _ a=>a))
theorem XY : ∀ i n j,(x,NameKind.cell)∉i->(cellsFrom n i j).lookup x=j.lookup x
 | [],_,_,_=>rfl
 | (y,k)::r,n,j,h=>by
  unfold cellsFrom
  split
  ·rename_i a
   have a:=by simpa using a
   subst a
   rw [XY r (n+1) _ λz=>h (Aa1 _ z),Ac3]
   cases b:x==y with
   | true=>
    have:x=y:=by simpa using b
    subst this
    exact absurd Aa3 h
   | false=>rfl
  ·exact XY r n j λz=>h (Aa1 _ z)
theorem ZY : ∀ i (h:Heap) j J,(j.lookup x=y0 c->J\/(h.IsCell c u0/\(x,NameKind.cell)∈i\/h.IsCell c u0/\J))-> ∀lo,lo<=h.objs.size →
 (cellsFrom h.objs.size i j).lookup x=y0 c->j.lookup x=y0 c\/(lo<=c/\(x,NameKind.cell)∈i/\(pushCells h i).IsCell c u0)
 | [],_,_,_,_,_,_,e=> .inl e
 | (y,k)::r,h,j,J,n,lo,d,e=>by
  unfold cellsFrom at e
  unfold pushCells
  split at e
  ·rename_i a
   rw [if_pos a]
   have a:=by simpa using a
   subst a
   have e:(cellsFrom (h.push { cls:= .type "cell",data:= .cell none }).objs.size r ((y,h.objs.size)::j)).lookup x=some c:=by rw [Heap.size_push];exact e
   rcases ZY r (h.push { cls:= .type "cell",data:= .cell none }) _ True (fun _=> .inl trivial) lo (by rw [Heap.size_push];omega) e with q | ⟨l,g,m⟩
   ·rw [Ac3]at q
    cases f:x==y with
    | true=>
     rw [f]at q
     have:x=y:=by simpa using f
     subst this
     cases q
     exact .inr ⟨d,List.mem_cons_self,(show (h.push { cls:= .type "cell",data:= .cell none }).IsCell h.objs.size none from⟨_,Heap.get?_push_size _ rfl,rfl⟩).keeps fun b o e=>pushCells_keeps r _ b o e⟩
    | false=>
     rw [f]at q
     exact .inl q
   ·exact .inr ⟨l,Aa1 _ g,m⟩
  ·rename_i a
   rw [if_neg a]
   rcases ZY r h j True (λ_=> .inl trivial) lo d e with q | ⟨l,g,m⟩
   ·exact .inl q
   ·exact .inr ⟨l,Aa1 _ g,m⟩
theorem nz: ∀(j) (n) (i),(∀ x c,i.lookup x=y0 c->c<n)->(∀ x y c,i.lookup x=y0 c->i.lookup y=y0 c->x=y) →
 ∀x y c,(cellsFrom n j i).lookup x=y0 c->(cellsFrom n j i).lookup y=y0 c->x=y
 | [],_,_,_,b=>b
 | (z,k)::r,n,i,a,b=>by
  unfold cellsFrom
  split
  ·have look: ∀x c,((z,n)::i).lookup x=y0 c->(x=z/\c=n)\/(i.lookup x=y0 c):=λx c e=>by
    rw [Ac3]at e
    cases d:x==z with
    | true=>
     rw [d]at e
     cases e
     exact .inl ⟨by simpa using d,rfl⟩
    | false=>
     rw [d]at e
     exact .inr e
   refine nz r (n+1) _ (λx c e=> ?_) λx y c f o=> ?_
   ·rcases look x c e with⟨_,q⟩ | q
    ·exact q▸Ag6 n
    ·exact Al7 (a x c q)
   ·rcases look x c f with⟨m,g⟩ | p<;>rcases look y c o with⟨l,h⟩ | q
    ·rw [m,l]
    ·exact absurd (g▸a y c q) (Ag8 _)
    ·exact absurd (h▸a x c p) (Ag8 _)
    ·exact b x y c p q
  ·exact nz r n i a b
theorem WJ : ∀(a:List (Str×NameKind)) i,(a.foldl (ze env) i).lookup x=y0 c->i.lookup x=y0 c\/(x,NameKind.free)∈a
 | [],_,h=> .inl h
 | (y,k)::r,i,h=>by
  rcases WJ r _ h with q | q
  ·unfold ze at q
   split at q
   ·rename_i b
    have b:=by simpa using b
    subst b
    split at q
    ·rw [Ac3]at q
     cases d:x==y with
     | true=>
      have:x=y:=by simpa using d
      subst this
      exact .inr Aa3
     | false=>
      rw [d]at q
      exact .inl q
    ·exact .inl q
   ·exact .inl q
  ·exact .inr (Aa1 _ q)
theorem qU {env:Env}: ∀ {a:List (Str×NameKind)}{x},
 ((a.map λ(n,k)=>if(k==NameKind.free&&env.scope.kind== .function&&env.kindOf n==y0 .cell)then(n,NameKind.cell)else(n,k)).lookup x=y0 .cell ∨
   (a.map λ(n,k)=>if(k==NameKind.free&&env.scope.kind== .function&&env.kindOf n==y0 .cell)then(n,NameKind.cell)else(n,k)).lookup x=y0 .free)->(x,.free)∈a\/(x,.cell)∈a
 | [],_,h=>by simp at h
 | (n,k)::r,x,h=>by
  have e:= @qU env r x
  rw [Ab]at h
  by_cases b:(k==NameKind.free&&env.scope.kind== .function&&env.kindOf n==y0 .cell)=k9
  ·have f:=by
    rw [Aa6,Aa6]at b
    simpa using b.1.1
   subst f
   simp only [b,if_true,Ac3]at h
   cases c:x==n with
   | true=>
    have:x=n:=by simpa using c
    subst this
    exact .inl Aa3
   | false=>
    rw [c]at h
    exact(e h).imp (Aa1 _) (Aa1 _)
  ·have d:=Aj2.mpr b
   simp only [d,Ag7,if_false,Ac3]at h
   cases c:x==n with
   | true=>
    have:x=n:=by simpa using c
    subst this
    rw [c]at h
    rcases h with h | h
    ·have:k= .cell:=by simpa using h
     subst this
     exact .inr Aa3
    ·have:k= .free:=by simpa using h
     subst this
     exact .inl Aa3
   | false=>
    rw [c]at h
    exact(e (by simpa using h)).imp (Aa1 _) (Aa1 _)
theorem yE: ∀ {a:List (Str×NameKind)}{x}{k i},(a.map Prod.fst).Nodup->(x,k)∈a->(x,i)∈a->k=i
 | (y,j)::r,x,k,i,d,f,e=>by
  rw [Ab,Ag1]at d
  rcases Ab9.mp f with b | b<;>rcases Ab9.mp e with c | c
  ·cases b;cases c;rfl
  ·cases b;exact absurd (Ac1.mpr ⟨_,c,rfl⟩) d.1
  ·cases c;exact absurd (Ac1.mpr ⟨_,b,rfl⟩) d.1
  ·exact yE d.2 b c
theorem X5: ∀ {a:List (Str×NameKind)}{x}{k},(a.map Prod.fst).Nodup->(x,k)∈a->a.lookup x=y0 k
 | (y,j)::r,x,k,b,h=>by
  rw [Ab,Ag1]at b
  rw [Ac3]
  rcases Ab9.mp h with e | e
  ·cases e;simp
  ·have:(x==y)=false:=by
    cases c:x==y with
    | false=>rfl
    | true=>
     have:x=y:=by simpa using c
     subst this
     exact absurd (Ac1.mpr ⟨_,e,rfl⟩) b.1
   rw [this]
   exact X5 b.2 e
def hj (a:Scope) (C:Addr) (env:Env):List (Str×Addr):=cellsFrom (C+1) a.names (QI a env)
def Xy 
 (d:Q (newEnv scope s.heap.objs.size globals (cellsFrom (s.heap.objs.size+1) scope.names cl) k7 u0 .none (y0 env) builtinsNs) { s with heap:=pushCells (s.heap.push { cls:= .type "dict",data:= .dict #[] }) scope.names }):
 wpAny M A (newFunctionEnv scope globals cl [] k7 u0 .none (y0 env)) Q E s:=by
 simp only [newFunctionEnv,Option.isSome_some,if_true]
 refine wpAny_bind (wpAny_alloc ?_)
 refine wpAny_bind (wpAny_layCells _ (λname a c=>by cases b:a==NameKind.cell<;>simp [b]) _ _ _ _ ?_)
 rw [show ({ s with heap:=s.heap.push { cls:= .type "dict",data:= .dict #[] } }:Shared).heap.objs.size=s.heap.objs.size+1 from Heap.size_push ..]
 refine wpAny_bind ?_
 exact wpAny_pure (wpAny_pure d)
noncomputable def qd (X:Cx) (N:List Str) (a:Scope) (C:Addr) (b:List Addr) (s:Shared) (H:Hp):Cx where
 prog:=X.prog
 w:=X.w
 K:=X.K
 mg:=X.mg
 base:=X.base
 A:=X.A
 N:=N
 s₀:=s
 H₀:=H
 env:=compEnvC a (hj a C X.env) C X.env
 outer:=X.stack
 stack:=X.stack
 ex:=b
 fn:=λx=>u9 (a.names.lookup x=y0 .cell)
 calm:=X.calm
 pn:= []
 xe:=λ_ _=>False
def cc (X:Cx):List Nat->List Str->Prop
 | [],[]=>True
 | j::a,x::xs=>X.N[j]? =y0 x/\(X.env.kindOf x=y0 .cell\/X.env.kindOf x=y0 .free)/\cc X a xs
 | _,_=>False
theorem cc.get {U:St}: ∀ {az}{xs}{i:Nat}{x}{v},cc X az xs->xs[i]? =y0 x->(az.map λj=>(U[j]?).join)[i]? =y0 (y0 v) →
 ∃j:Nat,X.N[j]? =y0 x/\U[j]? =y0 (y0 v)/\(X.env.kindOf x=y0 .cell\/X.env.kindOf x=y0 .free)
 | [],[],_,_,_,_,e,_=>by simp at e
 | [],_::_,_,_,_,h,_,_=>h.elim
 | _::_,[],_,_,_,h,_,_=>h.elim
 | j::c,f::xs,0,x,v,h,b,a=>by
  obtain⟨g,d,_⟩:=h
  simp at b
  subst b
  refine⟨j,g,?_,d⟩
  have a:y0 ((U[j]?).join)=y0 (y0 v):=by simpa using a
  have a:=Ae2.inj a
  cases q:U[j]? with
  | none=>rw [q]at a;cases a
  | some z=>rw [q]at a;have:z=y0 v:=a;rw [this]
 | j::c,f::xs,i+1,x,v,h,b,a=>cc.get h.2.2 (by simpa using b) (by simpa using a)
theorem cc.length : ∀ {az}{xs},cc X az xs->az.length=xs.length
 | [],[],_=>rfl
 | [],_::_,h=>h.elim
 | _::_,[],h=>h.elim
 | _::_,_::_,h=>congrArg (· +1) (cc.length h.2.2)
def mq (k:Nat) (az:List Nat) (U:St):St:=Aa9 k u0++az.map λ(j:Nat)=>(U[j]?).join
def gr (X:Cx) (a:List Expr) (t:TT):Prop:=
 ∀(y8:List (Addr×Obj)) (s:Shared) (U:St) (H:Hp) (Q:Bool->Hp->Prop),Inv X y8 U H s->t U H Q →
  wpAny (model X.prog X.w) X.A (forIn a k9 λc r=>if r=k9 then do let ok ←isTrue c X.env (eval c X.env);pure (ForInStep.yield ok)else pure (ForInStep.yield r)) (TP X y8 U Q) X.xe s
def Dw:TT:=λ_ H Q=>Q k9 H
def yg :gr X [] Dw:=λ_ _ _ H _ I h=>wpAny_tests_nil ⟨H,I,h⟩
def tE (h:PT X c t):gr X [c] t:=λa s U H Q I b=>wpAny_tests_one (h a s U H Q I b)
def rO (J:It) (g:TG) (h:TT) (k:TE) (j:St) (n:Hp) (Q:VK):Prop:= ∃W:Nat->Nat->List V->St->Hp->Prop,(∃ m,W 0 m [] j n)/\ ∀i m ys Y H,W i m ys Y H →
 (J.stop i H/\ys.length<=sizeLine/\ ∀D,H D=u0->Q (.ref D) (aG H D (.lst ys))) ∨
 (J.go i H/\ys.length<sizeLine/\ ∃N:List V->St->Hp->Prop,(∀ a d H',N a d H'-> ∃e,e<m/\W (i+1) e a d H') ∧
   ∀x H',J.eC i H x H'->g x Y H' λc H2=>h c H2 λb f=>if b=k9 then k c f λy l=>N (ys++ [y]) c l else N ys c f)
abbrev iZ (a:Type):=Addr->List Addr->Shared->Hp->a
def lZ (k:Nat) (az:List Nat) (b:TI) (g:iZ TG) (a:iZ TT) (c:iZ TE):TE:=λU H Q=>b U H λJ H1=> ∀C fp s,rO J (g C fp s H1) (a C fp s H1) (c C fp s H1) (mq k az U) H1 Q
def Inv.adopt (I:Inv X y8 U H s) (j:eE X y8 H D) (w:X.s₀.heap.objs.size<=D)
 (e:s.heap.get? D=y0 { cls:= .type "list",data:= .seq its.toArray n }) (r:Vals ys its) (y:ys.length<=sizeLine):Inv X y8 U (aG H D (.lst ys)) s:=by
 obtain⟨l,k,F,G,C,E⟩:=j
 have a: ∀b o,H b=y0 o->aG H D (.lst ys) b=y0 o:=λb o q=>by rw [ja (Wa q l)];exact q
 have d: ∀b o,X.s₀.heap.get? b=y0 o->b≠D:=λb o q z=>by rw [z]at q;exact absurd (Ab0 (Ab4 q) w) (Ag8 _)
 refine⟨I.ok,I.os,I.bare,⟨I.base.keep,I.base.slot,λb o i B t=> ?_,I.base.there,λb f q=>a b _ (I.base.cz b f q),λb o u q=>a b _ (I.base.cg b o u q),λb v q=> ?_⟩,I.loc,I.cell,?_,λx c q=> ?_,λp h=> ?_,λb u q=> ?_,I.len⟩
 ·rw [ja (d b o i)];exact I.base.free b o i B t
 ·obtain⟨more,A⟩:=I.base.cA b v q
  exact⟨more,a b _ A⟩
 ·rw [ja (Ne.symm k)];exact I.free
 ·rw [ja (C x c q)];exact I.bq x c q
 ·obtain⟨m,a2,a3⟩:=I.pin p h
  exact⟨m,by rw [ja (E p h)];exact a2,a3⟩
 ·by_cases g:b=D
  ·subst g
   rw [wb]at q
   cases q
   exact⟨y,its,n,r,e⟩
  ·rw [ja g]at q
   exact(I.aL b u q).b8 (λ_ _ _ z=>z) (λc z=>a c _ z) λc f z=>a c _ z
theorem xi {env:Env}: ∀ {b:List (Str×NameKind)}{x},b.lookup x=y0 .free →
 ((b.map λ(n,k)=>if(k==NameKind.free&&env.scope.kind== .function&&env.kindOf n==y0 .cell)then(n,NameKind.cell)else(n,k)).lookup x=y0 .cell ∨
   (b.map λ(n,k)=>if(k==NameKind.free&&env.scope.kind== .function&&env.kindOf n==y0 .cell)then(n,NameKind.cell)else(n,k)).lookup x=y0 .free)
 | [],_,h=>by simp at h
 | (n,k)::r,x,h=>by
  have e:= @xi env r x
  rw [Ab]
  rw [Ac3]at h
  cases d:x==n with
  | true=>
   rw [d]at h
   have f:=by simpa using h
   subst f
   by_cases a:(NameKind.free==NameKind.free&&env.scope.kind== .function&&env.kindOf n==y0 .cell)=k9
   ·simp only [a,if_true,Ac3,d]
    first | exact .inl rfl | exact .inl trivial | simp
   ·have c:=Aj2.mpr a
    simp only [c,Ag7,if_false,Ac3,d]
    first | exact .inr rfl | exact .inr trivial | simp
  | false=>
   rw [d]at h
   have q:=e h
   by_cases a:(k==NameKind.free&&env.scope.kind== .function&&env.kindOf n==y0 .cell)=k9
   ·simp only [a,if_true,Ac3,d]
    exact q
   ·have c:=Aj2.mpr a
    simp only [c,Ag7,if_false,Ac3,d]
    exact q
structure jT (X:Cx) (scope:Scope) (N:List Str) (k:Nat) (az:List Nat):Prop where
 kind:scope.kind= .function
 nd:(scope.names.map Prod.fst).Nodup
 names: ∀y∈scope.names,y.2= .local->scope.names.lookup y.1=y0 .local
 free: ∀y∈scope.names,y.2= .free->X.env.kindOf y.1=y0 .cell\/X.env.kindOf y.1=y0 .free
 gm: ∀x∈N.drop k,scope.names.lookup x=y0 .free
 az:cc X az (N.drop k)
 le:k<=N.length
structure Mz (sc scope:Scope) (N:List Str) (k:Nat):Prop where
 kind:scope.kind= .function
 nd:(scope.names.map Prod.fst).Nodup
 names: ∀y∈scope.names,y.2= .local->scope.names.lookup y.1=y0 .local
 free: ∀y∈scope.names,y.2= .free->sc.names.lookup y.1=y0 .cell\/sc.names.lookup y.1=y0 .free
 gm: ∀x∈N.drop k,scope.names.lookup x=y0 .free
 le:k<=N.length
section
variable {X:Cx}{elt tg iter:Expr}{ifs:List Expr}{scope:Scope}{pos p0:Pos}{N:List Str}{k:Nat}{az:List Nat}{wi:TI}{g:iZ TG}{tc:iZ TT}{te:iZ TE}
def FN (ok:jT X scope N k az) (a:Inv X y8 U H2 s2) (I: ∀b∈fp,eE X y8 H2 b) (Q: ∀b∈fp,b<s2.heap.objs.size)
 (w:s2.heap.objs.size<=C) (O:h₁.Ns C m) (g: ∀b o,s2.heap.get? b=y0 o->h₁.get? b=y0 o)
 (d: ∀x c,(hj scope C X.env).lookup x=y0 c->(QI scope X.env).lookup x=y0 c\/(C+1<=c/\(x,NameKind.cell)∈scope.names/\h₁.IsCell c u0)):
 Inv (qd X N scope C fp s2 H2) [] (mq k az U) H2 { s2 with heap:=h₁,toks:=tk }:=by
 have sub: ∀x c,(QI scope X.env).lookup x=y0 c->X.env.cells.lookup x=y0 c:=QE scope.names [] λx c e=>by simp at e
 have G: ∀x,(x,NameKind.free)∈scope.names-> ∃c,(QI scope X.env).lookup x=y0 c:=λx J=>by
  obtain⟨c,A⟩:=a.ok.has x (ok.free _ J rfl)
  exact ZT A scope.names [] (.inl J)
 have lt: ∀x c,(QI scope X.env).lookup x=y0 c->c<C+1:=λx c e=>by
  obtain⟨v,o,E,_⟩:=a.cell x c (sub x c e)
  exact Nat.lt_succ_of_le (Ac (Ah1 (Ab4 E)) w)
 have inj:=nz scope.names _ _ lt λx y c B H=>a.ok.inj x y c (sub x c B) (sub y c H)
 have keep: ∀x c,(x,NameKind.free)∈scope.names->(QI scope X.env).lookup x=y0 c->(hj scope C X.env).lookup x=y0 c:=λx c J e=>by
  unfold hj
  rw [XY scope.names _ _ λz=>by cases yE ok.nd J z]
  exact e
 have D: ∀x,_∈scope.names\/(x,NameKind.cell)∈scope.names-> ∃c,(hj scope C X.env).lookup x=y0 c:=λx h=>by
  rcases h with h | h
  ·obtain⟨c,A⟩:=G x h
   exact⟨c,keep x c h A⟩
  ·exact Ah.mp (Al5 scope.names _ (QI scope X.env) (.inl (X5 ok.nd h)))
 refine⟨⟨a.ok.mod,ok.kind,a.ok.glob,a.ok.blt,w,inj,λx h=>D x (qU h),λx c t e=> ?_,a.ok.hd,a.ok.frames,.inl rfl,λb n=>⟨?_,λx c e=> ?_⟩,
  λb o e=>a.bs b o e,Ac a.ok.gN a.sz,λb o e n=> ?_,λb n z=>(Ab9.mp (a.di b z)).elim (I b n).2.1 (I b n).2.2.1,a.stack,a.b9⟩,
  rfl,a.bare,Un.kept g,⟨m,O,λi x v S s Z=> ?_⟩,λx c e=> ?_,a.aL.fresh w,λx c e=> ?_,λp W=>absurd (show p∈([]:List (Addr×Obj))from W) (by simp),a.aL.kept g,?_⟩
 ·have t:=of_decide_eq_true t
  rcases d x c e with q | q
  ·rcases WJ scope.names [] q with z | z
   ·simp at z
   ·have:=X5 ok.nd z
    rw [t]at this
    cases this
  ·exact Ac w (Ac (Ah4 C) q.1)
 ·show b≠C
  exact Ac2 (Ab0 (Q b n) w)
 ·rcases d x c e with q | q
  ·exact(I b n).2.2.2.2.1 x c (sub x c q)
  ·exact Ne.symm (Ac2 (Ab0 (Q b n) (Ac w (Ac (Ah4 C) q.1))))
 ·rcases (I b n).2.2.2.1 with z | z
  ·exact a.ok.fH b o e z
  ·have B:=Ab4 e
   have H:=a.ok.gN
   exact absurd (Ab0 B (Ac H z)) (Ag8 _)
 ·have f:k<=i:=by
   by_cases f:i<k
   ·have s:(Aa9 k u0++az.map λ(j:Nat)=>(U[j]?).join)[i]? =y0 _:=s
    rw [Af5 (by simpa using f),Al8,if_pos f]at s
    cases s
   ·omega
  have F:(N.drop k)[i-k]? =y0 x:=by
   rw [List.getElem?_drop,show k+(i-k)=i by omega];exact S
  have L:(az.map λ(j:Nat)=>(U[j]?).join)[i-k]? =y0 (y0 v):=by
   have s:(Aa9 k u0++az.map λ(j:Nat)=>(U[j]?).join)[i]? =y0 _:=s
   rw [Af2 (by simpa using f),Ae6]at s
   exact s
  obtain⟨j,V,Y,P⟩:=ok.az.get (U:=U) F L
  obtain⟨m2,hn,R⟩:=a.loc
  obtain⟨u,r,l⟩:=R j x v V Y (.inr (P.elim (λz=> .inl z) λz=> .inr z))
  refine⟨u,r,.inr ?_⟩
  have t:=ok.gm x (Aj8 F)
  refine⟨xi t,?_⟩
  obtain⟨c,A⟩:=G x (PySem.mem_of_lookup t)
  refine⟨c,keep x c (PySem.mem_of_lookup t) A,?_⟩
  rcases l with⟨T,_⟩ | ⟨_,c',M,o,E,K⟩
  ·rcases P with z | z<;>(rw [T]at z;cases z)
  ·have d:=sub x c A
   rw [M]at d
   cases d
   exact⟨o,g _ o E,K⟩
 ·rcases d x c e with q | q
  ·obtain⟨v,o,E,K⟩:=a.cell x c (sub x c q)
   exact⟨v,o,g c o E,K⟩
  ·exact⟨u0,q.2.2⟩
 ·rcases d x c e with q | q
  ·exact a.bq x c (sub x c q)
  ·exact a.aL.fresh (Ac w (Ac (Ah4 C) q.1))
 ·show(Aa9 k u0++az.map λ(j:Nat)=>(U[j]?).join).length=N.length
  have B:=ok.az.length
  have H:=ok.le
  rw [Ab2,Ae6,Aa,B,Ai4]
  omega
def wU (use) (hc:X.calm=k9) (ok:jT X scope N k az) (hi:PI X tg iter wi)
 (hg: ∀C fp s H,PG (qd X N scope C fp s H) tg (g C fp s H)) (ht: ∀C fp s H,gr (qd X N scope C fp s H) ifs (tc C fp s H)) (he: ∀C fp s H,PE (qd X N scope C fp s H) elt (te C fp s H))
 (hs: ∀x,foldedSetIterable iter X.env x=pure x)
 (I:Inv X y8 U H s) (h:lZ k az wi g tc te U H Q)
 (fin: ∀(D C:Addr) (oC:Obj) (m:Str->Option Value) (H4:Hp) (s4:Shared),Inv X (y8++ [(C,oC)]) U H4 s4->eE X y8 H4 C->Q (.ref D) H4->(∀ h:Heap,h.get? C=y0 oC->h.Ns C m) →
   compPost (model X.prog X.w) X.A X.xe use Q' (.ref D) C (.ok .next) s4):
 wpAny (model X.prog X.w) X.A (comprehension (.ListComp elt [⟨tg,iter,ifs,0⟩] scope pos) scope X.env p0 (newList []) y9 (eval iter X.env) use) Q' X.xe s:=by
 have hcl:closureFor scope X.env=pure _:=qO λy hy hf=>I.ok.has y.1 (ok.free y hy hf)
 refine wpAny_comprehension_free (use:=use) rfl hs hcl ok.kind ok.names (aJ (hi y8 s U H _ I h) λv s1 h1=>aJ h1 λitv s2 h2=> ?_)
 obtain⟨it,fp,tn,J,H2,e,I2,T,st2,f2,hW⟩:=h2
 subst e
 refine wpAny_newObj_type (Xy ?_)
 dsimp only
 generalize hHp:s2.heap.push { cls:= .type "list",dict:=none,data:= .seq ([]:List Value).toArray }=HP
 have hCs:HP.objs.size=s2.heap.objs.size+1:=by rw [← hHp,Af6]
 generalize hDD:s2.heap.objs.size=D at hCs ⊢
 have hns0:(HP.push { cls:= .type "dict",data:= .dict #[] }).Ns HP.objs.size fun _=>none:=Heap.Ns.new HP _
 have hlk: ∀x c,(hj scope HP.objs.size X.env).lookup x=some c->(QI scope X.env).lookup x=some c\/(HP.objs.size+1<=c/\(x,NameKind.cell)∈scope.names/\(pushCells (HP.push { cls:= .type "dict",data:= .dict #[] }) scope.names).IsCell c none):=fun x c e=>by
  refine ZY scope.names _ _ True (λ_=> .inl trivial) _ (by rw [Af6];exact Aa5 _) ?_
  rw [Af6]
  exact e
 generalize hh1:pushCells _ scope.names=h₁ at hlk ⊢
 have hns₁:h₁.Ns HP.objs.size λ_=>none:=by rw [← hh1];exact hns0.keeps (pushCells_keeps _ _)
 have hk1: ∀b o,HP.get? b=y0 o->h₁.get? b=y0 o:=λb o e=>by
  rw [← hh1]
  exact pushCells_keeps _ _ b o (Aa2 _ e)
 generalize hCC:HP.objs.size=C at hCs hns₁ hlk ⊢
 have hDC:D≠C:=by rw [hCs];exact Ac2 (Ag6 _)
 have hle:s2.heap.objs.size<=C:=by rw [hDD,hCs];exact Ah4 _
 have hleD:s2.heap.objs.size<=D:=Nat.le_of_eq hDD
 have fo: ∀b∈fp,b<D:=λb hb=>by
  obtain⟨o,eo,_⟩:=T.obj _ _ st2 b hb
  rw [← hDD]
  exact Ab4 eo
 have old: ∀b o,s2.heap.get? b=y0 o->h₁.get? b=y0 o:=λb o e=>by
  exact hk1 b o (hHp▸Aa2 _ e)
 have hacc:h₁.get? D=y0 { cls:= .type "list",data:= .seq ([]:List Value).toArray }:=by
  refine hk1 _ _ ?_
  rw [← hHp,←hDD]
  exact Ab6 _ rfl
 obtain⟨W,⟨m0,w0⟩,turn⟩:=hW C fp s2
 have I3:Inv _ [] _ H2 { s2 with heap:=h₁,toks:=s2.toks }:=
  FN ok I2 f2 (λb hb=>by rw [hDD];exact fo b hb) hle hns₁ old hlk
 have st3:tn 0 h₁:=T.keep _ _ _ st2 λb _ o e=>old b o e
 have hch: ∀b∈fp,(b∈X.ex\/X.s₀.heap.objs.size<=b)/\b≠X.env.locals/\(∀ x c,X.env.cells.lookup x=y0 c->c≠b)/\ ∀p∈X.pn++y8,p.1≠b:=λb hb=>⟨(f2 b hb).2.2.2.1,(f2 b hb).2.1,(f2 b hb).2.2.2.2.1,(f2 b hb).2.2.2.2.2⟩
 have FD: ∀ {H':Hp},H' D=u0->eE X y8 H' D:=λhn=>I2.cP hleD hn
 have FC: ∀ {H':Hp},H' C=u0->eE X y8 H' C:=λhn=>I2.cP hle hn
 have sub: ∀x c,(QI scope X.env).lookup x=y0 c->X.env.cells.lookup x=y0 c:=QE scope.names [] λx c e=>by simp at e
 have hDst:D∉bE X.stack:=λz=>(Ab9.mp (I2.di D z)).elim (FD (H':=λ_=>u0) rfl).2.1 (FD (H':=λ_=>u0) rfl).2.2.1
 have hDc: ∀x c,(hj scope C X.env).lookup x=y0 c->c≠D:=λx c e=>by
  rcases hlk x c e with q | q
  ·exact(FD (H':=λ_=>u0) rfl).2.2.2.2.1 x c (sub x c q)
  ·exact Ne.symm (Ac2 (Ab0 (by rw [hCs];exact Al7 (Ag6 _)) q.1))
 have loop: ∀s₃:Shared,s₃= { s2 with heap:=h₁,toks:=s2.toks } →
  codeAny (model X.prog X.w) X.A (.compLoop (.ListComp elt [⟨tg,iter,ifs,0⟩] scope pos) 0 (.ref it) (.ref D) (compEnvC scope (hj scope C X.env) C X.env))
   (compPost (model X.prog X.w) X.A X.xe use Q' (.ref D) C) s₃:=by
  rintro s₃ rfl
  refine zS (λn s'=> ∃i ys its kk Y H',Inv (qd X N scope C fp s2 H2) [] Y H' s'/\tn i s'.heap/\(∀ b∈fp,H' b=u0)/\H' D=u0/\s'.heap.get? D=y0 { cls:= .type "list",data:= .seq (its:List Value).toArray kk }/\Vals ys its/\W i n ys Y H')
   ?_ m0 ⟨0,[],[],0,_,H2,I3,st3,λb hb=>(f2 b hb).1,I2.aL.fresh hleD,hacc,.nil,w0⟩
  rintro n s3 ⟨i,ys,its,kk,Y,H3,I3,st3,fr3,hD3,eD3,rv3,w3⟩
  have IP:Inv (qd X N scope C fp s2 H2) [(D,{ cls:= .type "list",data:= .seq its.toArray kk })] Y H3 s3:=I3.bz fun p hp=>by
   have e:p=(D,{ cls:= .type "list",data:= .seq its.toArray kk }):=by simpa using hp
   subst e
   exact⟨eD3,hD3,hDC,hDst,λv z=>by cases z⟩
  have fpok: ∀ {H':Hp},(∀ b∈fp,H' b=u0)-> ∀b∈fp,eE (qd X N scope C fp s2 H2) [(D,{ cls:= .type "list",data:= .seq its.toArray kk })] H' b:=fun {H'} hn b hb=>by
   refine⟨hn b hb,I3.ok.mR b hb |>.1,I3.ok.fB b hb,.inl hb,I3.ok.mR b hb |>.2,λp hp=> ?_⟩
   have e:p=(D,{ cls:= .type "list",data:= .seq its.toArray kk }):=by
    have hp:p∈([]:List (Addr×Obj))++ [(D,{ cls:= .type "list",data:= .seq its.toArray kk })]:=hp
    simpa using hp
   rw [e]
   exact Ne.symm (Ac2 (fo b hb))
  rcases turn i n ys Y H3 w3 with⟨stop,hz,q⟩ | ⟨go,hz,NN,hN,step⟩
  ·refine aJ (T.done (qd X N scope C fp s2 H2) rfl rfl rfl hc i _ s3 Y H3 _ IP (fpok fr3) st3 stop) ?_
   rintro r s4 ⟨hr,I4⟩
   subst hr
   have eD4:=(I4.pin _ (Ab1 _ Aa3)).1
   have I5:Inv X y8 U H3 s4:=I2.hV (ch:=fp) I4.os I4.base I4.aL I4.bare hch
   have I6:=I5.adopt (FD hD3) (Ac I2.sz hleD) eD4 rv3 hz
   obtain⟨m,⟨oC,es,ep,hoC,hdC,hr⟩,_⟩:=I4.loc
   have fC:eE X y8 (aG H3 D (.lst ys)) C:=FC (by rw [ja (Ne.symm hDC)];exact I4.free)
   have I7:Inv X (y8++ [(C,oC)]) U (aG H3 D (.lst ys)) s4:=I6.bz λp hp=>(Ae9.mp hp).elim (λz=>I6.pin p (Ab1 _ z)) λz=>by
    have e:p=(C,oC):=by simpa using z
    subst e
    exact⟨hoC,fC.1,fC.2.1,fC.2.2.1,λv z=>by rw [hdC]at z;cases z⟩
   exact fin D C oC m _ s4 I7 fC (q D hD3) λh e=>⟨oC,es,ep,e,hdC,hr⟩
  ·refine aJ (T.item (qd X N scope C fp s2 H2) rfl rfl rfl hc i _ s3 Y H3 _ IP (fpok fr3) st3 go) ?_
   rintro r s4 ⟨u,hr,h4⟩
   subst hr
   refine aJ h4 ?_
   rintro _ s5 ⟨x,H5,I5,r5,y5,st5,fr5⟩
   have I5':=I5.pinned (fpok fr5) (T.obj _ _ st5)
   refine wpAny_mono (hg C fp s2 H2 _ s5 Y H5 x u _ I5' r5 (step x H5 y5)) (λ_ s6 ⟨U6,H6,I6,q6⟩=> ?_) λ_ _ z=>False.elim z
   refine wpAny_mono (ht C fp s2 H2 _ s6 U6 H6 _ I6 q6) (λb s7 ⟨H7,I7,q7⟩=> ?_) λ_ _ z=>False.elim z
   have hp5: ∀b∈fp,∃o,s5.heap.get? b=y0 o:=λb hb=>let ⟨o,e,_⟩:=T.obj _ _ st5 b hb; ⟨o,e⟩
   cases b with
   | false=>
    rw [if_neg Ab7]at q7 ⊢
    obtain⟨m',hm,w7⟩:=hN _ _ _ q7
    refine⟨m',hm,i+1,ys,its,kk,U6,H7,I7.bz λp hp=>absurd hp (by simp),T.keep _ _ _ st5 λb hb o e=>(I7.pin (b,o) (Ab1 _ (Ab1 _ (Zi hb e)))).1,λb hb=> ?_,?_,?_,rv3,w7⟩
    ·obtain⟨o,e⟩:=hp5 b hb
     exact(I7.pin (b,o) (Ab1 _ (Ab1 _ (Zi hb e)))).2.1
    ·exact(I7.pin _ (Ab1 _ (Ac7 _ Aa3))).2.1
    ·exact(I7.pin _ (Ab1 _ (Ac7 _ Aa3))).1
   | true=>
    rw [if_pos rfl]at q7 ⊢
    refine wpAny_mono (he C fp s2 H2 _ s7 U6 H7 _ I7 q7) (λy s8 ⟨yv,H8,I8,r8,q8⟩=> ?_) λ_ _ z=>False.elim z
    have pD:=I8.pin _ (Ab1 _ (Ac7 _ Aa3))
    have eD8:s8.heap.get? D=y0 { cls:= .type "list",data:= .seq its.toArray kk }:=pD.1
    have hD8:H8 D=none:=pD.2.1
    have y7:=rv3.length
    refine call_meets F.slot_list_append ⟨_,eD8,rfl⟩ F.entry_list_append (F.args_list_append_2 _ _) (PySem.list_append D its.toArray kk y (by rw [Aa8];omega)) ⟨eD8,?_⟩
    obtain⟨m',hm,w8⟩:=hN _ _ _ q8
    have IQ:Inv (qd X N scope C fp s2 H2) (WE fp s5.heap) U6 H8 s8:=I8.bz λp hp=>I8.pin p (Ab1 _ (Ab1 _ hp))
    have e9:=PySem.IsL.update eD8 (·.push y)
    rw [show its.toArray.push y=(its++ [y]).toArray by simp]at e9
    have I9:Inv (qd X N scope C fp s2 H2) (WE fp s5.heap) U6 H8 { s8 with heap:=s8.heap.update D (Obj.mapSeq (·.push y)),toks:=s8.toks }:=
     IQ.turned (it:=D) (λb o hb e=>(Aj0 s8.heap (Obj.mapSeq (·.push y)) (Ne.symm hb)).trans e) hD8 hDC (.inr hleD) hDc λp hp=>by
      have hp:p∈([]:List (Addr×Obj))++WE fp s5.heap:=hp
      have:=fo p.1 (jS (by simpa using hp)).1
      exact Ac2 this
    refine⟨m',hm,i+1,ys++ [yv],its++ [y],_,U6,H8,I9.bz λp hp=>absurd hp (by simp),T.keep _ _ _ st5 λb hb o e=>(I9.pin (b,o) (Ab1 _ (Zi hb e))).1,λb hb=> ?_,hD8,e9,rv3.append (.cons r8 .nil),w8⟩
    obtain⟨o,e⟩:=hp5 b hb
    exact(I9.pin (b,o) (Ab1 _ (Zi hb e))).2.1
 exact codeAny_compStart_list (loop _ rfl) (T.self _ 0 _ _ _ st3 (loop _ rfl))
def KY (ok:jT X scope N k az) (u:PI X tg iter wi)
 (w: ∀C fp s H,PG (qd X N scope C fp s H) tg (g C fp s H)) (v: ∀C fp s H,gr (qd X N scope C fp s H) ifs (tc C fp s H)) (t: ∀C fp s H,PE (qd X N scope C fp s H) elt (te C fp s H))
 (r:X.calm=true:=by rfl) (l: ∀x,foldedSetIterable iter X.env x=pure x:=by intro _;rfl):PE X (.ListComp elt [⟨tg,iter,ifs,0⟩] scope pos) (lZ k az wi g tc te):=by
 intro f s U H Q I h
 refine wU u0 r ok u w v t l I h λD C y m p A i a q d=> ?_
 have n:=i.pin _ (Ab1 _ (Ab1 _ Aa3))
 refine⟨m,d _ n.1,λz c=>⟨.ref D,p,?_,rfl,q⟩⟩
 exact(i.bN).turned (λb o j e=>c.extBut b o j e) a.1 a.2.1 a.2.2.2.1 a.2.2.2.2.1 a.2.2.2.2.2
def He (y:X.N.Nodup) (f:X.N[i]? =y0 x) (r:kg X.env.scope x) (ok:jT X scope N k az) (F:PI X tg iter wi)
 (L: ∀C fp s H,PG (qd X N scope C fp s H) tg (g C fp s H)) (G: ∀C fp s H,gr (qd X N scope C fp s H) ifs (tc C fp s H)) (E: ∀C fp s H,PE (qd X N scope C fp s H) elt (te C fp s H))
 (d:swapsWith (.ListComp elt [⟨tg,iter,ifs,0⟩] scope p0) (y0 (.Name x pos')) pos.line X.env=pure true:=by rfl)
 (A:X.calm=true:=by rfl) (u: ∀x,foldedSetIterable iter X.env x=pure x:=by intro _;rfl) (J:X.fn x=k9\/X.env.scope.names.lookup x=y0 .local:=by first | exact .inl rfl | exact .inr rfl | assumption):
 PS X (.Assign [.Name x pos'] (.ListComp elt [⟨tg,iter,ifs,0⟩] scope p0) pos) (g7 (lZ k az wi g tc te) (xV i)):=by
 intro l s U H D I h
 rw [exec_Assign_Name_used _ _ _ _ d]
 refine wpAny_bind (wpAny_standAt (wpAny_bind ?_))
 refine wpAny_bind (wpAny_mono (wU _ A ok F L G E u I h λK C M m z Q p a q j=> ?_) (λ_ P B=>wpAny_pure (wpAny_pure B)) λ_ _ e=>e)
 refine wpAny_assign_Name (Xn p y f r (v:= .ref K) rfl (λR n=> ?_) J)
 have w:=n.pin _ (Ab1 _ (Ab1 _ Aa3))
 refine⟨m,j _ w.1,λO c=>⟨_,z,?_,q⟩⟩
 exact(n.bN).turned (λb o t e=>c.extBut b o t e) a.1 a.2.1 a.2.2.2.1 a.2.2.2.2.1 a.2.2.2.2.2
end
def qg {K:Aa7}(c:Nat->List V->St->Hp->Prop) (v:xs.length<=1000) (k:c 0 [] Y0 H1) (f: ∀i ys Y H,c i ys Y H->ys.length<=i)
 (l: ∀i ys Y H,i<=xs.length->c i ys Y H->aZ K H a xs)
 (n: ∀i ys Y H x,xs[i]? =y0 x->c i ys Y H->g x Y H λY2 H2=>tc Y2 H2 λb j=>if b=k9 then te Y2 j λy J=>c (i+1) (ys++ [y]) Y2 J else c (i+1) ys Y2 j)
 (h: ∀ys Y H,c xs.length ys Y H-> ∀D,H D=u0->Q (.ref D) (aG H D (.lst ys))):rO (lO K a) g tc te Y0 H1 Q:=by
 refine⟨λi m ys Y H=>m=xs.length-i/\i<=xs.length/\c i ys Y H,⟨xs.length,by simp,Ah2 _,k⟩,?_⟩
 rintro i m ys Y H ⟨rfl,s,p⟩
 have z:=f i ys Y H p
 have q:=l i ys Y H s p
 by_cases d:i<xs.length
 ·refine .inr ⟨⟨xs,xs[i],q,by simp [d]⟩,jm (by lia),c _,λo u t r=>⟨xs.length-(i+1),by lia,rfl,d,r⟩,λx t y=> ?_⟩
  obtain⟨e,y⟩:=y
  subst e
  exact n i ys Y _ x (y xs q) p
 ·have e:i=xs.length:=by lia
  subst e
  exact .inl ⟨⟨xs,q,Aa5 _⟩,Ah1 (jm (by lia)),h ys Y H p⟩
noncomputable def mi (K:Aa7) (a:Addr) (n:Nat):It:=
 ⟨λi H=> ∃xs,aZ K H a xs/\xs.length=n/\i<n,λi H x H'=>H'=H/\ ∀xs,aZ K H a xs->xs[n-1-i]? =y0 x,λi _=>i=n⟩
def IG {K:Aa7}(a it) (n):gI P w K tg (mi K a n) [it] it (λi h=>h.IsRevIter it a ((n:Int)-1-((i:Nat):Int))) where
 mem:=by simp
 obj:=λi h f b j=>by
  have e:=by simpa using j
  subst e
  obtain⟨o,e,c,d⟩:=f
  exact⟨o,e,λv z=>by rw [d]at z;cases z⟩
 keep:=λi h A f k=>f.at λo e=>k it (by simp) o e
 item:=by
  intro X hP t C J i g s U H E I q f m
  subst hP t C
  obtain⟨F,L,Y,hi⟩:=m
  obtain⟨M,rv,p,hz⟩:=I.list L
  have G:F[n-1-i]? =y0 (F[n-1-i]'(by omega)):=Aa4 (by omega)
  obtain⟨u,W,S⟩:=rv.get G
  obtain⟨y,B,O,D,x,r⟩:=q it (by simp)
  have e: n-1- (i:Nat)=((n-1-i:Nat):Int):=by omega
  have f:=f
  rw [e]at f
  refine wpAny_pyNext_rev_item f p.isList (by simpa using W) λA l Q=> ?_
  have N:Inv X g U H { s with heap:=A }:=I.turned (λb o j e=>(Q.2 b j).trans e) y B D x r
  have V: (n-1-i:Nat)-1= n-1-((i+1:Nat):Int):=by omega
  rw [V]at l
  obtain⟨o,e,c,d⟩:=id l
  exact⟨u,rfl,kr e c d (by decide) ⟨_,H,N,S,⟨rfl,λZ T=>by rw [I.cU T L];exact G⟩,l,λb j=>(q b j).1⟩⟩
 done:=by
  intro X hP t C J i g s U H E I q f m
  subst hP t C
  have m:=m
  subst m
  obtain⟨y,B,O,D,x,r⟩:=q it (by simp)
  have e: i-1-((i:Nat):Int)= -1:=by omega
  have f:=f
  rw [e]at f
  exact wpAny_pyNext_rev_end (I.ok.hd J) f λA R=>⟨rfl,I.turned (λb o j e=>R b o j e) y B D x r⟩
 self:=λ_ _ _ _ _ f h=>wpAny_pyIter_revIter f h
section
variable {X:Cx}{tg:Expr}
def Io (K:Aa7) (b:TA):TI:=λU H R=>b U H λc H1=> ∃a xs,c= [.ref a]/\aZ K H1 a xs/\R (mi K a xs.length) H1
def nt (A:Gl X "reversed") (n:X.mg "reversed" =none) (m:PA X [a] ta) (v:starEach [a] X.env= [(false,eval a X.env)]:=by rfl):PI X tg (.Call (.Name "reversed" p) [a] [] pos) (Io X.K ta):=by
 intro g s U H R I h
 refine Call_ (qB I A n boot_reversed (PyProof.Rows.callWith_type1 (aJ (m pos g s U H _ I h) λD j ⟨B,w,i,y,u⟩=> ?_) v rfl))
 obtain⟨b,d,e,x,q⟩:=u
 subst e
 cases y with
 | cons r z=>
  cases z
  cases r
  obtain⟨k,rv,pl,C⟩:=i.list x
  refine call_reversed_list pl.isList ?_
  have f:k.toArray.size=d.length:=by rw [Aa8];exact rv.length.symm
  rw [f]
  have l:(j.heap.push (revObj b (d.length-1))).IsRevIter j.heap.objs.size b (d.length-1- (0:Nat)):=by
   refine⟨_,Ab6 _ rfl,rfl,?_⟩
   rw [show d.length-1- (0:Nat)=(d.length:Int)-1 by lia]<;>rfl
  refine wpAny_pyIter_revIter l ?_
  refine⟨j.heap.objs.size,[j.heap.objs.size],_,_,w,rfl,i.kept λb o e=>Aa2 _ e,IG b _ d.length,l,λc t=> ?_,q⟩
  have e:=by simpa using t
  subst e
  exact i.cP (Aa5 _) (i.aL.fresh (Aa5 _))
end
structure Mx (P:Program) (w:World) (K:Aa7) (mg:Str->Option Value) (base:Heap) (k:Nat) (x:Str) (ps:List Str) (sp:Sp):Prop where
 ex: ∃f fd,bg P w K mg base lF k f fd ps sp/\Binds K fd ps []/\Ag5 K (.ref f)=k9/\mg x=y0 (.ref f)
open PySem PySem.Spec PySem.Calls PySem.W PyProof.Rows
structure gi (K:Frag) (C:Addr):Prop where
 ga:findIn K (.ref C) "__getattribute__" =some (some (.builtin "BaseException.__getattribute__"))
 gn:findIn K (.ref C) "__getattr__" =some none
 cl:findIn K (.ref C) "__class__" =some (some (.builtin "object.__class__"))
 get:specialIn K (.builtin "object.__class__") "__get__" =some (some (.builtin "getset_descriptor.__get__"))
 set:takesIn K (.builtin "object.__class__")=some true
 obj:mroIn K C (.type "object")=some true
 bas:mroIn K C (.type "BaseException")=some true
 slf:kitCls K (.ref C) (.ref C)=y0 k9
 cls:(clsIn K C).isSome=k9
def ExcAt (h:Heap) (x C:Addr):Prop:= ∃o,h.get? x=y0 o/\o.cls= .ref C
def ExcAt.type (e:ExcAt h x C):Looks M h (typeOf (.ref x)) (.ref C):=by
 obtain⟨o,a,b⟩:=e
 rw [← b]
 exact(Looks.ld a).andThen Looks.now
section
variable {prog:Program}{w:World}{A:Around}{E:Value->Shared->Prop}{s:Shared}{K:Frag}{x C:Addr}
def J2 (X:K.In s.heap) (I:ExcAt s.heap x C) (Z:gi K C) (a:R (.ok (.ret (.ref C))) s):
 codeAny (model prog w) A (.call (.builtin "getset_descriptor.__get__") ⟨[.builtin "object.__class__",.ref x,tp],[]⟩) R s:=by
 obtain⟨d,c,dd,e,f⟩:=s
 have g:=I.type (M:=model prog w)
 have b:=looks_mroIn (M:=model prog w) X Z.obj
 refine codeAny_call_builtin KF.slot_gs.plain KF.entry_gs (KF.slot_gs.check _ _ _ _ _ _ _ _ KF.type_class (KF.args_gs _ _ _) ?_)
 unfold Builtin.«getset_descriptor.__get__» Builtin.Getset_descriptor.descrGet
 rw [dga_obj]
 refine wpAny_bind (wpAny_pure ?_)
 unfold Builtin.Getset_descriptor.descrGetter Builtin.Getset_descriptor.descrCheckInstance Builtin.Getset_descriptor.descrNameAndClass isInstance
 simp only [KF.owner_class]
 repeat lk
 refine⟨Code.quiet_builtin _ (by decide +kernel),codeAny_builtin KF.entry_class ?_⟩
 unfold Builtin.«object.__class__» shownTypeOf
 repeat lk
 exact a
def qV (X:K.In s.heap) (I:ExcAt s.heap x C) (Z:gi K C) (p:Q (y0 (.ref C)) { s with toks:=s.toks+1 }):
 wpAny (model prog w) A (getAttr? (.ref x) "__class__") Q E s:=by
 obtain⟨b,e,dd,z,d⟩:=s
 have i:=I.type (M:=model prog w)
 have o:=looks_findIn (M:=model prog w) X Z.ga
 have v:=looks_findIn (M:=model prog w) X Z.gn
 have n:=looks_findIn (M:=model prog w) X Z.cl
 have m:=looks_specialIn (M:=model prog w) X Z.get
 have u:=looks_takesIn (M:=model prog w) X Z.set
 have y:=looks_mroIn (M:=model prog w) X Z.bas
 have c:Looks (model prog w) b (Builtin.ObjectAttr.find (.ref x) (.ref C) "__class__") (.bind (.builtin "getset_descriptor.__get__") (.builtin "object.__class__")):=by
  unfold Builtin.ObjectAttr.find
  refine n.andThen ?_
  refine Looks.andThen (show Looks (model prog w) b (Builtin.ObjectAttr.getOf (some (.builtin "object.__class__"))) (some (.builtin "getset_descriptor.__get__"))from m) ?_
  unfold Builtin.ObjectAttr.dataDescriptor?
  refine Looks.andThen (a:=y0 (.builtin "getset_descriptor.__get__",.builtin "object.__class__")) (u.andThen ?_) (Looks.tag Looks.now)
  exact Looks.now
 have f: ∀ A j Q E t,Q (.done (.ret (.ref C))) ⟨b,e,dd,t,d⟩ →
  wpAny _ A (Builtin.«object.__getattribute__» ⟨[.ref x,.str "__class__" j],[]⟩) Q E ⟨b,e,dd,t,d⟩:=fun A j Q E t h=>by
  unfold Builtin.«object.__getattribute__»
  refine wpAny_bind (wpAny_of_eq (a:=(Value.ref x,[Value.str "__class__" j])) rfl ?_)
  dsimp only
  refine wpAny_bind (wpAny_of_eq (a:=("__class__" :Str)) rfl ?_)
  refine wpAny_bind (i.at (wpAny_bind (c.at ?_)))
  show wpAny _ _ (Builtin.ObjectAttr.bindTo _ _ _ _) _ _ _
  unfold Builtin.ObjectAttr.bindTo
  dsimp only
  exact wpAny_bind (wpAny_holding (wpAny_call (J2 X I Z (wpAny_pure h))))
 have g: ∀ A k Q E t,Q () ⟨b,e,dd,t,d⟩ →
  wpAny (model prog w) A (checkBuiltinCall "BaseException.__getattribute__" ⟨[.ref x,k],[]⟩) Q E ⟨b,e,dd,t,d⟩:=fun A k Q E t h=>by
  have r:builtinKind "BaseException.__getattribute__" =some .slot:=by decide +kernel
  have l:splitId "BaseException.__getattribute__" =some ("BaseException", "__getattribute__"):=by decide +kernel
  have q:=F.args_bexc_ga (.ref x) k
  simp only [checkBuiltinCall,r,l]
  refine wpAny_bind ((i.andThen y:Looks (model prog w) b (isInstance (.ref x) (.type "BaseException")) true).at ?_)
  rw [if_neg (by decide)]
  exact wpAny_of_eq q h
 unfold getAttr? getAttrBy? getAttrBy
 refine wpAny_bind (wpAny_mkText (wpAny_bind (wpAny_attempt (wpAny_holding (wpAny_bind (i.at (wpAny_bind (o.at ?_))))))))
 show wpAny _ _ (getAttrByItsOwn _ _ _ _ _ _) _ _ _
 unfold getAttrByItsOwn hookBefore
 refine wpAny_bind (v.at ?_)
 refine wpAny_bind (wpAny_attempt (wpAny_holding ?_))
 show wpAny _ _ (boundAndCalled (.builtin "BaseException.__getattribute__") (.ref x) _) _ _ _
 unfold boundAndCalled
 refine wpAny_bind (wpAny_of_eq (F.excAttr_ValueError.ga.bind _) ?_)
 refine wpAny_call (codeAny_call_builtin F.excAttr_ValueError.ga.plain F.entry_bexc_ga (g _ _ _ _ _ (f _ _ _ _ _ ?_)))
 show wpAny _ _ (handedOut (.ref C)) _ _ _
 exact handed_on rfl (wpAny_pure p)
end
def jP {K:Frag}(Z:gi K C):KitX K (.ref x) (.ref C) (λh=>ExcAt h x C) where
 ty:=λ_ _ _ I=>I.type
 it:=λM h X _=>(kit_cls X Z.slf).2.1
 ne:=λh f dd d n sl X a=>by
  rw [Aj2]
  intro q
  have e:=Value.ref.inj (beq_iff_eq.mp q)
  subst e
  have z:=Z.cls
  cases b:K.lookup C with
  | none=>simp [clsIn,b]at z
  | some o=>
   have c:=X C o b
   rw [a]at c
   cases c
   simp [clsIn,b]at z
 ca:=λX I k=>qV X I Z k
noncomputable def eX (x C:Addr) (a:Option Addr):HO:= .ext λh=> ∃o,h.get? x=y0 o/\o.cls= .ref C/\notCls o=k9/\ ∀dx,a=y0 dx->o.dict=y0 dx
def BX (e:h.get? x=y0 o) (d:o.cls= .ref C) (c:notCls o=k9) (f: ∀dx,od=y0 dx->o.dict=y0 dx):aO P w H h x (eX x C od):=
 ⟨⟨o,e,d,c,f⟩,⟨o,e⟩,λi g ⟨o,a,b⟩ k=>⟨o,k o a,b⟩⟩
def sh (K:Frag):List V->Hp->VK->Prop:=λxs H Q=> ∃x C a b,gi K C/\H x=y0 (eX x C a) ∧
 ((∃ (D:Addr),xs= [.ref x,.ref D]/\kitOne K (.ref C) (.ref D)=y0 b)\/(∃ (T:String),xs= [.ref x,.ty T]/\kitOne K (.ref C) (.type T)=y0 b) ∨
   ∃(t:Addr) (ds:List Addr),xs= [.ref x,.ref t]/\H t=y0 (.tup (ds.map V.ref))/\kitAny K (.ref C) (ds.map Value.ref)=y0 b)/\Q (.bl b) H
theorem XU: ∀ {a:List Addr}{us},Vals (a.map V.ref) us->us=a.map Value.ref
 | [],_,.nil=>rfl
 | _::_,_,.cons r t=>by
  cases r
  rw [XU t]
  rfl
def J9 :zm X (.builtin "isinstance") (sh X.K):=by
 intro g s U H A G Q I r h
 obtain⟨x,C,E,b,Z,p,v,q⟩:=h
 have ex:ExcAt s.heap x C:=let ⟨o,a,b,_⟩:=(I.aL x _ p).1; ⟨o,a,b⟩
 obtain⟨D,rfl,e⟩ | ⟨T,rfl,e⟩ | ⟨t,F,rfl,w,e⟩:=v
 ·obtain⟨u,i,rfl,c,d⟩:=w4 r
  cases c
  cases d
  exact kia_one (jP Z) I.bH ex e (λz=>nomatch z) λf=>⟨.bl b,H,I.tok f,rfl,q⟩
 ·obtain⟨u,i,rfl,c,d⟩:=w4 r
  cases c
  cases d
  exact kia_one (jP Z) I.bH ex e (λz=>nomatch z) λf=>⟨.bl b,H,I.tok f,rfl,q⟩
 ·obtain⟨u,i,rfl,c,d⟩:=w4 r
  cases c
  cases d
  obtain⟨_,l,rv,o,m,k,_,n,j⟩:=I.aL t _ w
  rw [XU rv]at j
  obtain⟨J,B,y,sl⟩:=o
  subst k j
  exact kia_tup (jP Z) I.bH ex m e (λz=>nomatch z) λf=>⟨.bl b,H,I.tok f,rfl,q⟩
def DK (h h':Heap):Prop:= ∀b o,h.get? b=y0 o-> ∃o',h'.get? b=y0 o'/\o'.dict=o.dict
def DK.refl (h):DK h h:=λ_ o e=>⟨o,e,rfl⟩
theorem DK.trans (x:DK a b) (y:DK b c):DK a c:=λi o e=>
 let ⟨f,h,d⟩:=x i o e
 let ⟨g,k,j⟩:=y i f h
 ⟨g,k,j.trans d⟩
def KD {b:Type}:Sem b->Prop
 | .pure _=>True
 | .raise _=>True
 | .unsupported _=>True
 | .finish _=>True
 | .register _ _=>True
 | .rule _ k=>KD (k ())
 | .at _ k=>KD (k ())
 | .load _ _ k=> ∀o,KD (k o)
 | .update _ _ f k=>(∀ o,(f o).dict=o.dict/\(o.isFreed=y9->(f o).isFreed=y9))/\KD (k ())
 | .alloc _ k=> ∀a,KD (k a)
 | .loadIfAlive _ k=> ∀o,KD (k o)
 | .point _ k=>KD (k ())
 | .fresh k=> ∀t,KD (k t)
 | .ask k=> ∀t,KD (k t)
 | .handled _ k=> ∀t,KD (k t)
 | .stack k=> ∀t,KD (k t)
 | .thread k=> ∀t,KD (k t)
 | _=>False
theorem KD.bind (c: ∀a,KD (f a))(h:KD m):KD (m.bind f):=by
 induction m with
 | pure a=>exact c a
 | raise _=>exact trivial
 | unsupported _=>exact trivial
 | finish _=>exact trivial
 | register _ _=>exact trivial
 | rule _ k b=>exact b () h
 | «at» _ k b=>exact b () h
 | load _ _ k b=>exact λo=>b o (h o)
 | update _ _ _ k b=>exact⟨h.1,b () h.2⟩
 | alloc _ k b=>exact λo=>b o (h o)
 | loadIfAlive _ k b=>exact λo=>b o (h o)
 | point _ k b=>exact b () h
 | fresh k b=>exact λo=>b o (h o)
 | ask k b=>exact λo=>b o (h o)
 | handled _ k b=>exact λo=>b o (h o)
 | stack k b=>exact λo=>b o (h o)
 | thread k b=>exact λo=>b o (h o)
 | _=>exact False.elim h
theorem DK.push (h) (o):DK h (h.push o):=λb u e=>⟨u,Aa2 _ e,rfl⟩
theorem DK.update (h) (a)(c: ∀o,(f o).dict=o.dict/\(o.isFreed=y9->(f o).isFreed=y9)):DK h (h.update a f):=λb u e=>by
 by_cases q:a=b
 ·subst q
  exact⟨f u,Ah8 f e ((c u).2 (Heap.get?_some_iff.mp e).2),(c u).1⟩
 ·exact⟨u,by rw [Aj0 _ _ q];exact e,rfl⟩
def KP : ∀ {p}{s},KD t->DK h0 s.heap->Sem.wp M Γ t Q E p s →
 Sem.wp M Γ t (λa p s'=>Q a p s'/\DK h0 s'.heap) (λe p s'=>E e p s'/\DK h0 s'.heap) p s:=by
 induction t with
 | pure a=>exact λk d h=>⟨h,d⟩
 | raise _=>exact λk d h=>⟨h,d⟩
 | unsupported _=>exact λk d h=>h
 | finish _=>exact λk d h=>h
 | register _ _=>exact λk d h=>h
 | rule _ t b=>exact λk d h=>b () k d h
 | «at» _ t b=>exact λk d h=>b () k d h
 | load _ _ t b=>exact λk d ⟨o,e,h⟩=>⟨o,e,b o (k o) d h⟩
 | update a _ f t b=>exact λk d ⟨e,h⟩=>⟨e,b () k.2 (d.trans (DK.update _ _ k.1)) h⟩
 | alloc o t b=>exact λk d h=>b _ (k _) (d.trans (DK.push _ _)) h
 | loadIfAlive _ t b=>exact λk d h=>b _ (k _) d h
 | point _ t b=>exact λk d h=>b () k d h
 | fresh t b=>exact λk d h=>b _ (k _) d h
 | ask t b=>exact λk d h=>b _ (k _) d h
 | handled _ t b=>exact λk d h=>b _ (k _) d h
 | stack t b=>exact λk d h=>b _ (k _) d h
 | thread t b=>exact λk d h=>b _ (k _) d h
 | _=>exact λk=>False.elim k
def WO (k:KD t) (h:wpAny M A t Q E s):
 wpAny M A t (λa s'=>Q a s'/\DK s.heap s'.heap) (λe s'=>E e s'/\DK s.heap s'.heap) s:=λc p b=>KP k (DK.refl _) (h c p b)
def Q1 (v):KD (fieldsOf v):=by
 cases v<;>first | exact trivial | skip
 refine KD.bind (λo=> ?_) λ_=>trivial
 split<;>exact trivial
def wC (v) (i):KD (field v i):=by
 refine KD.bind (λo=> ?_) (Q1 v)
 split<;>exact trivial
def Z3 {c:Bool}(d:KD a) (e:KD b):KD (if c then a else b):=by cases c<;>assumption
def wu (v) (i) (x):KD (setField v i x):=by
 cases v<;>first | exact trivial | skip
 refine KD.bind (λo=> ?_) λ_=>trivial
 split
 ·split
  ·refine⟨λo=> ?_,trivial⟩
   obtain⟨c,d,a,sl⟩:=o
   cases a<;>exact⟨rfl,λz=>z⟩
  ·exact trivial
 ·exact trivial
def WN (f) (b):KD (entryPlaceOf f b):=by
 refine KD.bind (λo=> ?_) λ_=>trivial
 split<;>exact trivial
def Z1 (a b c d e) (p):KD (EntryCells.newEntry a b c d e p):=by
 have f: ∀g:Array Value,KD (if g.size>sizeLine+2 then do
  unsupported "record:memory"
  else newObjAsIs (Value.type "traceback") (Data.fields g)):=fun g=>by
  split
  ·exact trivial
  ·unfold newObjAsIs
   exact λ_=>trivial
 exact f _
theorem J8: ∀l:List Env,KD (readyFrames l)
 | []=>trivial
 | env::outer=>by
  unfold readyFrames
  split
  ·refine KD.bind (λo=> ?_) λ_=>trivial
   refine Z3 trivial ?_
   refine KD.bind (λi=> ?_) ?_
   ·refine KD.bind (λb=> ?_) ?_
    ·refine KD.bind (λ_=>J8 outer) ⟨λo=>⟨rfl,λz=> ?_⟩,trivial⟩
     obtain⟨c,d,a,sl⟩:=o
     cases a<;>exact z
    ·unfold keptBack
     split
     ·refine Z3 trivial ?_
      refine KD.bind (λ_=> trivial) ?_
      exact λ_=>trivial
     ·exact trivial
   ·unfold behindIsImport
    refine Z3 trivial (Z3 trivial ?_)
    exact KD.bind (λ_=> trivial) (wC _ _)
  ·exact trivial
def FA (env):KD (PySem.frameOf env):=by
 refine KD.bind (λl=> ?_) λ_=>trivial
 refine KD.bind (λo=> ?_) ?_
 ·split<;>exact trivial
 ·unfold frameObject
  split
  ·exact trivial
  ·exact KD.bind (λ_=> trivial) (J8 _)
def tT (e) (env):KD (noteFrame e env):=by
 unfold noteFrame
 split
 ·refine KD.bind (λf=> ?_) (wC _ _)
  have d:KD (do setField e 1 (← EntryCells.newEntry f (← PySem.frameOf env) .none (rawInt ‹Addr›) .none (← entryPlaceOf ‹Addr› (f != .none)))):=
   KD.bind (λa=>KD.bind (λb=>KD.bind (λc=>wu _ _ _) (Z1 _ _ _ _ _ _)) (WN _ _)) (FA env)
  refine Z3 ?_ d
  refine KD.bind (λx=> ?_) (wC _ _)
  refine Z3 trivial ?_
  exact KD.bind (λ_=>d) (wu _ _ _)
 ·exact trivial
def wG (e) (f):KD (setFlight e f):=by
 refine KD.bind (λx=> ?_) (wC _ _)
 exact Z3 (wu _ _ _) trivial
def JJ (env) (e):KD (leaving env e):=KD.bind (λ_=>wG e u0) (tT e env)
def aO.there (x:aO P w H h a o): ∃u,h.get? a=y0 u:=by
 cases o with
 | lst c=>exact⟨_,x.2.choose_spec.choose_spec.2⟩
 | tup c=>obtain⟨_,_,_,u,e,_⟩:=x;exact⟨u,e⟩
 | dK b=>obtain⟨_,_,_,_,u,_,_,e,_⟩:=x;exact⟨u,e⟩
 | dT b=>obtain⟨_,_,_,_,u,_,_,e,_⟩:=x;exact⟨u,e⟩
 | set S n=>obtain⟨u,_,_,_,e,_⟩:=x;exact⟨u,e⟩
 | ins C d fs=>obtain⟨_,_,_,e,_⟩:=x;exact⟨_,e⟩
 | own y=>exact x
 | xd fs=>obtain⟨_,⟨u,_,_,e,_⟩,_⟩:=x;exact⟨u,e⟩
 | gF l k=>obtain⟨_,_,_,e⟩:=x;exact⟨_,e⟩
 | dP g u=>exact⟨_,x.1⟩
 | hJ j=>exact⟨_,show h.get? a=y0 _ from x⟩
 | met f y=>exact⟨_,show h.get? a=y0 _ from x⟩
 | ext i=>exact x.2.1
def cj (P:Program) (w:World):gQ:=λouter H s E e s'=> ∃(x C t:Addr) (B:Heap) (H':Hp) (a:Option Addr),e= .ref x/\s'.os=s.os/\AllBare s'.gens ∧
 Al B outer x (.ref C) (.ref t) s'.heap/\Un (bE outer) [] H H' s.heap s'.heap/\cF P w H' s'.heap ∧
 (∀ b o,s'.heap.get? b=y0 o->((∃ u,H' b=y0 u)\/ ∃u,s.heap.get? b=y0 u)->b∉bE outer->B.get? b=y0 o)/\s.heap.get? x=u0/\(∀ dx,a=y0 dx-> ∃o,s'.heap.get? x=y0 o/\o.dict=y0 dx)/\E (.ref C) a H'
noncomputable def fq (C t:Addr) (a:Option Addr):Obj:= { cls:= .ref C,dict:=a,data:= .fields #[.ref t,.none,.none,.none,.bool y9,.none] }
section
variable {P:Program}{w:World}{K:Frag}{mg:Str->Option Value}{base:Heap}{N:List Str}{k7:Str}{scope:Scope}{f:Addr}{cd:Value}{A:Around}{outer:List Env}{s:Shared}{H:Hp}{E:XK}
def xK (I:Inv (wR (cj P w) P w K mg base N k7 scope f cd A outer s H E) y8 U H1 s2)
 (he:s2.heap.get? e=y0 (fq C t od)) (new:s.heap.get? e=u0) (h0:H1 e=u0) (q:E (.ref C) od H1):(wR (cj P w) P w K mg base N k7 scope f cd A outer s H E).xe (.ref e) s2:=by
 have ff:=I.stack
 have fb0:=funFrames_hide (as:=e::bE _) ff λenv he a ha=>Aa1 _ (Am9.mpr ⟨env,he,ha⟩)
 have free:=I.b9
 have fe:e∉bE _:=λhm=>by
  obtain⟨_,o,ho,nf⟩:=ff.mem hm
  rw [he]at ho
  cases ho
  exact nf _ rfl
 refine wpAny_mono (WO (JJ _ _) (wpAny_leaving_firstW (E:=λ_ _=>False)
  (Q:=λ_ s'=>Heap.LeftW (hideAll s2.heap (e::bE (envOfC k7 scope s.heap.objs.size f cd::outer))) _ e (.ref C) (.ref t) s2.heap s'.heap/\s'= { s2 with heap:=s'.heap })
  I.ok.frames fb0 rfl he (λb o z=>of_hideAll _ z) (hideAll_none _ (Aa3 ..)) rfl rfl rfl λh' hL=>⟨hL,rfl⟩)) (λ_ s' ⟨⟨hL,hs⟩,dk⟩=> ?_) (λ_ _ z=>z.1.elim)
 obtain⟨k1,k2,k3,x4⟩:=hL
 obtain⟨h2,g2,d2,t2,o2⟩:=s'
 simp only [Shared.mk.injEq]at hs
 obtain⟨-,rfl,rfl,rfl,rfl⟩:=hs
 have dU: ∀b o,s2.heap.get? b=y0 o->b≠e->b∉bE _->(hideAll s2.heap (e::bE (envOfC k7 scope s.heap.objs.size f cd::outer))).get? b=y0 o:=λb o z ne n=>hideAll_get _ z (by rw [Ab9];exact λq=>q.elim ne n)
 have toH: ∀b o,s2.heap.get? b=y0 o->b≠e->b∉bE _->h2.get? b=y0 o:=λb o z ne n=>k1 b o (dU b o z ne n)
 have slotH: ∀b o,b∈bE _->s2.heap.get? b=y0 o-> ∃sl,h2.get? b=y0 { o with slots:=sl }:=λb o hb z=>by
  obtain⟨_,o',z',nf⟩:=ff.mem hb
  rw [z]at z'
  cases z'
  exact x4 b o z nf
 have cut: ∀b,b∉bE outer->b≠s.heap.objs.size->b∉bE (envOfC k7 scope s.heap.objs.size f cd::outer):=λb n1 n2 hb=>by
  rcases Ab9.mp (show b∈s.heap.objs.size::bE outer from hb)with z | z
  ·exact n2 z
  ·exact n1 z
 have old: ∀b o,s.heap.get? b=y0 o->b≠s.heap.objs.size:=λb o z=>Ac2 (Ab4 z)
 have olde: ∀b o,s.heap.get? b=y0 o->b≠e:=λb o z q=>by rw [q,new]at z;cases z
 have dF: ∀b u,H1 b=y0 u->b≠e/\b∉bE _:=λb u z=>⟨λq=>(by simp_all),λhb=>(by rw [free b hb]at z;cases z)⟩
 refine⟨e,C,t,_,H1,od,rfl,I.os,I.bare,⟨k1,hideAll_none _ (Aa3 ..),k2.2.2,k3⟩,⟨λb o z n hb hx=> ?_,λb o z n hb hx=> ?_,I.base.free,λb o z hx=> ?_,I.base.cz,I.base.cg,I.base.cA⟩,λb u z=> ?_,λb o z hc hb=> ?_,new,λdx z=> ?_,q⟩
 ·exact toH b o (I.base.keep b o z n hb hx) (olde b o z) (cut b hb (old b o z))
 ·obtain⟨sl,z1⟩:=I.base.slot b o z n hb hx
  obtain⟨sl2,z2⟩:=slotH b _ (Aa1 _ hb) z1
  exact⟨sl2,z2⟩
 ·obtain⟨o',z1⟩:=I.base.there b o z hx
  by_cases hb:b∈bE (envOfC k7 scope s.heap.objs.size f cd::outer)
  ·obtain⟨sl,z2⟩:=slotH b o' hb z1
   exact⟨_,z2⟩
  ·exact⟨o',toH b o' z1 (olde b o z) hb⟩
 ·refine(I.aL b u z).b8 (λc v hc z1=> ?_) (λ_ z1=>z1) λ_ _ z1=>z1
  obtain rfl | hc:=hc
  ·exact toH c v z1 (dF c u z).1 (dF c u z).2
  ·exact toH c v z1 (dF c _ hc).1 (dF c _ hc).2
 ·have two: ∃o2,s2.heap.get? b=y0 o2/\b≠e/\b∉bE (envOfC k7 scope s.heap.objs.size f cd::outer):=by
   obtain⟨u,hu⟩ | ⟨u,hu⟩:=hc
   ·obtain⟨o2,z2⟩:=(I.aL b u hu).there
    exact⟨o2,z2,dF b u hu⟩
   ·obtain⟨o2,z2⟩:=I.base.there b u hu (by show b∉([]:List Addr);simp)
    exact⟨o2,z2,olde b u hu,cut b hb (old b u hu)⟩
  obtain⟨o2,z2,nb⟩:=two
  have z3:=toH b o2 z2 nb.1 nb.2
  rw [show h2.get? b=y0 o from z]at z3
  cases z3
  exact dU b _ z2 nb.1 nb.2
 ·obtain⟨o',e1,e2⟩:=dk e _ he
  exact⟨o',e1,e2.trans z⟩
def J0 (I:Inv (wR (cj P w) P w K mg base N k7 scope f cd A outer s H E) y8 U H1 s2)
 (b:Heap.MadeExcOf s2.heap h' e (.ref C) vs) (q:E (.ref C) u0 H1):(wR (cj P w) P w K mg base N k7 scope f cd A outer s H E).xe (.ref e) { s2 with heap:=h' }:=by
 obtain⟨t,d,_⟩:=b.there
 refine xK (I.kept b.keeps) d ?_ ?_ q
 ·cases z:s.heap.get? e with
  | none=>rfl
  | some u=>
   obtain⟨c,a⟩:=I.base.there e u z (by show e∉ [];simp)
   rw [b.new]at a
   cases a
 ·cases z:H1 e with
  | none=>rfl
  | some u=>
   obtain⟨c,a⟩:=(I.aL e u z).there
   rw [b.new]at a
   cases a
end
def Ml {K:Frag}(X:K.In h) (q:excIn K C bmB newId=k9):
 ∃J L nm j bs i sn sub ab col dd k0 k1 k2 k3 k5 mN,h.get? C=some (excClassObj nm j C L bs J i sn sub ab col dd k0 k1 k2 k3 k5 newId)/\h.Ns L mN/\mN "__init__" =none/\OwnTail h bmB J:=by
 unfold excIn at q
 split at q
 next dd cd sl k=>
  split at q
  next r m k0 k1 k2 k3 nn k5 e p=>
   simp only [Aa6,beq_iff_eq,An2]at q
   obtain⟨⟨⟨⟨⟨rfl,rfl⟩,d⟩,o⟩,a⟩,f⟩:=q
   obtain⟨nm,bs,g,b,j,i,sn,sub,ab,col,n⟩:=cd
   dsimp only at e d a f
   subst e d
   have c:sl= #[k0,k1,k2,k3,y0 (.builtin nn),k5]:=by
    cases sl with
    | mk l=>exact congrArg Array.mk p
   subst c
   exact⟨m,b,nm,j,bs,i,sn,sub,ab,col,dd,k0,k1,k2,k3,k5,_,X _ _ k,.of_isNs (isNs_of_in X a),nsMap_none_of_in X a f,tail_of_in X o⟩
  next=>cases q
 next=>cases q
section
variable {P:Program}{w:World}{K:Frag}{mg:Str->Option Value}{base:Heap}{N:List Str}{k7:Str}{scope:Scope}{f:Addr}{cd:Value}{A:Around}{outer:List Env}{s:Shared}{H:Hp}{E:XK}
abbrev jF:List Value:= [.type "ValueError",.type "Exception",.type "BaseException",.type "object"]
def vb (C:Addr) (E:XK) (t:TA):TS:=λ_ U H=>t U H λa H1=>a.length<=sizeLine/\E (.ref C) u0 H1
def B0 (W:excIn K C jF "ValueError.__new__" =true) (Q:mg x=some (.ref C)) (Z:Gl (wR (cj P w) P w K mg base N k7 scope f cd A outer s H E) x)
 (J:PA (wR (cj P w) P w K mg base N k7 scope f cd A outer s H E) (e::es) t)
 (u:starEach (e::es) (envOfC k7 scope s.heap.objs.size f cd)=(y9,eval e (envOfC k7 scope s.heap.objs.size f cd))::starEach es (envOfC k7 scope s.heap.objs.size f cd):=by rfl)
 (l:(backTo u7 (starEach es (envOfC k7 scope s.heap.objs.size f cd))).any (·.1)=false:=by rfl) (L:(x==("__debug__" :Str))=false:=by decide):
 PS (wR (cj P w) P w K mg base N k7 scope f cd A outer s H E) (.Raise (y0 (.Call (.Name x np) (e::es) [] u7)) u0 pos) (vb C E t):=by
 intro b j U V D I h
 obtain⟨bm,X,B,M,bs,i,G,sub,r,d,dd,n,F,o,y,p,v,Y,S,k,T⟩:=Ml I.mod.kb W
 refine wpAny_Raise_call_subT (nm:=B) (q:=M) (N:=X) (bs:=bs) (hdct:=i) (sn:=G) (sub:=sub) (ab:=r) (col:=d) (dd:=dd) (k0:=n) (k1:=F) (k2:=o) (k3:=y) (k5:=p)
  PySem.F.excBase_ValueError (mN:=v) (T.hasType PySem.F.excBase_ValueError.hasBase) (I.ok.hd rfl) ?_ k (wA I Z Q ⟨rfl,?_⟩ L)
 ·show(backTo u7 (starEach (e::es) (envOfC k7 scope s.heap.objs.size f cd))).any _=y9
  rw [u]
  show(y9||(backTo u7 _).any _)=y9
  rw [l]
  rfl
 ·have hA:=J u7 b j U V _ I h
  show wpAny _ _ (evalArgs _ k9 (backTo u7 (starEach (e::es) (envOfC k7 scope s.heap.objs.size f cd))) []) _ _ j
  have c:wpAny _ _ (spliced (backTo u7 (starEach (e::es) (envOfC k7 scope s.heap.objs.size f cd)))) _ _ j:=hA
  rw [u]at c ⊢
  exact Calls.evalArgs_plain (aJ c λus s2 ⟨vs,H2,g,O,z,R⟩=>⟨rfl,by rw [← O.length];exact z,g.bk _ _ Y,S.keeps g.bk,T.keeps g.bk,λh' a m=>J0 g m R⟩)
def iC.uc {b:Stmt}(F:iC K x k7 b f fd) (S:xA N ps (xk b)) (len: ∀j H Q E,sp j H Q E->j.length=ps.length)
 (a: ∀ i A outer s H j Q E,a9 k (A.deeper (envOfC k7 (xk b) s.heap.objs.size f i))->sp j H Q E →
   ∃t,cG (wR (cj P w) P w K mg base N k7 (xk b) f i A outer s H E) (wH b) t/\t { nx:=λ_ H'=>Q .au H',rt:=Q } (start N j) H):bg P w K mg base (cj P w) (k+1) f fd ps sp:=by
 obtain⟨o,p,kV,e,pm,n,i,m,g,rfl,h,d⟩:=F.ex
 exact DC h d S len λA outer s H j Q E l c=>a i A outer s H j Q E l c
def FO:PassesOwn (model P w) (A.deeper (envOfC k7 scope s.heap.objs.size f cd)) (envOfC k7 scope s.heap.objs.size f cd) (wR (cj P w) P w K mg base N k7 scope f cd A outer s H E).xe:=
 PassesOwn.leaving
end
section
variable {X:Cx}{y8:List (Addr×Obj)}{U:St}{H:Hp}{s:Shared}
def Inv.gd (I:Inv X y8 U H s) (d:Aj3 X.env.locals s.heap h') (m:h'.Ns X.env.locals m')
 (l: ∀(i:Nat) (x:Str) (v:V),X.N[i]? =y0 x->U'[i]? =y0 (y0 v)->iF X.env.scope x-> ∃u,RelV v u/\vt X.env h' m' x u) (len:U'.length=X.N.length):Inv X y8 U' H { s with heap:=h',toks:=t' }:=by
 have a: ∀b o,X.s₀.heap.get? b=y0 o->b≠X.env.locals:=λb o e=>Ac2 (Ab0 (Ab4 e) I.ok.above)
 refine⟨I.ok,I.os,I.bare,⟨λb o e n k g=>(d.2 b (a b o e)).trans (I.base.keep b o e n k g),λb o e n k g=> ?_,I.base.free,λb o e g=> ?_,I.base.cz,I.base.cg,I.base.cA⟩,⟨m',m,l⟩,λy c e=> ?_,I.free,I.bq,λp q=> ?_,λb u e=> ?_,len⟩
 ·obtain⟨sl,j⟩:=I.base.slot b o e n k g
  exact⟨sl,(d.2 b (a b o e)).trans j⟩
 ·obtain⟨t,j⟩:=I.base.there b o e g
  exact⟨t,(d.2 b (a b o e)).trans j⟩
 ·obtain⟨v,z⟩:=I.cell y c e
  exact⟨v,z.sameBut d (I.gv y c e)⟩
 ·obtain⟨e,n,ne,r⟩:=I.pin p q
  exact⟨(d.2 p.1 ne).trans e,n,ne,r⟩
 ·refine(I.aL b u e).b8 (λc v f z=>(d.2 c ?_).trans z) (λ_ z=>z) λ_ _ z=>z
  intro h
  obtain f | f:=f
  ·rw [← f,h,I.free]at e;cases e
  ·rw [h,I.free]at f;cases f
def Inv.iA (I:Inv X y8 U H s) (i:H D=u0) (h1:D≠X.env.locals) (r: ∀x c,X.env.cells.lookup x=y0 c->c≠D) (t: ∀p∈X.pn++y8,p.1≠D) (d: ∀b u,X.s₀.heap.get? b=y0 u->b≠D)
 (new:aO X.prog X.w (aG H D o) s.heap D o):Inv X y8 U (aG H D o) s:=by
 have a: ∀b u,H b=y0 u->aG H D o b=y0 u:=λb u q=>by rw [ja (Wa q i)];exact q
 refine⟨I.ok,I.os,I.bare,⟨I.base.keep,I.base.slot,λb u e n k=> ?_,I.base.there,λb f q=>a b _ (I.base.cz b f q),λb u v q=>a b _ (I.base.cg b u v q),λb l q=> ?_⟩,I.loc,I.cell,?_,λx c q=> ?_,λp h=> ?_,λb u q=> ?_,I.len⟩
 ·rw [ja (d b u e)];exact I.base.free b u e n k
 ·obtain⟨more,m⟩:=I.base.cA b l q
  exact⟨more,a b _ m⟩
 ·rw [ja (Ne.symm h1)];exact I.free
 ·rw [ja (r x c q)];exact I.bq x c q
 ·obtain⟨j,a2,a3⟩:=I.pin p h
  exact⟨j,by rw [ja (t p h)];exact a2,a3⟩
 ·by_cases g:b=D
  ·subst g
   rw [wb]at q
   cases q
   exact new
  ·rw [ja g]at q
   exact(I.aL b u q).b8 (λ_ _ _ z=>z) (λc z=>a c _ z) λc f z=>a c _ z
def LY (I:Inv X y8 U H s) (D:X.N.Nodup) (q:X.N[i]? =y0 n) (p:X.env.scope.names.lookup n=y0 .local)
 (h: ∀s',Inv X y8 (U.set i u0) H s'->Q () s'):wpAny M A (do bindName X.env n .none;unbindBehindTheSuite X.env n hp) Q E s:=by
 have g:(X.env.scope.kind== .class||(X.env.scope.kind== .module&&X.env.locals != X.env.globals))=false:=by rw [I.ok.kind];rfl
 have C:X.env.kindOf n=y0 .local:=p
 have f:i<U.length:=by rw [I.len];exact(Ac0.mp q).1
 refine wpAny_bind (wpAny_bindName (Xn I D q (.inl p) (v:= .au) rfl (λK w=> ?_) (.inr p)))
 obtain⟨m,hn,a⟩:=w.loc
 have d:(m n).isSome=true:=by
  obtain⟨u,_,l⟩:=a i n .au q (Ad0 f) (.inl p)
  obtain⟨_,e⟩ | ⟨z,_⟩:=l
  ·rw [e];rfl
  ·rcases z with z | z<;>(rw [C]at z;cases z)
 refine wpAny_onRaise ?_
 refine wpAny_bind (wpAny_point (wpAny_bind ?_))
 unfold deleteName
 simp only [C,g]
 refine wpAny_bind (wpAny_nsDel_keeps hn λJ v x o=> ?_)
 rw [d]
 refine wpAny_pure (wpAny_point (h _ ?_))
 refine w.gd o x (λj y F B t G=> ?_) (by rw [Ae0];exact I.len)
 have b:j≠i:=λz=>by
  subst z
  rw [Ad0 f]at t
  cases t
 rw [Ad (Ne.symm b)]at t
 obtain⟨u,r,l⟩:=a j y F B (by rw [Ad (Ne.symm b)];exact t) G
 refine⟨u,r,?_⟩
 obtain⟨k,e⟩ | ⟨k,c,e,z⟩:=l
 ·refine .inl ⟨k,?_⟩
  have:y≠n:=λe=>b (xP D B (e▸q))
  simp [this,e]
 ·exact .inr ⟨k,c,e,z.sameBut o (w.gv y c e)⟩
end
def W0 {K:Frag}(X:K.In s.heap) (I:ExcAt s.heap x C) (z:kitCls K (.ref C) (.ref W)=some true) (f:mroIn K W (.type "BaseException")=some true) (c:Q true s):
 wpAny (model prog w) A (excMatches (.ref x) (.ref W)) Q E s:=by
 obtain⟨a,i,dd,j,k⟩:=s
 obtain⟨e,b,l⟩:=kit_cls X z
 have d:=looks_mroIn (M:=model prog w) X f
 have g:=I.type (M:=model prog w)
 have h:Looks (model prog w) a (isInstance _ _) false:=e.andThen (Looks.of_pure tc_notTuple)
 have m:Looks _ a (isExcClass _) true:=b.andThen d
 repeat lk
 exact c
def X0 {j s':Shared}(i:Inv X y8 U H1 j) (r:s'.os=j.os) (f:AllBare s'.gens) (un:Un (bE X.stack) [] H1 H' j.heap s'.heap) (q:cF X.prog X.w H' s'.heap)
 (comp: ∀b o,s'.heap.get? b=y0 o->((∃ u,H' b=y0 u)\/ ∃u,j.heap.get? b=y0 u)->b∉bE X.stack->B.get? b=y0 o) (h:Al B X.stack x (.ref C) (.ref t) h6) (s:s'.heap.UpToSlots h6):Inv X y8 U H' { s' with heap:=h6 }:=by
 have dF: ∀c u,H' c=y0 u->c∉bE X.stack:=λc u z d=>by
  obtain⟨_,o,e,_⟩:=i.stack.mem d
  have:=un.free c o e (i.b9 c d) (by simp)
  rw [this]at z
  cases z
 refine i.hV (s':= { s' with heap:=h6 }) (ch:= []) r ⟨λb o e n a g=> ?_,λb o e n a g=> ?_,un.free,λb o e g=> ?_,un.cz,un.cg,un.cA⟩ (λb u e=> ?_) f λb a=>absurd a (by simp)
 ·exact h.1 b o (comp b o (un.keep b o e n a g) (.inr ⟨o,e⟩) a)
 ·obtain⟨sl,m⟩:=un.slot b o e n a g
  obtain⟨_,k,l,w⟩:=i.stack.mem a
  rw [e]at l
  cases l
  obtain⟨p,y⟩:=s b _ m w
  exact⟨p,y⟩
 ·obtain⟨k,m⟩:=un.there b o e g
  by_cases a:b∈bE X.stack
  ·obtain⟨_,A,l,_⟩:=h.2.2.1.mem a
   exact⟨A,l⟩
  ·exact⟨k,h.1 b k (comp b k m (.inr ⟨o,e⟩) a)⟩
 ·refine(q b u e).b8 (λc v d z=> ?_) (λ_ z=>z) λ_ _ z=>z
  obtain rfl | d:=d
  ·exact h.1 c v (comp c v z (.inl ⟨u,e⟩) (dF c u e))
  ·exact h.1 c v (comp c v z (.inl ⟨_,d⟩) (dF c _ d))
def Q0 {R:Heap->Prop}(k:KD t) (h: ∀i:Unit->Shared->Prop,(∀ h',R h'->i () { s with heap:=h' })->wpAny M A t i E s) (g: ∀h',R h'->DK s.heap h'->Q () { s with heap:=h' }):wpAny M A t Q E s:=
 wpAny_mono (WO k (h (λ_ a=> ∃h',a= { s with heap:=h' }/\R h') λh' r=>⟨h',rfl,r⟩)) (λ_ a ⟨⟨h',e,r⟩,b⟩=>by subst e;exact g h' r b) (λ_ _ z=>z.1)
def Fb 
 (h:X.stack=X.env::X.outer) (hf:X.env.frame=some X.env.locals) (hex:X.ex= []) (hW:Gl X wx) (hmW:X.mg wx=some (.ref W)) (T:mroIn X.K W (.type "BaseException")=some true) (hN:X.N.Nodup) (g:X.N[M]? =some n) (f:X.env.scope.names.lookup n=some .local)
 (O:X.N[iv]? =some v) (I:X.env.scope.names.lookup v=some .local) (hs2:swapsWith (.Name n np) (some (.Name v vp)) ap.line X.env=pure false) (hdW:(wx==("__debug__" :Str))=false) (hdn:(n==("__debug__" :Str))=false)
 (i:Inv X y8 U H1 s1) (hq:cj X.prog X.w X.stack H1 s1 (λcls od H2=> ∃C,cls= .ref C/\gi X.K C/\kitCls X.K (.ref C) (.ref W)=y0 k9 ∧
   ∀x,H2 x=u0->D.nx (((U.set M (y0 (.ref x))).set iv (y0 (.ref x))).set M u0) (aG H2 x (eX x C od))) ev s'):
 wpAny (model X.prog X.w) X.A (noteFrame ev X.env) (λ_ s2=>wpAny (model X.prog X.w) X.A (setFlight ev u0) (λ_ s3=>wpAny (model X.prog X.w) X.A (handleBy ev X.env [.ExceptHandler (y0 (.Name wx wq)) (y0 n) [.Assign [.Name v vp] (.Name n np) ap] hp]) (SP X y8 D) X.xe s3) X.xe s2) X.xe s':=by
 obtain⟨x,t,N,B,H',od,rfl,os,j,fl,un,l,comp,new,gw,C,hC,Z,kc,q2⟩:=hq
 cases hC
 have hfr:X.A.frames=y0 (X.env::X.outer):=by rw [← h];exact i.ok.frames
 have fl0:Al B (X.env::X.outer) x (.ref t) (.ref N) s'.heap:=by rw [← h];exact fl
 refine Q0 (R:=λw=>Heap.HeldW B (X.env::X.outer) x (.ref t) (.ref N) X.env.locals w/\s'.heap.UpToSlots w) (tT _ _) (λQ' k=>wpAny_looks_onW hfr hf fl0 λw a b=>k w ⟨a,b⟩) ?_
 rintro w ⟨H,G⟩ dk4
 refine Q0 (R:=λq=>Al B (X.env::X.outer) x (.ref t) (.ref N) q/\w.UpToSlots q) (wG _ _) (λQ' k=>wpAny_landsW H λq a b=>k q ⟨a,b⟩) ?_
 rintro q ⟨r,E⟩ dk5
 have J:=X0 i os j un l comp (by rw [h];exact r) (G.trans E)
 have S:ExcAt q x t:=r.there
 refine wpAny_handleBy_cons (codeAny_handlers_test (Calls.Name_function_global J.ok.kind hW (Calls.loadGlobal_global (by rw [J.ok.glob];exact J.mod.glob.keeps J.bk) hmW ?_) hdW)) (λz=>nomatch z)
 refine W0 J.bH S kc T ?_
 refine codeAny_handlers_suite_as ?_
 refine Q0 (R:=λs=>Al B (X.env::X.outer) x (.ref t) (.ref N) s/\q.UpToSlots s) (wG _ _) (λQ' k=>lands_againW r λs a b=>k s ⟨a,b⟩) ?_
 rintro s ⟨A,sm6⟩ Q
 have I6:=X0 i os j un l comp (by rw [h];exact A) ((G.trans E).trans sm6)
 have L:H' x=none:=by
  cases z:H' x with
  | none=>rfl
  | some u=>
   obtain⟨o,P⟩:=(l x u z).there
   have nf:x∉bE X.stack:=λhx=>by
    obtain⟨_,o2,e2,_⟩:=i.stack.mem hx
    rw [new]at e2
    cases e2
   have e3:=comp x o P (.inl ⟨u,z⟩) nf
   rw [fl.2.1]at e3
   cases e3
 have d: ∀b o,s1.heap.get? b=y0 o->b≠x:=λb o z e=>by rw [e,new]at z;cases z
 obtain⟨o6,vs6,e6,c6,d6,_⟩:=A.first
 have I7:Inv X y8 U (aG H' x (eX x t od)) { s' with heap:=s }:=by
  refine I6.iA L (λz=> ?_) (λy c z=> ?_) (λp hp=> ?_) (λb u z=> ?_) (BX e6 c6 (by unfold notCls;rw [d6]) λdx z=> ?_)
  ·obtain⟨m,⟨o,_,_,K,_⟩,_⟩:=i.loc
   exact d _ o K z.symm
  ·obtain⟨_,o,K,_⟩:=i.cell y c z
   exact d c o K
  ·exact d p.1 _ (i.pin p hp).1
  ·obtain⟨o,K⟩:=i.base.there b u z (by rw [hex];simp)
   exact d b o K
  ·obtain⟨o,e0,d0⟩:=gw dx z
   obtain⟨o',P,d1⟩:=((dk4.trans dk5).trans Q) x o e0
   have:=e6.symm.trans P
   cases this
   exact d1.trans d0
 refine Xn I7 hN g (.inl f) (v:= .ref x) rfl (λs8 I8=> ?_) (.inr f)
 have V:M<U.length:=by rw [i.len];exact(Ac0.mp g).1
 obtain⟨m8,hn8,Y⟩:=I8.loc
 obtain⟨u8,r8,l8⟩:=Y M n _ g (Ad0 V) (.inl f)
 cases r8
 have F:X.env.kindOf n=y0 .local:=f
 have em:m8 n=y0 (.ref x):=by
  rcases l8 with⟨_,z⟩ | ⟨z,_⟩
  ·exact z
  ·rcases z with z | z<;>(rw [F]at z;cases z)
 refine wpAny_execs_cons (wpAny_Assign_Name (wpAny_Name (wpAny_loadName_local I8.ok.kind F hn8 em ?_) hdn) hs2)
 refine Xn I8 hN O (.inl I) (v:= .ref x) rfl (λs9 I9=> ?_) (.inr I)
 refine wpAny_execs_nil ?_
 exact LY I9 hN g f λs10 I10=>⟨_,_,I10,q2 x L⟩
def bM (X:Cx) (g n v:Str) (h f j l k:Pos) (i:Stmt) (t:TS):Prop:=
 ∀(y8:List (Addr×Obj)) (s:Shared) (U:St) (H:Hp) (D:hU) (b:Flow->Shared->Prop),Inv X y8 U H s->t D U H->(∀ s c H',Inv X y8 c H' s->D.nx c H'->b .next s) →
  wpAny (model X.prog X.w) X.A (execs [i] X.env) b (λa s'=>wpAny (model X.prog X.w) X.A (noteFrame a X.env) (λ_ d=>wpAny (model X.prog X.w) X.A (setFlight a u0) (λ_ e=>wpAny (model X.prog X.w) X.A (handleBy a X.env [.ExceptHandler (y0 (.Name g h)) (y0 n) [.Assign [.Name v f] (.Name n j) l] k]) (SP X y8 D) X.xe e) X.xe d) X.xe s') s
def IM (K:Aa7) (b c:TE):TE:=λU H Q=>b U H λx H1=>c U H1 λy H2=>y= .int (-1)/\ ∃a xs,x= .ref a/\aZ K H2 a xs/\ ∀p,H2 p=u0->Q (.ref p) (aG H2 p (.lst xs.reverse))
theorem sD: ∀ {xs}{i},Vals xs i->Vals xs.reverse i.reverse
 | _,_,.nil=> .nil
 | _::_,_::_,.cons r t=>by
  rw [Al4,Al4]
  exact(sD t).append (.cons r .nil)
def DX {e g:Expr}(D:PE X e te) (p:PE X g tk) (z: ∀l a,subscripted (.Slice u0 u0 (y0 g) p2) y9 l a=operate [l,a] (getItem l a):=by intro l a;with_unfolding_all rfl):PE X (.Subscript e (.Slice u0 u0 (y0 g) p2) pos) (IM X.K te tk):=by
 intro c s U H Q I h
 refine Subscript_ (aJ (D c s U H _ I h) ?_)
 rintro v o ⟨x,C,m,F,w⟩
 refine wpAny_Slice ?_
 refine wpAny_pure (wpAny_pure ?_)
 refine aJ (p c o U C _ m w) ?_
 rintro L j ⟨y,G,E,u,A⟩
 obtain⟨rfl,a,K,rfl,t,q⟩:=A
 obtain⟨d,rfl⟩:=u
 cases F
 have f:Inv X c U G { j with heap:=j.heap.push { cls:= .type "slice",data:= .fields #[.none,.none,.int (-1) d] } }:=E.kept fun b J q=>Heap.get?_push_of_some _ q
 obtain⟨n,r,k,B⟩:=f.list t
 have i:=r.length
 refine tail_any k.isList.typeIs slot_list_getitem.lookup ?_ (z _ _)
 refine wpAny_getItem_list_slice k.isList (Heap.IsSliceOf.new ..) .none .none (.int (-1) d) (by decide) ?_ (by simp_all)
 rw [krv_pick]
 refine⟨.ref _,_,f.laid (λb J q=>Aa2 _ q) (Aa5 _) ?_,rfl,q _ (f.aL.fresh (Aa5 _))⟩
 exact⟨by rw [List.length_reverse];exact B,_,0,sD r,Ab6 _ rfl⟩
def bg.calm {K:Frag}(F:bg P w K mg base (cj P w) k f fd ps sp)
 (h: ∀i H Q E,sp0 i H Q E->sp i H Q (λ_ _ _=>False)):bg P w K mg base lF k f fd ps sp0:=by
 refine⟨λi H Q E q=>F.len i H Q _ (h _ _ _ _ q),λA a s H b o i Q E j l e n g=>codeAny_mono (F.run A a s H b o i Q _ j l e n (h _ _ _ _ g)) λres r c=> ?_⟩
 cases res with
 | ok d=>
  cases d with
  | ret u=>exact c
  | next=>exact c
  | brk=>exact c
  | cont=>exact c
 | error p=>
  obtain⟨x,C,t,B,v,_,_,_,_,_,_,_,_,_,_,m⟩:=c
  exact m
def CO:bootBuiltins "ValueError" =some (.type "ValueError"):=by decide +kernel
noncomputable def iI (x:Str):It:=⟨λi _=> ∃c,x.cps[i]? =y0 c,λi H y H'=>H'=H/\ ∃c,x.cps[i]? =y0 c/\y= .str ⟨#[c]⟩,λi _=>x.cps[i]? =u0⟩
def EM {K:PySem.W.Frag}(it) (x) (t):gI P w K tg (iI x) [it] it (λi h=>h.IsStrIter it "str_ascii_iterator" x t i) where
 mem:=by simp
 obj:=λi h a b g=>by
  have e:=by simpa using g
  subst e
  obtain⟨o,e,c,d⟩:=a
  exact⟨o,e,λv z=>by rw [d]at z;cases z⟩
 keep:=λi h q a k=>by
  obtain⟨o,e,c,d⟩:=a
  exact⟨o,k it (by simp) o e,c,d⟩
 item:=by
  intro X hP D M B i f s U H E I l a y
  obtain⟨c,A⟩:=y
  obtain⟨p,r,F,u,n,m⟩:=l it (by simp)
  refine wpAny_pyNext_ascii_item a A λq j G=> ?_
  have C:Inv X f U H { s with heap:=q,toks:=s.toks+1 }:=I.turned (λb o g e=>(G.2 b g).trans e) p r u n m
  obtain⟨o,e,L,d⟩:=id j
  exact⟨_,rfl,kr e L d (by decide) ⟨.str ⟨#[c]⟩,H,C,⟨_,rfl⟩,⟨rfl,c,A,rfl⟩,j,λb g=>(l b g).1⟩⟩
 done:=by
  intro X hP D M B i f s U H E I l a y
  obtain⟨p,r,F,u,n,m⟩:=l it (by simp)
  exact wpAny_pyNext_ascii_end (I.ok.hd B) a y λq J=>⟨rfl,I.turned (λb o g e=>J b o g e) p r u n m⟩
 self:=λ_ _ _ _ _ a h=>wpAny_pyIter_striter_ascii a h
def EZ {K:PySem.W.Frag}(it) (x) (t):gI P w K tg (iI x) [it] it (λi h=>h.IsStrIter it "str_iterator" x t i) where
 mem:=by simp
 obj:=λi h a b g=>by
  have e:=by simpa using g
  subst e
  obtain⟨o,e,c,d⟩:=a
  exact⟨o,e,λv z=>by rw [d]at z;cases z⟩
 keep:=λi h q a k=>by
  obtain⟨o,e,c,d⟩:=a
  exact⟨o,k it (by simp) o e,c,d⟩
 item:=by
  intro X hP D M B i f s U H E I l a y
  obtain⟨c,A⟩:=y
  obtain⟨p,r,F,u,n,m⟩:=l it (by simp)
  refine wpAny_pyNext_wide_item a A λq j G=> ?_
  have C:Inv X f U H { s with heap:=q,toks:=s.toks+1 }:=I.turned (λb o g e=>(G.2 b g).trans e) p r u n m
  obtain⟨o,e,L,d⟩:=id j
  exact⟨_,rfl,kr e L d (by decide) ⟨.str ⟨#[c]⟩,H,C,⟨_,rfl⟩,⟨rfl,c,A,rfl⟩,j,λb g=>(l b g).1⟩⟩
 done:=by
  intro X hP D M B i f s U H E I l a y
  obtain⟨p,r,F,u,n,m⟩:=l it (by simp)
  exact wpAny_pyNext_wide_end (I.ok.hd B) a y λq J=>⟨rfl,I.turned (λb o g e=>J b o g e) p r u n m⟩
 self:=λ_ _ _ _ _ a h=>wpAny_pyIter_striter_wide a h
def En (K:Aa7) (b:TE):TI:=λU H R=>b U H λx H1=>(∃ a,x= .ref a/\(∃ xs,aZ K H1 a xs)/\R (lO K a) H1)\/(∃ a,x= .ref a/\(∃ xs,bB K H1 a xs)/\R (ke K a) H1)\/ ∃z,x= .str z/\R (iI z) H1
def ny (r:PE X l tl):PI X tg l (En X.K tl):=by
 intro g s U H R I h
 refine aJ (r g s U H _ I h) ?_
 rintro v d ⟨x,i,c,m,w⟩
 obtain⟨a,e,⟨u,k⟩,q⟩ | ⟨a,e,⟨u,k⟩,q⟩ | ⟨z,e,q⟩:=w
 ·subst e
  cases m
  obtain⟨j,rv,p,y⟩:=c.list k
  refine wpAny_pyIter_list p.isList ?_
  refine⟨d.heap.objs.size,[d.heap.objs.size],_,_,i,rfl,c.kept λb o e=>Aa2 _ e,Ig a _,⟨_,Ab6 _ rfl,rfl,rfl⟩,λb f=> ?_,q⟩
  have e:=by simpa using f
  subst e
  exact c.cP (Aa5 _) (c.aL.fresh (Aa5 _))
 ·subst e
  cases m
  obtain⟨j,rv,p,y⟩:=c.tuple k
  refine wpAny_pyIter_tuple (p) ?_
  refine⟨d.heap.objs.size,[d.heap.objs.size],_,_,i,rfl,c.kept λb o e=>Aa2 _ e,Dx a _,⟨_,Ab6 _ rfl,rfl,rfl⟩,λb f=> ?_,q⟩
  have e:=by simpa using f
  subst e
  exact c.cP (Aa5 _) (c.aL.fresh (Aa5 _))
 ·subst e
  obtain⟨t,rfl⟩:=m
  cases n:z.cps.all (· <128)with
  | true=>
   refine wpAny_pyIter_ascii n ?_
   refine⟨d.heap.objs.size,[d.heap.objs.size],_,_,i,rfl,c.kept λb o e=>Aa2 _ e,EM _ z t,⟨_,Ab6 _ rfl,rfl,rfl⟩,λb f=> ?_,q⟩
   have e:=by simpa using f
   subst e
   exact c.cP (Aa5 _) (c.aL.fresh (Aa5 _))
  | false=>
   refine wpAny_pyIter_wide n ?_
   refine⟨d.heap.objs.size,[d.heap.objs.size],_,_,i,rfl,c.kept λb o e=>Aa2 _ e,EZ _ z t,⟨_,Ab6 _ rfl,rfl,rfl⟩,λb f=> ?_,q⟩
   have e:=by simpa using f
   subst e
   exact c.cP (Aa5 _) (c.aL.fresh (Aa5 _))
section
variable {X:Cx}
def Vals.iX (r:Vals xs us){i:Nat}(h:us[i]? =y0 u): ∃x,xs[i]? =y0 x/\RelV x u:=by
 have d:=r.length
 have f:=(Ac0.mp h).1
 have a:i<xs.length:=by lia
 obtain⟨e,b,c⟩:=r.get (Aa4 a)
 rw [h]at b
 cases b
 exact⟨_,Aa4 a,c⟩
def Mo (bs:List Bool):(Aa0 bs.length).all (λi=>bs.getD i y9)=bs.all id:=by
 induction bs with
 | nil=>rfl
 | cons b bs a=>
  rw [Ab8,Af3,Ai1,Am1,Ai1,←a]
  rfl
def Cs {bs:List Bool}(r:Vals (bs.map V.bl) its):TruthOf P w A (λi v=>its.toArray[i]? =y0 v) (λi=>bs.getD i y9):=by
 intro i v s Q E hP f
 obtain⟨x,a,d⟩:=r.iX (by simpa using hP)
 rw [Ac4]at a
 cases c:bs[i]? with
 | none=>rw [c]at a;cases a
 | some b=>
  rw [c]at a
  cases a
  cases d
  refine wpAny_truthy_bool ?_
  have e:bs.getD i y9=b:=by rw [Ab5,c];rfl
  rw [← e]
  exact f
def IW (t:X.calm=k9):zm X (.builtin "all") (fun xs H Q=> ∃p,∃bs:List Bool,xs= [.ref p]/\aZ X.K H p (bs.map V.bl)/\Q (.bl (bs.all id)) H):=by
 intro c s U H xs x Q I r h
 obtain⟨p,bs,rfl,v,q⟩:=h
 obtain⟨u,rfl,k⟩:=zI r
 cases k
 obtain⟨d,rv,pl,w⟩:=I.list v
 have a:=rv.length
 rw [Aa]at a
 refine call_all_walk (wpAny_pyIter_list pl.isList ?_)
 have f:p≠s.heap.objs.size:=by
  obtain⟨o,m,_⟩:=pl.isList
  exact Ac2 (Ab4 m)
 refine⟨s.heap.objs.size,_,_,_,_,_,λi=>bs.getD i y9,rfl,Walks.list (A:=X.A.in1) (I.ok.hd t) _ p f d.toArray,⟨⟨_,Ab6 _ rfl,rfl,rfl⟩,pl.isList.at λo e=>Aa2 _ e⟩,Cs rv,λn l j=> ?_⟩
 have g:Inv X c U H { s with heap:=n,toks:=l }:=I.kept λb o e=>j b o (by simp;exact Ac2 (Ab4 e)) (Aa2 _ e)
 refine⟨.bl _,H,g,?_,q⟩
 show _=_
 rw [Aa8,←a,Mo]
def fR:List Int->Int
 | []=>0
 | i::r=>i+fR r
theorem WW: ∀(xs) (x),fR (xs++ [x])=fR xs+x
 | [],x=>by simp [fR]
 | y::a,x=>by
  show y+fR (a++ [x])=y+fR a+x
  rw [WW a x];omega
theorem WD (a:List Int): ∀j,j<=a.length->preSum (λi=>a.getD i 0) j=fR (a.take j)
 | 0,_=>rfl
 | j+1,h=>by
  rw [preSum,WD a j (by omega),List.take_succ,Aa4 (by omega)]
  show _=fR (a.take j++ [a[j]])
  rw [WW,Ab5,Aa4 (by omega)]
  rfl
end
section
variable {X:Cx}
theorem zR: ∀ {ss}{i},Vals (ss.map V.str) i->StrsAre i ss
 | [],i,r=>by cases r;exact .nil
 | z::ss,i,r=>by
  cases r with
  | cons h t=>
   obtain⟨k,rfl⟩:=h
   exact .cons _ _ (zR t)
end
section
variable {X:Cx}
def Cq:bG X (binaryOp .Add) (λx y H Q=> ∃a b ys,x= .ref a/\y= .ref b/\bB X.K H a []/\bB X.K H b ys/\Q (.ref b) H):=by
 intro k s U H x y v u Q I A B h
 obtain⟨a,b,ys,rfl,rfl,p,C,q⟩:=h
 cases A
 cases B
 obtain⟨r,F,D,_⟩:=I.tuple p
 obtain⟨d,J,w,_⟩:=I.tuple C
 cases F
 obtain⟨⟨G,dd,o,sl⟩,m,E,n,t⟩:=id D
 obtain⟨⟨l,e,j,f⟩,c,i,z,g⟩:=id w
 subst E t i g
 exact concat_meets ⟨_,m,rfl⟩ ⟨_,c,rfl⟩ noFill_tuple_add seq_tuple_add PySem.F.slot_tuple_add PySem.F.entry_tuple_add (PySem.F.args_tuple_add_2 _ _)
  (tuple_addW0 a b _ d.toArray n z dd e sl f rfl) ⟨m,c,.ref b,H,I,rfl,q⟩
def Bm (E:X.calm=k9):zm X (.builtin "sum") (fun xs H Q=> ∃p,∃j:List Int,xs= [.ref p]/\aZ X.K H p (j.map V.int)/\Q (.int (fR j)) H):=by
 intro d s U H xs K Q I r h
 obtain⟨p,j,rfl,F,q⟩:=h
 obtain⟨u,rfl,y⟩:=zI r
 cases y
 obtain⟨l,rv,pl,J⟩:=I.list F
 have a:=rv.length
 rw [Aa]at a
 refine call_sum_walkG (wpAny_pyIter_list pl.isList ?_)
 have f:p<s.heap.objs.size:=by
  obtain⟨o,B,_⟩:=pl.isList
  exact Ab4 B
 have k:s.heap.objs.size<(s.heap.push { cls:= .type "list_iterator",data:= .fields #[.ref p,.int 0 0] }).objs.size:=Heap.lt_size (Heap.get?_push_size _ rfl)
 refine⟨s.heap.objs.size,_,_,_,_,_,λi=>j.getD i 0,rfl,Walks.list (A:=X.A.in1) (I.ok.hd E) _ p (Ac2 f) l.toArray,⟨⟨_,Ab6 _ rfl,rfl,rfl⟩,pl.isList.at λo e=>Aa2 _ e⟩,λb c=> ?_,λi v G=> ?_,λC z D w=> ?_⟩
 ·simp [or_false]at c
  obtain rfl | rfl:=c
  ·exact k
  ·exact Nat.lt_trans f k
 ·obtain⟨x,g,m⟩:=rv.iX (by simpa using G)
  rw [Ac4]at g
  cases c:j[i]? with
  | none=>rw [c]at g;cases g
  | some b=>
   rw [c]at g
   cases g
   obtain⟨t,rfl⟩:=m
   exact⟨t,by show Value.int b t=Value.int (j.getD i 0) t;rw [Ab5,c];rfl⟩
 ·have n:Inv X d U H { s with heap:=C,toks:=z }:=I.kept λb o e=>w b o (by simp;exact Ac2 (Ab4 e)) (Aa2 _ e)
  refine⟨.int _,H,n,⟨D,?_⟩,q⟩
  rw [Aa8,←a,WD j _ (Aa5 _),An8]
theorem Wr: ∀ {j}{i},Vals (j.map V.int) i-> ∃ps:List (Int×Tok),i=ps.map (λp=> .int p.1 p.2)/\ps.map (·.1)=j
 | [],i,r=>by cases r;exact⟨[],rfl,rfl⟩
 | n::j,i,r=>by
  cases r with
  | cons h t=>
   obtain⟨k,rfl⟩:=h
   obtain⟨ps,a,b⟩:=Wr t
   exact⟨(n,k)::ps,by rw [a];rfl,by rw [← b];rfl⟩
def Jz (f:Int->Int->Bool):List Int->Int->Int
 | [],a=>a
 | b::r,a=>Jz f r (if f b a then b else a)
theorem zW (f): ∀ l b a,Jz f (l++ [b]) a=if f b (Jz f l a)then b else Jz f l a
 | [],b,a=>rfl
 | c::l,b,a=>by
  show Jz f (l++ [b]) _=_
  rw [zW f l b]
  rfl
theorem ya (f) (val:Nat->Int): ∀n,val (argBest (λi j=>f (val i) (val j)) n)=Jz f ((Aa0 n).map λi=>val (i+1)) (val 0)
 | 0=>rfl
 | n+1=>by
  have a:=ya f val n
  rw [List.range_succ,Ac6,Ab,Ad1,zW,←a,argBest]
  by_cases q:f (val (n+1)) (val (argBest (λi j=>f (val i) (val j)) n))=k9
  ·simp only [q,if_true]
  ·simp only [q,if_false,Ag7]
def si {c:List (Int×Tok)}(e:c.map (·.1)=n::ns) (f)
 (h:(intItems c.toArray)[argBest (λi j=>f (numAt c.toArray i) (numAt c.toArray j)) (c.toArray.size-1)]? =y0 v): ∃t,v= .int (Jz f ns n) t:=by
 obtain⟨t,rfl⟩:=intItems_at h
 refine⟨t,?_⟩
 rw [ya f (numAt c.toArray)]
 have g:=by
  have:=congrArg List.length e
  simpa using this
 have d: ∀i,numAt c.toArray i=(n::ns).getD i 0:=λi=>by
  rw [← e,Ab5,Ac4]
  unfold numAt
  rw [List.getElem?_toArray]
  all_goals (cases c[i]? )
 have k:(Aa0 (c.toArray.size-1)).map (λi=>numAt c.toArray (i+1))=ns:=by
  rw [Aa8,g,Nat.add_sub_cancel]
  apply Al9
  ·simp
  ·intro i a b
   simp only [Ai5,Ai9,d]
   rw [Ab5,List.getElem?_cons_succ,Aa4 b]
   rfl
 rw [k,d 0]
 rfl
def Ck (l:X.calm=k9):zm X (.builtin "max") (fun xs H Q=> ∃p n,∃i:List Int,xs= [.ref p]/\aZ X.K H p ((n::i).map V.int)/\Q (.int (Jz (fun a b=>decide (a>b)) i n)) H):=by
 intro d s U H xs B Q I r h
 obtain⟨p,n,i,rfl,m,q⟩:=h
 obtain⟨u,rfl,k⟩:=zI r
 cases k
 obtain⟨g,rv,pl,z⟩:=I.list m
 obtain⟨c,rfl,x⟩:=Wr rv
 have f:s.heap.IsList p (intItems c.toArray):=by
  have e:intItems c.toArray=(c.map λp=>Value.int p.1 p.2).toArray:=by simp [intItems]
  rw [e]
  exact pl.isList
 refine max_intList (I.ok.hd l) f (by grind) λv A y w j=> ?_
 obtain⟨t,rfl⟩:=si x (λa b=>decide _) w
 exact⟨.int _,H,I.kept λb o e=>j b o e,⟨t,rfl⟩,q⟩
def FL (l:X.calm=k9):zm X (.builtin "min") (fun xs H Q=> ∃p n,∃i:List Int,xs= [.ref p]/\aZ X.K H p ((n::i).map V.int)/\Q (.int (Jz (fun a b=>decide (a<b)) i n)) H):=by
 intro d s U H xs B Q I r h
 obtain⟨p,n,i,rfl,m,q⟩:=h
 obtain⟨u,rfl,k⟩:=zI r
 cases k
 obtain⟨g,rv,pl,z⟩:=I.list m
 obtain⟨c,rfl,x⟩:=Wr rv
 have f:s.heap.IsList p (intItems c.toArray):=by
  have e:intItems c.toArray=(c.map λp=>Value.int p.1 p.2).toArray:=by simp [intItems]
  rw [e]
  exact pl.isList
 refine min_intList (I.ok.hd l) f (by grind) λv A y w j=> ?_
 obtain⟨t,rfl⟩:=si x (λa b=>decide _) w
 exact⟨.int _,H,I.kept λb o e=>j b o e,⟨t,rfl⟩,q⟩
end
open PySem PySem.Spec PyProof.Rows PySem.MeetsSeq
section
variable {X:Cx}
def yX {e:Nat->Bool}(m:IsTup s.heap a items)
 (p: ∀i y,items[i]? =y0 y->PySem.SeqAt.EqAt A.in1 s y x (e i)) (t:j<items.size) (f:e j=k9) (k: ∀i,i<j->e i=y9) (h: ∀t',Q (.int (j:Int) t') { s with toks:=s.toks+1 }):
 wpAny (model prog w) A (call (.builtin "tuple.index") [.ref a,x]) Q E s:=by
 refine wpAny_call_entry F.slot_tuple_index m.typeIs F.entry_tuple_index ?_ (F.args_tuple_index_2 _ _)
 refine wpAny_bind (wpAny_of_eq (show PySem.selfAndSome "tuple.index" "index" 1 3 ⟨[.ref a,x],[]⟩=pure (Value.ref a,[x])from rfl) ?_)
 refine wpAny_bind (tupleItemsOf_ m ?_)
 refine wpAny_bind (wpAny_pure (wpAny_bind (wpAny_pure (wpAny_bind ?_))))
 rw [Nat.min_self,Std.Legacy.Range.forIn_eq_forIn_range']
 refine wpAny_forIn_list _ (λrest b g=>g=s/\b=(u0,())/\ ∃i,i<=j/\rest=List.range' i (items.size-i)) _ ?_ ?_ _ _ ⟨rfl,rfl,0,Ah2 _,by simp⟩
 ·rintro i rest b g ⟨rfl,rfl,i0,r,c⟩
  have d:items.size-i0=(items.size-(i0+1))+1:=by lia
  rw [d,List.range'_succ]at c
  injection c with o n
  subst o
  have l:i<items.size:=by lia
  rw [Array.getElem?_eq_getElem l]
  refine wpAny_bind (p i items[i] (Array.getElem?_eq_getElem l) prog w _ _ ?_)
  by_cases q:i=j
  ·subst q
   rw [f,if_pos rfl]
   refine wpAny_bind (wpAny_bind (wpAny_mkInt ?_))
   exact wpAny_pure (wpAny_pure (wpAny_pure ⟨_,rfl,h _⟩))
  ·rw [k i (by lia),if_neg Ab7]
   exact wpAny_pure ⟨rfl,rfl,i+1,by lia,n⟩
 ·rintro b g ⟨rfl,rfl,i0,r,c⟩
  have d:items.size-i0=(items.size-(i0+1))+1:=by lia
  rw [d,List.range'_succ]at c
  cases c
abbrev sM:=V->Hp->Prop
def oz (X:Cx) (T:String) (ty:sM):Prop:= ∀(y8:List (Addr×Obj)) (s:Shared) (U:St) (H:Hp) (x:V) (v:Value),Inv X y8 U H s->RelV x v->ty x H->s.TypeIs v T/\ ∀a,v= .ref a-> ∃ob,s.heap.get? a=y0 ob/\ob.dict=u0
def FR (ty:sM) (r:V->List V->Hp->VK->Prop) (a:TE) (t:TA):TE:=λU H Q=>a U H λx H1=>ty x H1/\t U H1 λxs H2=>r x xs H2 Q
def oH {T id:String}(u:PlainAttrs T) (d:Slot T name id) (i:typeOf (.builtin id)=pure (.type "method_descriptor")) (J:oz X T ty) (B:ik X id r) (F:PE X o to) (n:PA X (e::es) t)
 (b:attributeBase o name X.env (eval o X.env)=eval o X.env)
 (f:((backTo u7 (starEach (e::es) X.env)).all (λx=> !x.1)&&(backToKw u7 (keywordEach [] X.env)).all (λx=>x.1.isSome)
   &&u9 ((e::es).length+([]:List Keyword).length+(if ([]:List Keyword).isEmpty then 0 else 1)<30))=k9)
 (c:(apos.endLine==u7.line)=k9) (E:starEach (e::es) X.env=(y9,eval e X.env)::starEach es X.env) (g:(backTo u7 (starEach es X.env)).any (·.1)=y9):
 PE X (.Call (.Attribute o name apos) (e::es) [] u7) (FR ty r to t):=by
 intro a s U H Q I h
 refine wpAny_Call_method_late b f c rfl (aJ (F a s U H _ I h) ?_)
 rintro v k ⟨x,l,j,m,z,D⟩
 obtain⟨w,p⟩:=J a k U l x v j m z
 refine⟨T,id,u,d,i,w,p,?_⟩
 have hA:=n u7 a k U l _ j D
 rw [E]at hA ⊢
 refine Calls.callWith_builtin (by assumption) (Calls.evalArgs_plain ?_)
 exact aJ hA λK q ⟨L,A,G,y,C⟩=>B a q U A x L v K Q G m y C
def ui (K:PySem.W.Frag) (H:Hp) (a:Addr):Prop:=(∃ xs,H a=some (.tup xs))\/ ∃o,K.lookup a=some o/\o.cls= .type "tuple" /\o.dict=none
def Bw:oz X "tuple" (fun x H=> ∃a,x= .ref a/\ui X.K H a):=by
 intro f s U H x v I r h
 obtain⟨a,rfl,h⟩:=h
 cases r
 obtain⟨m,h⟩ | ⟨o,g,k,j⟩:=h
 ·obtain⟨_,i,_,o,e,c,d,n,l⟩:=I.aL a _ h
  refine⟨⟨o,e,c⟩,λb z=> ?_⟩
  cases z
  exact⟨o,e,d⟩
 ·refine⟨⟨o,I.bH a o g,k⟩,λb z=> ?_⟩
  cases z
  exact⟨o,I.bH _ o g,j⟩
def vR:oz X "list" (fun x H=> ∃a xs,x= .ref a/\aZ X.K H a xs):=by
 intro d s U H x v I r h
 obtain⟨a,xs,rfl,h⟩:=h
 cases r
 obtain⟨f,_,pl,_⟩:=I.list h
 refine⟨pl.isList.typeIs,λb e=> ?_⟩
 cases e
 obtain⟨o,n,e,c,g,_⟩:=pl
 exact⟨o,e,g⟩
def ku (x:Str):List Str->Option Nat
 | []=>u0
 | y::ys=>if y=x then y0 0 else(ku x ys).map (· +1)
theorem vA : ∀ {ss}{j},ku x ss=y0 j->j<ss.length/\ss[j]? =y0 x/\ ∀i,i<j-> ∀y,ss[i]? =y0 y->y≠x
 | [],_,h=>by cases h
 | y::g,j,h=>by
  unfold ku at h
  split at h
  ·rename_i q
   cases h
   exact⟨Nat.zero_lt_succ _,by simp [q],λi b=>absurd b (Ah9 _)⟩
  ·rename_i q
   obtain⟨k,e,rfl⟩:=Af1.mp h
   obtain⟨f,c,d⟩:=vA e
   refine⟨Nat.succ_lt_succ f,by simpa using c,λi b z a=> ?_⟩
   cases i with
   | zero=>simp at a;rw [← a];exact q
   | succ i=>exact d i (by omega) z (by simpa using a)
def Hr (K:Aa7):V->List V->Hp->VK->Prop:=λx b H Q=> ∃a z j,∃ss:List Str,x= .ref a/\b= [.str z]/\bB K H a (ss.map V.str)/\ku z ss=y0 j/\Q (.int (j:Nat)) H
def BJ:ik X "tuple.index" (Hr X.K):=by
 intro B s U H x S v R Q I G rv h
 obtain⟨a,z,j,g,rfl,rfl,J,F,q⟩:=h
 cases G
 obtain⟨u,rfl,L⟩:=rv.one
 obtain⟨t,rfl⟩:=L
 obtain⟨k,r,p,O⟩:=I.tuple J
 obtain⟨N,D,E⟩:=vA F
 have n:=r.length
 have look: ∀(i:Nat) y,k.toArray[i]? =y0 y-> ∃w d,g[i]? =y0 w/\y=Value.str w d:=λi y l=>by
  obtain⟨P,f,m⟩:=r.iX (by simpa using l)
  rw [Ac4]at f
  cases C:g[i]? with
  | none=>rw [C]at f;cases f
  | some b=>
   rw [C]at f
   cases f
   obtain⟨d,rfl⟩:=m
   exact⟨b,d,rfl,rfl⟩
 refine yX (e:=λi=>u9 (g[i]? =y0 z)) p (λi y l=> ?_) (by simp_all) (decide_eq_true D) (λi K=> ?_) λd=>⟨.int j,H,I.kept λb o e=>e,⟨d,rfl⟩,q⟩
 ·obtain⟨w,d,e,rfl⟩:=look i y l
  have:=PySem.SeqAt.EqAt.str_str (A:=X.A.in1) (s:=s) w d z t
  have m:u9 (g[i]? =y0 z)=(w==z):=by
   rw [e]
   by_cases q:w=z
   ·subst q;simp
   ·simp [q]
  rw [m]
  exact this
 ·have M:=by omega
  exact decide_eq_false λc=>E i K z c rfl
def LJ (K:Aa7):V->List V->Hp->VK->Prop:=λx c H Q=> ∃a n,∃b:List Int,x= .ref a/\c= [.int n]/\aZ K H a (b.map V.int)/\Q (.int ((b.count n:Nat):Int)) H
def Hs:ik X "list.count" (LJ X.K):=by
 intro c s U H x K v J Q I m rv h
 obtain⟨a,n,G,rfl,rfl,z,q⟩:=h
 cases m
 obtain⟨u,rfl,A⟩:=rv.one
 obtain⟨t,rfl⟩:=A
 obtain⟨j,r,pl,E⟩:=I.list z
 obtain⟨D,rfl,C⟩:=Wr r
 obtain⟨⟨B,dd,g,sl⟩,d,w,k,l⟩:=id pl.isList
 subst w l
 refine call_meets F.slot_list_count ⟨_,d,rfl⟩ F.entry_list_count (F.args_list_count_2 _ _) (PySem.SeqAt.list_countAt a _ k dd sl _ (λy=>match y with | .int i _=>i==n | _=>y9)) ⟨d,λy f=> ?_,?_⟩
 ·simp only [List.mem_toArray,Ac1]at f
  obtain⟨p,_,rfl⟩:=f
  exact PySem.SeqAt.EqAt.int_int p.1 p.2 n t
 ·refine⟨.int _,H,I.kept λb o e=>e,⟨s.toks,?_⟩,q⟩
  rw [← C,List.count_eq_countP,List.countP_map]
  simp only [List.countP_map]
  rfl
end
section
variable {prog:Program}{w:World}{A:Around}{E:Value->Shared->Prop}{s:Shared}
def bC (a:s.heap.IsTupleIter it t i) (f:s.heap.IsTuple t items) (g:items[i]? =y0 x)
 (j: ∀h',h'.IsTupleIter it t (i+1)->Aj3 it s.heap h'->Q x { s with heap:=h' }):wpAny (model prog w) A (Builtin.SmallTypes.nextOf (.ref it)) Q E s:=by
 obtain⟨o,c,h,b⟩:=id a
 obtain⟨k,d,_,l,e⟩:=f
 refine wpAny_bind (wpAny_callSpecial?_slot a.typeIs F.slot_tuple_iterator_next
  (wpAny_call_entry F.slot_tuple_iterator_next a.typeIs F.entry_tuple_iterator_next ?_ (F.args_tuple_iterator_next_1 _)))
 show wpAny _ _ (field _ 0 >>= _) _ _ s
 refine wpAny_bind (wpAny_field c b rfl ?_)
 refine wpAny_bind (wpAny_field c b rfl ?_)
 refine wpAny_bind (wpAny_seqItems d e ?_)
 simp [g]
 refine wpAny_bind (wpAny_setField c b (by simp) (wpAny_pure ⟨x,rfl,wpAny_pure (j _ ?_ (Aj3.update ..))⟩))
 exact⟨_,Ah8 _ c (Obj.isFreed_of_fields (Obj.data_mapFields b _)),(Obj.cls_mapFields ..).trans h,by
  rw [Obj.data_mapFields b];simp [rawInt]⟩
def bJ (g:A.handled=u0) (a:s.heap.IsTupleIter it t i) (h:s.heap.IsTuple t items) (j:items[i]? =u0)
 (k: ∀h' e,Heap.ExtBut it s.heap h'->(∃ o,h'.get? e=y0 o/\o.cls= .type "StopIteration")->E (.ref e) { s with heap:=h' }):wpAny (model prog w) A (Builtin.SmallTypes.nextOf (.ref it)) Q E s:=by
 obtain⟨o,b,m,c⟩:=id a
 obtain⟨l,d,_,n,f⟩:=h
 refine wpAny_bind (wpAny_callSpecial?_slot a.typeIs F.slot_tuple_iterator_next
  (wpAny_call_entry F.slot_tuple_iterator_next a.typeIs F.entry_tuple_iterator_next ?_ (F.args_tuple_iterator_next_1 _)))
 show wpAny _ _ (field _ 0 >>= _) _ _ s
 refine wpAny_bind (wpAny_field b c rfl ?_)
 refine wpAny_bind (wpAny_field b c rfl ?_)
 refine wpAny_bind (wpAny_seqItems d f ?_)
 simp only [Ag0,j]
 refine wpAny_bind (wpAny_rule (wpAny_bind (wpAny_setField b c (by simp) ?_)))
 refine wpAny_bind ?_
 refine wpAny_bind (wpAny_newObj_type ?_ (by size_fits))
 refine wpAny_bind (wpAny_of_eq (by first | rfl | (simp only [firstArgMember])) ?_)
 refine wpAny_newObj_type ?_ (by size_fits)
 refine wpAny_bind (wpAny_handled ?_)
 first | rw [show A.in1.handled=u0 from g] | rw [g]
 refine wpAny_bind (wpAny_pure (wpAny_throw ?_))
 exact k _ _ (((Aj3.update ..).extBut.push _).push _) ⟨_,Ab6 _ rfl,rfl⟩
def wV (l:A.handled=u0) (it t) (items) (b:t≠it):Draws prog w A it [it,t] items.size (λi x=>items[i]? =y0 x) (λi h=>h.IsTupleIter it t i/\h.IsTuple t items) where
 live:=λi h a=>let ⟨o,e,_⟩:=a.1; ⟨o,e⟩
 frame:=λi h f a k=>⟨let ⟨o,e,r⟩:=a.1; ⟨o,k it (by simp) o e,r⟩,let ⟨o,e,r⟩:=a.2; ⟨o,k t (by simp) o e,r⟩⟩
 item:=λi s Q E g a j=>bC a.1 a.2 (x:=items[i]) (by simp [g]) λf c d=>j _ f s.toks (by simp [g]) ⟨c,a.2.extBut d.extBut b⟩ d
 done:=λs Q E a m=>bJ l a.1 a.2 (by simp) m
open PySem.AutoSeq1 (wpAny_loadPart') in
theorem qt (l:Addr) (a:Array Value) (n:Nat) (e:Option Addr) (sl:Array (Option Value)):
 Meets (Builtin.«enumerate.__new__» ⟨[.type "enumerate",.ref l],[]⟩) (fun _ R s=>s.heap.get? l=some { cls:= .type "tuple",dict:=e,data:= .seq a n,slots:=sl } ∧
  R (.ok (.ret (.ref (s.heap.push { cls:= .type "tuple_iterator",data:= .fields #[.ref l,.int 0 0] }).objs.size)))
   { s with heap:=(s.heap.push { cls:= .type "tuple_iterator",data:= .fields #[.ref l,.int 0 0] }).push { cls:= .type "enumerate",data:= .fields #[.none,.bool false,.ref s.heap.objs.size,rawInt 0,.none,.none] } }):=
 .of_wp λprog w A R s h=>by
  obtain⟨o,g,d,m,j⟩:=s;obtain⟨b,h⟩:=h
  have i:=sub_enumerate
  have f:Heap.IsTuple _ l a:=⟨_,b,rfl,n,rfl⟩
  wp_walk using wpAny_loadPart' b
  refine wpAny_stack_any λk=>wpAny_pure ?_
  split
  ·rename_i c _ _ _ _ _
   cases (c==Value.type "enumerate")
   ·wp_walk using wpAny_loadPart' b,wpAny_pyIter_tuple f
    exact⟨_,rfl,h⟩
   ·wp_walk using wpAny_loadPart' b,wpAny_pyIter_tuple f
    exact⟨_,rfl,h⟩
  ·wp_walk using wpAny_loadPart' b,wpAny_pyIter_tuple f
   exact⟨_,rfl,h⟩
def Qx (j:s.heap.IsTuple l items)
 (h: ∀h',IsEnum h' (s.heap.objs.size+1) s.heap.objs.size 0 .none->h'.IsTupleIter s.heap.objs.size l 0->h'.objs.size=s.heap.objs.size+2 →
   (∀ b o,s.heap.get? b=y0 o->h'.get? b=y0 o)->Q (.ref (s.heap.objs.size+1)) { s with heap:=h' }):
 wpAny (model prog w) A (call (.type "enumerate") [.ref l]) Q E s:=by
 obtain⟨⟨c,a,k,sl⟩,f,g,n,i⟩:=j
 subst g i
 refine callType_new F.called_enumerate rfl (F.typeCall_enumerate_1 _) (F.newCall_enumerate_1 _) (λobj=>F.args_object_init_2 obj _) F.entry_enumerate_new
  (qt l items n a sl) ⟨f,?_⟩
 have d:(s.heap.push { cls:= .type "tuple_iterator",data:= .fields #[.ref l,.int 0 0] }).objs.size=s.heap.objs.size+1:=Heap.size_push ..
 rw [d]
 have e:IsEnum ((s.heap.push { cls:= .type "tuple_iterator",data:= .fields #[.ref l,.int 0 0] }).push
  { cls:= .type "enumerate",data:= .fields #[.none,.bool false,.ref s.heap.objs.size,rawInt 0,.none,.none] }) (s.heap.objs.size+1) s.heap.objs.size 0 .none:=by
  have:=Heap.get?_push_size (s.heap.push { cls:= .type "tuple_iterator",data:= .fields #[.ref l,.int 0 0] })
   (o:= { cls:= .type "enumerate",data:= .fields #[.none,.bool false,.ref s.heap.objs.size,rawInt 0,.none,.none] }) rfl
  rw [d]at this;exact this
 refine⟨⟨_,e,rfl⟩,h _ e ⟨_,Aa2 _ (Ab6 _ rfl),rfl,rfl⟩ (by simp) λb o x=>Aa2 _ (Aa2 _ x)⟩
end
section
variable {X:Cx}{y8:List (Addr×Obj)}{U:St}{H:Hp}{s:Shared}{h':Heap}
def Inv.gu (I:Inv X y8 U H s) (k: ∀b o,b≠e->b≠it->s.heap.get? b=y0 o->h'.get? b=y0 o) (F:H it=u0) (y:H e=u0) (l:it≠X.env.locals) (f:e≠X.env.locals)
 (h1:it∈X.ex\/X.s₀.heap.objs.size<=it) (j:e∈X.ex\/X.s₀.heap.objs.size<=e) (h2: ∀x c,X.env.cells.lookup x=y0 c->c≠it) (h: ∀x c,X.env.cells.lookup x=y0 c->c≠e) (t: ∀p∈X.pn++y8,p.1≠it) (i: ∀p∈X.pn++y8,p.1≠e):Inv X y8 U H { s with heap:=h',toks:=t' }:=by
 have d: ∀b u,H b=y0 u->b≠e/\b≠it:=λb u q=>⟨λz=>(by simp_all),λz=>(by simp_all)⟩
 have g: ∀b o,b∉ [e,it]->s.heap.get? b=y0 o->h'.get? b=y0 o:=λb o a q=>k b o (λz=>a (by simp [z])) (λz=>a (by simp [z])) q
 refine I.step (λb A=> ?_) (λb o _ _ a e _=>g b o a e) (λb o _ _ a e _=>⟨o.slots,g b o a e⟩) (λ_ _ _ _ n=>n)
  (λb o a e=>⟨o,g b o a e⟩) (λ_ _ e=>e) (λ_ _ _ e=>e) (λb G e=>⟨#[],by rw [e];simp⟩) (λm w=> ?_) (λb u q=> ?_) I.bare
 ·obtain z | z:=Ab9.mp A
  ·rw [z];exact⟨j,f,h,i⟩
  ·rw [Ae8.mp z];exact⟨h1,l,h2,t⟩
 ·obtain⟨o,E,C,B,r⟩:=w
  exact⟨o,E,C,k _ o (Ne.symm f) (Ne.symm l) B,r⟩
 ·refine(I.aL b u q).b8 (λc v a D=>k c v ?_ ?_ D) (λ_ q=>q) λ_ _ q=>q
  ·obtain z | z:=a
   ·rw [z];exact(d b u q).1
   ·exact(d c _ z).1
  ·obtain z | z:=a
   ·rw [z];exact(d b u q).2
   ·exact(d c _ z).2
end
noncomputable def nE (K:Aa7) (a:Addr):It:=
 ⟨λi H=> ∃xs x,bB K H a xs/\xs[i]? =y0 x,λi H x H'=> ∃p y,H p=u0/\x= .ref p/\H'=aG H p (.tup [.int (i:Int),y])/\ ∀xs,bB K H a xs->xs[i]? =y0 y,λi H=> ∃xs,bB K H a xs/\xs.length=i⟩
def D1 {K:Aa7}(a it e) (A:e≠it):gI P w K (.Tuple elts x1 tp) (nE K a) [e,it] e (λi h=>(∃ j,IsEnum h e it (i:Int) j)/\h.IsTupleIter it a i) where
 mem:=by simp
 obj:=λi h l b J=>by
  obtain⟨⟨j,q⟩,⟨o,q2,c,d⟩⟩:=l
  rcases Ab9.mp J with z | z
  ·subst z
   exact⟨_,q,λv z=>by cases z⟩
  ·rw [Ae8.mp z]
   exact⟨o,q2,λv z=>by rw [d]at z;cases z⟩
 keep:=λi h h' l k=>⟨let ⟨j,q⟩:=l.1; ⟨j,k e (by simp) _ q⟩,let ⟨o,q,r⟩:=l.2; ⟨o,k it (by simp) o q,r⟩⟩
 item:=by
  intro X hP hw S hc i m s U H E I Q l Z
  subst hP hw S
  obtain⟨⟨j,B⟩,f⟩:=l
  obtain⟨xs,x,O,hx⟩:=Z
  obtain⟨g,rv,p,hz⟩:=I.tuple O
  obtain⟨u,hu,ru⟩:=rv.get hx
  have C:=p
  have t:a≠it:=λz=>by
   obtain⟨o,q,c,_⟩:=C
   obtain⟨o',W,D,_⟩:=f
   rw [z,W]at q;cases q
   rw [c]at D;exact absurd D (by decide)
  have T:a≠e:=λz=>by
   obtain⟨o,q,c,_⟩:=C
   rw [z,B]at q;cases q
   exact absurd (show Value.type "enumerate" =Value.type "tuple" from c) (by decide)
  obtain⟨f0,f1,f2,f3,f4,f5⟩:=Q e (by simp)
  obtain⟨N,g1,g2,g3,V,g5⟩:=Q it (by simp)
  have R:=by
   have:=Ac0.mp hu
   simpa using this.1
  have n:X.A.in1.handled=none:=I.ok.hd hc
  refine wpAny_pyNext_enum_itemD (wV n it a g.toArray t) B ⟨f,C⟩ R A (by simp [A,Ne.symm T]) λy h1 G L ho Y hT hsz hk=> ?_
  have ey:y=u:=by
   rw [List.getElem?_toArray]at L
   rw [hu]at L;cases L;rfl
  subst ey
  refine⟨_,rfl,wpAny_letOwnedTupleGo_enum ho λh2 he2 M=> ?_⟩
  have M:=M
  have hep:=Al1 (Ab4 B)
  have hn:=I.aL.fresh (Aa5 _)
  have I1:Inv X m U (aG H s.heap.objs.size (.tup [.int (i:Int),x])) { s with heap:=s.heap.push { cls:= .type "tuple",data:= .seq #[.int i G,y] },toks:=G+1 }:=by
   refine I.laid (λb o q=>Aa2 _ q) (Aa5 _) ⟨by simp only [Ab8,Ak0];rw [sizeLine_eq];decide,[.int i G,y],.cons ⟨_,rfl⟩ (.cons ru .nil),?_⟩
   exact⟨_,Ab6 s.heap rfl,rfl,rfl,_,rfl⟩
  have F:it<s.heap.objs.size:=by obtain⟨o,q,_⟩:=f;exact Ab4 q
  have ee:=Ab4 B
  have I2:=I1.gu (t':=G+1) (λb o b1 b2 q=>by
   refine(M.2 b b1).trans ?_
   rcases Heap.get?_push_cases (show (s.heap.push { cls:= .type "tuple",data:= .seq #[.int i G,y] }).get? b=some o from q)with⟨z,z2⟩ | z
   ·rw [z,z2];exact hT
   ·exact hk b o b1 b2 z) (by rw [ja (Ac2 F)];exact N) (by rw [ja (Ac2 ee)];exact f0) g1 f1 g3 f3 V f4 g5 f5
  refine⟨.ref s.heap.objs.size,_,I2,rfl,⟨s.heap.objs.size,x,hn,rfl,rfl,λys L=>by rw [I.cv L O];exact hx⟩,⟨⟨y,by simpa using he2⟩,?_⟩,λb J=> ?_⟩
  ·obtain⟨o,q,r⟩:=Y.1
   exact⟨o,(M.2 it (Ne.symm A)).trans q,r⟩
  ·rcases Ab9.mp J with z | z
   ·rw [z,ja (Ac2 ee)];exact f0
   ·rw [Ae8.mp z,ja (Ac2 F)];exact N
 done:=by
  intro X hP hw S hc i m s U H E I Q l Z
  subst hP hw S
  obtain⟨⟨j,B⟩,f⟩:=l
  obtain⟨xs,O,hx⟩:=Z
  obtain⟨g,rv,p,hz⟩:=I.tuple O
  have C:s.heap.IsTuple a g.toArray:=p
  have t:a≠it:=λz=>by
   obtain⟨o,q,c,_⟩:=C
   obtain⟨o',W,D,_⟩:=f
   rw [z,W]at q;cases q
   rw [c]at D;exact absurd D (by decide)
  obtain⟨N,g1,g2,g3,V,g5⟩:=Q it (by simp)
  have hl:=rv.length
  have n:X.A.in1.handled=none:=I.ok.hd hc
  have hi:i=g.toArray.size:=by simp;omega
  subst hi
  exact wpAny_pyNext_enum_endD (wV n it a g.toArray t) B ⟨f,C⟩ λh' eb=>⟨rfl,I.turned (λb o J q=>eb b o J q) N g1 g3 V g5⟩
 self:=λ_ _ _ _ _ l h=>wpAny_pyIter_enum l.1.choose_spec h
def CC (K:Aa7) (b:TA):TI:=λU H R=>b U H λc H1=> ∃a xs,c= [.ref a]/\bB K H1 a xs/\R (nE K a) H1
def wI:bootBuiltins "enumerate" =some (.type "enumerate"):=by decide +kernel
def yZ (B:Gl X "enumerate") (n:X.mg "enumerate" =none) (k:PA X [a] ta) (v:starEach [a] X.env= [(false,eval a X.env)]:=by rfl):PI X (.Tuple elts x1 tp) (.Call (.Name "enumerate" p) [a] [] pos) (CC X.K ta):=by
 intro f s U H R I h
 refine Call_ (qB I B n wI (PyProof.Rows.callWith_type1 (aJ (k pos f s U H _ I h) λF g ⟨G,w,d,y,u⟩=> ?_) v rfl))
 obtain⟨b,C,e,x,q⟩:=u
 subst e
 cases y with
 | cons r A=>
  cases A
  cases r
  obtain⟨l,rv,pl,D⟩:=d.tuple x
  refine Qx (pl) λE j i o m=> ?_
  refine wpAny_pyIter_enum j ?_
  refine⟨g.heap.objs.size+1,[g.heap.objs.size+1,g.heap.objs.size],_,_,w,rfl,d.kept m,D1 b g.heap.objs.size _ (Nat.succ_ne_self _),⟨⟨_,by simpa using j⟩,i⟩,λc t=> ?_,q⟩
  obtain z | z:=Ab9.mp t
  ·rw [z];exact d.cP (Ah4 _) (d.aL.fresh (Ah4 _))
  ·rw [Ae8.mp z];exact d.cP (Aa5 _) (d.aL.fresh (Aa5 _))
section
variable {prog:Program}{w:World}{A:Around}{E:Value->Shared->Prop}{s:Shared}
def Eo:isSubtype (.type "tuple") (.type "set")=pure false:=by rw [isSubtype_type];kernel_rfl
def DQ:isSubtype (.type "tuple") (.type "frozenset")=pure false:=by rw [isSubtype_type];kernel_rfl
abbrev f9 (a:Bool):Obj:= { cls:= .type "set",dict:=none,data:= .set #[] 0 (.fresh 0 0 a) }
set_option maxHeartbeats 8000000 in
theorem QW {b:Addr}{f:Array Value}{n:List Int}{Q:Value->Shared->Prop}
 (hh:A.handled=u0) (ht:s.heap.IsTuple b f) (hi:IntsAre f.toList n) (hb:f.size+1<scanBound)
 (q: ∀(h':Heap) (C:Nat),h'.SetOf (intKind prog w) s.heap.objs.size (λJ=>(firstMet (λi=>n.getD i 0) f.size).any (· ==J)) (firstMet (λi=>n.getD i 0) f.size).length →
   (∀ c o,c<s.heap.objs.size->s.heap.get? c=y0 o->h'.get? c=y0 o)->Q (.ref s.heap.objs.size) { s with heap:=h',toks:=C }):
 wpAny (model prog w) A (call (.type "set") [.ref b]) Q E s:=by
 obtain⟨c,tl,S⟩:=F.called_set.mro
 have O:=F.called_set.made
 have T:=F.called_set.sub
 refine wpAny_call (codeAny_of_tree ?_)
 show wpAny _ _ (callAny (.type "set") _) _ _ _
 refine wpAny_pure ⟨Code.quiet_builtin _ (by decide +kernel),codeAny_builtin F.entry_type_call ?_⟩
 rw [Around.under_plain (weight_type_call_type "set" [.ref b] []) rfl]
 have h1:=F.called_set.notType
 have h2:=F.called_set.canCreate
 have hct:=F.typeCall_set_1 (.ref b)
 repeat (any_goals (first | assumption | wp_step))
 refine codeAny_mono (code_set_new_1 (.ref b) (E:=E) (Q₁:=λY g=> ∃a:Bool,Y= .ref s.heap.objs.size/\g= { s with heap:=s.heap.push (f9 a) }) λa=>⟨a,rfl,rfl⟩) λr g K=> ?_
 cases r with
 | error e=>exact K
 | ok fl=>
  cases fl with
  | ret Y=>
   obtain⟨a,rfl,rfl⟩:=K
   have U:(s.heap.push (f9 a)).get? s.heap.objs.size=y0 (f9 a):=Ab6 _ rfl
   have hT:Shared.TypeIs { s with heap:=s.heap.push (f9 a) } (.ref s.heap.objs.size) "set" :=⟨_,U,rfl⟩
   have hli:=F.called_set.init.lookup
   have hbi:=F.called_set.init.bind (.ref s.heap.objs.size)
   repeat (any_goals (first | assumption | wp_step))
   refine codeAny_mono (codeAny_call_builtin (R:=wants (λr h=>r= .none/\ ∃h' C,h= { s with heap:=h',toks:=C } ∧
    h'.SetOf (intKind prog w) s.heap.objs.size (λJ=>(firstMet (λi=>n.getD i 0) f.size).any (· ==J)) (firstMet (λi=>n.getD i 0) f.size).length ∧
    (∀ c o,c<s.heap.objs.size->s.heap.get? c=y0 o->h'.get? c=y0 o)) E) F.called_set.init.plain F.entry_set_init (check_set_init_1 hT ?_)) λt h d=> ?_
   ·obtain⟨⟨c1,c2,c3,c4⟩,y,l,L,m⟩:=ht
    replace l:c1= .type "tuple" :=l
    replace m:c3= .seq f L:=m
    subst l;subst m
    have z:(s.heap.push (f9 a)).get? b=y0 { cls:= .type "tuple",dict:=c2,data:= .seq f L,slots:=c4 }:=Heap.get?_push_of_some _ y
    have W:=Eo
    have V:=DQ
    have hne:(Value.type "tuple" ==Value.type "dict")=false:=by decide
    have u:(s.heap.push (f9 a)).IsTuple b f:=⟨_,z,rfl,L,rfl⟩
    unfold Builtin.«set.__init__» noKeywords Builtin.Frozenset.updateFrom
    generalize P:pyIter=PI
    wp_walk
    subst P
    refine wpAny_pyIter_tuple u (wpAny_bind (wpAny_runValue ?_))
    have p:b<s.heap.objs.size:=Ab4 y
    have I:A.in1.in1.in1.handled=none:=by simp [hh]
    have M:(s.heap.push (f9 a)).objs.size=s.heap.objs.size+1:=Af6 ..
    have x:b≠(s.heap.push (f9 a)).objs.size:=by rw [M];exact Ac2 (Al7 p)
    have D:s.heap.objs.size∉ [(s.heap.push (f9 a)).objs.size,b]:=by
     rw [M];simp only [Ab9,Ad5,or_false,not_or];exact⟨Ac2 (Ag6 _),Al1 p⟩
    refine codeAny_set_update_loopS ((Walks.tuple I _ b x f).toS) s.heap.objs.size
     D (λi=>n.getD i 0) (λi v hv=>IntsAre.int_at hi i v (by rw [Array.getElem?_toList];exact hv)) hb (f.size-0) 0 _ (by omega) (Ah2 _)
     ⟨⟨_,Ab6 _ rfl,rfl,rfl⟩,(u.push _)⟩ ?hS0 ?hR
    case hS0=>exact SetOf_congr ((setObjOf_fresh (knd:=intKind prog w) a).setOf (Aa2 _ U) (by unfold scanBound;omega)) (λ_=>rfl) rfl
    case hR=>
     intro s' B j
     obtain⟨h',Z,d',N,G⟩:=s'
     have eg:Z=s.gens:=B.gens
     have ed:d'=s.drawn:=B.drawn
     have eo:G=s.os:=B.os
     subst eg;subst ed;subst eo
     show wpAny _ _ _ _ _ _
     refine wpAny_pure ?_
     show wpAny _ _ (ret Value.none) _ _ _
     refine wpAny_pure ⟨rfl,h',N,rfl,j,λc o X e=>B.heap c o ?_ (Aa2 _ (Aa2 _ e))⟩
     simp only [Ab9,Ad5,or_false,not_or]
     exact⟨Ac2 X,by
      show c≠(s.heap.push (f9 a)).objs.size
      rw [M];exact Ac2 (Al7 X)⟩
   ·cases t with
    | error e=>exact d
    | ok k=>
     cases k with
     | ret r=>
      obtain⟨rfl,h',C,rfl,j,H⟩:=d
      repeat (any_goals (first | assumption | wp_step))
      exact q _ _ j H
     | _=>exact d.elim
  | _=>exact K.elim
end
section
variable {X:Cx}
theorem X7: ∀ {is}{j},Vals (is.map V.int) j->IntsAre j is
 | [],_,.nil=> .nil
 | i::is,_,.cons r a=>by
  obtain⟨t,rfl⟩:=r
  exact .cons _ _ (X7 a)
def oZ (is:List Int):Nat:=(firstMet (λi=>is.getD i 0) is.length).length
def BU:zm X (.type "set") (fun xs H Q=> ∃p is,xs= [.ref p]/\X.calm=true/\is.length<1000/\bB X.K H p (is.map V.int)/\ ∀l S,H l=none->Q (.ref l) (aG H l (.set S (oZ is)))):=by
 intro d s U H xs x Q I r h
 obtain⟨p,is,rfl,j,n,k,q⟩:=h
 cases r with
 | cons r m=>
  cases m
  cases r
  obtain⟨c,rv,pl,v⟩:=I.tuple k
  have a:c.length=is.length:=by have:=rv.length;rw [Aa]at this;lia
  refine QW (I.ok.hd j) pl (by simpa using X7 rv) (by rw [Aa8,a];unfold scanBound;lia) λw t f g=> ?_
  have i:c.toArray.size=is.length:=by rw [Aa8];exact a
  rw [i]at f
  have hn:=I.aL.fresh (Aa5 _)
  exact⟨.ref s.heap.objs.size,_,I.laid (o:= .set _ _) (λb u e=>g b u (Ab4 e) e) (Aa5 _) f,rfl,q _ _ hn⟩
def Ee:zm X (.builtin "len") (fun xs H Q=> ∃p S n,xs= [.ref p]/\H p=some (.set S n)/\n<1000/\Q (.int (n:Int)) H):=by
 intro b s U H xs k Q I r h
 obtain⟨p,S,n,rfl,d,hn,q⟩:=h
 cases r with
 | cons r g=>
  cases g
  cases r
  obtain⟨o,l,j,t,f,a,c,_,_,_,i,e⟩:s.heap.SetOf _ p S n:=I.aL p _ d
  subst e
  exact call_len_set f a c i (by lia) ⟨.int _,H,I.tok _,⟨_,rfl⟩,q⟩
end
def zH {f g:Option Int}(a:IsTup s.heap t vs) (e:s.heap.IsSliceOf sl vl vu .none) (pl:IsPart vl f) (i:IsPart vu g)
 (l:HT.aV vs.size 0 f=0) (h1:HT.aV vs.size vs.size g=vs.size) (h:Q (.ref t) s):wpAny (model prog w) A (getItem (.ref t) (.ref sl)) Q E s:=by
 obtain⟨j,b,d,k⟩:=id e
 have c:s.TypeIs (.ref sl) "slice" :=⟨j,b,d⟩
 unfold getItem
 try with_reducible refine wpAny_holding ?_
 refine wpAny_bind (wpAny_sequenceKey a.typeIs rfl (wpAny_bind (wpAny_callSpecial?_slot a.typeIs PyProof.Rows.slot_tuple_getitem
  (wpAny_call_entry PyProof.Rows.slot_tuple_getitem a.typeIs PyProof.Rows.entry_tuple_getitem ?_ (PyProof.Rows.args_tuple_getitem _ _)))))
 show wpAny _ _ (Builtin.Tuple.tupleItemsOf _ >>= _) _ _ s
 refine wpAny_bind (tupleItemsOf_ a (wpAny_bind (wpAny_typeOf c ?_)))
 refine wpAny_bind (HT.bx e pl i ?_)
 show wpAny _ _ (if _=k9 then _ else _) _ _ s
 rw [if_pos (by simp_all)]
 refine wpAny_bind (wpAny_bind (wpAny_typeOf a.typeIs (wpAny_pure ?_)))
 exact wpAny_bind (wpAny_rule (wpAny_pure ⟨_,rfl,wpAny_pure h⟩))
section
variable {X:Cx}
def oJ (K:Aa7):V->Option Int->Option Int->Hp->VK->Prop:=λx lo hi H Q=> ∃a xs,x= .ref a/\bB K H a xs/\HT.aV xs.length 0 lo=0/\HT.aV xs.length xs.length hi=xs.length/\Q (.ref a) H
def LK:gT X (oJ X.K):=by
 intro d s U H x v n t u p sl Q I k m pl l h
 obtain⟨a,i,rfl,j,g,f,q⟩:=h
 cases k
 obtain⟨c,r,e,o⟩:=I.tuple j
 have b:c.toArray.size=i.length:=by rw [Aa8];exact r.length.symm
 refine⟨"tuple",_,PyProof.Rows.slot_tuple_getitem.lookup,e.typeIs,?_⟩
 exact zH e m pl l (by rw [b];exact g) (by rw [b];exact f) ⟨.ref a,H,I,rfl,q⟩
end
end L2
namespace PySem
open Sem (wp)
section
variable {prog:Program}{w:World}{A:Around}{E:Value->Shared->Prop}{s:Shared}
def ZI {Q:Value->Shared->Prop}(D:ZipApart z TI TO i1 i2 l1 l2)
 (W:IsZip s.heap z TI TO .none) (hTI:IsPair s.heap TI (.ref i1) (.ref i2)) (hTO:IsPair s.heap TO a b)
 (h1:s.heap.IsListIter i1 l1 k1) (h2:s.heap.IsTupleIter i2 l2 k2) (hl1:s.heap.IsList l1 xs) (hl2:s.heap.IsTuple l2 ys) (hx:xs[k1]? =y0 x) (hy:ys[k2]? =y0 y)
 (hQ: ∀h',IsZip h' z TI TO (rawInt s.heap.objs.size)->IsPair h' TO x y->h'.IsListIter i1 l1 (k1+1)->h'.IsTupleIter i2 l2 (k2+1)->IsPair h' s.heap.objs.size x y->h'.objs.size=s.heap.objs.size+1 →
   (∀ c o,c≠z->c≠TO->c≠i1->c≠i2->s.heap.get? c=y0 o->h'.get? c=y0 o)->Q (.ref s.heap.objs.size) { s with heap:=h' }):
 wpAny (model prog w) A (Builtin.«zip.__next__» ⟨[.ref z],[]⟩) (λfin s'=> ∃v,fin= .done (.ret v)/\Q v s') E s:=by
 show wpAny _ _ (field (.ref z) 2 >>= _) _ _ _
 refine wpAny_bind (wpAny_field W rfl (x:= .bool y9) rfl ?_)
 show wpAny _ _ _ _ _ _
 refine wpAny_bind (wpAny_field W rfl (x:= .ref TI) rfl ?_)
 refine wpAny_bind (wpAny_seqItems hTI rfl ?_)
 show wpAny _ _ _ _ _ _
 refine wpAny_bind ?_
 unfold Builtin.SmallTypes.ownedTupleIsFree
 refine wpAny_bind (wpAny_field W rfl (x:= .none) rfl (wpAny_pure ?_))
 simp only [if_true]
 refine wpAny_bind (wpAny_rule ?_)
 refine wpAny_bind (wpAny_field W rfl (x:= .ref TO) rfl ?_)
 refine wpAny_bind (wpAny_setField_rec W (by simp) λU p f=> ?_)
 replace p:IsZip U z TI TO .ellipsis:=p
 refine wpAny_bind ?_
 simp only [List.zipIdx_cons,List.zipIdx_nil,List.forIn_cons,List.forIn_nil]
 refine wpAny_bind (wpAny_bind (wpAny_onRaise ?_))
 show wpAny _ _ _ _ _ _
 refine wpAny_bind (wpAny_nextOf_list_item (h1.extBut f.extBut D.i1z) (hl1.extBut f.extBut D.l1z) hx λP J h=>wpAny_pure ?_)
 have u:IsPair P TO a b:=h.extBut _ _ D.TOi1 (f.extBut _ _ D.TOz hTO)
 refine wpAny_bind (wpAny_seqItems u rfl ?_)
 refine wpAny_bind (wpAny_updateSeq_pair u λV l i=> ?_)
 replace l:IsPair V TO x b:=l
 refine wpAny_bind (wpAny_letGo (wpAny_pure ?_))
 refine wpAny_bind (wpAny_bind (wpAny_onRaise ?_))
 show wpAny _ _ (Builtin.SmallTypes.nextOf (.ref i2) >>= _) _ _ _
 refine wpAny_bind (L2.bC (((h2.extBut f.extBut D.i2z).extBut h.extBut D.i12.symm).extBut i.extBut D.TOi2.symm)
  (((hl2.extBut f.extBut D.l2z).extBut h.extBut D.l2i1).extBut i.extBut D.l2TO) hy λO K k=>wpAny_pure ?_)
 have B:IsPair O TO x b:=k.extBut _ _ D.TOi2 l
 refine wpAny_bind (wpAny_seqItems B rfl ?_)
 refine wpAny_bind (wpAny_updateSeq_pair B λd g j=> ?_)
 replace g:IsPair d TO x y:=g
 refine wpAny_bind (wpAny_letGo (wpAny_pure (wpAny_pure ?_)))
 refine wpAny_bind (wpAny_seqItems g rfl ?_)
 refine wpAny_bind (wpAny_newTuple ?_)
 have R:d.objs.size=s.heap.objs.size:=by rw [j.1,k.1,i.1,h.1,f.1]
 have F:IsZip d z TI TO .ellipsis:=j.extBut _ _ D.TOz.symm (k.extBut _ _ D.i2z.symm (i.extBut _ _ D.TOz.symm (h.extBut _ _ D.i1z.symm p)))
 have L: ∀c o,c≠z->c≠TO->c≠i1->c≠i2->s.heap.get? c=y0 o->d.get? c=y0 o:=λc o N X c3 c4 e=>
  j.extBut _ _ X (k.extBut _ _ c4 (i.extBut _ _ X (h.extBut _ _ c3 (f.extBut _ _ N e))))
 have G:d.IsListIter i1 l1 (k1+1):=((J.extBut i.extBut D.TOi1.symm).extBut k.extBut D.i12).extBut j.extBut D.TOi1.symm
 have H:d.IsTupleIter i2 l2 (k2+1):=K.extBut j.extBut D.TOi2.symm
 have I:z<d.objs.size:=Ab4 F
 have hTOlt:TO<d.objs.size:=Ab4 g
 have Z:i1<d.objs.size:=by obtain⟨_,e,_⟩:=G;exact Ab4 e
 have hi2lt:i2<d.objs.size:=by obtain⟨_,e,_⟩:=H;exact Ab4 e
 show wpAny _ _ (Builtin.SmallTypes.ownedTupleHandOut (.ref z) (.ref d.objs.size) >>= _) _ _ _
 refine wpAny_bind ?_
 unfold Builtin.SmallTypes.ownedTupleHandOut
 have M:IsZip (d.push { cls:= .type "tuple",data:= .seq #[x,y] }) z TI TO .ellipsis:=Heap.get?_push_of_some _ F
 refine wpAny_bind (wpAny_setField_rec M (by simp) λT q t=> ?_)
 replace q:IsZip T z TI TO (rawInt d.objs.size):=q
 refine wpAny_setField_rec q (by simp) λn m r=> ?_
 replace m:IsZip n z TI TO (rawInt d.objs.size):=m
 have Y: ∀c o,c≠z->d.get? c=y0 o->n.get? c=y0 o:=λc o N e=>r.extBut _ _ N (t.extBut _ _ N (Aa2 _ e))
 have C:IsPair n d.objs.size x y:=r.extBut _ _ (Al1 I) (t.extBut _ _ (Al1 I) (Ab6 _ rfl))
 have S:n.objs.size=d.objs.size+1:=by rw [r.1,t.1,Af6]
 rw [R]at m C S
 refine wpAny_pure ⟨_,rfl,?_⟩
 show Q (.ref d.objs.size) _
 rw [R]
 exact hQ n m (Y _ _ D.TOz g) (G.at λo e=>Y _ o D.i1z e) (H.at λo e=>Y _ o D.i2z e) C S λc o N X c3 c4 e=>Y c o N (L c o N X c3 c4 e)
def qN (S:A.handled=u0) (D:ZipApart z TI TO i1 i2 l1 l2)
 (F:IsZip s.heap z TI TO .none) (L:IsPair s.heap TI (.ref i1) (.ref i2)) (N:IsPair s.heap TO a b)
 (h1:s.heap.IsListIter i1 l1 k1) (h2:s.heap.IsTupleIter i2 l2 k2) (B:s.heap.IsList l1 xs) (R:s.heap.IsTuple l2 ys) (G:xs[k1]? =u0\/ys[k2]? =u0)
 (T: ∀h' e,(∀ c o,c≠z->c≠TO->c≠i1->c≠i2->s.heap.get? c=y0 o->h'.get? c=y0 o)->(∃ o,h'.get? e=y0 o/\o.cls= .type "StopIteration")->E (.ref e) { s with heap:=h' }):
 wpAny (model prog w) A (Builtin.«zip.__next__» ⟨[.ref z],[]⟩) Q E s:=by
 show wpAny _ _ (field (.ref z) 2 >>= _) _ _ _
 refine wpAny_bind (wpAny_field F rfl (x:= .bool y9) rfl ?_)
 show wpAny _ _ _ _ _ _
 refine wpAny_bind (wpAny_field F rfl (x:= .ref TI) rfl ?_)
 refine wpAny_bind (wpAny_seqItems L rfl ?_)
 show wpAny _ _ _ _ _ _
 refine wpAny_bind ?_
 unfold Builtin.SmallTypes.ownedTupleIsFree
 refine wpAny_bind (wpAny_field F rfl (x:= .none) rfl (wpAny_pure ?_))
 simp only [if_true]
 refine wpAny_bind (wpAny_rule ?_)
 refine wpAny_bind (wpAny_field F rfl (x:= .ref TO) rfl ?_)
 refine wpAny_bind (wpAny_setField_rec F (by simp) λC i d=> ?_)
 replace i:IsZip C z TI TO .ellipsis:=i
 refine wpAny_bind ?_
 simp only [List.zipIdx_cons,List.zipIdx_nil,List.forIn_cons,List.forIn_nil]
 refine wpAny_bind (wpAny_bind (wpAny_onRaise ?_))
 show wpAny _ _ _ _ _ _
 cases K:xs[k1]? with
 | none=>
  refine wpAny_bind (wpAny_nextOf_list_end S (h1.extBut d.extBut D.i1z) (B.extBut d.extBut D.l1z) K λp e f M=> ?_)
  obtain⟨P,j,r⟩:=M
  have n:IsZip p z TI TO .ellipsis:=f _ _ D.i1z.symm i
  have u:e≠z:=λx=>by subst x;rw [n]at j;cases j;simp at r
  refine wpAny_setField_rec n (by simp) λt _ g=>T t e (λc o H _ O _ x=>g.extBut _ _ H (f _ _ O (d.extBut _ _ H x))) ⟨P,g.extBut _ _ u j,r⟩
 | some x=>
  have W:ys[k2]? =none:=by rcases G with h | h;rw [K]at h;cases h;exact h
  refine wpAny_bind (wpAny_nextOf_list_item (h1.extBut d.extBut D.i1z) (B.extBut d.extBut D.l1z) K λp J f=>wpAny_pure ?_)
  have k:IsPair p TO a b:=f.extBut _ _ D.TOi1 (d.extBut _ _ D.TOz N)
  refine wpAny_bind (wpAny_seqItems k rfl ?_)
  refine wpAny_bind (wpAny_updateSeq_pair k λt I g=> ?_)
  refine wpAny_bind (wpAny_letGo (wpAny_pure ?_))
  refine wpAny_bind (wpAny_bind (wpAny_onRaise ?_))
  show wpAny _ _ (Builtin.SmallTypes.nextOf (.ref i2) >>= _) _ _ _
  refine wpAny_bind (L2.bJ S (((h2.extBut d.extBut D.i2z).extBut f.extBut D.i12.symm).extBut g.extBut D.TOi2.symm)
   (((R.extBut d.extBut D.l2z).extBut f.extBut D.l2i1).extBut g.extBut D.l2TO) W λv e m M=> ?_)
  obtain⟨P,j,r⟩:=M
  have q:IsZip v z TI TO .ellipsis:=m _ _ D.i2z.symm (g.extBut _ _ D.TOz.symm (f.extBut _ _ D.i1z.symm i))
  have u:e≠z:=λx=>by subst x;rw [q]at j;cases j;simp at r
  refine wpAny_setField_rec q (by simp) λy _ l=>T y e (λc o H V O U x=>l.extBut _ _ H (m _ _ U (g.extBut _ _ V (f.extBut _ _ O (d.extBut _ _ H x))))) ⟨P,l.extBut _ _ u j,r⟩
def xo (D:ZipApart z TI TO i1 i2 l1 l2)
 (i:IsZip s.heap z TI TO .none) (e:IsPair s.heap TI (.ref i1) (.ref i2)) (f:IsPair s.heap TO a b)
 (h1:s.heap.IsListIter i1 l1 k1) (h2:s.heap.IsTupleIter i2 l2 k2) (d:s.heap.IsList l1 xs) (g:s.heap.IsTuple l2 ys) (l:xs[k1]? =y0 x) (m:ys[k2]? =y0 y)
 (j: ∀h',IsZip h' z TI TO (rawInt s.heap.objs.size)->IsPair h' TO x y->h'.IsListIter i1 l1 (k1+1)->h'.IsTupleIter i2 l2 (k2+1)->IsPair h' s.heap.objs.size x y->h'.objs.size=s.heap.objs.size+1 →
   (∀ c o,c≠z->c≠TO->c≠i1->c≠i2->s.heap.get? c=y0 o->h'.get? c=y0 o)->Q (y0 (.ref s.heap.objs.size)) { s with heap:=h' }):
 wpAny (model prog w) A (pyNext (.ref z)) Q E s:=by
 have h:s.TypeIs (.ref z) "zip" :=⟨_,i,rfl⟩
 exact wpAny_bind (wpAny_attempt (wpAny_callSpecial?_slot h F.slot_zip_next
  (wpAny_call_entry F.slot_zip_next h F.entry_zip_next
    (ZI D i e f h1 h2 d g l m λh' k a2 a3 a4 a5 a6 a7=>wpAny_pure (j h' k a2 a3 a4 a5 a6 a7)) (F.args_zip_next_1 _))))
def Jp (n:A.handled=u0) (D:ZipApart z TI TO i1 i2 l1 l2)
 (k:IsZip s.heap z TI TO .none) (g:IsPair s.heap TI (.ref i1) (.ref i2)) (h:IsPair s.heap TO a b)
 (h1:s.heap.IsListIter i1 l1 k1) (h2:s.heap.IsTupleIter i2 l2 k2) (f:s.heap.IsList l1 xs) (i:s.heap.IsTuple l2 ys) (d:xs[k1]? =u0\/ys[k2]? =u0)
 (l: ∀h',(∀ c o,c≠z->c≠TO->c≠i1->c≠i2->s.heap.get? c=y0 o->h'.get? c=y0 o)->Q u0 { s with heap:=h' }):wpAny (model prog w) A (pyNext (.ref z)) Q E s:=by
 have j:s.TypeIs (.ref z) "zip" :=⟨_,k,rfl⟩
 refine wpAny_bind (wpAny_attempt (wpAny_callSpecial?_slot j F.slot_zip_next
  (wpAny_call_entry F.slot_zip_next j F.entry_zip_next (qN n D k g h h1 h2 f i d λh' e m r=> ?_) (F.args_zip_next_1 _))))
 obtain⟨o,p,q⟩:=r
 refine wpAny_bind (wpAny_isInstance ⟨o,p,q⟩ isSubtype_stop ?_)
 exact wpAny_pure (l _ m)
end
abbrev mP (h:Heap) (a:Addr):Heap:=h.push { cls:= .type "list_iterator",data:= .fields #[.ref a,.int 0 0] }
noncomputable abbrev mh (h:Heap) (a l2:Addr):Heap:=(mP h a).push { cls:= .type "tuple_iterator",data:= .fields #[.ref l2,.int 0 0] }
abbrev mH (h:Heap) (a l2:Addr):Heap:=(mh h a l2).push { cls:= .type "tuple",data:= .seq #[.ref h.objs.size,.ref (mP h a).objs.size] }
abbrev mE (h:Heap) (a l2:Addr):Heap:=(mH h a l2).push { cls:= .type "tuple",data:= .seq #[.none,.none] }
abbrev xZ (h:Heap) (a l2:Addr):Heap:=(mE h a l2).push { cls:= .type "zip",data:= .fields #[.none,.bool false,.bool false,.ref (mh h a l2).objs.size,.ref (mH h a l2).objs.size] }
def XI (a l2:Addr) (xs i:Array Value):
 Meets (Builtin.«zip.__new__» ⟨[.type "zip",.ref a,.ref l2],[]⟩) (fun _ R s=>s.heap.IsList a xs/\s.heap.IsTuple l2 i ∧
  R (.ok (.ret (.ref (mE s.heap a l2).objs.size))) { s with heap:=xZ s.heap a l2 }):=
 .of_wp λprog w A R s h=>by
  obtain⟨m,g,d,l,k⟩:=s;obtain⟨c,e,h⟩:=h
  have j:=sub_zip
  have f:Heap.IsList _ a xs:=c
  have b:Heap.IsTuple (Shared.heap ⟨m.push { cls:= .type "list_iterator",data:= .fields #[.ref a,.int 0 0] },g,d,l,k⟩) l2 i:=Heap.IsTuple.push e _
  wp_walk using wpAny_pyIter_list f,wpAny_pyIter_tuple b
  exact⟨_,rfl,h⟩
section
variable {prog:Program}{w:World}{A:Around}{E:Value->Shared->Prop}{s:Shared}
def j0 (a:s.heap.IsList l1 xs) (i:s.heap.IsTuple l2 ys)
 (h: ∀h',IsZip h' (s.heap.objs.size+4) (s.heap.objs.size+2) (s.heap.objs.size+3) .none->IsPair h' (s.heap.objs.size+2) (.ref s.heap.objs.size) (.ref (s.heap.objs.size+1)) →
   IsPair h' (s.heap.objs.size+3) .none .none->h'.IsListIter s.heap.objs.size l1 0->h'.IsTupleIter (s.heap.objs.size+1) l2 0->h'.objs.size=s.heap.objs.size+5 →
   (∀ c o,s.heap.get? c=y0 o->h'.get? c=y0 o)->Q (.ref (s.heap.objs.size+4)) { s with heap:=h' }):
 wpAny (model prog w) A (call (.type "zip") [.ref l1,.ref l2]) Q E s:=by
 refine callType_new F.called_zip (by decide) (F.typeCall_zip_2 _ _) (F.newCall_zip_2 _ _) (λobj=>F.args_object_init_3 obj _ _) F.entry_zip_new
  (XI l1 l2 xs ys) ⟨a,i,?_⟩
 have f:(mP s.heap l1).objs.size=s.heap.objs.size+1:=Af6 ..
 have d:(mh s.heap l1 l2).objs.size=s.heap.objs.size+2:=by rw [Af6,f]
 have e:(mH s.heap l1 l2).objs.size=s.heap.objs.size+3:=by rw [Af6,d]
 have g:(mE s.heap l1 l2).objs.size=s.heap.objs.size+4:=by rw [Af6,e]
 have m:(xZ s.heap l1 l2).objs.size=s.heap.objs.size+5:=by rw [Af6,g]
 have b:(xZ s.heap l1 l2).get? (mE s.heap l1 l2).objs.size=y0 _:=Ab6 _ rfl
 have l:(xZ s.heap l1 l2).get? (mH s.heap l1 l2).objs.size=y0 _:=Aa2 _ (Ab6 _ rfl)
 have j:(xZ s.heap l1 l2).get? (mh s.heap l1 l2).objs.size=y0 _:=Aa2 _ (Aa2 _ (Ab6 _ rfl))
 have k:(xZ s.heap l1 l2).get? (mP s.heap l1).objs.size=y0 _:=Aa2 _ (Aa2 _ (Aa2 _ (Ab6 _ rfl)))
 have n:(xZ s.heap l1 l2).get? s.heap.objs.size=y0 _:=Aa2 _ (Aa2 _ (Aa2 _ (Aa2 _ (Ab6 _ rfl))))
 show _/\_
 rw [d,e,g]at b
 rw [f,d]at j
 rw [e]at l
 rw [f]at k
 rw [g]
 exact⟨⟨_,b,rfl⟩,h _ b j l ⟨_,n,rfl,rfl⟩ ⟨_,k,rfl,rfl⟩ m λc o x=>
  Aa2 _ (Aa2 _ (Aa2 _ (Aa2 _ (Aa2 _ x))))⟩
end
end PySem
namespace L2
open PySem PySem.Spec PyProof.Rows
section
variable {X:Cx}{y8:List (Addr×Obj)}{U:St}{H:Hp}{s:Shared}{h':Heap}
def Inv.eh {ch:List Addr}(I:Inv X y8 U H s) (k: ∀b o,b∉ch->s.heap.get? b=y0 o->h'.get? b=y0 o) (f: ∀b∈ch,eE X y8 H b):Inv X y8 U H { s with heap:=h',toks:=t' }:=by
 have d: ∀b u,H b=y0 u->b∉ch:=λb u q z=>by rw [(f b z).1]at q;cases q
 refine I.step (λb j=> ?_) (λb o _ _ a e _=>k b o a e) (λb o _ _ a e _=>⟨o.slots,k b o a e⟩) (λ_ _ _ _ n=>n)
  (λb o a e=>⟨o,k b o a e⟩) (λ_ _ e=>e) (λ_ _ _ e=>e) (λb C e=>⟨#[],by rw [e];simp⟩) (λm i=> ?_) (λb u q=> ?_) I.bare
 ·obtain⟨B,p,A,y,h,g⟩:=f b j
  exact⟨y,p,h,g⟩
 ·obtain⟨o,x,t,l,r⟩:=i
  exact⟨o,x,t,k _ o (λz=>(f _ z).2.1 rfl) l,r⟩
 ·refine(I.aL b u q).b8 (λc v a w=>k c v ?_ w) (λ_ q=>q) λ_ _ q=>q
  obtain z | z:=a
  ·rw [z];exact d b u q
  ·exact d c _ z
end
noncomputable def nG (K:Aa7) (l a:Addr):It:=
 ⟨λi H=> ∃xs x ys y,aZ K H l xs/\xs[i]? =y0 x/\bB K H a ys/\ys[i]? =y0 y,
   λi H v H'=> ∃p x y,H p=u0/\v= .ref p/\H'=aG H p (.tup [x,y])/\(∀ xs,aZ K H l xs->xs[i]? =y0 x)/\ ∀ys,bB K H a ys->ys[i]? =y0 y,
   λi H=> ∃xs ys,aZ K H l xs/\bB K H a ys/\min xs.length ys.length=i⟩
def Ea {K:Aa7}(z TI TO i1 i2 l a) (D:ZipApart z TI TO i1 i2 l a):gI P w K (.Tuple elts x1 tp) (nG K l a) [z,TI,TO,i1,i2] z
 (λi h=>IsZip h z TI TO .none/\IsPair h TI (.ref i1) (.ref i2)/\(∃ c d,IsPair h TO c d)/\h.IsListIter i1 l i/\h.IsTupleIter i2 a i) where
 mem:=by simp
 obj:=λi h r b g=>by
  obtain⟨B,j,⟨c,d,m⟩,⟨o1,q1,c1,d1⟩,⟨o2,q2,c2,d2⟩⟩:=r
  simp only [Ab9,Ad5,or_false]at g
  rcases g with e | e | e | e | e
  ·rw [e];exact⟨_,B,λv z=>by cases z⟩
  ·rw [e];exact⟨_,j,λv z=>by cases z⟩
  ·rw [e];exact⟨_,m,λv z=>by cases z⟩
  ·rw [e];exact⟨o1,q1,λv z=>by rw [d1]at z;cases z⟩
  ·rw [e];exact⟨o2,q2,λv z=>by rw [d2]at z;cases z⟩
 keep:=λi h h' r k=>by
  obtain⟨B,j,⟨c,d,m⟩,L,J⟩:=r
  exact⟨k z (by simp) _ B,k TI (by simp) _ j,⟨c,d,k TO (by simp) _ m⟩,L.at λo e=>k i1 (by simp) o e,J.at λo e=>k i2 (by simp) o e⟩
 item:=by
  intro X hP hw Y hc i A s U H E I S r hg
  subst hP hw Y
  obtain⟨B,j,⟨c,d,m⟩,L,J⟩:=r
  obtain⟨xs,x,ys,y,R,M,t,hy⟩:=hg
  obtain⟨N,rv,p,_⟩:=I.list R
  obtain⟨n,G,V,_⟩:=I.tuple t
  obtain⟨u,hu,ru⟩:=rv.get M
  obtain⟨u2,W,ru2⟩:=G.get hy
  refine xo D B j m L J p.isList (show s.heap.IsTuple a n.toArray from V) (by simpa using hu) (by simpa using W) λh3 a1 a2 a3 a4 a5 a6 Q=> ?_
  refine⟨_,rfl,wpAny_letOwnedTupleGo_zip a1 λh4 Z C=> ?_⟩
  have C:Aj3 z h3 h4:=C
  have lt: ∀ {c o},s.heap.get? c=y0 o->c≠s.heap.objs.size:=λe=>Ac2 (Ab4 e)
  have hn:=I.aL.fresh (Aa5 _)
  have I1:Inv X A U (aG H s.heap.objs.size (.tup [x,y])) { s with heap:=s.heap.push { cls:= .type "tuple",data:= .seq #[u,u2] } }:=by
   refine I.laid (λb o q=>Aa2 _ q) (Aa5 _) ⟨by simp only [Ab8,Ak0];rw [sizeLine_eq];decide,[u,u2],.cons ru (.cons ru2 .nil),?_⟩
   exact⟨_,Ab6 s.heap rfl,rfl,rfl,_,rfl⟩
  have fz: ∀b∈ [z,TI,TO,i1,i2],b≠s.heap.objs.size:=λb g=>by
   obtain⟨o1,q1,_⟩:=L
   obtain⟨o2,q2,_⟩:=J
   simp only [Ab9,Ad5,or_false]at g
   rcases g with e | e | e | e | e
   ·rw [e];exact lt B
   ·rw [e];exact lt j
   ·rw [e];exact lt m
   ·rw [e];exact lt q1
   ·rw [e];exact lt q2
  have I2:=I1.eh (t':=s.toks) (ch:= [z,TI,TO,i1,i2]) (λb o g q=>by
   simp only [Ab9,Ad5,or_false,not_or]at g
   obtain⟨b1,b2,b3,b4,b5⟩:=g
   refine(C.2 b b1).trans ?_
   rcases Heap.get?_push_cases (show (s.heap.push { cls:= .type "tuple",data:= .seq #[u,u2] }).get? b=some o from q)with⟨T,e2⟩ | T
   ·rw [T,e2];exact a5
   ·exact Q b o b1 b3 b4 b5 T) (λb g=>by
   obtain⟨f0,f⟩:=S b g
   exact⟨by rw [ja (fz b g)];exact f0,f⟩)
  refine⟨.ref s.heap.objs.size,_,I2,rfl,⟨s.heap.objs.size,x,y,hn,rfl,rfl,λzs F=>by rw [I.cU F R];exact M,λzs F=>by rw [I.cv F t];exact hy⟩,?_,λb g=>by rw [ja (fz b g)];exact(S b g).1⟩
  exact⟨Z,(C.2 TI D.TIz).trans (Q _ _ D.TIz D.TITO D.TIi1 D.TIi2 j),⟨_,_,(C.2 TO D.TOz).trans a2⟩,a3.at λo e=>(C.2 i1 D.i1z).trans e,a4.at λo e=>(C.2 i2 D.i2z).trans e⟩
 done:=by
  intro X hP hw Y hc i A s U H E I S r hg
  subst hP hw Y
  obtain⟨B,j,⟨c,d,m⟩,L,J⟩:=r
  obtain⟨xs,ys,R,t,M⟩:=hg
  obtain⟨N,rv,p,_⟩:=I.list R
  obtain⟨n,G,V,_⟩:=I.tuple t
  have hl:=rv.length
  have hl2:=G.length
  have O:N.toArray[i]? =u0\/n.toArray[i]? =none:=by
   rcases Nat.le_total xs.length ys.length with q | q
   ·exact .inl (Array.getElem?_eq_none (by rw [Aa8];rw [Ak4 q]at M;omega))
   ·exact .inr (Array.getElem?_eq_none (by rw [Aa8];rw [Nat.min_eq_right q]at M;omega))
  exact Jp (I.ok.hd hc) D B j m L J p.isList (show s.heap.IsTuple a n.toArray from V) O λh3 Q=>⟨rfl,I.eh (λb o g q=>by
   simp only [Ab9,Ad5,or_false,not_or]at g
   exact Q b o g.1 g.2.2.1 g.2.2.2.1 g.2.2.2.2 q) S⟩
 self:=λ_ _ _ _ _ r h=>wpAny_pyIter_zip r.1 h
def Bo (n l t:Nat) (h1:l<n) (h2:t<n):ZipApart (n+4) (n+2) (n+3) n (n+1) l t:=by
 constructor<;>exact λe=>absurd (show @Eq Nat _ _ from e) (by lia)
def HF (K:Aa7) (b:TA):TI:=λU H R=>b U H λc H1=> ∃l a xs ys,c= [.ref l,.ref a]/\aZ K H1 l xs/\bB K H1 a ys/\R (nG K l a) H1
def Eb:bootBuiltins "zip" =some (.type "zip"):=by decide +kernel
def A9 (N:Gl X "zip") (D:X.mg "zip" =none) (y:PA X [a,b] ta) (F:starEach [a,b] X.env= [(false,eval a X.env),(false,eval b X.env)]:=by rfl) (i:starEach [b] X.env= [(false,eval b X.env)]:=by rfl):PI X (.Tuple elts x1 tp) (.Call (.Name "zip" p) [a,b] [] pos) (HF X.K ta):=by
 intro g s U H R I h
 refine Call_ (qB I N D Eb (PyProof.Rows.callWith_type1 (aJ (y pos g s U H _ I h) λS d ⟨T,G,f,L,E⟩=> ?_) (by rw [F,i]) (by rw [i];rfl)))
 obtain⟨l,t,P,Q,e,J,k,q⟩:=E
 subst e
 cases L with
 | cons r M=>
  cases M with
  | cons K j=>
   cases j
   cases r
   cases K
   obtain⟨z,rv,pl,_⟩:=f.list J
   obtain⟨x,A,pt,_⟩:=f.tuple k
   have w:=pl.isList
   have n:=pt
   have C:l<d.heap.objs.size:=by obtain⟨o,e,_⟩:=w;exact Ab4 e
   have l2:t<d.heap.objs.size:=by obtain⟨o,e,_⟩:=n;exact Ab4 e
   refine j0 w n λO m a2 a3 a4 a5 a6 B=> ?_
   refine wpAny_pyIter_zip m ?_
   refine⟨d.heap.objs.size+4,[d.heap.objs.size+4,d.heap.objs.size+2,d.heap.objs.size+3,d.heap.objs.size,d.heap.objs.size+1],_,_,G,rfl,f.kept B,
    Ea _ _ _ d.heap.objs.size _ l t (Bo _ l t C l2),⟨m,a2,⟨_,_,a3⟩,a4,a5⟩,λc u=> ?_,q⟩
   have v:d.heap.objs.size<=c:=by
    simp [Ab9,Ad5,or_false]at u
    rcases u with e | e | e | e | e<;>rw [e]<;>first | exact Aa5 _ | exact Nat.le_add_right _ _
   exact f.cP v (f.aL.fresh v)
end L2
namespace HT
open PySem PyProof.Rows
section
open PySem.SeqAt
open PySem.AutoSeq1 (wpAny_loadPart')
open PySem.MeetsSeq PySem.MeetsSeq2 PySem.MeetsSeq3
def tS (a:IntsAre us ns)(h): ∃t,us[i]= .int (ns.getD i 0) t/\ns.drop i=ns.getD i 0::ns.drop (i+1):=by
 obtain⟨t,e⟩:=IntsAre.int_at a i us[i] (Aa4 h)
 have b:i<ns.length:=by rw [← a.length];exact h
 refine⟨t,e,?_⟩
 rw [Al2 b,Ab5,Aa4 b]
 rfl
def Mm (l b:Addr) (j f:Array Value) (n O:Nat) (dd E:Option Addr) (sl G:Array (Option Value)) (hsz:j.size=f.size) (D C:List Int) (L:IntsAre j.toList D) (K:IntsAre f.toList C) (k:Nat):
 ∀i:Nat,j.size-i=k->Meets (Builtin.«list.__eq__.loop» ⟨[.ref l,.ref b,rawInt i,rawInt 0],[]⟩)
  (λA R s=>s.heap.get? l=some { cls:= .type "list",dict:=dd,data:= .seq j n,slots:=sl }/\s.heap.get? b=some { cls:= .type "list",dict:=E,data:= .seq f O,slots:=G } ∧
    R (.ok (.ret (.bool (lexLt (D.drop i) (C.drop i))))) s):=by
 have V:j.size=D.length:=by rw [← L.length];simp
 have U:f.size=C.length:=by rw [← K.length];simp
 induction k with
 | zero=>
  intro i M prog w A R s h
  obtain⟨I,g,d,H,F⟩:=s;obtain⟨v,x,h⟩:=h
  wp_walk using wpAny_loadPart' v,wpAny_loadPart' x
  have o:j[((i:Nat):Int).toNat]? =none:=by simp;omega
  have m:f[((i:Nat):Int).toNat]? =none:=by simp;omega
  rw [List.drop_eq_nil_of_le (by omega),List.drop_eq_nil_of_le (by omega),ZN]at h
  rw [o,m]
  wp_walk using wpAny_loadPart' v,wpAny_loadPart' x
  show R (.ok (.ret (.bool (u9 (j.size<f.size))))) _
  rw [hsz]
  simpa using h
 | succ k N=>
  intro i M prog w A R s h
  obtain⟨I,g,d,H,F⟩:=s;obtain⟨v,x,h⟩:=h
  wp_walk using wpAny_loadPart' v,wpAny_loadPart' x
  have y:i<j.size:=by omega
  have p:i<f.size:=by omega
  have o:j[((i:Nat):Int).toNat]? =y0 j[i]:=by simp [y]
  have m:f[((i:Nat):Int).toNat]? =y0 f[i]:=by simp [p]
  have P:((i:Int)+1)=((i+1:Nat):Int):=by push_cast;rfl
  obtain⟨t,z,S⟩:=tS L (i:=i) (by simpa using y)
  obtain⟨u,B,T⟩:=tS K (i:=i) (by simpa using p)
  rw [Array.getElem_toList]at z B
  rw [S,T,cS]at h
  generalize D.getD i 0=a at z h
  generalize C.getD i 0=c at B h
  rw [o,m,z,B]
  obtain⟨e,Q,r⟩:=Et A.in1 ⟨I,g,d,H,F⟩ a t c u
  refine wpAny_bind (Q prog w _ _ ?_)
  cases e with
  | true=>
   rw [if_pos (r.mp rfl)]at h
   wp_walk
   rw [P]
   exact⟨plainId_quiet plain_eq_loop _,codeAny_builtin entry_eq_loop (by
    rw [Around.under_plainId plain_eq_loop _]
    exact N (i+1) (by omega) prog w A R _ ⟨v,x,h⟩)⟩
  | false=>
   rw [if_neg (λq=>absurd (r.mpr q) Ab7)]at h
   have J:=E4 A.in1 ⟨I,g,d,H,F⟩ a t c u prog w
   wp_walk using wpAny_loadPart' v,wpAny_loadPart' x
   rw [o,m,z,B]
   wp_walk using J
   simpa using h
def XT (l b) (items items2) (n n2) (dd dd2) (sl sl2) (hsz:items.size=items2.size) (c a:List Int) (j:IntsAre items.toList c) (i:IntsAre items2.toList a):
 Meets (Builtin.«list.__lt__» ⟨[.ref l,.ref b],[]⟩)
  (λA R s=>s.heap.get? l=some { cls:= .type "list",dict:=dd,data:= .seq items n,slots:=sl }/\s.heap.get? b=some { cls:= .type "list",dict:=dd2,data:= .seq items2 n2,slots:=sl2 } ∧
    R (.ok (.ret (.bool (lexLt c a)))) s):=by
 intro prog w A R s h
 obtain⟨o,g,d,m,k⟩:=s;obtain⟨e,f,h⟩:=h
 have p:=AutoSeq1.sub_list_list
 wp_walk using wpAny_loadPart' e,wpAny_loadPart' f
 exact⟨plainId_quiet plain_eq_loop _,codeAny_builtin entry_eq_loop (by
  exact Mm l b items items2 n n2 dd dd2 sl sl2 hsz c a j i _ 0 rfl prog w A R _ ⟨e,f,by simpa using h⟩)⟩
end
section
variable {prog:Program}{w:World}{A:Around}{E:Value->Shared->Prop}{s:Shared}
def d8 (m:s.heap.IsList l items) (r:s.heap.IsList b items2) (hsz:items.size=items2.size) (u:IntsAre items.toList ns) (p:IntsAre items2.toList ms)
 (y:A.units<cLine) (h:Q (.bool (lexLt ns ms)) s):wpAny (model prog w) A (compareOp .Lt (.ref l) (.ref b)) Q E s:=by
 obtain⟨⟨v,dd,k,sl⟩,j,t,n,o⟩:=id m
 obtain⟨⟨i,c,g,d⟩,a,f,q,e⟩:=id r
 subst t o f e
 exact richCompare_meets_room (op:= .Lt) ⟨_,j,rfl⟩ ⟨_,a,rfl⟩ PySem.F.slot_list_lt PySem.F.entry_list_lt (PySem.F.args_list_lt_2 _ _) (XT l b items items2 n q dd c sl d hsz ns ms u p)
  ⟨j,a,show Value.bool _≠Value.notImplemented/\Q _ s from⟨(λx=>nomatch x),h⟩⟩ y
end
end HT
namespace L2
open PySem PySem.Spec PyProof.Rows
section
variable {X:Cx}
def EH (K:Aa7):R2:=λx y H Q=> ∃a b c d,x= .ref a/\y= .ref b/\aZ K H a (c.map V.int)/\aZ K H b (d.map V.int)/\c.length=d.length/\Q (.bl (HT.lexLt c d)) H
def yo (o:X.A.units<cLine):bG X (compareOp .Lt) (EH X.K):=by
 intro c s U H x y v u Q I k l h
 obtain⟨a,b,w,t,rfl,rfl,g,m,p,q⟩:=h
 cases k
 cases l
 obtain⟨i,e,n,_⟩:=I.list g
 obtain⟨f,d,j,_⟩:=I.list m
 have i1:=jK e
 have i2:=jK d
 have r:=e.length
 have l2:=d.length
 exact HT.d8 n.isList j.isList (by simp_all) i1 i2 o ⟨.bl _,H,I,rfl,q⟩
end
end L2
set_option maxHeartbeats 8000000
namespace L2
open PySem PySem.Spec PyProof.Rows
open Sem (wp)
abbrev K2:=List (Int ⊕ List Int)
section
variable (prog:Program) (w:World)
inductive WX (h:Heap):K2->List Value->Prop
 | nil:WX h [] []
 | int {i:Int}{t:Tok}{ks:K2}{vs:List Value}:WX h ks vs->WX h (.inl i::ks) (.int i t::vs)
 | tup {l:List Int}{a:Addr}{ks:K2}{vs:List Value}:IsTupleKey (intKind prog w) h l a->WX h ks vs->WX h (.inr l::ks) (.ref a::vs)
end
abbrev WK:=Int×List Int×List Int
def tG (l:List Int):Int:=reduceHash (Builtin.Tuple.tupleHashOf (l.map hashInt))
def B8 (k:WK):Int:=reduceHash (Builtin.Tuple.tupleHashOf [hashInt k.1,tG k.2.1,tG k.2.2])
def AA (x:WK×Addr×Value):DictEntry:=⟨B8 x.1,.ref x.2.1,x.2.2⟩
noncomputable def DW (a:Addr) (xs:List (WK×Addr×Value)):HO:= .ext λh=>(a==sysModules)=y9/\xs.length<=sizeLine/\(xs.map (·.1)).Nodup/\ ∃o es b,h.get? a=y0 o/\o.ExactDict/\o.data= .dict es b/\es.toList=xs.map AA
section
variable {X:Cx}{y8:List (Addr×Obj)}{U:St}{H:Hp}{s:Shared}{a b:Addr}{k:WK}{xs:List (WK×Addr×Value)}{r:Value}{A:Around}{E:Value->Shared->Prop}
def BN (I:Inv X y8 U H s):sysModules<s.heap.objs.size:=by
 have h:=(I.mod.glob.keeps I.bk).lt
 exact Nat.lt_trans (by decide) h
end
open PySem.AutoSeq1 (wpAny_loadPart')
open MeetsSeq MeetsSeq2 MeetsSeq3 SeqRoads2 PySem.SeqAt
open PySem PySem.Spec PyProof.Rows PyProof.Rows.KTD PyProof.V
def HR (K:Aa7) (a:Addr) (T:List (Str×PyData)):Prop:=tabLook flatLooks (λb=>K.lookup b) a T=k9
open PySem PySem.Spec PySem.Calls PySem.W PyProof.Rows
def zN:List Value->Bool
 | []=>y9
 | x::r=>match x with
  | .ref _=>zN r
  | _=>x::r==jF
theorem zq {P:List Value->Prop}(a:P jF) (h1: ∀c r,P r->P (.ref c::r)): ∀ {l},zN l=k9->P l
 | [],e=>by cases e
 | x::r,e=>by
  unfold zN at e
  split at e
  ·exact h1 _ _ (zq a h1 e)
  ·rw [beq_iff_eq.mp e];exact a
def wT (self)(e:zN l=k9):refuseLoop self "__setattr__" l=pure ():=
 zq (P:=fun l=>refuseLoop self "__setattr__" l=pure ()) (PySem.F.store_ValueError.passes self) (fun c r h=>by rw [refuseLoop_ref];exact h) e
def qX (e:zN l=true):l.contains (.type "object")=true:=
 zq (P:=λl=>l.contains _=k9) (by decide +kernel) (λc r h=>by rw [Ak8,h,Bool.or_true]) e
def Ih (e:zN l=true):l.contains (.type "BaseException")=true:=
 zq (P:=λl=>l.contains _=k9) (by decide +kernel) (λc r h=>by rw [Ak8,h,Bool.or_true]) e
def tF (e:zN l=k9):l.isEmpty=false:=
 zq (P:=λl=>l.isEmpty=y9) rfl (λc r h=>rfl) e
def kv (K:Frag) (C:Addr):Bool:=(clsIn K C).any λcd=>zN cd.mro&&cd.hasDict
def td {K:Frag}(h:kv K C=k9): ∃cd,clsIn K C=y0 cd/\zN cd.mro=k9/\cd.hasDict=true:=by
 obtain⟨cd,b,a⟩:=PySem.W.any_some h
 rw [Aa6]at a
 exact⟨cd,b,a.1,a.2⟩
section
variable {prog:Program}{w:World}{A:Around}{E:Value->Shared->Prop}{s:Shared}{K:Frag}{x C t:Addr}{f:Str}{u:Value}
def C5 (X:K.In s.heap) (j:s.heap.get? x=some (fq C t none)) (G:kv K C=true) (F:findIn K (.ref C) "__setattr__" =some (some (.builtin "object.__setattr__"))) (N:findIn K (.ref C) f=some none)
 (h: ∀h',(∀ b o,b≠x->s.heap.get? b=y0 o->h'.get? b=y0 o)->h'.get? x=y0 (fq C t (y0 s.heap.objs.size))->h'.Ns1 s.heap.objs.size (λy=>if y=f then y0 u else u0)->Q () { s with heap:=h',toks:=s.toks+2 }):
 wpAny (model prog w) A (setAttr (.ref x) f u) Q E s:=by
 obtain⟨cd,n,m,v⟩:=td G
 have I:PySem.W.InstAt s.heap x _ C none:=⟨j,rfl,rfl,trivial⟩
 refine PySem.W.set_plain X I F ?_
 have a:=PySem.F.store_object
 have sub:Looks (model prog w) s.heap (isInstance _ _) true:=I.type.andThen (looks_mroIn X (by unfold mroIn;rw [n,Ag4,if_neg (by rw [tF m];decide),qX m]))
 have L:Looks (model prog w) s.heap (mroOf (.ref C)) cd.mro:=(looks_clsIn X n).andThen .now
 have H:=looks_findIn (M:=model prog w) X N
 refine codeAny_call_builtin a.slot.plain a.entry (@check_slot _ _ _ { s with toks:=s.toks+1 } "object.__setattr__" "object" "__setattr__" _ [.str f s.toks,u] [] _ a.kind a.split sub (a.args _ _ u) ?_)
 rw [osa_eq,refuse_eq]
 refine wpAny_bind (wpAny_bind (I.type.here (s:= { s with toks:=s.toks+1 }) (wpAny_bind (L.here (s:= { s with toks:=s.toks+1 }) ?_))))
 rw [wT _ m]
 refine wpAny_pure (wpAny_bind (I.type.here (s:= { s with toks:=s.toks+1 }) (wpAny_bind (H.here (s:= { s with toks:=s.toks+1 }) (wpAny_bind (wpAny_pure ?_))))))
 have i:(s.heap.push { cls:= .type "dict",data:= .dict #[] }).get? x=some _:=Heap.get?_push_of_some _ j
 have g:=Ac2 (Ab4 j)
 refine wpAny_bind (wpAny_pure (wpAny_bind (wpAny_bind (wpAny_loadPart j (wpAny_bind (PySem.W.Looks.here (PySem.W.looks_clsIn X n) ?_))))))
 rw [v]
 have k:((s.heap.push { cls:= .type "dict",data:= .dict #[] }).update x fun o=> { o with dict:=some s.heap.objs.size }).get? s.heap.objs.size=some { cls:= .type "dict",data:= .dict #[] }:=
  (Am6 _ _ _ _ g.symm).trans (Ab6 _ rfl)
 have l:((s.heap.push { cls:= .type "dict",data:= .dict #[] }).update x fun o=> { o with dict:=some s.heap.objs.size }).Ns s.heap.objs.size (fun _=>none):=
  ⟨_, #[],_,k,rfl,λe J=>absurd J (by simp),λ_=>rfl⟩
 refine wpAny_bind (wpAny_alloc (wpAny_bind (wpAny_update i (wpAny_pure ?_))))
 refine wpAny_bind (wpAny_pure (wpAny_bind (wpAny_nsSet1 (Heap.Ns1.of_empty l) λh' c d=> ?_)))
 obtain⟨O,D,z,p,r,q⟩:=c.count (PySem.Within.cons f u PySem.Within.nil)
 refine wpAny_bind (wpAny_lookBehind p (by rw [r];exact pastItsLine_dict (Ac q (by rw [Ab8,Ak0,sizeLine_eq];omega))) ?_)
 refine wpAny_pure (h h' (λb o B e=> ?_) ?_ c)
 ·exact(d.2 b (Ac2 (Ab4 e))).trans ((Am6 _ _ _ _ B).trans (Aa2 _ e))
 ·exact(d.2 x g).trans (Ah8 _ i rfl)
end
noncomputable def xJ (K:Frag) (C:Addr):Bool:=match K.lookup C with
 | some ⟨.type "type",_,.cls cd,sl⟩=>(match cd.mro,sl.toList with
  | .ref c::a,[_,_,_,_,y0 (.builtin n),_]=>c==C&&(n== "ValueError.__new__" &&(!cd.hasDel&&(tailIn K jF a&&nsOkIn K cd.ns)))
  | _,_=>y9)
 | _=>y9
def JG {K:Frag}(X:K.In h) (q:xJ K C=k9):
 ∃J L nm j bs i sn sub ab col dd k0 k1 k2 k3 k5 mN,h.get? C=y0 (excClassObj nm j C L bs J i sn sub ab col dd k0 k1 k2 k3 k5 "ValueError.__new__")/\h.Ns L mN/\OwnTail h jF J:=by
 unfold xJ at q
 split at q
 next dd cd sl g=>
  split at q
  next p k k0 k1 k2 k3 nn k5 d o=>
   simp only [Aa6,beq_iff_eq,An2]at q
   obtain⟨rfl,rfl,c,n,e⟩:=q
   obtain⟨nm,bs,f,a,j,i,sn,sub,ab,col,m⟩:=cd
   dsimp only at d c e
   subst d c
   have b:sl= #[k0,k1,k2,k3,y0 (.builtin "ValueError.__new__"),k5]:=by
    cases sl with
    | mk l=>exact congrArg Array.mk o
   subst b
   exact⟨k,a,nm,j,bs,i,sn,sub,ab,col,dd,k0,k1,k2,k3,k5,_,X _ _ g,.of_isNs (isNs_of_in X e),tail_of_in X n⟩
  next=>cases q
 next=>cases q
section
variable {prog:Program}{w:World}{A:Around}{E:Value->Shared->Prop}{h:Heap}{g:Array GenState}{d:Drawn}{t:Nat}{os:OsState}{K:Frag}{C fI:Addr}
def ZR (h:Heap) (C:Addr) (rest:List Value):Heap:=(h.push { cls:= .type "tuple",data:= .seq rest.toArray }).push (fq C h.objs.size none)
def Zz {rest:List Value}(e:h.get? b=y0 o):(ZR h C rest).get? b=y0 o:=Aa2 _ (Aa2 _ e)
def rR {rest:List Value}:(ZR h C rest).get? (h.objs.size+1)=y0 (fq C h.objs.size u0):=by
 have:=Heap.get?_push_size (h.push { cls:= .type "tuple",data:= .seq rest.toArray }) (o:=fq C h.objs.size none) rfl
 rwa [Af6]at this
def B3 {rest:List Value}{Q:Value->Shared->Prop}(X:K.In h) (q:xJ K C=true) (v:findIn K (.ref C) "__init__" =some (some (.ref fI))) (y:typeIn K (.ref fI)=some (.type "function")) (c:rest.length<=sizeLine)
 (s:wpAny (model prog w) (A.under (.builtin "type.__call__" ⟨.ref C::rest,[]⟩)) (call (.ref fI) (.ref (h.objs.size+1)::rest)) (fun r s'=>r= .none/\Q (.ref (h.objs.size+1)) s') E ⟨ZR h C rest,g,d,t,os⟩):
 wpAny (model prog w) A (call (.ref C) rest) Q E ⟨h,g,d,t,os⟩:=by
 obtain⟨l,N,S,B,bs,m,V,sub,L,p,dd,D,U,G,R,I,P,a,J,T⟩:=JG X q
 have F:=PySem.F.excBase_ValueError
 have O:=tc_lookup
 have z:=tc_bind (.ref C)
 have H:(⟨h,g,d,t,os⟩:Shared).TypeIs (.ref C) "type" :=⟨_,a,rfl⟩
 refine wpAny_call (codeAny_of_tree ?_)
 show wpAny _ _ _ _ _ _
 repeat (any_goals (first | assumption | with_reducible refine wpAny_loadPart_at a ?_ | wp_step))
 refine⟨rfl,codeAny_call_builtin_at (Code.quiet_builtin _ (by decide +kernel)) entry_typeCall (wpAny_check_type_call_sub a ?_)⟩
 repeat (first | with_reducible refine wpAny_loadPart_at a ?_ | with_reducible refine wpAny_madeBy_exc a ?_ | wp_step)
 refine codeAny_call_builtin_code (Code.quiet_builtin _ F.quiet) (wpAny_check_new_subT F T a (codeAny_exc_new_subT F T a ?_ c))
 show wpAny _ _ _ _ _ ⟨ZR h C rest,g,d,t,os⟩
 have k:K.In (ZR h C rest):=λb o e=>Zz (X b o e)
 have j:=Zz (C:=C) (rest:=rest) a
 have f:(ZR h C rest).get? (h.objs.size+1)=y0 { cls:= .ref C,data:= .fields #[.ref h.objs.size,.none,.none,.none,.bool y9,.none] }:=rR
 have i:(Value.ref C::l).contains (.ref C)=true:=by simp
 unfold isInstance
 repeat (first | with_reducible refine wpAny_loadPart_at f ?_ | (with_reducible refine wpAny_isSubtype_exc j ?_;rw [i]) | wp_step)
 show wpAny _ _ (typeLookup (.ref C) _) _ _ _
 refine(looks_findIn (M:=model prog w) k v).at ?_
 refine wpAny_holding (wpAny_bind ((bind_fn (M:=model prog w) k (.ref (h.objs.size+1)) y).at ?_))
 refine wpAny_bind (wpAny_mono s (λr s' u=> ?_) λ_ _ x=>x)
 obtain⟨rfl,n⟩:=u
 wp_walk
 exact n
end
def fv (x C t:Addr) (a:Option Addr):HO:= .ext λh=>h.get? x=y0 (fq C t a)
def sT (e:h.get? x=y0 (fq C t od)):aO P w H h x (fv x C t od):=⟨e,⟨_,e⟩,λ_ _ z k=>k _ z⟩
def ir (H:Hp) (x:Addr):Hp:=λb=>if b=x then u0 else H b
def o4 (h:b≠x):ir H x b=H b:=if_neg h
def uW :ir H x x=none:=if_pos rfl
section
variable {X:Cx}{y8:List (Addr×Obj)}{U:St}{H:Hp}{s:Shared}
def Inv.forget (I:Inv X y8 U H s) (a:H x=y0 (.ext i)):Inv X y8 U (ir H x) s:=by
 have ne: ∀b o,H b=y0 o->(∀ i,o≠ .ext i)->ir H x b=y0 o:=λb o q n=>by
  rw [o4 (λe=>by rw [e,a]at q;cases q;exact n _ rfl)];exact q
 have nn: ∀b,H b=u0->ir H x b=none:=λb q=>by
  unfold ir
  split
  ·rfl
  ·exact q
 refine⟨I.ok,I.os,I.bare,⟨I.base.keep,I.base.slot,λb u e n a=>nn b (I.base.free b u e n a),I.base.there,λb d q=>ne b _ (I.base.cz b d q) (λ_ z=>by cases z),λb u v q=>ne b _ (I.base.cg b u v q) (λ_ z=>by cases z),λb h q=> ?_⟩,
  I.loc,I.cell,nn _ I.free,λy c q=>nn _ (I.bq y c q),λp j=> ?_,λb u q=> ?_,I.len⟩
 ·obtain⟨more,k⟩:=I.base.cA b h q
  exact⟨more,ne b _ k (λ_ z=>by cases z)⟩
 ·obtain⟨g,a2,a3⟩:=I.pin p j
  exact⟨g,nn _ a2,a3⟩
 ·by_cases f:b=x
  ·rw [f,uW]at q;cases q
  ·rw [o4 f]at q
   exact(I.aL b u q).b8 (λ_ _ _ z=>z) (λc z=>ne c _ z (λ_ z=>by cases z)) λc d z=>ne c _ z (λ_ z=>by cases z)
def Inv.stored (I:Inv X y8 U H s) (j:H x=y0 (fv x C t u0)) (p:RelV y u) (k: ∀b o,b≠x->s.heap.get? b=y0 o->h'.get? b=y0 o)
 (e:h'.get? x=y0 (fq C t (y0 s.heap.objs.size))) (n:h'.Ns1 s.heap.objs.size (λz=>if z=f then y0 u else u0)):
 Inv X y8 U (aG (aG H s.heap.objs.size (.xd [(f,y)])) x (fv x C t (y0 s.heap.objs.size))) { s with heap:=h',toks:=t' }:=by
 have c:=(I.aL x _ j).1
 have d:=Ac2 (Ab4 c)
 have m:(h'.update x λ_=>fq C t u0).get? x=y0 _:=Ah8 _ e rfl
 have i: ∀b,b≠x->(h'.update x λ_=>fq C t u0).get? b=h'.get? b:=λb a=>Am6 _ _ _ _ a
 have l:=I.laid (o:= .xd [(f,y)]) (t':=t') (λb o q=>by
  by_cases a:b=x
  ·subst a;rw [c]at q;cases q;exact m
  ·rw [i b a];exact k b o a q) (Aa5 _) ⟨_,n.at λo q=>(by rw [i _ d.symm];exact q),λg=>by
   by_cases h:g=f
   ·rw [if_pos h]
    subst h
    show dq (match g==g with | true=>y0 y | false=>u0) _
    rw [beq_self_eq_true]
    exact p
   ·rw [if_neg h]
    show dq (match g==f with | true=>y0 y | false=>u0) _
    rw [beq_eq_false_iff_ne.mpr h]
    exact trivial⟩
 refine l.write (by rw [ja d,j];exact True.intro) (.inl rfl) (λb o a q=> ?_) ⟨_,e⟩ (sT e)
 exact(i b a).symm.trans q
end
structure mx (K:Frag) (C:Addr) (f:Str):Prop where
 cls:xJ K C=k9
 ov:kv K C=k9
 sa:findIn K (.ref C) "__setattr__" =some (some (.builtin "object.__setattr__"))
 no:findIn K (.ref C) f=y0 u0
 kp:keepIn K (.ref C)=k9
def F1 (K:Frag) (b c:TE) (f:Str):TS:=λD U H=>c U H λy H1=>b U H1 λx H2=> ∃a C t,x= .ref a/\H2 a=y0 (fv a C t u0)/\mx K C f/\ ∀dx,H2 dx=u0->dx≠a->D.nx U (aG (aG H2 dx (.xd [(f,y)])) a (fv a C t (y0 dx)))
def Di (l:PE X o ta) (A:PE X value tv) (w:swapsWith value (y0 (.Attribute o f pos')) pos.line X.env=pure y9):PS X (.Assign [.Attribute o f pos'] value pos) (F1 X.K ta tv f):=by
 intro b s U H D I h
 refine plainObj_wpAny_Assign_Attribute (aJ (A b s U H _ I h) λu n ⟨y,z,m,r,q⟩=>aJ (l b n U z _ m q) λj B ⟨x,E,g,p,a,C,t,ex,i,c,v⟩=> ?_) w
 subst ex
 obtain rfl:j=Value.ref a:=p
 have d:=(g.aL a _ i).1
 exact C5 g.bH d c.ov c.sa c.no λF k e hn=>⟨U,_,g.stored i r k e hn,v _ (g.aL.fresh (Aa5 _)) (Al1 (Ab4 d))⟩
def FP (K:Frag) (f:Str):Sp:=λb H Q _=> ∃a v C t,b= [.ref a,v]/\H a=y0 (fv a C t u0)/\mx K C f/\ ∀dx,H dx=u0->dx≠a->Q .au (aG (aG H dx (.xd [(f,v)])) a (fv a C t (y0 dx)))
structure mF (K:Frag) (f:Str) (fI:Addr) (fd:FuncData) (ps:List Str):Prop where
 ex: ∃x k7 st N n1 n2 p1 p2 p3 p4,iC K x k7 st fI fd/\ps= [n1,n2]/\N= [n1,n2]/\xA N ps (xk st)/\wH st= [.Assign [.Attribute (.Name n1 p1) f p2] (.Name n2 p3) p4]/\(n1==("__debug__" :Str))=false/\(n2==("__debug__" :Str))=false ∧
  (n1==("__classdict__" :Str))=false/\(n2==("__classdict__" :Str))=false
 bd:Binds K fd ps []
 fn:typeIn K (.ref fI)=y0 (.type "function")
def A8 {K:Frag}(Z:mF K f fI fd ps):bg P w K mg base (cj P w) 1 fI fd ps (FP K f):=by
 obtain⟨x,d,G,N,j,g,I,y,B,D,F,rfl,rfl,S,m,k,l,u,r⟩:=Z.ex
 refine iC.uc F S (λn H Q E ⟨a,v,C,t,e,_⟩=>by subst e;rfl) ?_
 rintro o A b s H n Q E h ⟨a,v,C,t,e,p,c,q⟩
 subst e
 rw [m]
 have v1:iF _ j:=(S.par j (by simp)).elim .inl λz=> .inr (.inl z)
 have v2:iF _ g:=(S.par g (by simp)).elim .inl λz=> .inr (.inl z)
 refine⟨_,Li (Di (xm (i:=0) rfl v1 k u) (xm (i:=1) rfl v2 l r) rfl),?_⟩
 exact⟨v,rfl,.ref a,rfl,a,C,t,rfl,p,c,q⟩
def D0 {M:Model}{A:Around}{E:Value->Shared->Prop}{s:Shared}{env:Env}{v:Sem Value}{K:Frag}{C:Addr}{Q:Flow->Shared->Prop}(o:xJ K C=k9) (m:A.handled=u0)
 (h:wpAny M A v (λv i=> ∃e t j,v= .ref e/\K.In i.heap/\i.heap.get? e=y0 (fq C t j)/\E (.ref e) i) E s):wpAny M A (raiseStmt env (y0 v) u0) Q E s:=by
 refine wpAny_bind (wpAny_mono h (λv i l=> ?_) λ_ _ x=>x)
 obtain⟨e,t,j,rfl,X,p,q⟩:=l
 obtain⟨f,H,L,u,bs,k,O,sub,G,n,dd,w,N,y,J,z,I,c,F,T⟩:=JG X o
 have b:(Value.ref C::f).contains (.type "BaseException")=true:=by rw [List.contains_cons,T.hasType PySem.F.excBase_ValueError.hasBase,Bool.or_true]
 have a:i.heap.get? e=y0 { cls:= .ref C,dict:=j,data:= .fields #[.ref t,.none,.none,.none,.bool y9,.none] }:=p
 obtain⟨D,g,d,B,r⟩:=i
 repeat (first | with_reducible refine wpAny_loadPart_at a ?_ | with_reducible refine wpAny_loadPart_at c ?_ | (with_reducible refine wpAny_isSubtype_exc c ?_;rw [b]) | wp_step)
 exact wpAny_raiseNew_none m q
section
variable {P:Program}{w:World}{K:Frag}{mg:Str->Option Value}{base:Heap}{N:List Str}{k7:Str}{scope:Scope}{f:Addr}{cd:Value}{A:Around}{outer:List Env}{s:Shared}{H:Hp}{E:XK}
def pX (C:Addr) (a:Str) (E:XK) (t:TA):TS:=λ_ U H=>t U H λb H1=> ∃v,b= [v]/\ ∀dx,H1 dx=u0->E (.ref C) (y0 dx) (aG H1 dx (.xd [(a,v)]))
def Bz (n:mx K C fl) (hi:findIn K (.ref C) "__init__" =some (some (.ref fI))) (Z:mF K fl fI fd ps) (Y:mg x=some (.ref C)) (hg:Gl (wR (cj P w) P w K mg base N k7 scope f cd A outer s H E) x)
 (hr:a9 2 (A.deeper (envOfC k7 scope s.heap.objs.size f cd))) (R:PA (wR (cj P w) P w K mg base N k7 scope f cd A outer s H E) [e] t)
 (he:starEach [e] (envOfC k7 scope s.heap.objs.size f cd)=(false,eval e (envOfC k7 scope s.heap.objs.size f cd))::starEach [] (envOfC k7 scope s.heap.objs.size f cd):=by rfl) (T:(x==("__debug__" :Str))=false:=by decide):
 PS (wR (cj P w) P w K mg base N k7 scope f cd A outer s H E) (.Raise (y0 (.Call (.Name x np) [e] [] u7)) u0 pos) (pX C fl E t):=by
 intro i W U H1 D I h
 rw [arm_exec_Raise]
 refine wpAny_bind (wpAny_standAt (D0 n.cls (I.ok.hd rfl) ?_))
 refine wpAny_bind (wpAny_mono (wpAny_Call_Name_kw (wA I hg Y ?_ T)) (λv s3 V=>wpAny_bind (wpAny_standAt (wpAny_pure V))) λ_ _ x=>x)
 refine callWith_K I.ok.mod.kb n.kp (aJ (R u7 i W U H1 _ I h) λus a ⟨vs,j,k,r,v,J,q⟩=>⟨k.bH,?_⟩) he rfl
 subst J
 obtain⟨u,rfl,G⟩: ∃u,us= [u]/\RelV v u:=by
  cases r with
  | cons G X=>cases X;exact⟨_,rfl,G⟩
 have B:=k.laid (h':=ZR a.heap C [u]) (t':=a.toks) (λb o z=>Zz z) (Ah4 _) (sT rR)
 have d:j _=none:=k.aL.fresh (Ah4 _)
 refine B3 k.bH n.cls hi Z.fn (show 1<=sizeLine by rw [sizeLine_eq];decide) ?_
 have F:=A8 (P:=P) (w:=w) (mg:=mg) (base:=base) Z
 have S:ps.length=2:=by obtain⟨_,_,_,_,_,_,_,_,_,_,_,rfl,_⟩:=Z.ex;rfl
 refine wpAny_call (codeAny_mono (F.run _ _ _ _ ⟨[.ref _,u],[]⟩ [.ref _,u] [.ref _,v]
  (λM Q=>M= .au/\ ∃c,j c=u0/\c≠a.heap.objs.size+1/\Q=aG (aG (aG j (a.heap.objs.size+1) (fv (a.heap.objs.size+1) C a.heap.objs.size u0)) c (.xd [(fl,v)])) (a.heap.objs.size+1) (fv (a.heap.objs.size+1) C a.heap.objs.size (y0 c)))
  (λ_ _ _=>False) (hr.make C [u] []) (B.iH.make C [u] []) (by
    have:=Z.bd ⟨ZR a.heap C [u],a.gens,a.drawn,a.toks,a.os⟩ [.ref (a.heap.objs.size+1),u] B.bH (by rw [Ae4,S];rfl)
    rwa [Ae4]at this) (.cons rfl (.cons G .nil)) ⟨_,v,C,a.heap.objs.size,rfl,wb,n,λc z ne=>⟨rfl,c,by rw [ja ne]at z;exact z,ne,rfl⟩⟩) λres s' l=> ?_)
 cases res with
 | error J=>
  obtain⟨_,_,_,_,_,_,_,_,_,_,_,_,_,_,_,z⟩:=l
  exact z.elim
 | ok y=>
  cases y with
  | ret u'=>
   obtain⟨M,Q,m,rv,rfl,c,z1,L,rfl⟩:=B.after l
   refine⟨rv,_,a.heap.objs.size,y0 c,rfl,m.bH,(m.aL _ _ wb).1,?_⟩
   have O:=m.forget wb
   have eH:ir (aG (aG (aG j (a.heap.objs.size+1) (fv (a.heap.objs.size+1) C a.heap.objs.size u0)) c (.xd [(fl,v)])) (a.heap.objs.size+1) (fv (a.heap.objs.size+1) C a.heap.objs.size (y0 c))) (a.heap.objs.size+1)=aG j c (.xd [(fl,v)]):=by
    funext b
    by_cases p:b=a.heap.objs.size+1
    ·rw [p,uW,ja (Ne.symm L),d]
    ·rw [o4 p,ja p]
     by_cases g:b=c
     ·rw [g,wb,wb]
     ·rw [ja g,ja g,ja p]
   rw [eH]at O
   refine xK O (m.aL _ _ wb).1 (Heap.get?_none_of_le (Ac k.sz (Ah4 _))) ?_ (q c z1)
   rw [ja (Ne.symm L),d]
  | next=>exact False.elim l
  | brk=>exact False.elim l
  | cont=>exact False.elim l
end
section
variable {prog:Program}{w:World}{A:Around}{E:Value->Shared->Prop}{s:Shared}{K:Frag}{x C dx:Addr}{fl:Str}{u:Value}{ox:Obj}{mA:Str->Option Value}
def CW (X:K.In s.heap) (o:s.heap.get? x=y0 ox) (J:ox.cls= .ref C) (D:notCls ox=k9) (y:ox.dict=y0 dx) (p:s.heap.Ns1 dx mA) (P:mA fl=y0 u) (F:handedIn u=k9) (G:kv K C=k9) (N:findIn K (.ref C) fl=y0 u0)
 (i:findIn K (.ref C) "__getattribute__" =some (some (.builtin "BaseException.__getattribute__"))) (z:findIn K (.ref C) "__getattr__" =some none)
 (h:Q u { s with toks:=s.toks+1 }):wpAny (model prog w) A (getAttr (.ref x) fl b) Q E s:=by
 obtain⟨cd,a,c,f⟩:=td G
 obtain⟨j,g,d,t,v⟩:=s
 dsimp only at X o p h
 obtain⟨O,l,m⟩:=QU p
 have I:PySem.W.InstAt j x ox C (y0 O):=⟨o,J,D,by rw [y];exact l⟩
 have n:findObj K C _ fl=y0 _:=PySem.W.findObj_own (by unfold hasDictIn;rw [a];exact f) N rfl (by rw [m,P])
 have r:=I.type (M:=model prog w)
 have L:=looks_findIn (M:=model prog w) X i
 have H:=looks_findIn (M:=model prog w) X z
 have B:=looks_find (M:=model prog w) X I n
 have sub:Looks (model prog w) j (isInstance (.ref x) (.type "BaseException")) true:=I.type.andThen (looks_mroIn X (by unfold mroIn;rw [a,Option.bind_some,if_neg (by rw [tF c];decide),Ih c]))
 have q:=PySem.F.attrBase_ValueError
 have R:=q.ga.bind (.ref x)
 have k:(b&&onTheHeap (Value.builtin "BaseException.__getattribute__"))=false:=by cases b<;>rfl
 unfold getAttr getAttrBy
 refine wpAny_bind (wpAny_mkText (wpAny_holding (wpAny_bind (r.at (wpAny_bind (L.at ?_))))))
 have e:(Value.builtin "BaseException.__getattribute__" ==Value.builtin "object.__getattribute__")=false:=by decide +kernel
 dsimp only
 rw [e,Bool.and_false,if_neg (by decide)]
 unfold getAttrByItsOwn hookBefore
 refine wpAny_bind (H.at (wpAny_bind (wpAny_attempt (wpAny_holding ?_))))
 unfold callGetattribute
 rw [k,if_neg (by decide)]
 repeat (any_goals (first | assumption | wp_step))
 refine codeAny_call_builtin q.ga.plain PySem.F.entry_bexc_ga (@check_slot (model prog w) _ _ ⟨j,g,d,t+1,v⟩ "BaseException.__getattribute__" "BaseException" "__getattribute__" (.ref x) [.str fl t] [] _ (by decide +kernel) (by decide +kernel) sub (PySem.F.args_bexc_ga (.ref x) (.str fl t)) ?_)
 refine wpAny_bind (wpAny_pure (wpAny_bind (wpAny_pure (wpAny_bind (r.at (wpAny_bind (B.at ?_)))))))
 refine wpAny_pure ?_
 show wpAny _ _ (handedOut u) _ _ _
 rw [handedOut_of F]
 exact wpAny_pure h
end
structure lI (K:Frag) (C:Addr) (f:Str):Prop where
 ov:kv K C=k9
 no:findIn K (.ref C) f=y0 u0
 ga:findIn K (.ref C) "__getattribute__" =some (some (.builtin "BaseException.__getattribute__"))
 gh:findIn K (.ref C) "__getattr__" =some none
def Dg (K:Frag) (b:TE) (f:Str):TE:=λU H Q=>b U H λx H1=> ∃a C dx v,x= .ref a/\H1 a=y0 (eX a C (y0 dx))/\H1 dx=y0 (.xd [(f,v)])/\lI K C f/\Q v H1
def LN (D:PE X e ta) (w:attributeBase e f X.env (eval e X.env)=eval e X.env):PE X (.Attribute e f pos) (Dg X.K ta f):=by
 intro b s U H Q I h
 refine C8 w (aJ (D b s U H _ I h) ?_)
 rintro u n ⟨x,z,d,p,a,C,i,v,ex,E,B,c,q⟩
 subst ex
 obtain rfl:u=Value.ref a:=p
 obtain⟨o,y,A,hn,m⟩:=(d.aL a _ E).1
 obtain⟨j,t,r⟩: ∃j,n.heap.Ns1 i j/\ ∀g,dq _ _:=d.aL i _ B
 have l:=r f
 rw [show List.lookup f [_]=y0 v by simp [List.lookup]]at l
 obtain⟨G,F,k⟩:=dq.some_of l
 exact CW d.bH y A hn (m i rfl) t F (A0 k) c.ov c.no c.ga c.gh ⟨v,z,d.tok _,k,q⟩
def dI (ks:List Int):HO:= .dK (ks.map λk=>(.inl k,.bl k9))
def fi (ks:List Int):List (dw×Value):=ks.map λk=>(.inl k,.bool k9)
theorem uL: ∀ {ks}{i},KV (ks.map λk=>((.inl k:dw),V.bl k9)) i->i=fi ks
 | [],_,.nil=>rfl
 | k::ks,(a,b)::i,.cons r t=>by
  obtain⟨c,d⟩:=r
  dsimp only at c d
  subst c
  cases (d)
  rw [uL t]
  rfl
theorem rX: ∀ks:List Int,KV (ks.map λk=>((.inl k:dw),V.bl k9)) (fi ks)
 | []=> .nil
 | k::ks=> .cons ⟨rfl,rfl⟩ (rX ks)
def ug (ks) (k):(valueAt (fi ks) (.inl k)).isSome=ks.contains k:=by
 unfold valueAt fi
 rw [Option.isSome_map,List.find?_map,Option.isSome_map]
 induction ks with
 | nil=>rfl
 | cons a ks b=>
  rw [List.find?_cons,Ak8]
  by_cases h:a=k
  ·subst h;simp
  ·have c:=beq_eq_false_iff_ne.mpr λe=>h e.symm
   rw [c,Bool.false_or,←b]
   simp [h]
def nh (ks:List Int) (k:Int):List Int:=if ks.contains k then ks else ks++ [k]
def BR (ks) (k):stored (fi ks) (.inl k) (.bool k9)=fi (nh ks k):=by
 have e:(fi ks).any (λc=>c.1= .inl k)=ks.contains k:=by
  unfold fi
  rw [List.any_map]
  induction ks with
  | nil=>rfl
  | cons a ks b=>
   rw [Af,Ak8,b]
   by_cases h:a=k
   ·subst h;simp
   ·have: ¬k=a:=λe=>h e.symm
    simp [h,this]
 unfold stored nh
 rw [e]
 by_cases h:ks.contains k=k9
 ·rw [if_pos h,if_pos h]
  unfold fi
  rw [Ac5]
  refine Ad7 λa _=> ?_
  simp only [Function.comp]
  split<;>rfl
 ·rw [if_neg h,if_neg h]
  simp [fi]
section
variable {X:Cx}{y8:List (Addr×Obj)}{U:St}{H:Hp}{s:Shared}{a:Addr}{k:Int}{ks:List Int}{u r:Value}{A:Around}{E:Value->Shared->Prop}
def o5 (I:Inv X y8 U H s) (e:H a=y0 (dI ks)):ks.length<=sizeLine/\(a==sysModules)=y9/\s.heap.DictOf (jD X.prog X.w) a (fi ks):=by
 obtain⟨z,c,d,b,dd⟩:=(show aO X.prog X.w H s.heap a (dI ks)from I.aL a _ e)
 rw [Aa]at z
 rw [uL b]at dd
 exact⟨z,c,dd⟩
def Mh (I:Inv X y8 U H s) (e:H a=y0 (dI ks)) (c:RelV (.int k) u) (h: ∀s',Inv X y8 U H s'->Q (.bool (ks.contains k)) s'):wpAny (model X.prog X.w) A (compareOp .In u (.ref a)) Q E s:=by
 obtain⟨z,b,dd⟩:=o5 I e
 obtain⟨t,rfl⟩:=c
 refine wpAny_in_of (Zu _ _ k t) b dd.mapOf ?_
 rw [ug]
 exact h _ (I.tok _)
def Ei (I:Inv X y8 U H s) (e:H a=y0 (dI ks)) (c:RelV (.int k) u) (h: ∀s',Inv X y8 U H s'->Q (.bool (!ks.contains k)) s'):wpAny (model X.prog X.w) A (compareOp .NotIn u (.ref a)) Q E s:=by
 obtain⟨z,b,dd⟩:=o5 I e
 obtain⟨t,rfl⟩:=c
 refine wpAny_notIn_of (Zu _ _ k t) b dd.mapOf ?_
 rw [ug]
 exact h _ (I.tok _)
def DF (I:Inv X y8 U H s) (e:H a=y0 (dI ks)) (g:RelV (.int k) u) (n:ks.length<sizeLine) (h: ∀s',Inv X y8 U (aG H a (dI (nh ks k))) s'->Q () s'):wpAny (model X.prog X.w) A (setItem (.ref a) u (.bool k9)) Q E s:=by
 obtain⟨z,f,dd⟩:=o5 I e
 obtain⟨t,rfl⟩:=g
 refine wpAny_setItem_pairs (hsz:=by unfold fi;rw [Aa];exact z) (Zu _ _ k t) dd λj b i=>h _ ?_
 rw [BR]at b
 have m: ∃q,j.get? a=y0 q:=let ⟨q,_,_,l,_⟩:=b; ⟨q,l⟩
 refine I.write (by rw [e];exact True.intro) (.inl rfl) (λd q c z=>(i.2 d c).trans z) m ⟨?_,f,_,rX _,b⟩
 rw [Aa]
 unfold nh
 split
 ·exact z
 ·rw [Ab2,Af7];lia
def LH:TE:=λ_ H Q=> ∀p,H p=u0->Q (.ref p) (aG H p (dI []))
def DT :PE X (.Dict [] [] pos) LH:=λa s U H Q I h=>
 wpAny_Dict_empty ⟨.ref s.heap.objs.size,_,I.laid (o:=dI []) (λ_ _ q=>Aa2 _ q) (Aa5 _) ⟨Ah2 _,beq_eq_false_iff_ne.mpr (Ne.symm (Ac2 (BN I))),[],.nil,Heap.DictOf.new _⟩,rfl,h _ (I.aL.fresh (Aa5 _))⟩
end
def Ho (K:Frag) (W:Addr) (f:Sp) (t:TA) (i b c:Nat):TS:=λD U H=>t U H λe H1=>f e H1 (λy H2=>D.nx (U.set i (y0 y)) H2) λa d H2=> ∃C,a= .ref C/\gi K C/\kitCls K (.ref C) (.ref W)=y0 k9 ∧
 ∀x,H2 x=u0->D.nx (((U.set b (y0 (.ref x))).set c (y0 (.ref x))).set b u0) (aG H2 x (eX x C d))
def Iv (a:TT) (t u:TS):TS:=λD U H=>a U H λb H1=>if b then t D U H1 else u D U H1
def DS 
 (hX: ∀a b, ¬X.xe a b) (K:X.stack=X.env::X.outer) (hf:X.env.frame=y0 X.env.locals) (w:X.ex= []) (F:bg X.prog X.w X.K X.mg X.base (cj X.prog X.w) k f fd ps sp) (hr:a9 k X.A) (hg:Gl X fx) (Y:X.mg fx=y0 (.ref f))
 (T:keepIn X.K (.ref f)=true) (hb:Binds X.K fd ps []) (P:PA X (e::es) t) (hW:Gl X wx) (m:X.mg wx=some (.ref W)) (B:mroIn X.K W (.type "BaseException")=some true) (O:X.N.Nodup) (hi:X.N[i]? =some gx) (g:X.env.scope.names.lookup gx=some .local) (x:X.N[ie]? =some n) (A:X.env.scope.names.lookup n=some .local)
 (l:X.N[iv]? =y0 v) (o:X.env.scope.names.lookup v=y0 .local)
 (hs:swapsWith (.Call (.Name fx p) (e::es) [] cp) (y0 (.Name gx gp)) aq.line X.env=pure false:=by rfl) (J:swapsWith (.Name n np) (y0 (.Name v vp)) ap.line X.env=pure false:=by rfl)
 (M:(fx==("__debug__" :Str))=false:=by decide) (C:(wx==("__debug__" :Str))=false:=by decide) (G:(n==("__debug__" :Str))=false:=by decide) (he:starEach (e::es) X.env=(false,eval e X.env)::starEach es X.env:=by rfl) (E:(backTo cp (starEach es X.env)).any (·.1)=false:=by rfl):
 bM X wx n v wq vp np ap hp (.Assign [.Name gx gp] (.Call (.Name fx p) (e::es) [] cp) aq) (Ho X.K W sp t i ie iv):=by
 intro d s U H D Qn I h S
 refine wpAny_execs_cons (wpAny_Assign_Name ?_ hs)
 refine wpAny_Call_Name_kw (wA I hg Y ?_ M)
 refine callWith_K (h₀:=X.base) I.ok.mod.kb T (wpAny_mono (P cp d s U H _ I h) (λL N ⟨vs,H1,c,r,q⟩=>⟨c.bH,?_⟩) λ_ _ z=>(hX _ _ z).elim) he E
 have Q:(L++ []).length=ps.length:=by rw [Ae4,←r.length];exact F.len _ _ _ _ q
 refine wpAny_call (codeAny_mono (F.run X.A X.stack N H1 ⟨L,[]⟩ _ vs _ _ hr c.iH (hb N L c.bH Q) (by simp_all) q) λres s' j=> ?_)
 cases res with
 | ok Z=>
  cases Z with
  | ret u=>
   obtain⟨y,H2,I2,V,q2⟩:=c.after j
   exact Xn I2 O hi (.inl g) V (λs9 R=>wpAny_execs_nil (S _ _ _ R q2)) (.inr g)
  | next=>exact False.elim j
  | brk=>exact False.elim j
  | cont=>exact False.elim j
 | error ev=>exact Fb K hf w hW m B O x A l o J C G c j
def E6 {X:Cx}{g n v:Str}{i f j o k B pos:Pos}{c:Expr}{a b:Stmt}{r:TT}{t u:TS}(E: ∀a b, ¬X.xe a b) (C:PT X c r) (h1:bM X g n v i f j o k a t) (h2:bM X g n v i f j o k b u):
 PS X (.Try [.If c [a] [b] B] [.ExceptHandler (y0 (.Name g i)) (y0 n) [.Assign [.Name v f] (.Name n j) o] k] [] [] pos) (Iv r t u):=by
 intro e s U H D I h
 refine wpAny_Try_except ?_
 refine wpAny_execs_cons (wpAny_If (wpAny_mono (C e s U H _ I h) (λd x ⟨A,w,y⟩=> ?_) λ_ _ z=>(E _ _ z).elim))
 cases d with
 | true=>exact h1 e x U A D _ w y λF p m l q=>wpAny_execs_nil (wpAny_execs_nil ⟨p,m,l,q⟩)
 | false=>exact h2 e x U A D _ w y λF p m l q=>wpAny_execs_nil (wpAny_execs_nil ⟨p,m,l,q⟩)
end L2
set_option genSizeOfSpec false
namespace M
abbrev Tx:=List Nat
def vc: ∃n:Nat,n=1000000:=⟨_,rfl⟩
noncomputable def aY:Nat:=Ah0 vc
def Gi:aY=1000000:=Af4 vc
def sF: ∃n:Int,n=1073741824:=⟨_,rfl⟩
noncomputable def fU:Int:=Ah0 sF
def GE:fU=1073741824:=Af4 sF
def sY: ∃n:Int,n=2 ^ 62:=⟨_,rfl⟩
noncomputable def gK:Int:=Ah0 sY
def GY:gK=2 ^ 62:=Af4 sY
def ym: ∃n:Int,n=2 ^ 64:=⟨_,rfl⟩
noncomputable def gU:Int:=Ah0 ym
def G7:gU=2 ^ 64:=Af4 ym
def uF: ∃n:Int,n=1000000:=⟨_,rfl⟩
noncomputable def BP:Int:=Ah0 uF
def GV:BP=1000000:=Af4 uF
def yd: ∃n:Nat,n=2 ^ 64:=⟨_,rfl⟩
noncomputable def iM:Nat:=Ah0 yd
def GB:iM=2 ^ 64:=Af4 yd
inductive D where
 | au
 | bl (b:Bool)
 | int (i:Int)
 | str (s:Tx)
 | tup (xs:List D)
 | lst (xs:List D)
 | ref (r:Nat)
 | exc (c:String) (fs:List (Tx×D))
 | err (c f:String) (d:D)
inductive W where
 | v (d:D)
 | own (xs:List D)
 | bor (xs:List D)
abbrev WK:=Int×List Int×List Int
inductive Cell where
 | lst (xs:List D)
 | gw (ks:List WK)
 | bX (ks:List Int)
 | obj (c:String) (fs:List (String×D))
abbrev AH:=List Cell
abbrev Sl:=List (Option W)
inductive R (α:Type) where
 | ok (a:α) (h:AH)
 | exc (d:D) (h:AH)
 | fail
def R.bind {c b:Type}:R c->(c->AH->R b)->R b
 | .ok a h,f=>f a h
 | .exc d h,_=> .exc d h
 | .fail,_=> .fail
inductive O where
 | next (Y:Sl) (h:AH)
 | ret (w:W) (h:AH)
 | brk (Y:Sl) (h:AH)
 | cont (Y:Sl) (h:AH)
 | exc (d:D) (h:AH)
 | fail
def O.seq:O->(Sl->AH->O)->O
 | .next Y h,f=>f Y h
 | o,_=>o
def R.cY {b:Type}:R b->(b->AH->O)->O
 | .ok a h,f=>f a h
 | .exc d h,_=> .exc d h
 | .fail,_=> .fail
section
variable {α β:Type}
@[simp] theorem R.aa (a) (h) (f:α->AH->R β):(R.ok a h).bind f=f a h:=rfl
@[simp] theorem R.ay (a) (h) (f:α->AH->O):(R.ok a h).cY f=f a h:=rfl
@[simp] theorem O.bI (Y) (h) (f):(O.next Y h).seq f=f Y h:=rfl
@[simp] theorem O.eF (w) (h) (f):(O.ret w h).seq f= .ret w h:=rfl
@[simp] theorem O.gb (d) (h) (f):(O.exc d h).seq f= .exc d h:=rfl
end
inductive Op where
 | add | sub | mul | fdiv | mod | pow | shl | shr | band | bor | bxor
 deriving DecidableEq
inductive Cp where
 | eq | ne | lt | le | gt | ge | mem | dE | nY
 deriving DecidableEq
inductive Ty where
 | au | bool | int | str | list | tuple
 deriving DecidableEq
inductive Mt where
 | index | count | bZ
 deriving DecidableEq
inductive Bi where
 | len | int | list | tuple | sum | all | any | sorted | divmod | str | min | max | abs
 deriving DecidableEq
set_option genInjectivity false
mutual
inductive E where
 | var (i:Nat)
 | con (x:String)
 | int (i:Int)
 | bl (b:Bool)
 | au
 | str (s:Tx)
 | tup (es:Es)
 | lst (es:Es)
 | bin (o:Op) (a b:E)
 | cmp (o:Cp) (a b:E)
 | chain (o p:Cp) (a b c:E)
 | dS (neg:Bool) (a:E)
 | neg (a:E)
 | inv (a:E)
 | not (a:E)
 | and (a b:E)
 | or (a b:E)
 | call (f:String) (es:Es)
 | bi (b:Bi) (es:Es)
 | dQ (a:E) (t:Ty)
 | bV (a:E) (one:Bool) (ts:List String)
 | ix (a b:E)
 | sl (a lo hi:E)
 | fN (a lo:E)
 | gW (a hi:E)
 | rev (a:E)
 | comp (tg:List Nat) (one:Bool) (k:Nat) (az:List Nat) (it:It) (k6:Bool) (c elt:E)
 | dc
 | cI (neg:Bool) (a:E) (i:Nat)
 | share (a:E)
 | cy (a:E)
 | ia (a b:E)
 | cZ (m:Mt) (a:E) (es:Es)
 | xf (i:Nat) (f:String)
inductive Es where
 | nil
 | cons (e:E) (es:Es)
inductive It where
 | seq (e:E)
 | av (a:E)
 | bP (a b:E)
 | rev (e:E)
 | zip (a b:E)
 | enum (e:E)
end
set_option genInjectivity true
mutual
inductive S where
 | set (i:Nat) (e:E)
 | ak (i:Nat) (e:E)
 | dB (is:List Nat) (e:E)
 | eG (i:Nat) (k e:E)
 | app (i:Nat) (e:E)
 | ext (i:Nat) (e:E)
 | mv (i j:Nat)
 | dz (i:Nat) (e:E)
 | bY (i:Nat) (e:E)
 | e8 (i j:Nat)
 | eR (i:Nat) (is:List Nat)
 | freeze (i:Nat)
 | ex (e:E)
 | ret (e:E)
 | iff (c:E) (a b:Ss)
 | lJ (n:Nat) (c:E) (b:Ss)
 | for (tg:List Nat) (one:Bool) (it:It) (b:Ss)
 | raise (c:String) (es:Es)
 | fD (c:E) (i:Nat) (f:String) (es:Es) (g:String) (es2:Es) (k:String) (nm iv:Nat)
 | cQ (c f:String) (e:E)
 | ij
inductive Ss where
 | nil
 | cons (s:S) (ss:Ss)
end
noncomputable section
mutual
@[simp,reducible] noncomputable def Gc:D->Bool
 | .ref _=>y9
 | .tup xs=>Gd xs
 | .lst xs=>Gd xs
 | .exc _ _=>y9
 | .err _ _ _=>y9
 | _=>k9
@[simp,reducible] noncomputable def Gd:List D->Bool
 | []=>k9
 | x::xs=>Gc x&&Gd xs
end
mutual
@[simp,reducible] noncomputable def dep:D->Nat
 | .tup xs=>GK xs+1
 | .lst xs=>GK xs+1
 | _=>0
@[simp,reducible] noncomputable def GK:List D->Nat
 | []=>0
 | x::xs=>max (dep x) (GK xs)
end
@[reducible] def GM (a b:D):Bool:=Gc a&&Gc b&&u9 (dep a<150)
mutual
@[simp] noncomputable def res (h:AH):D->D
 | .ref r=>match h[r]? with
  | some (.lst xs)=> .lst xs
  | _=> .ref r
 | .tup xs=> .tup (GS h xs)
 | .lst xs=> .lst (GS h xs)
 | d=>d
@[simp] noncomputable def GS (h:AH):List D->List D
 | []=> []
 | x::xs=>res h x::GS h xs
end
mutual
@[simp] noncomputable def b0:D->D->Bool
 | .au,.au=>k9
 | .bl a,.bl b=>a==b
 | .int i,.int j=>i==j
 | .bl a,.int j=>(a.toNat:Int)==j
 | .int i,.bl b=>i==(b.toNat:Int)
 | .str s,.str t=>s==t
 | .tup xs,.tup ys=>GJ xs ys
 | .lst xs,.lst ys=>GJ xs ys
 | _,_=>y9
@[simp] noncomputable def GJ:List D->List D->Bool
 | [],[]=>k9
 | x::xs,y::ys=>b0 x y&&GJ xs ys
 | _,_=>y9
end
def hZ (s:Tx):List D:=s.map λc=> .str [c]
def W.d:W->Option D
 | .v d=>y0 d
 | .own xs=>y0 (.lst xs)
 | .bor _=>u0
def W.arg:W->W
 | .own xs=> .bor xs
 | w=>w
@[simp] theorem W.bb (d):(W.v d).arg= .v d:=rfl
@[simp] theorem W.eM (xs):(W.own xs).arg= .bor xs:=rfl
@[simp] theorem W.gz (xs):(W.bor xs).arg= .bor xs:=rfl
def W.dd (h:AH):W->D
 | .v d=>res h d
 | .own xs=> .lst (GS h xs)
 | .bor xs=> .lst (GS h xs)
noncomputable def W.bf (h:AH):W->Option (List D)
 | .v (.lst xs)=>y0 xs
 | .own xs=>y0 xs
 | .bor xs=>y0 xs
 | .v (.ref r)=>match h[r]? with
  | some (.lst xs)=>y0 xs
  | _=>u0
 | _=>u0
noncomputable def W.seq? (h:AH):W->Option (List D)
 | .v (.tup xs)=>y0 xs
 | .v (.lst xs)=>y0 xs
 | .own xs=>y0 xs
 | .bor xs=>y0 xs
 | .v (.ref r)=>match h[r]? with
  | some (.lst xs)=>y0 xs
  | _=>u0
 | _=>u0
def R.of {b:Type}(h:AH):Option b->R b
 | some a=> .ok a h
 | none=> .fail
@[simp] abbrev aT (d:D) (h:AH):R W:= .ok (.v d) h
def GU (h:AH):W->Option Bool
 | .v .au=>y0 y9
 | .v (.bl b)=>y0 b
 | .v (.int i)=>y0 (i != 0)
 | .v (.str s)=>if s.length<=aY then y0 (!s.isEmpty)else u0
 | .v (.tup xs)=>y0 (!xs.isEmpty)
 | .v (.lst xs)=>y0 (!xs.isEmpty)
 | .own xs=>y0 (!xs.isEmpty)
 | .bor xs=>y0 (!xs.isEmpty)
 | _=>u0
@[simp] theorem R.af (h) (a:α):R.of h (y0 a)= .ok a h:=rfl
@[simp] theorem W.eD (d):(W.v d).d=y0 d:=rfl
@[simp] theorem W.kH (xs):(W.own xs).d=y0 (.lst xs):=rfl
@[simp] theorem W.lP (h) (d):(W.v d).dd h=res h d:=rfl
@[simp] theorem W.pE (h) (xs):(W.own xs).dd h= .lst (GS h xs):=rfl
@[simp] theorem W.ph (h) (xs):(W.bor xs).dd h= .lst (GS h xs):=rfl
@[simp] theorem W.lx (h) (xs):(W.v (.lst xs)).bf h=y0 xs:=rfl
@[simp] theorem W.el (h) (xs):(W.own xs).bf h=y0 xs:=rfl
@[simp] theorem GA (h) (b):GU h (.v (.bl b))=y0 b:=rfl
@[simp] theorem zZ (h) (i):GU h (.v (.int i))=y0 (i != 0):=rfl
noncomputable def G6 (i j:Int):Option Int:=
 if 0<=i then(if 0<=j then y0 ((i.toNat &&& j.toNat:Nat):Int)else y0 ((i.toNat-(i.toNat &&& (-j-1).toNat):Nat):Int))else u0
def kG (i j:Int):Option Int:=if 0<=i/\0<=j then y0 ((i.toNat ||| j.toNat:Nat):Int)else u0
def AI (i j:Int):Option Int:=if 0<=i/\0<=j then y0 ((i.toNat ^^^ j.toNat:Nat):Int)else u0
def Gp (o:Op) (i j:Int):Option Int:=match o with
 | .add=>y0 (i+j)
 | .sub=>y0 (i-j)
 | .mul=>if(-(gU)<i/\i<gU)\/(-(gU)<j/\j<gU)then y0 (i*j)else u0
 | .fdiv=>if 0<j/\j<fU then y0 (i / j)else u0
 | .mod=>if 0<j then y0 (i % j)else u0
 | .pow=>if 0<=j/\j<=BP/\i.natAbs<iM then y0 (i ^ j.toNat)else u0
 | .shl=>if 0<=j/\j<=BP/\i.natAbs<iM then y0 (i*2 ^ j.toNat)else u0
 | .shr=>if 0<=j then y0 (i / 2 ^ j.toNat)else u0
 | .band=>G6 i j
 | .bor=>kG i j
 | .bxor=>AI i j
def W.int? :W->Option Int
 | .v (.int i)=>y0 i
 | _=>u0
def W.gE :W->Option Tx
 | .v (.str s)=>y0 s
 | _=>u0
def W.dG :W->Option (List D)
 | .v (.tup s)=>y0 s
 | _=>u0
def Kz (xs a:List D) (h:AH):R W:=if xs.length+a.length<=aY then .ok (.own (xs++a)) h else .fail
def Kv (xs:List D) (j:Int) (h:AH):R W:=if -1000<=j/\j<=1000/\xs.length*j.toNat<=aY then .ok (.own (Aa9 j.toNat xs).flatten) h else .fail
def Ky (a b:W) (h:AH):R W:=match a.dG,b.dG with
 | some xs,y0 ys=>if xs.length+ys.length<=aY then aT (.tup (xs++ys)) h else .fail
 | _,_=>match a.bf h,b.bf h with
  | some xs,y0 ys=>Kz xs ys h
  | _,_=> .fail
noncomputable def W.hH (h:AH):W->Option (List D)
 | .own xs=>y0 xs
 | .bor xs=>y0 xs
 | .v (.ref r)=>match h[r]? with
  | some (.lst xs)=>y0 xs
  | _=>u0
 | _=>u0
def Kx (a b:W) (h:AH):R W:=match a.hH h,b.int? with
 | some xs,y0 j=>Kv xs j h
 | _,_=> .fail
def GW (o:Op) (a b:W) (h:AH):R W:=match a.int?,b.int? with
 | some i,y0 j=>(R.of h (Gp o i j)).bind λk h=>aT (.int k) h
 | _,_=>match o with
  | .add=>Ky a b h
  | .mul=>Kx a b h
  | _=> .fail
def inD (x:D) (xs:List D):Bool:=xs.any λy=>b0 y x
@[simp,reducible] def GQ:D->Bool
 | .au=>k9
 | .bl _=>k9
 | .int _=>k9
 | .str _=>k9
 | _=>y9
def Ku (a b:W) (h:AH):Option Bool:=match b.dd h with
 | .lst ys=>if Gc (a.dd h)&&Gd ys&&u9 (GK ys<140)then y0 (inD (a.dd h) ys)else u0
 | _=>u0
def Kc (a b:W) (h:AH):Option Bool:=match a.d,b.seq? h with
 | some d,y0 xs=>if GQ d&&xs.all GQ then y0 (inD d xs)else Ku a b h
 | _,_=>u0
noncomputable def Kt (o:Cp) (i j:Int):Option Bool:=match o with
 | .lt=>y0 (u9 (i<j))
 | .le=>y0 (u9 (i<=j))
 | .gt=>y0 (u9 (j<i))
 | .ge=>y0 (u9 (j<=i))
 | _=>u0
def Kw:W->W->Option Bool
 | .v .au,.v (.bl _)=>y0 y9
 | .v (.bl b),.v (.bl c)=>y0 (b==c)
 | _,_=>u0
def Gw (o:Cp) (a b:W) (h:AH):Option Bool:=match o with
 | .eq=>if GM (a.dd h) (b.dd h)then y0 (b0 (a.dd h) (b.dd h))else u0
 | .ne=>if GM (a.dd h) (b.dd h)then y0 (!b0 (a.dd h) (b.dd h))else u0
 | .mem=>Kc a b h
 | .dE=>(Kc a b h).map (!·)
 | .nY=>Kw a b
 | o=>match a.int?,b.int? with
  | some i,y0 j=>Kt o i j
  | _,_=>u0
noncomputable def dM (n:Nat) (i:Int):Option Nat:=if 0<=i then(if i<n then y0 i.toNat else u0)else if -(n:Int)<=i then y0 (i+n).toNat else u0
def aX {a:Type}(xs:List a) (i:Int):Option a:=(dM xs.length i).bind λj=>xs[j]?
def dN (a b:W) (h:AH):Option D:=match b.int? with
 | some i=>(a.seq? h).bind λxs=>aX xs i
 | none=>u0
def aV (n d:Nat):Option Int->Nat
 | none=>d
 | some v=>if v<0 then(v+n).toNat else min v.toNat n
noncomputable def cut {b:Type}(xs:List b) (a c:Option Int):List b:=(xs.drop (aV xs.length 0 a)).take (aV xs.length xs.length c-aV xs.length 0 a)
def gO (a:W) (b c:Option Int) (h:AH):R W:=match a.dG with
 | some xs=>aT (.tup (cut xs b c)) h
 | none=>match a.bf h with
  | some xs=> .ok (.own (cut xs b c)) h
  | none=> .fail
def Kr:List D->Option Int
 | []=>y0 0
 | .int i::r=>(Kr r).map (i+ ·)
 | _::_=>u0
def GG:List D->Option (List Int)
 | []=>y0 []
 | .int i::r=>(GG r).map (i:: ·)
 | _::_=>u0
def GO:List D->Option (List Tx)
 | []=>y0 []
 | .str s::r=>(GO r).map (s:: ·)
 | _::_=>u0
def Dt:List Int->Option Int
 | []=>u0
 | i::r=>y0 (r.foldl (λa b=>if b>a then b else a) i)
def r9:List Int->Option Int
 | []=>u0
 | i::r=>y0 (r.foldl (λa b=>if b<a then b else a) i)
def sC (x:Tx):List Tx->List Tx
 | []=> [x]
 | y::ys=>if y<x then y::sC x ys else x::y::ys
def pN:List Tx->List Tx
 | []=> []
 | x::xs=>sC x (pN xs)
def uC (x:Int):List Int->List Int
 | []=> [x]
 | y::ys=>if y<x then y::uC x ys else x::y::ys
def nr:List Int->List Int
 | []=> []
 | x::xs=>uC x (nr xs)
noncomputable def GT:List Int->List Int->Bool
 | [],[]=>y9
 | [],_::_=>k9
 | _::_,[]=>y9
 | x::xs,y::ys=>if x=y then GT xs ys else u9 (x<y)
def Ki (x:Tx):List Tx->Option Nat
 | []=>u0
 | y::ys=>if y=x then y0 0 else(Ki x ys).map (· +1)
def Km:List D->Option (List Bool)
 | []=>y0 []
 | .bl b::r=>(Km r).map (b:: ·)
 | _::_=>u0
def iz (b:Bi) (w:W) (h:AH):R W:=match b with
 | .len=>match w.gE with
  | some s=>if s.length<=aY then aT (.int s.length) h else .fail
  | none=>(R.of h (w.seq? h)).bind λxs h=>aT (.int xs.length) h
 | .int=>match w with
  | .v (.int i)=>aT (.int i) h
  | .v (.bl b)=>aT (.int (b.toNat:Int)) h
  | _=> .fail
 | .list=>(R.of h (w.seq? h)).bind λxs h=> .ok (.own xs) h
 | .tuple=>(R.of h (w.seq? h)).bind λxs h=>aT (.tup xs) h
 | .sum=>(R.of h ((w.bf h).bind λxs=>if xs.length<=aY then Kr xs else u0)).bind λi h=>aT (.int i) h
 | .all=>(R.of h ((w.bf h).bind Km)).bind λbs h=>aT (.bl (bs.all id)) h
 | .any=>(R.of h ((w.bf h).bind Km)).bind λbs h=>aT (.bl (bs.any id)) h
 | .max=>(R.of h (((w.bf h).bind GG).bind Dt)).bind λi h=>aT (.int i) h
 | .min=>(R.of h (((w.bf h).bind GG).bind r9)).bind λi h=>aT (.int i) h
 | .sorted=>(R.of h ((w.bf h).bind GO)).bind λts h=>if ts.length<64 then .ok (.own ((pN ts).map .str)) h else .fail
 | _=> .fail
noncomputable def lE (m:Mt) (x:W) (h:AH):Bool:=match m with
 | .index=>x.dG.isSome
 | .count=>(x.bf h).isSome
 | .bZ=>(x.bf h).isSome
@[simp] theorem rH (xs) (h):lE .index (.v (.tup xs)) h=true:=rfl
def Kd:List Int->List Int->Nat
 | _,[]=>0
 | a,x::xs=>(if a.any (· ==x)then 0 else 1)+Kd (a++ [x]) xs
def GR:Nat->List D->List D
 | _,[]=> []
 | i,d::ds=> .tup [.int (i:Int),d]::GR (i+1) ds
def Ks (d:D):List D->Option Nat
 | []=>u0
 | y::ys=>if b0 y d=k9 then y0 0 else(Ks d ys).map (· +1)
def Kh (a b:W) (h:AH):Option Nat:=match b.dd h with
 | .lst ys=>if(Gc (a.dd h)&&Gd ys&&u9 (GK ys<140))&&u9 (ys.length<=aY)then Ks (a.dd h) ys else u0
 | _=>u0
def lD (m:Mt) (x:W) (ws:List W) (h:AH):R W:=match m,ws with
 | .index,[w]=>(R.of h (x.dG.bind GO)).bind λts h=>(R.of h w.gE).bind λt h=>(R.of h (Ki t ts)).bind λn h=>if ts.length<=aY then aT (.int (n:Int)) h else .fail
 | .count,[w]=>(R.of h ((x.bf h).bind GG)).bind λis h=>(R.of h w.int?).bind λi h=>if is.length<=aY then aT (.int ((is.count i:Nat):Int)) h else .fail
 | .bZ,[w]=>(R.of h (Kh w x h)).bind λn h=>aT (.int (n:Int)) h
 | _,_=> .fail
def uH (b:Bi) (i j:Int) (h:AH):R W:=match b with
 | .divmod=>if 0<j/\j<fU then aT (.tup [.int (i / j),.int (i % j)]) h else .fail
 | .min=>aT (.int (if j<i then j else i)) h
 | .max=>aT (.int (if j>i then j else i)) h
 | _=> .fail
def cm (b:Bi) (ws:List W) (h:AH):R W:=match ws with
 | [w]=>iz b w h
 | [v,w]=>(R.of h v.int?).bind λi h=>(R.of h w.int?).bind λj h=>uH b i j h
 | _=> .fail
@[simp] theorem Gx (o) (i j) (h):GW o (.v (.int i)) (.v (.int j)) h=(R.of h (Gp o i j)).bind λk h=>aT (.int k) h:=rfl
@[simp] theorem Zc (i j):Gp .add i j=y0 (i+j):=rfl
@[simp] theorem Wm (i j):Gp .sub i j=y0 (i-j):=rfl
@[simp] theorem XB (s u) (h):GW .add (.v (.tup s)) (.v (.tup u)) h=if s.length+u.length<=aY then aT (.tup (s++u)) h else .fail:=rfl
@[simp] theorem F9 (s u) (h):GW .add (.v (.lst s)) (.own u) h=if s.length+u.length<=aY then .ok (.own (s++u)) h else .fail:=rfl
@[simp] theorem pf (s u) (h):GW .add (.own s) (.own u) h=if s.length+u.length<=aY then .ok (.own (s++u)) h else .fail:=rfl
@[simp] theorem xc (i j) (h):Gw .lt (.v (.int i)) (.v (.int j)) h=y0 (u9 (i<j)):=rfl
@[simp] theorem KC (i j) (h):Gw .le (.v (.int i)) (.v (.int j)) h=y0 (u9 (i<=j)):=rfl
@[simp] theorem Jt (i j) (h):Gw .gt (.v (.int i)) (.v (.int j)) h=y0 (u9 (j<i)):=rfl
@[simp] theorem nV (i j) (h):Gw .ge (.v (.int i)) (.v (.int j)) h=y0 (u9 (j<=i)):=rfl
@[simp] theorem oO (a b) (h):Gw .eq a b h=if GM (a.dd h) (b.dd h)then y0 (b0 (a.dd h) (b.dd h))else none:=rfl
@[simp] theorem HM (a b) (h):Gw .ne a b h=if GM (a.dd h) (b.dd h)then y0 (!b0 (a.dd h) (b.dd h))else none:=rfl
@[simp] theorem int?_int (i):(W.v (.int i)).int? =y0 i:=rfl
@[simp] theorem len_str (s) (h):cm .len [.v (.str s)] h=if s.length<=aY then aT (.int s.length) h else .fail:=rfl
@[simp] theorem Jh (s) (h):cm .len [.v (.tup s)] h=aT (.int s.length) h:=rfl
@[simp] theorem zr (s) (h):cm .len [.v (.lst s)] h=aT (.int s.length) h:=rfl
@[simp] theorem int_int (i) (h):cm .int [.v (.int i)] h=aT (.int i) h:=rfl
@[simp] theorem pQ (s) (h):cm .list [.v (.tup s)] h= .ok (.own s) h:=rfl
@[simp] theorem xD (s) (h):cm .tuple [.own s] h=aT (.tup s) h:=rfl
@[simp] theorem XW (s) (h):cm .tuple [.bor s] h=aT (.tup s) h:=rfl
@[simp] theorem Mw (s) (h):cm .all [.own s] h=(R.of h (Km s)).bind λbs h=>aT (.bl (bs.all id)) h:=rfl
@[simp] theorem Q2 (s) (h):cm .sum [.own s] h=(R.of h (if s.length<=aY then Kr s else u0)).bind λi h=>aT (.int i) h:=rfl
@[simp] theorem Ji (i j) (h):cm .divmod [.v (.int i),.v (.int j)] h=if 0<j/\j<fU then aT (.tup [.int (i / j),.int (i % j)]) h else .fail:=rfl
@[simp] theorem KR (i j) (h):cm .min [.v (.int i),.v (.int j)] h=aT (.int (if j<i then j else i)) h:=rfl
@[simp] theorem Bg (i j) (h):cm .max [.v (.int i),.v (.int j)] h=aT (.int (if j>i then j else i)) h:=rfl
@[simp] theorem ah (s) (i) (h):dN (.v (.tup s)) (.v (.int i)) h=aX s i:=rfl
@[simp] theorem Zk (s) (i) (h):dN (.v (.lst s)) (.v (.int i)) h=aX s i:=rfl
@[simp] theorem Xt (s) (i) (h):dN (.own s) (.v (.int i)) h=aX s i:=rfl
@[simp] theorem HE (s) (lo hi) (h):gO (.v (.lst s)) lo hi h= .ok (.own (cut s lo hi)) h:=rfl
@[simp] theorem EC (s) (lo hi) (h):gO (.bor s) lo hi h= .ok (.own (cut s lo hi)) h:=rfl
abbrev dH:=List (String×String)
noncomputable def GI (a:dH):Nat->String->List String
 | 0,_=> []
 | n+1,c=>c::match a.lookup c with
  | some b=>GI a n b
  | none=> []
noncomputable def FQ:W->Option Ty
 | .v .au=>y0 .au
 | .v (.bl _)=>y0 .bool
 | .v (.int _)=>y0 .int
 | .v (.str _)=>y0 .str
 | .v (.tup _)=>y0 .tuple
 | .v (.lst _)=>y0 .list
 | .own _=>y0 .list
 | .bor _=>y0 .list
 | .v (.ref _)=>u0
 | .v (.exc _ _)=>u0
 | .v (.err _ _ _)=>u0
def Ty.le:Ty->Ty->Bool
 | .bool,.int=>k9
 | a,b=>u9 (a=b)
def dQ (t:Ty) (w:W):Option Bool:=(FQ w).map λu=>u.le t
@[simp] theorem ZZ (t) (s):dQ t (.v (.tup s))=y0 (Ty.le .tuple t):=rfl
@[simp] theorem Ty.dr (t):Ty.le t t=true:=by cases t<;>rfl
def bV (a:dH) (w:W) (ts:List String):Option Bool:=match w with
 | .v (.exc c [])=>y0 (ts.any (GI a 8 c).contains)
 | .v (.err c _ _)=>y0 (ts.any (GI a 8 c).contains)
 | _=>u0
@[simp] def Gj:Sl->Nat->Option W
 | [],_=>u0
 | x::_,0=>x
 | _::r,n+1=>Gj r n
@[simp] def Gy:Sl->Nat->W->Sl
 | [],_,_=> []
 | _::r,0,w=>y0 w::r
 | x::r,n+1,w=>x::Gy r n w
def Gf (Y:Sl) (i:Nat):Option W:=match Gj Y i with
 | some (.own xs)=>y0 (.bor xs)
 | o=>o
@[simp] theorem G8 (e:Gj Y i=y0 (.own xs)):Gf Y i=y0 (.bor xs):=by simp [Gf,e]
@[simp] theorem Ko (e:Gj Y i=y0 (.v d)):Gf Y i=y0 (.v d):=by simp [Gf,e]
@[simp] theorem Ka (e:Gj Y i=y0 (.bor xs)):Gf Y i=y0 (.bor xs):=by simp [Gf,e]
@[simp] noncomputable def aH:List Nat->List D->Sl->Option Sl
 | [],[],Y=>y0 Y
 | i::is,d::ds,Y=>aH is ds (Gy Y i (.v d))
 | _,_,_=>u0
def Gn (a:List Nat) (one:Bool) (d:D) (Y:Sl):Option Sl:=match one with
 | true=>match a with
  | [i]=>y0 (Gy Y i (.v d))
  | _=>u0
 | false=>match d with
  | .tup ds=>aH a ds Y
  | _=>u0
noncomputable def Gv (step:D->AH->R (Option D)):List D->AH->R (List D)
 | [],h=> .ok [] h
 | d::ds,h=>match step d h with
  | .ok o h1=>match Gv step ds h1 with
   | .ok r h2=> .ok (match o with | some x=>x::r | none=>r) h2
   | _=> .fail
  | _=> .fail
structure Fx where
 call:String->List W->AH->R W
 cl:dH
 con:List (String×D)
noncomputable def bj (h:AH):Option W->Option (Nat×List D)
 | some (.v (.ref r))=>match h[r]? with
  | some (.lst xs)=>y0 (r,xs)
  | _=>u0
 | _=>u0
noncomputable def Kg (h:AH):Option W->Option (Nat×List Int)
 | some (.v (.ref r))=>match h[r]? with
  | some (.bX ks)=>y0 (r,ks)
  | _=>u0
 | _=>u0
def GX (ks:List Int) (k:Int):List Int:=if ks.contains k then ks else ks++ [k]
noncomputable def cI (neg:Bool) (w:W) (o:Option (Nat×List Int)) (h:AH):R W:=match w,o with
 | .v (.int k),y0 (_,ks)=>aT (.bl (if neg then !ks.contains k else ks.contains k)) h
 | _,_=> .fail
mutual
@[simp] noncomputable def eval (F:Fx):E->Sl->AH->R W
 | .var i,Y,h=>match Gf Y i with
  | some w=> .ok w h
  | none=> .fail
 | .con x,_,h=>match F.con.lookup x with
  | some d=>aT d h
  | none=> .fail
 | .int i,_,h=>aT (.int i) h
 | .bl b,_,h=>aT (.bl b) h
 | .au,_,h=>aT .au h
 | .str s,_,h=>aT (.str s) h
 | .tup es,Y,h=>(Gm F es Y h).bind λds h=>aT (.tup ds) h
 | .lst es,Y,h=>(Gm F es Y h).bind λds h=> .ok (.own ds) h
 | .bin o a b,Y,h=>(eval F a Y h).bind λx h=>(eval F b Y h).bind λy h=>GW o x y h
 | .cmp o a b,Y,h=>(eval F a Y h).bind λx h=>(eval F b Y h).bind λy h=>(R.of h (Gw o x y h)).bind λc h=>aT (.bl c) h
 | .chain o p a b c,Y,h=>(eval F a Y h).bind λx h=>(eval F b Y h).bind λy h=>(R.of h (Gw o x y h)).bind λt h=>match t with
  | true=>(eval F c Y h).bind λz h=>(R.of h (Gw p y z h)).bind λc h=>aT (.bl c) h
  | false=>aT (.bl y9) h
 | .dS neg a,Y,h=>(eval F a Y h).bind λx h=>match x with
  | .v .au=>aT (.bl (!neg)) h
  | _=>aT (.bl neg) h
 | .neg a,Y,h=>(eval F a Y h).bind λx h=>(R.of h x.int?).bind λi h=>aT (.int (-i)) h
 | .inv a,Y,h=>(eval F a Y h).bind λx h=>(R.of h x.int?).bind λi h=>aT (.int (-i-1)) h
 | .not a,Y,h=>(eval F a Y h).bind λx h=>(R.of h (GU h x)).bind λc h=>aT (.bl (!c)) h
 | .and a b,Y,h=>(eval F a Y h).bind λx h=>(R.of h (GU h x)).bind λc h=>match c with
  | true=>eval F b Y h
  | false=> .ok x h
 | .or a b,Y,h=>(eval F a Y h).bind λx h=>(R.of h (GU h x)).bind λc h=>match c with
  | true=> .ok x h
  | false=>eval F b Y h
 | .call f es,Y,h=>(Gg F es Y h).bind λws h=>F.call f (ws.map W.arg) h
 | .bi b es,Y,h=>(Gg F es Y h).bind λws h=>cm b ws h
 | .dQ a t,Y,h=>(eval F a Y h).bind λx h=>(R.of h (dQ t x)).bind λc h=>aT (.bl c) h
 | .bV a _ ts,Y,h=>(eval F a Y h).bind λx h=>(R.of h (bV F.cl x ts)).bind λc h=>aT (.bl c) h
 | .ix a b,Y,h=>(eval F a Y h).bind λx h=>(eval F b Y h).bind λy h=>(R.of h (dN x y h)).bind λd h=>aT d h
 | .sl a lo hi,Y,h=>(eval F a Y h).bind λx h=>(eval F lo Y h).bind λl h=>(R.of h l.int?).bind λl h=>(eval F hi Y h).bind λu h=>(R.of h u.int?).bind λu h=>gO x (y0 l) (y0 u) h
 | .fN a lo,Y,h=>(eval F a Y h).bind λx h=>(eval F lo Y h).bind λl h=>(R.of h l.int?).bind λl h=>gO x (y0 l) u0 h
 | .gW a hi,Y,h=>(eval F a Y h).bind λx h=>(eval F hi Y h).bind λu h=>(R.of h u.int?).bind λu h=>gO x u0 (y0 u) h
 | .rev a,Y,h=>(eval F a Y h).bind λx h=>(R.of h (x.bf h)).bind λxs h=> .ok (.own xs.reverse) h
 | .comp tg one k az it k6 c elt,Y,h=>(Gk F it Y h).bind λds h=>
  if ds.length<=aY then
   (Gv (λd h=>match Gn tg one d (Aa9 k u0++az.map λj=>Gf Y j)with
     | none=> .fail
     | some Y'=>(if k6 then(eval F c Y' h).bind λx h=>R.of h (GU h x)else .ok k9 h).bind λb h=>match b with
      | true=>(eval F elt Y' h).bind λy h=>(R.of h y.d).bind λy h=> .ok (y0 y) h
      | false=> .ok u0 h) ds h).bind λys h=> .ok (.own ys) h
  else .fail
 | .dc,_,h=>aT (.ref h.length) (h++ [.bX []])
 | .cI neg a i,Y,h=>(eval F a Y h).bind λx h=>cI neg x (Kg h (Gj Y i)) h
 | .share a,Y,h=>(eval F a Y h).bind λx h=>match x with
  | .own xs=>if Gd xs then aT (.ref h.length) (h++ [.lst xs])else .fail
  | _=> .fail
 | .cy a,Y,h=>(eval F a Y h).bind λx h=>(R.of h (x.dG.bind GG)).bind λis h=>if is.length<1000 then aT (.int ((Kd [] is:Nat):Int)) h else .fail
 | .ia a b,Y,h=>(eval F a Y h).bind λx h=>(eval F b Y h).bind λy h=>(R.of h ((x.bf h).bind GG)).bind λis h=>(R.of h ((y.bf h).bind GG)).bind λjs h=>if is.length=js.length then aT (.bl (GT is js)) h else .fail
 | .cZ m a es,Y,h=>(eval F a Y h).bind λx h=>if lE m x h then(Gg F es Y h).bind λws h=>lD m x ws h else .fail
 | .xf i f,Y,h=>match Gj Y i with
  | some (.v (.err _ g d))=>if g=f then .ok (.v d) h else .fail
  | _=> .fail
@[simp] noncomputable def Gg (F:Fx):Es->Sl->AH->R (List W)
 | .nil,_,h=> .ok [] h
 | .cons e es,Y,h=>(eval F e Y h).bind λw h=>(Gg F es Y h).bind λws h=> .ok (w::ws) h
@[simp] noncomputable def Gm (F:Fx):Es->Sl->AH->R (List D)
 | .nil,_,h=> .ok [] h
 | .cons e es,Y,h=>(eval F e Y h).bind λw h=>(R.of h w.d).bind λd h=>(Gm F es Y h).bind λds h=> .ok (d::ds) h
@[simp] noncomputable def Gk (F:Fx):It->Sl->AH->R (List D)
 | .seq e,Y,h=>(eval F e Y h).bind λw h=>match w with
  | .v (.str s)=> .ok (hZ s) h
  | .v (.tup xs)=> .ok xs h
  | .v (.lst xs)=> .ok xs h
  | .own xs=> .ok xs h
  | .bor xs=> .ok xs h
  | _=> .fail
 | .av a,Y,h=>(eval F a Y h).bind λw h=>(R.of h w.int?).bind λn h=>if -(gK)<=n/\n<gK then .ok ((Aa0 n.toNat).map λ(i:Nat)=> .int (i:Int)) h else .fail
 | .bP a b,Y,h=>(eval F a Y h).bind λw h=>(R.of h w.int?).bind λi h=>(eval F b Y h).bind λw h=>(R.of h w.int?).bind λj h=>
  if(-(gK)<=i/\i<gK)/\(-(gK)<=j/\j<gK)then .ok ((Aa0 (j-i).toNat).map λ(k:Nat)=> .int (i+(k:Int))) h else .fail
 | .rev e,Y,h=>(eval F e Y h).bind λw h=>match w with
  | .v (.lst xs)=> .ok xs.reverse h
  | .own xs=> .ok xs.reverse h
  | .bor xs=> .ok xs.reverse h
  | _=> .fail
 | .enum e,Y,h=>(eval F e Y h).bind λw h=>match w with
  | .v (.tup xs)=> .ok (GR 0 xs) h
  | _=> .fail
 | .zip a b,Y,h=>(eval F a Y h).bind λx h=>(eval F b Y h).bind λy h=>match x,y with
  | .own xs,.v (.tup ys)=> .ok ((xs.zip ys).map λp=> .tup [p.1,p.2]) h
  | _,_=> .fail
end
noncomputable def mO:W->Option (List D)
 | .v (.str s)=>y0 (hZ s)
 | .v (.tup xs)=>y0 xs
 | .v (.lst xs)=>y0 xs
 | .own xs=>y0 xs
 | _=>u0
noncomputable def lz:W->Option (List D)
 | .v (.str s)=>y0 (hZ s)
 | .v (.tup xs)=>y0 xs
 | .v (.lst xs)=>y0 xs
 | .bor xs=>y0 xs
 | _=>u0
def IV:W->Option (List D)
 | .v (.lst xs)=>y0 xs.reverse
 | .own xs=>y0 xs.reverse
 | _=>u0
def Ey:W->Option (List D)
 | .v (.lst xs)=>y0 xs.reverse
 | .bor xs=>y0 xs.reverse
 | _=>u0
@[simp] theorem Kl (xs):mO (.v (.tup xs))=y0 xs:=rfl
@[simp] theorem Kj (xs):mO (.v (.lst xs))=y0 xs:=rfl
@[simp] theorem GL (xs):mO (.own xs)=y0 xs:=rfl
@[simp] theorem GZ (xs):lz (.v (.tup xs))=y0 xs:=rfl
@[simp] theorem Kk (xs):lz (.v (.lst xs))=y0 xs:=rfl
@[simp] theorem Kn (xs):lz (.bor xs)=y0 xs:=rfl
@[simp] def GD:E->Option Nat
 | .var i=>y0 i
 | _=>u0
@[simp] def Gr (F:Fx) (it:It) (Y:Sl) (h:AH):R (List D):=match it with
 | .seq e=>match GD e with
  | some i=>R.of h ((Gj Y i).bind lz)
  | none=>(eval F e Y h).bind λw h=>R.of h (mO w)
 | .rev e=>match GD e with
  | some i=>R.of h ((Gj Y i).bind Ey)
  | none=>(eval F e Y h).bind λw h=>R.of h (IV w)
 | it=>Gk F it Y h
noncomputable def Gq (b:D->Sl->Option Sl) (a:Sl->AH->O):List D->Sl->AH->O
 | [],Y,h=> .next Y h
 | d::ds,Y,h=>match b d Y with
  | none=> .fail
  | some e=>match a e h with
   | .next c h2=>Gq b a ds c h2
   | .cont c h2=>Gq b a ds c h2
   | .brk c h2=> .next c h2
   | o=>o
noncomputable def GN (c:Sl->AH->R Bool) (a:Sl->AH->O):Nat->Sl->AH->O
 | 0,_,_=> .fail
 | n+1,Y,h=>(c Y h).cY λb h1=>match b with
  | false=> .next Y h1
  | true=>match a Y h1 with
   | .next d h2=>GN c a n d h2
   | .cont d h2=>GN c a n d h2
   | .brk d h2=> .next d h2
   | o=>o
def Gs (F:Fx) (e:E) (Y:Sl) (h:AH):R Bool:=(eval F e Y h).bind λx h=>R.of h (GU h x)
def GP:D->Bool
 | .exc _ _=>k9
 | .err _ _ d=>Gc d
 | _=>y9
def Kp (d:D) (n:Nat) (h:AH):AH:=if GP d then h.take n else h
def Kq (call:String->List W->AH->R W) (b:dH) (e:Option Nat) (f k:String) (nm a:Nat) (Y:Sl):R (List W)->O
 | .ok c h=>match call f (c.map W.arg) h with
  | .ok w h=>match e with
   | none=> .next Y h
   | some i=>match w with
    | .v d=> .next (Gy Y i (.v d)) h
    | _=> .fail
  | .exc d h1=>match bV b (.v d) [k]with
   | some true=> .next ((Gy (Gy Y nm (.v d)) a (.v d)).set nm u0) (Kp d h.length h1)
   | _=> .fail
  | .fail=> .fail
 | _=> .fail
mutual
@[simp] noncomputable def exec (F:Fx):S->Sl->AH->O
 | .set i e,Y,h=>(eval F e Y h).cY λw h=>match w with
  | .bor _=> .fail
  | w=> .next (Gy Y i w) h
 | .ak i e,Y,h=>(eval F e Y h).cY λw h=>match w.d with
  | some d=> .next (Gy Y i (.v d)) h
  | none=> .fail
 | .dB is e,Y,h=>(eval F e Y h).cY λw h=>match w with
  | .v (.tup ds)=>match aH is ds Y with
   | some Y'=> .next Y' h
   | none=> .fail
  | _=> .fail
 | .eG i k e,Y,h=>(eval F e Y h).cY λw h=>match Gj Y i with
  | some (.own xs)=>(eval F k Y h).cY λkw h=>match w,kw with
   | .v d,.v (.int j)=>if GQ d then(match dM xs.length j with
    | some n=> .next (Gy Y i (.own (xs.set n d))) h
    | none=> .fail)else .fail
   | _,_=> .fail
  | _=> .fail
 | .app i e,Y,h=>match Gj Y i with
  | some (.own xs)=>(eval F e Y h).cY λw h=>match w.d with
   | some d=>if xs.length<aY then .next (Gy Y i (.own (xs++ [d]))) h else .fail
   | none=> .fail
  | _=> .fail
 | .ext i e,Y,h=>match Gj Y i with
  | some (.own xs)=>(eval F e Y h).cY λw h=>match w with
   | .own ys=>if xs.length+ys.length<aY then .next (Gy Y i (.own (xs++ys))) h else .fail
   | _=> .fail
  | _=> .fail
 | .mv i j,Y,h=>match Gj Y j with
  | some (.own xs)=> .next (Gy (Y.set j u0) i (.own xs)) h
  | _=> .fail
 | .dz i e,Y,h=>match Kg h (Gj Y i)with
  | some _=>(eval F e Y h).cY λw h=>match w,Kg h (Gj Y i)with
   | .v (.int k),y0 (r,ks)=>if ks.length<aY then .next Y (h.set r (.bX (GX ks k)))else .fail
   | _,_=> .fail
  | none=> .fail
 | .bY i e,Y,h=>match bj h (Gj Y i)with
  | some _=>(eval F e Y h).cY λw h=>match w.d,bj h (Gj Y i)with
   | some d,y0 (r,xs)=>if xs.length<aY/\Gc d=k9 then .next Y (h.set r (.lst (xs++ [d])))else .fail
   | _,_=> .fail
  | none=> .fail
 | .e8 i j,Y,h=>match bj h (Gj Y i)with
  | some (r,xs)=>match xs[xs.length-1]? with
   | some d=> .next (Gy Y j (.v d)) (h.set r (.lst (xs.take (xs.length-1))))
   | none=> .fail
  | none=> .fail
 | .eR i is,Y,h=>match bj h (Gj Y i)with
  | some (r,xs)=>match xs[xs.length-1]? with
   | some (.tup ds)=>match aH is ds Y with
    | some Y'=> .next Y' (h.set r (.lst (xs.take (xs.length-1))))
    | none=> .fail
   | _=> .fail
  | none=> .fail
 | .freeze i,Y,h=>match Gj Y i with
  | some (.own xs)=> .next (Gy Y i (.v (.lst xs))) h
  | _=> .next Y h
 | .ex e,Y,h=>(eval F e Y h).cY λ_ h=> .next Y h
 | .ret e,Y,h=>match GD e with
  | some i=>match Gj Y i with
   | some (.bor _)=> .fail
   | some w=> .ret w h
   | none=> .fail
  | none=>(eval F e Y h).cY λw h=>match w with
   | .bor _=> .fail
   | w=> .ret w h
 | .iff c a b,Y,h=>(Gs F c Y h).cY λt h=>match t with
  | true=>execs F a Y h
  | false=>execs F b Y h
 | .lJ n c b,Y,h=>GN (λY h=>Gs F c Y h) (λY h=>execs F b Y h) n Y h
 | .for tg one it b,Y,h=>(Gr F it Y h).cY λds h=>Gq (Gn tg one) (λY h=>execs F b Y h) ds Y h
 | .raise c es,Y,h=>(Gg F es Y h).cY λ_ h=> .exc (.exc c []) h
 | .cQ c f e,Y,h=>(Gm F (.cons e .nil) Y h).cY λds h=>match ds with
  | [d]=> .exc (.err c f d) h
  | _=> .fail
 | .fD c i f es g es2 k nm iv,Y,h=>match Gs F c Y h with
  | .ok k9 h=>Kq F.call F.cl (y0 i) f k nm iv Y (Gg F es Y h)
  | .ok y9 h=>Kq F.call F.cl (y0 i) g k nm iv Y (Gg F es2 Y h)
  | _=> .fail
 | .ij,_,_=> .fail
@[simp] noncomputable def execs (F:Fx):Ss->Sl->AH->O
 | .nil,Y,h=> .next Y h
 | .cons s ss,Y,h=>(exec F s Y h).seq λY h=>execs F ss Y h
end
structure Fn where
 ps:Nat
 n:Nat
 body:Ss
structure Prog where
 fns:List (String×Fn)
 cl:dH
 con:List (String×D)
def W.keep:W->Bool
 | .v d=>Gc d
 | .own xs=>Gd xs
 | .bor _=>k9
def fin (n:Nat) (w:W) (h:AH):R W:=if h.length=n then .ok w h else if w.keep then .ok w (h.take n)else .ok w h
noncomputable def GC (n:Nat):O->R W
 | .ret w h=>match w with
  | .bor _=> .fail
  | w=>fin n w h
 | .next _ h=>fin n (.v .au) h
 | .exc d h=> .exc d h
 | _=> .fail
@[simp] theorem Gb (d) (h h':AH) (e:h'.length=h.length):GC h.length (.ret (.v d) h')= .ok (.v d) h':=by simp [GC,fin,e]
@[simp] theorem Gu (xs) (h h':AH) (e:h'.length=h.length):GC h.length (.ret (.own xs) h')= .ok (.own xs) h':=by simp [GC,fin,e]
@[simp] theorem Gz (Y) (h h':AH) (e:h'.length=h.length):GC h.length (.next Y h')= .ok (.v .au) h':=by simp [GC,fin,e]
@[simp] theorem Kf (d) (n) (h):GC n (.exc d h)= .exc d h:=rfl
def run (F:Fx) (d:Fn) (ws:List W) (h:AH):R W:=if ws.length=d.ps then GC h.length (execs F d.body (ws.map y0++Aa9 (d.n-d.ps) u0) h)else .fail
def call (p:Prog):Nat->String->List W->AH->R W
 | 0,_,_,_=> .fail
 | k+1,f,a,h=>match p.fns.lookup f with
  | some d=>run ⟨call p k,p.cl,p.con⟩ d a h
  | none=> .fail
def Ga (e:p.fns.lookup f=y0 d) (k) (ws) (h) (a:ws.length=d.ps):
 call p (k+1) f ws h=GC h.length (execs ⟨call p k,p.cl,p.con⟩ d.body (ws.map y0++Aa9 (d.n-d.ps) u0) h):=by
 rw [call,e]
 simp [run,a]
end
end M
namespace L2.MS
open PySem PySem.Spec
structure Ge where
 K:Aa7
 ca:String->Addr
 cl:M.dH
 own:List String
 ma:String->Addr
structure eI (Γ:Ge) (c:String):Prop where
 k:gi Γ.K (Γ.ca c)
 own: ∀t∈Γ.own,Am0 Γ.K (.ref (Γ.ca c)) (.ref (Γ.ca t))=y0 ((M.GI Γ.cl 8 c).contains t)
 ve:PySem.W.kitOne Γ.K (.ref (Γ.ca c)) (.type "ValueError")=some ((M.GI Γ.cl 8 c).contains "ValueError")
structure Gh where
 fz:Addr->Prop
 aU:Nat->Addr
 n:Nat
def fm (d:Ge) (G:Gh) (H:Hp) (a:Addr) (c:List V):Prop:=(G.fz a/\H a=y0 (.tup c)) ∨
 ∃(o:Obj) (b:Array Value) (n:Nat),d.K.lookup a=some o/\o.cls= .type "tuple" /\o.dict=none/\o.data= .seq b n/\b.size<=sizeLine/\Vals c b.toList
def rM (c:Ge) (a:Addr) (d:List V):Prop:= ∃(o:Obj) (b:Array Value) (n:Nat),c.K.lookup a=some o/\o.cls= .type "list" /\o.dict=none/\o.data= .seq b n/\b.size<=sizeLine/\Vals d b.toList
def iW (c:Ge) (G:Gh) (H:Hp) (a:Addr) (b:List V):Prop:=(G.fz a/\Rd H a (.lst b))\/rM c a b
def fm.sq (h:fm Γ G H a vs):bB Γ.K H a vs:=h.elim (λz=> .inl (.inl z.2)) λ⟨o,b,n,e,c,_,d⟩=> .inr ⟨o,b,n,e,c,d⟩
def fm.pl (h:fm Γ G H a vs):ui Γ.K H a:=h.elim (λz=> .inl ⟨_,z.2⟩) λ⟨o,_,_,d,b,c,_⟩=> .inr ⟨o,d,b,c⟩
def iW.sq (h:iW Γ G H a vs):aZ Γ.K H a vs:=h.elim (λz=> .inl z.2) λz=> .inr z
def b6 (s:M.Tx):Str:=⟨s.toArray⟩
def DM:M.D->PyData
 | .int i=> .int i
 | .str s=> .str (b6 s)
 | .bl b=> .bool b
 | _=> .none
def sL (T:List (M.Tx×M.D)):List (Str×PyData):=T.map λp=>(b6 p.1,DM p.2)
def Ax (b:Ge) (a:Addr) (T:List (M.Tx×M.D)):Prop:=HR b.K a (sL T)
mutual
def aC (Γ:Ge) (G:Gh) (H:Hp):M.D->V->Prop
 | .au,v=>v= .au
 | .bl b,v=>v= .bl b
 | .int i,v=>v= .int i
 | .str s,v=>v= .str (b6 s)
 | .tup ds,v=> ∃a vs,v= .ref a/\fm Γ G H a vs/\ae Γ G H ds vs
 | .lst ds,v=> ∃a vs,v= .ref a/\iW Γ G H a vs/\ae Γ G H ds vs
 | .ref r,v=>r<G.n/\v= .ref (G.aU r)
 | .exc c fs,v=>(fs= []/\ ∃x,v= .ref x/\G.fz x/\H x=y0 (eX x (Γ.ca c) u0)/\eI Γ c)\/(fs≠ []/\ ∃a,v= .ref a/\Ax Γ a fs)
 | .err c f d,v=> ∃x dx u,v= .ref x/\G.fz x/\G.fz dx/\H x=y0 (eX x (Γ.ca c) (y0 dx))/\H dx=y0 (.xd [(Str.ofString f,u)])/\eI Γ c/\lI Γ.K (Γ.ca c) (Str.ofString f)/\aC Γ G H d u
def ae (Γ:Ge) (G:Gh) (H:Hp):List M.D->List V->Prop
 | [],vs=>vs= []
 | d::ds,vs=> ∃v r,vs=v::r/\aC Γ G H d v/\ae Γ G H ds r
end
def sW (k:M.WK):M.D:= .tup [.int k.1,.tup (k.2.1.map .int),.tup (k.2.2.map .int)]
def bp (b:Ge) (G:Gh) (H:Hp) (a:Addr):M.Cell->Prop
 | .lst xs=>M.Gd xs=k9/\ ∃e,H a=y0 (.lst e)/\ae b G H xs e
 | .gw ks=> ∃xs,H a=y0 (DW a xs)/\xs.map (·.1)=ks/\ ∀x∈xs,aC b G H (sW x.1) (.ref x.2.1)
 | .bX ks=>H a=y0 (dI ks)
 | .obj c fs=>M.Gd (fs.map (·.2))=k9/\ ∃dx d,H a=y0 (.ins (b.ca c) dx ((fs.map λp=>Str.ofString p.1).zip d))/\ae b G H (fs.map (·.2)) d
structure ai (Γ:Ge) (G:Gh) (h:M.AH) (H:Hp):Prop where
 len:h.length=G.n
 any: ∀r c,h[r]? =y0 c-> ¬G.fz (G.aU r)/\bp Γ G H (G.aU r) c
 inj: ∀r s,r<G.n->s<G.n->G.aU r=G.aU s->r=s
 live: ∀a,G.fz a-> ∃o,H a=y0 o
def dO (G:Gh) (a:Addr):Prop:= ∀r,r<G.n->G.aU r≠a
structure Ext (G:Gh) (H:Hp) (G':Gh) (H':Hp):Prop where
 keep: ∀a o,H a=y0 o->dO G a->H' a=y0 o
 le:G.n<=G'.n
 aU: ∀r,r<G.n->G'.aU r=G.aU r
 new: ∀r,G.n<=r->r<G'.n->H (G'.aU r)=u0
 fz: ∀a,G.fz a->G'.fz a
 old: ∀a,G'.fz a->G.fz a\/H a=u0
 cells: ∀r,r<G.n->(∃ o,H (G.aU r)=y0 o)-> ∃o,H' (G.aU r)=y0 o
def ar (c:Ge) (G:Gh) (H:Hp):M.W->V->Prop
 | .v d,v=>aC c G H d v
 | .own xs,v=> ∃a b,v= .ref a/\ ¬G.fz a/\dO G a/\H a=y0 (.lst b)/\ae c G H xs b
 | .bor xs,v=> ∃a b,v= .ref a/\dO G a/\Rd H a (.lst b)/\ae c G H xs b
def fW:M.W->Bool
 | .own _=>k9
 | .bor _=>k9
 | _=>y9
structure aw (Γ:Ge) (G:Gh) (Y:M.Sl) (h:M.AH) (U:St) (H:Hp):Prop where
 len:Y.length=U.length
 slot: ∀i w,M.Gj Y i=y0 w-> ∃v,U[i]? =y0 (y0 v)/\ar Γ G H w v
 apart: ∀i j xs w a,i≠j->M.Gj Y i=y0 (.own xs)->M.Gj Y j=y0 w->fW w=k9->U[i]? =y0 (y0 (.ref a))->U[j]? ≠y0 (y0 (.ref a))
 heap:ai Γ G h H
section
variable {Γ:Ge}{G G' G1 G2:Gh}{H H' H1 H2:Hp}{h h':M.AH}{Y:M.Sl}{U:St}
def ai.cell (R:ai Γ G h H) (r) (xs) (e:h[r]? =y0 (M.Cell.lst xs)): ¬G.fz (G.aU r)/\ ∃i,H (G.aU r)=y0 (.lst i)/\ae Γ G H xs i:=⟨(R.any r _ e).1,(R.any r _ e).2.2⟩
def ai.pure (R:ai Γ G h H) (r:Nat) (xs) (e:h[r]? =y0 (M.Cell.lst xs)):M.Gd xs=true:=(R.any r _ e).2.1
def ai.lt (R:ai Γ G h H)(e:h[r]? =y0 c):r<G.n:=by rw [← R.len];exact(Ac0.mp e).1
def ai.at (R:ai Γ G h H)(a:i<G.n): ∃c,h[i]? =y0 c:=⟨_,Aa4 (by rw [R.len];exact a)⟩
def bp.there (z:bp Γ G H a c): ∃o,H a=y0 o:=by
 cases c with
 | lst d=>obtain⟨_,_,z,_⟩:=z;exact⟨_,z⟩
 | gw b=>obtain⟨_,z,_⟩:=z;exact⟨_,z⟩
 | bX b=>exact⟨_,z⟩
 | obj c fs=>obtain⟨_,_,_,z,_⟩:=z;exact⟨_,z⟩
def ai.oU (r:ai Γ G h H)(a:i<G.n): ¬G.fz (G.aU i):=let ⟨_,e⟩:=r.at a;(r.any i _ e).1
def ai.off (r:ai Γ G h H)(b:G.fz a):dO G a:=λi c z=>r.oU c (z▸b)
theorem ai.there (r:ai Γ G h H)(a:i<G.n): ∃o,H (G.aU i)=y0 o:=let ⟨_,e⟩:=r.at a;(r.any i _ e).2.there
def Ext.refl:Ext G H G H:=⟨λ_ _ e _=>e,Aa5 _,λ_ _=>rfl,λr b a=>absurd b (An5.mpr a),λ_ z=>z,λ_ z=> .inl z,λ_ _ z=>z⟩
theorem Ext.none (e:Ext G H G' H') (d:ai Γ G h H)(z:H' a=u0):H a=none:=by
 cases q:H a with
 | none=>rfl
 | some o=>
  by_cases b:dO G a
  ·rw [e.keep a o q b]at z;cases z
  ·unfold dO at b
   have: ∃r,r<G.n/\G.aU r=a:=Classical.byContradiction λg=>b λr d z=>g ⟨r,d,z⟩
   obtain⟨r,c,rfl⟩:=this
   obtain⟨i,f⟩:=e.cells r c ⟨o,q⟩
   rw [z]at f;cases f
def Ext.off (e:Ext G H G' H')(c:H a=y0 o) (b:dO G a):dO G' a:=λr d z=>by
 by_cases hn:r<G.n
 ·rw [e.aU r hn]at z;exact b r hn z
 ·have:=e.new r (Al6.mp hn) d
  rw [z,c]at this;cases this
def Ext.trans (b:Ext G H G1 H1) (e:ai Γ G h H) (c:Ext G1 H1 G2 H2):Ext G H G2 H2 where
 keep:=λa o z d=>c.keep a o (b.keep a o z d) (b.off z d)
 le:=Ac b.le c.le
 aU:=λr hn=>by rw [c.aU r (Ab0 hn b.le),b.aU r hn]
 new:=λr g f=>by
  by_cases hn:r<G1.n
  ·rw [c.aU r hn];exact b.new r g hn
  ·exact b.none e (c.new r (Al6.mp hn) f)
 fz:=λa z=>c.fz a (b.fz a z)
 old:=λa z=>(c.old a z).elim (λz=>b.old a z) λz=> .inr (b.none e z)
 cells:=λr hn z=>by
  have:=c.cells r (Ab0 hn b.le) (by rw [b.aU r hn];exact b.cells r hn z)
  rwa [b.aU r hn]at this
def Ext.rd (e:Ext G H G' H')(z:Rd H a u) (b:dO G a):Rd H' a u:=z.elim (λz=> .inl (e.keep a _ z b)) λ⟨o,z⟩=> .inr ⟨o,e.keep a _ z b⟩
structure Mon (G:Gh) (H:Hp) (G':Gh) (H':Hp):Prop where
 keep: ∀a o,G.fz a->H a=y0 o->H' a=y0 o
 le:G.n<=G'.n
 aU: ∀r,r<G.n->G'.aU r=G.aU r
 fz: ∀a,G.fz a->G'.fz a
def Ext.mon (e:Ext G H G' H') (b:ai Γ G h H):Mon G H G' H':=⟨λa o z q=>e.keep a o q (b.off z),e.le,e.aU,e.fz⟩
def Mon.rd (e:Mon G H G' H')(z:Rd H a u) (b:G.fz a):Rd H' a u:=z.elim (λz=> .inl (e.keep a _ b z)) λ⟨o,z⟩=> .inr ⟨o,e.keep a _ b z⟩
mutual
theorem aC.mon (e:Mon G H G' H'): ∀ {d:M.D}{v:V},aC Γ G H d v->aC Γ G' H' d v
 | .au,_,z=>z
 | .bl _,_,z=>z
 | .int _,_,z=>z
 | .str _,_,z=>z
 | .tup _,_,⟨a,vs,z1,z2,z3⟩=>⟨a,vs,z1,z2.elim (λz=> .inl ⟨e.fz a z.1,e.keep a _ z.1 z.2⟩) λz=> .inr z,ae.mon e z3⟩
 | .lst _,_,⟨a,vs,z1,z2,z3⟩=>⟨a,vs,z1,z2.elim (λz=> .inl ⟨e.fz a z.1,e.rd z.2 z.1⟩) .inr,ae.mon e z3⟩
 | .ref r,_,⟨z1,z2⟩=>⟨Ab0 z1 e.le,by rw [e.aU r z1];exact z2⟩
 | .exc c fs,_,z=>z.imp (λ⟨z0,x,z1,z2,z3,z4⟩=>⟨z0,x,z1,e.fz x z2,e.keep x _ z2 z3,z4⟩) id
 | .err c f d,_,⟨x,dx,u,z1,z2,z3,z4,z5,z6,z7,z8⟩=>⟨x,dx,u,z1,e.fz x z2,e.fz dx z3,e.keep x _ z2 z4,e.keep dx _ z3 z5,z6,z7,aC.mon e z8⟩
theorem ae.mon (e:Mon G H G' H'): ∀ {ds:List M.D}{vs:List V},ae Γ G H ds vs->ae Γ G' H' ds vs
 | [],_,z=>z
 | _::_,_,⟨v,r,z1,z2,z3⟩=>⟨v,r,z1,aC.mon e z2,ae.mon e z3⟩
end
theorem bp.mon (e:Mon G H G' H')(k: ∀o,H a=y0 o->H' a=y0 o) (z:bp Γ G H a c):bp Γ G' H' a c:=by
 cases c with
 | lst g=>obtain⟨f,n,d,b⟩:=z;exact⟨f,n,k _ d,b.mon e⟩
 | gw h=>obtain⟨g,d,b,l⟩:=z;exact⟨g,k _ d,b,λx i=>(l x i).mon e⟩
 | bX h=>exact k _ z
 | obj c fs=>obtain⟨f,j,m,d,b⟩:=z;exact⟨f,j,m,k _ d,b.mon e⟩
def aC.ext (e:Ext G H G' H') (a:ai Γ G h H)(z:aC Γ G H d v):aC Γ G' H' d v:=z.mon (e.mon a)
def ae.ext (e:Ext G H G' H') (a:ai Γ G h H)(z:ae Γ G H d v):ae Γ G' H' d v:=z.mon (e.mon a)
theorem ar.ext (e:Ext G H G' H') (f:ai Γ G h H)(z:ar Γ G H w v):ar Γ G' H' w v:=by
 cases w with
 | v d=>exact aC.ext e f z
 | own l=>
  obtain⟨a,i,j,k,c,b,g⟩:=z
  refine⟨a,i,j,λq=> ?_,e.off b c,e.keep a _ b c,ae.ext e f g⟩
  obtain q | q:=e.old a q
  ·exact k q
  ·rw [b]at q;cases q
 | bor l=>
  obtain⟨a,i,j,c,b,g⟩:=z
  refine⟨a,i,j,?_,e.rd b c,ae.ext e f g⟩
  obtain b | ⟨o,b⟩:=b
  ·exact e.off b c
  ·exact e.off b c
theorem aw.ext (s:aw Γ G Y h U H) (e:Ext G H G' H') (b:ai Γ G' h' H'):aw Γ G' Y h' U H' where
 len:=s.len
 slot:=λi w z=>let ⟨v,c,a⟩:=s.slot i w z; ⟨v,c,a.ext e s.heap⟩
 apart:=s.apart
 heap:=b
theorem ae.length: ∀ {ds}{i},ae Γ G H ds i->ds.length=i.length
 | [],_,rfl=>rfl
 | _::_,_,⟨_,_,rfl,_,z⟩=>congrArg (· +1) (ae.length z)
theorem ae.get: ∀ {ds}{vs}{i:Nat}{d},ae Γ G H ds vs->ds[i]? =y0 d-> ∃v,vs[i]? =y0 v/\aC Γ G H d v
 | [],_,_,_,_,e=>by simp at e
 | _::_,_,0,_,⟨v,_,rfl,z,_⟩,e=>by simp at e;subst e;exact⟨v,rfl,z⟩
 | _::_,_,i+1,_,⟨_,_,rfl,_,z⟩,e=>by
  obtain⟨v,b,a⟩:=ae.get z (by simpa using e)
  exact⟨v,by simpa using b,a⟩
theorem ae.append: ∀ {ds es}{i j},ae Γ G H ds i->ae Γ G H es j->ae Γ G H (ds++es) (i++j)
 | [],_,_,_,rfl,z=>z
 | _::_,_,_,_,⟨v,r,rfl,b,a⟩,z=>⟨v,r++_,rfl,b,ae.append a z⟩
theorem ae.drop: ∀ {ds}{i}(n),ae Γ G H ds i->ae Γ G H (ds.drop n) (i.drop n)
 | _,_,0,z=>z
 | [],_,_+1,rfl=>rfl
 | _::_,_,n+1,⟨_,_,rfl,_,z⟩=>ae.drop n z
theorem ae.take: ∀ {ds}{i}(n),ae Γ G H ds i->ae Γ G H (ds.take n) (i.take n)
 | _,_,0,_=>rfl
 | [],_,_+1,rfl=>rfl
 | _::_,_,n+1,⟨v,r,rfl,a,z⟩=>⟨v,r.take n,rfl,a,ae.take n z⟩
theorem ae.reverse: ∀ {ds}{i},ae Γ G H ds i->ae Γ G H ds.reverse i.reverse
 | [],_,rfl=>rfl
 | _::_,_,⟨v,r,rfl,a,z⟩=>by
  rw [Al4,Al4]
  exact(ae.reverse z).append ⟨v,[],rfl,a,rfl⟩
theorem ae.set (z:aC Γ G H d v): ∀ {ds}{j} i,ae Γ G H ds j->ae Γ G H (ds.set i d) (j.set i v)
 | [],_,_,rfl=>rfl
 | _::_,_,0,⟨_,r,rfl,_,a⟩=>⟨v,r,rfl,z,a⟩
 | _::_,_,i+1,⟨u,r,rfl,b,a⟩=>⟨u,r.set i v,rfl,b,ae.set z i a⟩
def Gh.more (G:Gh) (a:Addr):Gh:= { G with fz:=λb=>G.fz b\/b=a }
def wF (o) (b:H p=u0):Ext G H G (aG H p o) where
 keep:=λa u z _=>by rw [ja (Wa z b)];exact z
 le:=Aa5 _
 aU:=λ_ _=>rfl
 new:=λr d c=>absurd d (An5.mpr c)
 fz:=λ_ z=>z
 old:=λ_ z=> .inl z
 cells:=λr _ ⟨u,z⟩=>⟨u,by rw [ja (Wa z b)];exact z⟩
def jf (o) (b:H p=u0):Ext G H (G.more p) (aG H p o) where
 keep:=λa u z _=>by rw [ja (Wa z b)];exact z
 le:=Aa5 _
 aU:=λ_ _=>rfl
 new:=λr d c=>absurd d (An5.mpr c)
 fz:=λ_ z=> .inl z
 old:=λa z=>z.elim .inl λe=> .inr (e▸b)
 cells:=λr _ ⟨u,z⟩=>⟨u,by rw [ja (Wa z b)];exact z⟩
def ai.new (r:ai Γ G h H)(o) (b:H p=u0):ai Γ G h (aG H p o) where
 len:=r.len
 any:=λi c z=>⟨(r.any i c z).1,(r.any i c z).2.mon ((wF o b).mon r) λu q=>by rw [ja (Wa q b)];exact q⟩
 inj:=r.inj
 live:=λa z=>let ⟨u,q⟩:=r.live a z; ⟨u,by rw [ja (Wa q b)];exact q⟩
def ai.e7 (r:ai Γ G h H)(o) (b:H p=u0):ai Γ (G.more p) h (aG H p o) where
 len:=r.len
 any:=λi c z=>by
  obtain⟨g,d⟩:=r.any i c z
  obtain⟨u,f⟩:=d.there
  exact⟨λq=>q.elim g (Wa f b),d.mon ((jf o b).mon r) λu q=>by rw [ja (Wa q b)];exact q⟩
 inj:=r.inj
 live:=λa z=>z.elim (λz=>let ⟨u,q⟩:=r.live a z; ⟨u,by rw [ja (Wa q b)];exact q⟩) λe=>⟨o,by rw [e];exact wb⟩
def zo (a):Mon G H (G.more a) H:=⟨λ_ _ _ z=>z,Aa5 _,λ_ _=>rfl,λ_ z=> .inl z⟩
theorem Ext.more (e:Ext G H G1 H1)(c:H a=Option.none):Ext G H (G1.more a) H1:=
 ⟨e.keep,e.le,e.aU,e.new,λb z=> .inl (e.fz b z),λb z=>z.elim (λz=>e.old b z) λz=> .inr (z▸c),e.cells⟩
theorem ai.more (r:ai Γ G h H)(d:dO G a) (f: ∃o,H a=y0 o):ai Γ (G.more a) h H where
 len:=r.len
 any:=λi c z=>⟨λq=>q.elim (r.any i c z).1 λe=>d i (r.lt z) e,(r.any i c z).2.mon (zo a) λ_ q=>q⟩
 inj:=r.inj
 live:=λb z=>z.elim (λz=>r.live b z) λe=>e▸f
theorem ar.more (z:ar Γ G H w v) (j:fW w=k9->v≠ .ref a):ar Γ (G.more a) H w v:=by
 cases w with
 | v d=>exact aC.mon (zo a) z
 | own l=>
  obtain⟨b,f,c,k,g,i,h⟩:=z
  exact⟨b,f,c,λq=>q.elim k λe=>j rfl (e▸c),g,i,h.mon (zo a)⟩
 | bor l=>
  obtain⟨b,f,c,g,i,h⟩:=z
  exact⟨b,f,c,g,i,h.mon (zo a)⟩
theorem aw.more (s:aw Γ G Y h U H)(b:dO G a) (d: ∃o,H a=y0 o) (f: ∀ i w,M.Gj Y i=y0 w->fW w=k9->U[i]? ≠y0 (y0 (.ref a))):aw Γ (G.more a) Y h U H where
 len:=s.len
 slot:=λi w z=>by
  obtain⟨v,c,g⟩:=s.slot i w z
  exact⟨v,c,g.more λq e=>f i w z q (e▸c)⟩
 apart:=s.apart
 heap:=s.heap.more b d
def aF (Y:M.Sl) (U:St) (H:Hp):M.W->V->Prop
 | .v _,_=>True
 | .own _,v=> ∃a,v= .ref a/\H a=u0
 | .bor _,v=> ∃(i:Nat) (w:M.W),M.Gj Y i=y0 w/\fW w=k9/\U[i]? =y0 (y0 v)
def aF.back (e:Ext G H G1 H1) (c:ai Γ G h H)(z:aF Y U H1 w v):aF Y U H w v:=by
 cases w with
 | v d=>trivial
 | own g=>obtain⟨a,f,b⟩:=z;exact⟨a,f,e.none c b⟩
 | bor g=>exact z
def aw.cn (s:aw Γ G Y h U H)(e:M.Gj Y i=y0 w) (j:fW w=k9) (q:U[i]? =y0 (y0 (.ref a))): ∃o,H a=y0 o:=by
 obtain⟨v,f,g⟩:=s.slot i w e
 rw [q]at f
 cases f
 cases w with
 | v d=>cases j
 | own l=>obtain⟨b,k,f,_,_,c,_⟩:=g;cases f;exact⟨_,c⟩
 | bor l=>
  obtain⟨b,k,f,_,c,_⟩:=g
  cases f
  obtain c | ⟨o,c⟩:=c
  ·exact⟨_,c⟩
  ·exact⟨_,c⟩
def oj (a:Ge) (E:XK) (d:M.D) (G:Gh) (H:Hp):Prop:=(∀ c,d= .exc c []->eI a c->E (.ref (a.ca c)) u0 H) ∧
 ∀c f b,d= .err c f b->eI a c->lI a.K (a.ca c) (Str.ofString f)-> ∀dx u,G.fz dx->H dx=y0 (.xd [(Str.ofString f,u)])->aC a G H b u->E (.ref (a.ca c)) (y0 dx) H
def ax {c:Type}(b:Ge) (E:XK) (G:Gh) (H:Hp) (r:M.R c) (P:c->M.AH->Gh->Hp->Prop):Prop:=match r with
 | .ok a h'=> ∀G' H',Ext G H G' H'->ai b G' h' H'->P a h' G' H'
 | .exc d h'=> ∀G' H',Ext G H G' H'->ai b G' h' H'->oj b E d G' H'
 | .fail=>False
def ax.on (p:ax Γ E G H r P) (e:Ext G H G1 H1) (i:ai Γ G h H):ax Γ E G1 H1 r P:=by
 cases r with
 | ok a j=>exact λf c g b=>p f c (e.trans i g) b
 | exc d j=>exact λf c g b=>p f c (e.trans i g) b
 | fail=>exact p
def tD (a:Ge) (E:XK) (m:M.Sl->M.AH->M.R M.W):TE:=λU H Q=> ∃G Y h,aw a G Y h U H/\ax a E G H (m Y h) λw h' G' H'=> ∀v,ar a G' H' w v->aF Y U H w v->Q v H'
def cu (a:Ge) (E:XK) (m:M.Sl->M.AH->M.R Bool):TT:=λU H Q=> ∃G Y h,aw a G Y h U H/\ax a E G H (m Y h) λb _ _ H'=>Q b H'
def Qa (a:ai Γ G0 h0 H0) (b:Ext G0 H0 G H) (s:aw Γ G Y h U H)
 (p:ax Γ E G0 H0 ((m Y h).bind f) P)
 (k: ∀w v h1 G1 H1,Ext G0 H0 G1 H1->Ext G H G1 H1->aw Γ G1 Y h1 U H1->ar Γ G1 H1 w v->aF Y U H w v->ax Γ E G0 H0 (f w h1) P->Q v H1):tD Γ E m U H Q:=by
 refine⟨G,Y,h,s,?_⟩
 cases q:m Y h with
 | ok w h1=>
  rw [q]at p
  exact λG1 H1 e i v c g=>k w v h1 G1 H1 (b.trans a e) e (s.ext e i) c g p
 | exc d h1=>rw [q]at p;exact ax.on p b a
 | fail=>rw [q]at p;exact p
def ZQ (a:ai Γ G0 h0 H0) (c:Ext G0 H0 G H) (s:aw Γ G Y h U H)
 (p:ax Γ E G0 H0 ((m Y h).bind f) P)
 (k: ∀b h1 G1 H1,Ext G0 H0 G1 H1->Ext G H G1 H1->aw Γ G1 Y h1 U H1->ax Γ E G0 H0 (f b h1) P->Q b H1):cu Γ E m U H Q:=by
 refine⟨G,Y,h,s,?_⟩
 cases q:m Y h with
 | ok w h1=>
  rw [q]at p
  exact λG1 H1 e g=>k w h1 G1 H1 (c.trans a e) e (s.ext e g) p
 | exc d h1=>rw [q]at p;exact ax.on p c a
 | fail=>rw [q]at p;exact p
def iJ (a:Ge) (E:XK) (m:M.Sl->M.AH->M.R (List M.D)):TA:=λU H Q=> ∃G Y h,aw a G Y h U H/\ax a E G H (m Y h) λds _ G' H'=> ∀b,ae a G' H' ds b->Q b H'
def bh (b:Ge) (G:Gh) (H:Hp):List M.W->List V->Prop
 | [],a=>a= []
 | w::c,a=> ∃v r,a=v::r/\ar b G H w v/\bh b G H c r
theorem bh.length: ∀ {ws}{i},bh Γ G H ws i->ws.length=i.length
 | [],_,rfl=>rfl
 | _::_,_,⟨_,_,rfl,_,z⟩=>congrArg (· +1) (bh.length z)
def gS (a:Ge) (E:XK) (m:M.Sl->M.AH->M.R (List M.W)):TA:=λU H Q=> ∃G Y h,aw a G Y h U H/\ax a E G H (m Y h) λc _ G' H'=> ∀b,bh a G' H' c b->Q b H'
def X3 (a:ai Γ G0 h0 H0) (b:Ext G0 H0 G H) (s:aw Γ G Y h U H)
 (p:ax Γ E G0 H0 ((m Y h).bind f) P)
 (k: ∀ds i h1 G1 H1,Ext G0 H0 G1 H1->Ext G H G1 H1->aw Γ G1 Y h1 U H1->ae Γ G1 H1 ds i->ax Γ E G0 H0 (f ds h1) P->Q i H1):iJ Γ E m U H Q:=by
 refine⟨G,Y,h,s,?_⟩
 cases q:m Y h with
 | ok w h1=>
  rw [q]at p
  exact λG1 H1 e c i z=>k w i h1 G1 H1 (b.trans a e) e (s.ext e c) z p
 | exc d h1=>rw [q]at p;exact ax.on p b a
 | fail=>rw [q]at p;exact p
def qA (a:ai Γ G0 h0 H0) (b:Ext G0 H0 G H) (s:aw Γ G Y h U H)
 (p:ax Γ E G0 H0 ((m Y h).bind f) P)
 (k: ∀ds i h1 G1 H1,Ext G0 H0 G1 H1->Ext G H G1 H1->aw Γ G1 Y h1 U H1->bh Γ G1 H1 ds i->ax Γ E G0 H0 (f ds h1) P->Q i H1):gS Γ E m U H Q:=by
 refine⟨G,Y,h,s,?_⟩
 cases q:m Y h with
 | ok w h1=>
  rw [q]at p
  exact λG1 H1 e c i z=>k w i h1 G1 H1 (b.trans a e) e (s.ext e c) z p
 | exc d h1=>rw [q]at p;exact ax.on p b a
 | fail=>rw [q]at p;exact p
theorem ax.of (p:ax Γ E G H ((M.R.of h o).bind f) P): ∃b,o=y0 b/\ax Γ E G H (f b h) P:=by
 cases o with
 | none=>exact p.elim
 | some b=>exact⟨b,rfl,p⟩
def ax.at (p:ax Γ E G H (.ok a h) P) (e:Ext G H G1 H1) (b:ai Γ G1 h H1):P a h G1 H1:=p G1 H1 e b
def nX (e:Ext G H G1 H1) (s:aw Γ G1 Y h U H1) (u:aw Γ G Y h' U H)(r:ar Γ G1 H1 w v) (f:aF Y U H w v) (c:w.d=y0 d):
 ∃G2,Ext G H G2 H1/\aw Γ G2 Y h U H1/\aC Γ G2 H1 d v/\Mon G1 H1 G2 H1:=by
 cases w with
 | v x=>cases c;exact⟨G1,e,s,r,⟨λ_ _ _ z=>z,Aa5 _,λ_ _=>rfl,λ_ z=>z⟩⟩
 | own l=>
  cases c
  obtain⟨a,n,rfl,y,p,j,t⟩:=r
  obtain⟨b,m,hn⟩:=f
  cases m
  refine⟨G1.more a,e.more hn,s.more p ⟨_,j⟩ λi w q k z=> ?_,⟨a,n,rfl,.inl ⟨.inr rfl,.inl j⟩,t.mon (zo a)⟩,zo a⟩
  obtain⟨o,g⟩:=u.cn q k z
  rw [hn]at g;cases g
 | bor l=>cases c
end
open PySem PySem.Spec PyProof.Rows
mutual
def RV (hp:Heap):M.D->Value->Prop
 | .au,u=>u= .none
 | .bl b,u=>u= .bool b
 | .int i,u=> ∃t,u= .int i t
 | .str s,u=> ∃t,u= .str (b6 s) t
 | .tup ds,u=> ∃(a:Addr) (its:List Value),u= .ref a/\IsTup hp a its.toArray/\bU hp ds its
 | .lst ds,u=> ∃(a:Addr) (its:List Value),u= .ref a/\hp.IsList a its.toArray/\bU hp ds its
 | .ref _,_=>False
 | .exc _ _,_=>False
 | .err _ _ _,_=>False
def bU (hp:Heap):List M.D->List Value->Prop
 | [],us=>us= []
 | d::ds,us=> ∃u r,us=u::r/\RV hp d u/\bU hp ds r
end
theorem bU.length : ∀ {ds}{i},bU hp ds i->ds.length=i.length
 | [],_,rfl=>rfl
 | _::_,_,⟨_,_,rfl,_,z⟩=>congrArg (· +1) (bU.length z)
theorem bU.get : ∀ {ds}{us}{j:Nat}{u},bU hp ds us->us[j]? =y0 u-> ∃d,ds[j]? =y0 d/\RV hp d u
 | [],_,_,_,rfl,e=>by simp at e
 | d::_,_,0,_,⟨v,_,rfl,z,_⟩,e=>by simp at e;subst e;exact⟨d,rfl,z⟩
 | _::_,_,j+1,_,⟨_,_,rfl,_,z⟩,e=>by
  obtain⟨v,b,a⟩:=bU.get z (by simpa using e)
  exact⟨v,by simpa using b,a⟩
section
variable {X:Cx}{Γ:Ge}{G:Gh}{H:Hp}{h:M.AH}{y8:List (Addr×Obj)}{U:St}{s:Shared}
mutual
theorem aC.gX (I:Inv X y8 U H s) (hK:X.K=Γ.K): ∀ {d:M.D}{x:V}{u:Value},aC Γ G H d x->RelV x u->M.Gc d=k9->RV s.heap d u
 | .au,_,_,rfl,r,_=>r
 | .bl _,_,_,rfl,r,_=>r
 | .int _,_,_,rfl,r,_=>r
 | .str _,_,_,rfl,r,_=>r
 | .tup ds,_,_,⟨a,vs,rfl,z2,z3⟩,r,n=>by
  cases r
  obtain⟨its,r1,p1,_⟩:=I.tuple (hK▸z2.sq)
  exact⟨a,its,rfl,p1,ae.gX I hK z3 r1 (by simpa [M.Gc]using n)⟩
 | .lst ds,_,_,⟨a,vs,rfl,z2,z3⟩,r,n=>by
  cases r
  obtain⟨its,r1,p1,_⟩:=I.list (hK▸z2.sq)
  exact⟨a,its,rfl,p1.isList,ae.gX I hK z3 r1 (by simpa [M.Gc]using n)⟩
 | .ref _,_,_,_,_,n=>by simp [M.Gc]at n
 | .exc _ _,_,_,_,_,n=>by simp [M.Gc]at n
 | .err _ _ _,_,_,_,_,n=>by simp [M.Gc]at n
theorem ae.gX (I:Inv X y8 U H s) (hK:X.K=Γ.K): ∀ {ds:List M.D}{xs:List V}{us:List Value},ae Γ G H ds xs->Vals xs us->M.Gd ds=k9->bU s.heap ds us
 | [],_,_,rfl,.nil,_=>rfl
 | d::ds,_,_,⟨v,r,rfl,z1,z2⟩,.cons r1 r2,n=>by
  have n':M.Gc d=k9/\M.Gd ds=true:=by simpa [M.Gd]using n
  exact⟨_,_,rfl,aC.gX I hK z1 r1 n'.1,ae.gX I hK z2 r2 n'.2⟩
end
mutual
theorem aC.rv (I:Inv X y8 U H s) (hK:X.K=Γ.K) (hr:ai Γ G h H): ∀ {d:M.D}{x:V}{u:Value},aC Γ G H d x->RelV x u->M.Gc (M.res h d)=k9->RV s.heap (M.res h d) u
 | .au,_,_,rfl,r,_=>r
 | .bl _,_,_,rfl,r,_=>r
 | .int _,_,_,rfl,r,_=>r
 | .str _,_,_,rfl,r,_=>r
 | .tup ds,_,_,⟨a,vs,rfl,z2,z3⟩,r,n=>by
  cases r
  obtain⟨its,r1,p1,_⟩:=I.tuple (hK▸z2.sq)
  rw [M.res]at n ⊢
  exact⟨a,its,rfl,p1,ae.rv I hK hr z3 r1 (by simpa [M.Gc]using n)⟩
 | .lst ds,_,_,⟨a,vs,rfl,z2,z3⟩,r,n=>by
  cases r
  obtain⟨its,r1,p1,_⟩:=I.list (hK▸z2.sq)
  rw [M.res]at n ⊢
  exact⟨a,its,rfl,p1.isList,ae.rv I hK hr z3 r1 (by simpa [M.Gc]using n)⟩
 | .ref i,_,_,⟨hi,e⟩,r,n=>by
  subst e
  cases r
  rw [M.res]at n ⊢
  cases q:h[i]? with
  | none=>rw [q]at n;simp [M.Gc]at n
  | some c=>
   cases c with
   | lst xs=>
    rw [q]at n
    obtain⟨_,vs,z2,z3⟩:=hr.cell i xs q
    obtain⟨its,r1,p1,_⟩:=I.list (aZ.of (K:=X.K) z2)
    exact⟨_,its,rfl,p1.isList,ae.gX I hK z3 r1 (by simpa [M.Gc]using n)⟩
   | gw ks=>rw [q]at n;simp [M.Gc]at n
   | obj c fs=>rw [q]at n;simp [M.Gc]at n
   | bX ks=>rw [q]at n;simp [M.Gc]at n
 | .exc _ _,_,_,_,_,n=>by simp [M.res,M.Gc]at n
 | .err _ _ _,_,_,_,_,n=>by simp [M.res,M.Gc]at n
theorem ae.rv (I:Inv X y8 U H s) (hK:X.K=Γ.K) (hr:ai Γ G h H): ∀ {ds:List M.D}{xs:List V}{us:List Value},ae Γ G H ds xs->Vals xs us->M.Gd (M.GS h ds)=k9->bU s.heap (M.GS h ds) us
 | [],_,_,rfl,.nil,_=>rfl
 | d::ds,_,_,⟨v,r,rfl,z1,z2⟩,.cons r1 r2,n=>by
  rw [M.GS]at n ⊢
  have n':M.Gc (M.res h d)=k9/\M.Gd (M.GS h ds)=true:=by simpa [M.Gd]using n
  exact⟨_,_,rfl,aC.rv I hK hr z1 r1 n'.1,ae.rv I hK hr z2 r2 n'.2⟩
end
theorem ar.rv (I:Inv X y8 U H s) (e:X.K=Γ.K) (f:ai Γ G h H)(z:ar Γ G H w x) (r:RelV x u) (n:M.Gc (w.dd h)=k9):RV s.heap (w.dd h) u:=by
 cases w with
 | v d=>exact aC.rv I e f z r n
 | own l=>
  obtain⟨a,k,rfl,_,_,j,g⟩:=z
  cases r
  obtain⟨b,i,c,_⟩:=I.list (aZ.of j)
  exact⟨a,b,rfl,c.isList,ae.rv I e f g i (by simp_all)⟩
 | bor l=>
  obtain⟨a,k,rfl,_,j,g⟩:=z
  cases r
  obtain⟨b,i,c,_⟩:=I.list (.inl j)
  exact⟨a,b,rfl,c.isList,ae.rv I e f g i (by simp_all)⟩
end
def sI (h:b6 a=b6 b):a=b:=by
 have:=congrArg Str.cps h
 simpa [b6]using this
def JT {xs b:List Value}(h1:IsTup hp a xs.toArray) (h2:IsTup hp a b.toArray):xs=b:=by
 obtain⟨o,f,_,n,e⟩:=h1
 obtain⟨h,d,_,g,c⟩:=h2
 rw [f]at d;cases d
 rw [e]at c;cases c
 rfl
def zL {b:Heap}{xs c:List Value}(h1:b.IsList a xs.toArray) (h2:b.IsList a c.toArray):xs=c:=by
 obtain⟨o,g,_,n,f⟩:=h1
 obtain⟨i,e,_,h,d⟩:=h2
 rw [g]at e;cases e
 rw [f]at d;cases d
 rfl
def QA (h1:IsTup hp a xs) (h2:hp.IsList a ys):False:=by
 obtain⟨o,d,e,_⟩:=h1
 obtain⟨f,b,c,_⟩:=h2
 rw [d]at b;cases b
 rw [e]at c
 exact absurd c (by decide)
mutual
theorem RV.inj {hp:Heap}: ∀ {d e:M.D}{u:Value},RV hp d u->RV hp e u->d=e
 | .au,e,_,rfl,q=>by cases e<;>first | rfl | (simp [RV]at q)
 | .bl _,e,_,rfl,q=>by cases e<;>first | (simp [RV]at q;done) | (have q:=q;simp [RV]at q;try rw [q])
 | .int _,e,_,⟨t,rfl⟩,q=>by cases e<;>first | (simp [RV]at q;done) | (have q:=q;simp [RV]at q;try rw [q])
 | .str _,e,_,⟨t,rfl⟩,q=>by
  cases e with
  | str z=>
   obtain⟨t',q⟩:=q
   injection q with q1 q2
   rw [sI q1]
  | _=>simp [RV]at q
 | .tup ds,e,_,⟨a,its,rfl,p,r⟩,q=>by
  cases e with
  | tup es=>
   obtain⟨b,its2,e,p2,r2⟩:=q
   cases e
   cases JT p p2
   rw [bU.inj r r2]
  | lst es=>
   obtain⟨b,its2,e,p2,r2⟩:=q
   cases e
   exact(QA p p2).elim
  | _=>simp [RV]at q
 | .lst ds,e,_,⟨a,its,rfl,p,r⟩,q=>by
  cases e with
  | lst es=>
   obtain⟨b,its2,e,p2,r2⟩:=q
   cases e
   cases zL p p2
   rw [bU.inj r r2]
  | tup es=>
   obtain⟨b,its2,e,p2,r2⟩:=q
   cases e
   exact(QA p2 p).elim
  | _=>simp [RV]at q
 | .ref _,_,_,q,_=>q.elim
 | .exc _ _,_,_,q,_=>q.elim
 | .err _ _ _,_,_,q,_=>q.elim
theorem bU.inj {hp:Heap}: ∀ {d e:List M.D}{u:List Value},bU hp d u->bU hp e u->d=e
 | [],e,_,rfl,q=>by
  cases e with
  | nil=>rfl
  | cons a b=>obtain⟨_,_,z,_⟩:=q;cases z
 | d::ds,e,_,⟨u,r,rfl,z1,z2⟩,q=>by
  cases e with
  | nil=>cases (show _::_= []from q)
  | cons a b=>
   obtain⟨_,_,z,y1,y2⟩:=q
   cases z
   rw [RV.inj z1 y1,bU.inj z2 y2]
end
mutual
theorem RV.refl {hp:Heap}: ∀ {d:M.D}{u:Value},RV hp d u->M.b0 d d=k9
 | .au,_,_=>rfl
 | .bl _,_,_=>by simp
 | .int _,_,_=>by simp
 | .str _,_,_=>by simp
 | .tup ds,_,⟨_,_,_,_,r⟩=>by rw [M.b0];exact bU.refl r
 | .lst ds,_,⟨_,_,_,_,r⟩=>by rw [M.b0];exact bU.refl r
 | .ref _,_,q=>q.elim
 | .exc _ _,_,q=>q.elim
 | .err _ _ _,_,q=>q.elim
theorem bU.refl {hp:Heap}: ∀ {d:List M.D}{u:List Value},bU hp d u->M.GJ d d=k9
 | [],_,_=>rfl
 | d::ds,_,⟨_,_,_,z1,z2⟩=>by rw [M.GJ,RV.refl z1,bU.refl z2];rfl
end
def iw (xs c:List M.D) (j:Nat):Bool:=match xs[j]?,c[j]? with
 | some a,y0 b=>M.b0 a b
 | _,_=>k9
def WH (n) (e):(Aa0 (n+1)).all e=(e 0&&(Aa0 n).all λj=>e (j+1)):=by
 rw [Af3,Ai1,Am1];rfl
theorem XZ: ∀(xs ys),xs.length=ys.length->(Aa0 xs.length).all (iw xs ys)=M.GJ xs ys
 | [],[],_=>rfl
 | [],_::_,h=>by simp at h
 | _::_,[],h=>by simp at h
 | x::xs,y::ys,h=>by
  rw [Ab8,WH,M.GJ]
  have a:=XZ xs ys (by simpa using h)
  rw [← a]
  rfl
theorem sf: ∀(xs ys),M.GJ xs ys=k9->xs.length=ys.length
 | [],[],_=>rfl
 | [],_::_,h=>by simp at h
 | _::_,[],h=>by simp at h
 | x::xs,y::ys,h=>by
  rw [M.GJ,Aa6]at h
  rw [Ab8,Ab8,sf xs ys h.2]
def yQ (h:xs.length≠ys.length):M.GJ xs ys=false:=by
 cases e:M.GJ xs ys with
 | false=>rfl
 | true=>exact absurd (sf xs ys e) h
open SeqAt in
structure dj (A:Around) (s:Shared) (u v:Value) (b:Bool):Prop where
 rc:RcAt A s u v b
 ne:RcNeAt A s u v (!b)
 eq:EqAt A s u v b
section
open SeqAt
variable {A:Around}{s:Shared}
theorem xC: ∀ {ds}{j:Nat}{d},ds[j]? =y0 d->M.dep d<=M.GK ds
 | [],_,_,e=>by simp at e
 | x::a,0,d,e=>by simp at e;subst e;simp only [M.GK];omega
 | x::a,j+1,d,e=>by
  have:=xC (by simpa using e)
  simp only [M.GK]
  omega
def me (b:Bool):((if b then(1:Int)else 0))=((b.toNat:Nat):Int):=by cases b<;>rfl
def vk (a b):(b6 a==b6 b)=(a==b):=by
 by_cases h:a=b
 ·subst h;simp
 ·have c:=λe=>h (sI e)
  rw [beq_eq_false_iff_ne.mpr h,beq_eq_false_iff_ne.mpr c]
def Ia (f:s.heap.IsList l its.toArray) (g:s.heap.IsList b its2.toArray) (i:bU s.heap xs its) (m:bU s.heap ys its2) (k:A.units<cLine)
 (x: ∀(j:Nat) a c u v,xs[j]? =y0 a->ys[j]? =y0 c->RV s.heap a u->RV s.heap c v->EqAt A.in1 s u v (M.b0 a c)):dj A s (.ref l) (.ref b) (M.GJ xs ys):=by
 have q: ∀ j t (r:j<its2.toArray.size),EqAt A.in1 s its.toArray[j] its2.toArray[j] (iw xs ys j):=λj t r=>by
  obtain⟨a,p,z⟩:=i.get (j:=j) (u:=its.toArray[j]) (by simp)
  obtain⟨c,n,y⟩:=m.get (j:=j) (u:=its2.toArray[j]) (by simp)
  have:=x j a c _ _ p n z y
  unfold iw
  rw [p,n]
  exact this
 have w:=i.length
 have l2:=m.length
 have two:RcAt A s (.ref l) (.ref b) (M.GJ xs ys)/\RcNeAt A s (.ref l) (.ref b) (!M.GJ xs ys):=by
  by_cases o:xs.length=ys.length
  ·have d:its.toArray.size=its2.toArray.size:=by simp;lia
   have e:(Aa0 its.toArray.size).all (iw xs ys)=M.GJ xs ys:=by
    rw [Aa8,←w];exact XZ xs ys o
   have a:=RcAt.lists f g d k q
   have c:=RcNeAt.lists f g d k q
   rw [e]at a c
   exact⟨a,c⟩
  ·have d:(its.toArray.size != its2.toArray.size)=true:=by simp;lia
   rw [yQ o]
   exact⟨RcAt.lists_lengths f g d k,RcNeAt.lists_lengths f g d k⟩
 refine⟨two.1,two.2,?_⟩
 by_cases h:l=b
 ·subst h
  cases zL f g
  cases bU.inj i m
  rw [bU.refl i]
  exact EqAt.same _
 ·exact EqAt.of_refs h two.1
def Hk (h:IsTup s.heap l its.toArray) (k:IsTup s.heap b its2.toArray) (g:bU s.heap xs its) (i:bU s.heap ys its2) (p:A.units<cLine)
 (w: ∀(j:Nat) a c u v,xs[j]? =y0 a->ys[j]? =y0 c->RV s.heap a u->RV s.heap c v->EqAt A.in1 s u v (M.b0 a c)):dj A s (.ref l) (.ref b) (M.GJ xs ys):=by
 have o: ∀ j r (q:j<its2.toArray.size),EqAt A.in1 s its.toArray[j] its2.toArray[j] (iw xs ys j):=λj r q=>by
  obtain⟨a,n,y⟩:=g.get (j:=j) (u:=its.toArray[j]) (by simp)
  obtain⟨c,m,x⟩:=i.get (j:=j) (u:=its2.toArray[j]) (by simp)
  have:=w j a c _ _ n m y x
  unfold iw
  rw [n,m]
  exact this
 have t:=g.length
 have l2:=i.length
 have e:((Aa0 (min its.toArray.size its2.toArray.size)).all (iw xs ys)&&its.toArray.size==its2.toArray.size)=M.GJ xs ys:=by
  rw [Aa8,Aa8,←t,←l2]
  by_cases f:xs.length=ys.length
  ·rw [← f,Nat.min_self,XZ xs ys f];simp
  ·rw [yQ f];simp [f]
 have a:=RcAt.tuples h k p o
 have c:=RcNeAt.tuples h k p o
 rw [e]at a c
 refine⟨a,c,?_⟩
 by_cases d:l=b
 ·subst d
  cases JT h k
  cases bU.inj g i
  rw [bU.refl g]
  exact EqAt.same _
 ·exact EqAt.of_refs d a
def dj.of (h:dj A s u v b) (e:b=b'):dj A s u v b':=e▸h
def oY: ∀(n:Nat) (d e:M.D) (A:Around) (u v:Value),M.dep d<=n->A.units+n<cLine->RV s.heap d u->RV s.heap e v->dj A s u v (M.b0 d e):=by
 intro n
 induction n with
 | zero=>
  intro d e A u v B N m f
  have c:A.units<cLine:=by omega
  cases d with
  | au=>
   cases (show u= .none from m)
   cases e with
   | au=>cases (show v= .none from f);exact⟨RcAt.none_none,RcNeAt.none_none,EqAt.same _⟩
   | bl b=>cases (show v= .bool b from f);exact⟨RcAt.none_bool b,RcNeAt.none_bool b,EqAt.none_bool b⟩
   | int i=>obtain⟨t,rfl⟩:=f;exact⟨RcAt.none_int i t,RcNeAt.none_int i t,EqAt.none_int i t⟩
   | str z=>obtain⟨t,rfl⟩:=f;exact⟨RcAt.none_str _ t,RcNeAt.none_str _ t,EqAt.none_str _ t⟩
   | tup o=>obtain⟨a,k,rfl,p,_⟩:=f;exact⟨RcAt.none_tuple p c,RcNeAt.none_tuple p c,EqAt.none_tuple p c⟩
   | lst o=>obtain⟨a,k,rfl,p,_⟩:=f;exact⟨RcAt.none_list p c,RcNeAt.none_list p c,EqAt.none_list p c⟩
   | ref _=>exact f.elim
   | exc _ _=>exact f.elim
   | err _ _ _=>exact f.elim
  | bl x=>
   cases (show u= .bool x from m)
   cases e with
   | au=>cases (show v= .none from f);exact⟨RcAt.bool_none x,RcNeAt.bool_none x,EqAt.bool_none x⟩
   | bl b=>cases (show v= .bool b from f);exact⟨RcAt.bool_bool x b,RcNeAt.bool_bool x b,EqAt.bool_bool x b⟩
   | int i=>obtain⟨t,rfl⟩:=f;exact(dj.mk (RcAt.bool_int x i t) (RcNeAt.bool_int x i t) (EqAt.bool_int x i t)).of (by rw [me];rfl)
   | str z=>obtain⟨t,rfl⟩:=f;exact⟨RcAt.bool_str x _ t,RcNeAt.bool_str x _ t,EqAt.bool_str x _ t⟩
   | tup o=>obtain⟨a,k,rfl,p,_⟩:=f;exact⟨RcAt.bool_tuple x p c,RcNeAt.bool_tuple x p c,EqAt.bool_tuple x p c⟩
   | lst o=>obtain⟨a,k,rfl,p,_⟩:=f;exact⟨RcAt.bool_list x p c,RcNeAt.bool_list x p c,EqAt.bool_list x p c⟩
   | ref _=>exact f.elim
   | exc _ _=>exact f.elim
   | err _ _ _=>exact f.elim
  | int x=>
   obtain⟨g,rfl⟩:=m
   cases e with
   | au=>cases (show v= .none from f);exact⟨RcAt.int_none x g,RcNeAt.int_none x g,EqAt.int_none x g⟩
   | bl b=>cases (show v= .bool b from f);exact(dj.mk (RcAt.int_bool x g b) (RcNeAt.int_bool x g b) (EqAt.int_bool x g b)).of (by rw [me];rfl)
   | int i=>obtain⟨t,rfl⟩:=f;exact⟨RcAt.int_int x g i t,RcNeAt.int_int x g i t,EqAt.int_int x g i t⟩
   | str z=>obtain⟨t,rfl⟩:=f;exact⟨RcAt.int_str x g _ t,RcNeAt.int_str x g _ t,EqAt.int_str x g _ t⟩
   | tup o=>obtain⟨a,k,rfl,p,_⟩:=f;exact⟨RcAt.int_tuple x g p c,RcNeAt.int_tuple x g p c,EqAt.int_tuple x g p c⟩
   | lst o=>obtain⟨a,k,rfl,p,_⟩:=f;exact⟨RcAt.int_list x g p c,RcNeAt.int_list x g p c,EqAt.int_list x g p c⟩
   | ref _=>exact f.elim
   | exc _ _=>exact f.elim
   | err _ _ _=>exact f.elim
  | str x=>
   obtain⟨g,rfl⟩:=m
   cases e with
   | au=>cases (show v= .none from f);exact⟨RcAt.str_none _ g,RcNeAt.str_none _ g,EqAt.str_none _ g⟩
   | bl b=>cases (show v= .bool b from f);exact⟨RcAt.str_bool _ g b,RcNeAt.str_bool _ g b,EqAt.str_bool _ g b⟩
   | int i=>obtain⟨t,rfl⟩:=f;exact⟨RcAt.str_int _ g i t,RcNeAt.str_int _ g i t,EqAt.str_int _ g i t⟩
   | str z=>obtain⟨t,rfl⟩:=f;exact(dj.mk (RcAt.str_str _ g _ t) (RcNeAt.str_str _ g _ t) (EqAt.str_str _ g _ t)).of (by rw [vk];rfl)
   | tup o=>obtain⟨a,k,rfl,p,_⟩:=f;exact⟨RcAt.str_tuple _ g p c,RcNeAt.str_tuple _ g p c,EqAt.str_tuple _ g p c⟩
   | lst o=>obtain⟨a,k,rfl,p,_⟩:=f;exact⟨RcAt.str_list _ g p c,RcNeAt.str_list _ g p c,EqAt.str_list _ g p c⟩
   | ref _=>exact f.elim
   | exc _ _=>exact f.elim
   | err _ _ _=>exact f.elim
  | tup C=>simp only [M.dep]at B;omega
  | lst C=>simp only [M.dep]at B;omega
  | ref _=>exact m.elim
  | exc _ _=>exact m.elim
  | err _ _ _=>exact m.elim
 | succ n w=>
  intro d e A u v B N m f
  have c:A.units<cLine:=by omega
  cases d with
  | tup C=>
   obtain⟨l,y,rfl,h,H⟩:=m
   have r:M.GK C<=n:=by simp only [M.dep]at B;omega
   cases e with
   | au=>cases (show v= .none from f);exact⟨RcAt.tuple_none h c,RcNeAt.tuple_none h c,EqAt.tuple_none h c⟩
   | bl b=>cases (show v= .bool b from f);exact⟨RcAt.tuple_bool b h c,RcNeAt.tuple_bool b h c,EqAt.tuple_bool b h c⟩
   | int i=>obtain⟨t,rfl⟩:=f;exact⟨RcAt.tuple_int i t h c,RcNeAt.tuple_int i t h c,EqAt.tuple_int i t h c⟩
   | str z=>obtain⟨t,rfl⟩:=f;exact⟨RcAt.tuple_str _ t h c,RcNeAt.tuple_str _ t h c,EqAt.tuple_str _ t h c⟩
   | tup o=>
    obtain⟨a,k,rfl,p,q⟩:=f
    rw [M.b0]
    exact Hk h p H q c λj K I E G D L J F=>(w K I A.in1 E G (Ac (xC D) r) (by show A.units+1+n<cLine;omega) J F).eq
   | lst o=>obtain⟨a,k,rfl,p,_⟩:=f;exact⟨RcAt.tuple_list h p c,RcNeAt.tuple_list h p c,EqAt.tuple_list h p c⟩
   | ref _=>exact f.elim
   | exc _ _=>exact f.elim
   | err _ _ _=>exact f.elim
  | lst C=>
   obtain⟨l,y,rfl,h,H⟩:=m
   have r:M.GK C<=n:=by simp only [M.dep]at B;omega
   cases e with
   | au=>cases (show v= .none from f);exact⟨RcAt.list_none h c,RcNeAt.list_none h c,EqAt.list_none h c⟩
   | bl b=>cases (show v= .bool b from f);exact⟨RcAt.list_bool b h c,RcNeAt.list_bool b h c,EqAt.list_bool b h c⟩
   | int i=>obtain⟨t,rfl⟩:=f;exact⟨RcAt.list_int i t h c,RcNeAt.list_int i t h c,EqAt.list_int i t h c⟩
   | str z=>obtain⟨t,rfl⟩:=f;exact⟨RcAt.list_str _ t h c,RcNeAt.list_str _ t h c,EqAt.list_str _ t h c⟩
   | lst o=>
    obtain⟨a,k,rfl,p,q⟩:=f
    rw [M.b0]
    exact Ia h p H q c λj K I E G D L J F=>(w K I A.in1 E G (Ac (xC D) r) (by show A.units+1+n<cLine;omega) J F).eq
   | tup o=>obtain⟨a,k,rfl,p,_⟩:=f;exact⟨RcAt.list_tuple h p c,RcNeAt.list_tuple h p c,EqAt.list_tuple h p c⟩
   | ref _=>exact f.elim
   | exc _ _=>exact f.elim
   | err _ _ _=>exact f.elim
  | au=>exact w .au e A u v (by simp) (by omega) m f
  | bl x=>exact w _ e A u v (by simp) (by omega) m f
  | int x=>exact w _ e A u v (by simp) (by omega) m f
  | str x=>exact w _ e A u v (by simp) (by omega) m f
  | ref _=>exact m.elim
  | exc _ _=>exact m.elim
  | err _ _ _=>exact m.elim
end
def aB (a:Ge) (E:XK) (G:Gh) (H:Hp) (r:M.R M.W) (Q:VK):Prop:=ax a E G H r λw _ G' H'=> ∀v,ar a G' H' w v->aF [] [] H w v->Q v H'
section
variable {X:Cx}{Γ:Ge}{G:Gh}{H:Hp}{h:M.AH}{y8:List (Addr×Obj)}{U:St}{s:Shared}{Q:VK}{E:XK}
theorem aB.v (p:aB Γ E G H (.ok (.v d) h) Q) (a:ai Γ G h H){v:V}(z:aC Γ G H d v):Q v H:=p G H Ext.refl a v z trivial
def ai.n9 (c:ai Γ G h H)(b:H a=u0): ¬G.fz a:=λq=>by
 obtain⟨o,z⟩:=c.live a q
 rw [b]at z;cases z
def ai.lG (c:ai Γ G h H)(b:H a=u0):dO G a:=λr hn e=>by
 obtain⟨o,q⟩:=c.there hn
 rw [e,b]at q;cases q
theorem aB.own (p:aB Γ E G H (.ok (.own xs) h) Q) (c:ai Γ G h H) (z:ae Γ G H xs vs) (a) (b:H a=u0):Q (.ref a) (aG H a (.lst vs)):=
 p G _ (wF _ b) (c.new _ b) _ ⟨a,vs,rfl,c.n9 b,c.lG b,wb,z.ext (wF _ b) c⟩ ⟨a,rfl,b⟩
theorem aB.tup (p:aB Γ E G H (.ok (.v (.tup xs)) h) Q) (c:ai Γ G h H) (z:ae Γ G H xs vs) (a) (b:H a=u0):Q (.ref a) (aG H a (.tup vs)):=
 p _ _ (jf _ b) (c.e7 _ b) _ ⟨a,vs,rfl,.inl ⟨.inr rfl,wb⟩,z.ext (jf _ b) c⟩ trivial
theorem aB.of (p:aB Γ E G H ((M.R.of h o).bind f) Q): ∃b,o=y0 b/\aB Γ E G H (f b h) Q:=ax.of p
def aB.mk (p:ax Γ E G0 H0 r λw _ G' H'=> ∀v,ar Γ G' H' w v->aF Y U H0 w v->Q v H') (e:Ext G0 H0 G H) (g:ai Γ G0 h0 H0):aB Γ E G H r Q:=by
 cases r with
 | ok w l=>
  refine λG' H' f b v k h=>p G' H' (e.trans g f) b v k ?_
  cases w with
  | v d=>trivial
  | own j=>obtain⟨a,c,m⟩:=h;exact⟨a,c,e.none g m⟩
  | bor j=>obtain⟨i,w,c,_⟩:=h;simp at c
 | exc d l=>exact λG' H' f b=>p G' H' (e.trans g f) b
 | fail=>exact p
theorem ar.lst (l:ai Γ G h H)(z:ar Γ G H w v) (e:w.bf h=y0 xs): ∃a i,v= .ref a/\aZ Γ.K H a i/\ae Γ G H xs i:=by
 cases w with
 | v d=>
  cases d with
  | lst j=>cases e;obtain⟨a,i,g,b,f⟩:=z;exact⟨a,i,g,b.sq,f⟩
  | ref r=>
   obtain⟨hn,g⟩:=z
   have e:(match h[r]? with | some (M.Cell.lst zs)=>y0 zs | _=>u0)=y0 xs:=e
   cases q:h[r]? with
   | none=>rw [q]at e;cases e
   | some c=>
    cases c with
    | lst j=>
     rw [q]at e
     cases e
     obtain⟨_,i,b,f⟩:=l.cell r _ q
     exact⟨_,i,g,aZ.of b,f⟩
    | gw k=>rw [q]at e;cases e
    | obj c fs=>rw [q]at e;cases e
    | bX k=>rw [q]at e;cases e
  | au=>cases e
  | bl _=>cases e
  | int _=>cases e
  | str _=>cases e
  | tup _=>cases e
  | exc _ _=>cases e
  | err _ _ _=>cases e
 | own j=>cases e;obtain⟨a,i,g,_,_,b,f⟩:=z;exact⟨a,i,g,aZ.of b,f⟩
 | bor j=>cases e;obtain⟨a,i,g,_,b,f⟩:=z;exact⟨a,i,g,.inl b,f⟩
theorem ar.o7 (l:ai Γ G h H)(z:ar Γ G H w v) (e:w.hH h=y0 xs): ∃a i,v= .ref a/\Rd H a (.lst i)/\ae Γ G H xs i:=by
 cases w with
 | v d=>
  cases d with
  | ref r=>
   obtain⟨hn,g⟩:=z
   have e:(match h[r]? with | some (M.Cell.lst zs)=>y0 zs | _=>u0)=y0 xs:=e
   cases q:h[r]? with
   | none=>rw [q]at e;cases e
   | some c=>
    cases c with
    | lst j=>
     rw [q]at e
     cases e
     obtain⟨_,i,b,f⟩:=l.cell r _ q
     exact⟨_,i,g,.inl b,f⟩
    | gw k=>rw [q]at e;cases e
    | obj c fs=>rw [q]at e;cases e
    | bX k=>rw [q]at e;cases e
  | _=>cases e
 | own j=>cases e;obtain⟨a,i,g,_,_,b,f⟩:=z;exact⟨a,i,g,.inl b,f⟩
 | bor j=>cases e;obtain⟨a,i,g,_,b,f⟩:=z;exact⟨a,i,g,b,f⟩
theorem ar.seq (k:ai Γ G h H)(z:ar Γ G H w v) (e:w.seq? h=y0 xs): ∃a i,v= .ref a/\(aZ Γ.K H a i\/bB Γ.K H a i)/\ae Γ G H xs i:=by
 have b:w.bf h=y0 xs-> ∃a i,v= .ref a/\(aZ Γ.K H a i\/bB Γ.K H a i)/\ae Γ G H xs i:=λe=>by
  obtain⟨a,i,j,c,f⟩:=z.lst k e
  exact⟨a,i,j,.inl c,f⟩
 cases w with
 | v d=>
  cases d with
  | tup g=>cases e;obtain⟨a,i,j,c,f⟩:=z;exact⟨a,i,j,.inr c.sq,f⟩
  | lst g=>exact b e
  | ref r=>exact b e
  | au=>cases e
  | bl _=>cases e
  | int _=>cases e
  | str _=>cases e
  | exc _ _=>cases e
  | err _ _ _=>cases e
 | own g=>exact b e
 | bor g=>exact b e
def Ib (I:Inv X y8 U H s)(r:Rd H a (.lst vs)):vs.length<=sizeLine/\ ∃ i n,Vals vs i/\vs.length=i.length/\s.heap.get? a=y0 { cls:= .type "list",data:= .seq i.toArray n }:=by
 obtain⟨z,i,n,r,e⟩:=r.ok I.aL
 exact⟨z,i,n,r,r.length,e⟩
def Jk:M.aY<=sizeLine:=by rw [M.Gi];decide
def Cm (K:Aa7):R2:=λx y H Q=> ∃l b xs zs,x= .ref l/\y= .ref b/\aZ K H l xs/\aZ K H b zs/\xs.length+zs.length<=sizeLine/\ ∀p,H p=u0->Q (.ref p) (aG H p (.lst (xs++zs)))
def C7:bG X (binaryOp .Add) (Cm X.K):=by
 intro k s U H x y v u Q I B C h
 obtain⟨l,b,K,M,rfl,rfl,D,hB,N,q⟩:=h
 cases B
 cases C
 obtain⟨c,r,E,_⟩:=I.list D
 obtain⟨a,m,z,_⟩:=I.list hB
 have L:=r.length
 have l2:=m.length
 have G:c.toArray++a.toArray=(c++a).toArray:=by simp
 obtain⟨⟨J,dd,t,sl⟩,p,F,n,w⟩:=id E.isList
 obtain⟨⟨o,e,j,f⟩,d,i,A,g⟩:=id z.isList
 subst F w i g
 refine concat_meets ⟨_,p,rfl⟩ ⟨_,d,rfl⟩ noFill_list_add seq_list_add PySem.F.slot_list_add PySem.F.entry_list_add (PySem.F.args_list_add_2 _ _) (list_addW l b c.toArray a.toArray n A dd e sl f (by simp_all)) ⟨p,d,?_⟩
 rw [G]
 exact⟨.ref _,_,I.kK (r.append m) (by simp_all),rfl,q _ I.fresh⟩
def Dc:R2:=λx y H Q=> ∃l k xs,x= .ref l/\y= .int k/\Rd H l (.lst xs)/\ -(2 ^ 63)<=k/\k<2 ^ 63/\xs.length*k.toNat<=sizeLine ∧
 ∀p,H p=u0->Q (.ref p) (aG H p (.lst (Aa9 k.toNat xs).flatten))
def Bj:bG X (binaryOp .Mult) Dc:=by
 intro j s U H x y v u Q I D E h
 obtain⟨l,k,L,rfl,rfl,G,A,w,o,q⟩:=h
 cases D
 obtain⟨t,rfl⟩:=E
 obtain⟨z,b,n,r,p,e⟩:=Ib I G
 have d:b.toArray.size*k.toNat<=sizeLine:=by rw [Aa8,←p];exact o
 have g: ¬b.toArray.size*k.toNat>(2 ^ 63-1) / 8:=by
  have: sizeLine<=(2 ^ 63-1) / 8:=by decide
  lia
 have i: ¬(!Builtin.List.listFitsIndex k)=true:=by
  rw [fitsIndex_both A w]
  exact Ab7
 have c: ¬Builtin.List.listTooLong (b.toArray.size*k.toNat)=true:=by
  rw [x8 d]
  exact Ab7
 have f:List.foldl (λC K=>C++K) #[] (Aa9 (if b.toArray.isEmpty=k9 then 0 else k.toNat) b.toArray)=(Aa9 k.toNat b).flatten.toArray:=by
  have B:=λm=>by
   have:=ZX b m []
   rw [Ag2]at this
   exact this
  rw [B]
  cases b with
  | nil=>simp
  | cons a M=>rw [if_neg (by simp)]
 refine wpAny_binaryOp_repeat_ref rfl ⟨_,e,rfl⟩ (λJ=>typeIs_int J k t) noFill_list_mul F.fills_int_mul F.slot_int_rmul repeat_list F.slot_int_index.lookup
  (call_meets F.slot_int_rmul (typeIs_int s k t) F.entry_int_rmul (F.args_int_rmul_2 _ _) (int___rmul___int_list k t l b.toArray n)
    ⟨e,rfl,⟨_,e,rfl⟩,call_meets F.slot_list_mul ⟨_,e,rfl⟩ F.entry_list_mul (F.args_list_mul_2 _ _) (AutoListH.list___mul___list_int_3 l b.toArray n k t i g c) ⟨e,?_⟩⟩)
 rw [f]
 exact⟨.ref _,_,I.kK (r.rep k.toNat) (by rw [EJ,Ai];exact o),rfl,q _ I.fresh⟩
theorem ae.rep (z:ae Γ G H ds vs): ∀k:Nat,ae Γ G H (Aa9 k ds).flatten (Aa9 k vs).flatten
 | 0=>rfl
 | k+1=>by
  exact z.append (ae.rep z k)
def xq (a b:Nat):Builtin.bitAnd (a:Int) (b:Int)=((a &&& b:Nat):Int):=by
 rfl
def BD (a:Nat) (j) (b: ¬0<=j):Builtin.bitAnd (a:Int) j=((a-(a &&& (-j-1).toNat):Nat):Int):=by
 have e:(Builtin.bitNot j).toNat=(-j-1).toNat:=by unfold Builtin.bitNot;lia
 unfold Builtin.bitAnd
 rw [decide_eq_true (Int.natCast_nonneg a),decide_eq_false b]
 show a-((a &&& (Builtin.bitNot j).toNat:Nat):Int)=_
 rw [e]
 have:= @Nat.and_le_left a (-j-1).toNat
 omega
def xF (a b:Nat):Builtin.bitOr (a:Int) (b:Int)=((a ||| b:Nat):Int):=by
 have e: ¬ 0<=Builtin.bitNot a:=by unfold Builtin.bitNot;lia
 have c: ¬ 0<=Builtin.bitNot b:=by unfold Builtin.bitNot;lia
 have d:(Builtin.bitNot (Builtin.bitNot a)).toNat=a:=by unfold Builtin.bitNot;lia
 have f:(Builtin.bitNot (Builtin.bitNot b)).toNat=b:=by unfold Builtin.bitNot;lia
 unfold Builtin.bitOr Builtin.bitAnd
 rw [decide_eq_false e,decide_eq_false c]
 show Builtin.bitNot (Builtin.bitNot _)=_
 rw [d,f]
 unfold Builtin.bitNot
 lia
def F7 (h:M.G6 i j=y0 k):Builtin.bitAnd i j=k:=by
 unfold M.G6 at h
 split at h
 ·rename_i d
  obtain⟨a,rfl⟩:=Ah5 d
  split at h
  ·rename_i c
   obtain⟨b,rfl⟩:=Ah5 c
   cases h
   exact xq a b
  ·rename_i c
   cases h
   exact BD a j c
 ·cases h
def A3 (h:M.kG i j=y0 k):Builtin.bitOr i j=k:=by
 unfold M.kG at h
 split at h
 ·rename_i c
  obtain⟨a,rfl⟩:=Ah5 c.1
  obtain⟨b,rfl⟩:=Ah5 c.2
  cases h
  exact xF a b
 ·cases h
noncomputable def ni:M.Op->Operator
 | .add=> .Add | .sub=> .Sub | .mul=> .Mult | .fdiv=> .FloorDiv | .mod=> .Mod | .pow=> .Pow | .shl=> .LShift | .shr=> .RShift | .band=> .BitAnd | .bor=> .BitOr | .bxor=> .BitXor
def Br (a:Ge) (E:XK) (o:M.Op):R2:=λx y H Q=> ∃G h c b,ai a G h H/\ar a G H c x/\ar a G H b y/\aB a E G H (M.GW o c b h) Q
def xr (s):(b6 s).length=s.length:=by
 show s.toArray.size=s.length
 simp
def mJ:M.Op->Bool
 | .bxor=>y9
 | _=>k9
def Ew (d:mJ o=k9)(e:M.Gp o i j=y0 k)(I:Inv X y8 U H s) (a:RelV (.int i) v) (b:RelV (.int j) u) (q:Q (.int k) H):
 wpAny (model X.prog X.w) X.A (binaryOp (ni o) v u) (EP X y8 U Q) X.xe s:=by
 cases o with
 | add=>cases e;exact Cr y8 s U H _ _ v u Q I a b ⟨i,j,rfl,rfl,q⟩
 | sub=>cases e;exact Mc y8 s U H _ _ v u Q I a b ⟨i,j,rfl,rfl,q⟩
 | mul=>
  simp only [M.Gp,M.G7,M.GB]at e
  split at e
  ·rename_i c;cases e;exact Hg y8 s U H _ _ v u Q I a b ⟨i,j,rfl,rfl,c,q⟩
  ·cases e
 | fdiv=>
  simp only [M.Gp,M.GE,M.GB]at e
  split at e
  ·rename_i c;cases e;exact yU y8 s U H _ _ v u Q I a b ⟨i,j,rfl,rfl,c,q⟩
  ·cases e
 | mod=>
  simp only [M.Gp,M.GB]at e
  split at e
  ·rename_i c;cases e;exact KH y8 s U H _ _ v u Q I a b ⟨i,j,rfl,rfl,c,q⟩
  ·cases e
 | pow=>
  simp only [M.Gp,M.GV,M.GB]at e
  split at e
  ·rename_i c;cases e;exact EK y8 s U H _ _ v u Q I a b ⟨i,j,rfl,rfl,c,q⟩
  ·cases e
 | shl=>
  simp only [M.Gp,M.GV,M.GB]at e
  split at e
  ·rename_i c;cases e;exact LX y8 s U H _ _ v u Q I a b ⟨i,j,rfl,rfl,c,q⟩
  ·cases e
 | shr=>
  simp only [M.Gp,M.GB]at e
  split at e
  ·rename_i c;cases e;exact D9 y8 s U H _ _ v u Q I a b ⟨i,j,rfl,rfl,c,q⟩
  ·cases e
 | band=>exact Im y8 s U H _ _ v u Q I a b ⟨i,j,rfl,rfl,by dsimp only;rw [F7 e];exact q⟩
 | bor=>exact D3 y8 s U H _ _ v u Q I a b ⟨i,j,rfl,rfl,by dsimp only;rw [A3 e];exact q⟩
 | bxor=>cases d
theorem ar.int (z:ar Γ G H w v) (e:w.int? =y0 i):v= .int i:=by
 cases w with
 | v d=>
  cases d with
  | int j=>cases e;exact z
  | _=>cases e
 | _=>cases e
theorem ar.str (z:ar Γ G H w v) (e:w.gE =y0 i):v= .str (b6 i):=by
 cases w with
 | v d=>
  cases d with
  | str j=>cases e;exact z
  | _=>cases e
 | _=>cases e
theorem ar.tup (z:ar Γ G H w v) (e:w.dG =y0 xs): ∃a i,v= .ref a/\fm Γ G H a i/\ae Γ G H xs i:=by
 cases w with
 | v d=>
  cases d with
  | tup j=>cases e;exact z
  | _=>cases e
 | _=>cases e
def IX (o) (O:mJ o=k9) (t:X.K=Γ.K):bG X (binaryOp (ni o)) (Br Γ E o):=by
 intro d s U H x y v u Q I w z ⟨G,h,P,S,g,K,F,p⟩
 have R:=Jk
 unfold M.GW at p
 split at p
 ·rename_i i j l q
  obtain⟨k,e,p⟩:=p.of
  cases K.int l
  cases F.int q
  exact Ew O e I w z (p.v g rfl)
 ·split at p
  · -- add
    unfold M.Ky at p
    ·split at p
     ·rename_i L N l q
      obtain⟨a,n,rfl,m,f⟩:=K.tup l
      obtain⟨b,D,rfl,B,r⟩:=F.tup q
      split at p
      ·rename_i c
       have J:=f.length
       have l2:=r.length
       by_cases ex:n= []
       ·subst ex
        have:L= []:=Ah6 J
        subst this
        exact Cq d s U H _ _ v u Q I w z ⟨a,b,D,rfl,rfl,t▸m.sq,t▸B.sq,p.v g ⟨b,D,rfl,B,r⟩⟩
       refine Bv d s U H _ _ v u Q I w z ⟨a,b,n,D,rfl,rfl,t▸m.sq,t▸B.sq,ex,by lia,λe=> ?_,λe C A=>p.tup g (f.append r) C A⟩
       ·subst e
        have:N= []:=Ah6 l2
        subst this
        rw [Ae4]at p
        exact p.v g ⟨a,n,rfl,m,f⟩
      ·exact p.elim
     ·split at p
      ·rename_i L N l q
       obtain⟨a,n,rfl,m,f⟩:=K.lst g l
       obtain⟨b,D,rfl,B,r⟩:=F.lst g q
       unfold M.Kz at p
       split at p
       ·have J:=f.length
        have l2:=r.length
        exact C7 d s U H _ _ v u Q I w z ⟨a,b,n,D,rfl,rfl,t▸m,t▸B,by lia,λC A=>p.own g (f.append r) C A⟩
       ·exact p.elim
      ·exact p.elim
  · -- mul
    unfold M.Kx at p
    split at p
    ·rename_i L j l q
     obtain⟨a,n,rfl,m,f⟩:=K.o7 g l
     cases F.int q
     unfold M.Kv at p
     split at p
     ·rename_i c
      have J:=f.length
      exact Bj d s U H _ _ v u Q I w z ⟨a,j,n,rfl,rfl,m,by lia,by lia,by rw [← J];lia,λC A=>p.own g (f.rep j.toNat) C A⟩
     ·exact p.elim
    ·exact p.elim
  ·exact p.elim
noncomputable def fu:M.Cp->CmpOp
 | .eq=> .Eq | .ne=> .NotEq | .lt=> .Lt | .le=> .LtE | .gt=> .Gt | .ge=> .GtE | .mem=> .In | .dE=> .NotIn | .nY=> .Is
def iB (a:Ge) (o:M.Cp):R2:=λx y H Q=> ∃G h d c b,ai a G h H/\ar a G H d x/\ar a G H c y/\M.Gw o d c h=y0 b/\Q (.bl b) H
def jI:M.Cp->Bool
 | .mem=>k9
 | .dE=>k9
 | _=>k9
def EV (e:M.Kt o i j=y0 b)(I:Inv X y8 U H s) (a:RelV (.int i) v) (c:RelV (.int j) u) (q:Q (.bl b) H):
 wpAny (model X.prog X.w) X.A (compareOp (fu o) v u) (EP X y8 U Q) X.xe s:=by
 cases o with
 | lt=>cases e;exact Lw y8 s U H _ _ v u Q I a c ⟨i,j,rfl,rfl,q⟩
 | le=>cases e;exact Cu y8 s U H _ _ v u Q I a c ⟨i,j,rfl,rfl,q⟩
 | gt=>cases e;exact Lh y8 s U H _ _ v u Q I a c ⟨i,j,rfl,rfl,q⟩
 | ge=>cases e;exact ER y8 s U H _ _ v u Q I a c ⟨i,j,rfl,rfl,q⟩
 | _=>cases e
def E2 (g:X.K=Γ.K)(m:a9 k X.A):bG X (compareOp .Eq) (iB Γ .eq):=by
 intro a s U H x y v u Q I j l ⟨G,h,o,p,b,d,n,i,e,q⟩
 simp only [M.Gw]at e
 split at e
 ·rename_i c
  cases e
  have f:=by simpa [M.GM]using c
  exact(oY 150 _ _ X.A v u (by lia) (by have:=m.un;lia) (n.rv I g d j f.1.1) (i.rv I g d l f.1.2)).rc _ _ _ _ ⟨.bl _,H,I,rfl,q⟩
 ·cases e
def LP (g:X.K=Γ.K)(m:a9 k X.A):bG X (compareOp .NotEq) (iB Γ .ne):=by
 intro a s U H x y v u Q I j l ⟨G,h,o,p,b,d,n,i,e,q⟩
 simp only [M.Gw]at e
 split at e
 ·rename_i c
  cases e
  have f:=by simpa [M.GM]using c
  exact(oY 150 _ _ X.A v u (by lia) (by have:=m.un;lia) (n.rv I g d j f.1.1) (i.rv I g d l f.1.2)).ne _ _ _ _ ⟨.bl _,H,I,rfl,q⟩
 ·cases e
end
def PE.imp (h:PE X e t) (k: ∀U H Q,t' U H Q->t U H Q):PE X e t':=λa s U H Q I q=>h a s U H Q I (k _ _ _ q)
def PT.imp (h:PT X e t) (k: ∀U H Q,t' U H Q->t U H Q):PT X e t':=λa s U H Q I q=>h a s U H Q I (k _ _ _ q)
def PA.imp (h:PA X e t) (k: ∀U H Q,t' U H Q->t U H Q):PA X e t':=λb a s U H Q I q=>h b a s U H Q I (k _ _ _ q)
section
variable {X:Cx}{Γ:Ge}{G:Gh}{H:Hp}{h:M.AH}{y8:List (Addr×Obj)}{U:St}{s:Shared}{Q:VK}{E:XK}
def bh.one (z:bh Γ G H [w] vs): ∃v,vs= [v]/\ar Γ G H w v:=by
 obtain⟨v,r,rfl,b,a⟩:=z
 cases (show r= []from a)
 exact⟨v,rfl,b⟩
def bh.two (z:bh Γ G H [w,w'] vs): ∃v i,vs= [v,i]/\ar Γ G H w v/\ar Γ G H w' i:=by
 obtain⟨v,r,rfl,c,a⟩:=z
 obtain⟨i,rfl,b⟩:=a.one
 exact⟨v,i,rfl,c,b⟩
def nA (a:Ge) (E:XK) (b:M.Bi):List V->Hp->VK->Prop:=λxs H Q=> ∃G h c,ai a G h H/\bh a G H c xs/\aB a E G H (M.cm b c h) Q
def l0 {K:Aa7}(h:aZ K H a vs\/bB K H a vs):aZ K H a vs\/bB K H a vs:=h
noncomputable def mj:M.Bi->Bool
 | .len=>k9 | .int=>k9 | .list=>k9 | .tuple=>k9 | .divmod=>k9 | .min=>k9 | .max=>k9 | .sum=>k9 | .all=>k9
 | _=>y9
noncomputable def yR:M.Bi->Value
 | .len=> .builtin "len" | .int=> .type "int" | .list=> .type "list" | .tuple=> .type "tuple" | .sum=> .builtin "sum" | .all=> .builtin "all" | .any=> .builtin "any"
 | .sorted=> .builtin "sorted" | .divmod=> .builtin "divmod" | .str=> .type "str" | .min=> .builtin "min" | .max=> .builtin "max" | .abs=> .builtin "abs"
def aB.of2 {f:α->β->M.AH->M.R M.W}(p:aB Γ E G H ((M.R.of h o).bind λa h=>(M.R.of h o').bind λb h=>f a b h) Q): ∃a b,o=y0 a/\o'=y0 b/\aB Γ E G H (f a b h) Q:=by
 obtain⟨a,e,p⟩:=p.of
 obtain⟨b,c,p⟩:=p.of
 exact⟨a,b,e,c,p⟩
theorem uN : ∀ {xs}{i}{bs},M.Km xs=y0 bs->ae Γ G H xs i->i=bs.map V.bl
 | [],_,_,e,z=>by cases e;exact z
 | x::xs,_,bs,e,⟨v,r,f,a,d⟩=>by
  subst f
  cases x with
  | bl b=>
   obtain⟨g,c,rfl⟩:=Af1.mp (e)
   cases (a)
   rw [uN c d];rfl
  | _=>cases e
theorem uS : ∀ {xs}{J}{n},M.Kr xs=y0 n->ae Γ G H xs J-> ∃j:List Int,J=j.map V.int/\n=fR j
 | [],_,_,e,z=>by cases e;exact⟨[],z,rfl⟩
 | x::xs,_,n,e,⟨v,r,f,d,g⟩=>by
  subst f
  cases x with
  | int i=>
   have e:=e
   obtain⟨k,b,rfl⟩:=Af1.mp e
   obtain⟨j,c,a⟩:=uS b g
   cases (d)
   exact⟨i::j,by rw [c];rfl,by rw [a];rfl⟩
  | _=>cases e
theorem Xf : ∀ {xs}{j}{i},M.GG xs=y0 i->ae Γ G H xs j->j=i.map V.int
 | [],_,_,e,z=>by cases e;exact z
 | x::xs,_,i,e,⟨v,r,f,a,d⟩=>by
  subst f
  cases x with
  | int b=>
   obtain⟨g,c,rfl⟩:=Af1.mp (e)
   cases (a)
   rw [Xf c d];rfl
  | _=>cases e
theorem w9 : ∀ {xs}{j}{i},M.GO xs=y0 i->ae Γ G H xs j->j=(i.map b6).map V.str
 | [],_,_,e,z=>by cases e;exact z
 | x::xs,_,i,e,⟨v,r,f,a,d⟩=>by
  subst f
  cases x with
  | str b=>
   obtain⟨g,c,rfl⟩:=Af1.mp (e)
   cases (show v= .str (b6 b)from a)
   rw [w9 c d];rfl
  | _=>cases e
def Il (i): ∀n:Int,Jz (λa b=>u9 (a>b)) i n=i.foldl (λa b=>if b>a then b else a) n:=by
 induction i with
 | nil=>intro n;rfl
 | cons m i c=>
  intro n
  show Jz _ i _=_
  rw [c,Ag3]
  simp only [decide_eq_true_eq]
def L1 (i): ∀n:Int,Jz (λa b=>u9 (a<b)) i n=i.foldl (λa b=>if b<a then b else a) n:=by
 induction i with
 | nil=>intro n;rfl
 | cons m i c=>
  intro n
  show Jz _ i _=_
  rw [c,Ag3]
  simp [decide_eq_true_eq]
def Eg (b) (C:mj b=k9) (A:X.K=Γ.K) (J:X.calm=k9):zm X (yR b) (nA Γ E b):=by
 intro f s U H Y u Q I r ⟨G,h,V,g,L,p⟩
 have hL:=Jk
 unfold M.cm at p
 split at p
 ·rename_i w
  obtain⟨v,rfl,z⟩:=L.one
  cases b with
  | len=>
   simp only [M.iz]at p
   split at p
   ·rename_i y e
    cases z.str e
    split at p
    ·exact xY f s U H _ u Q I r ⟨_,rfl,by rw [xr];lia,by rw [xr];exact p.v g rfl⟩
    ·exact p.elim
   ·obtain⟨F,e,p⟩:=p.of
    obtain⟨a,t,rfl,m,o⟩:=z.seq g e
    refine xW f s U H _ u Q I r ⟨a,t,rfl,A▸l0 m,?_⟩
    rw [← o.length]
    exact p.v g rfl
  | int=>
   simp [M.iz]at p
   split at p
   ·cases (z)
    exact xU f s U H _ u Q I r (.inl ⟨_,rfl,p.v g rfl⟩)
   ·rename_i k
    cases (z)
    refine xU f s U H _ u Q I r (.inr ⟨_,rfl,?_⟩)
    have:=p.v g rfl
    cases k<;>exact this
   ·exact p.elim
  | list=>
   obtain⟨F,e,p⟩:=p.of
   obtain⟨a,t,rfl,m,o⟩:=z.seq g e
   exact qW f s U H _ u Q I r ⟨a,t,rfl,A▸l0 m,λl x=>p.own g o l x⟩
  | tuple=>
   obtain⟨F,e,K⟩:=p.of
   clear p
   cases w with
   | v d=>
    cases d with
    | tup N=>
     cases e
     obtain⟨a,t,rfl,m,o⟩:=z
     exact Qf f s U H _ u Q I r ⟨a,t,rfl,.inr ⟨A▸m.sq,K.v g ⟨a,t,rfl,m,o⟩⟩⟩
    | lst N=>
     obtain⟨a,t,rfl,m,o⟩:=ar.lst g z e
     exact Qf f s U H _ u Q I r ⟨a,t,rfl,.inl ⟨A▸m,λl x=>K.tup g o l x⟩⟩
    | ref q=>
     obtain⟨a,t,rfl,m,o⟩:=ar.lst g z e
     exact Qf f s U H _ u Q I r ⟨a,t,rfl,.inl ⟨A▸m,λl x=>K.tup g o l x⟩⟩
    | au=>cases e
    | bl _=>cases e
    | int _=>cases e
    | str _=>cases e
    | exc _ _=>cases e
    | err _ _ _=>cases e
   | own N=>
    obtain⟨a,t,rfl,m,o⟩:=ar.lst g z e
    exact Qf f s U H _ u Q I r ⟨a,t,rfl,.inl ⟨A▸m,λl x=>K.tup g o l x⟩⟩
   | bor N=>
    obtain⟨a,t,rfl,m,o⟩:=ar.lst g z e
    exact Qf f s U H _ u Q I r ⟨a,t,rfl,.inl ⟨A▸m,λl x=>K.tup g o l x⟩⟩
  | divmod=>exact p.elim
  | min=>
   simp only [M.iz]at p
   obtain⟨n,e,p⟩:=p.of
   obtain⟨is,D,B⟩:=Ac9.mp e
   obtain⟨F,O,P⟩:=Ac9.mp D
   obtain⟨a,t,rfl,m,o⟩:=ar.lst g z O
   cases Xf P o
   cases is with
   | nil=>cases B
   | cons i is=>
    cases B
    refine FL J f s U H _ u Q I r ⟨a,i,is,rfl,A▸m,?_⟩
    rw [L1]
    exact p.v g rfl
  | max=>
   simp [M.iz]at p
   obtain⟨n,e,p⟩:=p.of
   obtain⟨is,D,B⟩:=Ac9.mp e
   obtain⟨F,O,P⟩:=Ac9.mp D
   obtain⟨a,t,rfl,m,o⟩:=ar.lst g z O
   cases Xf P o
   cases is with
   | nil=>cases B
   | cons i is=>
    cases B
    refine Ck J f s U H _ u Q I r ⟨a,i,is,rfl,A▸m,?_⟩
    rw [Il]
    exact p.v g rfl
  | sum=>
   simp [M.iz]at p
   obtain⟨n,e,p⟩:=p.of
   obtain⟨F,D,B⟩:=Ac9.mp e
   split at B
   rotate_left
   ·cases B
   obtain⟨a,t,rfl,m,o⟩:=ar.lst g z D
   obtain⟨S,rfl,rfl⟩:=uS B o
   exact Bm J f s U H _ u Q I r ⟨a,S,rfl,A▸m,p.v g rfl⟩
  | all=>
   simp [M.iz]at p
   obtain⟨bs,e,p⟩:=p.of
   obtain⟨F,D,B⟩:=Ac9.mp e
   obtain⟨a,t,rfl,m,o⟩:=ar.lst g z D
   cases uN B o
   exact IW J f s U H _ u Q I r ⟨a,bs,rfl,A▸m,p.v g rfl⟩
  | any=>cases C
  | sorted=>cases C
  | str=>cases C
  | abs=>cases C
 ·rename_i w W
  obtain⟨v,Z,rfl,z,R⟩:=L.two
  obtain⟨i,j,e,T,p⟩:=p.of2
  cases z.int e
  cases R.int T
  cases b with
  | divmod=>
   simp [M.uH,M.GE]at p
   split at p
   ·rename_i c
    exact X2 f s U H _ u Q I r ⟨i,j,rfl,c,λl x=>p.tup g ⟨_,_,rfl,rfl,_,_,rfl,rfl,rfl⟩ l x⟩
   ·exact p.elim
  | min=>exact E5 J f s U H _ u Q I r ⟨i,j,rfl,p.v g rfl⟩
  | max=>exact Mq J f s U H _ u Q I r ⟨i,j,rfl,p.v g rfl⟩
  | len=>exact p.elim
  | int=>exact p.elim
  | list=>exact p.elim
  | tuple=>exact p.elim
  | sum=>exact p.elim
  | all=>exact p.elim
  | any=>cases C
  | sorted=>cases C
  | str=>cases C
  | abs=>cases C
 ·exact p.elim
noncomputable def fK:M.Ty->String
 | .au=> "NoneType" | .bool=> "bool" | .int=> "int" | .str=> "str" | .list=> "list" | .tuple=> "tuple"
def qy (K): ∀ u t,t≠ .au->Am0 K (.type (fK u)) (.type (fK t))=y0 (M.Ty.le u t):=by
 intro u t a
 cases u<;>cases t<;>first | exact absurd rfl a | kernel_rfl
def Ao (a:Ge):List V->Hp->VK->Prop:=λxs H Q=> ∃G h w x t b,xs= [x,.ty (fK t)]/\t≠ .au/\ai a G h H/\ar a G H w x/\M.dQ t w=y0 b/\Q (.bl b) H
def Fu (E:X.K=Γ.K):zm X (.builtin "isinstance") (Ao Γ):=by
 intro k s U H P T Q I r ⟨G,h,w,x,t,b,F,j,R,z,e,q⟩
 subst F
 obtain⟨u,O,rfl,g,J⟩:=w4 r
 cases J
 have fin: ∀C,EP X k U Q _ { s with toks:=C }:=λC=>⟨.bl b,H,I.tok C,rfl,q⟩
 have lst: ∀ {a}{m},x= .ref a->Rd H a (.lst m)->M.Ty.le .list t=b->wpAny (model X.prog X.w) X.A (call (.builtin "isinstance") [u,.type (fK t)]) (EP X k U Q) X.xe s:=by
  intro a m ex rd K
  subst ex K
  obtain rd | ⟨o,rd⟩:=rd
  ·exact zj I g (.lst rd) (qy _ .list t j) fin
  ·exact zj I g (.dP rd) (qy _ .list t j) fin
 cases w with
 | v d=>
  cases d with
  | au=>cases e;cases (z);exact zj I g .au (qy _ .au t j) fin
  | bl c=>cases e;cases (z);exact zj I g (.bl c) (qy _ .bool t j) fin
  | int i=>cases e;cases (z);exact zj I g (.int i) (qy _ .int t j) fin
  | str y=>cases e;cases (z);exact zj I g (.str _) (qy _ .str t j) fin
  | tup B=>
   cases e
   obtain⟨a,m,rfl,f,L⟩:=z
   obtain⟨_,f⟩ | ⟨o,p,n,D,A,N,_⟩:=f
   ·exact zj I g (.tup f) (qy _ .tuple t j) fin
   ·cases g
    exact Ad9 PySem.W.kitx_tuple I.bH ⟨o,I.bH a o (E▸D),A⟩ (qy _ .tuple t j) (λz=>nomatch z) fin
  | lst B=>
   cases e
   obtain⟨a,m,l,f,L⟩:=z
   obtain f | ⟨o,p,n,D,A,N,_⟩:=f
   ·exact lst l f.2 rfl
   ·subst l
    cases g
    exact Ad9 Am7 I.bH ⟨o,I.bH a o (E▸D),A⟩ (qy _ .list t j) (λz=>nomatch z) fin
  | ref S=>cases e
  | exc c fs=>cases e
  | err _ _ _=>cases e
 | own B=>cases e;obtain⟨a,m,l,_,_,f,_⟩:=z;exact lst l (.inl f) rfl
 | bor B=>cases e;obtain⟨a,m,l,_,f,_⟩:=z;exact lst l f rfl
def X9 (m:X.K=Γ.K) (o:ai Γ G h H)(z:ar Γ G H w x) (e:M.GU h w=y0 b):iO X.K x H b:=by
 have lst: ∀ {a}{f}{g},x= .ref a->aZ X.K H a f->ae Γ G H g f->(!g.isEmpty)=b->iO X.K x H b:=by
  intro a f g ex rd l n
  subst ex n
  refine .inl ⟨f,rd,?_⟩
  cases g with
  | nil=>cases (show f= []from l);rfl
  | cons _ _=>obtain⟨_,_,rfl,_⟩:=l;rfl
 cases w with
 | v d=>
  cases d with
  | au=>cases e;cases (z);exact rfl
  | bl _=>cases e;cases (z);exact rfl
  | int _=>cases e;cases (z);exact rfl
  | str y=>
   cases (z)
   have e:(if y.length<=M.aY then y0 (!y.isEmpty)else u0)=y0 b:=e
   split at e
   ·rename_i c
    cases e
    refine⟨by rw [xr];have:=Jk;lia,?_⟩
    rw [xr]
    cases y with
    | nil=>rfl
    | cons a r=>
     have:((((a::r).length:Nat):Int) != 0)=true:=by
      rw [Ab8,bne_iff_ne];lia
     rw [this];rfl
   ·cases e
  | tup g=>
   cases e
   obtain⟨a,f,rfl,i,l⟩:=z
   refine .inr (.inl ⟨f,m▸i.sq,?_⟩)
   cases g with
   | nil=>cases (show f= []from l);rfl
   | cons _ _=>obtain⟨_,_,rfl,_⟩:=l;rfl
  | lst g=>cases e;obtain⟨a,f,j,i,k⟩:=z;exact lst j (m▸i.sq) k rfl
  | ref p=>cases e
  | exc c fs=>cases e
  | err _ _ _=>cases e
 | own g=>cases e;obtain⟨a,f,j,_,_,i,k⟩:=z;exact lst j (aZ.of i) k rfl
 | bor g=>cases e;obtain⟨a,f,j,_,i,k⟩:=z;exact lst j (.inl i) k rfl
end
abbrev qf (x:String):Str:=Str.ofString x
example:("len" :Str)=qf "len" :=rfl
structure fV where
 fl:List (String×String)
 mt:List (String×String×String)
 fQ:List (String×String)
 ms:List String
 er:List (String×String)
structure Cf where
 sc:Scope
 N:List Str
 fns:List String
 own:List String
 cD:List String
 cq:List String
 ob:fV
noncomputable def X1 (a:Scope) (x:Str):Bool:=match a.names.lookup x with
 | some .local=>k9
 | some .cell=>k9
 | some .free=>k9
 | _=>y9
def iy (a:Scope) (x:Str):Bool:=match a.names.lookup x with
 | some .globalImplicit=>k9
 | _=>y9
def iN (a:Scope) (x:Str):Bool:=match a.names.lookup x with
 | some .local=>k9
 | some .cell=>k9
 | _=>y9
def ck (x:Str):Bool:= !(x==("__debug__" :Str))&& !(x==("__classdict__" :Str))
noncomputable def l4:M.Bi->String
 | .len=> "len" | .int=> "int" | .list=> "list" | .tuple=> "tuple" | .sum=> "sum" | .all=> "all" | .any=> "any" | .sorted=> "sorted" | .divmod=> "divmod" | .str=> "str" | .min=> "min" | .max=> "max" | .abs=> "abs"
noncomputable def bQ:List String:= ["len", "int", "list", "tuple", "sum", "all", "any", "sorted", "divmod", "str", "min", "max", "abs", "isinstance", "bool", "range", "reversed", "zip", "enumerate", "set", "ValueError"]
def nH:Expr->Str->Bool
 | .Name y _,x=>y==x
 | _,_=>y9
def br (a:Scope) (x:String) (e:Expr):Bool:=nH e (qf x)&&iy a (qf x)&&ck (qf x)
def tu:M.Mt->String
 | .index=> "index" | .count=> "count" | .bZ=> "index"
def rz:M.Mt->Bool
 | .index=>k9 | .count=>k9 | .bZ=>k9
def pC:Expr->Bool
 | .Call _ [] _ _=>y9
 | _=>k9
noncomputable def WF (cf:Cf):List String->List Expr->Bool
 | [],[]=>k9
 | t::ts,e::es=>br cf.sc t e&&cf.own.contains t&&WF cf ts es
 | _,_=>y9
def mS:Expr->Bool
 | .UnaryOp .USub (.Constant (.int 1) _ _) _=>k9
 | _=>y9
noncomputable def Zo (cf:Cf):List Nat->List Expr->Bool
 | [],[]=>k9
 | i::is,.Name x _::es=>u9 (cf.N[i]? =y0 x)&&iN cf.sc x&&Zo cf is es
 | _,_=>y9
def Ze (cf:Cf) (a:List Nat) (one:Bool) (e:Expr):Bool:=match one,e with
 | true,.Name x p=>(match a with | [_]=>k9 | _=>y9)&&Zo cf a [.Name x p]
 | false,.Tuple es _ _=>Zo cf a es
 | _,_=>y9
def Ja:Expr->Bool
 | .Starred .. =>y9
 | _=>k9
def qh:Expr->Bool
 | .Slice .. =>y9
 | _=>k9
def Qe:Expr->Bool
 | .Set .. =>y9
 | _=>k9
noncomputable def qG (cf:Cf):List Nat->List Str->Bool
 | [],[]=>k9
 | j::a,x::xs=>u9 (cf.N[j]? =y0 x)&&u9 (cf.sc.names.lookup x=y0 .cell\/cf.sc.names.lookup x=y0 .free)&&qG cf a xs
 | _,_=>y9
def X4 (cf:Cf) (a:Scope) (N:List Str) (k:Nat) (az:List Nat):Bool:=
 u9 (a.kind= .function)&&u9 (a.names.map Prod.fst).Nodup&&a.names.all (λy=>u9 (y.2= .local->a.names.lookup y.1=y0 .local))&&
 a.names.all (λy=>u9 (y.2= .free->cf.sc.names.lookup y.1=y0 .cell\/cf.sc.names.lookup y.1=y0 .free))&&(N.drop k).all (λx=>u9 (a.names.lookup x=y0 .free))&&
 qG cf az (N.drop k)&&u9 (k<=N.length)&&decide N.Nodup&&decide az.Nodup
def BZ:Expr->List Str
 | .Name x _=> [x]
 | .Tuple es _ _=>es.filterMap λ| .Name x _=>y0 x | _=>u0
 | _=> []
def zx (cf:Cf) (t:Expr) (az:List Nat):List Str:=BZ t++az.filterMap λj=>cf.N[j]?
def eN:M.E->Bool
 | .share _=>y9
 | .not a=>eN a
 | .and a b=>eN a&&eN b
 | .or a b=>eN a&&eN b
 | _=>k9
def mM (neg:Bool):CmpOp:=if neg then .NotIn else .In
def bF {P:Prop}(h:y9=k9):P:=nomatch h
set_option backward.match.sparseCases false
def lC {a:Type}(l:List a) (f:a->List a->Bool):Bool:=match l with
 | x::r=>f x r
 | _=>y9
def oS {a:Type}(l:Option a) (f:a->Bool):Bool:=match l with
 | some x=>f x
 | _=>y9
@[elab_as_elim] theorem kC {P:List α->Prop}(k: ∀x r,f x r=k9->P (x::r)): ∀l,lC l f=k9->P l:=by rintro (_|_)<;>first | exact bF | exact k _ _
@[elab_as_elim] theorem kS {P:Option α->Prop}(k: ∀x,f x=k9->P (y0 x)): ∀l,oS l f=k9->P l:=by rintro (_|_)<;>first | exact bF | exact k _
def Xo (e:Expr) (f:Str->Bool):Bool:=match e with
 | .Name x _=>f x
 | _=>y9
@[elab_as_elim] theorem Wq {P:Expr->Prop}(k: ∀x p,f x=k9->P (.Name x p)): ∀e,Xo e f=k9->P e:=by rintro (_|_)<;>first | exact bF | exact k _ _
def qL (e:Expr) (f:Const->Bool):Bool:=match e with
 | .Constant x _ _=>f x
 | _=>y9
@[elab_as_elim] theorem jX {P:Expr->Prop}(k: ∀x n p,f x=k9->P (.Constant x n p)): ∀e,qL e f=k9->P e:=by rintro (_|_)<;>first | exact bF | exact k _ _ _
def ll (e:Expr) (f:List Expr->Bool):Bool:=match e with
 | .Tuple x _ _=>f x
 | _=>y9
@[elab_as_elim] theorem l3 {P:Expr->Prop}(k: ∀x n p,f x=k9->P (.Tuple x n p)): ∀e,ll e f=k9->P e:=by rintro (_|_)<;>first | exact bF | exact k _ _ _
def uJ (e:Expr) (f:List Expr->Bool):Bool:=match e with
 | .List x _=>f x
 | _=>y9
@[elab_as_elim] theorem LZ {P:Expr->Prop}(k: ∀x p,f x=k9->P (.List x p)): ∀e,uJ e f=k9->P e:=by rintro (_|_)<;>first | exact bF | exact k _ _
def yA (e:Expr) (f:Expr->Operator->Expr->Bool):Bool:=match e with
 | .BinOp x o y _=>f x o y
 | _=>y9
@[elab_as_elim] theorem Hh {P:Expr->Prop}(k: ∀x o y p,f x o y=k9->P (.BinOp x o y p)): ∀e,yA e f=k9->P e:=by rintro (_|_)<;>first | exact bF | exact k _ _ _ _
def km (e:Expr) (f:Expr->List CmpOp->List Expr->Bool):Bool:=match e with
 | .Compare x o y _=>f x o y
 | _=>y9
@[elab_as_elim] theorem kN {P:Expr->Prop}(k: ∀x o y p,f x o y=k9->P (.Compare x o y p)): ∀e,km e f=k9->P e:=by rintro (_|_)<;>first | exact bF | exact k _ _ _ _
def l7 (e:Expr) (f:UnaryOp->Expr->Bool):Bool:=match e with
 | .UnaryOp o x _=>f o x
 | _=>y9
@[elab_as_elim] theorem pB {P:Expr->Prop}(k: ∀o x p,f o x=k9->P (.UnaryOp o x p)): ∀e,l7 e f=k9->P e:=by rintro (_|_)<;>first | exact bF | exact k _ _ _
def nU (e:Expr) (f:BoolOp->List Expr->Pos->Bool):Bool:=match e with
 | .BoolOp o x p=>f o x p
 | _=>y9
@[elab_as_elim] theorem t8 {P:Expr->Prop}(k: ∀o x p,f o x p=k9->P (.BoolOp o x p)): ∀e,nU e f=k9->P e:=by rintro (_|_)<;>first | exact bF | exact k _ _ _
def qk (e:Expr) (f:Expr->List Expr->List Keyword->Pos->Bool):Bool:=match e with
 | .Call g x l p=>f g x l p
 | _=>y9
@[elab_as_elim] theorem zi {P:Expr->Prop}(k: ∀g x l p,f g x l p=k9->P (.Call g x l p)): ∀e,qk e f=k9->P e:=by rintro (_|_)<;>first | exact bF | exact k _ _ _ _
def hG (e:Expr) (f:Expr->Expr->Bool):Bool:=match e with
 | .Subscript x y _=>f x y
 | _=>y9
@[elab_as_elim] theorem iP {P:Expr->Prop}(k: ∀x y p,f x y=k9->P (.Subscript x y p)): ∀e,hG e f=k9->P e:=by rintro (_|_)<;>first | exact bF | exact k _ _ _
def lr (e:Expr) (f:Option Expr->Option Expr->Option Expr->Bool):Bool:=match e with
 | .Slice x y z _=>f x y z
 | _=>y9
@[elab_as_elim] theorem mu {P:Expr->Prop}(k: ∀x y z p,f x y z=k9->P (.Slice x y z p)): ∀e,lr e f=k9->P e:=by rintro (_|_)<;>first | exact bF | exact k _ _ _ _
def sS (e:Expr) (f:Expr->List Comprehension->Scope->Bool):Bool:=match e with
 | .ListComp y g s _=>f y g s
 | _=>y9
@[elab_as_elim] theorem sV {P:Expr->Prop}(k: ∀y g s p,f y g s=k9->P (.ListComp y g s p)): ∀e,sS e f=k9->P e:=by rintro (_|_)<;>first | exact bF | exact k _ _ _ _
def lN (e:Expr) (f:Expr->Str->Pos->Bool):Bool:=match e with
 | .Attribute x n p=>f x n p
 | _=>y9
@[elab_as_elim] theorem mW {P:Expr->Prop}(k: ∀x n p,f x n p=k9->P (.Attribute x n p)): ∀e,lN e f=k9->P e:=by rintro (_|_)<;>first | exact bF | exact k _ _ _
def rr (e:Expr) (f:List (Option Expr)->List Expr->Bool):Bool:=match e with
 | .Dict x y _=>f x y
 | _=>y9
@[elab_as_elim] theorem IL {P:Expr->Prop}(k: ∀x y p,f x y=k9->P (.Dict x y p)): ∀e,rr e f=k9->P e:=by rintro (_|_)<;>first | exact bF | exact k _ _ _
def fb (e:Stmt) (f:List Expr->Expr->Bool):Bool:=match e with
 | .Assign t v _=>f t v
 | _=>y9
@[elab_as_elim] theorem fF {P:Stmt->Prop}(k: ∀t v p,f t v=k9->P (.Assign t v p)): ∀e,fb e f=k9->P e:=by rintro (_|_)<;>first | exact bF | exact k _ _ _
def kP (e:Stmt) (f:Expr->Bool):Bool:=match e with
 | .Expr v _=>f v
 | _=>y9
@[elab_as_elim] theorem m3 {P:Stmt->Prop}(k: ∀v p,f v=k9->P (.Expr v p)): ∀e,kP e f=k9->P e:=by rintro (_|_)<;>first | exact bF | exact k _ _
def rl (e:Stmt) (f:Option Expr->Bool):Bool:=match e with
 | .Return v _=>f v
 | _=>y9
@[elab_as_elim] theorem FZ {P:Stmt->Prop}(k: ∀v p,f v=k9->P (.Return v p)): ∀e,rl e f=k9->P e:=by rintro (_|_)<;>first | exact bF | exact k _ _
def oi (e:Stmt) (f:Expr->List Stmt->List Stmt->Bool):Bool:=match e with
 | .If x y z _=>f x y z
 | _=>y9
@[elab_as_elim] theorem yM {P:Stmt->Prop}(k: ∀x y z p,f x y z=k9->P (.If x y z p)): ∀e,oi e f=k9->P e:=by rintro (_|_)<;>first | exact bF | exact k _ _ _ _
def rW (e:Stmt) (f:Expr->List Stmt->List Stmt->Bool):Bool:=match e with
 | .While x y z _=>f x y z
 | _=>y9
@[elab_as_elim] theorem y6 {P:Stmt->Prop}(k: ∀x y z p,f x y z=k9->P (.While x y z p)): ∀e,rW e f=k9->P e:=by rintro (_|_)<;>first | exact bF | exact k _ _ _ _
def vr (e:Stmt) (f:Expr->Expr->List Stmt->List Stmt->Bool):Bool:=match e with
 | .For t i y z _=>f t i y z
 | _=>y9
@[elab_as_elim] theorem CQ {P:Stmt->Prop}(k: ∀t i y z p,f t i y z=k9->P (.For t i y z p)): ∀e,vr e f=k9->P e:=by rintro (_|_)<;>first | exact bF | exact k _ _ _ _ _
def oX (e:Stmt) (f:Option Expr->Option Expr->Bool):Bool:=match e with
 | .Raise x y _=>f x y
 | _=>y9
@[elab_as_elim] theorem yj {P:Stmt->Prop}(k: ∀x y p,f x y=k9->P (.Raise x y p)): ∀e,oX e f=k9->P e:=by rintro (_|_)<;>first | exact bF | exact k _ _ _
set_option backward.match.sparseCases true
def vB (cf:Cf) (i:Nat) (x:Str):Bool:=u9 (cf.N[i]? =y0 x)&&X1 cf.sc x&&ck x
def kZ {a:Type}(l:List a) (b:Bool):Bool:=l.isEmpty&&b
noncomputable def yJ (e:Stmt) (f:List Stmt->List ExceptHandler->Bool):Bool:=match e with
 | .Try a b c d _=>kZ c (kZ d (f a b))
 | _=>y9
noncomputable def rf (e:ExceptHandler) (f:Option Expr->Option Str->List Stmt->Bool):Bool:=match e with
 | .ExceptHandler a b c _=>f a b c
mutual
noncomputable def jc (cf:Cf):M.E->Expr->Bool
 | .var i,e=>Xo e (vB cf i)
 | .con c,e=>br cf.sc c e
 | .int i,e=>qL e λj=>u9 (j= .int i)
 | .bl i,e=>qL e λj=>u9 (j= .bool i)
 | .au,e=>qL e λj=>u9 (j= .none)
 | .str i,e=>qL e λj=>u9 (j= .str (b6 i))
 | .tup es,e=>ll e λxs=>u9 (xs.length<=1000)&&a8 cf es xs
 | .lst es,e=>uJ e λxs=>u9 (xs.length<=1000)&&a8 cf es xs
 | .bin o a b,e=>yA e λx p y=>u9 (p=ni o)&&mJ o&&jc cf a x&&jc cf b y
 | .cmp o a b,e=>km e λx p y=>lC y λy r=>u9 (p= [fu o]/\r= [])&&jI o&&Qe y&&jc cf a x&&jc cf b y
 | .chain o q a b c,e=>km e λx p y=>lC y λy r=>lC r λz r=>u9 (p= [fu o,fu q]/\r= [])&&jI o&&jI q&&Qe z&&jc cf a x&&jc cf b y&&jc cf c z
 | .dS neg a,e=>km e λx p y=>lC y λy r=>qL y λj=>u9 (p= [if neg then .IsNot else .Is]/\r= [])&&u9 (j= .none)&&jc cf a x
 | .neg a,e=>l7 e λo x=>u9 (o= .USub)&&jc cf a x
 | .inv a,e=>l7 e λo x=>u9 (o= .Invert)&&jc cf a x
 | .not a,e=>l7 e λo x=>u9 (o= .Not)&&jc cf a x
 | .and a b,e=>nU e λo x p=>lC x λx r=>lC r λy r=>u9 (o= .And)&&jc cf a x&&bif r.isEmpty then jc cf b y else jc cf b (.BoolOp .And (y::r) p)
 | .or a b,e=>nU e λo x p=>lC x λx r=>lC r λy r=>u9 (o= .Or)&&jc cf a x&&bif r.isEmpty then jc cf b y else jc cf b (.BoolOp .Or (y::r) p)
 | .call f es,e=>qk e λg xs l _=>kZ l (br cf.sc f g&&cf.fns.contains f&&a8 cf es xs)
 | .bi b es,e=>qk e λg xs l _=>kZ l (lC xs λx r=>br cf.sc (l4 b) g&&mj b&&a8 cf es (x::r))
 | .dQ a t,e=>qk e λg xs l _=>kZ l (lC xs λx r=>lC r λy r=>kZ r (br cf.sc "isinstance" g&&br cf.sc (fK t) y&&decide (t≠ .au)&&Ja x&&jc cf a x))
 | .bV a one ts,e=>qk e fun g xs l _=>kZ l (lC xs fun x r=>lC r fun y r=>kZ r (br cf.sc "isinstance" g&&Ja x&&jc cf a x&&bif one then(lC ts fun t r=>kZ r (br cf.sc t y&&(decide (t= "ValueError")||cf.own.contains t)))else(ll y fun zs=>decide (zs.length<=1000)&&WF cf ts zs)))
 | .ix a b,e=>hG e λx y=>qh y&&jc cf a x&&jc cf b y
 | .sl a lo hi,e=>hG e λx y=>lr y λl u z=>oS l λl=>oS u λu=>z.isNone&&jc cf a x&&jc cf lo l&&jc cf hi u
 | .fN a lo,e=>hG e λx y=>lr y λl u z=>oS l λl=>u.isNone&&z.isNone&&jc cf a x&&jc cf lo l
 | .gW a hi,e=>hG e λx y=>lr y λl u z=>oS u λu=>l.isNone&&z.isNone&&jc cf a x&&jc cf hi u
 | .rev a,e=>hG e λx y=>lr y λl u z=>oS z λz=>l.isNone&&u.isNone&&mS z&&jc cf a x
 | .comp tg one k az it k6 c elt,e=>sS e λy g scope=>lC g λg r=>
  u9 (g.is_async=0/\r= [])&&X4 cf scope (zx cf g.target az) k az&&tg.all (λi=>u9 (i<k))&&Ze { cf with sc:=scope,N:=zx cf g.target az } tg one g.target&&cN cf it g.iter&&jc { cf with sc:=scope,N:=zx cf g.target az } elt y&&
   bif k6 then(lC g.ifs λz r=>kZ r (eN c&&jc { cf with sc:=scope,N:=zx cf g.target az } c z))else g.ifs.isEmpty
 | .dc,e=>rr e λx y=>x.isEmpty&&y.isEmpty
 | .cI neg a i,e=>km e λx p y=>lC y λy r=>Xo y λy=>u9 (p= [mM neg]/\r= [])&&vB cf i y&&jc cf a x
 | .share a,e=>jc cf a e
 | .cy a,e=>qk e λg xs l _=>kZ l (lC xs λx r=>kZ r (qk x λg2 xs l _=>kZ l (lC xs λx r=>kZ r (br cf.sc "len" g&&br cf.sc "set" g2&&Ja x&&jc cf a x))))
 | .ia a b,e=>km e λx p y=>lC y λy r=>u9 (p= [.Lt]/\r= [])&&Qe y&&jc cf a x&&jc cf b y
 | .cZ m a es,e=>qk e λg xs l q=>kZ l (lC xs λx r=>kZ r (lN g λo n p=>u9 (n=qf (tu m))&&rz m&&(p.endLine==q.line)&&pC o&&jc cf a o&&a8 cf es [x]))
 | .xf i f,e=>lN e λx n _=>Xo x λx=>vB cf i x&&u9 (n=qf f)
noncomputable def a8 (cf:Cf):M.Es->List Expr->Bool
 | .nil,xs=>xs.isEmpty
 | .cons e es,xs=>lC xs λx xs=>Ja x&&jc cf e x&&a8 cf es xs
noncomputable def cN (cf:Cf):M.It->Expr->Bool
 | .seq a,e=>Qe e&&jc cf a e
 | .av a,e=>qk e λg xs l _=>kZ l (lC xs λx r=>kZ r (br cf.sc "range" g&&Ja x&&jc cf a x))
 | .bP a b,e=>qk e λg xs l _=>kZ l (lC xs λx r=>lC r λy r=>kZ r (br cf.sc "range" g&&Ja x&&Ja y&&jc cf a x&&jc cf b y))
 | .rev a,e=>qk e λg xs l _=>kZ l (lC xs λx r=>kZ r (br cf.sc "reversed" g&&Ja x&&jc cf a x))
 | .zip _ _,_=>y9
 | .enum _,_=>y9
end
def Wu:Expr->Bool
 | .ListComp .. =>y9
 | .SetComp .. =>y9
 | .DictComp .. =>y9
 | _=>k9
def zl:Expr->Bool
 | .Tuple .. =>y9
 | _=>k9
def Zq (cf:Cf) (i:Nat) (x:Str):Bool:=u9 (cf.N[i]? =y0 x)&&u9 (cf.sc.names.lookup x=y0 .local)
def xx (cf:Cf) (i:Nat) (x:Str):Bool:=u9 (cf.N[i]? =y0 x)&&iN cf.sc x
def Qp (cf:Cf) (i:Nat) (m:Str) (e:Expr) (a:Pos):Bool:=lN e λx n p=>Xo x λx=>vB cf i x&&u9 (n=m)&&(p.endLine==a.line)
def nJ (cf:Cf):M.It->Expr->Bool
 | .seq a,e=>Qe e&&jc cf a e
 | .av a,e=>cN cf (.av a) e
 | .bP a b,e=>cN cf (.bP a b) e
 | .rev a,e=>cN cf (.rev a) e
 | .zip a b,e=>qk e λg xs l _=>kZ l (lC xs λx r=>lC r λy r=>kZ r (br cf.sc "zip" g&&Ja x&&Ja y&&jc cf a x&&jc cf b y))
 | .enum a,e=>qk e λg xs l _=>kZ l (lC xs λx r=>kZ r (br cf.sc "enumerate" g&&Ja x&&jc cf a x))
def oB:M.It->Expr->Bool
 | .enum _,e=> !zl e
 | .zip _ _,e=> !zl e
 | _,_=>k9
def pe:M.S->Bool
 | .freeze _=>k9
 | _=>y9
def o9 (cf:Cf) (k:String) (nm e:Nat) (c:List ExceptHandler):Bool:=lC c λx r=>kZ r (rf x λw n b=>oS w λw=>oS n λn=>lC b λa r=>kZ r (fb a λts y=>lC ts λt r=>kZ r (Xo t λv=>Xo y λd=>
 br cf.sc k w&&cf.cq.contains k&&u9 (d=n)&&Zq cf nm n&&(ck n&&Zq cf e v))))
noncomputable def lM (cf:Cf) (i:Nat) (f:String) (b:List Stmt) (q:List Expr->Bool):Bool:=lC b λs r=>kZ r (fb s λts e=>lC ts λt r=>kZ r (Xo t λa=>qk e λg xs l _=>kZ l (lC xs λx r=>Zq cf i a&&br cf.sc f g&&cf.fns.contains f&&q (x::r))))
mutual
noncomputable def pa (cf:Cf):M.S->Stmt->Bool
 | .set i e,st=>fb st λts v=>lC ts λt r=>Xo t λx=>kZ r (xx cf i x&&jc cf e v)
 | .ak i e,st=>fb st λts v=>lC ts λt r=>Xo t λx=>kZ r (xx cf i x&&jc cf e v)
 | .dB is e,st=>fb st λts v=>lC ts λt r=>ll t λts=>kZ r (Zo cf is ts&&zl v&&jc cf e v)
 | .eG i kx e,st=>fb st λts v=>lC ts λt r=>hG t λx y=>Xo x λx=>kZ r (vB cf i x&&qh y&&zl v&&Wu v&&jc cf kx y&&jc cf e v)
 | .app i e,st=>kP st λc=>qk c λf xs l p=>kZ l (lC xs λv r=>kZ r (Qp cf i "append" f p&&Ja v&&jc cf e v))
 | .ext i e,st=>kP st λc=>qk c λf xs l p=>kZ l (lC xs λv r=>kZ r (Qp cf i "extend" f p&&Ja v&&jc cf e v))
 | .mv i j,st=>fb st λts c=>lC ts λt r=>Xo t λx=>kZ r (Xo c λy=>xx cf i x&&vB cf j y)
 | .dz i e,st=>fb st λts v=>lC ts λt r=>hG t λx y=>Xo x λx=>kZ r (vB cf i x&&qh y&&zl v&&Wu v&&jc cf e y&&jc cf (.bl k9) v)
 | .bY i e,st=>kP st λc=>qk c λf xs l p=>kZ l (lC xs λv r=>kZ r (Qp cf i "append" f p&&Ja v&&jc cf e v))
 | .e8 i j,st=>fb st λts c=>lC ts λt r=>Xo t λx=>kZ r (qk c λf xs l p=>kZ l (kZ xs (xx cf j x&&Qp cf i "pop" f p)))
 | .eR i is,st=>fb st λts c=>lC ts λt r=>ll t λts=>kZ r (qk c λf xs l p=>kZ l (kZ xs (Zo cf is ts&&Qp cf i "pop" f p)))
 | .freeze _,_=>y9
 | .ex e,st=>kP st λv=>Wu v&&jc cf e v
 | .ret e,st=>rl st λv=>oS v λv=>jc cf e v
 | .iff c a b,st=>oi st λx ys zs=>eN c&&jc cf c x&&bK cf a ys&&bK cf b zs
 | .lJ _ c b,st=>rW st λx ys zs=>kZ zs (eN c&&jc cf c x&&bK cf b ys)
 | .for tg one it b,st=>vr st λt iter ys zs=>kZ zs (oB it t&&Ze cf tg one t&&nJ cf it iter&&bK cf b ys)
 | .cQ c f e,st=>oX st λa b=>oS a λa=>qk a λg xs l _=>kZ l (lC xs λx r=>kZ r (b.isNone&&br cf.sc c g&&cf.ob.er.contains (c,f)&&a8 cf (.cons e .nil) [x]))
 | .raise c es,st=>oX st λa b=>oS a λa=>qk a λg xs l _=>kZ l (lC xs λx r=>b.isNone&&br cf.sc c g&&cf.cD.contains c&&u9 ((x::r).length<=1000)&&a8 cf es (x::r))
 | .fD c i f es g es2 k nm iv,st=>yJ st λb hs=>lC b λs r=>kZ r (oi s λt ys zs=>o9 cf k nm iv hs&&eN c&&jc cf c t&&lM cf i f ys (λxs=>a8 cf es xs)&&lM cf i g zs (λxs=>a8 cf es2 xs))
 | .ij,_=>k9
noncomputable def bK (cf:Cf):M.Ss->List Stmt->Bool
 | .nil,sts=>sts.isEmpty
 | .cons s ss,sts=>bif pe s then bK cf ss sts else lC sts λst sts=>pa cf s st&&bK cf ss sts
end
structure Lp (X:Cx) (k:Nat) (x:Str) (ps:List Str) (sp:Sp):Prop where
 ex: ∃f fd,bg X.prog X.w X.K X.mg X.base (cj X.prog X.w) k f fd ps sp/\Binds X.K fd ps []/\Ag5 X.K (.ref f)=k9/\X.mg x=y0 (.ref f)
def m7:M.W->Bool
 | .own _=>y9
 | _=>k9
def gC (a:Ge) (m:List M.W->M.AH->M.R M.W):Sp:=λc H Q E=> ∃G h b,ai a G h H/\bh a G H b c/\(∀ w∈b,m7 w=k9)/\aB a E G H (m b h) Q
structure Go (Γ:Ge) (F:M.Fx) (X:Cx) (E:XK) (k:Nat) (cf:Cf):Prop where
 N:X.N=cf.N
 K:X.K=Γ.K
 cl:F.cl=Γ.cl
 ow:cf.own=Γ.own
 nd:cf.N.Nodup
 eO: ∀x,X1 cf.sc x=k9->iF X.env.scope x
 i7: ∀x,cf.sc.names.lookup x=y0 .local->X.env.scope.names.lookup x=y0 .local
 gf: ∀x,iN cf.sc x=k9->kg X.env.scope x/\(X.fn x=k9\/X.env.scope.names.lookup x=y0 .local)
 lg: ∀x,(cf.sc.names.lookup x=y0 .cell\/cf.sc.names.lookup x=y0 .free)->X.env.kindOf x=y0 .cell\/X.env.kindOf x=y0 .free
 gl: ∀x,iy cf.sc x=k9->Gl X x
 calm:X.calm=k9
 room:a9 k X.A
 eJ:a9 (k+1) X.A
 pass:JU (cj X.prog X.w) X E
 blt: ∀x,x∈bQ->X.mg (qf x)=u0
 con: ∀x d,F.con.lookup x=y0 d-> ∃u v,X.mg (qf x)=y0 u/\RelV v u/\ ∀G H,aC Γ G H d v
 fn: ∀f,cf.fns.contains f=k9-> ∃ps,Lp X k (qf f) ps (gC Γ (F.call f))
 cls: ∀c,cf.own.contains c=k9->X.mg (qf c)=y0 (.ref (Γ.ca c))
 fld: ∀c f,cf.ob.fl.contains (c,f)=k9->dH X.K (Γ.ca c)/\ue X.K (Γ.ca c) (qf f)
 i6: ∀c m q,cf.ob.mt.contains (c,m,q)=k9->dH X.K (Γ.ca c)/\ ∃fa fd ps,tf X.K (Γ.ca c) (qf m) fa/\bg X.prog X.w X.K X.mg X.base (cj X.prog X.w) k fa fd ps (gC Γ (F.call q))/\Binds X.K fd ps []
 fQ: ∀c q,cf.ob.fQ.contains (c,q)=k9->X.mg (qf c)=y0 (.ref (Γ.ca c))/\ ∃fa fd ps,Mk X.K (Γ.ca c) fa/\bg X.prog X.w X.K X.mg X.base (cj X.prog X.w) k fa fd ps (gC Γ (F.call q))/\Binds X.K fd ps []
@[elab_as_elim] theorem kE {P:List α->Prop}(k:b=k9->P []): ∀l,kZ l b=k9->P l:=by rintro (_|_)<;>first | exact bF | exact k
@[elab_as_elim] theorem Dr {P:Stmt->Prop}(k: ∀a b p,f a b=k9->P (.Try a b [] [] p)): ∀e,yJ e f=k9->P e:=by
 rintro (_|_)<;>first | exact bF | exact λh=>kE (λh=>kE (λh=>k _ _ _ h) _ h) _ h
@[elab_as_elim] theorem AN {P:ExceptHandler->Prop}(k: ∀a b c p,f a b c=k9->P (.ExceptHandler a b c p)): ∀e,rf e f=k9->P e
 | .ExceptHandler _ _ _ _,h=>k _ _ _ _ h
def a2 (h:(a&&b)=k9):a=k9/\b=true:=Bool.and_eq_true_iff.mp h
def a3 (h:(a&&b&&c)=k9):a=k9/\b=k9/\c=true:=⟨(a2 (a2 h).1).1,(a2 (a2 h).1).2,(a2 h).2⟩
def a4 (h:(a&&b&&c&&d)=k9):a=k9/\b=k9/\c=k9/\d=true:=⟨(a3 (a2 h).1).1,(a3 (a2 h).1).2.1,(a3 (a2 h).1).2.2,(a2 h).2⟩
def a5 (h:(a&&b&&c&&d&&e)=k9):a=k9/\b=k9/\c=k9/\d=k9/\e=true:=⟨(a2 (a4 h).1).1,(a2 (a4 h).1).2,(a4 h).2⟩
def a6 (h:(a&&b&&c&&d&&e&&f)=k9):a=k9/\b=k9/\c=k9/\d=k9/\e=k9/\f=true:=⟨(a2 (a5 h).1).1,(a2 (a5 h).1).2,(a5 h).2⟩
def a7 (h:(a&&b&&c&&d&&e&&f&&g)=k9):a=k9/\b=k9/\c=k9/\d=k9/\e=k9/\f=k9/\g=true:=⟨(a2 (a6 h).1).1,(a2 (a6 h).1).2,(a6 h).2⟩
def nn (h:o.isNone=k9):o=none:=Ak6.mp h
def ig (h:vB cf i x=k9):cf.N[i]? =y0 x/\X1 cf.sc x=k9/\ck x=true:=⟨of_decide_eq_true (a3 h).1,(a3 h).2⟩
def Zb (h:br sc x e=true): ∃p,e= .Name (qf x) p/\iy sc (qf x)=true/\(qf x==("__debug__" :Str))=false:=by
 unfold br at h
 rw [Aa6,Aa6]at h
 obtain⟨⟨b,c⟩,a⟩:=h
 unfold ck at a
 rw [Aa6]at a
 cases e with
 | Name y p=>
  have:y=qf x:=by simpa [nH]using b
  subst this
  exact⟨p,rfl,c,by simpa using a.1⟩
 | _=>simp [nH]at b
def Qk (h:x∈bQ):qf x≠("__name__" :Str):=by
 have:(bQ.all λx=>decide (qf x≠ "__name__"))=true:=by decide +kernel
 exact of_decide_eq_true (Ad8.mp this x h)
section
variable {Γ:Ge}{F:M.Fx}{X:Cx}{E:XK}{k:Nat}{cf:Cf}
section
variable {G:Gh}{H:Hp}{h:M.AH}{Y:M.Sl}{U:St}{Q:VK}
def ax.val (p:ax Γ E G0 H0 (.ok w h) λw _ G' H'=> ∀v,ar Γ G' H' w v->aF Y U H0 w v->Q v H') (e:Ext G0 H0 G H) (a:ai Γ G h H) (z:ar Γ G H w v) (f:aF Y U H0 w v):Q v H:=
 p G H e a v z f
end
def Fi (c:Go Γ F X E k cf)(j:cf.N[i]? =y0 x) (n:X1 cf.sc x=k9) (b:ck x=k9):PE X (.Name x pos) (tD Γ E (M.eval F (.var i))):=by
 unfold ck at b
 rw [Aa6]at b
 refine PE.imp (xm (by rw [c.N];exact j) (c.eO x n) (by simpa using b.1) (by simpa using b.2)) λU H Q o=> ?_
 obtain⟨G,Y,h,s,p⟩:=o
 rw [M.eval]at p
 cases q:M.Gj Y i with
 | none=>simp [M.Gf,q]at p;exact p.elim
 | some w=>
  obtain⟨v,e,r⟩:=s.slot i w q
  refine⟨v,e,?_⟩
  cases w with
  | v d=>
   rw [M.Ko q]at p
   exact ax.val p Ext.refl s.heap r trivial
  | own f=>
   rw [M.G8 q]at p
   obtain⟨a,t,g,y,l,u,m⟩:=r
   exact ax.val p Ext.refl s.heap ⟨a,t,g,l,.inl u,m⟩ ⟨i,_,q,rfl,e⟩
  | bor f=>
   rw [M.Ka q]at p
   exact ax.val p Ext.refl s.heap r ⟨i,_,q,rfl,e⟩
def C1 (g:Go Γ F X E k cf)(n:br cf.sc c e=k9):PE X e (tD Γ E (M.eval F (.con c))):=by
 obtain⟨p,rfl,i,j⟩:=Zb n
 cases q:F.con.lookup c with
 | none=>
  intro b s U H Q I ⟨G,Y,h,f,a⟩
  rw [M.eval,q]at a
  exact a.elim
 | some d=>
  obtain⟨u,v,l,rv,rd⟩:=g.con c d q
  refine PE.imp (Z2 (g.gl _ i) l rv j) λU H Q m=> ?_
  obtain⟨G,Y,h,f,a⟩:=m
  rw [M.eval,q]at a
  exact ax.val a Ext.refl f.heap (rd G H) trivial
def Ef :PE X (.Constant (.int i) j pos) (tD Γ E (M.eval F (.int i))):=PE.imp u6 λU H Q ⟨G,Y,h,s,p⟩=>ax.val p Ext.refl s.heap rfl trivial
def Fw :PE X (.Constant (.bool i) j pos) (tD Γ E (M.eval F (.bl i))):=PE.imp CS λU H Q ⟨G,Y,h,s,p⟩=>ax.val p Ext.refl s.heap rfl trivial
def A6 :PE X (.Constant .none j pos) (tD Γ E (M.eval F .au)):=PE.imp FI λU H Q ⟨G,Y,h,s,p⟩=>ax.val p Ext.refl s.heap rfl trivial
def Ij :PE X (.Constant (.str (b6 i)) j pos) (tD Γ E (M.eval F (.str i))):=PE.imp Hw λU H Q ⟨G,Y,h,s,p⟩=>ax.val p Ext.refl s.heap rfl trivial
section
variable {a b c:M.E}{x y z:Expr}{pos:Pos}
def BV (n:Go Γ F X E k cf)(r:mJ o=k9) (e:PE X x (tD Γ E (M.eval F a))) (q:PE X y (tD Γ E (M.eval F b))):PE X (.BinOp x (ni o) y pos) (tD Γ E (M.eval F (.bin o a b))):=by
 refine PE.imp (IA (IX (E:=E) o r n.K) e q) λU H Q B=> ?_
 obtain⟨G,Y,h,s,p⟩:=B
 refine Qa s.heap Ext.refl s p λu v1 D L J g v d w K t=> ?_
 refine Qa s.heap g d t λz v2 f j I A c i m C l=> ?_
 exact⟨j,f,u,z,i.heap,w.ext c d.heap,m,aB.mk l A s.heap⟩
def q0 (z:aC Γ G H d v) (f:M.GQ d=k9):qI v=true:=by
 cases d with
 | au=>cases (z);rfl
 | bl _=>cases (z);rfl
 | int _=>cases (z);rfl
 | str _=>cases (z);rfl
 | _=>exact absurd (f) Ab7
theorem xQ : ∀ {ds}{i},ae Γ G H ds i->ds.all M.GQ=k9->i.all qI=k9
 | [],_,rfl,_=>rfl
 | d::ds,_,⟨v,r,rfl,b,a⟩,f=>by
  rw [Ai1,Aa6]at f ⊢
  exact⟨q0 b f.1,xQ a f.2⟩
def Dv (z:aC Γ G H d v) (y:aC Γ G H e u) (f:M.GQ d=k9) (c:M.GQ e=k9):gH v u=M.b0 d e:=by
 cases d with
 | au=>
  cases (z)
  cases e with
  | au=>cases (y);rfl
  | bl _=>cases (y);rfl
  | int _=>cases (y);rfl
  | str _=>cases (y);rfl
  | _=>exact absurd (c) Ab7
 | bl a=>
  cases (z)
  cases e with
  | au=>cases (y);rfl
  | bl _=>cases (y);rfl
  | int j=>cases (y);show(_==j)=(a.toNat==j);rw [me]
  | str _=>cases (y);rfl
  | _=>exact absurd (c) Ab7
 | int i=>
  cases (z)
  cases e with
  | au=>cases (y);rfl
  | bl b=>cases (y);show(i==(if b then(1:Int)else 0))=(i== b.toNat);rw [me]
  | int _=>cases (y);rfl
  | str _=>cases (y);rfl
  | _=>exact absurd (c) Ab7
 | str i=>
  cases (z)
  cases e with
  | au=>cases (y);rfl
  | bl _=>cases (y);rfl
  | int _=>cases (y);rfl
  | str j=>cases (y);exact vk i j
  | _=>exact absurd (c) Ab7
 | _=>exact absurd (f) Ab7
theorem vS (z:aC Γ G H d v) (b:M.GQ d=k9): ∀ {ds}{i},ae Γ G H ds i->ds.all M.GQ=k9->iE v i=M.inD d ds
 | [],_,rfl,_=>rfl
 | e::ds,_,⟨u,r,rfl,g,c⟩,f=>by
  rw [Ai1,Aa6]at f
  have a:=vS z b c f.2
  unfold iE M.inD at a ⊢
  rw [Af,Af,a,Dv g z f.1 b]
def ar.lS (z:ar Γ G H w v) (e:w.d=y0 d) (f:M.GQ d=k9):aC Γ G H d v:=by
 cases w with
 | v b=>cases e;exact z
 | own a=>cases e;exact absurd (f) Ab7
 | bor a=>cases e
theorem tZ (b: ∀c y,RV hp c y->ee y=M.b0 c d): ∀ {ys}{i},bU hp ys i->i.any ee=M.inD d ys
 | [],_,rfl=>rfl
 | c::ys,_,⟨u,r,rfl,f,e⟩=>by
  have a:=tZ b e
  unfold M.inD at a ⊢
  rw [Af,Af,a,b c u f]
def rj (b:a9 k X.A)(r:M.GK ys<140) (n:RV s.heap d v) (p:bU s.heap ys its): ∃i:Value->Bool,(∀ c y,RV s.heap c y->i y=M.b0 c d)/\ ∀y,y∈its.toArray->SeqAt.EqAt X.A.in1 s y v (i y):=by
 have f: ∃i:Value->Bool,∀c y,RV s.heap c y->i y=M.b0 c d:=⟨λy=> @u9 (∃ a,RV s.heap a y/\M.b0 a d=k9) (Al0 _),λc y z=>by
  cases q:M.b0 c d with
  | true=>exact @decide_eq_true _ (Al0 _) ⟨c,z,q⟩
  | false=>exact @decide_eq_false _ (Al0 _) λ⟨d,m,g⟩=>by rw [RV.inj m z,q]at g;cases g⟩
 obtain⟨i,h⟩:=f
 refine⟨i,h,λy o=> ?_⟩
 obtain⟨j,l⟩:=List.getElem?_of_mem (List.mem_toArray.mp o)
 obtain⟨a,e,rd⟩:=p.get l
 rw [h a y rd]
 exact(oY 140 a _ X.A.in1 y v (by have:=xC e;lia) (by have:=b.un;lia) rd n).eq
def FV (r:X.K=Γ.K)(d:a9 k X.A) (neg:Bool){x y:V}(I:Inv X y8 U H s) (w:RelV x v) (A:RelV y u){b:Bool}(o:ai Γ G h H)
 (D:ar Γ G H w1 x) (t:ar Γ G H w2 y) (e:M.Ku w1 w2 h=y0 b) (q:Q (.bl (if neg then !b else b)) H):wpAny (model X.prog X.w) X.A (compareOp (if neg then .NotIn else .In) v u) (EP X y8 U Q) X.xe s:=by
 unfold M.Ku at e
 split at e
 ·rename_i z E
  split at e
  ·rename_i c
   cases e
   have m:=by simpa using c
   have B:=D.rv I r o w m.1.1
   have l:=t.rv I r o A (by simp_all)
   rw [E]at l
   obtain⟨a,f,rfl,j,p⟩:=l
   obtain⟨g,C,n⟩:=rj d m.2 B p
   have i:f.toArray.any g=M.inD (w1.dd h) z:=by rw [List.any_toArray];exact tZ C p
   cases neg with
   | true=>exact SeqAt.notIn_listAt g j n ⟨.bl _,H,I,rfl,by rw [i];exact q⟩
   | false=>exact SeqAt.in_listAt g j n ⟨.bl _,H,I,rfl,by rw [i];exact q⟩
  ·cases e
 ·cases e
def rB (l:X.K=Γ.K)(f:a9 k X.A) (neg:Bool){x y:V}(I:Inv X y8 U H s) (g:RelV x v) (i:RelV y u){b:Bool}(o:ai Γ G h H)
 (p:ar Γ G H w1 x) (m:ar Γ G H w2 y) (e:M.Kc w1 w2 h=y0 b) (q:Q (.bl (if neg then !b else b)) H):wpAny (model X.prog X.w) X.A (compareOp (if neg then .NotIn else .In) v u) (EP X y8 U Q) X.xe s:=by
 unfold M.Kc at e
 ·split at e
  ·rename_i d A t w
   split at e
   ·rename_i c
    rw [Aa6]at c
    cases e
    have z:=p.lS t c.1
    obtain⟨a,r,rfl,n,j⟩:=m.seq o w
    rw [← vS z c.1 j c.2]at q
    cases neg with
    | true=>exact zV y8 s U H _ _ v u Q I g i ⟨a,r,rfl,l▸l0 n,q0 z c.1,xQ j c.2,q⟩
    | false=>exact AL y8 s U H _ _ v u Q I g i ⟨a,r,rfl,l▸l0 n,q0 z c.1,xQ j c.2,q⟩
   ·exact FV l f neg I g i o p m e q
  ·cases e
def qJ (n:Go Γ F X E k cf) (o) (D:jI o=k9):bG X (compareOp (fu o)) (iB Γ o):=by
 have f: ∀ {o},(∀ a d h b,M.Gw o a d h=y0 b-> ∃i j,M.W.int? a=y0 i/\M.W.int? d=y0 j/\M.Kt o i j=y0 b)->bG X (compareOp (fu o)) (iB Γ o):=by
  intro o C g s U H x y v u Q I m p ⟨G,h,a,d,b,z,r,l,e,q⟩
  obtain⟨i,j,A,w,B⟩:=C a d h b e
  cases r.int A
  cases l.int w
  exact EV B I m p q
 have mk: ∀ {o}{a d}{h:M.AH}{b},(match M.W.int? a,M.W.int? d with
  | some i,y0 j=>M.Kt o i j
  | _,_=>u0)=y0 b-> ∃i j,M.W.int? a=y0 i/\M.W.int? d=y0 j/\M.Kt o i j=y0 b:=by
  intro o a d h b e
  split at e
  ·rename_i i j A w;exact⟨i,j,A,w,e⟩
  ·cases e
 cases o with
 | eq=>exact E2 n.K n.room
 | ne=>exact LP n.K n.room
 | lt=>exact f λa d h b e=>mk (h:=h) e
 | le=>exact f λa d h b e=>mk (h:=h) e
 | gt=>exact f λa d h b e=>mk (h:=h) e
 | ge=>exact f λa d h b e=>mk (h:=h) e
 | mem=>
  intro g s U H x y v u Q I m p ⟨G,h,a,d,b,z,r,l,e,q⟩
  exact rB n.K n.room y9 I m p z r l e q
 | dE=>
  intro g s U H x y v u Q I m p ⟨G,h,a,d,b,z,r,l,e,q⟩
  have e:(M.Kc a d h).map (!·)=y0 b:=e
  cases w:M.Kc a d h with
  | none=>rw [w]at e;cases e
  | some c=>
   rw [w]at e
   cases e
   exact rB n.K n.room k9 I m p z r l w q
 | nY=>
  intro g s U H x y v u Q I m p ⟨G,h,a,d,b,z,r,l,e,q⟩
  have e:M.Kw a d=y0 b:=e
  unfold M.Kw at e
  split at e
  ·cases e
   cases r
   cases l
   cases m
   obtain⟨t,rfl⟩:=p
   exact wpAny_is_plain rfl (yC I q rfl)
  ·cases e
   cases r
   cases l
   obtain⟨t,rfl⟩:=m
   obtain⟨J,rfl⟩:=p
   exact PyProof.Rows.is_bool (yC I q rfl)
  ·cases e
def jj (h:Qe e=k9):behindInMarks o e=false:=by
 cases e<;>first | rfl | (simp [Qe]at h)
def vv (C:Go Γ F X E k cf)(s:aw Γ G Y h U H)
 (p:ax Γ E G H ((M.eval F a Y h).bind λx h=>(M.eval F b Y h).bind λy h=>(M.R.of h (M.Gw o x y h)).bind λc h=> .ok c h) λc _ _ H'=>R (.bl c) H'):
 la (iB Γ o) (tD Γ E (M.eval F a)) (tD Γ E (M.eval F b)) U H R:=by
 refine Qa s.heap Ext.refl s p λr v1 A J D l t g u I q=> ?_
 refine Qa s.heap l g q λv v2 j m B w e f n z d=> ?_
 obtain⟨c,i,d⟩:=d.of
 exact⟨m,j,r,v,c,f.heap,u.ext e g.heap,n,i,d.at w f.heap⟩
def ax.map {f:α->β}(p:ax Γ E G H (r.bind λa h=> .ok (f a) h) P):ax Γ E G H r λa h G' H'=>P (f a) h G' H':=by
 cases r with
 | ok a h=>exact p
 | exc d h=>exact p
 | fail=>exact p
def zf (r:M.R α) (f) (g:β->M.AH->M.R γ):(r.bind f).bind g=r.bind λa h=>(f a h).bind g:=by cases r<;>rfl
def C0 (j:Go Γ F X E k cf)(r:jI o=k9) (z:Qe y=k9) (l:PE X x (tD Γ E (M.eval F a))) (n:PE X y (tD Γ E (M.eval F b))):PE X (.Compare x [fu o] [y] pos) (tD Γ E (M.eval F (.cmp o a b))):=by
 refine PE.imp (Q5 (qJ j o r) l n (jj z)) λU H Q A=> ?_
 obtain⟨G,Y,h,s,p⟩:=A
 rw [M.eval]at p
 refine vv j s ?_
 have m:ax Γ E G H (((M.eval F a Y h).bind λx h=>(M.eval F b Y h).bind λy h=>(M.R.of h (M.Gw o x y h)).bind λc h=> .ok c h).bind λc h=> .ok (M.W.v (.bl c)) h) λw _ i g=> ∀v,ar Γ i g w v->aF Y U H w v->Q v g:=by
  simpa only [zf,M.R.aa]using p
 have f:=m.map
 cases q:(M.eval F a Y h).bind λx h=>(M.eval F b Y h).bind λy h=>(M.R.of h _).bind λc h=> .ok c h with
 | ok c t=>rw [q]at f;exact λi g e u=>f i g e u _ rfl trivial
 | exc d t=>rw [q]at f;exact f
 | fail=>rw [q]at f;exact f
def Ed (g:Go Γ F X E k cf)(m:jI o=k9) (t:Qe y=k9) (i:PE X x (tD Γ E (M.eval F a))) (l:PE X y (tD Γ E (M.eval F b))):PT X (.Compare x [fu o] [y] pos) (cu Γ E (M.Gs F (.cmp o a b))):=by
 refine PT.imp (jZ (qJ g o m) i l (jj t)) λU H Q v=> ?_
 obtain⟨G,Y,h,s,p⟩:=v
 unfold M.Gs at p
 rw [M.eval]at p
 refine vv g s ?_
 have f:=by
  simpa only [zf,M.R.aa,M.GA,M.R.af]using p
 cases q:(M.eval F a Y h).bind λx h=>(M.eval F b Y h).bind λy h=>(M.R.of h _).bind λc h=> .ok c h with
 | ok c n=>rw [q]at f;exact λj u e r=>⟨c,rfl,f j u e r⟩
 | exc d n=>rw [q]at f;exact f
 | fail=>rw [q]at f;exact f
end
end
section
variable {Γ:Ge}{F:M.Fx}{X:Cx}{E:XK}{k:Nat}{cf:Cf}{a b c:M.E}{x y z:Expr}{pos:Pos}
def qC (r:M.R α):(r.bind λw h=> .ok w h)=r:=by cases r<;>rfl
def AZ (g:Go Γ F X E k cf) (d:PE X x (tD Γ E (M.eval F a))) (n: ∀i,isTrue x X.env i=(do let v ←i;standAt x.pos;holding [v] (truthy v))):PT X x (cu Γ E (M.Gs F a)):=by
 refine PT.imp (Hv d n) λU H Q u=> ?_
 obtain⟨G,Y,h,s,p⟩:=u
 refine Qa s.heap Ext.refl s p λl v1 f r j e m c o w b=> ?_
 cases q:M.GU f l with
 | none=>rw [q]at b;exact b.elim
 | some t=>
  rw [q]at b
  exact⟨t,X9 g.K c.heap o q,b r j e c.heap⟩
def KI (b:PE X x ta):PE X (.UnaryOp .Not x pos) (λU H Q=>ta U H λv H1=> ∃t,iO X.K v H1 t/\Q (.bl (!t)) H1):=by
 intro a s U H Q I h
 refine UnaryOp_ (aJ (b a s U H _ I h) ?_)
 rintro v e ⟨x,H1,d,k,t,i,g⟩
 exact not_of (aJ (W6 a e U H1 x v (λc l=>Q (.bl (!c)) l) d k ⟨t,i,g⟩) λc m ⟨f,j,q⟩=>⟨.bl (!c),f,j,rfl,q⟩)
def Fj (f:Go Γ F X E k cf) (d:PE X x (tD Γ E (M.eval F a))):PE X (.UnaryOp .Not x pos) (tD Γ E (M.eval F (.not a))):=by
 refine PE.imp (KI d) λU H Q j=> ?_
 obtain⟨G,Y,h,s,p⟩:=j
 refine Qa s.heap Ext.refl s p λn v1 l r m e g c i o b=> ?_
 obtain⟨t,q,b⟩:=b.of
 exact⟨t,X9 f.K c.heap i q,ax.val b e c.heap rfl trivial⟩
def Aq (c:PT X x (cu Γ E (M.Gs F a))):PT X (.UnaryOp .Not x pos) (cu Γ E (M.Gs F (.not a))):=by
 refine PT.imp (DP c) λU H Q f=> ?_
 obtain⟨G,Y,h,s,p⟩:=f
 unfold M.Gs at p
 rw [M.eval]at p
 have e:ax Γ E G H ((M.Gs F a Y h).bind λt h=> .ok (!t) h) λb _ _ d=>Q b d:=by
  unfold M.Gs
  simpa only [zf,M.R.aa,M.GA,M.R.af]using p
 exact⟨G,Y,h,s,e.map⟩
def LF {rest:List Expr}(g:PE X x ta) (m:PE X (.BoolOp .And (y::rest) pos) tb):PE X (.BoolOp .And (x::y::rest) pos) (λU H Q=>ta U H λv H1=> ∃t,iO X.K v H1 t/\if t=k9 then tb U H1 Q else Q v H1):=by
 intro a s U H Q I h
 refine BoolOp_and (aJ (g a s U H _ I h) ?_)
 rintro v k ⟨x,H1,i,e,t,n,l⟩
 refine aJ (W6 a k U H1 x v (λc f=>if c=k9 then tb U f Q else Q x f) i e ⟨t,n,l⟩) λc j o=> ?_
 obtain⟨b,d,q⟩:=o
 cases c with
 | true=>exact m a j U b Q d q
 | false=>exact⟨x,b,d,e,q⟩
def HW {rest:List Expr}(g:PE X x ta) (m:PE X (.BoolOp .Or (y::rest) pos) tb):PE X (.BoolOp .Or (x::y::rest) pos) (λU H Q=>ta U H λv H1=> ∃t,iO X.K v H1 t/\if t=k9 then Q v H1 else tb U H1 Q):=by
 intro a s U H Q I h
 refine BoolOp_or (aJ (g a s U H _ I h) ?_)
 rintro v k ⟨x,H1,i,e,t,n,l⟩
 refine aJ (W6 a k U H1 x v (λc f=>if c=k9 then Q x f else tb U f Q) i e ⟨t,n,l⟩) λc j o=> ?_
 obtain⟨b,d,q⟩:=o
 cases c with
 | false=>exact m a j U b Q d q
 | true=>exact⟨x,b,d,e,q⟩
def sx (n:Go Γ F X E k cf){rest:List Expr}(g:PE X x (tD Γ E (M.eval F a))) (o:PE X (.BoolOp .And (y::rest) pos) (tD Γ E (M.eval F b))):PE X (.BoolOp .And (x::y::rest) pos) (tD Γ E (M.eval F (.and a b))):=by
 refine PE.imp (LF g o) λU H Q z=> ?_
 obtain⟨G,Y,h,s,p⟩:=z
 refine Qa s.heap Ext.refl s p λJ v1 C K I d u e f v c=> ?_
 obtain⟨t,q,c⟩:=c.of
 refine⟨t,X9 n.K e.heap f q,?_⟩
 cases t with
 | true=>
  exact Qa s.heap d e (by rw [qC];exact c) λL v2 A B D w r i m j l=>ax.val l w i.heap m (j.back d s.heap)
 | false=>
  exact ax.val c d e.heap f v
def tN (n:Go Γ F X E k cf){rest:List Expr}(g:PE X x (tD Γ E (M.eval F a))) (o:PE X (.BoolOp .Or (y::rest) pos) (tD Γ E (M.eval F b))):PE X (.BoolOp .Or (x::y::rest) pos) (tD Γ E (M.eval F (.or a b))):=by
 refine PE.imp (HW g o) λU H Q z=> ?_
 obtain⟨G,Y,h,s,p⟩:=z
 refine Qa s.heap Ext.refl s p λJ v1 C K I d u e f v c=> ?_
 obtain⟨t,q,c⟩:=c.of
 refine⟨t,X9 n.K e.heap f q,?_⟩
 cases t with
 | false=>
  exact Qa s.heap d e (by rw [qC];exact c) λL v2 A B D w r i m j l=>ax.val l w i.heap m (j.back d s.heap)
 | true=>
  exact ax.val c d e.heap f v
def BK :M.Gs F (.and a b) Y h=(M.Gs F a Y h).bind λt h=>match t with
 | true=>M.Gs F b Y h
 | false=> .ok y9 h:=by
 unfold M.Gs
 rw [M.eval]
 simp only [zf]
 congr 1
 funext w h1
 cases q:M.GU h1 w with
 | none=>rfl
 | some t=>
  cases t with
  | true=>rfl
  | false=>simp [q]
def Ha :M.Gs F (.or a b) Y h=(M.Gs F a Y h).bind λt h=>match t with
 | true=> .ok k9 h
 | false=>M.Gs F b Y h:=by
 unfold M.Gs
 rw [M.eval]
 simp only [zf]
 congr 1
 funext w h1
 cases q:M.GU h1 w with
 | none=>rfl
 | some t=>
  cases t with
  | false=>rfl
  | true=>simp [q]
def uP {rest:List Expr}(i:PT X x (cu Γ E (M.Gs F a))) (q:PW X (.BoolOp .And (y::rest) pos) (cu Γ E (M.Gs F b))):PW X (.BoolOp .And (x::y::rest) pos) (cu Γ E (M.Gs F (.and a b))):=by
 intro o c n U H Q I ⟨G,Y,h,s,p⟩
 refine IT i q o c n U H Q I ?_
 rw [BK]at p
 refine ZQ s.heap Ext.refl s p λt C z u d v e g=> ?_
 cases t with
 | true=>
  exact ZQ s.heap d e (f:=λw h=> .ok w h) (by rw [qC];exact g) λD B k m A r j l=>l k m A j.heap
 | false=>
  exact g z u d e.heap
def ub {rest:List Expr}(i:PT X x (cu Γ E (M.Gs F a))) (q:PW X (.BoolOp .Or (y::rest) pos) (cu Γ E (M.Gs F b))):PW X (.BoolOp .Or (x::y::rest) pos) (cu Γ E (M.Gs F (.or a b))):=by
 intro o c n U H Q I ⟨G,Y,h,s,p⟩
 refine B5 i q o c n U H Q I ?_
 rw [Ha]at p
 refine ZQ s.heap Ext.refl s p λt C z u d v e g=> ?_
 cases t with
 | false=>
  exact ZQ s.heap d e (f:=λw h=> .ok w h) (by rw [qC];exact g) λD B k m A r j l=>l k m A j.heap
 | true=>
  exact g z u d e.heap
def Eh (c:PE X x (tD Γ E (M.eval F a))):PE X (.UnaryOp .USub x pos) (tD Γ E (M.eval F (.neg a))):=by
 refine PE.imp (nM u5 c) λU H Q i=> ?_
 obtain⟨G,Y,h,s,p⟩:=i
 refine Qa s.heap Ext.refl s p λl v1 j n k d f e g m b=> ?_
 obtain⟨t,q,b⟩:=b.of
 exact⟨t,g.int q,ax.val b d e.heap rfl trivial⟩
def KJ (c:PE X x (tD Γ E (M.eval F a))):PE X (.UnaryOp .Invert x pos) (tD Γ E (M.eval F (.inv a))):=by
 refine PE.imp (nM D7 c) λU H Q j=> ?_
 obtain⟨G,Y,h,s,p⟩:=j
 refine Qa s.heap Ext.refl s p λm v1 k o l d g f i n b=> ?_
 obtain⟨t,q,b⟩:=b.of
 refine⟨t,i.int q,?_⟩
 have e:Builtin.bitNot t= -t-1:=by unfold Builtin.bitNot;lia
 exact ax.val b d f.heap rfl trivial
def vh (r:ar Γ G H w v):(v= .au)↔w= .v .au:=by
 constructor
 ·intro e
  subst e
  cases w with
  | v d=>
   cases d with
   | au=>rfl
   | bl _=>cases (r)
   | int _=>cases (r)
   | str _=>cases (r)
   | tup _=>obtain⟨_,_,e,_⟩:=r;cases e
   | lst _=>obtain⟨_,_,e,_⟩:=r;cases e
   | ref _=>obtain⟨_,e⟩:=r;cases e
   | exc _ _=>rcases r with⟨_,_,e,_⟩ | ⟨_,_,e,_⟩<;>cases e
   | err _ _ _=>obtain⟨_,_,_,e,_⟩:=r;cases e
  | own _=>obtain⟨_,_,e,_⟩:=r;cases e
  | bor _=>obtain⟨_,_,e,_⟩:=r;cases e
 ·intro e
  subst e
  exact r
def oM (neg:Bool):M.W->Bool
 | .v .au=> !neg
 | _=>neg
def uf :M.eval F (.dS neg a) Y h=(M.eval F a Y h).bind λw h=>M.aT (.bl (oM neg w)) h:=by
 rw [M.eval]
 congr 1
 funext w h1
 cases w with
 | v d=>cases d<;>rfl
 | own _=>rfl
 | bor _=>rfl
def yt (r:ar Γ G H w v) (neg:Bool):(if neg then !u9 (v= .au)else u9 (v= .au))=oM neg w:=by
 by_cases a:v= .au
 ·have b:=(vh r).mp a
  subst b a
  cases neg<;>rfl
 ·have b:=λe=>a ((vh r).mpr e)
  have c:=decide_eq_false a
  rw [c]
  have f:oM neg w=neg:=by
   cases w with
   | v d=>cases d<;>first | rfl | exact absurd rfl b
   | own _=>rfl
   | bor _=>rfl
  rw [f]
  cases neg<;>rfl
def LB (c:PE X x (tD Γ E (M.eval F a))):PE X (.Compare x [if neg then .IsNot else .Is] [.Constant .none j pos'] pos) (tD Γ E (M.eval F (.dS neg a))):=by
 have b: ∀U H Q,tD Γ E (M.eval F (.dS neg a)) U H Q->tD Γ E _ U H λv d=>Q (.bl (if neg then !u9 (v= .au)else decide _)) d:=λU H Q l=>by
  obtain⟨G,Y,h,s,p⟩:=l
  rw [uf]at p
  refine Qa s.heap Ext.refl s p λn v1 m q d e i f k o g=> ?_
  rw [yt k neg]
  exact ax.val g e f.heap rfl trivial
 cases neg with
 | true=>exact PE.imp (pR (p8 c)) b
 | false=>exact PE.imp (pR (ro c)) b
def DB (i:PE X x (tD Γ E (M.eval F a))):PT X (.Compare x [if neg then .IsNot else .Is] [.Constant .none j pos'] pos) (cu Γ E (M.Gs F (.dS neg a))):=by
 have g: ∀U H Q,cu Γ E (M.Gs F (.dS neg a)) U H Q->tD Γ E _ U H λv b=>Q (if neg then !u9 (v= .au)else decide _) b:=λU H Q C=>by
  obtain⟨G,Y,h,s,p⟩:=C
  unfold M.Gs at p
  rw [uf,zf]at p
  refine Qa s.heap Ext.refl s p λI v1 D A b k u l z J n=> ?_
  rw [yt z neg]
  exact n A b k l.heap
 have fin: ∀U H Q,cu Γ E _ U H Q->tD Γ E (M.eval F a) U H λv b=> ∃c,V.bl _= .bl c/\Q c b:=λU H Q t=>by
  obtain⟨G,Y,h,s,p⟩:=g U H Q t
  refine⟨G,Y,h,s,?_⟩
  cases q:M.eval F a Y h with
  | ok w o=>rw [q]at p;exact λm B e y v r f=>⟨_,rfl,p m B e y v r f⟩
  | exc d o=>rw [q]at p;exact p
  | fail=>rw [q]at p;exact p
 cases neg with
 | true=>exact PT.imp (uk (p8 i)) fin
 | false=>exact PT.imp (uk (ro i)) fin
def Z8 (h:Qe e'=k9):lastMarks [o,o'] [e,e']=false:=jj h
def z9 (O:Go Γ F X E k cf)(s:aw Γ G Y h U H)
 (hP: ∀b h' G' H',P (.v (.bl b)) h' G' H'->R (.bl b) H') (p:ax Γ E G H (M.eval F (.chain o o' a b c) Y h) P):
 nO (iB Γ o) (iB Γ o') (tD Γ E (M.eval F a)) (tD Γ E (M.eval F b)) (tD Γ E (M.eval F c)) U H R:=by
 refine Qa s.heap Ext.refl s p λC v1 L T Q v I n J S B=> ?_
 refine Qa s.heap v n B λq v2 u w N r i d m K e=> ?_
 obtain⟨t,f,e⟩:=e.of
 refine⟨w,u,C,q,t,d.heap,J.ext i n.heap,m,f,t,rfl,?_⟩
 cases t with
 | true=>
  refine Qa s.heap r d e λA v3 x y V D j l z W g=> ?_
  obtain⟨t,f,g⟩:=g.of
  exact⟨y,x,q,A,t,l.heap,m.ext j d.heap,z,f,hP _ _ _ _ (g.at D l.heap)⟩
 | false=>
  exact hP _ _ _ _ (e.at r d.heap)
def F5 (e:Go Γ F X E k cf)(i:jI o=k9) (d:jI o'=k9) (j:Qe z=k9) (f:PE X x (tD Γ E (M.eval F a))) (g:PE X y (tD Γ E (M.eval F b))) (l:PE X z (tD Γ E (M.eval F c))):
 PE X (.Compare x [fu o,fu o'] [y,z] pos) (tD Γ E (M.eval F (.chain o o' a b c))):=
 PE.imp (Md (qJ e o i) (qJ e o' d) f g l (Z8 j)) λU H Q ⟨G,Y,h,s,p⟩=>z9 e s (λb n m r q=>q _ rfl trivial) p
def IZ (i:Go Γ F X E k cf)(t:jI o=k9) (g:jI o'=k9) (u:Qe z=k9) (m:PE X x (tD Γ E (M.eval F a))) (n:PE X y (tD Γ E (M.eval F b))) (v:PE X z (tD Γ E (M.eval F c))):
 PT X (.Compare x [fu o,fu o'] [y,z] pos) (cu Γ E (M.Gs F (.chain o o' a b c))):=by
 refine PT.imp (Hb (qJ i o t) (qJ i o' g) m n v (Z8 u)) λU H Q B=> ?_
 obtain⟨G,Y,h,s,p⟩:=B
 refine z9 i s (P:=λw _ _ f=> ∀b,w= .v (.bl b)->Q b f) (λb l j f q=>⟨b,rfl,q b rfl⟩) ?_
 unfold M.Gs at p
 cases q:M.eval F _ Y h with
 | ok w l=>rw [q]at p;exact λj f e A b r=>by subst r;exact p j f e A
 | exc d l=>rw [q]at p;exact p
 | fail=>rw [q]at p;exact p
end
def xa (h:Ja e=k9):starEach (e::es) env=(y9,eval e env)::starEach es env:=by
 cases e<;>first | rfl | (simp [Ja]at h)
def Jv (h: ∀e∈es,Ja e=k9):(backTo pos (starEach es env)).any (·.1)=false:=by
 induction es with
 | nil=>rfl
 | cons e r b=>
  rw [xa (h e Aa3)]
  show(y9||(backTo pos _).any _)=y9
  rw [b λc a=>h c (Aa1 _ a)]
  rfl
section
variable {Γ:Ge}{F:M.Fx}{X:Cx}{E:XK}{k:Nat}{cf:Cf}{a b c:M.E}{x y z:Expr}{pos:Pos}{es:M.Es}{xs:List Expr}
def A4:PA X [] (iJ Γ E (M.Gm F .nil)):=PA.imp jg λU H Q ⟨G,Y,h,s,p⟩=>p G H Ext.refl s.heap [] rfl
def L0 (m:Ja x=k9) (g:PE X x (tD Γ E (M.eval F a))) (u:PA X xs (iJ Γ E (M.Gm F es))):PA X (x::xs) (iJ Γ E (M.Gm F (.cons a es))):=by
 refine PA.imp (Jb g u (xa m)) λU H Q A=> ?_
 obtain⟨G,Y,h,s,p⟩:=A
 refine Qa s.heap Ext.refl s p λJ v1 D K I i t l w v b=> ?_
 obtain⟨d,q,b⟩:=b.of
 obtain⟨B,z,e,rd,_⟩:=nX i l s w v q
 refine X3 s.heap z e b λL f C n y r c j o k=> ?_
 exact k n y r j.heap (v1::f) ⟨v1,f,rfl,rd.ext c e.heap,o⟩
def BG:PA X [] (gS Γ E (M.Gg F .nil)):=PA.imp jg λU H Q ⟨G,Y,h,s,p⟩=>p G H Ext.refl s.heap [] rfl
def Fy (j:Ja x=k9) (e:PE X x (tD Γ E (M.eval F a))) (q:PA X xs (gS Γ E (M.Gg F es))):PA X (x::xs) (gS Γ E (M.Gg F (.cons a es))):=by
 refine PA.imp (Jb e q (xa j)) λU H Q u=> ?_
 obtain⟨G,Y,h,s,p⟩:=u
 refine Qa s.heap Ext.refl s p λz v1 w B y f o c r A m=> ?_
 refine qA s.heap f c m λC d v k t n b g l i=> ?_
 exact i k t n g.heap (v1::d) ⟨v1,d,rfl,r.ext b c.heap,l⟩
def FK (z:xs.length<=1000) (a: ∀Y h ds h',M.Gm F es Y h= .ok ds h'->ds.length=xs.length) (l:PA X xs (iJ Γ E (M.Gm F es))):PE X (.Tuple xs n pos) (tD Γ E (M.eval F (.tup es))):=by
 refine PE.imp (r6 l) λU H Q y=> ?_
 obtain⟨G,Y,h,s,p⟩:=y
 rw [M.eval]at p
 cases q:M.Gm F es Y h with
 | ok c i=>
  have t:=a _ _ _ _ q
  refine X3 s.heap Ext.refl s (f:=λds h=>if ds.length=xs.length then M.aT (.tup ds) h else .fail) (P:=λw h' r k=> ∀v,ar Γ r k w v->aF Y U H w v->Q v k) ?_ λds I A D C m u o j b=> ?_
  ·rw [q]at p ⊢
   show ax Γ E G H (if c.length=xs.length then M.aT _ i else .fail) _
   rw [if_pos t]
   exact p
  ·by_cases g:ds.length=xs.length
   ·rw [if_pos g]at b
    have B:=j.length
    exact⟨Ah1 (jm (by lia)),λx e=>aB.tup (aB.mk b m s.heap) o.heap j x e⟩
   ·rw [if_neg g]at b;exact b.elim
 | exc d i=>rw [q]at p;exact⟨G,Y,h,s,by rw [q];exact p⟩
 | fail=>rw [q]at p;exact p.elim
def Lg (y:xs.length<=1000) (a: ∀Y h ds h',M.Gm F es Y h= .ok ds h'->ds.length=xs.length) (l:PA X xs (iJ Γ E (M.Gm F es))):PE X (.List xs pos) (tD Γ E (M.eval F (.lst es))):=by
 refine PE.imp (DA l) λU H Q x=> ?_
 obtain⟨G,Y,h,s,p⟩:=x
 rw [M.eval]at p
 cases q:M.Gm F es Y h with
 | ok c i=>
  have r:=a _ _ _ _ q
  refine X3 s.heap Ext.refl s (f:=λds h=>if ds.length=xs.length then .ok (.own ds) h else .fail) (P:=λw h' o k=> ∀v,ar Γ o k w v->aF Y U H w v->Q v k) ?_ λds D z C B m t n j b=> ?_
  ·rw [q]at p ⊢
   show ax Γ E G H (if c.length=xs.length then .ok _ i else .fail) _
   rw [if_pos r]
   exact p
  ·by_cases g:ds.length=xs.length
   ·rw [if_pos g]at b
    have A:=j.length
    exact⟨Ah1 (jm (by lia)),λu e=>aB.own (aB.mk b m s.heap) n.heap j u e⟩
   ·rw [if_neg g]at b;exact b.elim
 | exc d i=>rw [q]at p;exact⟨G,Y,h,s,by rw [q];exact p⟩
 | fail=>rw [q]at p;exact p.elim
def FW (r:ar Γ G H w v):ar Γ G H w.arg v:=by
 cases w with
 | v d=>exact r
 | own h=>obtain⟨a,b,f,_,c,g,e⟩:=r;exact⟨a,b,f,c,.inl g,e⟩
 | bor h=>exact r
theorem JC : ∀ {ws}{i},bh Γ G H ws i->bh Γ G H (ws.map M.W.arg) i
 | [],_,z=>z
 | _::_,_,⟨v,r,c,a,b⟩=>⟨v,r,c,FW a,JC b⟩
def QD (ws:List M.W): ∀w∈ws.map M.W.arg,m7 w=true:=λw a=>by
 obtain⟨u,_,rfl⟩:=Ac1.mp a
 cases u<;>rfl
def EU (a:Go Γ F X E k cf)(D:br cf.sc f g=k9) (B:cf.fns.contains f=k9) (c: ∀e∈x::xs,Ja e=k9) (d:PA X (x::xs) (gS Γ E (M.Gg F es))):PE X (.Call g (x::xs) [] pos) (tD Γ E (M.eval F (.call f es))):=by
 obtain⟨p,rfl,i,m⟩:=Zb D
 obtain⟨r,J,I,b,A,q,t⟩:=(a.fn f B).imp λr h=>h.ex
 refine PE.imp (IS b a.room (a.gl _ i) t q A .nil a.pass d m (xa (c _ Aa3)) (Jv λe w=>c e (Aa1 _ w))) λU H Q C=> ?_
 obtain⟨G,Y,h,s,p⟩:=C
 refine qA s.heap Ext.refl s p λl L n z K j v o y u=> ?_
 rw [Ae4]
 exact⟨z,n,_,o.heap,JC y,QD l,aB.mk u j s.heap⟩
def HK (a:Go Γ F X E k cf)(o:br cf.sc f g=k9) (m:cf.fns.contains f=k9):PE X (.Call g [] [] pos) (tD Γ E (M.eval F (.call f .nil))):=by
 obtain⟨p,rfl,c,d⟩:=Zb o
 obtain⟨i,r,q,b,l,e,j⟩:=(a.fn f m).imp λi h=>h.ex
 refine PE.imp (AD b a.room (a.gl _ c) j e l .nil a.pass d) λU H Q n=> ?_
 obtain⟨G,Y,h,s,p⟩:=n
 have p:=p
 exact⟨G,h,_,s.heap,JC (ws:= []) rfl,QD [],aB.mk p Ext.refl s.heap⟩
def AM (b:M.Bi) (a:mj b=k9):bootBuiltins (qf (l4 b))=y0 (yR b):=by
 cases b<;>first | (exact absurd (show y9=k9 from a) Ab7) | decide +kernel
def uR (b):l4 b∈bQ:=by cases b<;>decide
def LI (c:Go Γ F X E k cf){b:M.Bi}(q:mj b=k9) (D:br cf.sc (l4 b) g=k9) (r: ∀e∈x::xs,Ja e=k9) (f:PA X (x::xs) (gS Γ E (M.Gg F es))):PE X (.Call g (x::xs) [] pos) (tD Γ E (M.eval F (.bi b es))):=by
 obtain⟨p,rfl,j,m⟩:=Zb D
 have n:=c.blt _ (uR b)
 have hn:=Qk (uR b)
 have o:=AM b q
 have i:zm X _ (nA Γ E b):=Eg b q c.K c.calm
 have a: ∀U H Q,tD Γ E (M.eval F (.bi b es)) U H Q->oF (nA Γ E b) (gS Γ E _) U H Q:=λU H Q C=>by
  obtain⟨G,Y,h,s,p⟩:=C
  refine qA s.heap Ext.refl s p λu J v B I t y d A w=> ?_
  exact⟨B,v,u,d.heap,A,aB.mk w t s.heap⟩
 have d:=xa (env:=X.env) (es:=xs) (r _ Aa3)
 have l:=Jv (env:=X.env) (pos:=pos) λe z=>r e (Aa1 _ z)
 cases b with
 | len=>exact PE.imp (jh i (c.gl _ j) n o f hn m d l) a
 | divmod=>exact PE.imp (jh i (c.gl _ j) n o f hn m d l) a
 | min=>exact PE.imp (jh i (c.gl _ j) n o f hn m d l) a
 | max=>exact PE.imp (jh i (c.gl _ j) n o f hn m d l) a
 | int=>exact PE.imp (Wv i (c.gl _ j) n o f hn m d l) a
 | list=>exact PE.imp (Wv i (c.gl _ j) n o f hn m d l) a
 | tuple=>exact PE.imp (Wv i (c.gl _ j) n o f hn m d l) a
 | sum=>exact PE.imp (jh i (c.gl _ j) n o f hn m d l) a
 | all=>exact PE.imp (jh i (c.gl _ j) n o f hn m d l) a
 | any=>cases q
 | sorted=>cases q
 | str=>cases q
 | abs=>cases q
def bS (h:pC o=k9) (w):attributeBase o n env w=w:=by
 cases o with
 | Call f a b p=>
  cases a with
  | nil=>exact absurd (h) Ab7
  | cons x a=>cases f<;>rfl
 | _=>rfl
theorem tm (t): ∀ {ts}{n},M.Ki t ts=y0 n->ku (b6 t) (ts.map b6)=y0 n
 | [],_,e=>by cases e
 | y::ys,n,e=>by
  unfold M.Ki at e
  rw [Ab,ku]
  split at e
  ·rename_i q
   cases e
   rw [if_pos (by rw [q])]
  ·rename_i q
   obtain⟨k,e1,rfl⟩:=Af1.mp e
   rw [if_neg (λc=>q (by
    have:=congrArg (λs:Str=>s.cps.toList) c
    simpa [b6]using this)),tm t e1]
   rfl
theorem vw {a:Value->Bool}(b: ∀c y,RV hp c y->a y=M.b0 c d): ∀ {ys}{J}{j},bU hp ys J->M.Ks d ys=y0 j-> ∃y,J[j]? =y0 y/\a y=k9/\ ∀m z,m<j->J[m]? =y0 z->a z=y9
 | [],_,_,rfl,h=>by cases h
 | c::ys,_,j,⟨u,r,rfl,g,p⟩,h=>by
  rw [M.Ks]at h
  by_cases q:M.b0 c d=k9
  ·rw [if_pos q]at h
   cases h
   exact⟨u,rfl,by rw [b c u g];exact q,λm z f=>absurd f (Ah9 m)⟩
  ·rw [if_neg q]at h
   obtain⟨i,e,rfl⟩:=Af1.mp h
   obtain⟨y,o,l,n⟩:=vw b p e
   refine⟨y,o,l,λm z f k=> ?_⟩
   cases m with
   | zero=>cases k;rw [b c u g];simpa using q
   | succ m=>exact n m z (by omega) k
def CK (a:Ge):V->List V->Hp->VK->Prop:=λx d H Q=> ∃G h c b y j,d= [y]/\ai a G h H/\ar a G H c x/\ar a G H b y/\M.Kh b c h=y0 j/\Q (.int (j:Nat)) H
def Fq (D:X.K=Γ.K){k:Nat}(d:a9 k X.A):ik X "list.index" (CK Γ):=by
 intro r s U H x vs v us Q I R rv ⟨G,h,w1,w2,y,j,e0,C,Y,P,e,q⟩
 subst e0
 obtain⟨u,rfl,Z⟩:=rv.one
 unfold M.Kh at e
 split at e
 ·rename_i g F
  split at e
  ·rename_i c
   have l:((M.Gc (w2.dd h)=k9/\M.Gd g=k9)/\M.GK g<140)/\g.length<=M.aY:=by simpa using c
   have T:=P.rv I D C Z l.1.1.1
   have w:=Y.rv I D C R (by rw [F];exact l.1.1.2)
   rw [F]at w
   obtain⟨a,f,rfl,J,n⟩:=w
   obtain⟨S,W,V⟩:=rj d l.1.2 T n
   obtain⟨z,N,K,L⟩:=vw W n e
   obtain⟨⟨cls,dd,E,sl⟩,A,B,k,t⟩:=id J
   simp only at B t
   subst B t
   have p:=n.length
   obtain⟨O,h4⟩:=Ac0.mp N
   have hL:=M.Gi
   refine call_meets PySem.F.slot_list_index ⟨_,A,rfl⟩ PySem.F.entry_list_index (PySem.F.args_list_index_2 _ _) (PySem.SeqAt.list_indexAt a f.toArray k dd sl u S j (by simpa using O) (by omega) (by simpa [h4]using K) (λm hm i=> ?_)) ⟨A,V,?_⟩
   ·exact L m _ i (by simp)
   ·exact⟨.int (j:Nat),H,I.kept (t':=s.toks+1) λb o e=>e,⟨_,rfl⟩,q⟩
  ·cases e
 ·cases e
def Mf (j:Go Γ F X E k cf)(hm:rz m=k9) (N:(apos.endLine==u7.line)=k9) (hc:pC o=k9) (q:Ja x=k9) (L:PE X o (tD Γ E (M.eval F a))) (R:PA X [x] (gS Γ E (M.Gg F es))):
 PE X (.Call (.Attribute o (qf (tu m)) apos) [x] [] u7) (tD Γ E (M.eval F (.cZ m a es))):=by
 cases m with
 | index=>
  refine PE.imp (oH PySem.F.plainAttrs_tuple PySem.F.slot_tuple_index PySem.F.type_tuple_index Bw BJ L R (bS hc _) (by rw [xa q];rfl) N (xa q) rfl) λU H Q K=> ?_
  obtain⟨G,Y,h,s,p⟩:=K
  refine Qa s.heap Ext.refl s p λw1 v1 h1 G1 H1 y C f l f1 e=> ?_
  split at e
  ·rename_i I
   obtain⟨xs,ex⟩:=Ah.mp (I)
   obtain⟨b,B,rfl,r,z3⟩:=l.tup ex
   refine⟨⟨b,rfl,j.K▸r.pl⟩,?_⟩
   refine qA s.heap y f e λz us O P H2 J d g A c=> ?_
   obtain⟨b',vs',W,z2',S⟩:=ar.ext (w:= .v (.tup xs)) d f.heap ⟨b,B,rfl,r,z3⟩
   cases W
   cases z with
   | nil=>exact c.elim
   | cons w wr=>
    cases wr with
    | cons _ _=>exact c.elim
    | nil=>
     obtain⟨u,rfl,D⟩:=A.one
     have c:=c
     obtain⟨ts,v,c⟩:=c.of
     obtain⟨t,V,c⟩:=c.of
     obtain⟨n,Z,c⟩:=c.of
     cases D.str V
     rw [ex,Ag4]at v
     cases w9 v S
     split at c
     ·exact⟨b,b6 t,n,ts.map b6,rfl,rfl,j.K▸fm.sq z2',tm t Z,(aB.mk c J s.heap).v g.heap rfl⟩
     ·exact c.elim
  ·exact e.elim
 | bZ=>
  refine PE.imp (oH PySem.F.plainAttrs_list PySem.F.slot_list_index PySem.F.type_list_index vR (Fq j.K j.room) L R (bS hc _) (by rw [xa q];rfl) N (xa q) rfl) λU H Q K=> ?_
  obtain⟨G,Y,h,s,p⟩:=K
  refine Qa s.heap Ext.refl s p λw1 v1 h1 G1 H1 y C f l f1 e=> ?_
  split at e
  ·rename_i I
   obtain⟨ys,T⟩:=Ah.mp (I)
   obtain⟨b,B,rfl,r,z3⟩:=ar.lst f.heap l T
   refine⟨⟨b,B,rfl,j.K▸r⟩,?_⟩
   refine qA s.heap y f e λz us O P H2 J d g A c=> ?_
   cases z with
   | nil=>exact c.elim
   | cons w wr=>
    cases wr with
    | cons _ _=>exact c.elim
    | nil=>
     obtain⟨u,rfl,D⟩:=A.one
     have c:=c
     obtain⟨n,v,c⟩:=c.of
     exact⟨P,O,w1,w,u,n,rfl,g.heap,l.ext d f.heap,D,v,(aB.mk c J s.heap).v g.heap rfl⟩
  ·exact e.elim
 | count=>
  refine PE.imp (oH PySem.F.plainAttrs_list PySem.F.slot_list_count PySem.F.type_list_count vR Hs L R (bS hc _) (by rw [xa q];rfl) N (xa q) rfl) λU H Q K=> ?_
  obtain⟨G,Y,h,s,p⟩:=K
  rw [M.eval]at p
  refine Qa s.heap Ext.refl s p λw1 v1 h1 G1 H1 y C f l f1 e=> ?_
  split at e
  ·rename_i I
   obtain⟨ys,T⟩:=Ah.mp (I)
   obtain⟨b,B,rfl,r,z3⟩:=ar.lst f.heap l T
   refine⟨⟨b,B,rfl,j.K▸r⟩,?_⟩
   refine qA s.heap y f e λz us O P H2 J d g A c=> ?_
   cases z with
   | nil=>exact c.elim
   | cons w wr=>
    cases wr with
    | cons _ _=>exact c.elim
    | nil=>
     obtain⟨u,rfl,D⟩:=A.one
     have c:=c
     obtain⟨is,v,c⟩:=c.of
     obtain⟨i,V,c⟩:=c.of
     obtain⟨ys2,Z,q4⟩:=Ac9.mp v
     obtain⟨b',vs',W,y2,y3⟩:=ar.lst g.heap (l.ext d f.heap) Z
     cases W
     cases Xf q4 y3
     cases D.int V
     split at c
     ·exact⟨b,i,is,rfl,rfl,j.K▸y2,(aB.mk c J s.heap).v g.heap rfl⟩
     ·exact c.elim
  ·exact e.elim
def tH: "set" ∈bQ:=by decide
def yw: "len" ∈bQ:=by decide
def El (is):oZ is=M.Kd [] is:=by
 have j: ∀ n a rest,is=a++rest->a.length=n->(firstMet (λi=>is.getD i 0) n).length+M.Kd a rest=(firstMet (λi=>is.getD i 0) is.length).length:=by
  intro n a rest
  induction rest generalizing n a with
  | nil=>
   intro b c
   rw [Ae4]at b
   rw [M.Kd,Nat.add_zero,←c,b]
  | cons x m h=>
   intro b c
   have g:is.getD n 0=x:=by
    rw [Ab5,b,Af2 (by lia),c,Nat.sub_self]
    rfl
   have d:=h (n+1) (a++ [x]) (by simp_all) (by simp [c])
   rw [← d,M.Kd,firstMet_succ,g]
   have k:(Aa0 n).map (λi=>is.getD i 0)=a:=by
    refine Al9 (by simp [c]) λi l f=> ?_
    rw [Ai5,Ai9,Ab5,b,Af5 f,Aa4 f]
    rfl
   have e:=firstMet_any (λi=>is.getD i 0) n x
   rw [k]at e
   rw [PyProof.Rows.step_length,e]
   split<;>lia
 have:=j 0 [] is rfl rfl
 rw [show (firstMet (λi=>is.getD i 0) 0).length=0 from rfl,Af9]at this
 exact this.symm
def Dz (e:Go Γ F X E k cf)(L:br cf.sc "len" g=true) (m:br cf.sc "set" g2=true) (n:Ja x=true) (q:PE X x (tD Γ E (M.eval F a))):PE X (.Call g [.Call g2 [x] [] pos2] [] pos) (tD Γ E (M.eval F (.cy a))):=by
 obtain⟨p,rfl,r,u⟩:=Zb L
 obtain⟨D,rfl,i,j⟩:=Zb m
 have d:=Wv (p:=D) (pos:=pos2) BU (e.gl _ i) (e.blt _ tH) (by decide +kernel) (Jb q jg (xa n)) (Qk tH) j (xa n) rfl
 refine PE.imp (jh Ee (e.gl _ r) (e.blt _ yw) (by decide +kernel) (Jb d jg rfl) (Qk yw) u rfl rfl) λU H Q K=> ?_
 obtain⟨G,Y,h,s,p⟩:=K
 rw [M.eval]at p
 refine Qa s.heap Ext.refl s p λT v1 N J R t C v I V f=> ?_
 obtain⟨is,z,f⟩:=f.of
 obtain⟨O,y,A⟩:=Ac9.mp z
 obtain⟨l,P,rfl,w,B⟩:=I.tup y
 cases Xf A B
 split at f
 ·rename_i c
  refine⟨l,is,rfl,e.calm,c,e.K▸w.sq,λb S o=>⟨b,S,oZ is,rfl,wb,?_,?_⟩⟩
  ·exact An1 (firstMet_length_le _ _) c
  ·rw [El]
   exact f J _ (t.trans s.heap (wF _ o)) (v.heap.new _ o) (.int _) rfl trivial
 ·exact f.elim
theorem qZ: ∀xs ys:List Int,M.GT xs ys=HT.lexLt xs ys
 | [],[]=>rfl
 | [],_::_=>rfl
 | _::_,[]=>rfl
 | x::xs,y::ys=>by rw [M.GT,HT.cS,qZ xs ys]
def E1 (f:Go Γ F X E k cf) (N:Qe y=k9) (m:PE X x (tD Γ E (M.eval F a))) (z:PE X y (tD Γ E (M.eval F b))):PE X (.Compare x [.Lt] [y] pos) (tD Γ E (M.eval F (.ia a b))):=by
 refine PE.imp (Q5 (yo (by have:=f.room.un;lia)) m z (jj N)) λU H Q P=> ?_
 obtain⟨G,Y,h,s,p⟩:=P
 refine Qa s.heap Ext.refl s p λw1 v1 T G1 H1 o J j L f1 D=> ?_
 refine Qa s.heap o j D λw2 v2 R q W O g d t S c=> ?_
 obtain⟨is,B,c⟩:=c.of
 obtain⟨C,w,c⟩:=c.of
 obtain⟨V,u,a2⟩:=Ac9.mp B
 obtain⟨Z,K,r⟩:=Ac9.mp w
 obtain⟨l,vs,rfl,v,I⟩:=ar.lst d.heap (L.ext g j.heap) u
 obtain⟨l2,A,rfl,i,e⟩:=ar.lst d.heap t K
 cases Xf a2 I
 cases Xf r e
 split at c
 ·rename_i n
  refine⟨l,l2,is,C,rfl,rfl,f.K▸v,f.K▸i,n,?_⟩
  rw [← qZ]
  exact c q _ O d.heap _ rfl trivial
 ·exact c.elim
def Fh (c) [Decidable c] (v) (h):((if c then M.aT (.bl v) h else M.R.fail).bind λx h=>M.R.of h (M.GU h x))=if c then M.R.ok v h else M.R.fail:=by
 split<;>rfl
def Ba (f:Go Γ F X E k cf) (O:Qe y=k9) (m:PE X x (tD Γ E (M.eval F a))) (A:PE X y (tD Γ E (M.eval F b))):PT X (.Compare x [.Lt] [y] pos) (cu Γ E (M.Gs F (.ia a b))):=by
 refine PT.imp (jZ (yo (by have:=f.room.un;lia)) m A (jj O)) λU H Q R=> ?_
 obtain⟨G,Y,h,s,p⟩:=R
 unfold M.Gs at p
 rw [M.eval]at p
 have v:=by
  simpa only [zf,M.R.aa,Fh]using p
 refine Qa s.heap Ext.refl s v λw1 v1 V G1 H1 o K j N f1 I=> ?_
 refine Qa s.heap o j I λw2 v2 S q Z P g d t T c=> ?_
 obtain⟨is,C,c⟩:=c.of
 obtain⟨D,z,c⟩:=c.of
 obtain⟨W,u,a2⟩:=Ac9.mp C
 obtain⟨ys,L,r⟩:=Ac9.mp z
 obtain⟨l,vs,rfl,w,J⟩:=ar.lst d.heap (N.ext g j.heap) u
 obtain⟨l2,B,rfl,i,e⟩:=ar.lst d.heap t L
 cases Xf a2 J
 cases Xf r e
 split at c
 ·rename_i n
  refine⟨l,l2,is,D,rfl,rfl,f.K▸w,f.K▸i,n,?_⟩
  rw [← qZ]
  exact⟨_,rfl,c q _ P d.heap⟩
 ·exact c.elim
def HD (b:Go Γ F X E k cf)(j:t≠ .au) (O:br cf.sc "isinstance" g=true) (J:br cf.sc (fK t) y=true) (m:Ja x=true) (n:PE X x (tD Γ E (M.eval F a))):PE X (.Call g [x,y] [] pos) (tD Γ E (M.eval F (.dQ a t))):=by
 obtain⟨p,rfl,o,u⟩:=Zb O
 obtain⟨q,rfl,K,L⟩:=Zb J
 have d:fK t∈bQ:=by cases t<;>first | exact absurd rfl j | decide
 have A:bootBuiltins (qf (fK t))=y0 (.type (fK t)):=by cases t<;>first | exact absurd rfl j | decide +kernel
 have bi:bootBuiltins _=y0 _:=boot_isinstance
 have e: "isinstance" ∈bQ:=by decide
 have f:PE X (.Name (qf (fK t)) q) (tC (.ty (fK t))):=rb (b.gl _ K) (b.blt _ d) A rfl (Qk d) L
 refine PE.imp (jh (Fu b.K) (b.gl _ o) (b.blt _ e) bi (Jb n (Jb f jg) (xa m)) (Qk e) u (xa m) rfl) λU H Q N=> ?_
 obtain⟨G,Y,h,s,p⟩:=N
 rw [M.eval]at p
 refine Qa s.heap Ext.refl s p λz v1 w D P r B l C R i=> ?_
 obtain⟨c,I,i⟩:=i.of
 exact⟨D,w,z,v1,t,c,rfl,j,l.heap,C,I,ax.val i r l.heap (v:= .bl c) rfl trivial⟩
theorem rx (a:Go Γ F X E k cf): ∀ {ts}{zs},WF cf ts zs=k9->PA X zs (λ_ H Q=>Q (ts.map λt=> .ref (Γ.ca t)) H)/\(∀ t∈ts,t∈Γ.own)/\ts.length=zs.length
 | [],[],_=>⟨jg,λ_ h=>absurd h (by simp),rfl⟩
 | [],_::_,h=>by simp [WF]at h
 | _::_,[],h=>by simp [WF]at h
 | t::ts,z::zs,h=>by
  unfold WF at h
  rw [Aa6,Aa6]at h
  obtain⟨⟨e,c⟩,d⟩:=h
  obtain⟨p,rfl,f,g⟩:=Zb e
  obtain⟨i1,i2,i3⟩:=rx a d
  refine⟨?_,λu b=> ?_,congrArg (· +1) i3⟩
  ·exact Jb (Z2 (v:= .ref (Γ.ca t)) (a.gl _ f) (a.cls t c) rfl g) i1
  ·rcases Ab9.mp b with rfl | b
   ·rw [← a.ow];exact Ah7.mp c
   ·exact i2 u b
theorem jW {c:String}(a:eI Γ c): ∀ {ts:List String},(∀ t∈ts,t∈Γ.own)->PySem.W.kitAny Γ.K (.ref (Γ.ca c)) ((ts.map Γ.ca).map Value.ref)=y0 (ts.any (M.GI Γ.cl 8 c).contains)
 | [],_=>rfl
 | t::ts,h=>by
  rw [Ab,Ab,PySem.W.kitAny,a.own t (h t Aa3),Af]
  cases e:(M.GI Γ.cl 8 c).contains t with
  | true=>rfl
  | false=>
   exact jW a λu b=>h u (Aa1 _ b)
def vT {b:Bool}(r:ar Γ G H w v) (e:M.bV cl w ts=y0 b): ∃c x J,v= .ref x/\H x=y0 (eX x (Γ.ca c) J)/\eI Γ c/\b=ts.any (M.GI cl 8 c).contains:=by
 unfold M.bV at e
 split at e
 ·rename_i c
  obtain⟨_,x,a,_,h,g⟩ | ⟨z,_⟩:=r
  ·exact⟨c,x,u0,a,h,g,(Ae2.inj e).symm⟩
  ·exact absurd rfl z
 ·rename_i c f d
  obtain⟨x,j,u,a,l,h,g,m,i,k,n⟩:=r
  exact⟨c,x,y0 j,a,g,i,(Ae2.inj e).symm⟩
 ·cases e
def Lo (d:Go Γ F X E k cf)(r:t= "ValueError" \/cf.own.contains t=true) (Z:br cf.sc "isinstance" g=true) (T:br cf.sc t y=true) (e:Ja x=true) (B:PE X x (tD Γ E (M.eval F a))):
 PE X (.Call g [x,y] [] pos) (tD Γ E (M.eval F (.bV a k9 [t]))):=by
 obtain⟨p,rfl,C,I⟩:=Zb Z
 obtain⟨q,rfl,w,A⟩:=Zb T
 have bi:=boot_isinstance
 have j: "isinstance" ∈bQ:=by decide
 have fin: ∀ v,PE X _ (tC v)->(∀ c,eI Γ c-> ∀x b,b= [t].any (M.GI Γ.cl 8 c).contains-> ∀f H Q,H x=y0 _->Q (.bl b) H->sh X.K [.ref x,v] H Q) →
  PE X (.Call (.Name _ p) [x,.Name (qf t) q] [] pos) (tD Γ E (M.eval F (.bV a k9 [t]))):=λv S l=>by
  refine PE.imp (jh J9 (d.gl _ C) (d.blt _ j) bi (Jb B (Jb S jg) (xa e)) (Qk j) I (xa e) rfl) λU H Q V=> ?_
  obtain⟨G,Y,h,s,p⟩:=V
  refine Qa s.heap Ext.refl s p λw1 v1 h1 G1 K D N J P f1 o=> ?_
  obtain⟨b,R,o⟩:=o.of
  obtain⟨c,O,f,rfl,L,W,u⟩:=vT P R
  rw [d.cl]at u
  exact l c W O b u f K Q L (ax.val o D J.heap rfl trivial)
 by_cases n:cf.own.contains t=k9
 ·refine fin (.ref _) (Z2 (d.gl _ w) (d.cls t n) rfl A) λc i x b m f H Q e q=> ?_
  have l:=i.own t (by rw [← d.ow];exact Ah7.mp n)
  refine⟨x,Γ.ca c,f,b,d.K▸i.k,e,.inl ⟨Γ.ca t,rfl,?_⟩,q⟩
  rw [d.K,l,m]
  simp
 ·have r:=r.elim id λz=>absurd z n
  subst r
  have iE: "ValueError" ∈bQ:=by decide
  refine fin (.ty "ValueError") (rb (d.gl _ w) (d.blt _ iE) CO rfl (Qk iE) A) fun c i x b m f H Q e q=> ?_
  refine⟨x,Γ.ca c,f,b,d.K▸i.k,e,.inr (.inl ⟨"ValueError",rfl,?_⟩),q⟩
  rw [d.K,i.ve,m]
  simp
def FT (d:Go Γ F X E k cf)(r:zs.length<=1000) (N:br cf.sc "isinstance" g=true) (I:WF cf ts zs=true) (j:Ja x=true) (q:PE X x (tD Γ E (M.eval F a))):
 PE X (.Call g [x,.Tuple zs n p2] [] pos) (tD Γ E (M.eval F (.bV a y9 ts))):=by
 obtain⟨p,rfl,u,w⟩:=Zb N
 have bi:=boot_isinstance
 have e: "isinstance" ∈bQ:=by decide
 obtain⟨i1,i2,i3⟩:=rx d I
 refine PE.imp (jh J9 (d.gl _ u) (d.blt _ e) bi (Jb q (Jb (r6 i1) jg) (xa j)) (Qk e) w (xa j) rfl) λU H Q L=> ?_
 obtain⟨G,Y,h,s,p⟩:=L
 refine Qa s.heap Ext.refl s p λR v1 O T P v z y C S f=> ?_
 obtain⟨b,D,f⟩:=f.of
 obtain⟨c,A,J,rfl,l,o,m⟩:=vT C D
 rw [d.cl]at m
 refine⟨?_,λt i=> ?_⟩
 ·rw [Aa,i3];exact Ah1 (jm r)
 have B:=y.heap.e7 (.tup (ts.map λt=> .ref (Γ.ca t))) i
 have K:=v.trans s.heap (jf (.tup (ts.map λt=> .ref (Γ.ca t))) i)
 refine⟨A,Γ.ca c,J,b,d.K▸o.k,?_,.inr (.inr ⟨t,ts.map Γ.ca,rfl,?_,?_⟩),ax.val f K B rfl trivial⟩
 ·rw [ja (Wa l i)];exact l
 ·rw [wb,Ac5];rfl
 ·rw [d.K,jW o i2,m]
theorem ae.aX (z:ae Γ G H ds vs) (e:M.aX ds i=y0 d): ∃v,L2.aX vs i=y0 v/\aC Γ G H d v:=by
 unfold M.aX at e
 unfold L2.aX
 rw [z.length]at e
 cases q:M.dM vs.length i with
 | none=>rw [q]at e;cases e
 | some j=>
  rw [q]at e
  obtain⟨v,b,a⟩:=z.get (e)
  refine⟨v,?_,a⟩
  have c:L2.dM vs.length i=y0 j:=q
  rw [c]
  exact b
def Ff (a:qh y=k9):sA y:=by
 intro o i
 cases y<;>first | rfl | (simp [qh]at a)
def Lj (r:Go Γ F X E k cf) (N:qh y=k9) (w:PE X x (tD Γ E (M.eval F a))) (D:PE X y (tD Γ E (M.eval F b))):PE X (.Subscript x y pos) (tD Γ E (M.eval F (.ix a b))):=by
 refine PE.imp (ES H9 w D (Ff N)) λU H Q P=> ?_
 obtain⟨G,Y,h,s,p⟩:=P
 refine Qa s.heap Ext.refl s p λK v1 T G1 W A L o m Z I=> ?_
 refine Qa s.heap A o I λw2 v2 z R V O j n B S f=> ?_
 obtain⟨d,q,f⟩:=f.of
 have m:=m.ext j o.heap
 unfold M.dN at q
 split at q
 ·rename_i i C
  cases B.int C
  ·cases g:K.seq? z with
   | none=>rw [g]at q;cases q
   | some ds=>
    rw [g]at q
    obtain⟨l,t,rfl,c,J⟩:=m.seq n.heap g
    obtain⟨v,e,rd⟩:=J.aX (q)
    have u:=ax.val f O n.heap rd trivial
    obtain c | c:=c
    ·exact .inl ⟨l,t,i,v,rfl,rfl,r.K▸c,e,u⟩
    ·exact .inr (.inl ⟨l,t,i,v,rfl,rfl,r.K▸c,e,u⟩)
 ·cases q
end
section
variable {Γ:Ge}{F:M.Fx}{X:Cx}{E:XK}{k:Nat}{cf:Cf}{a b c:M.E}{x y z:Expr}{pos p2:Pos}
def vj (xs:List α) (lo hi):M.cut xs lo hi=(xs.drop (HT.aV xs.length 0 lo)).take (HT.aV xs.length xs.length hi-HT.aV xs.length 0 lo):=by
 unfold M.cut
 have e: ∀d o,M.aV xs.length d o=HT.aV xs.length d o:=λd o=>by cases o<;>rfl
 rw [e,e]
theorem ae.cut (z:ae Γ G H ds vs) (lo hi):ae Γ G H (M.cut ds lo hi) (kR vs lo hi):=by
 rw [vj]
 rw [z.length]
 exact(z.drop _).take _
def oE {f d:Option Int}(n:ai Γ G0 h0 H0) (e:Ext G0 H0 G H) (j:ai Γ G h H) (r:ar Γ G H w v)
 (p:ax Γ E G0 H0 (M.gO w f d h) λw _ G' H'=> ∀v,ar Γ G' H' w v->aF Y U H0 w v->Q v H'):(nR Γ.K v f d H Q\/ou Γ.K v f d H Q)\/oJ Γ.K v f d H Q:=by
 unfold M.gO at p
 ·split at p
  ·rename_i m q
   obtain⟨l,b,rfl,i,g⟩:=r.tup q
   by_cases c:HT.aV b.length 0 f=0/\HT.aV b.length b.length d=b.length
   ·have o:M.cut m f d=m:=by
     rw [vj,g.length,c.1,c.2,List.drop_zero,Nat.sub_zero,←g.length,An8]
    rw [o]at p
    exact .inr ⟨l,b,rfl,i.sq,c.1,c.2,p G H e j _ ⟨l,b,rfl,i,g⟩ trivial⟩
   ·exact .inl (.inr ⟨l,b,rfl,i.sq,c,λa k=>aB.tup (aB.mk p e n) j (g.cut f d) a k⟩)
  ·split at p
   ·rename_i m q
    obtain⟨l,b,rfl,i,g⟩:=r.lst j q
    exact .inl <| .inl ⟨l,b,rfl,i,λa k=>aB.own (aB.mk p e n) j (g.cut f d) a k⟩
   ·exact p.elim
def B4 (K:Aa7):V->Option Int->Option Int->Hp->VK->Prop:=λx lo hi H Q=>(nR K x lo hi H Q\/ou K x lo hi H Q)\/oJ K x lo hi H Q
def nu:gT X (B4 X.K):=(gG.or HC).or LK
def KW (v:Go Γ F X E k cf){m g:M.E}(n:PE X x (tD Γ E (M.eval F a))) (o:PE X l (tD Γ E (M.eval F m))) (K:PE X u (tD Γ E (M.eval F g))):PE X (.Subscript x (.Slice (y0 l) (y0 u) u0 p2) pos) (tD Γ E (M.eval F (.sl a m g))):=by
 refine PE.imp (QQ nu n (wO o) (wO K)) λU H Q J=> ?_
 obtain⟨G,Y,h,s,p⟩:=J
 refine Qa s.heap Ext.refl s p λZ v1 R G1 W q B f C f1 z=> ?_
 refine Qa s.heap q f z λw2 v2 L N S I c e t O p2=> ?_
 obtain⟨i,y,p2⟩:=p2.of
 refine⟨i,t.int y,?_⟩
 refine Qa s.heap I e p2 λV v3 P T H3 A d r w f3 b=> ?_
 obtain⟨j,D,b⟩:=b.of
 exact⟨j,w.int D,v.K▸oE s.heap A r.heap ((C.ext c f.heap).ext d e.heap) b⟩
def HS (n:Go Γ F X E k cf){d:M.E}(e:PE X x (tD Γ E (M.eval F a))) (f:PE X l (tD Γ E (M.eval F d))):PE X (.Subscript x (.Slice (y0 l) u0 u0 p2) pos) (tD Γ E (M.eval F (.fN a d))):=by
 refine PE.imp (QQ nu e (wO f) yG) λU H Q v=> ?_
 obtain⟨G,Y,h,s,p⟩:=v
 refine Qa s.heap Ext.refl s p λD v1 A J C g r c t I q=> ?_
 refine Qa s.heap g c q λK v2 w y B u b j m z p2=> ?_
 obtain⟨i,o,p2⟩:=p2.of
 exact⟨i,m.int o,n.K▸oE s.heap u j.heap (t.ext b c.heap) p2⟩
def FH (j:Go Γ F X E k cf)(d:PE X x (tD Γ E (M.eval F a))) (t:PE X u (tD Γ E (M.eval F hi))):PE X (.Subscript x (.Slice u0 (y0 u) u0 p2) pos) (tD Γ E (M.eval F (.gW a hi))):=by
 refine PE.imp (QQ nu d yG (wO t)) λU H Q r=> ?_
 obtain⟨G,Y,h,s,p⟩:=r
 refine Qa s.heap Ext.refl s p λC v1 z I B e n c o D m=> ?_
 refine Qa s.heap e c m λJ v2 v w A q b f g y p2=> ?_
 obtain⟨i,l,p2⟩:=p2.of
 exact⟨i,g.int l,j.K▸oE s.heap q f.heap (o.ext b c.heap) p2⟩
def LL {a:Expr}(h:mS a=k9): ∃k p q,a= .UnaryOp .USub (.Constant (.int 1) k p) q:=by
 unfold mS at h
 split at h
 ·exact⟨_,_,_,rfl⟩
 ·cases h
def BI (m:Go Γ F X E k cf){f:Expr}(d:mS f=k9) (g:PE X x (tD Γ E (M.eval F a))):PE X (.Subscript x (.Slice u0 u0 (y0 f) p2) pos) (tD Γ E (M.eval F (.rev a))):=by
 obtain⟨w,A,z,rfl⟩:=LL d
 refine PE.imp (DX g (nM u5 u6)) λU H Q v=> ?_
 obtain⟨G,Y,h,s,p⟩:=v
 refine Qa s.heap Ext.refl s p λC v1 y I B i r e t D b=> ?_
 obtain⟨J,q,b⟩:=b.of
 obtain⟨l,n,rfl,j,o⟩:=t.lst e.heap q
 exact⟨1,rfl,rfl,l,n,rfl,m.K▸j,λu c=>aB.own (aB.mk b i s.heap) e.heap o.reverse u c⟩
def Gh.cell (G:Gh) (a:Addr):Gh:= { G with aU:=λr=>if r=G.n then a else G.aU r,n:=G.n+1 }
def Q9 (a):Mon G H (G.cell a) H:=⟨λ_ _ _ z=>z,Ah4 _,λr b=>by show(if r=G.n then a else G.aU r)=_;rw [if_neg (by lia)],λ_ z=>z⟩
def Z6 {a:Addr}{c:M.Cell}(d:ai Γ G h H) (m: ¬G.fz a) (k:dO G a) (z:bp Γ G H a c):ai Γ (G.cell a) (h++ [c]) H where
 len:=by rw [Ab2,d.len];rfl
 any:=λr g q=>by
  show ¬G.fz (if r=G.n then a else G.aU r)/\bp Γ (G.cell a) H (if r=G.n then a else G.aU r) g
  by_cases hn:r=G.n
  ·rw [if_pos hn]
   rw [hn,←d.len,Af2 (Aa5 _),Nat.sub_self]at q
   cases q
   exact⟨m,z.mon (Q9 a) λ_ e=>e⟩
  ·rw [if_neg hn]
   have i:r<G.n:=by
    have:=(Ac0.mp q).1
    rw [Ab2,d.len]at this
    simp at this
    omega
   rw [Af5 (by rw [d.len];exact i)]at q
   exact⟨(d.any r g q).1,(d.any r g q).2.mon (Q9 a) λ_ e=>e⟩
 inj:=λr s l j e=>by
  have l:r<G.n+1:=l
  have j:s<G.n+1:=j
  have e:(if r=G.n then a else G.aU r)=(if s=G.n then a else G.aU s):=e
  by_cases f:r=G.n
  ·by_cases b:s=G.n
   ·omega
   ·rw [if_pos f,if_neg b]at e
    exact absurd e.symm (k s (by omega))
  ·by_cases b:s=G.n
   ·rw [if_neg f,if_pos b]at e
    exact absurd e (k r (by omega))
   ·rw [if_neg f,if_neg b]at e
    exact d.inj r s (by omega) (by omega) e
 live:=d.live
def qY {a:Addr}(d:ai Γ G h H) (f: ¬G.fz a) (c:dO G a) (e:H a=y0 (.lst vs)) (z:ae Γ G H xs vs) (b:M.Gd xs=k9):ai Γ (G.cell a) (h++ [.lst xs]) H:=Z6 d f c ⟨b,vs,e,z⟩
def xO {a:Addr}(e:Ext G0 H0 G H) (c:H0 a=u0):Ext G0 H0 (G.cell a) H where
 keep:=e.keep
 le:=Ac e.le (Ah4 _)
 aU:=λr d=>by show(if r=G.n then a else G.aU r)=_;rw [if_neg (by have:=e.le;omega)];exact e.aU r d
 new:=λr f b=>by
  have b:r<G.n+1:=b
  show H0 (if r=G.n then a else G.aU r)=u0
  by_cases hn:r=G.n
  ·rw [if_pos hn];exact c
  ·rw [if_neg hn];exact e.new r f (by omega)
 fz:=e.fz
 old:=e.old
 cells:=e.cells
def Lx:PE X (.Dict [] [] pos) (tD Γ E (M.eval F .dc)):=by
 refine PE.imp DT λU H Q e=> ?_
 obtain⟨G,Y,h,s,p⟩:=e
 intro a b
 have p:=p
 have d:Ext G H G (aG H a (dI [])):=wF _ b
 have c:=s.heap.new (dI []) b
 refine ax.val p (xO d b) (Z6 c (λz=>by obtain⟨o,q⟩:=s.heap.live a z;rw [b]at q;cases q) (s.heap.lG b) wb) ?_ trivial
 show h.length<G.n+1/\V.ref a= .ref (if h.length=G.n then a else G.aU h.length)
 rw [s.heap.len,if_pos rfl]
 exact⟨Ag6 _,rfl⟩
def yl (e:M.Kg h o=y0 (r,ks)):o=y0 (.v (.ref r))/\h[r]? =y0 (.bX ks):=by
 unfold M.Kg at e
 split at e
 ·split at e
  ·rename_i q
   cases e
   exact⟨rfl,q⟩
  ·cases e
 ·cases e
def Ws (s:aw Γ G Y h U H)(e:M.Kg h (M.Gj Y i)=y0 (r,ks)):U[i]? =y0 (y0 (.ref (G.aU r)))/\H (G.aU r)=y0 (dI ks):=by
 obtain⟨b,c⟩:=yl e
 obtain⟨v,d,a⟩:=s.slot i _ b
 obtain⟨g,f⟩:=(a)
 subst f
 exact⟨d,(s.heap.any r _ c).2⟩
def BC (neg:Bool):R2:=λx y H Q=> ∃k a ks,x= .int k/\y= .ref a/\H a=y0 (dI ks)/\Q (.bl (if neg then !ks.contains k else ks.contains k)) H
def rq (neg):bG X (compareOp (mM neg)) (BC neg):=by
 intro c i U H x y v u Q I d g ⟨k,a,j,ex,f,e,q⟩
 subst ex f
 cases g
 cases neg with
 | false=>exact Mh I e d λh b=>⟨.bl _,H,b,rfl,q⟩
 | true=>exact Ei I e d λh b=>⟨.bl _,H,b,rfl,q⟩
def Cz:V->V->V->Hp->(Hp->Prop)->Prop:=λo i v H Q=> ∃k a ks,i= .int k/\o= .ref a/\v= .bl k9/\H a=y0 (dI ks)/\ks.length<sizeLine/\Q (aG H a (dI (M.GX ks k)))
def Ma:pk X Cz:=by
 intro b n U H o i v m r u Q I h l rv ⟨k,a,p,d,f,e,g,c,q⟩
 subst d f e
 cases h
 cases rv
 exact DF I g l c λs j=>⟨_,j,q⟩
def LM (j:PE X x (tD Γ E (M.eval F a))):PE X x (tD Γ E (M.eval F (.share a))):=by
 refine PE.imp j λU H Q z=> ?_
 obtain⟨G,Y,h,s,p⟩:=z
 refine Qa s.heap Ext.refl s p λq v1 c g D m r i w u b=> ?_
 cases q with
 | own e=>
  obtain⟨l,C,rfl,n,o,A,t⟩:=w
  obtain⟨B,y,k⟩:=u
  cases y
  have b:ax Γ E G H (if M.Gd e=k9 then M.aT _ (c++ [.lst e])else .fail) _:=b
  by_cases f:M.Gd e=k9
  rotate_left
  ·rw [if_neg f]at b;exact b.elim
  rw [if_pos f]at b
  refine ax.val b (xO m k) (qY i.heap n o A t f) ?_ trivial
  show c.length<g.n+1/\V.ref l= .ref (if c.length=g.n then l else g.aU c.length)
  rw [i.heap.len,if_pos rfl]
  exact⟨Ag6 _,rfl⟩
 | v d=>exact b.elim
 | bor e=>exact b.elim
end
structure zt (Γ:Ge) (J:It) (ds:List M.D) (C:Gh->Hp->Prop):Prop where
 go: ∀i G H,C G H->i<ds.length->J.go i H
 eC: ∀i G H x H',C G H->i<ds.length->J.eC i H x H'-> ∃G',Ext G H G' H'/\(∀ h,ai Γ G h H->ai Γ G' h H')/\ ∃d,ds[i]? =y0 d/\aC Γ G' H' d x
 stop: ∀i G H,C G H->ds.length<=i->i<=ds.length->J.stop i H
 keep: ∀G H G' H' h,C G H->Ext G H G' H'->ai Γ G h H->C G' H'
noncomputable def Wj (Y:M.Sl) (U:St) (H:Hp):Hp:=λa=>open Classical in if ∃(i:Nat) (xs:List M.D),M.Gj Y i=y0 (.own xs)/\U[i]? =y0 (y0 (.ref a))then u0 else H a
def eU (a:Ge) (E:XK) (b:Bool) (m:M.Sl->M.AH->M.R (List M.D)):TI:=λU H R=> ∃G Y h,aw a G Y h U H/\ax a E G H (m Y h) λds _ G' H'=> ∀J C,zt a J ds C->C G' H'->(b=k9->C G' (Wj Y U H'))->R J H'
def PI.imp (h:PI X tg e t) (k: ∀U H R,t' U H R->t U H R):PI X tg e t':=λa s U H R I q=>h a s U H R I (k _ _ _ q)
section
variable {Γ:Ge}{F:M.Fx}{X:Cx}{E:XK}{k:Nat}{cf:Cf}{a b c:M.E}{x y z tg:Expr}{pos p2:Pos}{lp:Bool}
def kD (b:Ge) (G:Gh) (H:Hp) (l:Addr) (a:List V):Prop:=(Rd H l (.lst a)/\dO G l)\/rM b l a
def CL (a:Ge) (c:List M.D) (l:Addr) (b:List V) (G:Gh) (H:Hp):Prop:=kD a G H l b/\ae a G H c b
def kD.sq (z:kD Γ G H l vs):aZ Γ.K H l vs:=z.elim (λz=> .inl z.1) .inr
def iW.lV (z:iW Γ G H l vs) (a:ai Γ G h H):kD Γ G H l vs:=z.elim (λz=> .inl ⟨z.2,a.off z.1⟩) .inr
def CL.keep (z:CL Γ ds l vs G H) (e:Ext G H G' H') (d:ai Γ G h H):CL Γ ds l vs G' H':=by
 obtain⟨a,c⟩:=z
 refine⟨?_,c.ext e d⟩
 obtain⟨a,b⟩ | a:=a
 ·refine .inl ⟨e.rd a b,?_⟩
  obtain a | ⟨o,a⟩:=a
  ·exact e.off a b
  ·exact e.off a b
 ·exact .inr a
def CL.walk {K:Aa7}(d:K=Γ.K):zt Γ (lO K l) ds (CL Γ ds l vs) where
 go:=by
  rintro i G H ⟨b,c⟩ a
  obtain⟨v,e,_⟩:=c.get (Aa4 a)
  exact⟨vs,v,d▸b.sq,e⟩
 eC:=by
  rintro i G H x g ⟨b,c⟩ a ⟨e,y⟩
  subst e
  obtain⟨v,e,rd⟩:=c.get (Aa4 a)
  have:=y vs (d▸b.sq)
  rw [e]at this
  cases this
  exact⟨G,Ext.refl,λ_ q=>q,_,Aa4 a,rd⟩
 stop:=λi G H ⟨b,c⟩ a _=>⟨vs,d▸b.sq,by rw [← c.length];exact a⟩
 keep:=λG H j g h z e f=>z.keep e f
def CT (a:Ge) (c:List M.D) (l:Addr) (b:List V) (G:Gh) (H:Hp):Prop:=fm a G H l b/\ae a G H c b
def fm.mon (z:fm Γ G H l vs) (e:Mon G H G' H'):fm Γ G' H' l vs:=z.elim (λz=> .inl ⟨e.fz l z.1,e.keep l _ z.1 z.2⟩) λz=> .inr z
def CT.walk {K:Aa7}(d:K=Γ.K):zt Γ (ke K l) ds (CT Γ ds l vs) where
 go:=by
  rintro i G H ⟨b,c⟩ a
  obtain⟨v,e,_⟩:=c.get (Aa4 a)
  exact⟨vs,v,d▸b.sq,e⟩
 eC:=by
  rintro i G H x g ⟨b,c⟩ a ⟨e,y⟩
  subst e
  obtain⟨v,e,rd⟩:=c.get (Aa4 a)
  have:=y vs (d▸b.sq)
  rw [e]at this
  cases this
  exact⟨G,Ext.refl,λ_ q=>q,_,Aa4 a,rd⟩
 stop:=λi G H ⟨b,c⟩ a _=>⟨vs,d▸b.sq,by rw [← c.length];exact a⟩
 keep:=λG H j g h z e f=>⟨z.1.mon (e.mon f),z.2.ext e f⟩
def CL.fy {K:Aa7}(d:K=Γ.K):zt Γ (mi K l vs.length) ds.reverse (CL Γ ds l vs) where
 go:=λi G H ⟨c,b⟩ a=>⟨vs,d▸c.sq,rfl,by rw [← b.length];simpa using a⟩
 eC:=by
  rintro i G H x k ⟨c,b⟩ a ⟨e,y⟩
  subst e
  obtain⟨v,e,rd⟩:=b.reverse.get (Aa4 a)
  have:=y vs (d▸c.sq)
  have f:i<vs.length:=by rw [← b.length];simpa using a
  rw [List.getElem?_reverse f,this]at e
  cases e
  exact⟨G,Ext.refl,λ_ q=>q,_,Aa4 a,rd⟩
 stop:=by
  rintro i G H ⟨c,b⟩ a g
  have m:=b.length
  rw [List.length_reverse]at a g
  show i=vs.length
  omega
 keep:=λG H n k h z e j=>z.keep e j
def ZK {b:Int}:zt Γ (lj b n) ((Aa0 n).map λ(i:Nat)=>M.D.int (b+(i:Int))) (λ_ _=>True) where
 go:=λi G H _ a=>show i<n by simpa using a
 eC:=λi G H x d _ a c=>by
  obtain⟨e,y⟩:=c
  subst e y
  have a:=by simpa using a
  exact⟨G,Ext.refl,λ_ q=>q,.int (b+i),by simp [a],rfl⟩
 stop:=λi G H _ a _=>show n<=i by simpa using a
 keep:=λ_ _ _ _ _ _ _ _=>trivial
def JD {z:M.Tx}:zt Γ (iI (b6 z)) (M.hZ z) (λ_ _=>True) where
 go:=λi G H _ a=>by
  have a:=by simpa [M.hZ]using a
  exact⟨z[i],by simp [b6,a]⟩
 eC:=λi G H x g _ a f=>by
  obtain⟨e,c,b,d⟩:=f
  subst e d
  have a:=by simpa [M.hZ]using a
  have b:=by simpa [b6]using b
  exact⟨G,Ext.refl,λ_ q=>q,.str [c],by simp [M.hZ,b],rfl⟩
 stop:=λi G H _ a _=>by
  have a:=by simpa [M.hZ]using a
  show(b6 z).cps[i]? =u0
  simp [b6,a]
 keep:=λ_ _ _ _ _ _ _ _=>trivial
def xj (a: ¬ ∃ i xs,M.Gj Y i=y0 (.own xs)/\U[i]? =y0 (y0 (.ref l))):Wj Y U H l=H l:=by
 unfold Wj
 rw [if_neg a]
def Xq (s:aw Γ G Y h U H)(e:M.Gj Y i=y0 (.own xs)) (g:U[i]? =y0 (y0 (.ref l))): ¬G.fz l/\dO G l/\ ∃j,H l=y0 (.lst j)/\ae Γ G H xs j:=by
 obtain⟨v,b,a,j,c,d,k,f,m⟩:=s.slot i _ e
 rw [g]at b
 cases b
 cases c
 exact⟨d,k,j,f,m⟩
def Xw (s:aw Γ G Y h U H):Mon G H G (Wj Y U H):=by
 refine⟨λa o z e=> ?_,Aa5 _,λ_ _=>rfl,λ_ z=>z⟩
 rw [xj λ⟨i,d,b,c⟩=>(Xq s b c).1 z]
 exact e
def yW (r:Go Γ F X E k cf) (B:PE X x (tD Γ E (M.eval F a))):PI X tg x (eU Γ E y9 (M.Gk F (.seq a))):=by
 refine PI.imp (ny B) λU H R L=> ?_
 obtain⟨G,Y,h,s,p⟩:=L
 refine Qa s.heap Ext.refl s p λI v1 D n e t K q m N c=> ?_
 have lst: ∀ {f},ax Γ E G H (.ok f D) (λf x A y=> ∀J C,zt Γ J f C->C A y->(y9=k9->C A (Wj Y U y))->R J y)->(∃ l b,v1= .ref l/\kD Γ n e l b/\ae Γ n e f b) →
  (∃ a,v1= .ref a/\(∃ u,aZ X.K e a u)/\R _ e)\/(∃ a,v1= .ref a/\(∃ u,bB X.K e a u)/\R (ke X.K a) e)\/ ∃z,v1= .str z/\R (iI z) e:=λ{f} p ⟨l,b,i,g,o⟩=>
  .inl ⟨l,i,⟨b,r.K▸g.sq⟩,p n e t q.heap _ _ (CL.walk r.K) ⟨g,o⟩ λz=>absurd z Ab7⟩
 cases I with
 | v d=>
  cases d with
  | tup f=>
   obtain⟨l,b,rfl,g,j⟩:=m
   exact .inr (.inl ⟨l,rfl,⟨b,r.K▸g.sq⟩,c n e t q.heap _ _ (CT.walk r.K) ⟨g,j⟩ λz=>absurd z Ab7⟩)
  | lst f=>obtain⟨l,b,i,g,j⟩:=m;exact lst c ⟨l,b,i,g.lV q.heap,j⟩
  | au=>exact c.elim
  | bl _=>exact c.elim
  | int _=>exact c.elim
  | str z=>
   cases (show v1= .str (b6 z)from m)
   exact .inr (.inr ⟨_,rfl,c n e t q.heap _ _ JD trivial λz=>absurd z Ab7⟩)
  | ref _=>exact c.elim
  | exc _ _=>exact c.elim
  | err _ _ _=>exact c.elim
 | own f=>obtain⟨l,b,i,_,j,o,w⟩:=m;exact lst c ⟨l,b,i,.inl ⟨.inl o,j⟩,w⟩
 | bor f=>obtain⟨l,b,i,j,o,w⟩:=m;exact lst c ⟨l,b,i,.inl ⟨o,j⟩,w⟩
def II (n:Int):((Aa0 n.toNat).map λ(i:Nat)=>M.D.int (i:Int))=(Aa0 n.toNat).map λ(i:Nat)=>M.D.int (0+(i:Int)):=by
 congr 1;funext i;rw [Int.zero_add]
def yu: "range" ∈bQ:=by decide
def ZH (e:Go Γ F X E k cf)(v:br cf.sc "range" g=true) (d:Ja x=true) (f:PE X x (tD Γ E (M.eval F a))):PI X tg (.Call g [x] [] pos) (eU Γ E lp (M.Gk F (.av a))):=by
 obtain⟨p,rfl,i,w⟩:=Zb v
 refine PI.imp (Hj (e.gl _ i) (e.blt _ yu) (Jb f jg (xa d)) (xa d)) λU H R u=> ?_
 obtain⟨G,Y,h,s,p⟩:=u
 refine Qa s.heap Ext.refl s p λz v1 y t m j o l r A b=> ?_
 obtain⟨n,q,b⟩:=b.of
 split at b
 ·rename_i c
  rw [M.GY]at c
  cases r.int q
  rw [II]at b
  exact⟨n,rfl,c.1,c.2,b t m j l.heap _ _ ZK trivial λ_=>trivial⟩
 ·exact b.elim
def ZF (l:Go Γ F X E k cf)(L:br cf.sc "range" g=true) (j:Ja x=true) (f:Ja y=true) (o:PE X x (tD Γ E (M.eval F a))) (B:PE X y (tD Γ E (M.eval F b))):PI X tg (.Call g [x,y] [] pos) (eU Γ E lp (M.Gk F (.bP a b))):=by
 obtain⟨p,rfl,i,O⟩:=Zb L
 refine PI.imp (CI (l.gl _ i) (l.blt _ yu) (Jb o (Jb B jg (xa f)) (xa j)) (by rw [xa j,xa f];rfl) (xa f)) λU H R K=> ?_
 obtain⟨G,Y,h,s,p⟩:=K
 refine Qa s.heap Ext.refl s p λS v1 P V Q r D w I T e=> ?_
 obtain⟨n,q,e⟩:=e.of
 refine Qa s.heap r w e λW v2 i u z J C t v N d=> ?_
 obtain⟨m,A,d⟩:=d.of
 split at d
 ·rename_i c
  rw [M.GY]at c
  cases I.int q
  cases v.int A
  exact⟨n,m,rfl,⟨c.1.1,c.1.2,c.2.1,c.2.2⟩,d u z J t.heap _ _ ZK trivial λ_=>trivial⟩
 ·exact d.elim
def oN: "reversed" ∈bQ:=by decide
def DV (o:Go Γ F X E k cf)(Q:br cf.sc "reversed" g=true) (y:Ja x=true) (B:PE X x (tD Γ E (M.eval F a))):PI X tg (.Call g [x] [] pos) (eU Γ E false (M.Gk F (.rev a))):=by
 obtain⟨p,rfl,D,S⟩:=Zb Q
 refine PI.imp (nt (o.gl _ D) (o.blt _ oN) (Jb B jg (xa y)) (xa y)) λU H R P=> ?_
 obtain⟨G,Y,h,s,p⟩:=P
 refine Qa s.heap Ext.refl s p λN v1 K t i I O w r T b=> ?_
 have lst: ∀ {e},ax Γ E G H (.ok e.reverse K) (λe x A u=> ∀J C,zt Γ J e C->C A u->(y9=k9->C A (Wj Y U u))->R J u)->(∃ l c,v1= .ref l/\kD Γ t i l c/\ae Γ t i e c) →
  ∃a L,[v1]= [.ref a]/\aZ X.K i a L/\R _ i:=λ{e} p ⟨l,c,f,n,m⟩=>
  ⟨l,c,by rw [f],o.K▸n.sq,p t i I w.heap _ _ (CL.fy o.K) ⟨n,m⟩ λz=>absurd z Ab7⟩
 cases N with
 | v d=>
  cases d with
  | lst e=>obtain⟨l,c,f,n,j⟩:=r;exact lst b ⟨l,c,f,n.lV w.heap,j⟩
  | tup _=>exact b.elim
  | au=>exact b.elim
  | bl _=>exact b.elim
  | int _=>exact b.elim
  | str _=>exact b.elim
  | ref _=>exact b.elim
  | exc _ _=>exact b.elim
  | err _ _ _=>exact b.elim
 | own e=>obtain⟨l,c,f,_,j,m,q⟩:=r;exact lst b ⟨l,c,f,.inl ⟨.inl m,j⟩,q⟩
 | bor e=>obtain⟨l,c,f,j,m,q⟩:=r;exact lst b ⟨l,c,f,.inl ⟨m,j⟩,q⟩
end
section
variable {Γ:Ge}{F:M.Fx}{X:Cx}{E:XK}{k:Nat}{cf:Cf}
theorem Zd: ∀(Y) (i j) (w),M.Gj (M.Gy Y i w) j=if j=i/\i<Y.length then y0 w else M.Gj Y j
 | [],i,j,w=>by simp
 | x::r,0,0,w=>by simp
 | x::r,0,j+1,w=>by simp
 | x::r,i+1,0,w=>by simp
 | x::r,i+1,j+1,w=>by
  have:=Zd r i j w
  simp only [M.Gy,M.Gj,this,Ab8]
  by_cases h:j=i/\i<r.length
  ·rw [if_pos h,if_pos (by omega)]
  ·rw [if_neg h,if_neg (by omega)]
theorem Jj: ∀(Y) (i) (w),(M.Gy Y i w).length=Y.length
 | [],_,_=>rfl
 | _::_,0,_=>rfl
 | _::r,i+1,w=>by simp [Jj r i w]
theorem Qm: ∀ {Y}{i}{w},M.Gj Y i=y0 w->i<Y.length
 | [],_,_,e=>by simp at e
 | _::_,0,_,_=>by simp
 | _::r,i+1,w,e=>by
  have:=Qm (by simpa using e)
  simp;omega
theorem aw.set (s:aw Γ G Y h U H)(r:ar Γ G H w v)
 (o:fW w=k9-> ∀ j J,j≠i->M.Gj Y j=y0 J->fW J=k9-> ∀a,v= .ref a->U[j]? ≠y0 (y0 (.ref a))):aw Γ G (M.Gy Y i w) h (U.set i (y0 v)) H where
 len:=by rw [Jj,Ae0];exact s.len
 slot:=λj J e=>by
  rw [Zd]at e
  by_cases c:j=i/\i<Y.length
  ·rw [if_pos c]at e
   cases e
   obtain⟨rfl,c⟩:=c
   exact⟨v,Ad0 (by rw [← s.len];exact c),r⟩
  ·rw [if_neg c]at e
   have t:=λz=>c ⟨z,by subst z;exact Qm e⟩
   obtain⟨y,A,x⟩:=s.slot j J e
   exact⟨y,by rw [Ad (Ne.symm t)];exact A,x⟩
 apart:=λp q u J a b f d m l=>by
  rw [Zd]at f d
  by_cases k:p=i/\i<Y.length
  ·rw [if_pos k]at f
   cases f
   obtain⟨rfl,k⟩:=k
   rw [if_neg (λz=>b z.1.symm)]at d
   rw [Ad0 (by rw [← s.len];exact k)]at l
   cases l
   rw [Ad b]
   exact o rfl q J (Ne.symm b) d m a rfl
  ·rw [if_neg k]at f
   have n:=λz=>k ⟨z,by subst z;exact Qm f⟩
   rw [Ad (Ne.symm n)]at l
   by_cases g:q=i/\i<Y.length
   ·rw [if_pos g]at d
    cases d
    obtain⟨rfl,g⟩:=g
    rw [Ad0 (by rw [← s.len];exact g)]
    intro z
    cases z
    exact o m p _ n f rfl a rfl l
   ·rw [if_neg g]at d
    have B:=λz=>g ⟨z,by subst z;exact Qm d⟩
    rw [Ad (Ne.symm B)]
    exact s.apart p q u J a b f d m l
 heap:=s.heap
def aw.cX (s:aw Γ G Y h U H)(r:aC Γ G H d v):aw Γ G (M.Gy Y i (.v d)) h (U.set i (y0 v)) H:=s.set r λz=>by cases z
def gD:List Nat->List V->St->St
 | i::is,v::a,U=>gD is a (U.set i (y0 v))
 | _,_,U=>U
theorem QL : ∀ {is}{ds}{j}{Y J}{U},M.aH is ds Y=y0 J->ae Γ G H ds j->aw Γ G Y h U H->aw Γ G J h (gD is j U) H/\is.length=j.length
 | [],[],_,_,_,_,e,rfl,s=>by cases e;exact⟨s,rfl⟩
 | [],_::_,_,_,_,_,e,_,_=>by simp [M.aH]at e
 | _::_,[],_,_,_,_,e,_,_=>by simp [M.aH]at e
 | i::is,d::ds,_,_,_,_,e,⟨v,r,rfl,f,b⟩,s=>by
  obtain⟨c,a⟩:=QL (by simpa [M.aH]using e) b (s.cX f)
  exact⟨c,congrArg (· +1) a⟩
def gM (d:Ge) (c:List Nat) (one:Bool):TG:=λv U H Q=>match one with
 | true=> ∃i,c= [i]/\Q (U.set i (y0 v)) H
 | false=> ∃G ds b a,v= .ref a/\fm d G H a b/\ae d G H ds b/\c.length=b.length/\Q (gD c b U) H
theorem zT (b:Go Γ F X E k cf): ∀ {is}{es},Zo cf is es=k9->kO X es (λj U H Q=>j.length=is.length/\Q (gD is j U) H)
 | [],[],_=>λa s U H j f Q I r h=>by
  have c:=Ah6 h.1
  subst c
  exact DR a s U H [] f Q I r ⟨rfl,h.2⟩
 | [],_::_,h=>by simp [Zo]at h
 | _::_,[],h=>by simp [Zo]at h
 | i::is,e::es,h=>by
  cases e with
  | Name x p=>
   simp only [Zo,Aa6,decide_eq_true_eq]at h
   obtain⟨⟨m,g⟩,l⟩:=h
   have n:=zT b l
   have c:=b.gf x g
   have d:=AW (yB (pos:=p) (by rw [b.N];exact b.nd) (by rw [b.N];exact m) c.1 c.2) n
   intro a s U H j f Q I r q
   refine d a s U H j f Q I r ?_
   cases j with
   | nil=>simp at q
   | cons v j=>
    refine⟨v,j,rfl,?_⟩
    exact⟨by simpa using q.1,q.2⟩
  | _=>simp [Zo]at h
theorem yf : ∀ {is}{es},Zo cf is es=k9->(assignEach es env).length=is.length/\(assignEach es env).findIdx? (·.1)=u0
 | [],[],_=>⟨rfl,rfl⟩
 | [],_::_,h=>by simp [Zo]at h
 | _::_,[],h=>by simp [Zo]at h
 | i::is,e::es,h=>by
  cases e with
  | Name x p=>
   simp only [Zo,Aa6]at h
   obtain⟨c,a⟩:=yf h.2
   have b:assignEach (.Name x p::es) env=(y9,assign (.Name x p) env)::assignEach es env:=rfl
   rw [b]
   refine⟨congrArg (· +1) c,?_⟩
   rw [List.findIdx?_cons]
   simp [a]
  | _=>simp [Zo]at h
def qp (d:Go Γ F X E k cf)(h:Ze cf tg one e=k9):PG X e (gM Γ tg one):=by
 cases one with
 | true=>
  cases e with
  | Name x p=>
   simp [Ze,Aa6]at h
   cases tg with
   | nil=>simp at h
   | cons i r=>
    cases r with
    | cons _ _=>simp at h
    | nil=>
     simp only [Zo,Aa6,decide_eq_true_eq]at h
     obtain⟨_,⟨o,m⟩,_⟩:=h
     have g:=d.gf x m
     have c:=yB (pos:=p) (by rw [d.N];exact d.nd) (by rw [d.N];exact o) g.1 g.2
     intro b s U H v u Q I r q
     obtain⟨j,e,q⟩:=q
     cases e
     exact c b s U H v u Q I r q
  | _=>simp [Ze]at h
 | false=>
  cases e with
  | Tuple A n p=>
   have h:=h
   obtain⟨hn,f⟩:=yf h
   have c:=L9 (k:=n) (pos:=p) d.calm (zT d h) hn f
   intro b s U H v u Q I r q
   obtain⟨G,z,w,a,rfl,t,y,l,q⟩:=q
   exact c b s U H _ u Q I r ⟨a,w,rfl,d.K▸t.sq,l.symm,l.symm,q⟩
  | _=>simp [Ze]at h
def Zl (k) (l): ∀ i,M.Gj (Aa9 k u0++l) (k+i)=M.Gj l i:=by
 induction k with
 | zero=>intro i;simp
 | succ k a=>intro i;rw [Ad2,show k+1+i=(k+i)+1 by lia];exact a i
def jt (k) (l): ∀ {i},i<k->M.Gj (Aa9 k u0++l) i=none:=by
 induction k with
 | zero=>intro i h;lia
 | succ k a=>
  intro i h
  cases i with
  | zero=>rfl
  | succ i=>rw [Ad2];exact a (by lia)
theorem WB: ∀(l) (i),M.Gj l i=(l[i]?).join
 | [],_=>by simp
 | _::_,0=>by simp
 | _::r,i+1=>by simpa using WB r i
def jJ (s:aw Γ G Y h U H)(e:M.Gf Y j=y0 w): ∃v,U[j]? =y0 (y0 v)/\ar Γ G H w v/\(fW w=k9-> ∃i,M.Gj Y j=y0 i/\fW i=k9)/\m7 w=true:=by
 unfold M.Gf at e
 cases q:M.Gj Y j with
 | none=>rw [q]at e;cases e
 | some i=>
  obtain⟨v,c,b⟩:=s.slot j i q
  rw [q]at e
  cases i with
  | v d=>cases e;exact⟨v,c,b,λz=>(by cases z),rfl⟩
  | own n=>cases e;obtain⟨a,f,k,o,l,g,m⟩:=b;exact⟨v,c,⟨a,f,k,l,.inl g,m⟩,λ_=>⟨_,rfl,rfl⟩,rfl⟩
  | bor n=>cases e;exact⟨v,c,b,λ_=>⟨_,rfl,rfl⟩,rfl⟩
def iL (k:Nat) (az:List Nat) (Y:M.Sl):M.Sl:=Aa9 k u0++az.map λj=>M.Gf Y j
def B2 (s:aw Γ G Y h U H) (kk) (az)(d:Ub.length=kk+az.length) (f: ∀i,i<az.length->Ub[kk+i]? =y0 ((U[az.getD i 0]?).join)):
 aw Γ G (iL kk az Y) h Ub H where
 len:=by unfold iL;rw [Ab2,Ae6,Aa,d]
 slot:=λi w e=>by
  unfold iL at e
  by_cases g:i<kk
  ·rw [jt kk _ g]at e;cases e
  ·obtain⟨j,rfl⟩: ∃j,i=kk+j:=⟨i-kk,by omega⟩
   rw [Zl,WB,Ac4]at e
   cases q:az[j]? with
   | none=>rw [q]at e;cases e
   | some c=>
    rw [q]at e
    have e:=e
    obtain⟨v,m,l,_⟩:=jJ s e
    have k:=(Ac0.mp q).1
    refine⟨v,?_,l⟩
    rw [f j k,Ab5,q]
    show y0 ((U[c]?).join)=_
    rw [m]
    rfl
 apart:=λi j r w a o b u p t=>by
  exfalso
  unfold iL at b
  by_cases g:i<kk
  ·rw [jt kk _ g]at b;cases b
  ·obtain⟨n,rfl⟩: ∃j,i=kk+j:=⟨i-kk,by omega⟩
   rw [Zl,WB,Ac4]at b
   cases q:az[n]? with
   | none=>rw [q]at b;cases b
   | some c=>
    rw [q]at b
    have b:=b
    obtain⟨_,_,_,_,z⟩:=jJ s b
    cases z
 heap:=s.heap
end
theorem Wd {env:Env}{d:NameKind}(g:d≠ .free): ∀ {a:List (Str×NameKind)}{x},a.lookup x=y0 d →
 (a.map λ(n,k)=>if(k==NameKind.free&&env.scope.kind== .function&&env.kindOf n==y0 .cell)then(n,NameKind.cell)else(n,k)).lookup x=y0 d
 | [],_,h=>by simp at h
 | (n,k)::r,x,h=>by
  have i:= @Wd env d g r x
  rw [Ab]
  rw [Ac3]at h
  cases c:x==n with
  | true=>
   rw [c]at h
   have e:=by simpa using h
   subst e
   have j:(k==NameKind.free)=false:=by simpa using g
   simp only [j,Al3,Ag7,if_false,Ac3,c]
  | false=>
   rw [c]at h
   have q:=i h
   by_cases b:(k==NameKind.free&&env.scope.kind== .function&&env.kindOf n==y0 .cell)=k9
   ·simp only [b,if_true,Ac3,c]
    exact q
   ·have f:=Aj2.mpr b
    simp only [f,Ag7,if_false,Ac3,c]
    exact q
section
variable {Γ:Ge}{F:M.Fx}{X:Cx}{E:XK}{k:Nat}{cf:Cf}
structure kq (cf:Cf) (scope:Scope) (N:List Str) (k:Nat) (az:List Nat):Prop where
 kind:scope.kind= .function
 Hf:(scope.names.map Prod.fst).Nodup
 names: ∀y∈scope.names,y.2= .local->scope.names.lookup y.1=y0 .local
 free: ∀y∈scope.names,y.2= .free->cf.sc.names.lookup y.1=y0 .cell\/cf.sc.names.lookup y.1=y0 .free
 gm: ∀x∈N.drop k,scope.names.lookup x=y0 .free
 az:qG cf az (N.drop k)=k9
 le:k<=N.length
 nd:N.Nodup
def jH (h:X4 cf scope N kk az=k9):kq cf scope N kk az:=by
 simp only [X4,Aa6,decide_eq_true_eq,Ad8]at h
 obtain⟨⟨⟨⟨⟨⟨⟨⟨k,e⟩,j⟩,f⟩,g⟩,i⟩,b⟩,c⟩,l⟩:=h
 exact⟨k,e,λy a=>j y a,λy a=>f y a,λx d=>g x d,i,b,c⟩
theorem xX (a:Go Γ F X E k cf): ∀ {az}{xs},qG cf az xs=k9->cc X az xs
 | [],[],_=>trivial
 | [],_::_,h=>by simp [qG]at h
 | _::_,[],h=>by simp [qG]at h
 | j::e,x::xs,h=>by
  simp only [qG,Aa6,decide_eq_true_eq]at h
  obtain⟨⟨d,b⟩,c⟩:=h
  exact⟨by rw [a.N];exact d,a.lg x b,xX a c⟩
def WR (a:Go Γ F X E k cf)(h:kq cf scope N kk az):jT X scope N kk az:=
 ⟨h.kind,h.Hf,h.names,λy b c=>a.lg y.1 (h.free y b c),h.gm,xX a h.az,h.le⟩
def Q8 (h:X1 sc x=k9):sc.names.lookup x=y0 .local\/sc.names.lookup x=y0 .cell\/sc.names.lookup x=y0 .free:=by
 unfold X1 at h
 split at h
 ·rename_i q;exact .inl q
 ·rename_i q;exact .inr (.inl q)
 ·rename_i q;exact .inr (.inr q)
 ·cases h
def W8 (h:iN sc x=k9):sc.names.lookup x=y0 .local\/sc.names.lookup x=y0 .cell:=by
 unfold iN at h
 split at h
 ·rename_i q;exact .inl q
 ·rename_i q;exact .inr q
 ·cases h
def jR (h:iy sc x=k9):sc.names.lookup x=y0 .globalImplicit:=by
 unfold iy at h
 split at h
 ·rename_i q;exact q
 ·cases h
def Zy (a:Go Γ F X E k cf)(h:kq cf scope N kk az) (C:Addr) (o:List Addr) (s:Shared) (H:Hp):Go Γ F (qd X N scope C o s H) E0 k { cf with sc:=scope,N:=N } where
 N:=rfl
 K:=a.K
 cl:=a.cl
 ow:=a.ow
 nd:=h.nd
 eO:=λx b=>by
  rcases Q8 b with q | q | q
  ·exact .inl (Wd (by decide) q)
  ·exact .inr (.inl (Wd (by decide) q))
  ·exact .inr (xi q)
 i7:=λx b=>Wd (by decide) b
 gf:=λx b=>by
  rcases W8 b with q | q
  ·exact⟨.inl (Wd (by decide) q),.inr (Wd (by decide) q)⟩
  ·exact⟨.inr (Wd (by decide) q),.inl (decide_eq_true q)⟩
 lg:=λx b=>by
  rcases b with q | q
  ·exact .inl (Wd (by decide) q)
  ·exact xi q
 gl:=λx b=>Wd (by decide) (jR b)
 calm:=a.calm
 room:=a.room
 eJ:=a.eJ
 pass:=λc U A z e l _ p=>by
  obtain⟨x,w,t,B,y,_,_,_,_,_,_,_,_,_,_,r⟩:=p
  exact r.elim
 blt:=a.blt
 con:=a.con
 fn:=λf u=>by
  obtain⟨d,n,m,j,g,i,v⟩:=(a.fn f u).imp λd h=>h.ex
  exact⟨d,⟨n,m,j,g,i,v⟩⟩
 cls:=a.cls
 fld:=a.fld
 i6:=a.i6
 fQ:=a.fQ
theorem vP: ∀(is) (J) (U) (j),j∉is->(gD is J U)[j]? =U[j]?
 | [],_,_,_,_=>rfl
 | _::_,[],_,_,_=>rfl
 | i::is,v::J,U,j,h=>by
  show(gD is J (U.set i (y0 v)))[j]? =U[j]?
  rw [vP is J _ j λz=>h (Aa1 _ z),Ad (λz:i=j=>h (by rw [z];exact Aa3))]
theorem jE: ∀(is) (j) (U),(gD is j U).length=U.length
 | [],_,_=>rfl
 | _::_,[],_=>rfl
 | i::is,v::j,U=>by
  show(gD is j (U.set i (y0 v))).length=U.length
  rw [jE is j,Ae0]
def aa (e:M.Gn tg one d Y=y0 Y') (r:aC Γ G H d x) (s:aw Γ G Y h U H)
 (f: ∀J,aw Γ G Y' h J H->(∀ j,j∉tg->J[j]? =U[j]?)->J.length=U.length->Q J H):gM Γ tg one x U H Q:=by
 cases one with
 | true=>
  cases tg with
  | nil=>cases e
  | cons i m=>
   cases m with
   | cons _ _=>cases e
   | nil=>
    cases e
    exact⟨i,rfl,f _ (s.cX r) (λj b=>Ad λz=>b (by simp [z])) (Ae0 ..)⟩
 | false=>
  cases d with
  | tup o=>
   obtain⟨a,c,rfl,l,g⟩:=r
   obtain⟨n,k⟩:=QL (e) g s
   exact⟨G,o,c,a,rfl,l,g,k,f _ n (λj b=>vP tg c U j b) (jE tg c U)⟩
  | _=>cases e
def jY {step:M.D->M.AH->M.R (Option M.D)}: ∀ {ds}{h}{d}{h'},M.Gv step ds h≠ .exc d h'
 | [],_,_,_=>λe=>by cases e
 | x::ds,h,d,h'=>λe=>by
  rw [M.Gv]at e
  split at e
  ·split at e<;>cases e
  ·cases e
def J1 {step:M.D->M.AH->M.R (Option M.D)}(e:M.Gv step (x::ds) h= .ok ys hf): ∃o h1 r,step x h= .ok o h1/\M.Gv step ds h1= .ok r hf/\ys=(match o with | some y=>y::r | none=>r):=by
 rw [M.Gv]at e
 split at e
 ·rename_i o h1 a
  split at e
  ·rename_i r c b
   cases e
   exact⟨o,h1,r,a,b,rfl⟩
  ·cases e
 ·cases e
def mI (F:M.Fx) (g:List Nat) (one:Bool) (f:M.Sl) (a:Bool) (c elt:M.E):M.D->M.AH->M.R (Option M.D):=λd h=>match M.Gn g one d f with
 | none=> .fail
 | some e=>(if a then(M.eval F c e h).bind λx h=>M.R.of h (M.GU h x)else .ok k9 h).bind λb h=>match b with
  | true=>(M.eval F elt e h).bind λy h=>(M.R.of h y.d).bind λy h=> .ok (y0 y) h
  | false=> .ok u0 h
def EO :M.eval F (.comp tg one kk az it k6 c elt) Y h=(M.Gk F it Y h).bind λds h=>
 if ds.length<=M.aY then(M.Gv (mI F tg one (iL kk az Y) k6 c elt) ds h).bind λys h=> .ok (.own ys) h else .fail:=by
 rw [M.eval];rfl
noncomputable def kh (F:M.Fx) (a:Bool) (c:M.E):M.Sl->M.AH->M.R Bool:=λY h=>if a then M.Gs F c Y h else .ok k9 h
def Qd {r:M.R α}(e:r.bind f= .ok b h): ∃a h1,r= .ok a h1/\f a h1= .ok b h:=by
 cases r with
 | ok a h1=>exact⟨a,h1,rfl,e⟩
 | exc d h1=>cases e
 | fail=>cases e
def Q4 (a:Qe iter=k9): ∀v,foldedSetIterable iter env v=pure v:=λv=>by cases iter<;>first | rfl | (simp [Qe]at a)
def ry (htk: ∀i∈tg,i<kk)(h0:tD Γ E (M.eval F (.comp tg one kk az it k6 c elt)) U H Q):
 lZ kk az (eU Γ E y9 (M.Gk F it)) (λ_ _ _ _=>gM Γ tg one) (λ_ _ _ _=>cu Γ E0 (kh F k6 c)) (λ_ _ _ _=>tD Γ E0 (M.eval F elt)) U H Q:=by
 obtain⟨G,Y,h,s,p⟩:=h0
 rw [EO]at p
 refine⟨G,Y,h,s,?_⟩
 cases qi:M.Gk F it Y h with
 | exc d l=>rw [qi]at p;exact p
 | fail=>rw [qi]at p;exact p
 | ok f h1=>
  rw [qi]at p
  intro G1 H1 e1 u J C N c0 _ Ca fp st
  have p:ax Γ E G H (if f.length<=M.aY then(M.Gv _ f h1).bind λys h=> .ok _ h else .fail) λw l q n=> ∀v,ar Γ q n w v->aF Y U H w v->Q v n:=p
  by_cases hL:f.length<=M.aY
  rotate_left
  ·rw [if_neg hL]at p;exact p.elim
  rw [if_pos hL]at p
  cases qc:M.Gv (mI F tg one _ k6 c elt) f h1 with
  | exc d l=>exact absurd qc jY
  | fail=>rw [qc]at p;exact p.elim
  | ok ys hf=>
   rw [qc]at p
   have p:=p
   have hLs:=Jk
   refine⟨λi m yv Ub n=> ∃q l done rest,(m=f.length-i/\i<=f.length/\done.length<=i)/\Ext G1 H1 q n/\ai Γ q l n/\C q n/\ae Γ q n done yv ∧
    M.Gv (mI F tg one (iL kk az Y) k6 c elt) (f.drop i) l= .ok rest hf/\ys=done++rest/\Ub.length=kk+az.length/\ ∀j,j<az.length->Ub[kk+j]? =y0 ((U[az.getD j 0]?).join),⟨f.length,?_⟩,?_⟩
   ·refine⟨G1,h1,[],ys,⟨by simp,Ah2 _,Aa5 _⟩,Ext.refl,u,c0,rfl,qc,rfl,?_,λj W=> ?_⟩
    ·unfold mq;rw [Ab2,Ae6,Aa]
    ·unfold mq
     rw [Af2 (by simp),Ae6,Nat.add_sub_cancel_left,Ac4,Aa4 W,Ab5,Aa4 W]
     rfl
   ·rintro i m yv Ub n ⟨q,l,done,rest,⟨rfl,hi',hd⟩,L,e,K,rd,X,y,k,A⟩
    have ldone:=rd.length
    by_cases t:i<f.length
    ·refine .inr ⟨N.go i q n K t,by lia,_,λyv' Ub' R w=>⟨f.length-(i+1),by lia,w⟩,λx R hy=> ?_⟩
     obtain⟨G4,x4,hx4,d,ed,rdx⟩:=N.eC i q n x R K t hy
     have K:=N.keep _ _ _ _ l K x4 e
     have rd:=rd.ext x4 e
     have L:=L.trans u x4
     have e:=hx4 _ e
     have edr:f.drop i=d::f.drop (i+1):=by
      rw [Al2 t]
      rw [Aa4 t]at ed
      cases ed
      rfl
     rw [edr]at X
     obtain⟨o,h2,r,O,S,er⟩:=J1 X
     unfold mI at O
     cases qb:M.Gn tg one d (iL kk az Y)with
     | none=>rw [qb]at O;cases O
     | some Y'=>
      rw [qb]at O
      have so:=s.ext (e1.trans s.heap L) e
      have sb:=B2 so kk az k A
      refine aa qb rdx sb λU2 s2 same V=> ?_
      have g: ∀j,j<az.length->U2[kk+j]? =y0 _:=λj W=>by
       rw [same _ λz=>by have:=htk _ z;lia];exact A j W
      obtain⟨b,h3,B,a⟩:=Qd (show (kh F k6 c Y' l).bind _=_ from O)
      refine⟨G4,Y',l,s2,?_⟩
      rw [B]
      intro G3 H3 T P
      have s3:=s2.ext T P
      cases b with
      | false=>
       refine mY ?_
       have a:=a
       cases a
       exact⟨G3,_,done,r,⟨rfl,by lia,by lia⟩,L.trans u T,P,N.keep _ _ _ _ l K T e,rd.ext T e,S,by rw [y,er],by rw [V];exact k,g⟩
      | true=>
       refine nc ?_
       obtain⟨w,h4,qe,a⟩:=Qd (a)
       refine⟨G3,Y',h3,s3,?_⟩
       rw [qe]
       intro G4 H4 e4 hr4 v rw' fw
       obtain⟨dd,h5,Z,a⟩:=Qd (a)
       cases qw:w.d with
       | none=>rw [qw]at Z;cases Z
       | some d'=>
        rw [qw]at Z
        cases Z
        cases (a)
        have s4:=s3.ext e4 hr4
        obtain⟨G5,e5,s5,rdv,m5⟩:=nX e4 s4 s3 rw' fw qw
        have I:=T.trans e e5
        refine⟨G5,_,done++ [dd],r,⟨rfl,by lia,by rw [Ab2,Af7];lia⟩,L.trans u I,s5.heap,N.keep _ _ _ _ l K I e,(rd.ext I e).append ⟨v,[],rfl,rdv,rfl⟩,S,?_,by rw [V];exact k,g⟩
        rw [y,er]
        simp
    ·have ei:i=f.length:=by lia
     subst ei
     rw [List.drop_length]at X
     cases (X)
     rw [Ae4]at y
     subst y
     exact .inl ⟨N.stop _ q n K (Aa5 _) (Aa5 _),by lia,λD hD=>aB.own (aB.mk p (e1.trans s.heap L) s.heap) e rd D hD⟩
def LW (f:Go Γ F X E k cf)(b:kq cf scope N kk az)
 (l:az.length=(N.drop kk).length) (d:Ze { cf with sc:=scope,N:=N } tg one t=k9) (e: ∀i∈tg,i<kk) (a:Qe iter=k9)
 (m:PI X t iter (eU Γ E y9 (M.Gk F it)))
 (h: ∀C fp s H,PE (qd X N scope C fp s H) y (tD Γ E0 (M.eval F elt)))
 (g: ∀C fp s H,gr (qd X N scope C fp s H) ifs (cu Γ E0 (kh F k6 c))):
 PE X (.ListComp y [⟨t,iter,ifs,0⟩] scope pos) (tD Γ E (M.eval F (.comp tg one kk az it k6 c elt))):=
 PE.imp (KY (WR f b) m (λC fp s H=>qp (Zy f b C fp s H) d) g h f.calm (Q4 a)) λU H Q j=>ry e j
def Z5 (a:Go Γ F X E k cf)(o:cf.N[i]? =y0 x) (m:iN cf.sc x=k9)(h:swapsWith (.ListComp y [⟨t,iter,ifs,0⟩] scope p0) (y0 (.Name x pos2)) pos.line X.env=pure k9) (e:kq cf scope N kk az)
 (n:az.length=(N.drop kk).length) (j:Ze { cf with sc:=scope,N:=N } tg one t=k9) (f: ∀i∈tg,i<kk) (b:Qe iter=k9)
 (r:PI X t iter (eU Γ E y9 (M.Gk F it)))
 (p: ∀C fp s H,PE (qd X N scope C fp s H) y (tD Γ E0 (M.eval F elt)))
 (u: ∀C fp s H,gr (qd X N scope C fp s H) ifs (cu Γ E0 (kh F k6 c))):
 PS X (.Assign [.Name x pos2] (.ListComp y [⟨t,iter,ifs,0⟩] scope p0) pos) (g7 (tD Γ E (M.eval F (.comp tg one kk az it k6 c elt))) (xV i)):=by
 have l:=a.gf x m
 have g:=He (by rw [a.N];exact a.nd) (by rw [a.N];exact o) l.1 (WR a e) r (λC fp s H=>qp (Zy a e C fp s H) j) u p h a.calm (Q4 b) l.2
 exact λd s U H D I q=>g d s U H D I (ry f q)
def ww (e:M.bj h o=y0 (r,xs)):o=y0 (.v (.ref r))/\h[r]? =y0 (.lst xs):=by
 unfold M.bj at e
 split at e
 ·split at e
  ·rename_i q
   cases e
   exact⟨rfl,q⟩
  ·cases e
 ·cases e
def jw (s:aw Γ G Y h U H)(e:M.bj h (M.Gj Y i)=y0 (r,xs)):U[i]? =y0 (y0 (.ref (G.aU r)))/\ ∃j,H (G.aU r)=y0 (.lst j)/\ae Γ G H xs j:=by
 obtain⟨c,d⟩:=ww e
 obtain⟨v,f,b⟩:=s.slot i _ c
 obtain⟨k,g⟩:=(b)
 subst g
 obtain⟨_,j,a,rv⟩:=s.heap.cell r xs d
 exact⟨f,j,a,rv⟩
def ZO (b:Go Γ F X E k cf)(h1:cf.N[i]? =y0 x) (h2:X1 cf.sc x=k9) (a:ck x=k9):PE X (.Name x p) (mz i):=by
 unfold ck at a
 rw [Aa6]at a
 exact xm (by rw [b.N];exact h1) (b.eO x h2) (by simpa using a.1) (by simpa using a.2)
def BY (l:Go Γ F X E k cf)(h1:cf.N[i]? =y0 y) (h2:X1 cf.sc y=k9) (g:ck y=k9) (d:PE X x (tD Γ E (M.eval F a))):PE X (.Compare x [mM neg] [.Name y j] pos) (tD Γ E (M.eval F (.cI neg a i))):=by
 refine PE.imp (Q5 (rq neg) d (ZO l h1 h2 g) (jj rfl)) λU H Q t=> ?_
 obtain⟨G,Y,h,s,p⟩:=t
 refine Qa s.heap Ext.refl s p λv v1 h1 q u e n b o w j=> ?_
 unfold M.cI at j
 split at j
 ·rename_i f r m c
  cases o
  exact⟨_,(Ws b c).1,f,_,m,rfl,rfl,(Ws b c).2,j q _ e b.heap _ rfl trivial⟩
 ·exact j.elim
def HZ (l:Go Γ F X E k cf)(h1:cf.N[i]? =y0 y) (h2:X1 cf.sc y=k9) (g:ck y=k9) (d:PE X x (tD Γ E (M.eval F a))):PT X (.Compare x [mM neg] [.Name y j] pos) (cu Γ E (M.Gs F (.cI neg a i))):=by
 refine PT.imp (jZ (rq neg) d (ZO l h1 h2 g) (jj rfl)) λU H Q t=> ?_
 obtain⟨G,Y,h,s,p⟩:=t
 unfold M.Gs at p
 rw [M.eval,zf]at p
 refine Qa s.heap Ext.refl s p λv v1 h1 q u e n b o w j=> ?_
 unfold M.cI at j
 split at j
 ·rename_i f r m c
  cases o
  exact⟨_,(Ws b c).1,f,_,m,rfl,rfl,(Ws b c).2,_,rfl,j q _ e b.heap⟩
 ·exact j.elim
def L5 (a:Go Γ F X E k cf)(h1:cf.N[i]? =y0 x) (h2:X1 cf.sc x=k9) (b:ck x=k9):PE X (.Attribute (.Name x p1) (qf f) pos) (tD Γ E (M.eval F (.xf i f))):=by
 refine PE.imp (LN (ZO a h1 h2 b) rfl) λU H Q r=> ?_
 obtain⟨G,Y,h,s,p⟩:=r
 rw [M.eval]at p
 split at p
 ·rename_i c g d q
  split at p
  ·rename_i w
   subst w
   obtain⟨v,j,l,n,u,rfl,z,A,t,m,y,e,o⟩:=s.slot i _ q
   exact⟨_,j,l,Γ.ca c,n,u,rfl,t,m,a.K▸e,ax.val p Ext.refl s.heap o trivial⟩
  ·exact p.elim
 ·exact p.elim
end
def PW.eB (h:PT X (.BoolOp op vs pos) t):PW X (.BoolOp op vs pos) t:=λb a s U H Q I q=>by
 have:=h a s U H Q I q
 exact this
theorem xy : ∀ {es}{xs}{Y}{h}{ds}{h'},a8 cf es xs=k9->M.Gm F es Y h= .ok ds h'->ds.length=xs.length
 | .nil,xs,_,_,_,_,c,e=>by
  cases Ae1.mp c
  rw [M.Gm]at e;cases e;rfl
 | .cons a es,xs,Y,h,ds,h',c,e=>by
  refine kC (λx r c=> ?_) xs c
  obtain⟨w,j,g,e⟩:=Qd e
  obtain⟨d,f,k,e⟩:=Qd e
  obtain⟨r,i,b,e⟩:=Qd e
  cases e
  rw [Ab8,Ab8,xy (a2 c).2 b]
theorem Je : ∀ {es}{xs},a8 cf es xs=k9-> ∀e∈xs,Ja e=k9
 | .nil,xs,c=>by
  cases Ae1.mp c
  intro e b;cases b
 | .cons a es,xs,c=>by
  refine kC (λx r c=> ?_) xs c
  intro e b
  rcases Ab9.mp b with rfl | b
  ·exact(a3 c).1
  ·exact Je (a2 c).2 e b
theorem zE : ∀ {az}{xs},qG cf az xs=k9->az.length=xs.length
 | [],[],_=>rfl
 | [],_::_,h=>by simp [qG]at h
 | _::_,[],h=>by simp [qG]at h
 | j::a,x::xs,h=>by
  simp only [qG,Aa6]at h
  exact congrArg (· +1) (zE h.2)
def xM (h:qk e f=k9):Qe e=true:=by
 refine zi (λg x l p h=> ?_) e h
 rfl
def zU (h:cN cf it e=k9):Qe e=true:=by
 cases it with
 | seq a=>exact(a2 h).1
 | av a=>exact xM h
 | bP a b=>exact xM h
 | rev a=>exact xM h
 | zip a b=>exact bF h
 | enum a=>exact bF h
section
variable {Γ:Ge}{F:M.Fx}{k:Nat}
def bo (a:Go Γ F X E k cf) (r:PE X x (tD Γ E (M.eval F m))) (b: ∀i,isTrue x X.env i=(do let v ←i;standAt x.pos;holding [v] (truthy v))):PE X x (tD Γ E (M.eval F m))/\(eN m=k9->PT X x (cu Γ E (M.Gs F m))):=⟨r,λ_=>AZ a r b⟩
mutual
theorem Xb: ∀(m:M.E){X:Cx}{E:XK}{cf:Cf}{e:Expr},Go Γ F X E k cf->jc cf m e=k9->PE X e (tD Γ E (M.eval F m))/\(eN m=k9->PT X e (cu Γ E (M.Gs F m)))
 | .var i,X,E,cf,e,go,h=>by
  refine Wq (λx p h=> ?_) e h
  obtain⟨h1,h2,h3⟩:=ig h
  exact bo go (Fi go h1 h2 h3) λ_=>rfl
 | .con c,X,E,cf,e,go,h=>by
  have r:=C1 go h
  obtain⟨p,rfl,_,_⟩:=Zb h
  exact bo go r λ_=>rfl
 | .int i,X,E,cf,e,go,h=>by
  refine jX (λx n p h=> ?_) e h
  cases of_decide_eq_true h;exact bo go Ef λ_=>rfl
 | .bl i,X,E,cf,e,go,h=>by
  refine jX (λx n p h=> ?_) e h
  cases of_decide_eq_true h;exact bo go Fw λ_=>rfl
 | .au,X,E,cf,e,go,h=>by
  refine jX (λx n p h=> ?_) e h
  cases of_decide_eq_true h;exact bo go A6 λ_=>rfl
 | .str i,X,E,cf,e,go,h=>by
  refine jX (λx n p h=> ?_) e h
  cases of_decide_eq_true h;exact bo go Ij λ_=>rfl
 | .tup es,X,E,cf,e,go,h=>by
  refine l3 (λx n p h=> ?_) e h
  obtain⟨h1,h2⟩:=a2 h
  exact bo go (FK (of_decide_eq_true h1) (λY hh ds h' q=>xy h2 q) (gR es go h2)) λ_=>rfl
 | .lst es,X,E,cf,e,go,h=>by
  refine LZ (λx p h=> ?_) e h
  obtain⟨h1,h2⟩:=a2 h
  exact bo go (Lg (of_decide_eq_true h1) (λY hh ds h' q=>xy h2 q) (gR es go h2)) λ_=>rfl
 | .bin o a b,X,E,cf,e,go,h=>by
  refine Hh (λx o y p h=> ?_) e h
  obtain⟨h0,ho,h1,h2⟩:=a4 h
  cases of_decide_eq_true h0
  exact bo go (BV go ho (Xb a go h1).1 (Xb b go h2).1) λ_=>rfl
 | .cmp o a b,X,E,cf,e,go,h=>by
  refine kN (λx o y p h=> ?_) e h
  refine kC (λy r h=> ?_) y h
  obtain⟨h0,ho,hs,h1,h2⟩:=a5 h
  obtain⟨rfl,rfl⟩:=of_decide_eq_true h0
  exact⟨C0 go ho hs (Xb a go h1).1 (Xb b go h2).1,λ_=>Ed go ho hs (Xb a go h1).1 (Xb b go h2).1⟩
 | .chain o q a b c,X,E,cf,e,go,h=>by
  refine kN (λx o y p h=> ?_) e h
  refine kC (λy r h=> ?_) y h
  refine kC (λz r h=> ?_) r h
  obtain⟨h0,ho,hq,hs,h1,h2,h3⟩:=a7 h
  obtain⟨rfl,rfl⟩:=of_decide_eq_true h0
  exact⟨F5 go ho hq hs (Xb a go h1).1 (Xb b go h2).1 (Xb c go h3).1,λ_=>IZ go ho hq hs (Xb a go h1).1 (Xb b go h2).1 (Xb c go h3).1⟩
 | .dS neg a,X,E,cf,e,go,h=>by
  refine kN (λx o y p h=> ?_) e h
  refine kC (λy r h=> ?_) y h
  refine jX (λj n p h=> ?_) y h
  obtain⟨h0,h1,h2⟩:=a3 h
  obtain⟨rfl,rfl⟩:=of_decide_eq_true h0
  cases of_decide_eq_true h1
  exact⟨LB (Xb a go h2).1,λ_=>DB (Xb a go h2).1⟩
 | .neg a,X,E,cf,e,go,h=>by
  refine pB (λo x p h=> ?_) e h
  cases of_decide_eq_true (a2 h).1
  exact bo go (Eh (Xb a go (a2 h).2).1) λ_=>rfl
 | .inv a,X,E,cf,e,go,h=>by
  refine pB (λo x p h=> ?_) e h
  cases of_decide_eq_true (a2 h).1
  exact bo go (KJ (Xb a go (a2 h).2).1) λ_=>rfl
 | .not a,X,E,cf,e,go,h=>by
  refine pB (λo x p h=> ?_) e h
  cases of_decide_eq_true (a2 h).1
  exact⟨Fj go (Xb a go (a2 h).2).1,λt=>Aq ((Xb a go (a2 h).2).2 t)⟩
 | .and a b,X,E,cf,e,go,h=>by
  refine t8 (λo x p h=> ?_) e h
  refine kC (λx r h=> ?_) x h
  refine kC (λy r h=> ?_) r h
  obtain⟨h0,h1,h2⟩:=a3 h
  cases of_decide_eq_true h0
  cases r with
  | nil=>exact⟨sx go (Xb a go h1).1 (vU (Xb b go h2).1),λt=>(uP ((Xb a go h1).2 (a2 t).1) (Aw ((Xb b go h2).2 (a2 t).2))).pt⟩
  | cons z r=>exact⟨sx go (Xb a go h1).1 (Xb b go h2).1,λt=>(uP ((Xb a go h1).2 (a2 t).1) (PW.eB ((Xb b go h2).2 (a2 t).2))).pt⟩
 | .or a b,X,E,cf,e,go,h=>by
  refine t8 (λo x p h=> ?_) e h
  refine kC (λx r h=> ?_) x h
  refine kC (λy r h=> ?_) r h
  obtain⟨h0,h1,h2⟩:=a3 h
  cases of_decide_eq_true h0
  cases r with
  | nil=>exact⟨tN go (Xb a go h1).1 (vU (Xb b go h2).1),λt=>(ub ((Xb a go h1).2 (a2 t).1) (C4 ((Xb b go h2).2 (a2 t).2))).pt⟩
  | cons z r=>exact⟨tN go (Xb a go h1).1 (Xb b go h2).1,λt=>(ub ((Xb a go h1).2 (a2 t).1) (PW.eB ((Xb b go h2).2 (a2 t).2))).pt⟩
 | .call f es,X,E,cf,e,go,h=>by
  refine zi (λg x l p h=> ?_) e h
  refine kE (λh=> ?_) l h
  obtain⟨h1,h2,h3⟩:=a3 h
  cases x with
  | nil=>
   cases es with
   | cons _ _=>exact bF h3
   | nil=>
    have r:=HK (pos:=p) go h1 h2
    obtain⟨p,rfl,_,_⟩:=Zb h1
    exact bo go r λ_=>rfl
  | cons x r=>
   have r:=EU (pos:=p) go h1 h2 (Je h3) (dh es go h3)
   obtain⟨p,rfl,_,_⟩:=Zb h1
   exact bo go r λ_=>rfl
 | .bi b es,X,E,cf,e,go,h=>by
  refine zi (λg x l p h=> ?_) e h
  refine kE (λh=> ?_) l h
  refine kC (λx r h=> ?_) x h
  obtain⟨h1,h2,h3⟩:=a3 h
  have r:=LI (pos:=p) go h2 h1 (Je h3) (dh es go h3)
  obtain⟨p,rfl,_,_⟩:=Zb h1
  exact bo go r λ_=>rfl
 | .dQ a t,X,E,cf,e,go,h=>by
  refine zi (λg x l p h=> ?_) e h
  refine kE (λh=> ?_) l h
  refine kC (λx r h=> ?_) x h
  refine kC (λy r h=> ?_) r h
  refine kE (λh=> ?_) r h
  obtain⟨h1,h2,h3,h4,h5⟩:=a5 h
  have r:=HD (pos:=p) go (of_decide_eq_true h3) h1 h2 h4 (Xb a go h5).1
  obtain⟨p,rfl,_,_⟩:=Zb h1
  exact bo go r λ_=>rfl
 | .bV a one ts,X,E,cf,e,go,h=>by
  refine zi (λg x l p h=> ?_) e h
  refine kE (λh=> ?_) l h
  refine kC (λx r h=> ?_) x h
  refine kC (λy r h=> ?_) r h
  refine kE (λh=> ?_) r h
  obtain⟨h1,h2,h3,h4⟩:=a4 h
  have fin:PE X (.Call g [x,y] [] p) (tD Γ E (M.eval F (.bV a one ts))):=by
   cases one with
   | true=>
    refine kC (λt r h=> ?_) ts h4
    refine kE (λh=> ?_) r h
    obtain⟨h5,h6⟩:=a2 h
    simp only [Am2,decide_eq_true_eq]at h6
    exact Lo go h6 h1 h5 h2 (Xb a go h3).1
   | false=>
    refine l3 (λzs n p h=> ?_) y h4
    exact FT go (of_decide_eq_true (a2 h).1) h1 (a2 h).2 h2 (Xb a go h3).1
  obtain⟨p,rfl,_,_⟩:=Zb h1
  exact bo go fin λ_=>rfl
 | .ix a b,X,E,cf,e,go,h=>by
  refine iP (λx y p h=> ?_) e h
  obtain⟨h1,h2,h3⟩:=a3 h
  exact bo go (Lj go h1 (Xb a go h2).1 (Xb b go h3).1) λ_=>rfl
 | .sl a lo hi,X,E,cf,e,go,h=>by
  refine iP (λx y p h=> ?_) e h
  refine mu (λl u z p2 h=> ?_) y h
  refine kS (λl h=> ?_) l h
  refine kS (λu h=> ?_) u h
  obtain⟨h0,h1,h2,h3⟩:=a4 h
  cases nn h0
  exact bo go (KW go (Xb a go h1).1 (Xb lo go h2).1 (Xb hi go h3).1) λ_=>rfl
 | .fN a lo,X,E,cf,e,go,h=>by
  refine iP (λx y p h=> ?_) e h
  refine mu (λl u z p2 h=> ?_) y h
  refine kS (λl h=> ?_) l h
  obtain⟨h0,h1,h2,h3⟩:=a4 h
  cases nn h0;cases nn h1
  exact bo go (HS go (Xb a go h2).1 (Xb lo go h3).1) λ_=>rfl
 | .gW a hi,X,E,cf,e,go,h=>by
  refine iP (λx y p h=> ?_) e h
  refine mu (λl u z p2 h=> ?_) y h
  refine kS (λu h=> ?_) u h
  obtain⟨h0,h1,h2,h3⟩:=a4 h
  cases nn h0;cases nn h1
  exact bo go (FH go (Xb a go h2).1 (Xb hi go h3).1) λ_=>rfl
 | .rev a,X,E,cf,e,go,h=>by
  refine iP (λx y p h=> ?_) e h
  refine mu (λl u z p2 h=> ?_) y h
  refine kS (λz h=> ?_) z h
  obtain⟨h0,h1,h2,h3⟩:=a4 h
  cases nn h0;cases nn h1
  exact bo go (BI go h2 (Xb a go h3).1) λ_=>rfl
 | .comp tg one kk az it k6 c elt,X,E,cf,e,go,h=>by
  refine sV (λy g s p h=> ?_) e h
  refine kC (λg r h=> ?_) g h
  obtain⟨t,iter,ifs,z⟩:=g
  obtain⟨h0,h1,h2,h3,h4,h5,h6⟩:=a7 h
  obtain⟨rfl,rfl⟩:=of_decide_eq_true h0
  simp only [Ad8,decide_eq_true_eq]at h2
  have sc:=jH h1
  have ht: ∀C fp w H,gr (qd X (zx cf t az) s C fp w H) ifs (cu Γ E0 (kh F k6 c)):=λC fp w H=>by
   have gc:=Zy go sc C fp w H
   cases k6 with
   | true=>
    refine kC (λz r h=> ?_) ifs h6
    refine kE (λh=> ?_) r h
    exact tE ((Xb c gc (a2 h).2).2 (a2 h).1)
   | false=>
    cases Ae1.mp h6
    intro y8 s1 U H1 Q I ⟨G,Y,h,st,p⟩
    exact yg y8 s1 U H1 Q I (p G H1 Ext.refl st.heap)
  exact bo go (LW go sc (zE sc.az) h3 h2 (zU h4) (lR it go h4) (λC fp s H=>(Xb elt (Zy go sc C fp s H) h5).1) ht) λ_=>rfl
 | .dc,X,E,cf,e,go,h=>by
  refine IL (λx y p h=> ?_) e h
  cases Ae1.mp (a2 h).1
  cases Ae1.mp (a2 h).2
  exact bo go Lx λ_=>rfl
 | .cI neg a i,X,E,cf,e,go,h=>by
  refine kN (λx o y p h=> ?_) e h
  refine kC (λy r h=> ?_) y h
  refine Wq (λy p1 h=> ?_) y h
  obtain⟨h0,h1,h4⟩:=a3 h
  obtain⟨rfl,rfl⟩:=of_decide_eq_true h0
  obtain⟨h1,h2,h3⟩:=ig h1
  exact⟨BY go h1 h2 h3 (Xb a go h4).1,λ_=>HZ go h1 h2 h3 (Xb a go h4).1⟩
 | .share a,X,E,cf,e,go,h=>⟨LM (Xb a go h).1,λt=>bF t⟩
 | .cy a,X,E,cf,e,go,h=>by
  refine zi (λg x l p h=> ?_) e h
  refine kE (λh=> ?_) l h
  refine kC (λx r h=> ?_) x h
  refine kE (λh=> ?_) r h
  refine zi (λg2 x l p2 h=> ?_) x h
  refine kE (λh=> ?_) l h
  refine kC (λx r h=> ?_) x h
  refine kE (λh=> ?_) r h
  obtain⟨h1,h2,h3,h4⟩:=a4 h
  exact bo go (Dz go h1 h2 h3 (Xb a go h4).1) λ_=>rfl
 | .ia a b,X,E,cf,e,go,h=>by
  refine kN (λx o y p h=> ?_) e h
  refine kC (λy r h=> ?_) y h
  obtain⟨h0,hs,h1,h2⟩:=a4 h
  obtain⟨rfl,rfl⟩:=of_decide_eq_true h0
  exact⟨E1 go hs (Xb a go h1).1 (Xb b go h2).1,λ_=>Ba go hs (Xb a go h1).1 (Xb b go h2).1⟩
 | .xf i f,X,E,cf,e,go,h=>by
  refine mW (λx n q h=> ?_) e h
  refine Wq (λx p h=> ?_) x h
  obtain⟨h,h0⟩:=a2 h
  obtain⟨h1,h2,h3⟩:=ig h
  cases of_decide_eq_true h0
  exact bo go (L5 go h1 h2 h3) λ_=>rfl
 | .cZ m a es,X,E,cf,e,go,h=>by
  refine zi (λg x l p h=> ?_) e h
  refine kE (λh=> ?_) l h
  refine kC (λx r h=> ?_) x h
  refine kE (λh=> ?_) r h
  refine mW (λo n q h=> ?_) g h
  obtain⟨h1,h2,h3,h4,h5,h6⟩:=a6 h
  cases of_decide_eq_true h1
  exact bo go (Mf go h2 h3 h4 (Je h6 _ Aa3) (Xb a go h5).1 (dh es go h6)) λ_=>rfl
theorem gR: ∀(es:M.Es){X:Cx}{E:XK}{cf:Cf}{xs:List Expr},Go Γ F X E k cf->a8 cf es xs=k9->PA X xs (iJ Γ E (M.Gm F es))
 | .nil,X,E,cf,xs,go,h=>by
  cases Ae1.mp h
  exact A4
 | .cons a es,X,E,cf,xs,go,h=>by
  refine kC (λx r h=> ?_) xs h
  obtain⟨h1,h2,h3⟩:=a3 h
  exact L0 h1 (Xb a go h2).1 (gR es go h3)
theorem dh: ∀(es:M.Es){X:Cx}{E:XK}{cf:Cf}{xs:List Expr},Go Γ F X E k cf->a8 cf es xs=k9->PA X xs (gS Γ E (M.Gg F es))
 | .nil,X,E,cf,xs,go,h=>by
  cases Ae1.mp h
  exact BG
 | .cons a es,X,E,cf,xs,go,h=>by
  refine kC (λx r h=> ?_) xs h
  obtain⟨h1,h2,h3⟩:=a3 h
  exact Fy h1 (Xb a go h2).1 (dh es go h3)
theorem lR: ∀(it:M.It){X:Cx}{E:XK}{cf:Cf}{tg e:Expr},Go Γ F X E k cf->cN cf it e=k9->PI X tg e (eU Γ E y9 (M.Gk F it))
 | .seq a,X,E,cf,tg,e,go,h=>yW go (Xb a go (a2 h).2).1
 | .av a,X,E,cf,tg,e,go,h=>by
  refine zi (λg x l p h=> ?_) e h
  refine kE (λh=> ?_) l h
  refine kC (λx r h=> ?_) x h
  refine kE (λh=> ?_) r h
  obtain⟨h1,h2,h3⟩:=a3 h
  exact ZH go h1 h2 (Xb a go h3).1
 | .bP a b,X,E,cf,tg,e,go,h=>by
  refine zi (λg x l p h=> ?_) e h
  refine kE (λh=> ?_) l h
  refine kC (λx r h=> ?_) x h
  refine kC (λy r h=> ?_) r h
  refine kE (λh=> ?_) r h
  obtain⟨h1,h2,h3,h4,h5⟩:=a5 h
  exact ZF go h1 h2 h3 (Xb a go h4).1 (Xb b go h5).1
 | .rev a,X,E,cf,tg,e,go,h=>by
  refine zi (λg x l p h=> ?_) e h
  refine kE (λh=> ?_) l h
  refine kC (λx r h=> ?_) x h
  refine kE (λh=> ?_) r h
  obtain⟨h1,h2,h3⟩:=a3 h
  exact DV go h1 h2 (Xb a go h3).1
 | .zip a b,X,E,cf,tg,e,go,h=>bF h
 | .enum a,X,E,cf,tg,e,go,h=>bF h
end
end
structure Bs where
 G:Gh
 H:Hp
 h:M.AH
structure aW (Γ:Ge) (B:Bs) (G:Gh) (Y:M.Sl) (h:M.AH) (U:St) (H:Hp):Prop where
 st:aw Γ G Y h U H
 ext:Ext B.G B.H G H
 hr:ai Γ B.G B.h B.H
 own: ∀i xs a,M.Gj Y i=y0 (.own xs)->U[i]? =y0 (y0 (.ref a))->B.H a=u0
def aQ (a:Ge) (E:XK) (B:Bs) (o:M.O) (D:hU):Prop:=match o with
 | .next Y h=> ∀G U H,aW a B G Y h U H->D.nx U H
 | .ret w h=> ∀G v H,Ext B.G B.H G H->ai a G h H->ar a G H w v->aF [] [] B.H w v->D.rt v H
 | .brk Y h=> ∀G U H,aW a B G Y h U H->D.bk U H
 | .cont Y h=> ∀G U H,aW a B G Y h U H->D.ct U H
 | .exc d h=> ∀G H,Ext B.G B.H G H->ai a G h H->oj a E d G H
 | .fail=>False
def bW (a:Ge) (E:XK) (m:M.Sl->M.AH->M.O):TS:=λD U H=> ∃B G Y h,aW a B G Y h U H/\aQ a E B (m Y h) D
def PS.imp {b:Stmt}(h:PS X b t) (k: ∀D U H,t' D U H->t D U H):PS X b t':=λa s U H D I q=>h a s U H D I (k _ _ _ q)
def cG.imp {b:List Stmt}(h:cG X b t) (k: ∀D U H,t' D U H->t D U H):cG X b t':=λa s U H D I q=>h a s U H D I (k _ _ _ q)
section
variable {Γ:Ge}{E:XK}{B:Bs}{G G1:Gh}{Y:M.Sl}{h h1:M.AH}{U:St}{H H1:Hp}{D:hU}
def aW.on (s:aW Γ B G Y h U H) (e:Ext G H G1 H1) (a:ai Γ G1 h1 H1):aW Γ B G1 Y h1 U H1:=⟨s.st.ext e a,s.ext.trans s.hr e,s.hr,s.own⟩
theorem aQ.exc (s:aW Γ B G Y h U H) (p:aQ Γ E B (.exc d h1) D):ax Γ E G H (.exc d h1) P:=λb a e c=>p b a (s.ext.trans s.hr e) c
def wj (s:aW Γ B G Y h U H) (p:aQ Γ E B ((m Y h).cY f) D)
 (k: ∀w v h1 G1 H1,Ext G H G1 H1->aW Γ B G1 Y h1 U H1->ar Γ G1 H1 w v->aF Y U H w v->aQ Γ E B (f w h1) D->Q v H1):tD Γ E m U H Q:=by
 refine⟨G,Y,h,s.st,?_⟩
 cases q:m Y h with
 | ok w h1=>rw [q]at p;exact λG1 H1 e c v a b=>k w v h1 G1 H1 e (s.on e c) a b p
 | exc d h1=>rw [q]at p;exact aQ.exc s p
 | fail=>rw [q]at p;exact p
def ur (s:aW Γ B G Y h U H) (p:aQ Γ E B ((m Y h).cY f) D)
 (k: ∀b h1 G1 H1,Ext G H G1 H1->aW Γ B G1 Y h1 U H1->aQ Γ E B (f b h1) D->Q b H1):cu Γ E m U H Q:=by
 refine⟨G,Y,h,s.st,?_⟩
 cases q:m Y h with
 | ok w h1=>rw [q]at p;exact λG1 H1 e a=>k w h1 G1 H1 e (s.on e a) p
 | exc d h1=>rw [q]at p;exact aQ.exc s p
 | fail=>rw [q]at p;exact p
theorem aW.set (n:aW Γ B G Y h U H) (e:Ext G H G1 H1) (s:aW Γ B G1 Y h1 U H1) (r:ar Γ G1 H1 w v) (f:aF Y U H w v) (u: ∀xs,w≠ .bor xs):aW Γ B G1 (M.Gy Y i w) h1 (U.set i (y0 v)) H1:=by
 refine⟨s.st.set r λt j y p g m a x z=> ?_,s.ext,s.hr,λj xs a g k=> ?_⟩
 ·cases w with
  | v d=>cases t
  | bor xs=>exact u xs rfl
  | own xs=>
   obtain⟨b,l,hn⟩:=f
   subst x
   cases l
   obtain⟨o,q⟩:=n.st.cn g m z
   rw [hn]at q;cases q
 ·rw [Zd]at g
  by_cases c:j=i/\i<Y.length
  ·rw [if_pos c]at g
   cases g
   obtain⟨rfl,c⟩:=c
   rw [Ad0 (by rw [← s.st.len];exact c)]at k
   cases k
   obtain⟨b,l,hn⟩:=f
   cases l
   exact n.ext.none n.hr hn
  ·rw [if_neg c]at g
   have p:=λz=>c ⟨z,by subst z;exact Qm g⟩
   rw [Ad (Ne.symm p)]at k
   exact s.own j xs a g k
def aW.fz (a:aW Γ B G Y h U H) (e:Ext G H G1 H1) (s:aW Γ B G1 Y h1 U H1) (r:ar Γ G1 H1 w v) (f:aF Y U H w v) (c:w.d=y0 d): ∃G2,Ext G H G2 H1/\aW Γ B G2 Y h1 U H1/\aC Γ G2 H1 d v:=by
 obtain⟨G2,b,g,rd,_⟩:=nX e s.st a.st r f c
 exact⟨G2,b,⟨g,a.ext.trans a.hr b,s.hr,s.own⟩,rd⟩
def aW.cX (s:aW Γ B G Y h U H) (r:aC Γ G H d v):aW Γ B G (M.Gy Y i (.v d)) h (U.set i (y0 v)) H:=aW.set s Ext.refl s r trivial λa z=>by cases z
theorem aW.aH: ∀ {is}{ds}{j}{Y J}{U},M.aH is ds Y=y0 J->ae Γ G H ds j->aW Γ B G Y h U H->aW Γ B G J h (gD is j U) H/\is.length=j.length
 | [],[],_,_,_,_,e,rfl,s=>by cases e;exact⟨s,rfl⟩
 | [],_::_,_,_,_,_,e,_,_=>by simp [M.aH]at e
 | _::_,[],_,_,_,_,e,_,_=>by simp [M.aH]at e
 | i::is,d::ds,_,_,_,_,e,⟨v,r,rfl,f,b⟩,s=>by
  obtain⟨c,a⟩:=aW.aH (by simpa [M.aH]using e) b (s.cX f)
  exact⟨c,congrArg (· +1) a⟩
def nD (e:M.Gn tg one d Y=y0 Y') (r:aC Γ G H d x) (s:aW Γ B G Y h U H) (b: ∀j,aW Γ B G Y' h j H->Q j H):gM Γ tg one x U H Q:=by
 cases one with
 | true=>
  cases tg with
  | nil=>cases e
  | cons i m=>
   cases m with
   | cons _ _=>cases e
   | nil=>
    cases e
    exact⟨i,rfl,b _ (s.cX r)⟩
 | false=>
  cases d with
  | tup n=>
   obtain⟨a,g,rfl,l,c⟩:=r
   obtain⟨f,k⟩:=aW.aH (e) c s
   exact⟨G,n,g,a,rfl,l,c,k,b _ f⟩
  | _=>cases e
def aW.write (s:aW Γ B G Y h U H) (f:M.Gj Y i=y0 (.own xs)) (n:U[i]? =y0 (y0 (.ref a))) (r:ae Γ G H ys us):aW Γ B G (M.Gy Y i (.own ys)) h U (aG H a (.lst us)):=by
 obtain⟨y,of,Z,X,_⟩:=Xq s.st f n
 have hB:=s.own i xs a f n
 have mon:Mon G H G (aG H a (.lst us)):=⟨λb o z q=>by rw [ja (λe:b=a=>y (e▸z))];exact q,Aa5 _,λ_ _=>rfl,λ_ z=>z⟩
 have T:=Qm f
 have I:ai Γ G h (aG H a (.lst us)):=by
  refine⟨s.st.heap.len,λq c e=>⟨(s.st.heap.any q c e).1,(s.st.heap.any q c e).2.mon mon λo z=>by rw [ja (of q (s.st.heap.lt e))];exact z⟩,s.st.heap.inj,λb z=> ?_⟩
  obtain⟨o,q⟩:=s.st.heap.live b z
  exact⟨o,by rw [ja (λe:b=a=>y (e▸z))];exact q⟩
 refine⟨⟨by rw [Jj];exact s.st.len,λj w e=> ?_,λp q F w b K k g Q V=> ?_,I⟩,⟨λb o q C=> ?_,s.ext.le,s.ext.aU,s.ext.new,s.ext.fz,s.ext.old,λq L z=> ?_⟩,s.hr,λj F b k g=> ?_⟩
 ·rw [Zd]at e
  by_cases c:j=i/\i<Y.length
  ·rw [if_pos c]at e
   cases e
   obtain⟨rfl,_⟩:=c
   exact⟨.ref a,n,a,us,rfl,y,of,wb,r.mon mon⟩
  ·rw [if_neg c]at e
   have P:=λz=>c ⟨z,by subst z;exact Qm e⟩
   obtain⟨v,D,A⟩:=s.st.slot j w e
   refine⟨v,D,?_⟩
   cases w with
   | v d=>exact aC.mon mon A
   | own R=>
    obtain⟨b,bs,rfl,W,O,l,E⟩:=A
    have u:b≠a:=λz=>s.st.apart i j xs _ a (Ne.symm P) f e rfl n (z▸D)
    exact⟨b,bs,rfl,W,O,by rw [ja u];exact l,E.mon mon⟩
   | bor R=>
    obtain⟨b,bs,rfl,O,l,E⟩:=A
    have u:b≠a:=λz=>s.st.apart i j xs _ a (Ne.symm P) f e rfl n (z▸D)
    refine⟨b,bs,rfl,O,?_,E.mon mon⟩
    obtain l | ⟨o,l⟩:=l
    ·exact .inl (by rw [ja u];exact l)
    ·exact .inr ⟨o,by rw [ja u];exact l⟩
 ·rw [Zd]at k g
  have N: ∃m,M.Gj Y p=y0 (.own m):=by
   by_cases c:p=i/\i<Y.length
   ·exact⟨xs,by rw [c.1];exact f⟩
   ·rw [if_neg c]at k;exact⟨F,k⟩
  have x: ∃t,M.Gj Y q=y0 t/\fW t=true:=by
   by_cases c:q=i/\i<Y.length
   ·exact⟨.own xs,by rw [c.1];exact f,rfl⟩
   ·rw [if_neg c]at g;exact⟨w,g,Q⟩
  obtain⟨m,N⟩:=N
  obtain⟨t,x,J⟩:=x
  exact s.st.apart p q m t b K N x J V
 ·rw [ja (λe:b=a=>by rw [e,hB]at q;cases q)]
  exact s.ext.keep b o q C
 ·obtain⟨o,S⟩:=s.ext.cells q L z
  have:B.G.aU q≠a:=λe=>by
   have:=of q (Ab0 L s.ext.le)
   rw [s.ext.aU q L]at this
   exact this e
  exact⟨o,by rw [ja this];exact S⟩
 ·rw [Zd]at k
  by_cases c:j=i/\i<Y.length
  ·obtain⟨rfl,_⟩:=c
   rw [n]at g
   cases g
   exact hB
  ·rw [if_neg c]at k;exact s.own j F b k g
def aW.hI (s:aW Γ B G Y h U H) (p:h[r]? =y0 c0) (z:bp Γ G (aG H (G.aU r) o1) (G.aU r) c1):aW Γ B G Y (h.set r c1) U (aG H (G.aU r) o1):=by
 have t:=(Ac0.mp p).1
 have f:=s.st.heap.lt p
 have k:=s.st.heap.oU f
 have mon:Mon G H G (aG H _ o1):=⟨λb o w q=>by rw [ja (λe:b=G.aU r=>k (e▸w))];exact q,Aa5 _,λ_ _=>rfl,λ_ w=>w⟩
 have n:ai Γ G (h.set r c1) (aG H (G.aU r) o1):=by
  refine⟨by rw [Ae0];exact s.st.heap.len,λq c e=> ?_,s.st.heap.inj,λb w=> ?_⟩
  ·by_cases c:q=r
   ·subst c
    rw [Ad0 t]at e
    cases e
    exact⟨k,z⟩
   ·rw [Ad (Ne.symm c)]at e
    exact⟨(s.st.heap.any q _ e).1,(s.st.heap.any q _ e).2.mon mon λo w=>by rw [ja λE=>c (s.st.heap.inj q r (s.st.heap.lt e) f E)];exact w⟩
  ·obtain⟨o,q⟩:=s.st.heap.live b w
   exact⟨o,by rw [ja (λe:b=G.aU r=>k (e▸w))];exact q⟩
 refine⟨⟨s.st.len,λj w e=> ?_,s.st.apart,n⟩,⟨λb o q i=> ?_,s.ext.le,s.ext.aU,s.ext.new,s.ext.fz,s.ext.old,λq D w=> ?_⟩,s.hr,s.own⟩
 ·obtain⟨v,y,l⟩:=s.st.slot j w e
  refine⟨v,y,?_⟩
  cases w with
  | v d=>exact aC.mon mon l
  | own u=>
   obtain⟨b,bs,rfl,C,g,a,m⟩:=l
   exact⟨b,bs,rfl,C,g,by rw [ja (Ne.symm (g r f))];exact a,m.mon mon⟩
  | bor u=>
   obtain⟨b,bs,rfl,g,a,m⟩:=l
   refine⟨b,bs,rfl,g,?_,m.mon mon⟩
   obtain a | ⟨o,a⟩:=a
   ·exact .inl (by rw [ja (Ne.symm (g r f))];exact a)
   ·exact .inr ⟨o,by rw [ja (Ne.symm (g r f))];exact a⟩
 ·have A:b≠G.aU r:=λe=>by
   by_cases c:r<B.G.n
   ·exact i r c (by rw [← s.ext.aU r c];exact e.symm)
   ·have:=s.ext.new r (Al6.mp c) f
    rw [← e,q]at this
    cases this
  rw [ja A]
  exact s.ext.keep b o q i
 ·by_cases c:B.G.aU q=G.aU r
  ·exact⟨_,by rw [c];exact wb⟩
  ·obtain⟨o,x⟩:=s.ext.cells q D w
   exact⟨o,by rw [ja c];exact x⟩
def Ic (c:ai Γ G h H) (a:r<G.n) (o):Mon G H G (aG H (G.aU r) o):=⟨λb o w q=>by rw [ja (λe:b=G.aU r=>c.oU a (e▸w))];exact q,Aa5 _,λ_ _=>rfl,λ_ w=>w⟩
def aW.cell (s:aW Γ B G Y h U H) (a:h[r]? =y0 (.lst xs)) (b:M.Gd ys=k9) (z:ae Γ G H ys us):aW Γ B G Y (h.set r (.lst ys)) U (aG H (G.aU r) (.lst us)):=
 s.hI a ⟨b,us,wb,z.mon (Ic s.st.heap (s.st.heap.lt a) _)⟩
def aW.freeze (s:aW Γ B G Y h U H) (k:M.Gj Y i=y0 (.own xs)): ∃G',aW Γ B G' (M.Gy Y i (.v (.lst xs))) h U H:=by
 obtain⟨v,n,a,A,rfl,E,of,o,D⟩:=s.st.slot i _ k
 have hB:=s.own i xs a k n
 refine⟨G.more a,⟨⟨by rw [Jj];exact s.st.len,λj w e=> ?_,λp q l w b m d f g C=> ?_,s.st.heap.more of ⟨_,o⟩⟩,s.ext.more hB,s.hr,λj l b d f=> ?_⟩⟩
 ·rw [Zd]at e
  by_cases c:j=i/\i<Y.length
  ·rw [if_pos c]at e
   cases e
   obtain⟨rfl,_⟩:=c
   exact⟨.ref a,n,a,A,rfl,.inl ⟨.inr rfl,.inl o⟩,D.mon (zo a)⟩
  ·rw [if_neg c]at e
   have u:=λz=>c ⟨z,by subst z;exact Qm e⟩
   obtain⟨v,r,y⟩:=s.st.slot j w e
   exact⟨v,r,y.more λg x=>s.st.apart i j xs w a (Ne.symm u) k e g n (x▸r)⟩
 ·rw [Zd]at d f
  by_cases c:p=i/\i<Y.length
  ·rw [if_pos c]at d;cases d
  ·rw [if_neg c]at d
   by_cases t:q=i/\i<Y.length
   ·rw [if_pos t]at f;cases f;cases g
   ·rw [if_neg t]at f;exact s.st.apart p q l w b m d f g C
 ·rw [Zd]at d
  by_cases c:j=i/\i<Y.length
  ·rw [if_pos c]at d;cases d
  ·rw [if_neg c]at d;exact s.own j l b d f
end
structure gy (Γ:Ge) (F:M.Fx) (X:Cx) (E:XK) (k:Nat) (cf:Cf):Prop extends Go Γ F X E k cf where
 iK:PassesOwn (model X.prog X.w) X.A X.env X.xe
 iT:X.stack=X.env::X.outer
 sG:X.env.frame=y0 X.env.locals
 ex:X.ex= []
 cD: ∀c,cf.cD.contains c=true->iy cf.sc (qf c)=true->(qf c==("__debug__" :Str))=false->eI Γ c/\ ∀(np u7 pos:Pos) (e:Expr) (es:List Expr) (t:TA),PA X (e::es) t->(∀ e'∈e::es,Ja e'=true) →
  PS X (.Raise (y0 (.Call (.Name (qf c) np) (e::es) [] u7)) u0 pos) (vb (Γ.ca c) E t)
 mf: ∀c f,cf.ob.er.contains (c,f)=true->iy cf.sc (qf c)=true->(qf c==("__debug__" :Str))=false->eI Γ c/\lI Γ.K (Γ.ca c) (qf f)/\ ∀(np u7 pos:Pos) (e:Expr) (t:TA),PA X [e] t->Ja e=true →
  PS X (.Raise (y0 (.Call (.Name (qf c) np) [e] [] u7)) u0 pos) (pX (Γ.ca c) (qf f) E t)
 cq: ∀c,cf.cq.contains c=true->PySem.W.mroIn X.K (Γ.ca c) (.type "BaseException")=some true/\cf.own.contains c=true
section
variable {Γ:Ge}{F:M.Fx}{X:Cx}{E:XK}{k:Nat}{cf:Cf}
def jy (h:xx cf i x=k9):cf.N[i]? =y0 x/\iN cf.sc x=true:=by
 simpa [xx]using h
def Jy (h:Zq cf i x=k9):cf.N[i]? =y0 x/\cf.sc.names.lookup x=y0 .local:=by
 simpa [Zq]using h
def F6 (m:tD Γ E (M.eval F (.share a)) U H Q):tD Γ E (M.eval F a) U H Q:=by
 obtain⟨G,Y,h,s,p⟩:=m
 refine Qa s.heap Ext.refl s p λq v1 c g A k r i w u b=> ?_
 cases q with
 | own e=>
  obtain⟨l,B,rfl,n,o,y,t⟩:=w
  obtain⟨z,x,j⟩:=u
  cases x
  have b:ax Γ E G H (if M.Gd e=k9 then M.aT _ (c++ [.lst e])else .fail) _:=b
  by_cases f:M.Gd e=k9
  rotate_left
  ·rw [if_neg f]at b;exact b.elim
  rw [if_pos f]at b
  refine ax.val b (xO k j) (qY i.heap n o y t f) ?_ trivial
  show c.length<g.n+1/\V.ref l= .ref (if c.length=g.n then l else g.aU c.length)
  rw [i.heap.len,if_pos rfl]
  exact⟨Ag6 _,rfl⟩
 | v d=>exact b.elim
 | bor e=>exact b.elim
def Xc (h:Wu v=k9):swapsWith v t l env=pure false:=by
 cases v<;>first | rfl | (simp [Wu]at h)
def XX (b:Go Γ F X E k cf)(a:xx cf i x=k9) (c:PE X v (tD Γ E (M.eval F m))) (e:swapsWith v (y0 (.Name x p)) pos.line X.env=pure y9):
 PS X (.Assign [.Name x p] v pos) (g7 (tD Γ E (M.eval F m)) (xV i)):=by
 obtain⟨f,d⟩:=jy a
 have a:=b.gf x d
 exact nW (by rw [b.N];exact b.nd) (by rw [b.N];exact f) a.1 c e a.2
def uX:M.E->Bool
 | .share _=>k9
 | .comp .. =>k9
 | _=>y9
def A1 (h:jc cf m v=k9) (a:uX m=y9):Wu v=true:=by
 cases v with
 | ListComp _ _ _ _=>cases m<;>first | exact bF h | (exact absurd (a) An9)
 | SetComp _ _ _ _=>cases m<;>first | exact bF h | (exact absurd (a) An9)
 | DictComp _ _ _ _ _=>cases m<;>first | exact bF h | (exact absurd (a) An9)
 | _=>rfl
def Cb (d:Cf) (a:Bool) (b:List Expr) (c:M.E):Bool:=bif a then(lC b λz r=>kZ r (eN c&&jc d c z))else b.isEmpty
def F0 (h:jc cf (.comp tg one kk az it k6 c elt) v=k9): ∃y t iter ifs scope p0,v= .ListComp y [⟨t,iter,ifs,0⟩] scope p0 ∧
 kq cf scope (zx cf t az) kk az/\(∀ i∈tg,i<kk)/\Ze { cf with sc:=scope,N:=zx cf t az } tg one t=k9/\cN cf it iter=k9/\jc { cf with sc:=scope,N:=zx cf t az } elt y=k9 ∧
 Cb { cf with sc:=scope,N:=zx cf t az } k6 ifs c=true:=by
 refine sV (λy g s p h=> ?_) v h
 refine kC (λg r h=> ?_) g h
 obtain⟨t,iter,ifs,z⟩:=g
 obtain⟨e,d,a,b,j,k,f⟩:=a7 h
 obtain⟨rfl,rfl⟩:=of_decide_eq_true e
 simp [decide_eq_true_eq]at a
 exact⟨y,t,iter,ifs,s,p,rfl,jH d,a,b,j,k,f⟩
def CP (e:Go Γ F X E k cf)(m:xx cf i x=k9)(h:jc cf (.comp tg one kk az it k6 c elt) v=k9):
 PS X (.Assign [.Name x p] v pos) (g7 (tD Γ E (M.eval F (.comp tg one kk az it k6 c elt))) (xV i)):=by
 have L:=(Xb _ e h).1
 obtain⟨y,t,j,d,a,J,rfl,l,w,A,u,O,n⟩:=F0 h
 obtain⟨b,o⟩: ∃b,swapsWith (.ListComp y [⟨t,j,d,0⟩] a J) (y0 (.Name x p)) pos.line X.env=pure b:=⟨_,rfl⟩
 cases b with
 | false=>exact XX e m L o
 | true=>
  obtain⟨B,P⟩:=jy m
  have N: ∀C g s H,gr (qd X _ a C g s H) d (cu Γ E0 (kh F k6 c)):=λC g s H=>by
   have R:=Zy e l C g s H
   cases k6 with
   | true=>
    refine kC (λz r h=> ?_) d n
    refine kE (λh=> ?_) r h
    exact tE ((Xb c R (a2 h).2).2 (a2 h).1)
   | false=>
    cases Ae1.mp n
    intro f D U q Q I ⟨G,Y,h,K,p⟩
    exact yg f D U q Q I (p G q Ext.refl K.heap)
  exact Z5 e B P o l (zE l.az) A w (zU u) (lR it e u) (λC g s H=>(Xb elt (Zy e l C g s H) O).1) N
def Qb (a:Go Γ F X E k cf)(b:xx cf i x=k9)(h:jc cf m v=k9) (c:uX m=y9):PS X (.Assign [.Name x p] v pos) (g7 (tD Γ E (M.eval F m)) (xV i)):=
 XX a b (Xb m a h).1 (Xc (A1 h c))
theorem nk (c:Go Γ F X E k cf)(b:xx cf i x=k9): ∀ m,jc cf m v=k9->PS X (.Assign [.Name x p] v pos) (g7 (tD Γ E (M.eval F m)) (xV i))
 | .share a,h=>PS.imp (nk c b a h) λD U H q=>F6 q
 | .comp ..,h=>CP c b h
 | .dc,h=>Qb c b h rfl
 | .cI ..,h=>Qb c b h rfl
 | .var _,h=>Qb c b h rfl
 | .con _,h=>Qb c b h rfl
 | .int _,h=>Qb c b h rfl
 | .bl _,h=>Qb c b h rfl
 | .au,h=>Qb c b h rfl
 | .str _,h=>Qb c b h rfl
 | .tup _,h=>Qb c b h rfl
 | .lst _,h=>Qb c b h rfl
 | .bin ..,h=>Qb c b h rfl
 | .cmp ..,h=>Qb c b h rfl
 | .chain ..,h=>Qb c b h rfl
 | .dS ..,h=>Qb c b h rfl
 | .neg _,h=>Qb c b h rfl
 | .inv _,h=>Qb c b h rfl
 | .not _,h=>Qb c b h rfl
 | .and ..,h=>Qb c b h rfl
 | .or ..,h=>Qb c b h rfl
 | .call ..,h=>Qb c b h rfl
 | .bi ..,h=>Qb c b h rfl
 | .dQ ..,h=>Qb c b h rfl
 | .bV ..,h=>Qb c b h rfl
 | .ix ..,h=>Qb c b h rfl
 | .sl ..,h=>Qb c b h rfl
 | .fN ..,h=>Qb c b h rfl
 | .gW ..,h=>Qb c b h rfl
 | .rev _,h=>Qb c b h rfl
 | .cy _,h=>Qb c b h rfl
 | .ia ..,h=>Qb c b h rfl
 | .cZ ..,h=>Qb c b h rfl
 | .xf ..,h=>Qb c b h rfl
def Mb (o:Go Γ F X E k cf)(n:xx cf i x=k9)(h:jc cf m v=k9):PS X (.Assign [.Name x p] v pos) (bW Γ E (M.exec F (.set i m))):=by
 refine PS.imp (nk o n m h) λD U H q=> ?_
 obtain⟨B,G,Y,h,s,p⟩:=q
 refine wj s p λw v r l f b c j g a=> ?_
 cases w with
 | bor e=>exact a.elim
 | v d=>exact a l _ f (aW.set s b c j g λe z=>by cases z)
 | own t=>exact a l _ f (aW.set s b c j g λe z=>by cases z)
def IJ (j:Go Γ F X E k cf)(b:xx cf i x=k9)(h:jc cf m v=k9):PS X (.Assign [.Name x p] v pos) (bW Γ E (M.exec F (.ak i m))):=by
 refine PS.imp (nk j b m h) λD U H r=> ?_
 obtain⟨B,G,Y,h,s,p⟩:=r
 refine wj s p λw v t u l c g o n a=> ?_
 cases q:w.d with
 | none=>rw [q]at a;exact a.elim
 | some d=>
  rw [q]at a
  obtain⟨f,y,e,rd⟩:=aW.fz s c g o n q
  exact a f _ l (e.cX rd)
def jU :swapsWithSole [.Tuple ts n p] v l env=pure false:=by
 cases v<;>rfl
def qE (h:zl v=k9):swappedStores [.Tuple ts n p] v env=pure none:=by
 cases v<;>first | rfl | (simp [zl]at h)
def KG (e:Go Γ F X E k cf)(t:Zo cf is ts=k9) (i:zl v=k9)(h:jc cf m v=k9):PS X (.Assign [.Tuple ts n p] v pos) (bW Γ E (M.exec F (.dB is m))):=by
 refine PS.imp (Q6 (Xb m e h).1 (qp e (one:=y9) t) jU (qE i) rfl) λD U H u=> ?_
 obtain⟨B,G,Y,h,s,p⟩:=u
 refine wj s p λw v f o j y g l z a=> ?_
 cases w with
 | v d=>
  cases d with
  | tup c=>
   have a:aQ Γ E B (match M.aH is c Y with | some b=> .next b f | none=> .fail) D:=a
   cases q:M.aH is c Y with
   | none=>rw [q]at a;exact a.elim
   | some b=>
    rw [q]at a
    exact nD (show M.Gn is y9 (.tup c) Y=y0 b from q) l g λx r=>a o x j r
  | _=>exact a.elim
 | own _=>exact a.elim
 | bor _=>exact a.elim
def qT :swapsWithSole [.Subscript x y p] v l env=pure false:=by
 cases v<;>rfl
def zJ :swappedStores [.Subscript x y p] v env=pure none:=by
 cases v<;>rfl
def sU (a:qh y=k9) (v):assign (.Subscript x y p) env v=(do
 let i ←holding [v] (eval x env)
 let j ←holding [v,i] (eval y env)
 standAt p
 holding [v,i,j] (setItem i j v)
 release [v,i,j] []):=by
 cases y<;>first | rfl | (simp [qh]at a)
def Ep (a:M.GQ d=k9) (z:aC Γ G H d v):aC Γ G' H' d v:=by
 cases d with
 | au=>exact z
 | bl _=>exact z
 | int _=>exact z
 | str _=>exact z
 | _=>exact absurd (a) Ab7
def Qw (h:Qp cf i m e u7=k9): ∃x p apos,e= .Attribute (.Name x p) m apos/\cf.N[i]? =y0 x/\X1 cf.sc x=k9/\ck x=k9/\(apos.endLine==u7.line)=true:=by
 refine mW (λx n q h=> ?_) e h
 refine Wq (λx p h=> ?_) x h
 obtain⟨h,f,b⟩:=a3 h
 obtain⟨d,a,c⟩:=ig h
 cases of_decide_eq_true f
 exact⟨_,_,_,rfl,d,a,c,b⟩
def BM (j:Go Γ F X E k cf)(Q:Qp cf i "append" f u7=true) (o:Ja v=true)(h:jc cf m v=true):PS X (.Expr (.Call f [v] [] u7) pos) (bW Γ E (M.exec F (.app i m))):=by
 obtain⟨x,p,u,rfl,e,C,c,R⟩:=Qw Q
 unfold ck at c
 rw [Aa6]at c
 have pv:=xm (pos:=p) (by rw [j.N];exact e) (j.eO x C) (by simpa using c.1) (by simpa using c.2)
 refine PS.imp (XN (nK PySem.F.plainAttrs_list PySem.F.slot_list_append PySem.F.type_list_append xS pv (Jb (Xb m j h).1 jg (xa o)) rfl (by rw [xa o];rfl) R (xa o) rfl) (Xc rfl)) λD U H T=> ?_
 obtain⟨B,G,Y,h,s,p⟩:=T
 rw [M.exec]at p
 cases q:M.Gj Y i with
 | none=>rw [q]at p;exact p.elim
 | some L=>
  rw [q]at p
  cases L with
  | v d=>exact p.elim
  | bor g=>exact p.elim
  | own g=>
   obtain⟨v0,n,a,N,rfl,Z,z3,V,z5⟩:=s.st.slot i _ q
   refine⟨.ref a,n,.inl ⟨rfl,N,aZ.of V⟩,?_⟩
   refine wj s p λw v e G1 H1 I K P O b=> ?_
   cases l:w.d with
   | none=>rw [l]at b;exact b.elim
   | some d=>
    rw [l]at b
    obtain⟨J,e2,t,rd⟩:=aW.fz s I K P O l
    have b:aQ Γ E B (if g.length<M.aY then .next _ e else .fail) D:=b
    by_cases y:g.length<M.aY
    ·rw [if_pos y]at b
     obtain⟨W,of,S,A,z⟩:=Xq t.st q n
     have r:=z.length
     exact⟨a,S,v,rfl,rfl,A,by have:=Jk;lia,b J U _ (t.write q n (z.append ⟨v,[],rfl,rd,rfl⟩))⟩
    ·rw [if_neg y]at b;exact b.elim
def AX (o:Go Γ F X E k cf)(S:Qp cf i "extend" f u7=true) (y:Ja v=true)(h:jc cf m v=true):PS X (.Expr (.Call f [v] [] u7) pos) (bW Γ E (M.exec F (.ext i m))):=by
 obtain⟨x,p,C,rfl,j,L,g,T⟩:=Qw S
 unfold ck at g
 rw [Aa6]at g
 have pv:=xm (pos:=p) (by rw [o.N];exact j) (o.eO x L) (by simpa using g.1) (by simpa using g.2)
 refine PS.imp (XN (nK PySem.F.plainAttrs_list PySem.F.slot_list_extend PySem.F.type_list_extend yV pv (Jb (Xb m o h).1 jg (xa y)) rfl (by rw [xa y];rfl) T (xa y) rfl) (Xc rfl)) λD U H W=> ?_
 obtain⟨B,G,Y,h,s,p⟩:=W
 rw [M.exec]at p
 cases q:M.Gj Y i with
 | none=>rw [q]at p;exact p.elim
 | some N=>
  rw [q]at p
  cases N with
  | v d=>exact p.elim
  | bor n=>exact p.elim
  | own n=>
   obtain⟨v0,u,a,P,rfl,z2,z3,Z,z5⟩:=s.st.slot i _ q
   refine⟨.ref a,u,.inl ⟨rfl,P,aZ.of Z⟩,?_⟩
   refine wj s p λw v j R H1 e1 A Q f1 c=> ?_
   cases w with
   | v d=>exact c.elim
   | bor r=>exact c.elim
   | own r=>
    obtain⟨b,l,rfl,_,_,O,e⟩:=Q
    have c:aQ Γ E B (if n.length+r.length<M.aY then .next _ j else .fail) D:=c
    by_cases I:n.length+r.length<M.aY
    ·rw [if_pos I]at c
     obtain⟨nf,of,V,K,J⟩:=Xq A.st q u
     have z:=J.length
     have t:=e.length
     exact⟨a,b,V,l,rfl,rfl,K,O,by have:=Jk;lia,c R U _ (A.write q u (J.append e))⟩
    ·rw [if_neg I]at c;exact c.elim
def rD (r:ae Γ G H D vs)(e:D[D.length-1]? =y0 d): ∃v,vs[vs.length-1]? =y0 v/\aC Γ G H d v/\ae Γ G H (D.take (D.length-1)) vs.dropLast:=by
 obtain⟨v,b,c⟩:=ae.get r e
 have a:=r.length
 rw [a]at b
 refine⟨v,b,c,?_⟩
 rw [List.dropLast_eq_take,←a]
 exact r.take _
theorem Jr: ∀ {xs ys},M.Gd xs=k9->M.Gd ys=k9->M.Gd (xs++ys)=k9
 | [],_,_,h=>h
 | x::xs,ys,h,a=>by
  have h:=h
  rw [Aa6]at h
  show(M.Gc x&&M.Gd (xs++ys))=k9
  rw [h.1,Jr h.2 a];rfl
theorem qv: ∀ {xs}(n),M.Gd xs=k9->M.Gd (xs.take n)=k9
 | _,0,_=>by rw [List.take_zero]
 | [],n+1,_=>rfl
 | x::xs,n+1,h=>by
  have h:=h
  rw [Aa6]at h
  show(M.Gc x&&M.Gd (xs.take n))=k9
  rw [h.1,qv n h.2];rfl
def F2 (j:Go Γ F X E k cf)(W:Qp cf i "append" f u7=true) (n:Ja v=true)(h:jc cf m v=true):PS X (.Expr (.Call f [v] [] u7) pos) (bW Γ E (M.exec F (.bY i m))):=by
 obtain⟨x,p,u,rfl,t,K,c,Z⟩:=Qw W
 unfold ck at c
 rw [Aa6]at c
 have pv:=xm (pos:=p) (by rw [j.N];exact t) (j.eO x K) (by simpa using c.1) (by simpa using c.2)
 refine PS.imp (XN (nK PySem.F.plainAttrs_list PySem.F.slot_list_append PySem.F.type_list_append xS pv (Jb (Xb m j h).1 jg (xa n)) rfl (by rw [xa n];rfl) Z (xa n) rfl) (Xc rfl)) λD U H qq=> ?_
 obtain⟨B,G,Y,h,s,p⟩:=qq
 rw [M.exec]at p
 cases q:M.bj h (M.Gj Y i)with
 | none=>rw [q]at p;exact p.elim
 | some Q=>
  obtain⟨r0,P⟩:=Q
  rw [q]at p
  obtain⟨I,g,l,_⟩:=jw s.st q
  refine⟨_,I,.inl ⟨rfl,g,aZ.of l⟩,?_⟩
  refine wj s p λw v t G1 H1 L O V T a=> ?_
  split at a
  ·rename_i d r y R z
   obtain⟨N,e2,e,rd⟩:=aW.fz s L O V T R
   by_cases J:y.length<M.aY/\M.Gc d=k9
   ·rw [if_pos J]at a
    obtain⟨b,us,hu,C⟩:=jw e.st z
    obtain⟨q1,A⟩:=ww z
    have o:=C.length
    have S:=by rw [I]at b;exact Ae2.inj (Ae2.inj b)
    exact⟨_,us,v,S,rfl,hu,by have:=Jk;omega,a N U _ (e.cell A (Jr (e.st.heap.pure r y A) (by simp_all)) (C.append ⟨v,[],rfl,rd,rfl⟩))⟩
   ·rw [if_neg J]at a;exact a.elim
  ·exact a.elim
def aW.bj (s:aW Γ B G Y h U H)(c:h[r]? =y0 (.lst xs))(rd:aC Γ G H d v):aC Γ G (aG H (G.aU r) (.lst us)) d v:=by
 obtain⟨a,g,f,_⟩:=s.st.heap.cell r xs c
 exact rd.mon ⟨λb o w q=>by rw [ja (λe:b=G.aU r=>a (e▸w))];exact q,Aa5 _,λ_ _=>rfl,λ_ w=>w⟩
def AY (a:Go Γ F X E k cf)(b:xx cf j x0=true) (C:Qp cf i "pop" f u7=true):PS X (.Assign [.Name x0 p0] (.Call f [] [] u7) pos) (bW Γ E (M.exec F (.e8 i j))):=by
 obtain⟨x,p,m,rfl,u,t,c,J⟩:=Qw C
 unfold ck at c
 rw [Aa6]at c
 have pv:=xm (pos:=p) (by rw [a.N];exact u) (a.eO x t) (by simpa using c.1) (by simpa using c.2)
 obtain⟨v,K⟩:=jy b
 have b:=a.gf x0 K
 refine PS.imp (nW (by rw [a.N];exact a.nd) (by rw [a.N];exact v) b.1 (uj PySem.F.plainAttrs_list PySem.F.slot_list_pop PySem.F.type_list_pop yq pv rfl J) (Xc rfl) b.2) λD U H L=> ?_
 obtain⟨B,G,Y,h,s,p⟩:=L
 rw [M.exec]at p
 cases q:M.bj h (M.Gj Y i)with
 | none=>rw [q]at p;exact p.elim
 | some w=>
  obtain⟨r,e⟩:=w
  rw [q]at p
  obtain⟨z,n,o,rv⟩:=jw s.st q
  obtain⟨N,l⟩:=ww q
  refine⟨_,z,.inl ⟨rfl,n,aZ.of o⟩,?_⟩
  cases g:e[e.length-1]? with
  | none=>simp only [g]at p;exact p.elim
  | some d=>
   simp only [g]at p
   obtain⟨y,A,rd,I⟩:=rD rv g
   exact⟨_,n,y,rfl,rfl,o,A,p G _ _ ((s.cell l (qv _ (s.st.heap.pure r e l)) I).cX (s.bj l rd))⟩
def LD (e:Go Γ F X E k cf)(J:Zo cf is ts=true) (K:Qp cf i "pop" f u7=true):PS X (.Assign [.Tuple ts n p0] (.Call f [] [] u7) pos) (bW Γ E (M.exec F (.eR i is))):=by
 obtain⟨x,p,o,rfl,w,v,a,N⟩:=Qw K
 unfold ck at a
 rw [Aa6]at a
 have pv:=xm (pos:=p) (by rw [e.N];exact w) (e.eO x v) (by simpa using a.1) (by simpa using a.2)
 refine PS.imp (Q6 (uj PySem.F.plainAttrs_list PySem.F.slot_list_pop PySem.F.type_list_pop yq pv rfl N) (qp e (one:=y9) J) jU (qE rfl) rfl) λD U H O=> ?_
 obtain⟨B,G,Y,h,s,p⟩:=O
 rw [M.exec]at p
 cases q:M.bj h (M.Gj Y i)with
 | none=>rw [q]at p;exact p.elim
 | some z=>
  obtain⟨r,c⟩:=z
  rw [q]at p
  obtain⟨A,t,u,rv⟩:=jw s.st q
  obtain⟨Q,j⟩:=ww q
  refine⟨_,A,.inl ⟨rfl,t,aZ.of u⟩,?_⟩
  cases g:c[c.length-1]? with
  | none=>simp [g]at p;exact p.elim
  | some d=>
   simp [g]at p
   cases d with
   | tup l=>
    have p:aQ Γ E B (match M.aH is l Y with
     | some b=> .next b _
     | none=> .fail) D:=p
    cases m:M.aH is l Y with
    | none=>rw [m]at p;exact p.elim
    | some b=>
     rw [m]at p
     obtain⟨y,I,rd,L⟩:=rD rv g
     refine⟨_,t,y,rfl,rfl,u,I,?_⟩
     exact nD (show M.Gn is y9 (.tup l) Y=y0 b from m) (s.bj j rd) (s.cell j (qv _ (s.st.heap.pure r c j)) L) λP C=>p G P _ C
   | au=>exact p.elim
   | bl _=>exact p.elim
   | int _=>exact p.elim
   | str _=>exact p.elim
   | lst _=>exact p.elim
   | ref _=>exact p.elim
   | exc _ _=>exact p.elim
   | err _ _ _=>exact p.elim
def D4 (d:Go Γ F X E k cf)(h1:cf.N[i]? =y0 x) (h2:X1 cf.sc x=k9) (n:ck x=k9) (J:qh y=k9)(o:jc cf kx y=k9) (h:jc cf (.bl k9) v=k9):PS X (.Assign [.Subscript (.Name x p) y p2] v pos) (bW Γ E (M.exec F (.dz i kx))):=by
 refine PS.imp (Q6 (Xb _ d h).1 (pU (ZO d h1 h2 n) (Xb kx d o).1 Ma (sU J)) qT zJ rfl) λD U H K=> ?_
 obtain⟨B,G,Y,h,s,p⟩:=K
 rw [M.exec]at p
 refine⟨G,Y,h,s.st,?_⟩
 intro S Q I f v0 gX _
 have l:=s.on I f
 cases q:M.Kg h (M.Gj Y i)with
 | none=>rw [q]at p;exact p.elim
 | some t=>
  obtain⟨N,z⟩:=t
  rw [q]at p
  have sl:=(Ws l.st q).1
  refine⟨_,sl,?_⟩
  refine wj l p λw O h1 C P L g A R a=> ?_
  split at a
  ·rename_i m r u j
   split at a
   ·rename_i T
    obtain⟨b,c⟩:=Ws g.st j
    have e:=by rw [sl]at b;exact Ae2.inj (Ae2.inj b)
    cases A
    exact⟨m,_,u,rfl,e,gX,c,by have:=Jk;lia,a C U _ (g.hI (yl j).2 wb)⟩
   ·exact a.elim
  ·exact a.elim
def BW (e:Go Γ F X E k cf)(h1:cf.N[i]? =y0 x) (h2:X1 cf.sc x=k9) (c:ck x=k9) (L:qh y=k9)(A:jc cf kx y=k9) (h:jc cf m v=k9):PS X (.Assign [.Subscript (.Name x p) y p2] v pos) (bW Γ E (M.exec F (.eG i kx m))):=by
 unfold ck at c
 rw [Aa6]at c
 have pv:=xm (pos:=p) (by rw [e.N];exact h1) (e.eO x h2) (by simpa using c.1) (by simpa using c.2)
 refine PS.imp (Q6 (Xb m e h).1 (pU pv (Xb kx e A).1 Bl (sU L)) qT zJ rfl) λD U H P=> ?_
 obtain⟨B,G,Y,h,s,p⟩:=P
 refine wj s p λw v h1 G1 H1 Q o K f1 b=> ?_
 cases q:M.Gj Y i with
 | none=>rw [q]at b;exact b.elim
 | some C=>
  rw [q]at b
  cases C with
  | v d=>exact b.elim
  | bor J=>exact b.elim
  | own J=>
   obtain⟨v0,f,a,Z,rfl,V,z3,z4,z5⟩:=o.st.slot i _ q
   refine⟨.ref a,f,?_⟩
   refine wj o b λT W h2 l I e2 g z R p2=> ?_
   split at p2
   ·rename_i d j
    split at p2
    ·rename_i N
     split at p2
     ·rename_i n u
      cases (z)
      have rd:aC Γ l I d v:=Ep N K
      obtain⟨S,of,O,t,r⟩:=Xq g.st q f
      refine⟨_,O,j,n,rfl,rfl,t,by rw [← r.length];exact u,?_⟩
      exact p2 l U _ (g.write q f (ae.set rd n r))
     ·exact p2.elim
    ·exact p2.elim
   ·exact p2.elim
end
section
variable {Γ:Ge}{E:XK}{B:Bs}{G:Gh}{Y:M.Sl}{h:M.AH}{U:St}{H:Hp}{D:hU}
def C2 (c:M.Gj Y i=y0 (.own xs)) (b:U[i]? =y0 (y0 (.ref a))):Wj Y U H a=none:=by
 unfold Wj
 rw [if_pos ⟨i,xs,c,b⟩]
def j7 (e:Wj Y U H a=y0 o):H a=y0 o:=by
 unfold Wj at e
 split at e
 ·cases e
 ·exact e
def KQ (s:aw Γ G Y h U H):ai Γ G h (Wj Y U H) where
 len:=s.heap.len
 any:=λr c e=>⟨(s.heap.any r c e).1,(s.heap.any r c e).2.mon (Xw s) λo z=>by rw [xj λ⟨i,f,b,d⟩=>(Xq s b d).2.1 r (s.heap.lt e) rfl];exact z⟩
 inj:=s.heap.inj
 live:=λa z=>by
  obtain⟨o,q⟩:=s.heap.live a z
  exact⟨o,by rw [xj λ⟨i,f,b,d⟩=>(Xq s b d).1 z];exact q⟩
def nL (G:Gh) (Y:M.Sl) (h:M.AH) (U:St) (H:Hp):Bs:=⟨G,Wj Y U H,h⟩
def XH (s:aW Γ B G Y h U H):Ext B.G B.H G (Wj Y U H) where
 keep:=λa o e c=>by
  rw [xj λ⟨i,f,b,d⟩=>by rw [s.own i f a b d]at e;cases e]
  exact s.ext.keep a o e c
 le:=s.ext.le
 aU:=s.ext.aU
 new:=s.ext.new
 fz:=s.ext.fz
 old:=s.ext.old
 cells:=λr g z=>by
  obtain⟨o,q⟩:=s.ext.cells r g z
  refine⟨o,?_⟩
  rw [xj λj=>by
   obtain⟨i,f,b,d⟩:=j
   obtain⟨u,z⟩:=z
   rw [s.own i f _ b d]at z
   cases z]
  exact q
def Lz (s:aW Γ B G Y h U H):aW Γ (nL G Y h U H) G Y h U H where
 st:=s.st
 ext:=⟨λa o e _=>j7 e,Aa5 _,λ_ _=>rfl,λr h1 h2=>absurd h1 (An5.mpr h2),λ_ z=>z,λ_ z=> .inl z,λr hr ⟨o,z⟩=>⟨o,j7 z⟩⟩
 hr:=KQ s.st
 own:=λi xs a e1 e2=>C2 e1 e2
def XQ (s:aW Γ B G Y h U H)(b:aW Γ (nL G Y h U H) G2 Y2 h2 U2 H2):aW Γ B G2 Y2 h2 U2 H2:=
 ⟨b.st,(XH s).trans s.hr b.ext,s.hr,λi e a c d=>(XH s).none s.hr (b.own i e a c d)⟩
def Lm (s:aW Γ B G Y h U H)(p:aQ Γ E B o D):aQ Γ E (nL G Y h U H) o D:=by
 cases o with
 | next l j=>exact λb i c g=>p b i c (XQ s g)
 | brk l j=>exact λb i c g=>p b i c (XQ s g)
 | cont l j=>exact λb i c g=>p b i c (XQ s g)
 | ret w j=>
  refine λb v c e k r f=>p b v c ((XH s).trans s.hr e) k r ?_
  cases w with
  | v d=>trivial
  | own m=>obtain⟨a,q,n⟩:=f;exact⟨a,q,(XH s).none s.hr n⟩
  | bor m=>exact f
 | exc d j=>exact λb c e k=>p b c ((XH s).trans s.hr e) k
 | fail=>exact p
end
section
variable {Γ:Ge}{F:M.Fx}{X:Cx}{E:XK}{k:Nat}{cf:Cf}
def CL.hide (s:aw Γ G Y h U H) (c:CL Γ ds l vs G H) (b: ¬ ∃ i xs,M.Gj Y i=y0 (.own xs)/\U[i]? =y0 (y0 (.ref l))):CL Γ ds l vs G (Wj Y U H):=by
 obtain⟨a,e⟩:=c
 refine⟨?_,e.mon (Xw s)⟩
 obtain⟨a,d⟩ | a:=a
 ·refine .inl ⟨?_,d⟩
  obtain a | ⟨o,a⟩:=a
  ·exact .inl (by rw [xj b];exact a)
  ·exact .inr ⟨o,by rw [xj b];exact a⟩
 ·exact .inr a
def CL.gZ (s:aw Γ G Y h U H) (a:iW Γ G H l vs) (b:ae Γ G H ds vs):CL Γ ds l vs G (Wj Y U H):=by
 refine⟨?_,b.mon (Xw s)⟩
 obtain a | a:=a
 ·exact(CL.hide s ⟨.inl ⟨a.2,s.heap.off a.1⟩,b⟩ λ⟨j,e,c,d⟩=>(Xq s c d).1 a.1).1
 ·exact .inr a
def CT.hide (s:aw Γ G Y h U H) (c:CT Γ ds l vs G H):CT Γ ds l vs G (Wj Y U H):=⟨c.1.mon (Xw s),c.2.mon (Xw s)⟩
def WG (h:M.GD a=y0 i):a= .var i:=by
 cases a<;>first | (cases h;rfl) | cases h
def E8 (h:jc cf (.var i) e=k9): ∃x p,e= .Name x p/\cf.N[i]? =y0 x/\X1 cf.sc x=k9/\ck x=true:=by
 refine Wq (λx p h=> ?_) e h
 exact⟨_,_,rfl,ig h⟩
def nS (b:Go Γ F X E k cf)(h:jc cf (.var i) e=k9):PE X e (mz i):=by
 obtain⟨x,p,rfl,d,c,a⟩:=E8 h
 unfold ck at a
 rw [Aa6]at a
 exact xm (by rw [b.N];exact d) (b.eO x c) (by simpa using a.1) (by simpa using a.2)
def WV (s:aw Γ G Y h U H)(e:M.Gj Y i=y0 w) (k:w= .v (.lst xs)\/w= .bor xs):
 ∃l J,U[i]? =y0 (y0 (.ref l))/\CL Γ xs l J G H/\CL Γ xs l J G (Wj Y U H):=by
 obtain⟨v,g,r⟩:=s.slot i w e
 obtain rfl | rfl:=k
 ·obtain⟨l,J,rfl,a,b⟩:=r
  exact⟨l,J,g,⟨a.lV s.heap,b⟩,CL.gZ s a b⟩
 ·obtain⟨l,J,rfl,a,b,o⟩:=r
  have c:CL Γ xs l J G H:=⟨.inl ⟨b,a⟩,o⟩
  refine⟨l,J,g,c,c.hide s λ⟨j,m,d,n⟩=> ?_⟩
  have f:j≠i:=λz=>by rw [z,e]at d;cases d
  exact s.apart j i m _ l f d e rfl n g
def ZD (n:aw Γ G0 Y h0 U H0) (s:aw Γ G Y h U H)(r:ar Γ G H w v) (f:aF Y U H0 w v) (d:w= .v (.lst xs)\/w= .own xs):
 ∃l i,v= .ref l/\CL Γ xs l i G H/\CL Γ xs l i G (Wj Y U H):=by
 obtain rfl | rfl:=d
 ·obtain⟨l,i,rfl,b,a⟩:=r
  exact⟨l,i,rfl,⟨b.lV s.heap,a⟩,CL.gZ s b a⟩
 ·obtain⟨l,i,rfl,b,a,p,k⟩:=r
  obtain⟨t,m,hn⟩:=f
  cases m
  have c:CL Γ xs l i G H:=⟨.inl ⟨.inl p,a⟩,k⟩
  refine⟨l,i,rfl,c,c.hide s λ⟨j,q,g,e⟩=> ?_⟩
  obtain⟨o,z⟩:=n.cn g rfl e
  rw [hn]at z;cases z
def Lf (g:Go Γ F X E k cf)(Q:jc cf a e=k9):PI X tg e (eU Γ E k9 (M.Gr F (.seq a))):=by
 cases q:M.GD a with
 | some i=>
  cases WG q
  refine PI.imp (ny (nS g Q)) λU H R P=> ?_
  obtain⟨G,Y,h,s,p⟩:=P
  have p:ax Γ E G H (M.R.of h _) λA _ o j=> ∀J C,zt Γ J A C->C o j->(k9=k9->C o _)->R J j:=p
  cases y:M.Gj Y i with
  | none=>rw [y]at p;exact p.elim
  | some w=>
   rw [y]at p
   have lst: ∀ {b},_->ax Γ E G H (.ok b h) (λA _ o j=> ∀J C,zt Γ J A C->C o j->(k9=k9->C o (Wj Y U j))->R J j) →
    ∃v,U[i]? =y0 (y0 v)/\((∃ a,v= .ref a/\(∃ b,aZ X.K H a b)/\R (lO X.K a) H)\/(∃ a,v= .ref a/\(∃ b,bB X.K H a b)/\R (ke X.K a) H)\/ ∃z,v= .str z/\R (iI z) H):=λ{b} K p=>by
    obtain⟨l,m,t,B,O⟩:=WV s y K
    exact⟨_,t,.inl ⟨l,rfl,⟨m,g.K▸B.1.sq⟩,p G H Ext.refl s.heap _ _ (CL.walk g.K) B λ_=>O⟩⟩
   cases w with
   | v d=>
    cases d with
    | lst b=>exact lst (.inl rfl) p
    | tup b=>
     obtain⟨v,t,l,m,rfl,x,L⟩:=s.slot i _ y
     have c:CT Γ b l m G H:=⟨x,L⟩
     exact⟨_,t,.inr (.inl ⟨l,rfl,⟨m,g.K▸x.sq⟩,p G H Ext.refl s.heap _ _ (CT.walk g.K) c λ_=>c.hide s⟩)⟩
    | au=>exact p.elim
    | bl _=>exact p.elim
    | int _=>exact p.elim
    | str z=>
     obtain⟨v,t,r⟩:=s.slot i _ y
     cases (show v= .str (b6 z)from r)
     exact⟨_,t,.inr (.inr ⟨_,rfl,p G H Ext.refl s.heap _ _ JD trivial λ_=>trivial⟩)⟩
    | ref _=>exact p.elim
    | exc _ _=>exact p.elim
    | err _ _ _=>exact p.elim
   | bor b=>exact lst (.inr rfl) p
   | own b=>exact p.elim
 | none=>
  refine PI.imp (ny (Xb a g Q).1) λU H R P=> ?_
  obtain⟨G,Y,h,s,p⟩:=P
  have p:=by
   unfold M.Gr at p
   dsimp only at p
   rw [q]at p
   exact p
  refine Qa s.heap Ext.refl s p λT v1 S D n I V u N W f=> ?_
  have lst: ∀ {b},_->ax Γ E G H (.ok b S) (λA _ o j=> ∀J C,zt Γ J A C->C o j->(k9=k9->C o (Wj Y U j))->R J j) →
   ((∃ a,v1= .ref a/\(∃ b,aZ X.K n a b)/\R _ n)\/(∃ a,v1= .ref a/\(∃ b,bB X.K n a b)/\R (ke X.K a) n)\/ ∃z,v1= .str z/\R (iI z) n):=λ{b} K p=>by
   obtain⟨l,m,t,B,O⟩:=ZD s u N W K
   exact .inl ⟨l,t,⟨m,g.K▸B.1.sq⟩,p D n I u.heap _ _ (CL.walk g.K) B λ_=>O⟩
  cases T with
  | v d=>
   cases d with
   | lst b=>exact lst (.inl rfl) f
   | tup b=>
    obtain⟨l,m,rfl,x,L⟩:=N
    have c:CT Γ b l m D n:=⟨x,L⟩
    exact .inr (.inl ⟨l,rfl,⟨m,g.K▸x.sq⟩,f D n I u.heap _ _ (CT.walk g.K) c λ_=>c.hide u⟩)
   | au=>exact f.elim
   | bl _=>exact f.elim
   | int _=>exact f.elim
   | str z=>
    cases (show v1= .str (b6 z)from N)
    exact .inr (.inr ⟨_,rfl,f D n I u.heap _ _ JD trivial λ_=>trivial⟩)
   | ref _=>exact f.elim
   | exc _ _=>exact f.elim
   | err _ _ _=>exact f.elim
  | own b=>exact lst (.inr rfl) f
  | bor b=>exact f.elim
def Ec (e:Go Γ F X E k cf)(V:br cf.sc "reversed" g=true) (o:Ja x=true) (L:jc cf a x=true):PI X tg (.Call g [x] [] pos) (eU Γ E true (M.Gr F (.rev a))):=by
 obtain⟨Z,rfl,I,W⟩:=Zb V
 cases q:M.GD a with
 | some i=>
  cases WG q
  refine PI.imp (nt (e.gl _ I) (e.blt _ oN) (Jb (nS e L) jg (xa o)) (xa o)) λU H R D=> ?_
  obtain⟨G,Y,h,s,p⟩:=D
  have p:ax Γ E G H (M.R.of h _) λm _ j f=> ∀J C,zt Γ J m C->C j f->(k9=k9->C j _)->R J f:=p
  cases t:M.Gj Y i with
  | none=>rw [t]at p;exact p.elim
  | some w=>
   rw [t]at p
   have lst: ∀ {b},(w= .v _\/w= .bor b)->ax Γ E G H (.ok b.reverse h) (λm _ j f=> ∀J C,zt Γ J m C->C j f->(k9=k9->C j (Wj Y U f))->R J f) →
    ∃v,U[i]? =y0 (y0 v)/\ ∃a b,[v]= [.ref a]/\aZ X.K H a b/\R (mi X.K a b.length) H:=λ{b} r p=>by
    obtain⟨l,u,B,n,A⟩:=WV s t r
    exact⟨_,B,l,u,rfl,e.K▸n.1.sq,p G H Ext.refl s.heap _ _ (CL.fy e.K) n λ_=>A⟩
   cases w with
   | v d=>
    cases d with
    | lst b=>exact lst (.inl rfl) p
    | tup _=>exact p.elim
    | au=>exact p.elim
    | bl _=>exact p.elim
    | int _=>exact p.elim
    | str _=>exact p.elim
    | ref _=>exact p.elim
    | exc _ _=>exact p.elim
    | err _ _ _=>exact p.elim
   | bor b=>exact lst (.inr rfl) p
   | own b=>exact p.elim
 | none=>
  refine PI.imp (nt (e.gl _ I) (e.blt _ oN) (Jb (Xb a e L).1 jg (xa o)) (xa o)) λU H R D=> ?_
  obtain⟨G,Y,h,s,p⟩:=D
  have p:=by
   unfold M.Gr at p
   dsimp only at p
   rw [q]at p
   exact p
  refine Qa s.heap Ext.refl s p λz v1 O S y N P K T Q c=> ?_
  have lst: ∀ {b},(z= .v _\/z= .own b)->ax Γ E G H (.ok b.reverse O) (λm _ j f=> ∀J C,zt Γ J m C->C j f->(k9=k9->C j (Wj Y U f))->R J f) →
   ∃a b,[v1]= [.ref a]/\aZ X.K y a b/\R _ y:=λ{b} r p=>by
   obtain⟨l,u,B,n,A⟩:=ZD s K T Q r
   exact⟨l,u,by rw [B],e.K▸n.1.sq,p S y N K.heap _ _ (CL.fy e.K) n λ_=>A⟩
  cases z with
  | v d=>
   cases d with
   | lst b=>exact lst (.inl rfl) c
   | tup _=>exact c.elim
   | au=>exact c.elim
   | bl _=>exact c.elim
   | int _=>exact c.elim
   | str _=>exact c.elim
   | ref _=>exact c.elim
   | exc _ _=>exact c.elim
   | err _ _ _=>exact c.elim
  | own b=>exact lst (.inr rfl) c
  | bor b=>exact c.elim
theorem ZC: ∀(ds) (i),(M.GR i ds).length=ds.length
 | [],_=>rfl
 | d::ds,i=>congrArg (· +1) (ZC ds (i+1))
theorem vf: ∀(ds) (j i) (h:i<ds.length),(M.GR j ds)[i]? =y0 (.tup [.int ((j+i:Nat):Int),ds[i]])
 | d::ds,j,0,_=>rfl
 | d::ds,j,i+1,h=>by
  have:=vf ds (j+1) i (by simpa using h)
  rw [show j+1+i=j+(i+1)by omega]at this
  simpa [M.GR]using this
def Ld: "enumerate" ∈bQ:=by decide
def CT.lU {K:Aa7}(j:K=Γ.K):zt Γ (nE K l) (M.GR 0 ds) (CT Γ ds l vs) where
 go:=by
  rintro i G H ⟨c,d⟩ b
  rw [ZC]at b
  obtain⟨v,e,_⟩:=d.get (Aa4 b)
  exact⟨vs,v,j▸c.sq,e⟩
 eC:=by
  rintro i G H x t ⟨c,d⟩ b ⟨p,y,g,ex,k,s⟩
  rw [ZC]at b
  subst ex k
  obtain⟨v,e,rd⟩:=d.get (Aa4 b)
  have:=s vs (j▸c.sq)
  rw [e]at this
  cases this
  refine⟨G.more p,jf _ g,λh f=>f.e7 _ g,.tup [.int i,ds[i]],by rw [vf ds 0 i b,Af9],⟨p,[.int i,y],rfl,.inl ⟨.inr rfl,wb⟩,⟨.int i,[y],rfl,rfl,⟨y,[],rfl,?_,rfl⟩⟩⟩⟩
  have r:Mon G H (G.more p) (aG H p (.tup [.int i,y])):=⟨λa o u q=>by rw [ja (Wa q g)];exact q,Aa5 _,λ_ _=>rfl,λ_ z=>Or.inl z⟩
  exact rd.mon r
 stop:=by
  rintro i G H ⟨c,d⟩ n m
  rw [ZC]at n m
  exact⟨vs,j▸c.sq,by rw [← d.length];omega⟩
 keep:=λG H w t h z e f=>⟨z.1.mon (e.mon f),z.2.ext e f⟩
def Fz (e:Go Γ F X E k cf)(C:br cf.sc "enumerate" g=true) (j:Ja x=true) (r:PE X x (tD Γ E (M.eval F a))):PI X (.Tuple elts x1 tp) (.Call g [x] [] pos) (eU Γ E true (M.Gr F (.enum a))):=by
 obtain⟨J,rfl,t,D⟩:=Zb C
 refine PI.imp (yZ (e.gl _ t) (e.blt _ Ld) (Jb r jg (xa j)) (xa j)) λU H R B=> ?_
 obtain⟨G,Y,h,s,p⟩:=B
 have p:=p
 refine Qa s.heap Ext.refl s p λy v1 I q o u z i A K b=> ?_
 cases y with
 | v d=>
  cases d with
  | tup f=>
   obtain⟨l,n,rfl,m,w⟩:=A
   have c:CT Γ f l n q o:=⟨m,w⟩
   exact⟨l,n,rfl,e.K▸m.sq,b q o u i.heap _ _ (CT.lU e.K) c λ_=>c.hide i⟩
  | au=>exact b.elim
  | bl _=>exact b.elim
  | int _=>exact b.elim
  | str _=>exact b.elim
  | lst _=>exact b.elim
  | ref _=>exact b.elim
  | exc _ _=>exact b.elim
  | err _ _ _=>exact b.elim
 | own f=>exact b.elim
 | bor f=>exact b.elim
def D2: "zip" ∈bQ:=by decide
theorem CZ.walk {K:Aa7}(d:K=Γ.K):zt Γ (nG K l a) ((xs.zip ys).map λp=> .tup [p.1,p.2]) (λG H=>CL Γ xs l vs G H/\CT Γ ys a us G H) where
 go:=by
  rintro i G H ⟨c,b⟩ g
  rw [Aa,Ak]at g
  obtain⟨v,e,_⟩:=c.2.get (Aa4 (show i<xs.length by omega))
  obtain⟨v2,t,_⟩:=b.2.get (Aa4 (show i<ys.length by omega))
  exact⟨vs,v,us,v2,d▸c.1.sq,e,d▸b.1.sq,t⟩
 eC:=by
  rintro i G H x A ⟨c,b⟩ g ⟨p,n,j,r,ex,B,m,k⟩
  rw [Aa,Ak]at g
  subst ex B
  have i1:i<xs.length:=by omega
  have i2:i<ys.length:=by omega
  obtain⟨v,e,rd⟩:=c.2.get (Aa4 i1)
  obtain⟨v2,t,s⟩:=b.2.get (Aa4 i2)
  have w:=m vs (d▸c.1.sq)
  rw [e]at w
  cases w
  have u:=k us (d▸b.1.sq)
  rw [t]at u
  cases u
  have y:Mon G H (G.more p) (aG H p (.tup [n,j])):=⟨λa o D q=>by rw [ja (Wa q r)];exact q,Aa5 _,λ_ _=>rfl,λ_ z=>Or.inl z⟩
  refine⟨G.more p,jf _ r,λh f=>f.e7 _ r,.tup [xs[i],ys[i]],?_,⟨p,[n,j],rfl,.inl ⟨.inr rfl,wb⟩,⟨n,[j],rfl,rd.mon y,⟨j,[],rfl,s.mon y,rfl⟩⟩⟩⟩
  rw [Ac4,Aa4 (by rw [Ak];exact g),List.getElem_zip]
  rfl
 stop:=by
  rintro i G H ⟨c,b⟩ m k
  rw [Aa,Ak]at m k
  exact⟨vs,us,d▸c.1.sq,d▸b.1.sq,by rw [← c.2.length,←b.2.length];omega⟩
 keep:=λG H C A h ⟨c,b⟩ e f=>⟨(CL.walk d).keep G H C A h c e f,⟨b.1.mon (e.mon f),b.2.ext e f⟩⟩
def CY (e:Go Γ F X E k cf)(hg:br cf.sc "zip" g=true) (r:Ja x=true) (m:Ja y=true) (B:PE X x (tD Γ E (M.eval F a))) (K:PE X y (tD Γ E (M.eval F b))):PI X (.Tuple elts x1 tp) (.Call g [x,y] [] pos) (eU Γ E true (M.Gr F (.zip a b))):=by
 obtain⟨p0,rfl,n,h3⟩:=Zb hg
 refine PI.imp (A9 (e.gl _ n) (e.blt _ D2) (Jb B (Jb K jg (xa m)) (xa r)) (by rw [xa r,xa m];rfl) (by rw [xa m];rfl)) λU H R Z=> ?_
 obtain⟨G,Y,h,s,p⟩:=Z
 have p:=p
 refine Qa s.heap Ext.refl s p λP v1 h1 G1 H1 C Q q T S N=> ?_
 refine Qa s.heap C q N λV v2 n o t W i f D f2 c=> ?_
 cases P with
 | v d=>exact c.elim
 | bor I=>exact c.elim
 | own I=>
  cases V with
  | own _=>exact c.elim
  | bor _=>exact c.elim
  | v d=>
   cases d with
   | tup J=>
    obtain⟨l,L,rfl,A,j⟩:=ZD s f (T.ext i q.heap) S (.inr rfl)
    obtain⟨l2,z,rfl,u,O⟩:=D
    have w:CT Γ J l2 z o t:=⟨u,O⟩
    exact⟨l,l2,L,z,rfl,e.K▸A.1.sq,e.K▸u.sq,c o t W f.heap _ _ (CZ.walk e.K) ⟨A,w⟩ λ_=>⟨j,w.hide f⟩⟩
   | au=>exact c.elim
   | bl _=>exact c.elim
   | int _=>exact c.elim
   | str _=>exact c.elim
   | lst _=>exact c.elim
   | ref _=>exact c.elim
   | exc _ _=>exact c.elim
   | err _ _ _=>exact c.elim
def K3 (c:Go Γ F X E k cf)(o:oB it tg=k9) (h:nJ cf it e=k9):PI X tg e (eU Γ E k9 (M.Gr F it))/\Qe e=true:=by
 cases it with
 | seq a=>exact⟨Lf c (a2 h).2,(a2 h).1⟩
 | av a=>
  refine zi (λg x l p h=> ?_) e h
  refine kE (λh=> ?_) l h
  refine kC (λx r h=> ?_) x h
  refine kE (λh=> ?_) r h
  obtain⟨i,d,f⟩:=a3 h
  exact⟨ZH c i d (Xb a c f).1,rfl⟩
 | bP a b=>
  refine zi (λg x l p h=> ?_) e h
  refine kE (λh=> ?_) l h
  refine kC (λx r h=> ?_) x h
  refine kC (λy r h=> ?_) r h
  refine kE (λh=> ?_) r h
  obtain⟨i,d,f,m,n⟩:=a5 h
  exact⟨ZF c i d f (Xb a c m).1 (Xb b c n).1,rfl⟩
 | rev a=>
  refine zi (λg x l p h=> ?_) e h
  refine kE (λh=> ?_) l h
  refine kC (λx r h=> ?_) x h
  refine kE (λh=> ?_) r h
  obtain⟨i,d,f⟩:=a3 h
  exact⟨Ec c i d f,rfl⟩
 | zip a b=>
  cases tg with
  | Tuple j s q=>
   refine zi (λg x l p h=> ?_) e h
   refine kE (λh=> ?_) l h
   refine kC (λx r h=> ?_) x h
   refine kC (λy r h=> ?_) r h
   refine kE (λh=> ?_) r h
   obtain⟨i,d,f,m,n⟩:=a5 h
   exact⟨CY c i d f (Xb a c m).1 (Xb b c n).1,rfl⟩
  | _=>exact bF o
 | enum a=>
  cases tg with
  | Tuple j s q=>
   refine zi (λg x l p h=> ?_) e h
   refine kE (λh=> ?_) l h
   refine kC (λx r h=> ?_) x h
   refine kE (λh=> ?_) r h
   obtain⟨i,d,f⟩:=a3 h
   exact⟨Fz c i d (Xb a c f).1,rfl⟩
  | _=>exact bF o
end
section
variable {Γ:Ge}{G G0:Gh}{H H0:Hp}{h:M.AH}
def Gh.cut (G:Gh) (n:Nat):Gh:= { G with n:=n }
mutual
theorem aC.cut (n:Nat): ∀ {d:M.D}{v:V},M.Gc d=k9->aC Γ G H d v->aC Γ (G.cut n) H d v
 | .au,_,_,z=>z
 | .bl _,_,_,z=>z
 | .int _,_,_,z=>z
 | .str _,_,_,z=>z
 | .tup _,_,q,⟨a,vs,z1,z2,z3⟩=>⟨a,vs,z1,z2,ae.eT n (by simpa [M.Gc]using q) z3⟩
 | .lst _,_,q,⟨a,vs,z1,z2,z3⟩=>⟨a,vs,z1,z2,ae.eT n (by simpa [M.Gc]using q) z3⟩
 | .ref r,_,q,_=>by simp [M.Gc]at q
 | .exc c fs,_,q,z=>by simp [M.Gc]at q
 | .err c f d,_,q,z=>by simp [M.Gc]at q
theorem ae.eT (n:Nat): ∀ {ds:List M.D}{vs:List V},M.Gd ds=k9->ae Γ G H ds vs->ae Γ (G.cut n) H ds vs
 | [],_,_,z=>z
 | d::ds,_,q,⟨v,r,z1,z2,z3⟩=>by
  have q':M.Gc d=k9/\M.Gd ds=true:=by simpa [M.Gd]using q
  exact⟨v,r,z1,aC.cut n q'.1 z2,ae.eT n q'.2 z3⟩
end
theorem xN: ∀l:List Int,M.Gd (l.map M.D.int)=k9
 | []=>rfl
 | _::l=>xN l
def Ie (k):M.Gc (sW k)=true:=by
 show(k9&&(M.Gd _&&(M.Gd _&&k9)))=k9
 rw [xN,xN];rfl
theorem ai.cut (r:ai Γ G h H)(g:n<=G.n):ai Γ (G.cut n) (h.take n) H where
 len:=by rw [Af8,r.len];exact Ak4 g
 any:=λi c e=>by
  have t:i<n:=by
   have:=(Ac0.mp e).1
   rw [Af8]at this
   omega
  rw [List.getElem?_take_of_lt t]at e
  obtain⟨p,f⟩:=r.any i c e
  refine⟨p,?_⟩
  cases c with
  | lst k=>obtain⟨a,w,b,d⟩:=f;exact⟨a,w,b,ae.eT n a d⟩
  | gw q=>obtain⟨k,b,d,s⟩:=f;exact⟨k,b,d,λx o=>aC.cut n (Ie x.1) (s x o)⟩
  | bX q=>exact f
  | obj c fs=>obtain⟨a,u,v,b,d⟩:=f;exact⟨a,u,v,b,ae.eT n a d⟩
 inj:=λi j m l e=>r.inj i j (Ab0 m g) (Ab0 l g) e
 live:=r.live
theorem Ext.cut (e:Ext G0 H0 G H):Ext G0 H0 (G.cut G0.n) H:=⟨e.keep,Aa5 _,e.aU,λr a b=>absurd a (An5.mpr b),e.fz,e.old,e.cells⟩
theorem ar.cut (n) (b:n<=G.n)(q:w.keep=k9) (h: ∀xs,w≠ .bor xs) (z:ar Γ G H w v):ar Γ (G.cut n) H w v:=by
 cases w with
 | v d=>exact aC.cut n q z
 | own xs=>
  obtain⟨a,i,j,c,e,k,g⟩:=z
  exact⟨a,i,j,c,λr f=>e r (Ab0 f b),k,ae.eT n q g⟩
 | bor xs=>exact absurd rfl (h xs)
end
section
variable {Γ:Ge}{F:M.Fx}{X:Cx}{E:XK}{k:Nat}{cf:Cf}
def Lu (c:Go Γ F X E k cf)(b:Wu v=k9)(h:jc cf m v=k9):PS X (.Expr v pos) (bW Γ E (M.exec F (.ex m))):=by
 refine PS.imp (XN (Xb m c h).1 (Xc b)) λD U H g=> ?_
 obtain⟨B,G,Y,h,s,p⟩:=g
 exact wj s p λw v j f e i a n l d=>d f U e a
def Bn (s:aW Γ B G Y h U H)(f:aF Y U H w v) (c: ∀xs,w≠ .bor xs):aF [] [] B.H w v:=by
 cases w with
 | v d=>trivial
 | own xs=>obtain⟨a,e,b⟩:=f;exact⟨a,e,s.ext.none s.hr b⟩
 | bor xs=>exact absurd rfl (c xs)
def KS (j:Go Γ F X E k cf)(h:jc cf m v=k9):PS X (.Return (y0 v) pos) (bW Γ E (M.exec F (.ret m))):=by
 cases q:M.GD m with
 | some i=>
  cases WG q
  refine PS.imp (sH (nS j h)) λD U H g=> ?_
  obtain⟨B,G,Y,h,s,p⟩:=g
  rw [M.exec,q]at p
  dsimp only at p
  cases e:M.Gj Y i with
  | none=>rw [e]at p;exact p.elim
  | some w=>
   rw [e]at p
   obtain⟨v,t,r⟩:=s.st.slot i w e
   refine⟨v,t,?_⟩
   cases w with
   | bor b=>exact p.elim
   | v d=>exact p G v H s.ext s.st.heap r trivial
   | own b=>
    have x:=r
    obtain⟨a,C,rfl,_⟩:=x
    exact p G _ H s.ext s.st.heap r ⟨a,rfl,s.own i b a e t⟩
 | none=>
  refine PS.imp (sH (Xb m j h).1) λD U H g=> ?_
  obtain⟨B,G,Y,h,s,p⟩:=g
  have p:aQ Γ E B ((M.eval F m Y h).cY λw h=>match w with
   | .bor _=> .fail
   | w=> .ret w h) D:=by
   rw [M.exec,q]at p;exact p
  refine wj s p λw v A o l y c n u f=> ?_
  cases w with
  | bor b=>exact f.elim
  | v d=>exact f o v l c.ext c.st.heap n trivial
  | own b=>exact f o v l c.ext c.st.heap n (Bn s u λb z=>by cases z)
def AQ (k:PT X x (cu Γ E (M.Gs F c))) (i:cG X ys (bW Γ E (M.execs F a))) (j:cG X zs (bW Γ E (M.execs F b))):PS X (.If x ys zs pos) (bW Γ E (M.exec F (.iff c a b))):=by
 refine PS.imp (Bq k i j) λD U H l=> ?_
 obtain⟨B,G,Y,h,s,p⟩:=l
 refine ur s p λt d g n m e f=> ?_
 cases t with
 | true=>exact nc ⟨B,g,Y,d,e,f⟩
 | false=>exact mY ⟨B,g,Y,d,e,f⟩
def Az {c:Stmt}(h1:PS X c (bW Γ E (M.exec F s))) (h2:cG X sts (bW Γ E (M.execs F ss))):cG X (c::sts) (bW Γ E (M.execs F (.cons s ss))):=by
 refine cG.imp (Mp h1 h2) λD U H i=> ?_
 obtain⟨B,G,Y,h,g,p⟩:=i
 rw [M.execs]at p
 refine⟨B,G,Y,h,g,?_⟩
 cases q:M.exec F s Y h with
 | next b a=>rw [q]at p;exact λf k j e=>⟨B,f,b,a,e,p⟩
 | ret w a=>rw [q]at p;exact p
 | brk b a=>rw [q]at p;exact p
 | cont b a=>rw [q]at p;exact p
 | exc d a=>rw [q]at p;exact p
 | fail=>rw [q]at p;exact p
def EG:cG X [] (bW Γ E (M.execs F .nil)):=cG.imp CD λD U H ⟨B,G,Y,h,s,p⟩=>p G U H s
def WU (h2:cG X sts (bW Γ E (M.execs F ss))):cG X sts (bW Γ E (M.execs F (.cons (.freeze i) ss))):=by
 refine cG.imp h2 λD U H c=> ?_
 obtain⟨B,G,Y,h,s,p⟩:=c
 rw [M.execs,M.exec]at p
 cases q:M.Gj Y i with
 | none=>rw [q]at p;exact⟨B,G,Y,h,s,p⟩
 | some w=>
  rw [q]at p
  cases w with
  | v d=>exact⟨B,G,Y,h,s,p⟩
  | bor e=>exact⟨B,G,Y,h,s,p⟩
  | own e=>
   obtain⟨b,a⟩:=s.freeze q
   exact⟨B,b,_,h,a,p⟩
def Dy (A:gy Γ F X E k cf)(J:PT X x (cu Γ E (M.Gs F c))) (C:cG X ys (bW Γ E (M.execs F b))):PS X (.While x ys [] pos) (bW Γ E (M.exec F (.lJ n c b))):=by
 refine PS.imp (Bf A.iK J C) λD U H K=> ?_
 obtain⟨B,G,Y,h,s,p⟩:=K
 refine⟨λm U H=> ∃G Y h,aW Γ B G Y h U H/\aQ Γ E B (M.GN (λY h=>M.Gs F c Y h) (λY h=>M.execs F b Y h) m Y h) D,⟨n,G,Y,h,s,p⟩,?_⟩
 rintro m U H ⟨G,Y,h,s,p⟩
 cases m with
 | zero=>exact p.elim
 | succ m=>
  refine ur s p λt l v I L u a=> ?_
  cases t with
  | false=>exact mY (a v U I u)
  | true=>
   refine nc ⟨_,λz y w=>⟨m,Ag6 _,w⟩,B,v,Y,l,u,?_⟩
   have a:aQ Γ E B (match M.execs F b Y l with
    | .next f g=>M.GN (λY h=>M.Gs F c Y h) (λY h=>M.execs F b Y h) m f g
    | .cont f g=>M.GN (λY h=>M.Gs F c Y h) (λY h=>M.execs F b Y h) m f g
    | .brk f g=> .next f g
    | o=>o) D:=a
   cases q:M.execs F b Y l with
   | next i e=>rw [q]at a;exact λr z y j=>⟨r,i,e,j,a⟩
   | cont i e=>rw [q]at a;exact λr z y j=>⟨r,i,e,j,a⟩
   | ret w e=>rw [q]at a;exact a
   | brk i e=>rw [q]at a;exact a
   | exc d e=>rw [q]at a;exact a
   | fail=>rw [q]at a;exact a
def BH (y:gy Γ F X E k cf)(he:oB it t=k9) (ht:Ze cf tg one t=k9) (hi:nJ cf it iter=k9) (hb:cG X ys (bW Γ E (M.execs F b))):
 PS X (.For t iter ys [] pos) (bW Γ E (M.exec F (.for tg one it b))):=by
 obtain⟨li,ls⟩:=K3 y.toGo he hi
 refine PS.imp (CJ y.iK y.calm li (qp y.toGo ht) hb (Q4 ls)) λD U H qq=> ?_
 obtain⟨B,G,Y,h,s,p⟩:=qq
 rw [M.exec]at p
 refine⟨G,Y,h,s.st,?_⟩
 cases q:M.Gr F it Y h with
 | exc d V=>rw [q]at p;exact aQ.exc s p
 | fail=>rw [q]at p;exact p
 | ok j V=>
  rw [q]at p
  intro G1 H1 e hr J C z c0 N
  have W:=s.on e hr
  have p1:=Lm W p
  have cB:=N rfl
  have s2:=Lz W
  refine⟨λi m S u=> ∃n v r,(m=j.length-i/\i<=j.length)/\aW Γ _ n v r S u/\aQ Γ E _ (M.Gq _ (λY h=>M.execs F b Y h) (j.drop i) v r) D,
   ⟨j.length,G1,Y,V,⟨by simp,Ah2 _⟩,s2,p1⟩,?_⟩
  rintro i m S u ⟨n,v,r,⟨rfl,hi'⟩,l,a⟩
  have O:=z.keep _ _ _ _ _ cB l.ext l.hr
  by_cases g:i<j.length
  ·refine .inr ⟨z.go i n u O g,_,λU2 H2 w=>⟨j.length-(i+1),by omega,w⟩,λx P hy=> ?_⟩
   obtain⟨G4,x4,K,d,Z,T⟩:=z.eC i n u x P O g hy
   have l:=l.on x4 (K _ l.st.heap)
   have I:j.drop i=d::j.drop (i+1):=by
    rw [Al2 g]
    rw [Aa4 g]at Z
    cases Z
    rfl
   rw [I,M.Gq]at a
   cases Q:M.Gn tg one d v with
   | none=>rw [Q]at a;exact a.elim
   | some A=>
    rw [Q]at a
    refine nD Q T l λU2 s3=>⟨_,G4,A,r,s3,?_⟩
    have a:aQ Γ E _ (match M.execs F b A r with
     | .next f c=>M.Gq _ (λY h=>M.execs F b Y h) _ f c
     | .cont f c=>M.Gq _ (λY h=>M.execs F b Y h) _ f c
     | .brk f c=> .next f c
     | o=>o) D:=a
    cases q:M.execs F b A r with
    | next f c=>rw [q]at a;exact λL U3 H3 R=>⟨L,f,c,⟨rfl,by omega⟩,R,a⟩
    | cont f c=>rw [q]at a;exact λL U3 H3 R=>⟨L,f,c,⟨rfl,by omega⟩,R,a⟩
    | ret w c=>rw [q]at a;exact a
    | brk f c=>rw [q]at a;exact a
    | exc d c=>rw [q]at a;exact a
    | fail=>rw [q]at a;exact a
  ·have ei:i=j.length:=by lia
   subst ei
   rw [List.drop_length]at a
   exact .inl ⟨z.stop _ n u O (Aa5 _) (Aa5 _),a n S u l⟩
theorem wK: ∀ {es}{xs}{Y}{h}{ds}{h'},a8 cf es xs=k9->M.Gg F es Y h= .ok ds h'->ds.length=xs.length
 | .nil,xs,_,_,_,_,c,e=>by
  cases Ae1.mp c
  rw [M.Gg]at e;cases e;rfl
 | .cons a es,xs,Y,h,ds,h',c,e=>by
  refine kC (λx r c=> ?_) xs c
  obtain⟨w,g,d,e⟩:=Qd e
  obtain⟨r,f,b,e⟩:=Qd e
  cases e
  rw [Ab8,Ab8,wK (a2 c).2 b]
theorem qz: ∀(Y) (i j),M.Gj (Y.set i u0) j=if j=i then u0 else M.Gj Y j
 | [],i,j=>by simp
 | x::r,0,0=>by simp
 | x::r,0,j+1=>by simp
 | x::r,i+1,0=>by simp
 | x::r,i+1,j+1=>by simpa using qz r i j
def aW.clear (s:aW Γ B G Y h U H):aW Γ B G (Y.set i u0) h (U.set i u0) H:=by
 have ne: ∀ {j w},M.Gj _ j=y0 w->j≠i/\M.Gj Y j=y0 w:=λ{j w} e=>by
  rw [qz]at e
  split at e
  ·cases e
  ·rename_i c;exact⟨c,e⟩
 have f: ∀ {j},j≠i->(U.set i u0)[j]? =U[j]? :=λ{j} c=>Ad (Ne.symm c)
 refine⟨⟨by rw [Ae0,Ae0];exact s.st.len,λj w e=> ?_,λp q g w a k b d m l=> ?_,s.st.heap⟩,s.ext,s.hr,λj g a b d=> ?_⟩
 ·obtain⟨c,e⟩:=ne e
  obtain⟨v,o,n⟩:=s.st.slot j w e
  exact⟨v,by rw [f c];exact o,n⟩
 ·obtain⟨r,b⟩:=ne b
  obtain⟨t,d⟩:=ne d
  rw [f r]at l
  rw [f t]
  exact s.st.apart p q g w a k b d m l
 ·obtain⟨c,b⟩:=ne b
  rw [f c]at d
  exact s.own j g a b d
def aW.mv (s:aW Γ B G Y h U H)(e:M.Gj Y j=y0 (.own xs)) (y:U[j]? =y0 (y0 (.ref a))):aW Γ B G (M.Gy (Y.set j u0) i (.own xs)) h (U.set i (y0 (.ref a))) H:=by
 have d: ∀ {k w},M.Gj (M.Gy _ i (.own xs)) k=y0 w->(k=i/\i<Y.length/\w= .own xs)\/(k≠i/\k≠j/\M.Gj Y k=y0 w):=λ{k w} q=>by
  rw [Zd]at q
  by_cases c:k=i/\i<(Y.set j u0).length
  ·rw [if_pos c]at q
   cases q
   exact .inl ⟨c.1,by have:=c.2;rw [Ae0]at this;exact this,rfl⟩
  ·rw [if_neg c,qz]at q
   split at q
   ·cases q
   ·rename_i E
    refine .inr ⟨λz=>c ⟨z,?_⟩,E,q⟩
    rw [Ae0,←z]
    exact Qm q
 have n: ∀ {k},k≠i->(U.set i (y0 (V.ref a)))[k]? =U[k]? :=λ{k} E=>Ad (Ne.symm E)
 have u:i<Y.length->(U.set i (y0 (V.ref a)))[i]? =y0 _:=λf=>Ad0 (by rw [← s.st.len];exact f)
 refine⟨⟨by rw [Jj,Ae0,Ae0];exact s.st.len,λk w q=> ?_,λp q r w b o I g J m=> ?_,s.st.heap⟩,s.ext,s.hr,λk r b I g=> ?_⟩
 ·obtain⟨rfl,f,rfl⟩ | ⟨l,A,q⟩:=d q
  ·obtain⟨v,t,F⟩:=s.st.slot j _ e
   rw [y]at t
   cases t
   exact⟨_,u f,F⟩
  ·obtain⟨v,t,F⟩:=s.st.slot k w q
   exact⟨v,by rw [n l];exact t,F⟩
 ·obtain⟨rfl,f,z⟩ | ⟨l,A,x⟩:=d I
  ·obtain⟨rfl,_,_⟩ | ⟨C,K,D⟩:=d g
   ·exact absurd rfl o
   ·rw [u f]at m
    cases m
    rw [n C]
    exact s.st.apart j q xs w a (Ne.symm K) e D J y
  ·rw [n l]at m
   obtain⟨rfl,f,z⟩ | ⟨C,K,D⟩:=d g
   ·rw [u f]
    intro L
    cases L
    exact s.st.apart p j r _ a A x e rfl m y
   ·rw [n C]
    exact s.st.apart p q r w b o x D J m
 ·obtain⟨rfl,f,z⟩ | ⟨l,A,x⟩:=d I
  ·rw [u f]at g
   cases g
   exact s.own j xs a e y
  ·rw [n l]at g
   exact s.own k r b x g
def A7 (b:Go Γ F X E k cf)(c:xx cf i x=k9) (h1:cf.N[j]? =y0 y) (h2:X1 cf.sc y=k9) (f:ck y=k9):PS X (.Assign [.Name x p] (.Name y p') pos) (bW Γ E (M.exec F (.mv i j))):=by
 unfold ck at f
 rw [Aa6]at f
 have pv:=xm (pos:=p') (by rw [b.N];exact h1) (b.eO y h2) (by simpa using f.1) (by simpa using f.2)
 obtain⟨l,o⟩:=jy c
 have c:=b.gf x o
 refine PS.imp (nW (by rw [b.N];exact b.nd) (by rw [b.N];exact l) c.1 pv (Xc rfl) c.2) λD U H r=> ?_
 obtain⟨B,G,Y,h,s,q⟩:=r
 rw [M.exec]at q
 cases e:M.Gj Y j with
 | none=>rw [e]at q;exact q.elim
 | some m=>
  rw [e]at q
  cases m with
  | v d=>exact q.elim
  | bor n=>exact q.elim
  | own n=>
   obtain⟨v0,g,a,u,rfl,t,w,A,z⟩:=s.st.slot j _ e
   exact⟨.ref a,g,q G _ H (s.mv e g)⟩
def Me (b:gy Γ F X E k cf)(y:br cf.sc c g=k9) (n:cf.cD.contains c=k9) (f:(x::xs).length<=1000) (a:a8 cf es (x::xs)=k9):
 PS X (.Raise (y0 (.Call g (x::xs) [] u7)) u0 pos) (bW Γ E (M.exec F (.raise c es))):=by
 obtain⟨A,rfl,i,j⟩:=Zb y
 obtain⟨t,m⟩:=b.cD c n i j
 refine PS.imp (m _ _ _ _ _ _ (dh es b.toGo a) (Je a)) λD U H w=> ?_
 obtain⟨B,G,Y,h,s,p⟩:=w
 rw [M.exec]at p
 refine⟨G,Y,h,s.st,?_⟩
 cases q:M.Gg F es Y h with
 | exc d l=>rw [q]at p;exact aQ.exc s p
 | fail=>rw [q]at p;exact p
 | ok z l=>
  rw [q]at p
  intro v o e u C r
  refine⟨?_,(p v o (s.ext.trans s.hr e) u).1 c rfl t⟩
  rw [← r.length,wK a q]
  exact Ah1 (jm f)
def BO (i:gy Γ F X E k cf)(I:br cf.sc c g=k9) (w:cf.ob.er.contains (c,f)=k9) (l:a8 cf (.cons e .nil) [x]=k9):
 PS X (.Raise (y0 (.Call g [x] [] u7)) u0 pos) (bW Γ E (M.exec F (.cQ c f e))):=by
 obtain⟨J,rfl,m,o⟩:=Zb I
 obtain⟨y,A,u⟩:=i.mf c f w m o
 refine PS.imp (u _ _ _ _ _ (gR _ i.toGo l) (Je l _ Aa3)) λD U H C=> ?_
 obtain⟨B,G,Y,h,s,p⟩:=C
 rw [M.exec]at p
 refine⟨G,Y,h,s.st,?_⟩
 cases q:M.Gm F _ Y h with
 | exc d t=>rw [q]at p;exact aQ.exc s p
 | fail=>rw [q]at p;exact p
 | ok b t=>
  rw [q]at p
  intro N K n j O r
  cases b with
  | nil=>exact p.elim
  | cons d b=>
   cases b with
   | cons _ _=>exact p.elim
   | nil=>
    obtain⟨v,L,rfl,rd,rfl⟩:=r
    refine⟨v,rfl,λz a=> ?_⟩
    exact(p _ _ ((s.ext.trans s.hr n).trans s.hr (jf _ a)) (j.e7 _ a)).2 c f d rfl y A z v (.inr rfl) wb (rd.ext (jf _ a) j)
def BF (a:eI Γ c) (d:w∈Γ.own) (b:(M.GI Γ.cl 8 c).contains w=k9):PySem.W.kitCls Γ.K (.ref (Γ.ca c)) (.ref (Γ.ca w))=y0 true:=by
 have h:=a.own w d
 rw [b]at h
 unfold Am0 at h
 split at h
 ·rename_i e
  have e:=by simpa using e
  rw [← e]
  exact a.k.slf
 ·exact h
theorem Go.fg (a:Go Γ F X E k cf):Go Γ F X.fg E0 k cf:=⟨a.N,a.K,a.cl,a.ow,a.nd,a.eO,a.i7,a.gf,a.lg,a.gl,a.calm,a.room,a.eJ,λb U H s e u _ m=>by
 obtain⟨x,q,t,B,r,_,_,_,_,_,_,_,_,_,_,n⟩:=m
 exact n.elim,a.blt,a.con,λf o=>by
 obtain⟨c,l,j,i,d,g,p⟩:=(a.fn f o).imp λc h=>h.ex
 exact⟨c,⟨l,j,i,d,g,p⟩⟩,a.cls,a.fld,a.i6,a.fQ⟩
theorem PS.fg {b:Stmt}(h:PS X.fg b t):PS X b t:=λa s U H D I q=>wpAny_mono (h a s U H D (I.c8 _) q) (λ_ _ z=>SP.bO z) λ_ _ z=>False.elim z
def bM.imp {b:Stmt}(h:bM X wx n v wq vp np ap hp b t) (k: ∀D U H,t' D U H->t D U H):bM X wx n v wq vp np ap hp b t':=λa s U H D c I q d=>h a s U H D c I (k _ _ _ q) d
def Du (l:gy Γ F X E k cf)(P:cf.own.contains c=k9) (w:aW Γ B G1 Y h1 U H1) (v:Ext G1 H1 G2 H2) (h:ai Γ G2 h2 H2)
 (p:aQ Γ E B (match M.bV F.cl (.v d) [c]with
   | some true=> .next ((M.Gy (M.Gy Y nm (.v d)) L (.v d)).set nm u0) (M.Kp d h1.length h2)
   | _=> .fail) D):
 oj Γ (λJ i H2=> ∃C,J= .ref C/\gi X.fg.K C/\PySem.W.kitCls X.fg.K (.ref C) (.ref (Γ.ca c))=y0 k9/\ ∀x,H2 x=u0->D.nx (((U.set nm (y0 (.ref x))).set L (y0 (.ref x))).set nm u0) (aG H2 x (eX x C i))) d G2 H2:=by
 have g: ∀ a i,M.bV F.cl _ [c]=y0 ([c].any (M.GI F.cl 8 a).contains)->eI Γ a->(∃ m,Ext G1 H1 m H2/\ai Γ m (M.Kp d h1.length h2) H2/\ ∀y,H2 y=u0->aC Γ (m.more y) (aG H2 y (eX y (Γ.ca a) i)) d (.ref y)) →
  ∃C,Value.ref _= .ref C/\gi X.fg.K C/\PySem.W.kitCls X.fg.K _ _=y0 k9/\ ∀y,H2 y=u0->D.nx (((U.set nm (y0 (.ref y))).set L (y0 (.ref y))).set nm u0) (aG H2 y (eX y C i)):=λa i ix e ⟨m,n,b,t⟩=>by
  rw [ix]at p
  cases r: [c].any (M.GI F.cl 8 a).contains with
  | false=>rw [r]at p;exact p.elim
  | true=>
   rw [r]at p
   have O:(M.GI Γ.cl 8 a).contains c=true:=by rw [← l.cl];simpa using r
   refine⟨_,rfl,l.K▸e.k,l.K▸BF e (by rw [← l.ow];exact Ah7.mp P) O,λy f=> ?_⟩
   have N:=(w.on n b).on (jf _ f) (b.e7 (eX y (Γ.ca a) i) f)
   have rd:=t y f
   exact p _ _ _ ((N.cX rd).cX rd).clear
 have H:=w.st.heap.len
 have n:=H▸v.cut
 have b:ai Γ _ (h2.take h1.length) H2:=h.cut (by rw [H];exact v.le)
 refine⟨λa s e=> ?_,λa z o s e K I u A j G=> ?_⟩
 ·subst s
  exact g a u0 rfl e ⟨_,n,b,λy f=> .inl ⟨rfl,y,rfl,.inr rfl,wb,e⟩⟩
 ·subst s
  cases q:M.Gc o with
  | true=>exact g a _ rfl e ⟨_,n,by rw [M.Kp,show M.GP (.err a z o)=k9 from q,if_pos rfl];exact b,λy f=>⟨y,I,u,rfl,.inr rfl,.inl A,wb,by rw [ja (Wa j f)];exact j,e,K,(aC.cut h1.length q G).ext (jf _ f) b⟩⟩
  | false=>exact g a _ rfl e ⟨G2,v,by rw [M.Kp,show M.GP (.err a z o)=y9 from q,if_neg Ab7];exact h,λy f=>⟨y,I,u,rfl,.inr rfl,.inl A,wb,by rw [ja (Wa j f)];exact j,e,K,G.ext (jf _ f) h⟩⟩
def rV (b:gy Γ F X E k cf)(hg:br cf.sc f g=k9) (hf:cf.fns.contains f=k9) (r:a8 cf es (x::xs)=k9)
 (O:br cf.sc c (.Name (qf c) p1)=k9) (hc:cf.cq.contains c=k9) (L:Zq cf i a=k9) (V:Zq cf nm n=k9) (j:ck n=k9) (hv:Zq cf iv v=k9):
 bM X.fg (qf c) n v p1 vp np ap hp (.Assign [.Name a gp] (.Call g (x::xs) [] cp) aq) (bW Γ E λY h=>M.Kq F.call F.cl (y0 i) f c nm iv Y (M.Gg F es Y h)):=by
 obtain⟨p0,rfl,t,R⟩:=Zb hg
 obtain⟨_,_,h4,h5⟩:=Zb O
 obtain⟨W,fa,fd,y,bd,S,hm⟩:=(b.fn f hf).imp λW h=>h.ex
 obtain⟨hb,K⟩:=b.cq c hc
 obtain⟨T,a2⟩:=Jy L
 obtain⟨n1,Z⟩:=Jy V
 obtain⟨v1,v2⟩:=Jy hv
 have o:=Je r
 unfold ck at j
 rw [Aa6]at j
 refine bM.imp (DS (λ_ _ z=>z) b.iT b.sG b.ex y b.room (b.gl _ t) hm S bd (dh es b.toGo.fg r) (b.gl _ h4) (b.cls c K) hb (by show X.N.Nodup;rw [b.N];exact b.nd) (by show X.N[i]? =_;rw [b.N];exact T) (b.i7 a a2) (by show X.N[nm]? =_;rw [b.N];exact n1) (b.i7 n Z) (by show X.N[iv]? =_;rw [b.N];exact v1) (b.i7 v v2)
  (Xc rfl) (Xc rfl) R h5 (by simpa using j.1) (xa (o _ Aa3)) (Jv λe r=>o e (Aa1 _ r))) λD U H ⟨B,G,Y,h,s,p⟩=> ?_
 refine⟨G,Y,h,s.st,?_⟩
 dsimp only at p
 cases q:M.Gg F es Y h with
 | exc d u=>rw [q]at p;exact p.elim
 | fail=>rw [q]at p;exact p.elim
 | ok P u=>
  rw [q]at p
  intro G1 H1 N m vs r1
  have I:=s.on N m
  refine⟨G1,u,_,m,JC r1,QD P,?_⟩
  unfold M.Kq at p
  dsimp only at p
  cases w:F.call f _ u with
  | fail=>rw [w]at p;exact p.elim
  | ok Q t=>
   rw [w]at p
   intro C J A l v' rv _
   cases Q with
   | own _=>exact p.elim
   | bor _=>exact p.elim
   | v d=>exact p C _ J ((I.on A l).cX rv)
  | exc d t=>
   rw [w]at p
   exact λC J A l=>Du b K I A l p
def CB (h:o9 cf c nm iv hs=k9): ∃w n v i J M L,hs= [.ExceptHandler (y0 w) (y0 n) [.Assign [.Name v i] (.Name n J) M] L]/\br cf.sc c w=k9/\cf.cq.contains c=k9/\Zq cf nm n=k9/\ck n=k9/\Zq cf iv v=true:=by
 refine kC (λx r h=> ?_) hs h
 refine kE (λh=> ?_) r h
 refine AN (λw n b p h=> ?_) x h
 refine kS (λw h=> ?_) w h
 refine kS (λn h=> ?_) n h
 refine kC (λa r h=> ?_) b h
 refine kE (λh=> ?_) r h
 refine fF (λk y p h=> ?_) a h
 refine kC (λt r h=> ?_) k h
 refine kE (λh=> ?_) r h
 refine Wq (λv p h=> ?_) t h
 refine Wq (λm p h=> ?_) y h
 obtain⟨g,e,f,l,d⟩:=a5 h
 obtain⟨d,j⟩:=a2 d
 cases of_decide_eq_true f
 exact⟨_,_,_,_,_,_,_,rfl,g,e,l,d,j⟩
def vn (h:lM cf i f ys q=k9): ∃a g x xs L J j,ys= [.Assign [.Name a L] (.Call g (x::xs) [] J) j]/\Zq cf i a=k9/\br cf.sc f g=k9/\cf.fns.contains f=k9/\q (x::xs)=true:=by
 refine kC (λs r h=> ?_) ys h
 refine kE (λh=> ?_) r h
 refine fF (λb e p h=> ?_) s h
 refine kC (λt r h=> ?_) b h
 refine kE (λh=> ?_) r h
 refine Wq (λa p h=> ?_) t h
 refine zi (λg xs l p h=> ?_) e h
 refine kE (λh=> ?_) l h
 refine kC (λx r h=> ?_) xs h
 exact⟨_,_,_,_,_,_,_,rfl,a4 h⟩
def Ar (l:gy Γ F X E k cf)(J:o9 cf j nm iv hs=k9) (Q:eN c=k9) (L:jc cf c t=k9) (h1:lM cf i f ys (λxs=>a8 cf es xs)=k9) (h2:lM cf i g zs (λxs=>a8 cf es2 xs)=k9):
 PS X (.Try [.If t ys zs ip] hs [] [] pos) (bW Γ E (M.exec F (.fD c i f es g es2 j nm iv))):=by
 obtain⟨w,n,v,Z,np,ap,hp,rfl,o,C,u,r,y⟩:=CB J
 obtain⟨_,g6,x,xs,_,_,_,rfl,S,I,N,K⟩:=vn h1
 obtain⟨_,W,x2,T,_,_,_,rfl,O,R,V,P⟩:=vn h2
 have a:=o
 obtain⟨p1,rfl,_,_⟩:=Zb o
 refine PS.fg (PS.imp (E6 (λ_ _ z=>z) ((Xb c l.toGo.fg L).2 Q) (rV l I N K a C S u r y) (rV l R V P a C O u r y)) ?_)
 rintro D U H ⟨B,G,Y,h,s,p⟩
 rw [M.exec]at p
 refine⟨G,Y,h,s.st,?_⟩
 cases q:M.Gs F c Y h with
 | exc d h1=>rw [q]at p;exact p.elim
 | fail=>rw [q]at p;exact p.elim
 | ok b h1=>
  rw [q]at p
  intro A H1 m e
  cases b with
  | true=>exact nc ⟨B,A,Y,h1,s.on m e,p⟩
  | false=>exact mY ⟨B,A,Y,h1,s.on m e,p⟩
end
section
variable {Γ:Ge}{F:M.Fx}{k:Nat}{X:Cx}{E:XK}{cf:Cf}
mutual
theorem IY (go:gy Γ F X E k cf): ∀(m:M.S){st:Stmt},pa cf m st=k9->PS X st (bW Γ E (M.exec F m))
 | .set i e,st,h=>by
  refine fF (λts v p h=> ?_) st h
  refine kC (λt r h=> ?_) ts h
  refine Wq (λx p1 h=> ?_) t h
  refine kE (λh=> ?_) r h
  exact Mb go.toGo (a2 h).1 (a2 h).2
 | .ak i e,st,h=>by
  refine fF (λts v p h=> ?_) st h
  refine kC (λt r h=> ?_) ts h
  refine Wq (λx p1 h=> ?_) t h
  refine kE (λh=> ?_) r h
  exact IJ go.toGo (a2 h).1 (a2 h).2
 | .dB is e,st,h=>by
  refine fF (λts v p h=> ?_) st h
  refine kC (λt r h=> ?_) ts h
  refine l3 (λx n p1 h=> ?_) t h
  refine kE (λh=> ?_) r h
  obtain⟨h1,h2,h3⟩:=a3 h
  exact KG go.toGo h1 h2 h3
 | .eG i kx e,st,h=>by
  refine fF (λts v p h=> ?_) st h
  refine kC (λt r h=> ?_) ts h
  refine iP (λx y p1 h=> ?_) t h
  refine Wq (λx p2 h=> ?_) x h
  refine kE (λh=> ?_) r h
  obtain⟨h0,h4,_,h5,h6,h7⟩:=a6 h
  obtain⟨h1,h2,h3⟩:=ig h0
  exact BW go.toGo h1 h2 h3 h4 h6 h7
 | .dz i e,st,h=>by
  refine fF (λts v p h=> ?_) st h
  refine kC (λt r h=> ?_) ts h
  refine iP (λx y p1 h=> ?_) t h
  refine Wq (λx p2 h=> ?_) x h
  refine kE (λh=> ?_) r h
  obtain⟨h0,h4,_,h5,h6,h7⟩:=a6 h
  obtain⟨h1,h2,h3⟩:=ig h0
  exact D4 go.toGo h1 h2 h3 h4 h6 h7
 | .app i e,st,h=>by
  refine m3 (λc p h=> ?_) st h
  refine zi (λf x l q h=> ?_) c h
  refine kE (λh=> ?_) l h
  refine kC (λv r h=> ?_) x h
  refine kE (λh=> ?_) r h
  obtain⟨h1,h2,h3⟩:=a3 h
  exact BM go.toGo h1 h2 h3
 | .ext i e,st,h=>by
  refine m3 (λc p h=> ?_) st h
  refine zi (λf x l q h=> ?_) c h
  refine kE (λh=> ?_) l h
  refine kC (λv r h=> ?_) x h
  refine kE (λh=> ?_) r h
  obtain⟨h1,h2,h3⟩:=a3 h
  exact AX go.toGo h1 h2 h3
 | .bY i e,st,h=>by
  refine m3 (λc p h=> ?_) st h
  refine zi (λf x l q h=> ?_) c h
  refine kE (λh=> ?_) l h
  refine kC (λv r h=> ?_) x h
  refine kE (λh=> ?_) r h
  obtain⟨h1,h2,h3⟩:=a3 h
  exact F2 go.toGo h1 h2 h3
 | .e8 i j,st,h=>by
  refine fF (λts v p h=> ?_) st h
  refine kC (λt r h=> ?_) ts h
  refine Wq (λx p1 h=> ?_) t h
  refine kE (λh=> ?_) r h
  refine zi (λf x l q h=> ?_) v h
  refine kE (λh=> ?_) l h
  refine kE (λh=> ?_) x h
  exact AY go.toGo (a2 h).1 (a2 h).2
 | .eR i is,st,h=>by
  refine fF (λts v p h=> ?_) st h
  refine kC (λt r h=> ?_) ts h
  refine l3 (λx n p1 h=> ?_) t h
  refine kE (λh=> ?_) r h
  refine zi (λf y l q h=> ?_) v h
  refine kE (λh=> ?_) l h
  refine kE (λh=> ?_) y h
  exact LD go.toGo (a2 h).1 (a2 h).2
 | .mv i j,st,h=>by
  refine fF (λts v p h=> ?_) st h
  refine kC (λt r h=> ?_) ts h
  refine Wq (λx p1 h=> ?_) t h
  refine kE (λh=> ?_) r h
  refine Wq (λy p2 h=> ?_) v h
  obtain⟨h1,h2,h3⟩:=ig (a2 h).2
  exact A7 go.toGo (a2 h).1 h1 h2 h3
 | .ij,st,h=>λy8 s U H D I ⟨B,G,Y,h,s',p⟩=>p.elim
 | .freeze _,st,h=>bF h
 | .ex e,st,h=>by
  refine m3 (λv p h=> ?_) st h
  exact Lu go.toGo (a2 h).1 (a2 h).2
 | .ret e,st,h=>by
  refine FZ (λv p h=> ?_) st h
  refine kS (λv h=> ?_) v h
  exact KS go.toGo h
 | .iff c a b,st,h=>by
  refine yM (λx y z p h=> ?_) st h
  obtain⟨h0,h1,h2,h3⟩:=a4 h
  exact AQ ((Xb c go.toGo h1).2 h0) (cL go a h2) (cL go b h3)
 | .lJ n c b,st,h=>by
  refine y6 (λx y z p h=> ?_) st h
  refine kE (λh=> ?_) z h
  obtain⟨h0,h1,h2⟩:=a3 h
  exact Dy go ((Xb c go.toGo h1).2 h0) (cL go b h2)
 | .for tg one it b,st,h=>by
  refine CQ (λt i y z p h=> ?_) st h
  refine kE (λh=> ?_) z h
  obtain⟨h1,h2,h3,h4⟩:=a4 h
  exact BH go h1 h2 h3 (cL go b h4)
 | .cQ c f e,st,h=>by
  refine yj (λx y p h=> ?_) st h
  refine kS (λx h=> ?_) x h
  refine zi (λg x l q h=> ?_) x h
  refine kE (λh=> ?_) l h
  refine kC (λx r h=> ?_) x h
  refine kE (λh=> ?_) r h
  obtain⟨h0,h1,h2,h3⟩:=a4 h
  cases nn h0
  exact BO go h1 h2 h3
 | .raise c es,st,h=>by
  refine yj (λx y p h=> ?_) st h
  refine kS (λx h=> ?_) x h
  refine zi (λg x l q h=> ?_) x h
  refine kE (λh=> ?_) l h
  refine kC (λx r h=> ?_) x h
  obtain⟨h0,h1,h2,h3,h4⟩:=a5 h
  cases nn h0
  exact Me go h1 h2 (of_decide_eq_true h3) h4
 | .fD c i f es g es2 k nm iv,st,h=>by
  refine Dr (λb hs p h=> ?_) st h
  refine kC (λa r h=> ?_) b h
  refine kE (λh=> ?_) r h
  refine yM (λt ys zs q h=> ?_) a h
  obtain⟨h0,h1,h2,h3,h4⟩:=a5 h
  exact Ar go h0 h1 h2 h3 h4
theorem cL (go:gy Γ F X E k cf): ∀(m:M.Ss){sts:List Stmt},bK cf m sts=k9->cG X sts (bW Γ E (M.execs F m))
 | .nil,sts,h=>by
  cases Ae1.mp h
  exact EG
 | .cons s ss,sts,h=>by
  cases q:pe s with
  | true=>
   cases s with
   | freeze i=>exact WU (cL go ss h)
   | _=>cases q
  | false=>
   have h:(bif pe s then bK cf ss sts else lC sts λst sts=>pa cf s st&&bK cf ss sts)=true:=h
   rw [q]at h
   refine kC (λst r h=> ?_) sts h
   exact Az (IY go s (a2 h).1) (cL go ss (a2 h).2)
end
end
section
variable {P:Program}{w:World}{K:Aa7}{mg:Str->Option Value}{base:Heap}{N:List Str}{k7:Str}{scope:Scope}{f:Addr}{cd:Value}{A:Around}{outer:List Env}{s:Shared}{H:Hp}{E:XK}
def BS:JU (cj P w) (wR (cj P w) P w K mg base N k7 scope f cd A outer s H E) E:=by
 intro y8 U H1 s1 ev s' I hq
 obtain⟨x,C,t,B,H',od,rfl,os,bare,fl,un,aL,comp,new,hd,hE⟩:=hq
 have I':=X0 I os bare un aL comp fl λb o z _=>⟨o.slots,z⟩
 have ff:=fl.2.2.1
 refine wpAny_mono (WO (JJ _ _) (wpAny_leaves_onW (Q:=λ_ s2=> ∃h2,s2= { s' with heap:=h2 }/\Al B outer x _ _ h2/\s'.heap.UpToSlots h2) (E:=λ_ _=>False) I.ok.frames rfl fl λh2 x1 x4=>⟨h2,rfl,x1,x4⟩)) (λ_ s2 z=> ?_) λ_ _ z=>z.1.elim
 obtain⟨⟨h2,rfl,x1,x4⟩,dk⟩:=z
 have free:=I'.b9
 have slotH: ∀b o,b∈bE _->s'.heap.get? b=y0 o-> ∃sl,h2.get? b=y0 { o with slots:=sl }:=λb o hb z=>by
  obtain⟨_,o',z',nf⟩:=ff.mem hb
  rw [z]at z'
  cases z'
  exact x4 b o z nf
 have toH:=λb o z c n=>x1.1 b o (comp b o z c n)
 have cut: ∀b,b∉bE outer->b≠s.heap.objs.size->b∉bE (envOfC k7 scope s.heap.objs.size f cd::outer):=λb n1 n2 hb=>by
  rcases Ab9.mp (hb)with z | z
  ·exact n2 z
  ·exact n1 z
 have old: ∀b o,s.heap.get? b=y0 o->b≠s.heap.objs.size:=λb o z=>Ac2 (Ab4 z)
 have dF: ∀b u,H' b=y0 u->b∉bE _:=λb u z hb=>by rw [free b hb]at z;cases z
 have in1:=λb o z=>I.base.there b o z (by show b∉ [];simp)
 refine⟨x,C,t,B,H',od,rfl,os.trans I.os,bare,x1,⟨λb o z n hb hx=> ?_,λb o z n hb hx=> ?_,I'.base.free,λb o z hx=> ?_,I'.base.cz,I'.base.cg,I'.base.cA⟩,λb u z=> ?_,λb o z hc hb=> ?_,?_,λdx z=> ?_,hE⟩
 ·exact toH b o (I'.base.keep b o z n hb hx) (.inr (in1 b o z)) (cut b hb (old b o z))
 ·obtain⟨sl,z1⟩:=I'.base.slot b o z n hb hx
  obtain⟨sl2,z2⟩:=slotH b _ (Aa1 _ hb) z1
  exact⟨sl2,z2⟩
 ·obtain⟨o',z1⟩:=I'.base.there b o z hx
  by_cases hb:b∈bE (envOfC k7 scope s.heap.objs.size f cd::outer)
  ·obtain⟨sl,z2⟩:=slotH b o' hb z1
   exact⟨_,z2⟩
  ·exact⟨o',toH b o' z1 (.inr (in1 b o z)) hb⟩
 ·refine(aL b u z).b8 (λc v hc z1=> ?_) (λ_ z1=>z1) λ_ _ z1=>z1
  obtain rfl | hc:=hc
  ·exact toH c v z1 (.inl ⟨u,z⟩) (dF c u z)
  ·exact toH c v z1 (.inl ⟨_,hc⟩) (dF c _ hc)
 ·have two: ∃o2,s'.heap.get? b=y0 o2/\((∃ u,H' b=y0 u)\/ ∃u,s1.heap.get? b=y0 u)/\b∉bE (envOfC k7 scope s.heap.objs.size f cd::outer):=by
   obtain⟨u,hu⟩ | ⟨u,hu⟩:=hc
   ·obtain⟨o2,z2⟩:=(aL b u hu).there
    exact⟨o2,z2,.inl ⟨u,hu⟩,dF b u hu⟩
   ·obtain⟨o2,z2⟩:=I'.base.there b u hu (by show b∉ [];simp)
    exact⟨o2,z2,.inr (in1 b u hu),cut b hb (old b u hu)⟩
  obtain⟨o2,z2,c2,nb⟩:=two
  have z3:=toH b o2 z2 c2 nb
  rw [show h2.get? b=y0 o from z]at z3
  cases z3
  exact comp b _ z2 c2 nb
 ·cases z:s.heap.get? x with
  | none=>rfl
  | some u=>
   obtain⟨o2,z2⟩:=in1 x u z
   rw [new]at z2
   cases z2
 ·obtain⟨o,e1,e2⟩:=hd dx z
  obtain⟨o',e3,e4⟩:=dk x o e1
  exact⟨o',e3,e4.trans e2⟩
end
structure kI (K:Aa7) (mg:Str->Option Value) (f:String) where
 st:Stmt
 fa:Addr
 fd:FuncData
 N:List Str
 ps:List Str
structure l5 {K:Aa7}{mg:Str->Option Value}{f:String}(t:kI K mg f) (d:M.Fn) (fns own cD cq:List String) (ob:fV):Prop where
 fn: ∃x k7,iC K x k7 t.st t.fa t.fd
 bd:Binds K t.fd t.ps []
 sc:xA t.N t.ps (xk t.st)
 n:t.N.length=d.n
 p:t.ps.length=d.ps
 le:d.ps<=d.n
 AE:bK ⟨xk t.st,t.N,fns,own,cD,cq,ob⟩ d.body (wH t.st)=k9
structure nZ (Γ:Ge) (p:M.Prog) (mg:Str->Option Value) (own cD cq:List String) (ob:fV):Prop where
 cl:p.cl=Γ.cl
 ow:own=Γ.own
 blt: ∀x,x∈bQ->mg (qf x)=u0
 con: ∀x d,p.con.lookup x=y0 d-> ∃u v,mg (qf x)=y0 u/\RelV v u/\ ∀G H,aC Γ G H d v
 cls: ∀c,own.contains c=k9->mg (qf c)=y0 (.ref (Γ.ca c))
 cD: ∀c,cD.contains c=true->eI Γ c/\PySem.W.excIn Γ.K (Γ.ca c) jF "ValueError.__new__" =true/\mg (qf c)=some (.ref (Γ.ca c))
 mf: ∀c f,ob.er.contains (c,f)=true->eI Γ c/\lI Γ.K (Γ.ca c) (qf f)/\mx Γ.K (Γ.ca c) (qf f)/\mg (qf c)=some (.ref (Γ.ca c))/\ ∃fI fd ps,PySem.W.findIn Γ.K (.ref (Γ.ca c)) "__init__" =some (some (.ref fI))/\mF Γ.K (qf f) fI fd ps
 cq: ∀c,cq.contains c=true->PySem.W.mroIn Γ.K (Γ.ca c) (.type "BaseException")=some true/\own.contains c=true
 fld: ∀c f,ob.fl.contains (c,f)=k9->dH Γ.K (Γ.ca c)/\ue Γ.K (Γ.ca c) (qf f)
 i6: ∀c m q,ob.mt.contains (c,m,q)=k9->dH Γ.K (Γ.ca c)/\ob.ms.contains q=k9/\tf Γ.K (Γ.ca c) (qf m) (Γ.ma q)
 fQ: ∀c q,ob.fQ.contains (c,q)=k9->mg (qf c)=y0 (.ref (Γ.ca c))/\ob.ms.contains q=k9/\Mk Γ.K (Γ.ca c) (Γ.ma q)
section
variable {P:Program}{w:World}{Γ:Ge}{mg:Str->Option Value}{base:Heap}{p:M.Prog}{own cD cq fns:List String}{ob:fV}
def EI (l:ai Γ G h H) (r:bh Γ G H ws J) (s: ∀w∈ws,m7 w=k9) (u:N.length=n):aW Γ ⟨G,H,h⟩ G (ws.map y0++Aa9 (n-ws.length) u0) h (start N J) H:=by
 have o:=r.length
 have get: ∀ {i}{w},M.Gj (ws.map y0++Aa9 (n-ws.length) u0) i=y0 w->ws[i]? =y0 w:=λ{i w} e=>by
  rw [WB]at e
  by_cases k:i<ws.length
  ·rw [Af5 (by simpa using k),Ac4]at e
   cases q:ws[i]? with
   | none=>rw [q]at e;cases e
   | some C=>rw [q]at e;exact e
  ·rw [Af2 (by simpa using k),Al8]at e
   split at e<;>cases e
 have f: ∀ {ws}{J}{i:Nat}{w},bh Γ G H ws J->ws[i]? =y0 w-> ∃v,J[i]? =y0 v/\ar Γ G H w v:=by
  intro ws
  induction ws with
  | nil=>intro J i w _ e;simp at e
  | cons a r x=>
   intro J i w ⟨v,D,c,A,y⟩ e
   subst c
   cases i with
   | zero=>simp at e;subst e;exact⟨v,rfl,A⟩
   | succ i=>
    obtain⟨z,t,p⟩:=x y (by assumption)
    exact⟨z,by simpa using t,p⟩
 have b: ∀ {i}{d},M.Gj _ i≠y0 (.own d):=λ{i d} e=>by
  have:=s _ (Aj8 (get e))
  cases this
 refine⟨⟨?_,λi w e=> ?_,λi j d w a B c=>absurd c b,l⟩,Ext.refl,l,λi d a c=>absurd c b⟩
 ·unfold start
  rw [Ab2,Ab2,Aa,Aa,Ae6,Ae6,u,o]
 ·obtain⟨v,m,g⟩:=f r (get e)
  refine⟨v,?_,g⟩
  unfold start
  have k:=(Ac0.mp m).1
  rw [Af5 (by simp_all),Ac4,m]
  rfl
def Hc (m:ai Γ G h H) (p:aB Γ E G H (M.GC h.length o) Q):aQ Γ E ⟨G,H,h⟩ o { nx:=λ_ H'=>Q .au H',rt:=Q }:=by
 have g: ∀ {w}{c}{b}{H'}{v},_->aB Γ E G H (M.fin h.length w c) Q->Ext G H b H'->ai Γ b c H'->ar Γ b H' w v->aF [] [] H w v->Q v H':=λ{w c b H' v} l p e a r f=>by
  unfold M.fin at p
  split at p
  ·exact p b H' e a v r f
  ·split at p
   ·rename_i k
    have n:=e.cut
    rw [m.len]at p
    exact p _ H' n (a.cut e.le) v (r.cut G.n e.le k l) f
   ·exact p b H' e a v r f
 cases o with
 | next Y c=>exact λb q H' j=>g (λi z=>by cases z) p j.ext j.st.heap rfl trivial
 | ret w c=>
  cases w with
  | bor i=>exact p.elim
  | v d=>exact λb v H' e a r f=>g (λi z=>by cases z) p e a r f
  | own i=>exact λb v H' e a r f=>g (λi z=>by cases z) p e a r f
 | exc d c=>exact p
 | brk Y c=>exact p.elim
 | cont Y c=>exact p.elim
 | fail=>exact p.elim
end
section
variable {P:Program}{w:World}{Γ:Ge}{mg:Str->Option Value}{base:Heap}{p:M.Prog}{own cD cq fns:List String}{ob:fV}
def uB (P:Program) (w:World) (a:Ge) (mg:Str->Option Value) (base:Heap) (p:M.Prog) (k:Nat) (f:String):Prop:=
 ∃ps b fd,bg P w a.K mg base (cj P w) (2*k+1) b fd ps (gC a (M.call p k f))/\Binds a.K fd ps []/\Ag5 a.K (.ref b)=k9/\mg (qf f)=y0 (.ref b)
def tU (P:Program) (w:World) (a:Ge) (mg:Str->Option Value) (base:Heap) (p:M.Prog) (k:Nat) (q:String):Prop:=
 ∃ps fd,bg P w a.K mg base (cj P w) (2*k+1) (a.ma q) fd ps (gC a (M.call p k q))/\Binds a.K fd ps []
def oh (pr:nZ Γ p mg own cD cq ob){t:kI Γ.K mg f}(ok:l5 t d fns own cD cq ob) (hf:p.fns.lookup f=y0 d) (k) (ih: ∀g,fns.contains g=k9->uB P w Γ mg base p k g) (im: ∀q,ob.ms.contains q=k9->tU P w Γ mg base p k q):
 bg P w Γ.K mg base (cj P w) (2*(k+1)+1) t.fa t.fd t.ps (gC Γ (M.call p (k+1) f)):=by
 have a: ∀ {i}{h},i.length≠d.ps->M.call p (k+1) f i h= .fail:=λ{i h} hn=>by
  rw [M.call,hf]
  simp [M.run,hn]
 have l:=λ{i h} hn=>M.Ga hf k i h hn
 obtain⟨x,k7,F⟩:=ok.fn
 refine iC.uc F ok.sc (λvs H Q E ⟨G,h,i,W,X,Y,q⟩=> ?_) λcdv A C s H vs Q E b ⟨G,h,i,W,X,Y,q⟩=> ?_
 ·by_cases n:i.length=d.ps
  ·rw [← X.length,n,ok.p]
  ·rw [a n]at q;exact q.elim
 ·by_cases n:i.length=d.ps
  rotate_left
  ·rw [a n]at q;exact q.elim
  rw [l n]at q
  refine⟨bW Γ E (M.execs ⟨M.call p k,p.cl,p.con⟩ d.body),cL (k:=2*k+1) ?_ d.body ok.AE,?_⟩
  ·refine { N:=rfl,K:=rfl,cl:=pr.cl,ow:=pr.ow,nd:=ok.sc.nd,eO:=λx j=>Q8 j,i7:=λx j=>j,gf:=λx j=>⟨W8 j,.inl rfl⟩,lg:=λx j=>j,gl:=λx j=>jR j,calm:=rfl,room:=b.mono (by lia),eJ:=b,pass:=BS,blt:=pr.blt,con:=pr.con,fn:=λg v=> ?_,cls:=pr.cls,fld:=pr.fld,i6:=λc m q V=> ?_,fQ:=λc q V=> ?_,iK:=FO,iT:=rfl,sG:=rfl,ex:=rfl,cD:=λc S v B=> ?_,mf:=λc f S v B=> ?_,cq:=pr.cq }
   ·obtain⟨L,fa,J,u,r,h3,h4⟩:=ih g v
    exact⟨L,⟨fa,J,u,r,h3,h4⟩⟩
   ·obtain⟨O,D,T⟩:=pr.i6 c m q V
    obtain⟨L,J,u,r⟩:=im q D
    exact⟨O,_,J,L,T,u,r⟩
   ·obtain⟨O,D,T⟩:=pr.fQ c q V
    obtain⟨L,J,u,r⟩:=im q D
    exact⟨O,_,J,L,T,u,r⟩
   ·obtain⟨U,ei,I⟩:=pr.cD c S
    refine⟨U,λnp o R e es t z y=> ?_⟩
    exact B0 ei I (jR v) z (xa (y _ Aa3)) (Jv λe he=>y e (Aa1 _ he)) B
   ·obtain⟨U,xg,xe,I,fI,J,L,hi,Z⟩:=pr.mf c f S
    exact⟨U,xg,λnp o R e t z y=>Bz xe hi Z I (jR v) (b.mono (by lia)) z (xa y) B⟩
  ·refine⟨⟨G,H,h⟩,G,i.map y0++Aa9 _ u0,h,?_,Hc W q⟩
   have:=EI W X Y ok.n
   rw [n]at this
   exact this
def tJ (f) (fa) (fd) (ps):bg P w Γ.K mg base (cj P w) (2*0+1) fa fd ps (gC Γ (M.call p 0 f)):=
 ⟨λi H Q E ⟨G,h,e,g,c,d,q⟩=>q.elim,λA a s H b j i Q E _ _ _ _ ⟨G,h,e,g,c,d,q⟩=>q.elim⟩
def Dd (pr:nZ Γ p mg own cD cq ob) (all: ∀f,fns.contains f=k9-> ∃d,p.fns.lookup f=y0 d/\ ∃t:kI Γ.K mg f,l5 t d fns own cD cq ob/\Ag5 Γ.K (.ref t.fa)=k9/\mg (qf f)=y0 (.ref t.fa))
 (a: ∀q,ob.ms.contains q=k9-> ∃d,p.fns.lookup q=y0 d/\ ∃t:kI Γ.K mg q,l5 t d fns own cD cq ob/\t.fa=Γ.ma q): ∀k,(∀ f,fns.contains f=k9->uB P w Γ mg base p k f)/\ ∀q,ob.ms.contains q=k9->tU P w Γ mg base p k q:=by
 intro k
 induction k with
 | zero=>
  refine⟨λf e=> ?_,λq g=> ?_⟩
  ·obtain⟨d,b,t,ok,i,h⟩:=all f e
   exact⟨t.ps,t.fa,t.fd,tJ f _ _ _,ok.bd,i,h⟩
  ·obtain⟨d,b,t,ok,j⟩:=a q g
   exact⟨t.ps,t.fd,tJ q _ _ _,ok.bd⟩
 | succ k c=>
  refine⟨λf e=> ?_,λq g=> ?_⟩
  ·obtain⟨d,b,t,ok,i,h⟩:=all f e
   exact⟨t.ps,t.fa,t.fd,oh pr ok b k c.1 c.2,ok.bd,i,h⟩
  ·obtain⟨d,b,t,ok,j⟩:=a q g
   exact⟨t.ps,t.fd,j▸oh pr ok b k c.1 c.2,ok.bd⟩
def nQ (K:Aa7):Sp:=λc H Q _=> ∃(a:Addr) (b:List Int),c= [.ref a]/\aZ K H a (b.map V.int)/\b.length<=63/\ ∀H',Q (.bl k9) H'
theorem X6 : ∀(a:List Int),ae Γ G H (a.map M.D.int) (a.map V.int)
 | []=>rfl
 | n::a=>⟨_,_,rfl,rfl,X6 a⟩
def IF (F:bg P w Γ.K mg base (cj P w) n fa fd ps (gC Γ (M.call p k "law"))) (fE: ∀i:List Int,i.length<=63-> ∃h',M.call p k "law" [.v (.lst (i.map .int))] []= .ok (.v (.bl true)) h'):
 bg P w Γ.K mg base lF n fa fd ps (nQ Γ.K):=by
 refine bg.calm F ?_
 rintro y H Q E ⟨a,i,t,d,hn,q⟩
 subst t
 obtain⟨h',l⟩:=fE i hn
 have fin: ∀G:Gh,ai Γ G [] H->iW Γ G H a _->gC Γ (M.call p k "law") [.ref a] H Q (fun _ _ _=>False):=fun G m j=>by
  refine⟨G,[],[.v (.lst _)],m,⟨.ref a,[],rfl,⟨a,i.map V.int,rfl,j,X6 i⟩,rfl⟩,λw h=> ?_,?_⟩
  ·cases Ae8.mp h;rfl
  ·rw [l]
   intro x u _ _ v r _
   cases (r)
   exact q u
 obtain d | d:=d
 ·refine fin ⟨λb=>b=a,λ_=>0,0⟩ ⟨rfl,λr c e=>by simp at e,λr s f=>absurd f (Ah9 _),λb g=> ?_⟩ (.inl ⟨rfl,d⟩)
  subst g
  obtain z | ⟨o,z⟩:=d
  ·exact⟨_,z⟩
  ·exact⟨_,z⟩
 ·exact fin ⟨λ_=>False,λ_=>0,0⟩ ⟨rfl,λr c e=>by simp at e,λr s f=>absurd f (Ah9 _),λb g=>g.elim⟩ (.inr d)
def walk {l:PySem.W.OpenLaw}{K:Params->Aa7}(k) (e:a9 k callerA) (g:l.most=y0 63) (b:d.params.defaults= [])
 (m: ∀ w h,YP w h->(K w.params).In h)
 (F: ∀ w mg i h,(K w.params).In h->h.Ns mainGlobals mg->mg d.name=y0 (.ref i) →
   ∃fd:FuncData,(∀ s u,BindsTo s fd ⟨[u],[]⟩ [(x,u)])/\ ∀base:Heap,(K w.params).In base->base.Ns mainGlobals mg->bg l.prog w (K w.params) mg base lF k i fd [x] (nQ (K w.params))):
 PySem.W.WalkO q loose XP YP l.row.toRowW d [] (λf J=>PySem.call f J):=
 L2.gk g (by decide) b e m F (λ_ _ a n c _ j=>⟨a,n,rfl,j,c,λ_=>rfl⟩) λ_ _ _ _ _ z=>z
end
open PySem PySem.W PyProof.Rows KTD
theorem rS {f g:Str->Option (Str×Value)}: ∀ {l:List Str},(∀ n∈l,f n=g n)->l.filterMap f=l.filterMap g
 | [],_=>rfl
 | a::l,h=>by rw [Ai8,Ai8,h a Aa3,rS λn hn=>h n (Aa1 _ hn)]
theorem vX: ∀ {a:List Str}{b:List Value},a.Nodup->b.length=a.length->a.filterMap (λn=>((a.zip b).lookup n).map (n, ·))=a.zip b
 | [],b,_,_=>rfl
 | p::a,[],_,h=>by cases h
 | p::a,u::b,d,h=>by
  have c:=Ag1.mp d
  rw [List.zip_cons_cons,List.filterMap_cons_some (by rw [List.lookup_cons_self];rfl)]
  congr 1
  refine(rS λn hn=> ?_).trans (vX c.2 (Nat.succ.inj h))
  rw [Ac3,beq_eq_false_iff_ne.mpr (λe=>c.1 (e▸hn):n≠p)]
def B1 {a:List Str}{b:List Value}(h:b.length=a.length)(c:n∈a):((a.zip b).lookup n).isSome=true:=by
 induction a generalizing b with
 | nil=>cases c
 | cons p a d=>
  cases b with
  | nil=>cases h
  | cons u b=>
   rw [List.zip_cons_cons,Ac3]
   cases e:n==p with
   | true=>rfl
   | false=>exact d (Nat.succ.inj h) ((Ab9.mp c).resolve_left (beq_eq_false_iff_ne.mp e))
abbrev dv (a:FuncData):List Str:=a.params.args.map (·.arg)
def KA (h1:fd.params.posonlyargs= []) (h2:fd.params.vararg=u0) (h3:fd.params.kwonlyargs= []) (h4:fd.params.kwarg=u0) (h5:fd.defaults= .none) (nd:(dv fd).Nodup)(hl:us.length=(dv fd).length):bindArgs fd ⟨us,[]⟩=pure ((dv fd).zip us):=by
 have e: ∀k,((dv fd).take k).filter (λn=>(((dv fd).zip us).lookup n).isNone)= []:=λk=>List.filter_eq_nil_iff.mpr λn hn=>by
  have:=B1 hl (List.mem_of_mem_take hn)
  cases q:((dv fd).zip us).lookup n with
  | none=>rw [q]at this;cases this
  | some _=>simp
 have f:=vX nd hl
 obtain⟨n,q,⟨po,as,va,ko,kd,ka,df⟩,b,sc,g,cl,d,kV,doc,pm,an,cd,ct,bi⟩:=fd
 cases h1
 cases h2
 cases h3
 cases h4
 cases h5
 refine(if_neg ?_).trans ((if_neg ?_).trans ?_)
 ·simpa using Nat.le_of_eq hl
 ·exact λz=>by
   have z':=(congrArg (λl:List Str=> !l.isEmpty) (e _)).symm.trans z
   cases z'
 ·refine Eq.trans ?_ (congrArg pure f)
  rw [show ∀k,List.drop k (none.getD #[]).toList= []from λk=>List.drop_nil,List.zip_nil_right]
  exact congrArg (λl:List Str=>(pure (l.filterMap λn=>(((as.map (·.arg)).zip us).lookup n).map (n, ·)):Sem (List (Str×Value)))) (Ae4 (as.map (·.arg)))
noncomputable def kY (K:Frag) (a:Addr) (f:FuncData->List Stmt->Bool):Bool:=match K.lookup a with
 | some ⟨_,_,.func fd,_⟩=>(match fd.body with
  | .stmts b=>f fd b
  | _=>y9)
 | _=>y9
def oK {K:Frag}(h:kY K a f=k9): ∃i j fd sl b,K.lookup a=y0 ⟨i,j,.func fd,sl⟩/\fd.body= .stmts b/\f fd b=true:=by
 unfold kY at h
 split at h
 ·rename_i e
  split at h
  ·rename_i c
   exact⟨_,_,_,_,_,e,c,h⟩
  ·cases h
 ·cases h
def ly (K:Frag) (a:Addr) (b:FuncData) (N:List Str):Prop:=
 (b.globals=mainGlobals/\b.builtins=builtinsNs/\b.closure= []/\b.defaults= .none)/\codeIn K b.code b.qualname=k9/\keepIn K (.ref a)=k9 ∧
 (b.params.posonlyargs.isEmpty=k9/\b.params.vararg.isNone=k9/\b.params.kwonlyargs.isEmpty=k9/\b.params.kwarg.isNone=k9) ∧
 b.scope.kind= .function/\b.scope.isCoroutine=y9/\b.scope.isGenerator=y9/\N.Nodup/\N.take (dv b).length=dv b/\(∀ x∈dv b,b.scope.names.lookup x=y0 .local\/b.scope.names.lookup x=y0 .cell)/\ ∀y∈b.scope.names,y.2≠ .free
instance {K:Frag}{a:Addr}{fd:FuncData}{N:List Str}:Decidable (ly K a fd N):=by unfold ly;infer_instance
def rA {K:Frag}(l:K.lookup a=y0 ⟨oc,od,.func fd,sl⟩) (r:fd.body= .stmts b) (p:ly K a fd N):
 ∃st x q,wH st=b/\xk st=fd.scope/\iC K x q st a fd/\xA N (dv fd) fd.scope/\ ∀i:List Value,i.length=(dv fd).length->bindArgs fd ⟨i,[]⟩=pure ((dv fd).zip i):=by
 obtain⟨⟨g,bi,h,c⟩,u,n,⟨o,a2,a3,a4⟩,m,j,k,d,e,s,t⟩:=p
 refine⟨.FunctionDef fd.name fd.params b [] u0 [] fd.scope u0 fd.name ⟨0,0,0,0⟩,fd.name,fd.qualname,rfl,rfl,⟨⟨oc,od,fd.kwdefaults,fd.doc,fd.pyModule,fd.annotations,fd.code,fd.closureTuple,sl,?_,l,u⟩,n⟩,⟨m,j,k,d,e,s,t⟩,λi f=>KA (Ae1.mp o) (Ak6.mp a2) (Ae1.mp a3) (Ak6.mp a4) c (e▸(List.take_sublist _ _).nodup d) f⟩
 cases fd
 cases r
 cases g
 cases bi
 cases h
 cases c
 rfl
def kA:Option (Option Value)->Addr
 | some (y0 (.ref a))=>a
 | _=>0
abbrev bA (K:Frag) (c:String):Addr:=kA (nsIn K mainGlobals (qf c))
abbrev mX (K:Frag) (c:String):Prop:=nsIn K mainGlobals (qf c)=y0 (y0 (.ref (bA K c)))
noncomputable def gB (K:Frag) (a:fV) (q:String):Addr:=match a.mt.find? (·.2.2==q)with
 | some (c,m,_)=>kA (findIn K (.ref (bA K c)) (qf m))
 | none=>match a.fQ.find? (·.2==q)with
  | some (c,_)=>kA (findIn K (.ref (bA K c)) "__init__")
  | none=>0
def vI (a:Scope):List Str:=a.names.filterMap λy=>if y.2= .local\/y.2= .cell then y0 y.1 else u0
def XP (K:Frag) (a:M.dH) (own:List String) (c:String):Prop:=((findIn K (.ref (bA K c)) "__getattribute__" =some (some (.builtin "BaseException.__getattribute__"))/\findIn K (.ref (bA K c)) "__getattr__" =some none/\findIn K (.ref (bA K c)) "__class__" =some (some (.builtin "object.__class__"))) ∧
 specialIn K (.builtin "object.__class__") "__get__" =some (some (.builtin "getset_descriptor.__get__"))/\takesIn K (.builtin "object.__class__")=some true/\mroIn K (bA K c) (.type "object")=some true/\mroIn K (bA K c) (.type "BaseException")=some true/\kitCls K (.ref (bA K c)) (.ref (bA K c))=some true/\(clsIn K (bA K c)).isSome=true) ∧
 (∀ t∈own,kitOne K (.ref (bA K c)) (.ref (bA K t))=some ((M.GI a 8 c).contains t))/\kitOne K (.ref (bA K c)) (.type "ValueError")=some ((M.GI a 8 c).contains "ValueError")/\mX K c
instance {K:Frag}{cl:M.dH}{own:List String}{c:String}:Decidable (XP K cl own c):=by unfold XP;infer_instance
def nT (K:Frag) (p:M.Prog) (e own g c:List String) (h:fV) (nm:List (String×List String)) (a:Addr) (f:String):Bool:=kY K a λfd b=>match p.fns.lookup f with
 | some d=>(λN=>u9 (ly K a fd N/\N.length=d.n/\(dv fd).length=d.ps/\d.ps<=d.n)&&bK ⟨fd.scope,N,e,own,g,c,h⟩ d.body b) (((nm.lookup f).map λl=>l.map qf).getD (vI fd.scope))
 | none=>y9
def nI {K:Frag}(mg) (h:nT K p fns own cD cq ob nm a f=k9):
 ∃d,p.fns.lookup f=y0 d/\ ∃t:kI K mg f,l5 t d fns own cD cq ob/\t.fa=a/\keepIn K (.ref a)=k9/\ ∃j J sl,K.lookup a=y0 ⟨j,J,.func t.fd,sl⟩/\t.ps=dv t.fd/\ ∀L:List Value,L.length=t.ps.length->bindArgs t.fd ⟨L,[]⟩=pure (t.ps.zip L):=by
 obtain⟨j,J,i,sl,b,l,r,h⟩:=oK h
 cases e:p.fns.lookup f with
 | none=>rw [e]at h;cases h
 | some d=>
  rw [e]at h
  generalize ((nm.lookup f).map λl=>l.map qf).getD (vI i.scope)=N at h
  obtain⟨n,c⟩:=(Aa6 _ _).mp h
  obtain⟨q,m,u,v⟩:=of_decide_eq_true n
  obtain⟨o,x,s,rfl,w,F,g,k⟩:=rA l r q
  rw [← w]at g c
  exact⟨d,rfl,⟨o,a,i,_,dv i⟩,⟨⟨x,s,F⟩,.all k,g,m,u,v,c⟩,rfl,F.kp,j,J,sl,l,rfl,k⟩
noncomputable def pZ (f n m:Str) (b:List Stmt):Bool:=lC b λst r=>kZ r (fb st λts v=>lC ts λt r=>kZ r (lN t λx g _=>Xo x λa=>Xo v λc=>u9 (a=n)&&u9 (g=f)&&u9 (c=m)))
def LR (h:pZ f n m b=k9): ∃j p2 J i,b= [.Assign [.Attribute (.Name n j) f p2] (.Name m J) i]:=by
 refine kC (λe r h=> ?_) b h
 refine kE (λh=> ?_) r h
 refine fF (λk v p h=> ?_) e h
 refine kC (λt r h=> ?_) k h
 refine kE (λh=> ?_) r h
 refine mW (λx g p h=> ?_) t h
 refine Wq (λa p h=> ?_) x h
 refine Wq (λc p h=> ?_) v h
 obtain⟨l,d,o⟩:=a3 h
 cases of_decide_eq_true l
 cases of_decide_eq_true d
 cases of_decide_eq_true o
 exact⟨_,_,_,_,rfl⟩
def u3 (K:Frag) (f:Str) (a:Addr):Bool:=kY K a λfd b=>match dv fd with
 | [n,m]=>u9 (ly K a fd [n,m]/\(n==("__debug__" :Str))=false/\(m==("__debug__" :Str))=false/\(n==("__classdict__" :Str))=false/\(m==("__classdict__" :Str))=false)&&pZ f n m b
 | _=>y9
def Ii {K:Frag}(h:u3 K f a=k9) (v:isFn K (.ref a)=k9): ∃fd ps,mF K f a fd ps:=by
 obtain⟨z,A,fd,sl,b,l,r,h⟩:=oK h
 split at h
 ·rename_i n m e
  obtain⟨k,g⟩:=(Aa6 _ _).mp h
  obtain⟨q,d⟩:=of_decide_eq_true k
  obtain⟨p,x,t,rfl,y,F,c,u⟩:=rA l r q
  obtain⟨s,i,j,o,w⟩:=LR g
  rw [← y]at c
  exact⟨fd,dv fd,⟨x,t,p,_,n,m,s,i,j,o,F,e,rfl,c,w,d⟩,.all u,beq_iff_eq.mp v⟩
 ·cases h
noncomputable def pw (K:Frag):M.D->Value->Bool
 | .int i,.int j _=>u9 (i=j)
 | .str s,.str t _=>u9 (b6 s=t)
 | .exc _ fs,.ref a=> !fs.isEmpty&&tabLook flatLooks (λb=>K.lookup b) a (sL fs)
 | _,_=>y9
def u4 (K:Frag) (x:String) (d:M.D):Bool:=match nsIn K mainGlobals (qf x)with
 | some (y0 u)=>pw K d u
 | _=>y9
def AU (h:pw Γ.K d u=k9): ∃v,RelV v u/\ ∀G H,aC Γ G H d v:=by
 unfold pw at h
 split at h
 ·cases of_decide_eq_true h
  exact⟨.int _,⟨_,rfl⟩,λ_ _=>rfl⟩
 ·cases of_decide_eq_true h
  exact⟨.str _,⟨_,rfl⟩,λ_ _=>rfl⟩
 ·obtain⟨a,b⟩:=(Aa6 _ _).mp h
  exact⟨.ref _,rfl,λ_ _=> .inr ⟨λe=>(by rw [e]at a;cases a),_,rfl,b⟩⟩
 ·cases h
theorem uu : ∀ {l:List (String×α)}{x}{d},l.lookup x=y0 d->(x,d)∈l
 | (k,v)::l,x,d,h=>by
  rw [Ac3]at h
  by_cases q:(x==k)=k9
  ·rw [q]at h;cases h;rw [eq_of_beq q];exact Aa3
  ·rw [eq_false_of_ne_true q]at h;exact Aa1 _ (uu h)
abbrev sj (K:Frag) (C:Addr):Prop:=plainGet K C Str.empty=true/\hasDictIn K C=true/\plainOver K C=true/\findIn K (.ref C) "__setattr__" =some (some (.builtin "object.__setattr__"))
def oI (K:Frag) (p:M.Prog) (b own e d:List String) (a:fV) (nm:List (String×List String)):Prop:=
 (∀ x∈bQ,nsIn K mainGlobals (qf x)=some none)/\(∀ x∈p.con,u4 K x.1 x.2=true)/\(∀ c∈own,mX K c)/\(∀ c∈e,XP K p.cl own c/\excIn K (bA K c) jF "ValueError.__new__" =true) ∧
 (∀ c∈a.er,XP K p.cl own c.1/\(xJ K (bA K c.1)=true/\kv K (bA K c.1)=true/\findIn K (.ref (bA K c.1)) "__setattr__" =some (some (.builtin "object.__setattr__"))/\findIn K (.ref (bA K c.1)) (qf c.2)=some none/\keepIn K (.ref (bA K c.1))=true) ∧
   findIn K (.ref (bA K c.1)) "__init__" =some (some (.ref (kA (findIn K (.ref (bA K c.1)) "__init__"))))/\u3 K (qf c.2) (kA (findIn K (.ref (bA K c.1)) "__init__"))=true/\isFn K (.ref (kA (findIn K (.ref (bA K c.1)) "__init__")))=true) ∧
 (∀ c∈d,mroIn K (bA K c) (.type "BaseException")=some true/\own.contains c=true) ∧
 (∀ c∈a.fl,sj K (bA K c.1)/\findIn K (.ref (bA K c.1)) (qf c.2)=y0 u0) ∧
 (∀ c∈a.mt,sj K (bA K c.1)/\a.ms.contains c.2.2=k9/\findIn K (.ref (bA K c.1)) (qf c.2.1)=y0 (y0 (.ref (gB K a c.2.2)))/\isFn K (.ref (gB K a c.2.2))=k9/\keepIn K (.ref (gB K a c.2.2))=k9) ∧
 (∀ c∈a.fQ,mX K c.1/\a.ms.contains c.2=true/\makesIn K (bA K c.1)=true/\findIn K (.ref (bA K c.1)) "__init__" =some (some (.ref (gB K a c.2)))/\isFn K (.ref (gB K a c.2))=true/\keepIn K (.ref (bA K c.1))=true) ∧
 (∀ f∈b,mX K f/\nT K p b own e d a nm (bA K f) f=true)/\(∀ q∈a.ms,nT K p b own e d a nm (gB K a q) q=true)/\b.contains "law" =true/\kY K (bA K "law") (fun fd _=>decide (dv fd= [("_law_script" :Str)]))=true
set_option synthInstance.maxSize 1000 in
instance {K:Frag}{p:M.Prog}{fns own cD cq:List String}{ob:fV}{nm:List (String×List String)}:Decidable (oI K p fns own cD cq ob nm):=by unfold oI;infer_instance
def xE  [BEq α] [LawfulBEq α] {l:List α}(h:l.contains x=k9):x∈l:=Ah7.mp h
def XP.ok {K:Frag}{p:M.Prog}(h:XP K p.cl own c):eI ⟨K,bA K,p.cl,own,gB K ob⟩ c:=by
 obtain⟨⟨⟨e,a2,a3⟩,a4,a5,a6,a7,a,d⟩,b,c,_⟩:=h
 exact⟨⟨e,a2,a3,a4,a5,a6,a7,a,d⟩,b,c⟩
def iY {l:OpenLaw}{K:Frag}(p) (fns own cD cq) (ob) (nm) (k) (X:K.In h) (G:h.Ns mainGlobals mg) (I:mg "law" =some (.ref fa)) (T:decide (oI K p fns own cD cq ob nm)=true)
 (fE: ∀S:List Int,S.length<=63-> ∃h',M.call p (k+1) "law" [.v (.lst (S.map .int))] []= .ok (.v (.bl true)) h'):
 ∃fd:FuncData,(∀ s v,BindsTo s fd ⟨[v],[]⟩ [("_law_script",v)])/\ ∀base:Heap,K.In base->base.Ns mainGlobals mg->bg l.prog w K mg base lF (2*(k+1)+1) fa fd ["_law_script"] (nQ K):=by
 obtain⟨t1,t0,t2,t3,W,t5,t6,t7,U,O,L,B,J⟩:=of_decide_eq_true T
 have pr:nZ ⟨K,bA K,p.cl,own,gB K ob⟩ p mg own cD cq ob:=by
  refine⟨rfl,rfl,λx Y=>mg_none_of X G (t1 x Y),λx d j=> ?_,λc a=>mg_of X G (t2 c (xE a)),λc a=> ?_,λc f a=> ?_,λc a=>t5 c (xE a),λc f a=> ?_,λc m q a=> ?_,λc q a=> ?_⟩
  ·have z:=t0 (x,d) (uu j)
   unfold u4 at z
   split at z
   ·rename_i u e
    obtain⟨v,r⟩:=AU (Γ:=⟨K,bA K,p.cl,own,gB K ob⟩) z
    exact⟨u,v,mg_of X G e,r⟩
   ·cases z
  ·have z:=t3 c (xE a)
   exact⟨z.1.ok,z.2,mg_of X G z.1.2.2.2⟩
  ·obtain⟨z,⟨n,b,y,g,o⟩,D,N,H⟩:=W (c,f) (xE a)
   obtain⟨fd,Z,i⟩:=Ii N H
   exact⟨z.ok,⟨b,g,z.1.1.1,z.1.1.2.1⟩,⟨n,b,y,g,o⟩,mg_of X G z.2.2.2,_,fd,Z,D,i⟩
  ·obtain⟨⟨n,b,y,g⟩,o⟩:=t6 (c,f) (xE a)
   exact⟨⟨n,b,y,g⟩,o⟩
  ·obtain⟨⟨n,b,y,g⟩,o,D,N,H⟩:=t7 (c,m,q) (xE a)
   exact⟨⟨n,b,y,g⟩,o,D,N,H⟩
  ·obtain⟨n,b,y,g,o,D⟩:=U (c,q) (xE a)
   exact⟨mg_of X G n,b,y,g,o,D⟩
 have C: ∀f,fns.contains f=k9->mg (qf f)=y0 (.ref (bA K f)):=λf F=>mg_of X G (O f (xE F)).1
 have e:bA K "law" =fa:=by
  have:=(C "law" B).symm.trans I
  cases this
  rfl
 obtain⟨d,j,t,ok,A,Q,oc,od,sl,V,ep,bd⟩:=nI mg (O "law" (xE B)).2
 obtain⟨_,_,fd,_,_,E,_,z⟩:=oK J
 rw [V]at E
 cases E
 have z:=ep.trans (of_decide_eq_true z)
 refine⟨t.fd,λs v=> .of_eq ((bd [v] (by rw [z];rfl)).trans (by rw [z];rfl)),λbase _ _=> ?_⟩
 have R:=Dd (P:=l.prog) (w:=w) (base:=base) pr (λf F=>by
  obtain⟨d,j,t,ok,A,Q,_⟩:=nI mg (O f (xE F)).2
  exact⟨d,j,t,ok,A▸Q,A▸C f F⟩) (λq hq=>by
  obtain⟨d,j,t,ok,A,_⟩:=nI mg (L q (xE hq))
  exact⟨d,j,t,ok,A⟩) k
 have:=IF (oh pr ok j k R.1 R.2) fE
 rw [A,e,z]at this
 exact this
end L2.MS
namespace Wf
def bc (t n:Nat):List Bool:=(Aa0 n).map t.testBit
def du (t n):(bc t n).length=n:=by simp [bc]
def eQ (h:k<n):(bc t n)[k]? =y0 (t.testBit k):=by
 unfold bc;rw [Ac4,List.getElem?_range h];rfl
def et (t k):t / 2 ^ k % 2=(t.testBit k).toNat:=(Nat.toNat_testBit t k).symm
theorem ZL: ∀(n a b:Nat),a<=n->(a ||| b)+(a &&& b)=a+b
 | 0,a,b,h=>by
  have:a=0:=by omega
  subst this;simp
 | n+1,a,b,h=>by
  by_cases c:a=0
  ·subst c;simp
  have k:=ZL n (a / 2) (b / 2) (by omega)
  have g:=Ak5 (a ||| b) 2
  have i:=Ak5 (a &&& b) 2
  rw [Nat.or_div_two]at g
  rw [Nat.and_div_two]at i
  have e:(a ||| b) % 2=1↔a % 2=1\/b % 2=1:=Nat.or_mod_two_eq_one
  have d:(a &&& b) % 2=1↔a % 2=1/\b % 2=1:=Nat.and_mod_two_eq_one
  have m:=Ak5 a 2
  have o:=Ak5 b 2
  have j:(a ||| b) % 2<2:=An6 _ (by decide)
  have l:(a &&& b) % 2<2:=An6 _ (by decide)
  generalize (a ||| b) % 2=p at*
  generalize (a &&& b) % 2=q at*
  by_cases c:a % 2=1<;>by_cases f:b % 2=1
  ·have:p=1:=e.mpr (.inl c)
   have:q=1:=d.mpr ⟨c,f⟩
   omega
  ·have:p=1:=e.mpr (.inl c)
   have: ¬q=1:=λh=>f (d.mp h).2
   omega
  ·have:p=1:=e.mpr (.inr f)
   have: ¬q=1:=λh=>c (d.mp h).1
   omega
  ·have: ¬p=1:=λh=>(e.mp h).elim c f
   have: ¬q=1:=λh=>c (d.mp h).1
   omega
def AB (a b:Nat):a-(a &&& b)=a ^^^ (a &&& b):=by
 have h:=ZL _ (a ^^^ (a &&& b)) (a &&& b) (Aa5 _)
 have c:(a ^^^ (a &&& b)) ||| (a &&& b)=a:=Af0 λk=>by
  simp [Ak2]
  cases a.testBit k<;>cases b.testBit k<;>rfl
 have d:(a ^^^ (a &&& b)) &&& (a &&& b)=0:=Af0 λk=>by
  simp only [Nat.testBit_xor,Ak2,Nat.zero_testBit]
  cases a.testBit k<;>cases b.testBit k<;>rfl
 lia
def bu (a b k:Nat):(a-(a &&& b)).testBit k=(a.testBit k&& !b.testBit k):=by
 rw [AB]
 simp [Ak2]
 cases a.testBit k<;>cases b.testBit k<;>rfl
def ao (n t:Nat):List (Nat×Nat):=((Aa0 (n*n)).filter t.testBit).map λk=>(k / n,k % n)
def cM (n:Nat) (a:List (Nat×Nat)):Nat:=a.foldl (λt p=>t ||| 2 ^ (p.1*n+p.2)) 0
def dU (n:Nat) (a:List (Nat×Nat)):Prop:= ∀p∈a,p.1<n/\p.2<n
def place_lt {n a b:Nat}(c:a<n) (d:b<n):a*n+b<n*n:=by
 have:a*n+n<=n*n:=by
  have:=Am3 n (Nat.succ_le_of_lt c)
  rwa [Nat.succ_mul]at this
 omega
def aD {n a b:Nat}(c:b<n):(a*n+b) / n=a:=by
 rw [Ai,Nat.mul_add_div (by lia),Nat.div_eq_of_lt c,Nat.add_zero]
def aE {n a b:Nat}(c:b<n):(a*n+b) % n=b:=by
 rw [Ai,Nat.mul_add_mod,Am c]
def aR {n k:Nat}(h:k<n*n):k / n<n:=Nat.div_lt_of_lt_mul h
def aI {n k:Nat}(h:k<n*n):k % n<n:=An6 _ (by
 cases n with
 | zero=>simp at h
 | succ m=>lia)
def aS (n k:Nat):k / n*n+k % n=k:=by rw [Ai];exact Ak5 k n
theorem vO (n): ∀(a:List (Nat×Nat)) (t k:Nat),(a.foldl (λt p=>t ||| 2 ^ (p.1*n+p.2)) t).testBit k=(t.testBit k||a.any λp=>u9 (p.1*n+p.2=k))
 | [],t,k=>by simp
 | p::r,t,k=>by
  rw [Ag3,vO n r,Ag9,Ak1,Af,Bool.or_assoc]
def bL (n) (ps) (k):(cM n ps).testBit k=ps.any λp=>u9 (p.1*n+p.2=k):=by
 unfold cM;rw [vO];simp
def cK (h:dU n ps):cM n ps<2 ^ (n*n):=by
 refine Ai3 _ λi b=> ?_
 rw [bL,Ag]
 intro p a
 have:=h p a
 have:=place_lt this.1 this.2
 simp;omega
def a0 :p∈ao n t↔ ∃k,k<n*n/\t.testBit k=k9/\p=(k / n,k % n):=by
 unfold ao
 simp [Ab3]
 constructor
 ·rintro ⟨k,⟨b,a⟩,rfl⟩;exact⟨k,b,a,rfl⟩
 ·rintro ⟨k,b,a,rfl⟩;exact⟨k,⟨b,a⟩,rfl⟩
def aP (n t):dU n (ao n t):=λp b=>by
 obtain⟨k,a,c,rfl⟩:=a0.mp b
 exact⟨aR a,aI a⟩
def mD (a:List (Nat×Nat)):List (Nat×Nat):=a.map λp=>(p.2,p.1)
def eK (h:dU n ps):dU n (mD ps):=λp b=>by
 obtain⟨q,a,rfl⟩:=Ac1.mp b
 exact⟨(h q a).2,(h q a).1⟩
def da (n t:Nat):Nat:=cM n (mD (ao n t))
def fP (n t):da n t<2 ^ (n*n):=cK (eK (aP n t))
def eW (f:k<n*n):(da n t).testBit k=t.testBit (k % n*n+k / n):=by
 unfold da
 rw [bL]
 have d:=aR f
 have l:=aI f
 by_cases h:t.testBit (k % n*n+k / n)=k9
 ·rw [h,Ae5]
  refine⟨(k / n,k % n),?_,?_⟩
  ·refine Ac1.mpr ⟨(k % n,k / n),a0.mpr ⟨k % n*n+k / n,place_lt l d,h,?_⟩,rfl⟩
   rw [aD d,aE d]
  ·simp [decide_eq_true_eq];exact aS n k
 ·have c:=by simpa using h
  rw [c,Ag]
  intro p i
  obtain⟨q,m,rfl⟩:=Ac1.mp i
  obtain⟨j,a,b,rfl⟩:=a0.mp m
  simp [decide_eq_true_eq]
  intro e
  subst e
  have g:=aR a
  have a2:=aI a
  rw [aD g,aE g,aS]at c
  rw [c]at b
  cases b
def cR (n:Nat):Nat:=cM n ((Aa0 n).map λa=>(a,a))
def dD (n):dU n ((Aa0 n).map λa=>(a,a)):=λp c=>by
 obtain⟨a,b,rfl⟩:=Ac1.mp c
 exact⟨Ab3.mp b,Ab3.mp b⟩
def FY (c:k<n*n):(cR n).testBit k=u9 (k / n=k % n):=by
 unfold cR
 rw [bL]
 have f:=aR c
 have g:=aI c
 by_cases h:k / n=k % n
 ·rw [decide_eq_true h,Ae5]
  refine⟨_,Ac1.mpr ⟨k / n,Ab3.mpr f,rfl⟩,?_⟩
  simp [decide_eq_true_eq]
  have:=aS n k
  rw [← h]at this
  exact this
 ·rw [decide_eq_false h,Ag]
  intro p d
  obtain⟨a,b,rfl⟩:=Ac1.mp d
  simp [decide_eq_true_eq]
  intro e
  subst e
  have b:=Ab3.mp b
  exact h (by rw [aD b,aE b])
def cx (n p b:Nat):Nat:=p / 2 ^ (b*n) % 2 ^ n
def joinM (n o p:Nat):Nat:=(ao n o).foldl (λt q=>t ||| cx n p q.2*2 ^ (q.1*n)) 0
def dt (n p b):cx n p b<2 ^ n:=An6 _ (Ah3 (by decide))
def J6 (a:c<n):(cx n p b).testBit c=p.testBit (b*n+c):=by
 unfold cx
 rw [Nat.testBit_mod_two_pow,decide_eq_true a,Ai2,Nat.testBit_div_two_pow,An7]
def Ej (d:x<2 ^ n) (c:0<n):(x*2 ^ (a*n)).testBit k=(u9 (k / n=a)&&x.testBit (k % n)):=by
 rw [Nat.testBit_mul_two_pow]
 have e:=aS n k
 by_cases h:k / n=a
 ·subst h
  rw [decide_eq_true rfl,Ai2]
  have:k / n*n<=k:=by lia
  rw [decide_eq_true (this),Ai2]
  rw [show k-k / n*n=k % n by lia]
 ·rw [decide_eq_false h,Al3]
  by_cases b:k>=a*n
  ·rw [decide_eq_true b,Ai2]
   refine Ae3 (Ab0 d (Ac8 (by decide) ?_))
   have f:a<k / n:=by
    have:a<=k / n:=(Nat.le_div_iff_mul_le c).mpr b
    lia
   have g:=Am3 n f
   lia
  ·rw [decide_eq_false b,Al3]
theorem vC (n p) (a:0<n): ∀(b:List (Nat×Nat)) t k,(b.foldl (λt q=>t ||| cx n p q.2*2 ^ (q.1*n)) t).testBit k=(t.testBit k||b.any λq=>u9 (k / n=q.1)&&(cx n p q.2).testBit (k % n))
 | [],t,k=>by simp
 | q::r,t,k=>by
  rw [Ag3,vC n p a r,Ag9,Ej (dt n p q.2) a,Af,Bool.or_assoc]
def c9 (h:k<n*n):0<n:=by
 cases n with
 | zero=>simp at h
 | succ m=>omega
def JB (n o p k:Nat):Bool:=(Aa0 n).any λb=>o.testBit (k / n*n+b)&&p.testBit (b*n+k % n)
def cw (g:k<n*n):(joinM n o p).testBit k=JB n o p k:=by
 have hn:=c9 g
 have l:=aR g
 have h:=aI g
 unfold joinM JB
 rw [vC n p hn]
 simp [Bool.false_or]
 rw [Ad4,Ae5,Ae5]
 constructor
 ·rintro ⟨q,i,a⟩
  obtain⟨j,c,f,rfl⟩:=a0.mp i
  rw [Aa6,decide_eq_true_eq]at a
  obtain⟨e,a⟩:=a
  refine⟨j % n,Ab3.mpr (aI c),?_⟩
  rw [J6 h]at a
  have e:=e
  rw [e,aS,f,a];rfl
 ·rintro ⟨b,a,d⟩
  have a:=Ab3.mp a
  rw [Aa6]at d
  refine⟨_,a0.mpr ⟨k / n*n+b,place_lt l a,d.1,by rw [aD a,aE a]⟩,?_⟩
  rw [J6 h,d.2]
  simp
def dA (n o p):joinM n o p<2 ^ (n*n):=by
 have b: ∀(a:List (Nat×Nat)) t,(∀ q∈a,q.1<n)->t<2 ^ (n*n)->a.foldl (λt q=>t ||| cx n p q.2*2 ^ (q.1*n)) t<2 ^ (n*n):=by
  intro a
  induction a with
  | nil=>intro t _ h;exact h
  | cons q r i=>
   intro t d f
   refine i _ (λz g=>d z (Aa1 _ g)) (An4 f ?_)
   have c:=d q Aa3
   have:=dt n p q.2
   have e:2 ^ n*2 ^ (q.1*n)<=2 ^ (n*n):=by
    rw [← Ak3]
    refine Ac8 (by decide) ?_
    have:=Am3 n (Nat.succ_le_of_lt c)
    lia
   exact Ab0 (Nat.mul_lt_mul_of_pos_right this (Ah3 (by decide))) e
 exact b _ _ (λq c=>(aP n o q c).1) (Ah3 (by decide))
def dZ (a:s<2 ^ n) (b:t<2 ^ n) (h: ∀k,k<n->s.testBit k=t.testBit k):s=t:=
 Af0 λk=>by
  by_cases c:k<n
  ·exact h k c
  ·rw [Ae3 (Ab0 a (Ac8 (by decide) (by lia))),Ae3 (Ab0 b (Ac8 (by decide) (by lia)))]
def dY (d:a<n) (c:b<n):(cR n).testBit (a*n+b)=u9 (a=b):=by
 rw [FY (place_lt d c),aD c,aE c]
def fJ (n):cR n<2 ^ (n*n):=cK (dD n)
inductive TC (n t a:Nat):Nat->Prop
 | step {b:Nat}:a<n->b<n->t.testBit (a*n+b)=k9->TC n t a b
 | more {b c:Nat}:TC n t a b->b<n->c<n->t.testBit (b*n+c)=k9->TC n t a c
def TC.trans (h1:TC n t a b) (h2:TC n t b c):TC n t a c:=by
 induction h2 with
 | step x y z=>exact .more h1 x y z
 | more _ x y z d=>exact .more d x y z
structure fO (n t r:Nat):Prop where
 lt:r<2 ^ (n*n)
 bit: ∀a b,a<n->b<n->(r.testBit (a*n+b)=k9↔TC n t a b)
structure fL (n t r:Nat):Prop where
 lt:r<2 ^ (n*n)
 sub: ∀a b,a<n->b<n->r.testBit (a*n+b)=k9->TC n t a b
 sup: ∀k,t.testBit k=k9->r.testBit k=k9
def fL.start (h:t<2 ^ (n*n)):fL n t t:=⟨h,λ_ _ a b h=> .step a b h,λ_ h=>h⟩
def cT (d:c<n):JB n o p (a*n+c)=(Aa0 n).any λb=>o.testBit (a*n+b)&&p.testBit (b*n+c):=by
 unfold JB
 rw [aD d,aE d]
def fL.next (h:fL n t r):fL n t (r ||| joinM n r r):=by
 refine⟨An4 h.lt (dA _ _ _),λa b g f d=> ?_,λk i=> ?_⟩
 ·rw [Ag9,Am2]at d
  obtain d | d:=d
  ·exact h.sub a b g f d
  ·rw [cw (place_lt g f),cT f,Ae5]at d
   obtain⟨c,e,d⟩:=d
   have e:=Ab3.mp e
   rw [Aa6]at d
   exact(h.sub a c g e d.1).trans (h.sub c b e f d.2)
 ·rw [Ag9,h.sup k i,Bool.true_or]
def HV {a b:Nat}(h:a ||| b=a) (k) (c:b.testBit k=k9):a.testBit k=true:=by
 rw [← h,Ag9,c,Bool.or_true]
def fL.done (h:fL n t r) (e:r ||| joinM n r r=r):fO n t r:=by
 refine⟨h.lt,λa b i k=>⟨h.sub a b i k,λj=> ?_⟩⟩
 induction j with
 | step g f c=>exact h.sup _ c
 | more j g f c d=>
  have d:=d g
  refine HV e _ ?_
  rw [cw (place_lt i f),cT f,Ae5]
  exact⟨_,Ab3.mpr g,by rw [d,h.sup _ c];rfl⟩
def fL.grow (h:fL n t r) (ne:r ||| joinM n r r≠r):r<r ||| joinM n r r:=by
 have:= @Nat.left_le_or r (joinM n r r)
 lia
structure Ms (n t a:Nat) (re wa:List Nat):Prop where
 an:a<n
 nd:re.Nodup
 tc: ∀x∈re,TC n t a x
 wl: ∀x∈wa,x<n/\(x=a\/x∈re)
 cl: ∀x,(x=a\/x∈re)->x∉wa-> ∀b,b<n->t.testBit (x*n+b)=k9->b∈re
structure Lk (n t a:Nat) (re wa:List Nat) (h b:Nat):Prop where
 an:a<n
 nd:re.Nodup
 tc: ∀x∈re,TC n t a x
 wl: ∀x∈wa,x<n/\(x=a\/x∈re)
 cl: ∀x,(x=a\/x∈re)->x∉wa->x≠h-> ∀b,b<n->t.testBit (x*n+b)=k9->b∈re
 hn:h<n
 hr:h=a\/h∈re
 hb: ∀b',b'<b->t.testBit (h*n+b')=k9->b'∈re
end Wf
namespace M
abbrev lb:Tx:=[110,111,110,101]
abbrev sv:Tx:=[101,97,99,104,108,101,97,115,116]
abbrev lK:Tx:=[115,111,109,101]
abbrev oV:Tx:=[108,101,97,115,116]
abbrev tI:Tx:=[106,111,105,110,101,100]
abbrev uO:Tx:=[116,117,114,110,101,100]
abbrev kW:Tx:=[97,110,100]
abbrev uG:Tx:=[98,114,111,107,101,110]
abbrev pV:Tx:=[110,117,109,98,101,114]
abbrev pj:Tx:=[116,111,108,100]
abbrev mU:Tx:=[110,111,116]
abbrev vM:Tx:=[101,113,117,97,108]
abbrev S.r (c x:E):S:= .iff c (.cons (.ret x) .nil) .nil
abbrev E.v0:E:= .var 0
abbrev E.v1:E:= .var 1
abbrev E.v2:E:= .var 2
abbrev E.v3:E:= .var 3
abbrev E.v4:E:= .var 4
abbrev E.v5:E:= .var 5
abbrev E.v6:E:= .var 6
abbrev E.v7:E:= .var 7
abbrev E.v8:E:= .var 8
abbrev E.v9:E:= .var 9
abbrev E.i0:E:= .int 0
abbrev E.i1:E:= .int 1
abbrev E.i2:E:= .int 2
abbrev E.i3:E:= .int 3
abbrev E.i4:E:= .int 4
abbrev Es.a (x:E):Es:= .cons x .nil
abbrev Es.b (x y:E):Es:= .cons x (.cons y .nil)
abbrev Es.c (x y z:E):Es:= .cons x (.cons y (.cons z .nil))
abbrev Es.d (x y z u:E):Es:= .cons x (.cons y (.cons z (.cons u .nil)))
abbrev Es.f (x y z u v:E):Es:= .cons x (.cons y (.cons z (.cons u (.cons v .nil))))
abbrev Es.g (x y z u v w:E):Es:= .cons x (.cons y (.cons z (.cons u (.cons v (.cons w .nil)))))
abbrev Ss.a (x:S):Ss:= .cons x .nil
def Dh:Fn:=⟨1,1,.cons (.ret (.and (.dQ .v0 .int) (.not (.dQ .v0 .bool)))) .nil⟩
def wz:Fn:=⟨2,2,.cons (.ret (.and (.call "is_whole" (.a .v0)) (.chain .le .lt .i0 .v0 .v1))) .nil⟩
noncomputable def WA:E:= .comp [0] k9 1 [1,0] (.av (.bin .mul .v0 .v0)) k9 (.bin .band (.bin .shr .v1 .v0) .i1) (.bi .divmod (.b .v0 .v2))
def JL:Fn:=⟨2,2,.cons (.ret WA) .nil⟩
def wh:Ss:= .cons (.ak 2 (.bin .bor .v2 (.bin .shl .i1 (.bin .add (.bin .mul .v3 .v0) .v4)))) .nil
def XJ:Fn:=⟨2,5,.cons (.ak 2 .i0) (.cons (.for [3,4] y9 (.seq .v1) wh) (.a (.ret .v2)))⟩
def x9:Fn:=⟨2,2,.cons (.ret (.bin .band .v0 .v1)) .nil⟩
def rC:Fn:=⟨2,2,.cons (.ret (.bin .bor .v0 .v1)) .nil⟩
def QV:Fn:=⟨2,2,.cons (.ret (.bin .band .v0 (.inv .v1))) .nil⟩
def zz:E:= .comp [0,1] false 2 [] (.seq (.call "pairs_of" (.b .v0 .v1))) false (.bl true) (.tup (.b .v1 .v0))
def j6:Fn:=⟨2,2,.cons (.ret (.call "gathered" (.b .v0 zz))) .nil⟩
noncomputable def Qr:Ss:= .cons (.ak 7 (.bin .band (.bin .shr .v2 (.bin .mul .v6 .v0)) .v3)) (.a (.ak 4 (.bin .bor .v4 (.bin .shl .v7 (.bin .mul .v5 .v0)))))
def tX:Fn:=⟨3,8,.cons (.ak 3 (.bin .sub (.bin .shl .i1 .v0) .i1)) (.cons (.ak 4 .i0) (.cons (.for [5,6] y9 (.seq (.call "pairs_of" (.b .v0 .v1))) Qr) (.a (.ret .v4))))⟩
def Zs:E:= .cmp .ne .v3 .v2
def Xr:Ss:= .cons (.ak 2 .v3) (.a (.ak 3 (.call "either" (.b .v2 (.call "joined" (.c .v0 .v2 .v2))))))
def uw:Fn:=⟨2,4,.cons (.ak 2 .v1) (.cons (.ak 3 (.call "either" (.b .v2 (.call "joined" (.c .v0 .v2 .v2))))) (.cons (.lJ 100000 Zs Xr) (.a (.ret .v2))))⟩
def wM:E:= .comp [0] k9 1 [] (.av .v0) y9 (.bl k9) (.tup (.b .v0 .v0))
def yx:Fn:=⟨1,1,.cons (.ret (.call "gathered" (.b .v0 wM))) .nil⟩
def ri:Fn:=⟨1,1,.cons (.ret (.bin .sub (.bin .shl .i1 (.bin .mul .v0 .v0)) .i1)) .nil⟩
def JS:Fn:=⟨1,1,.cons (.ret (.call "is_below" (.b .v0 (.bin .add (.con "GREATEST_SIZE") .i1)))) .nil⟩
noncomputable def w6:Fn:=⟨2,2,.cons (.ret (.bin .add (.bin .mul (.lst (.a .v1)) (.bi .len (.a (.ix .v0 .i0)))) (.bin .mul (.lst (.a (.bin .mul .v1 .v1))) (.bi .len (.a (.ix .v0 .i1)))))) .nil⟩
def pO:Fn:=⟨2,2,.cons (.ret (.bi .sum (.a (.call "widths" (.b .v0 .v1))))) .nil⟩
def jq:Fn:=⟨1,1,.cons (.iff (.not (.call "is_size" (.a .v0))) (.a (.raise "NoSize" (.a (.str [97,32,115,105,122,101,32,105,115,32,97,32,119,104,111,108,101,32,110,117,109,98,101,114,32,102,114,111,109,32,48,32,116,111,32,52])))) .nil) .nil⟩
def Wp:Fn:=⟨3,4,.cons (.ex (.call "check_size" (.a .v1))) (.cons (.ak 3 (.call "bits" (.b .v0 .v1))) (.a (.iff (.cmp .gt .v3 .v2) (.a (.cQ "TooBig" "bits" .v3)) .nil)))⟩
def qR:Ss:= .cons (.ak 2 (.bin .bor .v2 (.bin .shl .v5 .v3))) (.a (.ak 3 (.bin .add .v3 .v4)))
def tW:Fn:=⟨2,6,.cons (.ak 2 .i0) (.cons (.ak 3 .i0) (.cons (.for [4,5] y9 (.zip (.call "widths" (.b .v0 (.ix .v1 .i0))) (.bin .add (.ix .v1 .i1) (.ix .v1 .i2))) qR) (.a (.ret .v2))))⟩
def Jq:Ss:= .cons (.app 3 (.bin .band .v4 (.bin .sub (.bin .shl .i1 .v5) .i1))) (.a (.ak 4 (.bin .shr .v4 .v5)))
def WL:Fn:=⟨3,7,.cons (.ex (.call "check_size" (.a .v1))) (.cons (.iff (.not (.call "is_below" (.b .v2 (.bin .shl .i1 (.call "bits" (.b .v0 .v1)))))) (.a (.raise "NoCode" (.a (.str [97,32,99,111,100,101,32,105,115,32,97,32,119,104,111,108,101,32,110,117,109,98,101,114,32,102,114,111,109,32,48,32,116,111,32,50,32,116,111,32,116,104,101,32,98,105,116,115,32,108,101,115,115,32,49])))) .nil) (.cons (.set 3 (.lst .nil)) (.cons (.ak 4 .v2) (.cons (.for [5] true (.seq (.call "widths" (.b .v0 .v1))) Jq) (.cons (.ak 6 (.bi .len (.a (.ix .v0 .i0)))) (.a (.ret (.tup (.c .v1 (.bi .tuple (.a (.gW .v3 .v6))) (.bi .tuple (.a (.fN .v3 .v6))))))))))))⟩
def Qg:E:= .comp [0] k9 1 [3] (.av .v1) k9 (.cmp .dE .v0 .v1) (.bin .add .v1 (.tup (.a .v0)))
def Wg:Ss:= .cons (.ext 2 Qg) .nil
def QG:Fn:=⟨2,4,.cons (.set 2 (.lst .nil)) (.cons (.for [3] k9 (.seq .v0) Wg) (.a (.ret .v2)))⟩
def wn:Ss:= .cons (.set 1 (.call "longer_by_one" (.b .v1 .v0))) .nil
def j5:Fn:=⟨1,3,.cons (.ex (.call "check_size" (.a .v0))) (.cons (.set 1 (.lst (.a (.tup .nil)))) (.cons (.for [2] true (.av .v0) wn) (.a (.ret .v1))))⟩
def Xi:E:= .comp [0] k9 1 [1] (.seq .v0) y9 (.bl k9) (.call "is_below" (.b .v0 .v1))
noncomputable def Ww:Fn:=⟨2,2,.cons (.r (.or (.not (.dQ .v0 .tuple)) (.cmp .ne (.bi .len (.a .v0)) .v1)) (.bl y9)) (.a (.ret (.and (.bi .all (.a Xi)) (.cmp .eq (.cy .v0) .v1))))⟩
noncomputable def Qh:Ss:= .cons (.iff (.bin .band (.bin .shr .v0 .v3) .i1) (.a (.ak 2 (.bin .bor .v2 (.bin .shl .i1 .v4)))) .nil) .nil
def JI:Fn:=⟨2,5,.cons (.ak 2 .i0) (.cons (.for [3,4] y9 (.enum .v1) Qh) (.a (.ret .v2)))⟩
def Qj:E:= .comp [0,1] false 2 [1] (.seq (.call "pairs_of" (.b .v2 .v0))) false (.bl true) (.tup (.b (.ix .v2 .v0) (.ix .v2 .v1)))
def Zx:Fn:=⟨2,3,.cons (.ak 2 (.bi .len (.a .v1))) (.a (.ret (.call "gathered" (.b .v2 Qj))))⟩
def qu:E:= .comp [0] k9 1 [2] (.seq .v5) y9 (.bl k9) (.call "renamed_tie" (.b .v0 .v1))
def Qu:E:= .comp [0] k9 1 [2] (.seq .v4) y9 (.bl k9) (.call "renamed_kind" (.b .v0 .v1))
def XV:Fn:=⟨3,8,.cons (.dB [3,4,5] .v1) (.cons (.iff (.not (.call "is_renaming" (.b .v2 .v3))) (.a (.raise "NoRenaming" (.a (.str [97,32,114,101,110,97,109,105,110,103,32,105,115,32,97,32,116,117,112,108,101,32,111,102,32,97,108,108,32,116,104,105,110,103,115,32,111,102,32,116,104,101,32,115,105,122,101,44,32,101,97,99,104,32,111,110,99,101])))) .nil) (.cons (.ak 6 (.bi .tuple (.a Qu))) (.cons (.ak 7 (.bi .tuple (.a qu))) (.a (.ret (.tup (.c .v3 .v6 .v7)))))))⟩
def Xp:E:= .comp [0] true 1 [0,1] (.seq (.call "renamings" (.a (.ix .v1 .i0)))) false (.bl true) (.call "code" (.b .v1 (.call "renamed" (.c .v1 .v2 .v0))))
def Jw:Fn:=⟨2,2,.cons (.ret Xp) .nil⟩
def vy:Fn:=⟨2,2,.cons (.ret (.call "world_of" (.c .v0 (.ix .v1 .i0) (.bi .min (.a (.call "codes_alike" (.b .v0 .v1))))))) .nil⟩
def Jg:E:= .comp [0] k9 1 [4] (.av .v3) k9 (.bin .band (.bin .shr .v1 .v0) .i1) (.tup (.b .v0 .v0))
def Qq:Fn:=⟨3,5,.cons (.r (.cmp .mem .v2 (.ix .v0 .i1)) (.ix (.ix .v1 .i2) (.cZ .index (.ix .v0 .i1) (.a .v2)))) (.cons (.ak 3 (.ix .v1 .i0)) (.cons (.ak 4 (.ix (.ix .v1 .i1) (.cZ .index (.ix .v0 .i0) (.a .v2)))) (.a (.ret (.call "gathered" (.b .v3 Jg))))))⟩
def wt:Fn:=⟨3,3,.cons (.r (.cmp .eq .v1 (.str [115,97,109,101])) (.call "same" (.a .v0))) (.cons (.r (.cmp .eq .v1 (.str [97,108,108])) (.call "every" (.a .v0))) (.cons (.r (.cmp .eq .v1 (.str lb)) .i0) (.cons (.r (.cmp .eq .v1 (.str [112,108,117,115])) (.call "either" (.b (.ix .v2 .i0) (.ix .v2 .i1)))) (.cons (.r (.cmp .eq .v1 (.str [108,101,115,115])) (.call "without" (.b (.ix .v2 .i0) (.ix .v2 .i1)))) (.cons (.r (.cmp .eq .v1 (.str [98,111,116,104])) (.call "common" (.b (.ix .v2 .i0) (.ix .v2 .i1)))) (.cons (.r (.cmp .eq .v1 (.str tI)) (.call "joined" (.c .v0 (.ix .v2 .i0) (.ix .v2 .i1)))) (.cons (.r (.cmp .eq .v1 (.str uO)) (.call "turned" (.b .v0 (.ix .v2 .i0)))) (.a (.ret (.call "closed" (.b .v0 (.ix .v2 .i0))))))))))))⟩
def ZV:E:= .comp [0] k9 1 [0,1] (.seq (.fN .v2 .i1)) y9 (.bl k9) (.call "value" (.c .v1 .v2 .v0))
def xR:Fn:=⟨3,4,.cons (.r (.cmp .eq (.ix .v2 .i0) (.str [110,97,109,101])) (.call "value_of_name" (.c .v0 .v1 (.ix .v2 .i1)))) (.cons (.ak 3 ZV) (.a (.ret (.call "made" (.c (.ix .v1 .i0) (.ix .v2 .i0) .v3)))))⟩
def wy:E:= .comp [0] k9 1 [4] (.av .v0) y9 (.bl k9) (.cZ .count .v1 (.a .v0))
def jz:E:= .comp [0,1] y9 2 [] (.seq .v3) y9 (.bl k9) .v0
def yP:Fn:=⟨3,5,.cons (.ak 3 (.call "pairs_of" (.b .v0 .v2))) (.cons (.r (.cmp .mem .v1 (.tup (.b (.str oV) (.str [109,111,115,116])))) (.lst (.a (.bi .len (.a .v3))))) (.cons (.ak 4 jz) (.a (.ret wy))))⟩
def qj:E:= .comp [0] k9 1 [3] (.seq .v4) y9 (.bl k9) (.cmp .le .v0 .v1)
def Qi:E:= .comp [0] k9 1 [3] (.seq .v4) y9 (.bl k9) (.cmp .ge .v0 .v1)
def zy:Fn:=⟨3,5,.cons (.ak 3 (.ix .v2 .i1)) (.cons (.ak 4 (.call "counts" (.c (.ix .v1 .i0) (.ix .v2 .i0) (.call "value" (.c .v0 .v1 (.ix .v2 .i2)))))) (.cons (.r (.cmp .mem (.ix .v2 .i0) (.tup (.b (.str oV) (.str sv)))) (.bi .all (.a Qi))) (.a (.ret (.bi .all (.a qj))))))⟩
def ba:Fn:=⟨3,4,.cons (.ak 3 (.ix .v2 .i0)) (.cons (.r (.cmp .eq .v3 (.str mU)) (.not (.call "keeps" (.c .v0 .v1 (.ix .v2 .i1))))) (.cons (.r (.cmp .eq .v3 (.str kW)) (.and (.call "keeps" (.c .v0 .v1 (.ix .v2 .i1))) (.call "keeps" (.c .v0 .v1 (.ix .v2 .i2))))) (.cons (.r (.cmp .eq .v3 (.str [111,114])) (.or (.call "keeps" (.c .v0 .v1 (.ix .v2 .i1))) (.call "keeps" (.c .v0 .v1 (.ix .v2 .i2))))) (.cons (.r (.cmp .eq .v3 (.str [105,110])) (.cmp .eq (.call "without" (.b (.call "value" (.c .v0 .v1 (.ix .v2 .i1))) (.call "value" (.c .v0 .v1 (.ix .v2 .i2))))) .i0)) (.cons (.r (.cmp .eq .v3 (.str vM)) (.cmp .eq (.call "value" (.c .v0 .v1 (.ix .v2 .i1))) (.call "value" (.c .v0 .v1 (.ix .v2 .i2))))) (.cons (.r (.cmp .eq .v3 (.str lK)) (.cmp .ne (.call "value" (.c .v0 .v1 (.ix .v2 .i1))) .i0)) (.cons (.r (.cmp .eq .v3 (.str [110,111])) (.cmp .eq (.call "value" (.c .v0 .v1 (.ix .v2 .i1))) .i0)) (.a (.ret (.call "keeps_count" (.c .v0 .v1 .v2)))))))))))⟩
def Wb:Ss:= .cons (.r (.not (.call "keeps" (.c .v0 .v1 .v4))) .v3) .nil
def Qt:Fn:=⟨3,5,.cons (.for [3,4] y9 (.enum .v2) Wb) (.a (.ret .au))⟩
def Jn:Ss:= .cons (.dz 2 .v6) .nil
def ji:Ss:= .cons (.iff (.cI true .v4 2) (.cons (.ak 5 (.call "world_of" (.c .v0 .v1 .v4))) (.cons (.app 3 .v5) (.a (.for [6] true (.seq (.call "codes_alike" (.b .v0 .v5))) Jn)))) .nil) .nil
def ZE:Fn:=⟨2,7,.cons (.set 2 .dc) (.cons (.set 3 (.lst .nil)) (.cons (.for [4] k9 (.av (.bin .shl .i1 (.call "bits" (.b .v0 .v1)))) ji) (.a (.ret .v3))))⟩
def zK:E:= .comp [0] true 1 [2,3] (.seq (.call "all_forms" (.b .v2 .v1))) true (.dS false (.call "first_broken" (.c .v1 .v0 .v2))) .v0
def wN:Fn:=⟨2,4,.cons (.dB [2,3] .v0) (.cons (.ex (.call "check_bits" (.c .v2 .v1 (.con "MOST_LISTED_BITS")))) (.a (.ret zK)))⟩
def jr:Fn:=⟨3,4,.cons (.ak 3 (.call "unlike" (.b .v0 .v1))) (.cons (.iff (.not (.call "is_below" (.b .v2 (.bi .len (.a .v3))))) (.a (.cQ "NoNumber" "number" .v2)) .nil) (.a (.ret (.ix .v3 .v2))))⟩
def zv:Fn:=⟨2,5,.cons (.dB [2,3] .v0) (.cons (.ex (.call "check_bits" (.c .v2 (.ix .v1 .i0) (.con "MOST_LISTED_BITS")))) (.cons (.ak 4 (.call "first_broken" (.c .v2 .v1 .v3))) (.cons (.iff (.dS true .v4) (.a (.cQ "Broken" "number" .v4)) .nil) (.a (.ret (.cZ .bZ (.call "unlike" (.b .v0 (.ix .v1 .i0))) (.a (.call "form" (.b .v2 .v1)))))))))⟩
def JV:Fn:=⟨2,2,.cons (.r (.cmp .lt .v1 (.bi .len (.a .v0))) (.ix .v0 .v1)) (.a (.ret .i0))⟩
def QY:Fn:=⟨1,1,.cons (.ret (.and (.dQ .v0 .int) (.not (.dQ .v0 .bool)))) .nil⟩
def Wn:Ss:= .cons (.dB [0,4] (.bi .divmod (.b .v0 .i2))) (.a (.app 2 .v4))
def XD:Fn:=⟨2,5,.cons (.set 2 (.lst .nil)) (.cons (.for [3] k9 (.av .v1) Wn) (.a (.ret .v2)))⟩
def zh:Ss:= .cons (.iff (.cmp .dE .v5 .v4) (.a (.app 3 (.bin .add .v4 (.tup (.a .v5))))) .nil) .nil
def ql:Ss:= .cons (.for [5] k9 (.av .v0) zh) .nil
def Zt:Ss:= .cons (.set 3 (.lst .nil)) (.cons (.freeze 1) (.cons (.for [4] k9 (.seq .v1) ql) (.a (.mv 1 3))))
def QS:Fn:=⟨1,6,.cons (.set 1 (.lst (.a (.tup .nil)))) (.cons (.for [2] k9 (.av .v0) Zt) (.a (.ret .v1)))⟩
def jo:Ss:= .cons (.dB [4,8] (.bi .divmod (.b .v4 (.bin .shl .i1 (.bin .mul .v0 .v0))))) (.a (.app 6 .v8))
def jn:Ss:= .cons (.dB [4,8] (.bi .divmod (.b .v4 (.bin .shl .i1 .v0)))) (.a (.app 5 .v8))
noncomputable def jv:Fn:=⟨4,9,.cons (.ak 4 (.bin .mod .v3 (.bin .shl .i1 (.bin .add (.bin .mul .v1 .v0) (.bin .mul (.bin .mul .v2 .v0) .v0))))) (.cons (.set 5 (.lst .nil)) (.cons (.set 6 (.lst .nil)) (.cons (.for [7] k9 (.av .v1) jn) (.cons (.for [7] k9 (.av .v2) jo) (.a (.ret (.tup (.c .v0 (.bi .tuple (.a .v5)) (.bi .tuple (.a .v6))))))))))⟩
noncomputable def xn:E:= .comp [0,1] y9 2 [1,2] (.seq (.var 10)) y9 (.bl k9) (.bin .shl .i1 (.bin .add (.bin .mul (.ix .v2 .v0) .v3) (.ix .v2 .v1)))
noncomputable def ju:E:= .comp [0] k9 1 [7,2] (.av (.bin .mul .v2 .v2)) k9 (.cmp .eq (.ix .v1 .v0) .i1) (.bi .divmod (.b .v0 .v2))
def Ju:Ss:= .cons (.ak 7 (.call "_law_marks" (.b .v9 (.bin .mul .v2 .v2)))) (.cons (.ak 10 ju) (.a (.app 8 (.bi .sum (.a xn)))))
def Xu:E:= .comp [0] k9 1 [7,1] (.av .v2) k9 (.cmp .eq (.ix .v1 .v0) .i1) (.bin .shl .i1 (.ix .v2 .v0))
def xu:Ss:= .cons (.ak 7 (.call "_law_marks" (.b .v6 .v2))) (.a (.app 5 (.bi .sum (.a Xu))))
def XR:Fn:=⟨2,11,.cons (.dB [2,3,4] .v0) (.cons (.set 5 (.lst .nil)) (.cons (.for [6] k9 (.seq .v3) xu) (.cons (.set 8 (.lst .nil)) (.cons (.for [9] k9 (.seq .v4) Ju) (.a (.ret (.tup (.c .v2 (.bi .tuple (.a .v5)) (.bi .tuple (.a .v8))))))))))⟩
def Wh:E:= .comp [0] k9 1 [] (.seq (.ix .v0 .v2)) y9 (.bl k9) (.call "_law_whole" (.a .v0))
noncomputable def qo:Ss:= .cons (.r (.or (.not (.dQ (.ix .v0 .v2) .tuple)) (.cmp .ne (.bi .len (.a (.ix .v0 .v2))) (.bi .len (.a (.ix .v1 .v2))))) (.bl y9)) (.a (.r (.or (.not (.bi .all (.a Wh))) (.cmp .ne (.ix .v0 .v2) (.ix .v1 .v2))) (.bl y9)))
def WC:Fn:=⟨2,3,.cons (.r (.or (.not (.dQ .v0 .tuple)) (.or (.cmp .ne (.bi .len (.a .v0)) .i3) (.or (.not (.call "_law_whole" (.a (.ix .v0 .i0)))) (.cmp .ne (.ix .v0 .i0) (.ix .v1 .i0))))) (.bl false)) (.cons (.for [2] true (.seq (.lst (.b .i1 .i2))) qo) (.a (.ret (.bl true))))⟩
noncomputable def QH:Fn:=⟨2,2,.cons (.ret (.tup (.b (.gW (.tup (.d (.str [97,103,101]) (.str [98,101,101]) (.str [99,97,112]) (.str [100,111,116]))) .v0) (.gW (.tup (.d (.str [101,97,116]) (.str [102,101,100]) (.str [103,111]) (.str [104,117,116]))) .v1)))) .nil⟩
noncomputable def Xl:Fn:=⟨2,4,.cons (.ak 2 (.bin .add (.ix .v0 .i0) (.ix .v0 .i1))) (.cons (.ak 3 (.bin .mod .v1 (.bin .add (.bi .len (.a .v2)) .i3))) (.cons (.r (.cmp .lt .v3 .i3) (.tup (.a (.ix (.lst (.c (.str [115,97,109,101]) (.str [97,108,108]) (.str lb))) .v3)))) (.a (.ret (.tup (.b (.str [110,97,109,101]) (.ix .v2 (.bin .sub .v3 .i3))))))))⟩
noncomputable def Qy:Fn:=⟨2,5,.cons (.ak 2 (.ix (.ix .v0 (.neg .i1)) .i0)) (.cons (.ak 3 (.ix (.ix .v0 (.bin .mod (.bin .fdiv .v1 (.int 8)) (.bi .len (.a .v0)))) .i0)) (.cons (.ak 4 (.ix (.lst (.cons (.str [105,110]) (.cons (.str vM) (.g (.str lK) (.str [110,111]) (.str oV) (.str [109,111,115,116]) (.str sv) (.str [101,97,99,104,109,111,115,116]))))) (.bin .mod .v1 (.int 8)))) (.cons (.r (.cmp .lt (.bin .mod .v1 (.int 8)) .i2) (.tup (.c .v4 .v2 .v3))) (.cons (.r (.cmp .lt (.bin .mod .v1 (.int 8)) .i4) (.tup (.b .v4 .v2))) (.a (.ret (.tup (.c .v4 (.ix (.lst (.b (.bin .mod (.bin .fdiv .v1 (.int 8)) (.int 5)) (.bin .mod (.bin .fdiv .v1 (.int 8)) (.int 100)))) (.bin .mod (.bin .fdiv .v1 (.int 800)) .i2)) .v2))))))))⟩
noncomputable def QT:Fn:=⟨2,5,.cons (.e8 0 2) (.cons (.e8 0 3) (.cons (.ak 4 (.bin .add .i1 (.bi .max (.b (.ix .v3 .i1) (.ix .v2 .i1))))) (.a (.iff (.cmp .gt .v4 (.int 13)) (.a (.bY 0 .v3)) (.a (.bY 0 (.tup (.b (.tup (.c .v1 (.ix .v3 .i0) (.ix .v2 .i0))) .v4))))))))⟩
def Xd:Fn:=⟨5,8,.cons (.iff (.or (.cmp .lt .v3 (.int 5)) (.cmp .eq .v1 (.lst .nil))) (.a (.bY 1 (.tup (.b (.call "_law_atom" (.b .v0 .v4)) .i1)))) (.a (.iff (.cmp .lt .v3 (.int 7)) (.cons (.eR 1 [5,6]) (.cons (.iff (.cmp .lt .v6 (.int 13)) (.a (.ak 5 (.tup (.b (.ix (.lst (.b (.str uO) (.str [99,108,111,115,101,100]))) (.bin .sub .v3 (.int 5))) .v5)))) .nil) (.a (.bY 1 (.tup (.b .v5 (.bi .min (.b (.int 13) (.bin .add .v6 .i1))))))))) (.a (.iff (.cmp .lt .v3 (.int 11)) (.a (.iff (.cmp .gt (.bi .len (.a .v1)) .i1) (.a (.ex (.call "_law_put" (.b .v1 (.ix (.lst (.d (.str [112,108,117,115]) (.str [108,101,115,115]) (.str [98,111,116,104]) (.str tI))) (.bin .sub .v3 (.int 7))))))) .nil)) (.a (.iff (.or (.cmp .lt .v3 (.int 14)) (.cmp .eq .v2 (.lst .nil))) (.a (.bY 2 (.tup (.b (.call "_law_fact" (.b .v1 .v4)) .i1)))) (.a (.iff (.cmp .eq .v3 (.int 14)) (.cons (.eR 2 [7,6]) (.cons (.iff (.cmp .lt .v6 (.int 13)) (.a (.ak 7 (.tup (.b (.str mU) .v7)))) .nil) (.a (.bY 2 (.tup (.b .v7 (.bi .min (.b (.int 13) (.bin .add .v6 .i1))))))))) (.a (.iff (.cmp .gt (.bi .len (.a .v2)) .i1) (.a (.ex (.call "_law_put" (.b .v2 (.ix (.lst (.b (.str kW) (.str [111,114]))) (.bin .mod .v4 .i2)))))) .nil))))))))))) .nil⟩
noncomputable def zB:Fn:=⟨1,2,.cons (.ak 1 (.bin .add (.bin .mod .v0 (.int 1000003)) (.int 29))) (.a (.ret (.bin .fdiv (.bin .add (.bin .pow .v1 (.int 11)) (.bin .mul (.int 31) (.bin .pow .v1 (.int 7)))) (.int 13))))⟩
def xh:Ss:= .cons (.ak 7 (.tup (.c (.str kW) .v7 .v8))) .nil
def xl:Ss:= .cons (.dB [1,5] (.bi .divmod (.b .v1 (.int 16)))) (.cons (.dB [1,6] (.bi .divmod (.b .v1 (.int 1600)))) (.a (.ex (.call "_law_op" (.f .v0 .v2 .v3 .v5 .v6)))))
def Zp:Fn:=⟨2,10,.cons (.set 2 (.share (.lst .nil))) (.cons (.set 3 (.share (.lst .nil))) (.cons (.for [4] true (.av (.int 7)) xl) (.cons (.iff (.cmp .eq .v3 (.lst .nil)) (.cons (.dB [1,6] (.bi .divmod (.b .v1 (.int 1600)))) (.a (.bY 3 (.tup (.b (.call "_law_fact" (.b .v2 .v6)) .i1))))) .nil) (.cons (.ak 7 (.ix (.ix .v3 .i0) .i0)) (.cons (.for [8,9] false (.seq (.fN .v3 .i1)) xh) (.a (.ret .v7)))))))⟩
def zg:E:= .comp [0] k9 1 [1] (.seq .v4) y9 (.bl k9) (.call "_law_saying" (.b .v1 .v0))
def Zj:E:= .comp [0] k9 1 [] (.seq .v4) y9 (.bl k9) (.call "_law_spread" (.a .v0))
def Zn:Fn:=⟨4,5,.cons (.ak 4 (.sl .v0 .v2 (.bin .add .v2 .v3))) (.cons (.iff (.cmp .eq (.bin .mod (.call "_law_nth" (.b .v0 .i0)) .i2) .i1) (.a (.ak 4 Zj)) .nil) (.a (.ret (.bi .tuple (.a zg)))))⟩
def ZW:E:= .comp [0] k9 1 [0,1] (.seq .v2) y9 (.bl k9) (.call "keeps" (.c .v1 .v2 .v0))
def JK:Fn:=⟨3,3,.cons (.ret (.bi .all (.a ZW))) .nil⟩
def Jd:Ss:= .cons (.ak 6 (.call "_law_led" (.b .v0 .v5))) (.cons (.ak 7 (.bin .add (.rev (.bi .list (.a (.ix .v6 .i2)))) (.rev (.bi .list (.a (.ix .v6 .i1)))))) (.a (.iff (.or (.dS false .v4) (.ia .v7 (.ix .v4 .i0))) (.a (.ak 4 (.tup (.b .v7 .v6)))) .nil)))
def xH:Fn:=⟨1,8,.cons (.dB [1,2,3] .v0) (.cons (.ak 4 .au) (.cons (.for [5] k9 (.seq (.call "_law_orders" (.a .v1))) Jd) (.a (.ret (.ix .v4 .i1)))))⟩
def Wi:Ss:= .cons (.ak 7 (.call "_law_world" (.d .v1 .v3 .v4 .v6))) (.a (.iff (.call "_law_keep" (.c .v0 .v7 .v2)) (.a (.app 5 .v7)) .nil))
def Qv:Fn:=⟨3,8,.cons (.ak 3 (.bi .len (.a (.ix .v0 .i0)))) (.cons (.ak 4 (.bi .len (.a (.ix .v0 .i1)))) (.cons (.set 5 (.lst .nil)) (.cons (.for [6] k9 (.av (.bin .shl .i1 (.bin .add (.bin .mul .v3 .v1) (.bin .mul (.bin .mul .v4 .v1) .v1)))) Wi) (.a (.ret .v5)))))⟩
def Wx:Fn:=⟨1,2,.cons (.ak 1 (.lst (.d (.bV .v0 true ["NoSize"]) (.bV .v0 true ["NoPair"]) (.bV .v0 true ["NoName"]) (.bV .v0 true ["NoCode"])))) (.cons (.ak 1 (.bin .add .v1 (.lst (.d (.bV .v0 true ["NoText"]) (.bV .v0 true ["Crowded"]) (.bV .v0 true ["TooBig"]) (.bV .v0 true ["NoWorld"]))))) (.cons (.ak 1 (.bin .add .v1 (.lst (.d (.bV .v0 true ["NoRenaming"]) (.bV .v0 true ["NoNumber"]) (.bV .v0 true ["Broken"]) (.bV .v0 true ["Kept"]))))) (.cons (.ak 1 (.bin .add .v1 (.lst (.d (.bV .v0 true ["Unlike"]) (.bV .v0 true ["NoRow"]) (.bV .v0 true ["NoStand"]) (.bV .v0 true ["ValueError"]))))) (.a (.ret .v1)))))⟩
def Jx:E:= .comp [0] k9 1 [] (.av (.int 16)) y9 (.bl k9) (.or (.cmp .eq .v0 .i0) (.cmp .eq .v0 (.int 15)))
def wv:E:= .comp [0] k9 1 [] (.av (.int 16)) y9 (.bl k9) (.or (.cmp .eq .v0 (.int 6)) (.cmp .eq .v0 (.int 15)))
def jx:E:= .comp [0] k9 1 [] (.av (.int 16)) y9 (.bl k9) (.or (.cmp .eq .v0 (.int 9)) (.cmp .eq .v0 (.int 15)))
def xw:E:= .comp [0] k9 1 [] (.av (.int 16)) y9 (.bl k9) (.or (.cmp .eq .v0 (.int 10)) (.cmp .eq .v0 (.int 15)))
def aN:Fn:=⟨4,8,.cons (.ak 4 .au) (.cons (.ak 5 .au) (.cons (.fD (.dS false .v2) 5 "world_at" (.c .v0 .v1 .v3) "number_of" (.b .v0 .v2) "WorldError" 6 4) (.cons (.r (.dS false .v4) (.lst (.b (.str pj) .v5))) (.cons (.ak 7 (.call "_law_classes" (.a .v4))) (.cons (.r (.cmp .eq .v7 xw) (.lst (.b (.str uG) (.xf 4 "number")))) (.cons (.r (.cmp .eq .v7 jx) (.lst (.b (.str pV) (.xf 4 "number")))) (.cons (.r (.cmp .eq .v7 wv) (.lst (.b (.str [98,105,103]) (.xf 4 "bits")))) (.a (.ret (.bin .mul (.lst (.a (.str [115,105,122,101]))) (.bi .int (.a (.cmp .eq .v7 Jx)))))))))))))⟩
def zd:Ss:= .cons (.r (.not (.call "keeps" (.c .v0 .v1 (.ix .v2 .v3)))) .v3) .nil
def XA:Fn:=⟨3,4,.cons (.for [3] k9 (.av (.bi .len (.a .v2))) zd) (.a (.ret .au))⟩
def Ql:Fn:=⟨3,7,.cons (.dB [3,4] .v0) (.cons (.ak 5 (.call "_law_asked" (.d .v0 (.ix .v1 .i0) .v1 .i0))) (.cons (.ak 6 (.call "_law_broken" (.c .v3 .v1 .v4))) (.cons (.r (.dS true .v6) (.and (.cmp .eq .v5 (.lst (.b (.str uG) .v6))) (.call "_law_whole" (.a (.ix .v5 .i1))))) (.a (.ret (.and (.cmp .eq .v5 (.lst (.b (.str pj) (.cZ .bZ .v2 (.a (.call "_law_least" (.a .v1))))))) (.call "_law_whole" (.a (.ix .v5 .i1)))))))))⟩
def Jf:Fn:=⟨4,5,.cons (.ak 4 (.call "_law_asked" (.d .v0 .v1 .au .v2))) (.cons (.r (.or (.not (.call "_law_whole" (.a .v2))) (.or (.cmp .lt .v2 .i0) (.cmp .ge .v2 (.bi .len (.a .v3))))) (.and (.cmp .eq .v4 (.lst (.b (.str pV) .v2))) (.cmp .eq (.call "_law_whole" (.a (.ix .v4 .i1))) (.call "_law_whole" (.a .v2))))) (.a (.ret (.and (.cmp .eq (.ix .v4 .i0) (.str pj)) (.call "_law_alike" (.b (.ix .v4 .i1) (.ix .v3 .v2)))))))⟩
def wQ:Ss:= .cons (.r (.not (.call "_law_number_right" (.d .v8 .v5 (.var 12) .v9))) (.bl false)) .nil
def WY:Ss:= .cons (.r (.not (.call "_law_world_right" (.c .v8 (.call "_law_world" (.d .v5 .v3 .v4 .v1)) .v9))) (.bl false)) .nil
def Q3:E:= .comp [0] true 1 [] (.seq (.call "_law_keepers" (.c .v6 .v5 (.ix .v8 .i1)))) true (.cmp .eq (.call "_law_least" (.a .v0)) .v0) .v0
def pA:Fn:=⟨1,17,.cons (.ak 1 (.bin .fdiv (.call "_law_nth" (.b .v0 .i0)) .i2)) (.cons (.ak 2 (.lst (.cons (.tup (.c .i0 .i1 .i2)) (.cons (.tup (.c .i1 .i0 .i3)) (.g (.tup (.c .i1 .i1 .i1)) (.tup (.c .i2 .i0 .i2)) (.tup (.c .i2 .i3 .i1)) (.tup (.c .i1 .i1 .i2)) (.tup (.c .i0 .i0 .i3)) (.tup (.c .i1 .i0 .i2))))))) (.cons (.dB [3,4,5] (.ix .v2 (.bin .mod .v1 (.int 8)))) (.cons (.ak 6 (.call "_law_names" (.b .v3 .v4))) (.cons (.ak 7 (.bin .mod (.bin .fdiv .v1 (.int 8)) .i4)) (.cons (.iff (.cmp .gt (.bin .add (.bin .mul .v3 .v5) (.bin .mul (.bin .mul .v4 .v5) .v5)) (.int 5)) (.a (.ak 7 (.bi .min (.b .v7 .i2)))) .nil) (.cons (.ak 8 (.tup (.b .v6 (.call "_law_sayings" (.d .v0 .v6 (.int 7) .v7))))) (.cons (.ak 9 Q3) (.cons (.for [1] true (.seq (.lst (.b (.call "_law_nth" (.b .v0 .i2)) (.call "_law_nth" (.b .v0 .i3))))) WY) (.cons (.ak 10 (.bin .mod (.bin .fdiv (.call "_law_nth" (.b .v0 .i1)) (.int 6)) (.bin .pow (.int 10) (.int 20)))) (.cons (.ak 11 (.ix (.lst (.g (.neg .i1) (.bi .len (.a .v9)) (.bin .add (.bi .len (.a .v9)) (.var 10)) (.bin .sub (.neg .i1) (.var 10)) (.bl true) .au)) (.bin .mod (.call "_law_nth" (.b .v0 .i1)) (.int 6)))) (.cons (.for [12] true (.seq (.lst (.c (.var 11) (.bin .mod (.call "_law_nth" (.b .v0 .i4)) (.bin .add (.bi .len (.a .v9)) .i1)) (.bin .sub (.bi .len (.a .v9)) .i1)))) wQ) (.cons (.ak 13 (.call "_law_names" (.b (.bin .mod (.call "_law_nth" (.b .v0 (.int 5))) (.int 5)) (.bin .add .i1 (.bin .mod (.bin .fdiv (.call "_law_nth" (.b .v0 (.int 5))) (.int 5)) .i4))))) (.cons (.ak 14 (.call "_law_world" (.d .i4 (.bi .len (.a (.ix (.var 13) .i0))) (.bi .len (.a (.ix (.var 13) .i1))) (.call "_law_nth" (.b .v0 (.int 6)))))) (.cons (.ak 15 (.lst (.b (.str [98,105,103]) (.bin .add (.bin .mul (.bi .len (.a (.ix (.var 13) .i0))) .i4) (.bin .mul (.bi .len (.a (.ix (.var 13) .i1))) (.int 16)))))) (.cons (.r (.cmp .ne (.call "_law_asked" (.d (.tup (.b (.var 13) (.tup (.a (.tup (.b (.str lK) (.tup (.a (.str lb))))))))) .i4 (.var 14) .i0)) (.var 15)) (.bl false)) (.cons (.ak 16 (.ix (.lst (.g (.neg .i1) (.int 5) (.bl true) .au (.str [50]) (.bin .add (.int 5) (.var 10)))) (.bin .mod (.bin .fdiv (.call "_law_nth" (.b .v0 (.int 5))) (.int 20)) (.int 6)))) (.cons (.r (.cmp .ne (.call "_law_asked" (.d (.tup (.b (.var 13) (.tup .nil))) (.var 16) .au (.var 11))) (.lst (.a (.str [115,105,122,101])))) (.bl false)) (.a (.ret (.cmp .eq (.call "_law_asked" (.d (.tup (.b (.var 13) (.tup .nil))) .i4 .au (.var 11))) (.var 15)))))))))))))))))))))⟩
def prog:Prog:=⟨[("is_whole",Dh),("is_below",wz),("pairs_of",JL),("gathered",XJ),("common",x9),("either",rC),("without",QV),("turned",j6),("joined",tX),("closed",uw),("same",yx),("every",ri),("is_size",JS),("widths",w6),("bits",pO),("check_size",jq),("check_bits",Wp),("code",tW),("world_of",WL),("longer_by_one",QG),("renamings",j5),("is_renaming",Ww),("renamed_kind",JI),("renamed_tie",Zx),("renamed",XV),("codes_alike",Jw),("form",vy),("value_of_name",Qq),("made",wt),("value",xR),("counts",yP),("keeps_count",zy),("keeps",ba),("first_broken",Qt),("all_forms",ZE),("unlike",wN),("world_at",jr),("number_of",zv),("_law_nth",JV),("_law_whole",QY),("_law_marks",XD),("_law_orders",QS),("_law_world",jv),("_law_led",XR),("_law_alike",WC),("_law_names",QH),("_law_atom",Xl),("_law_fact",Qy),("_law_put",QT),("_law_op",Xd),("_law_spread",zB),("_law_saying",Zp),("_law_sayings",Zn),("_law_keep",JK),("_law_least",xH),("_law_keepers",Qv),("_law_classes",Wx),("_law_asked",aN),("_law_broken",XA),("_law_world_right",Ql),("_law_number_right",Jf),("law",pA)],[("WorldError", "ValueError"),("NoSize", "WorldError"),("NoPair", "WorldError"),("NoName", "WorldError"),("NoCode", "WorldError"),("NoText", "WorldError"),("Crowded", "WorldError"),("TooBig", "WorldError"),("NoWorld", "WorldError"),("NoRenaming", "WorldError"),("NoNumber", "WorldError"),("Broken", "WorldError"),("Kept", "WorldError"),("Unlike", "WorldError"),("NoRow", "WorldError"),("NoStand", "WorldError")],[("GREATEST_SIZE",.int 4),("MOST_LISTED_BITS",.int 9)]⟩
abbrev k8 (m:Nat):Fx:=⟨call prog m,prog.cl,prog.con⟩
theorem ZA (f): ∀ ds,(∀ d∈ds,step d h= .ok (f d) h)->Gv step ds h= .ok (ds.filterMap f) h
 | [],_=>rfl
 | d::ds,a=>by
  have b:=ZA f ds λd c=>a d (Aa1 _ c)
  rw [Gv,a d Aa3]
  simp only [b]
  cases q:f d<;>simp [q]
def WZ (f) (r:Gk F it Y h= .ok ds h) (g:ds.length<=aY)
 (e: ∀d∈ds,∃i b,Gn tg one d (Aa9 k u0++az.map λj=>Gf Y j)=y0 i/\Gs F c i h= .ok b h/\(if b=k9 then ∃w y,eval F elt i h= .ok w h/\w.d=y0 y/\f d=y0 y else f d=u0)):
 eval F (.comp tg one k az it k9 c elt) Y h= .ok (.own (ds.filterMap f)) h:=by
 rw [eval,r,R.aa,if_pos g,ZA f]
 ·rfl
 intro d m
 obtain⟨i,b,p,l,a⟩:=e d m
 rw [p]
 show((Gs F c i h).bind _)=_
 rw [l]
 cases b with
 | true=>
  obtain⟨w,y,n,q,o⟩:=a
  simp [n,q,o]
 | false=>
  rw [if_neg (by simp)]at a
  simp [a]
def Xz (f) (n:Gk F it Y h= .ok ds h) (b:ds.length<=aY)
 (a: ∀d∈ds,∃i,Gn tg one d (Aa9 k u0++az.map λj=>Gf Y j)=y0 i/\ ∃w,eval F elt i h= .ok w h/\w.d=y0 (f d)):
 eval F (.comp tg one k az it y9 c elt) Y h= .ok (.own (ds.map f)) h:=by
 rw [eval,n,R.aa,if_pos b,ZA (λd=>y0 (f d))]
 ·simp [List.filterMap_eq_map']
 intro d e
 obtain⟨i,l,w,g,m⟩:=a d e
 rw [l]
 simp [g,m]
def Wy (bnd) (body) (d) (ds) (Y) (h):Gq bnd body (d::ds) Y h=match bnd d Y with
 | none=> .fail
 | some c=>match body c h with
  | .next a b=>Gq bnd body ds a b
  | .cont a b=>Gq bnd body ds a b
  | .brk a b=> .next a b
  | o=>o:=rfl
@[simp] theorem jG (bnd) (body) (Y) (h):Gq bnd body [] Y h= .next Y h:=rfl
def qa (b:bnd d Y=y0 Y1) (a:body Y1 h= .next Y2 h2):Gq bnd body (d::ds) Y h=Gq bnd body ds Y2 h2:=by
 rw [Wy,b];simp [a]
@[simp] theorem Kb (i) (d) (Y):Gn [i] k9 d Y=y0 (Gy Y i (.v d)):=rfl
@[simp] theorem G9 (tg) (ds) (Y):Gn tg y9 (.tup ds) Y=aH tg ds Y:=rfl
def xq (a b:Nat):G6 (a:Int) (b:Int)=y0 ((a &&& b:Nat):Int):=by simp [G6]
def xF (a b:Nat):kG (a:Int) (b:Int)=y0 ((a ||| b:Nat):Int):=by simp [kG]
@[simp] theorem zn (i j):Gp .band i j=G6 i j:=rfl
@[simp] theorem XG (i j):Gp .bor i j=kG i j:=rfl
def wc (a b:Nat) (h:a<2 ^ 64):Gp .mul (a:Int) (b:Int)=y0 ((a*b:Nat):Int):=by
 have c:(-gU< a/\ a<gU)\/(-gU< b/\ b<gU):=by rw [G7];omega
 show(if _ then _ else _)=_
 rw [if_pos c,Int.natCast_mul]
def eY (k:Nat) (h:k<=1000000):Gp .shl 1 (k:Int)=y0 ((2 ^ k:Nat):Int):=by
 have a: 0<=(k:Int)/\ k<=BP/\(1:Int).natAbs<iM:=by rw [GV,GB];exact⟨by lia,by lia,by decide⟩
 show(if _ then _ else _)=_
 rw [if_pos a,Int.one_mul,Ag0]
 simp
def zF (t k:Nat):Gp .shr (t:Int) (k:Int)=y0 ((t / 2 ^ k:Nat):Int):=by
 simp [Gp,Int.natCast_pow]
def JO (t k):(t / 2 ^ k &&& 1)=(t.testBit k).toNat:=by
 have:=Aj4 (t / 2 ^ k) 1
 rw [this]
 exact Wf.et t k
def pD (p:Nat×Nat):D:= .tup [.int (p.1:Nat),.int (p.2:Nat)]
def AR (n t:Nat) (m):(((Aa0 m).map λ(i:Nat)=>D.int (i:Int)).filterMap λd=>match d with
 | .int i=>if t.testBit i.toNat then y0 (.tup [.int (i / (n:Int)),.int (i % (n:Int))])else u0
 | _=>u0)=(((Aa0 m).filter t.testBit).map λk=>(k / n,k % n)).map pD:=by
 induction Aa0 m with
 | nil=>rfl
 | cons x c a=>
  by_cases b:t.testBit x=k9
  ·simp [b,pD,a]
  ·simp [b,a]
def gF (m)(b:d∈(Aa0 m).map λ(i:Nat)=>D.int (i:Int)): ∃i:Nat,i<m/\d= .int (i:Int):=by
 obtain⟨i,a,rfl⟩:=Ac1.mp b
 exact⟨i,Ab3.mp a,rfl⟩
def Xk (a:n<=20):n*n<=400:=Ac (Ad3 a a) (by decide)
def tx (a:n<=20):n*n<=aY:=Ac (Xk a) (by rw [Gi];decide)
def wd {m:Nat}(e:eval F a Y h= .ok (.v (.int (m:Int))) h) (c:m<=1000000):Gk F (.av a) Y h= .ok ((Aa0 m).map λ(i:Nat)=> .int (i:Int)) h:=by
 have b: -gK<= m/\ m<gK:=by rw [GY];lia
 rw [Gk,e,R.aa,int?_int,R.af,R.aa,if_pos b,Ag0]
def FJ {n i j:Nat}(b:n<=20) (e:Gf Y i=y0 (.v (.int (n:Int)))/\Gf Y j=y0 (.v (.int (n:Int)))):Gk F (.av (.bin .mul (.var i) (.var j))) Y h= .ok ((Aa0 (n*n)).map λ(i:Nat)=> .int (i:Int)) h:=by
 have c:=Xk b
 refine wd ?_ (by lia)
 have a:=wc n n (by lia)
 simp [e.1,e.2,a]
def Js (k n t:Nat) (h) (c:n<=20):call prog (k+1) "pairs_of" [.v (.int (n:Int)),.v (.int (t:Int))] h= .ok (.own ((Wf.ao n t).map pD)) h:=by
 rw [Ga rfl _ _ _ rfl]
 simp only [JL,execs,exec,WA,GD]
 rw [WZ (λd=>match d with
  | .int i=>if t.testBit i.toNat then y0 (.tup [.int _,.int (i % n)])else u0
  | _=>u0) (FJ c (by simp [Gf])) (by simpa using tx c)]
 ·rw [AR]
  simp [Wf.ao]
 ·intro d f
  obtain⟨i,g,rfl⟩:=gF _ f
  have a:0<n:=by cases n with
   | zero=>simp at g
   | succ m=>lia
  have b:0< n/\ n<fU:=by rw [GE];lia
  have j:G6 ((t / 2 ^ i:Nat)) 1=y0 (((t.testBit i).toNat:Nat):Int):=by
   rw [show 1=((1:Nat):Int)from rfl,xq,JO]
  refine⟨_,t.testBit i,rfl,?_,?_⟩
  ·unfold Gs
   simp only [eval,Gf,Ad2,Aj9,Ab,Ai6,Ag2,Gy,Gj,R.aa,Gx,zF,zn,j,R.af,zZ]
   cases t.testBit i<;>rfl
  ·by_cases e:t.testBit i=k9
   ·simp [e,Gf,b,a]
   ·simp [e]
def AF (e:n<=20){t:Nat}{a b:Nat}(d:a<n) (i:b<n) (h):
 execs F wh [y0 (.v (.int (n:Int))),y0 l,y0 (.v (.int (t:Int))),y0 (.v (.int (a:Int))),y0 (.v (.int (b:Int)))] h=
  .next [y0 (.v (.int (n:Int))),y0 l,y0 (.v (.int ((t ||| 2 ^ (a*n+b):Nat):Int))),y0 (.v (.int (a:Int))),y0 (.v (.int (b:Int)))] h:=by
 have g:=wc a n (by lia)
 have c:Gp .shl 1 _=y0 ((2 ^ (a*n+b):Nat):Int):=eY _ (by
  have:=Wf.place_lt d i
  have:=Xk e
  lia)
 have f:=xF t (2 ^ (a*n+b))
 rw [Int.natCast_add]at c
 simp only [wh,execs,exec,eval,Gf,Gj,R.aa,R.af,R.ay,O.bI,Gx,g,Zc,c,XG,f,W.eD,Gy]
theorem rZ (a:n<=20)(h): ∀ ps (t:Nat) r x y,Wf.dU n ps-> ∃i j,
 Gq (Gn [3,4] y9) (λY h=>execs F wh Y h) (ps.map pD++r) [y0 (.v (.int (n:Int))),y0 l,y0 (.v (.int (t:Int))),x,y] h=
  Gq (Gn [3,4] y9) (λY h=>execs F wh Y h) r [y0 (.v (.int (n:Int))),y0 l,y0 (.v (.int ((ps.foldl (λt p=>t ||| 2 ^ (p.1*n+p.2)) t:Nat):Int))),i,j] h
 | [],t,r,x,y,_=>⟨x,y,rfl⟩
 | p::ps,t,r,x,y,b=>by
  have c:=b p Aa3
  obtain⟨i,j,e⟩:=rZ a h ps (t ||| 2 ^ (p.1*n+p.2)) r (y0 (.v (.int p.1))) (y0 (.v (.int p.2))) λq d=>b q (Aa1 _ d)
  refine⟨i,j,?_⟩
  rw [Ab,Ai6,qa rfl (AF a c.1 c.2 h),e]
  rfl
def sg (k n) (ps) (l) (c:lz l=y0 (ps.map pD)) (h) (b:n<=20) (a:Wf.dU n ps):call prog (k+1) "gathered" [.v (.int (n:Int)),l] h= .ok (.v (.int ((Wf.cM n ps:Nat):Int))) h:=by
 rw [Ga rfl _ _ _ rfl]
 obtain⟨d,f,e⟩:=rZ b h ps 0 [] u0 u0 a
 rw [Ae4,jG]at e
 simp [XJ,c,R.af]
 rw [show (0)=((0:Nat):Int)from rfl,e]
 simp [Wf.cM]
def xG (k n) (ps) (h) (b:n<=20) (a:Wf.dU n ps):call prog (k+3) "gathered" [.v (.int (n:Int)),.bor (ps.map pD)] h= .ok (.v (.int ((Wf.cM n ps:Nat):Int))) h:=sg _ n ps _ rfl h b a
end M
local macro_rules | `(tactic| simp_all [$xs,*]) => `(tactic| simp only [M.exec, M.execs, M.Gs, M.eval, M.Gg, M.Gm, M.Gk, M.Gr, M.GD, M.Gf, M.Gj, M.Gy, M.aH, M.R.aa, M.R.ay, M.R.af, M.O.bI, M.O.eF, M.O.gb, M.W.eD, M.W.kH, M.W.bb, M.W.eM, M.W.gz, Ab, Ad1, Ai6, Ag2, Nat.reduceSub, Ad2, Aj9, M.GA, Bool.not_true, Bool.not_false, M.Gx, Ag4, M.Kk, M.Kn, M.GZ, M.GL, M.Kj, M.Kl, M.int?_int, M.Gb, M.Gu, M.Kf, M.Gz, M.Kb, M.G9, $xs,*])
namespace M
def jO (k s t:Nat) (h):call prog (k+1) "either" [.v (.int (s:Int)),.v (.int (t:Int))] h= .ok (.v (.int ((s ||| t:Nat):Int))) h:=by
 rw [Ga rfl _ _ _ rfl]
 simp_all [rC,XG,xF]
def De (k s t:Nat) (h):call prog (k+1) "common" [.v (.int (s:Int)),.v (.int (t:Int))] h= .ok (.v (.int ((s &&& t:Nat):Int))) h:=by
 rw [Ga rfl _ _ _ rfl]
 simp_all [x9,zn,xq]
def DZ (s t:Nat):G6 (s:Int) (-(t:Int)-1)=y0 ((s-(s &&& t):Nat):Int):=by
 have c: ¬(0<= -(t:Int)-1):=by lia
 have a: 0<=(s:Int):=by lia
 have b:(-(-(t:Int)-1)-1).toNat=t:=by lia
 rw [G6,if_pos a,if_neg c,b,Ag0]
def QX (k s t:Nat) (h):call prog (k+1) "without" [.v (.int (s:Int)),.v (.int (t:Int))] h= .ok (.v (.int ((s-(s &&& t):Nat):Int))) h:=by
 rw [Ga rfl _ _ _ rfl]
 simp_all [QV,zn,DZ]
def WS (q:eval F e Y h= .ok (.own xs) h):Gk F (.seq e) Y h= .ok xs h:=by
 rw [Gk,q];rfl
def oA (q:eval F e Y h= .ok (.v (.lst xs)) h):Gk F (.seq e) Y h= .ok xs h:=by
 rw [Gk,q];rfl
def kz (q:eval F e Y h= .ok (.v (.tup xs)) h):Gk F (.seq e) Y h= .ok xs h:=by
 rw [Gk,q];rfl
def JF (n t) (a:n<=20):((Wf.ao n t).map pD).length<=aY:=by
 refine Ac ?_ (tx a)
 simp only [Wf.ao,Aa]
 exact Ac (Ad6 _ _) (by simp)
def Hn (k n t:Nat) (h) (a:n<=20):call prog (k+4) "turned" [.v (.int (n:Int)),.v (.int (t:Int))] h= .ok (.v (.int ((Wf.da n t:Nat):Int))) h:=by
 rw [Ga rfl _ _ _ rfl]
 have c: ∀h,eval (k8 (k+3)) zz [y0 (.v (.int n)),y0 (.v (.int t))] h= .ok (.own ((Wf.mD (Wf.ao n t)).map pD)) h:=by
  intro h
  rw [zz,Xz (λd=>match d with | .tup [x,y]=> .tup [y,x] | d=>d) (WS ?_) (JF n t a)]
  ·simp [Wf.mD,pD,Function.comp_def]
  ·intro d b
   obtain⟨p,e,rfl⟩:=Ac1.mp b
   exact⟨_,rfl,_,rfl,rfl⟩
  ·simp_all [Js _ n t h a]
 simp_all [j6,c,xG k n _ h a (Wf.eK (Wf.aP n t))]
 rfl
def F8 (k n:Nat) (h) (b:n<=20):call prog (k+4) "same" [.v (.int (n:Int))] h= .ok (.v (.int ((Wf.cR n:Nat):Int))) h:=by
 rw [Ga rfl _ _ _ rfl]
 have c: ∀h,eval (k8 (k+3)) wM [y0 (.v (.int n))] h= .ok (.own (((Aa0 n).map λa=>(a,a)).map pD)) h:=by
  intro h
  rw [wM,Xz (λd=> .tup [d,d]) (wd (m:=n) (by simp_all []) (by lia)) (by simp;rw [Gi];lia)]
  ·simp [pD,Function.comp_def]
  ·intro d e
   exact⟨_,rfl,_,rfl,rfl⟩
 simp_all [yx,c,xG k n _ h b (Wf.dD n)]
 rfl
def K9 (k n:Nat) (h) (b:n<=20):call prog (k+1) "every" [.v (.int (n:Int))] h= .ok (.v (.int ((2 ^ (n*n)-1:Nat):Int))) h:=by
 rw [Ga rfl _ _ _ rfl]
 have c:=wc n n (by lia)
 have a:=eY (n*n) (by have:=Xk b;lia)
 have d:((2 ^ (n*n):Nat))-1=((2 ^ (n*n)-1:Nat):Int):=by
  have:=Aj (n*n)
  omega
 simp_all [ri,c,a,Wm,d]
def uE (x k:Nat) (a:x<2 ^ 64) (h:k<=1000000):Gp .shl (x:Int) (k:Int)=y0 ((x*2 ^ k:Nat):Int):=by
 have b: 0<=(k:Int)/\ k<=BP/\(x:Int).natAbs<iM:=by rw [GV,GB];exact⟨by lia,by lia,by simpa using a⟩
 show(if _ then _ else _)=_
 rw [if_pos b,Ag0,Int.natCast_mul,Int.natCast_pow]
 rfl
def Co {n o p t a b:Nat}(d:n<=20) (e:a<n) (k:b<n)(h):
 execs F Qr [y0 (.v (.int (n:Int))),y0 (.v (.int (o:Int))),y0 (.v (.int (p:Int))),y0 (.v (.int ((2 ^ n-1:Nat):Int))),y0 (.v (.int (t:Int))),y0 (.v (.int (a:Int))),y0 (.v (.int (b:Int))),x7] h=
  .next [y0 (.v (.int (n:Int))),y0 (.v (.int (o:Int))),y0 (.v (.int (p:Int))),y0 (.v (.int ((2 ^ n-1:Nat):Int))),y0 (.v (.int ((t ||| Wf.cx n p b*2 ^ (a*n):Nat):Int))),y0 (.v (.int (a:Int))),y0 (.v (.int (b:Int))),y0 (.v (.int ((Wf.cx n p b:Nat):Int)))] h:=by
 have g:=wc a n (by lia)
 have c:=wc b n (by lia)
 have i:(p / 2 ^ (b*n) &&& (2 ^ n-1))=Wf.cx n p b:=by rw [Aj4];rfl
 have j:=Ac (Ad3 (Ah1 e) (Aa5 n)) (Xk d)
 have f:=uE _ (a*n) (Ab0 (Wf.dt n p b) (Ac (Ac8 (by decide) d) (by decide))) (by lia)
 simp_all [Qr,g,c,zF,zn,xq,i,f,XG,xF]
theorem vF {n o p:Nat}(b:n<=20) (h): ∀ ps (t:Nat) x y z,Wf.dU n ps-> ∃J j i,
 Gq (Gn [5,6] y9) (λY h=>execs F Qr Y h) (ps.map pD) [y0 (.v (.int (n:Int))),y0 (.v (.int (o:Int))),y0 (.v (.int (p:Int))),y0 (.v (.int ((2 ^ n-1:Nat):Int))),y0 (.v (.int (t:Int))),x,y,z] h=
  .next [y0 (.v (.int (n:Int))),y0 (.v (.int (o:Int))),y0 (.v (.int (p:Int))),y0 (.v (.int ((2 ^ n-1:Nat):Int))),y0 (.v (.int ((ps.foldl (λt q=>t ||| Wf.cx n p q.2*2 ^ (q.1*n)) t:Nat):Int))),J,j,i] h
 | [],t,x,y,z,_=>⟨x,y,z,rfl⟩
 | q::ps,t,x,y,z,c=>by
  have a:=c q Aa3
  obtain⟨J,j,i,e⟩:=vF b h ps (t ||| Wf.cx n p q.2*2 ^ (q.1*n)) (y0 (.v (.int q.1))) (y0 (.v (.int q.2))) (y0 (.v (.int ((Wf.cx n p q.2:Nat))))) λq d=>c q (Aa1 _ d)
  refine⟨J,j,i,?_⟩
  rw [Ab,qa rfl (Co b a.1 a.2 h),e]
  rfl
def WQ (k n o p:Nat) (h) (a:n<=20):call prog (k+2) "joined" [.v (.int (n:Int)),.v (.int (o:Int)),.v (.int (p:Int))] h= .ok (.v (.int ((Wf.joinM n o p:Nat):Int))) h:=by
 rw [Ga rfl _ _ _ rfl]
 have b:=eY n (by lia)
 have c:((2 ^ n:Nat))-1=((2 ^ n-1:Nat):Int):=by
  have:=Aj n
  lia
 obtain⟨d,f,g,e⟩:=vF a h _ 0 u0 u0 u0 (Wf.aP n o)
 simp_all [tX,b,Wm,c,Js k n o h a]
 rw [show (0)=((0:Nat):Int)from rfl,e]
 simp_all []
 rfl
theorem zX (g:n<=20) (h): ∀ f r,2 ^ (n*n)-r<f->Wf.fL n t r-> ∃c,Wf.fO n t c ∧
 GN (λY h=>Gs (k8 (k+2)) Zs Y h) (λY h=>execs (k8 (k+2)) Xr Y h) f [y0 (.v (.int (n:Int))),y0 (.v (.int (t:Int))),y0 (.v (.int (r:Int))),y0 (.v (.int ((r ||| Wf.joinM n r r:Nat):Int)))] h=
  .next [y0 (.v (.int (n:Int))),y0 (.v (.int (t:Int))),y0 (.v (.int (c:Int))),y0 (.v (.int (c:Int)))] h
 | 0,r,i,_=>absurd i (Ah9 _)
 | f+1,r,i,d=>by
  have p: ∀(a b:Nat),Gs (k8 (k+2)) Zs [y0 (.v (.int n)),y0 (.v (.int t)),y0 (.v (.int a)),y0 (.v (.int b))] h= .ok (!u9 (b=a)) h:=by
   intro a b
   simp [Gs,Zs,Gf,GM]
   by_cases q:b=a
   ·simp [q]
   ·have: ¬(b=(a:Int)):=by omega
    simp [q,this]
  rw [GN,p,R.ay]
  by_cases e:r ||| Wf.joinM n r r=r
  ·refine⟨r,d.done e,?_⟩
   simp only [e,decide_true,Bool.not_true]
  ·have s:=d.grow e
   have l:=d.next.lt
   obtain⟨c,m,j⟩:=zX g h f (r ||| Wf.joinM n r r) (by omega) d.next
   refine⟨c,m,?_⟩
   simp only [e,decide_false,Bool.not_false]
   have o:execs (k8 (k+2)) Xr [y0 (.v (.int n)),y0 (.v (.int t)),y0 (.v (.int r)),y0 (.v (.int ((r ||| Wf.joinM n r r:Nat))))] h=
    .next [y0 (.v (.int n)),y0 (.v (.int t)),y0 (.v (.int ((r ||| Wf.joinM n r r:Nat)))),y0 (.v (.int (((r ||| Wf.joinM n r r) ||| Wf.joinM n (r ||| Wf.joinM n r r) (r ||| Wf.joinM n r r):Nat))))] h:=by
    simp_all [Xr,WQ k n _ _ h g,jO (k+1) _ _ h]
   simp only [o]
   exact j
def DH (k n t) (h) (a:n<=4) (c:t<2 ^ (n*n)): ∃r,Wf.fO n t r/\call prog (k+3) "closed" [.v (.int (n:Int)),.v (.int (t:Int))] h= .ok (.v (.int (r:Int))) h:=by
 rw [Ga rfl _ _ _ rfl]
 have d:2 ^ (n*n)-t<100000:=by
  have:n*n<=16:=Ad3 a a
  have:2 ^ _<=2 ^ 16:=Ac8 (by decide) this
  lia
 obtain⟨r,e,b⟩:=zX (by lia) h 100000 t d (Wf.fL.start c)
 refine⟨r,e,?_⟩
 simp [Gs]at b
 simp_all [uw,WQ k n _ _ h (by lia),jO _ _ _ h]
 rw [b]
 simp_all []
def za (e:exec F s Y h= .next Y1 h1):execs F (.cons s ss) Y h=execs F ss Y1 h1:=by rw [execs,e,O.bI]
def fx (e:exec F s Y h= .next Y1 h1) (g:GC n (execs F ss Y1 h1)=r):GC n (execs F (.cons s ss) Y h)=r:=by rw [za e];exact g
def jb (e:exec F s Y h= .ret w h1):execs F (.cons s ss) Y h= .ret w h1:=by rw [execs,e,O.eF]
def Zr (e:Gs F c Y h= .ok k9 h1):exec F (.iff c a b) Y h=execs F a Y h1:=by rw [exec,e,R.ay]
def wY (e:Gs F c Y h= .ok y9 h1):exec F (.iff c a b) Y h=execs F b Y h1:=by rw [exec,e,R.ay]
def Jm (a:GD e=u0) (q:eval F e Y h= .ok (.own xs) h1):exec F (.ret e) Y h= .ret (.own xs) h1:=by
 rw [exec,a];simp [q,R.ay]
def zc (a:GD e=u0) (q:eval F e Y h= .ok (.v d) h1):exec F (.ret e) Y h= .ret (.v d) h1:=by
 rw [exec,a];simp [q,R.ay]
def Za (e:Gs F c Y h= .ok y9 h):execs F (.cons (.iff c a .nil) ss) Y h=execs F ss Y h:=za (wY e)
def zk (e:Gs F c Y h= .ok k9 h) (r:exec F s Y h= .ret w h):execs F (.cons (.iff c (.cons s .nil) .nil) ss) Y h= .ret w h:=jb ((Zr e).trans (jb r))
def Xa :execs F (.cons s .nil) Y h=exec F s Y h:=by
 rw [execs]
 cases exec F s Y h<;>rfl
abbrev ag (l:List Nat):List D:=l.map λ(x:Nat)=> .int (x:Int)
abbrev Qc (n:Nat) (ks ts:List Nat):D:= .tup [.int (n:Int),.tup (ag ks),.tup (ag ts)]
structure ED (n K T:Nat) (ks ts:List Nat):Prop where
 n4:n<=4
 lk:ks.length=K
 lt:ts.length=T
 bk: ∀x∈ks,x<2 ^ n
 bt: ∀x∈ts,x<2 ^ (n*n)
def Xh (xs:List α) (i) (h:i<xs.length):aX xs (i:Int)=xs[i]? :=by
 have:(i)< xs.length:=by omega
 simp [aX,dM,this]
def pz (l) (i:Nat) (h:i<l.length):aX (ag l) (i:Int)=y0 (.int ((l.getD i 0:Nat):Int)):=by
 rw [Xh _ _ (by simp_all),Ac4,Aa4 h,Ab5,Aa4 h]
 rfl
def xz (n t):(Wf.ao n t).length<=n*n:=by
 unfold Wf.ao
 rw [Aa]
 exact Ac (Ad6 _ _) (by simp)
def xI (x y:D):aX [x,y] 0=y0 x:=rfl
def wB (x y:D):aX [x,y] 1=y0 y:=rfl
def BA (x:D):aX [x] 0=y0 x:=rfl
def Jo (x) (r:List α):aX (x::r) 0=y0 x:=by
 have: 0< (x::r).length:=by simp
 simp [aX,dM,this]
def xt (x y z:D):aX [x,y,z] 0=y0 x:=rfl
mutual
theorem zC: ∀ {d:D},Gc d=k9->b0 d d=k9
 | .au,_=>rfl
 | .bl b,_=>by simp
 | .int i,_=>by simp
 | .str s,_=>by simp
 | .tup xs,h=>by
  rw [b0];exact GF (by simpa [Gc]using h)
 | .lst xs,h=>by
  rw [b0];exact GF (by simpa [Gc]using h)
 | .ref _,h=>by simp at h
 | .exc _ _,h=>by simp at h
theorem GF: ∀ {xs:List D},Gd xs=k9->GJ xs xs=k9
 | [],_=>rfl
 | x::xs,h=>by
  have h':Gc x=k9/\Gd xs=true:=by simpa [Gd]using h
  rw [GJ,zC h'.1,GF h'.2];rfl
end
mutual
theorem zM {h:AH}: ∀ {d:D},Gc d=k9->res h d=d
 | .au,_=>rfl
 | .bl b,_=>rfl
 | .int i,_=>rfl
 | .str s,_=>rfl
 | .tup xs,q=>by
  rw [res,GH (by simpa [Gc]using q)]
 | .lst xs,q=>by
  rw [res,GH (by simpa [Gc]using q)]
 | .ref _,q=>by simp at q
 | .exc _ _,q=>by simp at q
theorem GH {h:AH}: ∀ {xs:List D},Gd xs=k9->GS h xs=xs
 | [],_=>rfl
 | x::xs,q=>by
  have h':Gc x=k9/\Gd xs=true:=by simpa [Gd]using q
  rw [GS,zM h'.1,GH h'.2]
end
theorem Jl (f) (a: ∀x,Gc (f x)=k9): ∀l:List α,Gd (l.map f)=k9
 | []=>rfl
 | x::l=>by simp [a x,Jl f a l]
theorem QN (f) (k) (a: ∀x,dep (f x)<=k): ∀l:List α,GK (l.map f)<=k
 | []=>Ah2 _
 | x::l=>by
  have c:=a x
  have b:=QN f k a l
  exact Nat.max_le.mpr ⟨c,b⟩
theorem XM: ∀l:List Nat,Kr (ag l)=y0 ((l.sum:Nat):Int)
 | []=>rfl
 | x::l=>by
  have:=XM l
  simp only [Ab,Kr]at this ⊢
  rw [this,Ai0]
  simp
theorem vL: ∀bs:List Bool,Km (bs.map .bl)=y0 bs
 | []=>rfl
 | b::bs=>by simp [Km,vL bs]
def qx {bs:List Bool}(q:eval F e Y h= .ok (.own (bs.map .bl)) h):eval F (.bi .all (.cons e .nil)) Y h= .ok (.v (.bl (bs.all id))) h:=by
 rw [eval,Gg,q]
 simp [vL,R.af]
def my (p) (l:List α):(l.map p).all id=l.all p:=by
 rw [Am1];rfl
def Le (d) (a:Gc d=k9) (b:dep d<150) (h):Gw .ne (.v d) (.v d) h=y0 false:=by
 show(if GM (res h d) (res h d)then y0 (!b0 (res h d) (res h d))else u0)=_
 rw [zM a,if_pos (by simp_all),zC a];rfl
def L4 (d) (a:Gc d=k9) (b:dep d<150) (h):Gw .eq (.v d) (.v d) h=y0 true:=by
 show(if GM (res h d) (res h d)then y0 (b0 (res h d) (res h d))else u0)=_
 rw [zM a,if_pos (by simp_all),zC a]
def qg (g f) (l:List α) (m:Gk F it Y h= .ok (l.map g) h) (n:l.length<=1000) (b: ∀x∈l,∃w,eval F elt (y0 (.v (g x))::az.map λj=>Gf Y j) h= .ok w h/\w.d=y0 (f x)):eval F (.comp [0] k9 1 az it y9 (.bl k9) elt) Y h= .ok (.own (l.map f)) h:=by
 rw [eval,m,R.aa,if_pos (by rw [Gi,Aa];lia)]
 have i: ∀ step (l:List α),(∀ x∈l,step (g x) h= .ok (y0 (f x)) h)->Gv step (l.map g) h= .ok (l.map f) h:=λstep l=>by
  induction l with
  | nil=>intro _;rfl
  | cons x l d=>
   intro a
   rw [Ab,Gv,a x Aa3]
   simp [d λy c=>a y (Aa1 _ c),Ab]
 rw [i _ l λx a=> ?_]
 ·rfl
 ·obtain⟨w,e,k⟩:=b x a
  show(eval F elt (y0 _::az.map λj=>Gf Y j) h).bind _=_
  rw [e]
  simp [k,R.af]
def uD {n:Nat}(f) (g:eval F e Y h= .ok (.v (.int (n:Int))) h) (m:n<=1000)
 (a: ∀i,i<n-> ∃w,eval F elt (y0 (.v (.int (i:Int)))::az.map λj=>Gf Y j) h= .ok w h/\w.d=y0 (f i)):eval F (.comp [0] k9 1 az (.av e) y9 (.bl k9) elt) Y h= .ok (.own ((Aa0 n).map f)) h:=by
 rw [Xz (λd=>match d with | .int i=>f i.toNat | d=>d) (wd g (by lia)) (by simp;rw [Gi];lia)]
 ·simp [Function.comp_def]
 ·intro d c
  obtain⟨i,l,rfl⟩:=gF _ c
  obtain⟨w,k,b⟩:=a i l
  exact⟨_,rfl,w,k,by simpa using b⟩
def jp (i j) (h):Gw .eq (.v (.int i)) (.v (.int j)) h=y0 (u9 (i=j)):=by
 rfl
def xv (s t) (h):Gw .eq (.v (.str s)) (.v (.str t)) h=y0 (s==t):=by simp [GM]
def DD (F) (Y) (h):Gg F .nil Y h= .ok [] h:=rfl
def uo (a:eval F e Y h= .ok w h1) (b:Gg F es Y h1= .ok ws h2):Gg F (.cons e es) Y h= .ok (w::ws) h2:=by
 rw [Gg,a,R.aa,b];rfl
def vi (a:Gg F es Y h= .ok ws h1) (b:F.call f (ws.map W.arg) h1= .ok w h2):eval F (.call f es) Y h= .ok w h2:=by
 rw [eval,a,R.aa,b]
def se (a:eval F e Y h= .ok w h1) (b:w.d=y0 d):exec F (.ak i e) Y h= .next (Gy Y i (.v d)) h1:=by
 rw [exec,a,R.ay]
 simp [b]
def QR (x y z:D):aX [x,y,z] 2=y0 z:=rfl
def pm (o:List Nat) (a:Nat):Nat:=o.getD a 0
structure Od (n:Nat) (o:List Nat):Prop where
 p:o.Perm (Aa0 n)
section
variable {n:Nat}{o:List Nat}
def Od.len (h:Od n o):o.length=n:=by rw [h.p.length_eq,Aj1]
def zu (h):pm o a=o[a]:=by
 rw [pm,Ab5,Aa4 h];rfl
def Od.lt (h:Od n o)(c:a<n):pm o a<n:=by
 have b:a<o.length:=by rw [h.len];exact c
 rw [zu b]
 exact Ab3.mp (h.p.mem_iff.mp (Aj6 b))
def Od.inj (h:Od n o)(e:a<n) (f:b<n):pm o a=pm o b↔a=b:=by
 have c:a<o.length:=by rw [h.len];exact e
 have d:b<o.length:=by rw [h.len];exact f
 rw [zu c,zu d]
 exact List.getElem_inj (h.p.nodup_iff.mpr Aj5)
def Od.cO (h:Od n o)(c:y<n): ∃a,a<n/\pm o a=y:=by
 obtain⟨a,b,e⟩:=List.getElem_of_mem (h.p.mem_iff.mpr (Ab3.mpr c))
 exact⟨a,by rw [← h.len];exact b,by rw [zu b];exact e⟩
theorem Od.map (h:Od n o):o=(Aa0 n).map (pm o):=by
 refine Al9 (by simp [h.len]) λi a b=> ?_
 rw [Ai5,Ai9,zu a]
end
def Er (h:m.testBit p=y9):m+2 ^ p=m ||| 2 ^ p:=by
 have a:(m ||| 2 ^ p) &&& 2 ^ p=2 ^ p:=Af0 λk=>by
  rw [Ak2,Ag9]
  cases (2 ^ p).testBit k<;>simp
 have b:(m ||| 2 ^ p)-(_ &&& 2 ^ p)=m:=Af0 λk=>by
  rw [Wf.bu,Ag9,Ak1]
  by_cases q:p=k
  ·subst q;simp [h]
  ·simp [q]
 rw [a]at b
 have:2 ^ p<=m ||| 2 ^ p:=by
  have:= @Nat.and_le_left (m ||| 2 ^ p) (2 ^ p)
  rw [a]at this;exact this
 omega
theorem JN (g:Nat->Bool) (q:Nat->Nat): ∀l:List Nat,(∀ a∈l,∀b∈l,q a=q b->a=b)->l.Nodup-> ∀k,(l.map λa=>(g a).toNat*2 ^ q a).sum.testBit k=l.any λa=>g a&&u9 (q a=k)
 | [],_,_,k=>by simp
 | a::l,h,hn,k=>by
  have c:=Ag1.mp hn
  have d:=JN g q l (λx i y m=>h x (Aa1 _ i) y (Aa1 _ m)) c.2
  rw [Ab,Ai0,Af,←d k]
  cases n:g a
  ·simp
  ·have j:((l.map λa=>(g a).toNat*2 ^ q a).sum).testBit (q a)=false:=by
    rw [d,Ag]
    intro b e f
    rw [Aa6,decide_eq_true_eq]at f
    have:=h b (Aa1 _ e) a Aa3 f.2
    exact c.1 (this▸e)
   rw [Bool.toNat_true,Nat.one_mul,An7,Er j,Ag9,Ak1,Bool.or_comm,Ai2]
def kM (n:Nat) (o:List Nat) (x:Nat):Nat:=((Aa0 n).map λa=>(x.testBit a).toNat*2 ^ pm o a).sum
section
variable {n:Nat}{o:List Nat}(h:Od n o)
include h
def tY (x k):(kM n o x).testBit k=(Aa0 n).any λa=>x.testBit a&&u9 (pm o a=k):=
 JN _ _ _ (λa c b d e=>(h.inj (Ab3.mp c) (Ab3.mp d)).mp e) Aj5 k
def lQ (x)(c:a<n):(kM n o x).testBit (pm o a)=x.testBit a:=by
 rw [tY h,Ad4,Ae5]
 constructor
 ·rintro ⟨b,d,e⟩
  rw [Aa6,decide_eq_true_eq,h.inj (Ab3.mp d) c]at e
  exact e.2▸e.1
 ·exact λe=>⟨a,Ab3.mpr c,by simp [e]⟩
def mm (x):kM n o x<2 ^ n:=by
 refine Ai3 _ λi c=> ?_
 rw [tY h,Ag]
 intro a b e
 have:=h.lt (Ab3.mp b)
 lia
end
def tP (n:Nat) (o:List Nat) (p:Nat×Nat):Nat:=pm o p.1*n+pm o p.2
def qF {n a b c d:Nat}(i:b<n) (h:d<n) (e:a*n+b=c*n+d):a=c/\b=d:=by
 have g:=Wf.aD (a:=a) i
 have f:=Wf.aE (a:=a) i
 rw [e]at g f
 rw [Wf.aD h]at g
 rw [Wf.aE h]at f
 exact⟨g.symm,f.symm⟩
def tK (n:Nat) (o:List Nat) (t:Nat):Nat:=((Aa0 (n*n)).map λk=>(t.testBit k).toNat*2 ^ tP n o (k / n,k % n)).sum
section
variable {n:Nat}{o p:List Nat}(h:Od n o)
include h
def vG (t k):(tK n o t).testBit k=(Aa0 (n*n)).any λj=>t.testBit j&&u9 (tP n o (j / n,j % n)=k):=
 JN _ _ _ (λa c b d e=>by
  have c:=Ab3.mp c
  have d:=Ab3.mp d
  have m:=Wf.aR c
  have a2:=Wf.aI c
  have l:=Wf.aR d
  have i:=Wf.aI d
  obtain⟨f,g⟩:=qF (h.lt a2) (h.lt i) e
  rw [h.inj m l]at f
  rw [h.inj a2 i]at g
  rw [← Wf.aS (k:=a),←Wf.aS (k:=b),f,g]) Aj5 k
def lh (t)(f:a<n) (d:b<n):(tK n o t).testBit (pm o a*n+pm o b)=t.testBit (a*n+b):=by
 rw [vG h,Ad4,Ae5]
 constructor
 ·rintro ⟨j,c,e⟩
  have c:=Ab3.mp c
  rw [Aa6,decide_eq_true_eq]at e
  obtain⟨g,i⟩:=qF (h.lt (Wf.aI c)) (h.lt d) e.2
  rw [h.inj (Wf.aR c) f]at g
  rw [h.inj (Wf.aI c) d]at i
  rw [← g,←i,Wf.aS];exact e.1
 ·exact λe=>⟨a*n+b,Ab3.mpr (Wf.place_lt f d),by simp [e,tP,Wf.aD d,Wf.aE d]⟩
def ng (t):tK n o t<2 ^ (n*n):=by
 refine Ai3 _ λi c=> ?_
 rw [vG h,Ag]
 intro j a e
 have a:=Ab3.mp a
 rw [Aa6,decide_eq_true_eq]at e
 have:=Wf.place_lt (h.lt (Wf.aR a)) (h.lt (Wf.aI a))
 have b:pm o (j / n)*n+pm o (j % n)=i:=e.2
 lia
def oa (d:v<2 ^ n) (e: ∀a,a<n->v.testBit (pm o a)=x.testBit a):v=kM n o x:=by
 refine Af0 λk=> ?_
 by_cases b:k<n
 ·obtain⟨a,c,rfl⟩:=h.cO b
  rw [e a c,lQ h x c]
 ·rw [Ae3 (Ab0 d (Ac8 (by decide) (Al6.mp b))),Ae3 (Ab0 (mm h x) (Ac8 (by decide) (Al6.mp b)))]
def om (g:v<2 ^ (n*n)) (e: ∀a b,a<n->b<n->v.testBit (pm o a*n+pm o b)=x.testBit (a*n+b)):v=tK n o x:=by
 refine Af0 λk=> ?_
 by_cases c:k<n*n
 ·obtain⟨a,d,i⟩:=h.cO (Wf.aR c)
  obtain⟨b,f,j⟩:=h.cO (Wf.aI c)
  have:=e a b d f
  rw [← lh h x d f,i,j,Wf.aS]at this
  exact this
 ·rw [Ae3 (Ab0 g (Ac8 (by decide) (Al6.mp c))),Ae3 (Ab0 (ng h x) (Ac8 (by decide) (Al6.mp c)))]
def Od.then (q:Od n p):Od n (p.map (pm o)):=⟨(q.p.map (pm o)).trans (h.map▸h.p)⟩
theorem J5 (q:Od n p)(b:a<n):pm (p.map (pm o)) a=pm o (pm p a):=by
 have c:a<p.length:=by rw [q.len];exact b
 rw [zu (by simp_all),Ai5,zu c]
def As (q:Od n p) (x):kM n o (kM n p x)=kM n (p.map (pm o)) x:=oa (h.then q) (mm h _) λa b=>by
 rw [J5 h q b,lQ h _ (q.lt b),lQ q x b]
def C9 (q:Od n p) (x):tK n o (tK n p x)=tK n (p.map (pm o)) x:=om (h.then q) (ng h _) λa b c d=>by
 rw [J5 h q c,J5 h q d,lh h _ (q.lt c) (q.lt d),lh q x c d]
def Od.inv (d:p.length=n) (c: ∀a,a<n->pm p (pm o a)=a):Od n p:=⟨by
 have e:p=(Aa0 n).map (pm p):=Al9 (by simp [d]) λi f g=>by rw [Ai5,Ai9,zu f]
 have j:(Aa0 n).map _=(Aa0 n).map (pm p):=rfl
 rw [e]
 refine((h.p.symm).map _).trans ?_
 rw [h.map,Ac5]
 have:(Aa0 n).map (pm p∘pm o)=Aa0 n:=by
  refine(Ad7 λa b=> ?_).trans (List.map_id _)
  exact c a (Ab3.mp b)
 rw [this]⟩
def AG (q:Od n p) (d: ∀a,a<n->pm p (pm o a)=a)(e:x<2 ^ n):kM n p (kM n o x)=x:=(oa q e λb f=>by
 obtain⟨a,c,rfl⟩:=h.cO f
 rw [d a c,lQ h x c]).symm
def A5 (q:Od n p) (f: ∀a,a<n->pm p (pm o a)=a)(i:x<2 ^ (n*n)):tK n p (tK n o x)=x:=(om q i λb c k j=>by
 obtain⟨a,e,rfl⟩:=h.cO k
 obtain⟨d,g,rfl⟩:=h.cO j
 rw [f a e,f d g,lh h x e g]).symm
end
def Wt:D->Bool
 | .int _=>k9
 | _=>y9
def We (d:D) (e:Int):Bool:=match d with
 | .int i=>u9 (0<=i)&&u9 (i<e)
 | _=>y9
def DU (k) (d) (h) (a:Gc d=k9):call prog (k+1) "is_whole" [.v d] h= .ok (.v (.bl (Wt d))) h:=by
 cases d<;>first | exact Gb _ _ _ rfl | cases a
def qm (k) (d) (e) (h) (a:Gc d=k9):call prog (k+2) "is_below" [.v d,.v (.int e)] h= .ok (.v (.bl (We d e))) h:=by
 rw [Ga rfl _ _ _ rfl]
 have b:=DU k d h a
 cases d with
 | int i=>
  simp [b,wz,Wt,We,Gf]
  by_cases c:0<=i<;>simp [c]
 | _=>first | (simp [b,wz,Wt,We,Gf]) | (simp at a)
def W5 (g f) (l:List α) (p:Gk F it Y h= .ok (l.map g) h) (q:l.length<=1000) (b: ∀x∈l,∃i w,Gn tg one (g x) (Aa9 k u0++az.map λj=>Gf Y j)=y0 i/\eval F elt i h= .ok w h/\w.d=y0 (f x)):eval F (.comp tg one k az it y9 (.bl k9) elt) Y h= .ok (.own (l.map f)) h:=by
 rw [eval,p,R.aa,if_pos (by rw [Gi,Aa];lia)]
 have n: ∀ step (l:List α),(∀ x∈l,step (g x) h= .ok (y0 (f x)) h)->Gv step (l.map g) h= .ok (l.map f) h:=λstep l=>by
  induction l with
  | nil=>intro _;rfl
  | cons x l e=>
   intro a
   rw [Ab,Gv,a x Aa3]
   simp [e λy d=>a y (Aa1 _ d),Ab]
 rw [n _ l λx a=> ?_]
 ·rfl
 ·obtain⟨i,w,c,m,o⟩:=b x a
  simp only [c]
  show((eval F elt i h).bind _)=_
  rw [m]
  simp [o,R.af]
def jQ {n:Nat}(b) (f) (s:eval F e Y h= .ok (.v (.int (n:Int))) h) (v:n<=1000)
 (r: ∀i,i<n->Gs F c (y0 (.v (.int (i:Int)))::az.map λj=>Gf Y j) h= .ok (b i) h/\ ∃w,eval F elt (y0 (.v (.int (i:Int)))::az.map λj=>Gf Y j) h= .ok w h/\w.d=y0 (f i)):eval F (.comp [0] k9 1 az (.av e) k9 c elt) Y h= .ok (.own (((Aa0 n).filter b).map f)) h:=by
 rw [WZ (λd=>match d with | .int i=>if b i.toNat then y0 (f i.toNat)else u0 | _=>u0) (wd s (by lia)) (by simp;rw [Gi];lia)]
 ·congr 2
  have e: ∀l:List Nat,((l.map λ(i:Nat)=>D.int i).filterMap λd=>match d with | .int i=>if b i.toNat then y0 (f i.toNat)else u0 | _=>u0)=(l.filter b).map f:=λl=>by
   induction l with
   | nil=>rfl
   | cons x u o=>by_cases p:b x=k9<;>simp [p,o]
  exact e _
 ·intro d g
  obtain⟨i,t,rfl⟩:=gF _ g
  obtain⟨m,w,a,k⟩:=r i t
  refine⟨_,b i,rfl,m,?_⟩
  by_cases q:b i=k9
  ·rw [if_pos q];exact⟨w,_,a,k,by simp [q]⟩
  ·rw [if_neg q];simp [q]
theorem vW: ∀(xs i),xs.Nodup->(∀ x∈xs,x∉i)->Kd i xs=xs.length
 | [],_,_,_=>rfl
 | x::xs,i,hn,b=>by
  have hn:=Ag1.mp hn
  have c:i.any (· ==x)=false:=by
   rw [Ag]
   intro y a e
   exact b x Aa3 (eq_of_beq e▸a)
  rw [Kd,c,vW xs _ hn.2 λy a=> ?_,Ab8]
  ·simp;omega
  ·rw [Ae9,Ae8]
   rintro (h | h)
   ·exact b y (Aa1 _ a) h
   ·exact hn.1 (h▸a)
theorem zD: ∀l:List Nat,GG (ag l)=y0 (l.map λ(x:Nat)=>(x:Int))
 | []=>rfl
 | x::l=>by
  have:=zD l
  simp only [Ab,GG]at this ⊢
  rw [this];rfl
def iU {l:List Nat}:(l.map λ(x:Nat)=>(x:Int)).Nodup↔l.Nodup:=by
 rw [List.Nodup,List.pairwise_map,List.Nodup]
 exact⟨λh=>h.imp λ{a b} q e=>q (by rw [e]),λh=>h.imp λ{a b} q e=>q (by lia)⟩
theorem QJ: ∀ {xs},Gd xs=k9-> ∀x∈xs,Gc x=k9
 | x::xs,h,y,a=>by
  have b:=by simpa [Gd]using h
  rcases Ab9.mp a with rfl | a
  ·exact b.1
  ·exact QJ b.2 y a
def m1 (l):Gd (ag l)=true:=Jl _ (λ_=>rfl) l
def nN (l):GK (ag l)<=0:=QN _ 0 (λ_=>Aa5 _) l
def W1 (i j) (h):Gw .ne (.v (.int i)) (.v (.int j)) h=y0 (!u9 (i=j)):=by
 rfl
def By (c:Gd xs=k9) (a:xs.length<=1000) (h):eval (k8 (k+2)) (.bi .all (.a Xi)) [y0 (.v (.tup xs)),y0 (.v (.int (n:Int)))] h= .ok (.v (.bl (xs.all (We · n)))) h:=by
 rw [← my]
 refine qx ?_
 rw [Ac5,Xi]
 have e:=qg (F:=(k8 (k+2))) (az:= [1]) (it:= .seq .v0) (elt:= .call "is_below" (.b .v0 .v1)) (Y:= [some (.v _),some (.v (.int n))]) (h:=h) id (fun x=> .bl (We x n)) xs (by rw [List.map_id];exact kz rfl) a fun x b=>⟨.v _,by
  have:=qm k x n h (QJ c x b)
  simp_all [id,this],rfl⟩
 exact e
def K4 (k)(q:Od n o) (i:n<=4) (h):call prog (k+3) "is_renaming" [.v (.tup (ag o)),.v (.int (n:Int))] h= .ok (.v (.bl true)) h:=by
 rw [Ga rfl _ _ _ rfl]
 have d:(ag o).length=n:=by rw [Aa,q.len]
 have f:(ag o).all (We · n)=true:=by
  rw [Am1,Ad8]
  intro x c
  have:=Ab3.mp (q.p.mem_iff.mp c)
  simp [We,this]
 have a:=By (k:=k) (n:=n) (m1 o) (by omega) h
 rw [f]at a
 have g:Kd [] (o.map λ(x:Nat)=> x)=n:=by
  rw [vW _ _ (iU.mpr (q.p.nodup_iff.mpr Aj5)) (λ_ _=>Ad5),Aa,q.len]
 have b:(o.map λ(x:Nat)=>(x:Int)).length<1000:=by rw [Aa,q.len];omega
 simp only [Ww]
 rw [Za (by simp_all [ZZ,Ty.dr,Jh,d,W1,decide_true]),jb (zc rfl ?_)]
 ·exact Gb _ _ _ rfl
 ·rw [eval]
  have a:eval (k8 _) _ (An y0 [W.v _,W.v _]++Aa9 (2-2) u0) h=_:=a
  rw [a]
  have e:(W.v (D.tup (ag o))).dG =y0 _:=rfl
  simp_all [e,zD,b,if_true,g,jp,decide_true]
noncomputable def kF (x:Nat):Nat->List Nat->Nat->Nat
 | _,[],v=>v
 | i,p::ps,v=>kF x (i+1) ps (if x.testBit i then v ||| 2 ^ p else v)
theorem oo (x k): ∀ ps i v,(kF x i ps v).testBit k=k9↔(v.testBit k=k9\/ ∃j,ps[j]? =y0 k/\x.testBit (i+j)=k9)
 | [],i,v=>by simp [kF]
 | p::ps,i,v=>by
  rw [kF,oo x k ps]
  have e:(if x.testBit i=k9 then v ||| 2 ^ p else v).testBit k=k9↔(v.testBit k=k9\/(p=k/\x.testBit i=k9)):=by
   by_cases q:x.testBit i=k9
   ·simp [q,Ak1]
   ·simp [q]
  rw [e,or_assoc]
  refine or_congr Iff.rfl ⟨?_,?_⟩
  ·rintro (⟨b,a⟩ | ⟨j,b,a⟩)
   ·exact⟨0,by simp [b],by simpa using a⟩
   ·exact⟨j+1,by simpa using b,by rw [show i+(j+1)=i+1+j by omega];exact a⟩
  ·rintro ⟨j,b,a⟩
   cases j with
   | zero=>exact .inl ⟨by simpa using b,by simpa using a⟩
   | succ j=>exact .inr ⟨j,by simpa using b,by rw [show i+1+j=i+(j+1)by omega];exact a⟩
def rE (h:a<o.length):o[a]? =y0 (pm o a):=by
 rw [zu h,Aa4 h]
def DY (q:Od n o) (x):kF x 0 o 0=kM n o x:=by
 have f: ∀k,(0:Nat).testBit k=k9↔False:=λk=>by simp
 refine oa q (Ai3 _ λk h=> ?_) λa d=> ?_
 ·refine eq_false_of_ne_true λe=> ?_
  rw [oo,f,false_or]at e
  obtain⟨j,b,c⟩:=e
  have:=Ab3.mp (q.p.mem_iff.mp (Aj8 b))
  lia
 ·rw [Ad4,oo,f,false_or]
  constructor
  ·rintro ⟨j,b,c⟩
   have g:=(Ac0.mp b).1
   rw [rE g,Ae2.injEq,q.inj (by rw [← q.len];exact g) d]at b
   rw [Af9,b]at c
   exact c
  ·exact λe=>⟨a,rE (by rw [q.len];exact d),by rw [Af9];exact e⟩
theorem yF {x:Nat}(h): ∀ c (i v:Nat) a b,(∀ p∈c,p<=1000)-> ∃J j,
 Gq (Gn [3,4] y9) (λY h=>execs F Qh Y h) (GR i (ag c)) [y0 (.v (.int (x:Int))),y0 w,y0 (.v (.int (v:Int))),a,b] h= .next [y0 (.v (.int (x:Int))),y0 w,y0 (.v (.int ((kF x i c v:Nat):Int))),J,j] h
 | [],i,v,a,b,_=>⟨a,b,rfl⟩
 | p::c,i,v,a,b,f=>by
  obtain⟨J,j,e⟩:=yF h c (i+1) (if x.testBit i then v ||| 2 ^ p else v) (y0 (.v (.int i))) (y0 (.v (.int p))) λq m=>f q (Aa1 _ m)
  refine⟨J,j,?_⟩
  have g:G6 ((x / 2 ^ i:Nat)) 1=y0 (((x.testBit i).toNat:Nat):Int):=by
   rw [show 1=((1:Nat):Int)from rfl,xq,JO]
  have k:=eY p (by have:=f p Aa3;omega)
  have l:=xF v (2 ^ p)
  have d:Gs F (.bin .band (.bin .shr .v0 .v3) (.int 1)) [y0 (.v (.int x)),y0 w,y0 (.v (.int v)),y0 (.v (.int i)),y0 (.v (.int p))] h= .ok (x.testBit i) h:=by
   unfold Gs
   simp only [eval,Gf,Gj,R.aa,Gx,zF,zn,g,R.af,zZ]
   cases x.testBit i<;>rfl
  rw [show GR i (ag (p::c))= .tup [.int i,.int p]::GR (i+1) (ag c)from rfl]
  rw [qa (Y1:= [y0 (.v (.int x)),y0 w,y0 (.v (.int v)),y0 (.v (.int i)),y0 (.v (.int p))]) rfl ?_,e]
  ·rfl
  ·simp only [Qh]
   rw [Xa]
   by_cases q:x.testBit i=k9
   ·rw [q]at d
    rw [Zr d,if_pos q]
    simp_all [k,XG,l]
   ·rw [eq_false_of_ne_true q]at d
    rw [wY d,if_neg q]
    rfl
def Od.small (q:Od n o) (b:n<=4): ∀p∈o,p<=1000:=λp a=>by
 have:=Ab3.mp (q.p.mem_iff.mp a)
 lia
def Av (k)(q:Od n o) (a:n<=4) (x:Nat) (h):call prog (k+1) "renamed_kind" [.v (.int (x:Int)),.v (.tup (ag o))] h= .ok (.v (.int ((kM n o x:Nat):Int))) h:=by
 obtain⟨c,b,e⟩:=yF h o 0 0 u0 u0 (q.small a)
 rw [DY q]at e
 refine fx (by simp_all [];rfl) ?_
 rw [za (by
  show R.cY (.ok _ h) _=_
  rw [R.ay];exact e)]
 simp_all []
def K6 (q:Od n o) (t):Wf.cM n ((Wf.ao n t).map λp=>(pm o p.1,pm o p.2))=tK n o t:=by
 have c:Wf.dU n ((Wf.ao n t).map λp=>(pm o p.1,pm o p.2)):=λr g=>by
  obtain⟨p,d,rfl⟩:=Ac1.mp g
  have:=Wf.aP n t p d
  exact⟨q.lt this.1,q.lt this.2⟩
 refine om q (Wf.cK c) λa b h c=> ?_
 rw [Wf.bL,Ad4,Ae5]
 constructor
 ·rintro ⟨r,g,e⟩
  obtain⟨p,d,rfl⟩:=Ac1.mp g
  have f:=Wf.aP n t p d
  obtain⟨i,j⟩:=qF (q.lt f.2) (q.lt c) (of_decide_eq_true e)
  rw [q.inj f.1 h]at i
  rw [q.inj f.2 c]at j
  obtain⟨k,m,l,rfl⟩:=Wf.a0.mp d
  rw [← i,←j,Wf.aS];exact l
 ·exact λe=>⟨_,Ac1.mpr ⟨_,Wf.a0.mpr ⟨a*n+b,Wf.place_lt h c,e,by rw [Wf.aD c,Wf.aE c]⟩,rfl⟩,decide_eq_true rfl⟩
def kJ (q:Od n o)(b:a<n):aX (ag o) (a:Int)=y0 (.int ((pm o a:Nat):Int)):=pz o a (by rw [q.len];exact b)
def CV (k)(q:Od n o) (s:n<=4) (t:Nat) (h):call prog (k+2) "renamed_tie" [.v (.int (t:Int)),.v (.tup (ag o))] h= .ok (.v (.int ((tK n o t:Nat):Int))) h:=by
 rw [Ga rfl _ _ _ rfl]
 have f:(ag o).length=n:=by rw [Aa,q.len]
 simp only [Zx]
 refine fx (by simp_all [Jh,f];rfl) ?_
 have i:Wf.dU n ((Wf.ao n t).map λp=>(pm o p.1,pm o p.2)):=λr j=>by
  obtain⟨p,a,rfl⟩:=Ac1.mp j
  have:=Wf.aP n t p a
  exact⟨q.lt this.1,q.lt this.2⟩
 have d:eval (k8 (k+1)) Qj [y0 (.v (.int (t:Int))),y0 (.v (.tup (ag o))),y0 (.v (.int (n:Int)))] h= .ok (.own ((Wf.ao n t).map λp=>pD (pm o p.1,pm o p.2))) h:=by
  rw [Qj]
  refine W5 pD _ _ (WS (by
   have:=Js k n t h (by omega)
   simp_all [this])) ?_ λp a=> ?_
  ·have b:=xz n t
   have m:=Xk (n:=n) (by omega)
   omega
  ·have c:=Wf.aP n t p a
   exact⟨[y0 _,y0 _,y0 _],.v _,rfl,by
    have g:=kJ q c.1
    have l:=kJ q c.2
    simp_all [ah,g,l]
    rfl,rfl⟩
 rw [jb (h1:=h) (zc rfl ?_)]
 ·exact Gb _ _ _ rfl
 ·rw [← K6 q t]
  refine vi (uo (e:= .var 2) (h1:=h) rfl (uo d (DD _ _ _))) ?_
  exact sg k n _ _ (by rw [Ac5];rfl) h (by omega) i
def Od.mem (q:Od n o){p:Nat}(a:p∈o):p<n:=Ab3.mp (q.p.mem_iff.mp a)
def IE (k)(q:Od n o) (a:n<=4) (ks ts) (f:ks.length<=1000) (b:ts.length<=1000) (nm) (h):call prog (k+4) "renamed" [.v nm,.v (Qc n ks ts),.v (.tup (ag o))] h= .ok (.v (Qc n (ks.map (kM n o)) (ts.map (tK n o)))) h:=by
 rw [Ga rfl _ _ _ rfl]
 simp only [XV]
 have d:=K4 k q a h
 refine fx (by simp_all [];rfl) ?_
 rw [Za (by simp_all [d])]
 have c:eval (k8 (k+3)) Qu [y0 (.v nm),y0 (.v (Qc n ks ts)),y0 (.v (.tup (ag o))),y0 (.v (.int (n:Int))),y0 (.v (.tup (ag ks))),y0 (.v (.tup (ag ts))),u0,u0] h= .ok (.own (ks.map λx=> .int ((kM n o x:Nat):Int))) h:=by
  rw [Qu]
  refine qg (λ(x:Nat)=> .int (x:Int)) _ ks (kz rfl) f λx _=>⟨.v _,?_,rfl⟩
  have:=Av (k+2) q a x h
  simp_all [this]
 refine fx (by simp_all [c,xD];rfl) ?_
 have e:eval (k8 (k+3)) qu [y0 (.v nm),y0 (.v (Qc n ks ts)),y0 (.v (.tup (ag o))),y0 (.v (.int (n:Int))),y0 (.v (.tup (ag ks))),y0 (.v (.tup (ag ts))),y0 (.v (.tup (ks.map λx=> .int ((kM n o x:Nat):Int)))),u0] h= .ok (.own (ts.map λx=> .int ((tK n o x:Nat):Int))) h:=by
  rw [qu]
  refine qg (λ(x:Nat)=> .int (x:Int)) _ ts (kz rfl) b λx _=>⟨.v (.int ((tK n o x:Nat):Int)),?_,rfl⟩
  have:=CV (k+1) q a x h
  simp_all [this]
 refine fx (by simp_all [e,xD];rfl) ?_
 rw [jb (w:= .v (Qc n (ks.map (kM n o)) (ts.map (tK n o)))) (h1:=h) (zc rfl (by
  simp_all []
  simp only [Qc,ag,Ac5,Function.comp_def]))]
 exact Gb _ _ _ rfl
def bD (b:Bool):D:= .int (b.toNat:Nat)
theorem pL (h) (w): ∀(m t:Nat) i J x y,J.length+m<=1000000-> ∃z M L,
 Gq (Gn [3] k9) (λY h=>execs F Wn Y h) (((Aa0 m).map λj=>D.int ((i+j:Nat):Int))) [y0 (.v (.int (t:Int))),y0 w,y0 (.own J),x,y] h=
  .next [z,y0 w,y0 (.own (J++(Wf.bc t m).map bD)),M,L] h
 | 0,t,i,J,x,y,_=>⟨y0 (.v (.int t)),x,y,by simp [Wf.bc]⟩
 | m+1,t,i,J,x,y,g=>by
  obtain⟨z,M,L,e⟩:=pL h w m (t / 2) (i+1) (J++ [bD (t.testBit 0)]) (y0 (.v (.int i))) (y0 (.v (bD (t.testBit 0)))) (by simp;omega)
  refine⟨z,M,L,?_⟩
  have c:((Aa0 (m+1)).map λj=>D.int (i+j:Nat))=D.int i::((Aa0 m).map λj=>D.int (i+1+j:Nat)):=by
   rw [Af3]
   simp [Function.comp_def,Int.add_comm,Int.add_left_comm]
  rw [c,qa rfl ?_,e]
  ·have:(Wf.bc t (m+1))=t.testBit 0::Wf.bc (t / 2) m:=by
    unfold Wf.bc
    rw [Af3]
    simp [Function.comp_def,Nat.testBit_succ]
   rw [this]
   simp
  ·have a:(0:Int)<2/\ 2<fU:=by rw [GE];decide
   have d:J.length<aY:=by rw [Gi];omega
   have b: t / 2=((t / 2:Nat):Int):=rfl
   have f:D.int (t % 2)=bD (t.testBit 0):=by
    have:t % 2=(t.testBit 0).toNat:=by have:=Wf.et t 0;simpa using this
    unfold bD
    rw [← this];rfl
   simp only [Wn,execs,exec,eval,Gg,Gf,Gj,R.aa,Ji,a,and_self,if_true,R.ay,aH,Gy,O.bI,W.eD,d,b,f]
def zG (k t m:Nat) (h) (a:m<=1000):call prog (k+1) "_law_marks" [.v (.int (t:Int)),.v (.int (m:Int))] h= .ok (.own ((Wf.bc t m).map bD)) h:=by
 rw [Ga rfl _ _ _ rfl]
 obtain⟨z,b,c,e⟩:=pL h _ m t 0 [] u0 u0 (by simp;lia)
 simp only [XD,execs,exec,GD,eval,Gm,R.aa,R.ay,O.bI,Gr,Ab,Ad1,Ai6,Ag2,Ad2,Aj9,Gy]
 rw [wd (m:=m) (by simp [Gf]) (by lia),R.ay]
 simp [Af9]at e
 rw [e]
 simp
def Q7 (xs:List α) (a:Nat):cut xs u0 (y0 (a:Int))=xs.take a:=by
 have b: ¬((a:Int)<0):=by lia
 have e:cut xs u0 (y0 a)=xs.take (min a xs.length):=by simp [cut,aV,b]
 rw [e]
 by_cases h:a<=xs.length
 ·rw [Ak4 h]
 ·rw [Nat.min_eq_right (by lia),An8,List.take_of_length_le (by lia)]
def Hl (xs:List α) (a) (h:a<=xs.length):cut xs (y0 (a:Int)) u0=xs.drop a:=by
 have b: ¬((a:Int)<0):=by lia
 simp [cut,aV,b,Ak4 h,←Ai4]
def Zf (i) (m) (h:0<m): ∃a:Nat,a<m/\i % (m:Int)=(a:Int):=by
 have d:=Int.emod_nonneg i (b:= m) (by lia)
 have c:=Int.emod_lt_of_pos i (b:= m) (by lia)
 exact⟨(i % m).toNat,by lia,by lia⟩
def JA (i j) (a:0<j) (h1:j<1000):Gp .fdiv i j=y0 (i / j):=by
 have:0<j/\j<fU:=by rw [GE];lia
 show(if _ then _ else _)=_
 rw [if_pos this]
def Qo (i j) (a:0<j):Gp .mod i j=y0 (i % j):=by
 show(if _ then _ else _)=_
 rw [if_pos a]
def QF (k) (x) (h):call prog (k+1) "_law_whole" [.v (.int (x:Int))] h= .ok (.v (.bl true)) h:=by
 exact Gb _ _ _ rfl
def p9 (k) (a:List Int) (i:Nat) (h):call prog (k+1) "_law_nth" [.v (.lst (a.map .int)),.v (.int (i:Int))] h= .ok (.v (.int (a.getD i 0))) h:=by
 rw [Ga rfl _ _ _ rfl]
 simp only [JV]
 by_cases q:i<a.length
 ·have e:=Xh (a.map D.int) i (by simpa using q)
  rw [Ac4,Aa4 q]at e
  have b: i<((a.map D.int).length:Int):=by rw [Aa];omega
  have e:aX _ i=y0 _:=e
  rw [zk (w:= .v (.int a[i])) (by simp_all [zr,xc,decide_eq_true b]) (by simp_all [Zk,e]),Ab5,Aa4 q]
  exact Gb _ _ _ rfl
 ·have b: ¬ i<((a.map D.int).length:Int):=by rw [Aa];omega
  rw [Za (by simp_all [zr,xc,decide_eq_false b]),Ab5,List.getElem?_eq_none (by omega)]
  simp_all []
  rfl
def wk (i m):((Aa0 (m+1)).map λj=>D.int ((i+j:Nat):Int))=D.int (i:Nat)::((Aa0 m).map λj=>D.int ((i+1+j:Nat):Int)):=by
 rw [Af3]
 simp [Function.comp_def,Int.add_comm,Int.add_left_comm]
theorem zA (g) (f): ∀l:List Nat,((l.filter g).map f).sum=(l.map λa=>(g a).toNat*f a).sum
 | []=>rfl
 | a::l=>by
  rw [Aj7,Ab,Ai0,←zA g f l]
  cases g a<;>simp
def yy (t m i) (a:i<m):aX ((Wf.bc t m).map bD) (i:Int)=y0 (bD (t.testBit i)):=by
 rw [Xh _ _ (by simpa [Wf.du]using a),Ac4,Wf.eQ a];rfl
def yL (b) (h):Gw .eq (.v (bD b)) (.v (.int 1)) h=y0 b:=by
 cases b<;>simp [bD]
noncomputable abbrev fX (n:Nat) (ks ts:List Nat) (o:List Nat) (c e f d b a:Option W):Sl:= [y0 (.v (Qc n ks ts)),y0 (.v (.tup (ag o))),y0 (.v (.int (n:Int))),y0 (.v (.tup (ag ks))),y0 (.v (.tup (ag ts))),c,e,f,d,b,a]
section
variable {n:Nat}{o:List Nat}(q:Od n o) (hn:n<=4)
include q hn
theorem uI (h): ∀ l j L J,j.length+l.length<=1000-> ∃M O,
 Gq (Gn [6] k9) (λY h=>execs (k8 (k+1)) xu Y h) (ag l) (fX n ks ts o (y0 (.own (ag j))) L J u0 u0 u0) h= .next (fX n ks ts o (y0 (.own (ag (j++l.map (kM n o))))) M O u0 u0 u0) h
 | [],j,L,J,_=>⟨L,J,by simp⟩
 | x::l,j,L,J,g=>by
  rw [Ab8]at g
  obtain⟨M,O,e⟩:=uI h l (j++ [kM n o x]) (y0 (.v (.int x))) (y0 (.v (.lst ((Wf.bc x n).map bD)))) (by simp;omega)
  refine⟨M,O,?_⟩
  have p:=zG k x n h (by omega)
  have s:(ag j).length<aY:=by rw [Gi,Aa];omega
  rw [show ag (x::l)= .int x::ag l from rfl,qa rfl ?_,e,Ae7]
  ·rfl
  ·simp only [xu]
   refine(za (by simp_all [p];rfl)).trans ?_
   have f:eval (k8 (k+1)) Xu (fX n ks ts o (y0 (.own (ag j))) (y0 (.v (.int x))) (y0 (.v (.lst ((Wf.bc x n).map bD)))) u0 u0 u0) h= .ok (.own (((Aa0 n).filter x.testBit).map λa=> .int ((2 ^ pm o a:Nat)))) h:=by
    rw [Xu]
    refine jQ x.testBit _ rfl (by omega) λi d=>⟨?_,.v (.int ((2 ^ pm o i:Nat))),?_,rfl⟩
    ·have c:=yy x n i d
     simp_all [Zk,c,yL]
    ·have c:=kJ q d
     have t:=eY (pm o i) (by have:=q.lt d;omega)
     simp_all [ah,c,t]
   have eq:(((Aa0 n).filter x.testBit).map λa=>D.int ((2 ^ pm o a:Nat)))=ag (((Aa0 n).filter x.testBit).map λa=>2 ^ pm o a):=by rw [ag,Ac5];rfl
   have b:(ag (((Aa0 n).filter x.testBit).map λa=>2 ^ pm o a)).length<=aY:=by
    rw [Gi,Aa,Aa]
    exact Ac (Ad6 _ _) (by simp;omega)
   rw [eq]at f
   have m:(((Aa0 n).filter x.testBit).map λa=>2 ^ pm o a).sum=kM n o x:=zA _ _ _
   have r:ag (j++ [kM n o x])=ag j++ [.int ((kM n o x:Nat))]:=by simp
   rw [r]
   simp_all [f,Q2,b,if_true,XM,m,s]
theorem yN (h): ∀ l j M O J,j.length+l.length<=1000-> ∃V S L,
 Gq (Gn [9] k9) (λY h=>execs (k8 (k+1)) Ju Y h) (ag l) (fX n ks ts o x5 x6 M (y0 (.own (ag j))) O J) h= .next (fX n ks ts o x5 x6 V (y0 (.own (ag (j++l.map (tK n o))))) S L) h
 | [],j,M,O,J,_=>⟨M,O,J,by simp⟩
 | t::l,j,M,O,J,r=>by
  rw [Ab8]at r
  obtain⟨V,S,L,e⟩:=yN h l (j++ [tK n o t]) (y0 (.v (.lst ((Wf.bc t (n*n)).map bD)))) (y0 (.v (.int (t:Int)))) (y0 (.v (.lst ((Wf.ao n t).map pD)))) (by simp;omega)
  refine⟨V,S,L,?_⟩
  have E:=Xk (n:=n) (by omega)
  have y:=zG k t (n*n) h (by omega)
  have m:=wc n n (by omega)
  have A:(ag j).length<aY:=by rw [Gi,Aa];omega
  rw [show ag (t::l)= .int (t:Int)::ag l from rfl,qa (Y1:=fX n ks ts o x5 x6 M (y0 (.own (ag j))) (y0 (.v (.int (t:Int)))) J) rfl ?_,e,Ae7]
  ·rfl
  ·simp only [Ju]
   refine(za (by simp_all [m,y];rfl)).trans ?_
   have f:eval (k8 (k+1)) ju (fX n ks ts o x5 x6 (y0 (.v (.lst ((Wf.bc t (n*n)).map bD)))) (y0 (.own (ag j))) (y0 (.v (.int (t:Int)))) J) h= .ok (.own ((Wf.ao n t).map pD)) h:=by
    rw [ju,Wf.ao,Ac5]
    refine jQ t.testBit _ (by simp_all [m]) (by omega) λi g=>⟨?_,.v (pD (i / n,i % n)),?_,rfl⟩
    ·have d:=yy t (n*n) i g
     simp_all [Zk,d,yL]
    ·have v:(0:Int)<(n:Int)/\(n:Int)<fU:=by
      rw [GE]
      have:=Wf.c9 g
      omega
     simp_all [Ji,v,and_self,if_true]
     rfl
   rw [za (se f rfl)]
   have a:eval (k8 (k+1)) xn (fX n ks ts o x5 x6 (y0 (.v (.lst ((Wf.bc t (n*n)).map bD)))) (y0 (.own (ag j))) (y0 (.v (.int (t:Int)))) (y0 (.v (.lst ((Wf.ao n t).map pD))))) h= .ok (.own ((Wf.ao n t).map λp=> .int ((2 ^ tP n o p:Nat):Int))) h:=by
    rw [xn]
    refine W5 pD _ (Wf.ao n t) (oA rfl) (by have:=xz n t;omega) λp x=> ?_
    have b:=Wf.aP n t p x
    refine⟨[y0 (.v (.int (p.1:Nat))),y0 (.v (.int (p.2:Nat))),y0 (.v (.tup (ag o))),y0 (.v (.int (n:Int)))],.v (.int ((2 ^ tP n o p:Nat):Int)),rfl,?_,rfl⟩
    have d:=kJ q b.1
    have f:=kJ q b.2
    have w:=q.lt b.1
    have l2:=q.lt b.2
    have C:Gp .mul ((pm o p.1:Nat):Int) (n:Int)=y0 ((pm o p.1*n:Nat):Int):=wc _ n (by omega)
    have B:((pm o p.1*n:Nat):Int)+((pm o p.2:Nat):Int)=((tP n o p:Nat):Int):=rfl
    have s:=eY (tP n o p) (by
     have:=Wf.place_lt w l2
     unfold tP
     omega)
    simp_all [ah,d,f,C,Zc,B,s]
   have eq:((Wf.ao n t).map λp=>D.int ((2 ^ tP n o p:Nat):Int))=ag ((Wf.ao n t).map λp=>2 ^ tP n o p):=by rw [ag,Ac5];rfl
   have c:(ag ((Wf.ao n t).map λp=>2 ^ tP n o p)).length<=aY:=by
    rw [Gi,Aa,Aa]
    have:=xz n t
    omega
   rw [eq]at a
   have u:((Wf.ao n t).map λp=>2 ^ tP n o p).sum=tK n o t:=by
    rw [Wf.ao,Ac5]
    exact zA _ _ _
   have z:ag (j++ [tK n o t])=ag j++ [.int ((tK n o t:Nat):Int)]:=by simp
   rw [z,Xa]
   have a:eval (k8 (k+1)) xn (Gy (fX n ks ts o x5 x6 (y0 (.v (.lst ((Wf.bc t (n*n)).map bD)))) (y0 (.own (ag j))) (y0 (.v (.int (t:Int)))) J) 10 (.v (.lst ((Wf.ao n t).map pD)))) h=_:=a
   simp only [Gy]at a ⊢
   simp_all [a,Q2,c,if_true,XM,u,A]
def yI (k) (ks ts) (i:ks.length<=1000) (b:ts.length<=1000) (h):call prog (k+2) "_law_led" [.v (Qc n ks ts),.v (.tup (ag o))] h= .ok (.v (Qc n (ks.map (kM n o)) (ts.map (tK n o)))) h:=by
 rw [Ga rfl _ _ _ rfl]
 obtain⟨f,j,d⟩:=uI q hn h ks [] u0 u0 (by simpa using i)
 obtain⟨c,e,a,g⟩:=yN q hn h ts [] j u0 u0 (by simpa using b)
 simp only [XR]
 refine fx (by simp_all [];rfl) ?_
 refine fx (by simp_all [];rfl) ?_
 rw [za (by
  simp only [exec,R.ay]
  exact d)]
 refine fx (by simp_all [];rfl) ?_
 rw [za (Y1:=fX n ks ts o (y0 (.own (ag ([]++ks.map _)))) f c _ e a) (by
  simp only [exec,Gj,Ag4,GZ,R.af,R.ay]
  exact g)]
 rw [Ag2,Ag2]
 simp_all [XW]
end
theorem Jr: ∀(xs ys),Gd (xs++ys)=(Gd xs&&Gd ys)
 | [],ys=>by simp [Gd]
 | x::xs,ys=>by simp only [Ai6,Gd,Jr xs ys,Bool.and_assoc]
abbrev mc (n:Nat) (ks ts:List Nat) (x:Option W):Sl:= [y0 (.v (Qc n ks ts)),y0 (.v (Qc n ks ts)),x]
def jL {k n:Nat}(j) (a:l.length<=1000) (e:aX [D.int (n:Int),D.tup (ag ks),D.tup (ag ts)] j=y0 (.tup (ag l))) (h):execs (k8 (k+1)) qo (mc n ks ts (y0 (.v (.int j)))) h= .next (mc n ks ts (y0 (.v (.int j)))) h:=by
 simp only [qo]
 have b:eval (k8 (k+1)) (.bi .all (.a Wh)) (mc n ks ts (y0 (.v (.int j)))) h= .ok (.v (.bl k9)) h:=by
  have d:eval (k8 (k+1)) Wh (mc n ks ts (y0 (.v (.int j)))) h= .ok (.own ((l.map λ_=>k9).map .bl)) h:=by
   rw [Wh,Ac5]
   refine qg (λ(x:Nat)=> .int x) _ l (kz (by simp_all [ah,e])) a λx _=>⟨.v (.bl k9),?_,rfl⟩
   have:=QF k x h
   simp_all [this]
  rw [qx d]
  simp
 have c:=Le (.tup _) (by simpa using m1 l) (by have:=nN l;simp only [dep];omega) h
 rw [Za (by simp_all [ah,e,ZZ,Ty.dr,Jh,W1,decide_true]),Za ?_]
 ·rfl
 ·unfold Gs
  rw [eval,eval,b]
  simp_all [ah,e,c]
def Bc (k n) (ks ts) (d:ks.length<=1000) (a:ts.length<=1000) (h):call prog (k+2) "_law_alike" [.v (Qc n ks ts),.v (Qc n ks ts)] h= .ok (.v (.bl true)) h:=by
 rw [Ga rfl _ _ _ rfl]
 simp only [WC]
 have b:=QF k n h
 have c:(([D.int (n:Int),D.tup (ag ks),D.tup (ag ts)].length:Nat):Int)=3:=rfl
 rw [Za (by simp_all [ZZ,Ty.dr,Jh,c,W1,decide_true,ah,xt,b])]
 refine fx (by
  simp only [exec,Gr,GD,eval,Gm,R.aa,W.eD,R.af,GL,R.ay]
  rw [qa rfl (jL 1 d rfl h),qa rfl (jL 2 a rfl h)]
  rfl) ?_
 simp_all []
def Hy (xs) (lo hi) (h):gO (.v (.tup xs)) lo hi h=aT (.tup (cut xs lo hi)) h:=rfl
inductive Ex where
 | name (t:Tx)
 | same
 | all
 | none
 | turned (a:Ex)
 | closed (a:Ex)
 | plus (a b:Ex)
 | less (a b:Ex)
 | both (a b:Ex)
 | joined (a b:Ex)
abbrev mT:Tx:= [110,97,109,101]
abbrev wW:Tx:= [115,97,109,101]
abbrev kX:Tx:= [97,108,108]
abbrev mB:Tx:= [110,111,110,101]
abbrev XL:Tx:= [112,108,117,115]
abbrev QK:Tx:= [108,101,115,115]
abbrev qK:Tx:= [98,111,116,104]
abbrev Xs:Tx:= [106,111,105,110,101,100]
abbrev QB:Tx:= [116,117,114,110,101,100]
abbrev QC:Tx:= [99,108,111,115,101,100]
noncomputable def aM:Ex->D
 | .name t=> .tup [.str mT,.str t]
 | .same=> .tup [.str wW]
 | .all=> .tup [.str kX]
 | .none=> .tup [.str mB]
 | .turned a=> .tup [.str QB,aM a]
 | .closed a=> .tup [.str QC,aM a]
 | .plus a b=> .tup [.str XL,aM a,aM b]
 | .less a b=> .tup [.str QK,aM a,aM b]
 | .both a b=> .tup [.str qK,aM a,aM b]
 | .joined a b=> .tup [.str Xs,aM a,aM b]
def Ex.wf (N:List Tx):Ex->Prop
 | .name t=>t∈N
 | .turned a=>a.wf N
 | .closed a=>a.wf N
 | .plus a b=>a.wf N/\b.wf N
 | .less a b=>a.wf N/\b.wf N
 | .both a b=>a.wf N/\b.wf N
 | .joined a b=>a.wf N/\b.wf N
 | _=>True
noncomputable def Ex.dp:Ex->Nat
 | .turned a=>a.dp+1
 | .closed a=>a.dp+1
 | .plus a b=>max a.dp b.dp+1
 | .less a b=>max a.dp b.dp+1
 | .both a b=>max a.dp b.dp+1
 | .joined a b=>max a.dp b.dp+1
 | _=>0
def LQ (x y z:D):aX [x,y,z] 1=y0 y:=rfl
def HH (x y z:D):aX [x,y,z] 2=y0 z:=rfl
theorem zR: ∀ts:List Tx,GO (ts.map .str)=y0 ts
 | []=>rfl
 | t::ts=>by simp [GO,zR ts]
def LU (ts:List Tx):(ts.map D.str).all GQ=true:=by simp
theorem vE (s): ∀ts:List Tx,inD (.str s) (ts.map .str)=u9 (s∈ts)
 | []=>rfl
 | t::ts=>by
  have a:=vE s ts
  simp only [inD]at a
  by_cases q:t=s
  ·subst q
   simp [inD]
  ·have b: ¬s=t:=λe=>q e.symm
   simp only [inD,Ab,Af,a,Ab9,b,false_or]
   simp [q]
def yY (xs:List α) (n:Nat):cut xs (y0 (n:Int)) u0=xs.drop n:=by
 have a: ¬((n:Int)<0):=by lia
 simp [cut,aV,a,Ag0]
 by_cases q:n<=xs.length
 ·rw [Ak4 q,List.take_of_length_le (by simp)]
 ·rw [Nat.min_eq_right (by lia),List.drop_of_length_le (Aa5 _),List.drop_of_length_le (by lia),List.take_nil]
def wP (i j:Nat) (h):Gw .eq (.v (.int (i:Int))) (.v (.int (j:Int))) h=y0 (u9 (i=j)):=by
 rw [jp]
 congr 1
 exact decide_eq_decide.mpr (by lia)
def JW (s) (ts:List Tx) (w) (h) (a:w.seq? h=y0 (ts.map .str)) (h2:w.gE =u0):Kc (.v (.str s)) w h=y0 (u9 (s∈ts)):=by
 unfold Kc
 simp only [W.eD,a,LU,Ai2,if_true,vE]
structure Nm (ts:List Tx):Prop where
 nd:ts.Nodup
abbrev cJ (ts:List Tx):D:= .tup (ts.map .str)
abbrev wD (K T:List Tx):D:= .tup [cJ K,cJ T]
end M
namespace Wf
def wr (g:Nat->Nat->Bool):Nat->Nat->Nat->Bool
 | 0,a,b=>g a b
 | k+1,a,b=>wr g k a b||(wr g k a k&&wr g k k b)
end Wf
namespace M
def fM (t:Tx) (ts:List Tx):Nat:=(Ki t ts).getD 0
theorem qr : ∀ {ts},t∈ts->Ki t ts=y0 (fM t ts)/\fM t ts<ts.length
 | y::b,h=>by
  unfold fM
  by_cases q:y=t
  ·simp [Ki,q]
  ·have a:t∈b:=by
    rcases Ab9.mp h with e | e
    ·exact absurd e.symm q
    ·exact e
   obtain⟨e,l⟩:=qr a
   simp only [Ki,q,if_false,e,Option.map_some,Option.getD_some,Ab8]at l ⊢
   exact⟨trivial,by omega⟩
structure Wo where
 n:Nat
 K:List Tx
 T:List Tx
 ks:List Nat
 ts:List Nat
structure Wo.Ok (w:Wo):Prop where
 hK:w.K.length<=4
 hT:w.T.length<=4
 nm:Nm (w.K++w.T)
 wl:ED w.n w.K.length w.T.length w.ks w.ts
def Wo.at (w:Wo) (t:Tx) (a b:Nat):Prop:=if t∈w.T then(w.ts.getD (fM t w.T) 0).testBit (a*w.n+b)=k9 else a=b/\(w.ks.getD (fM t w.K) 0).testBit a=k9
def eA (w:Wo):Ex->Nat->Nat->Prop
 | .name t,a,b=>w.at t a b
 | .same,a,b=>a=b
 | .all,_,_=>True
 | .none,_,_=>False
 | .turned e,a,b=>eA w e b a
 | .closed e,a,b=> ∃t,t<2 ^ (w.n*w.n)/\(∀ x y,x<w.n->y<w.n->(t.testBit (x*w.n+y)=k9↔eA w e x y))/\Wf.TC w.n t a b
 | .plus e f,a,b=>eA w e a b\/eA w f a b
 | .less e f,a,b=>eA w e a b/\ ¬eA w f a b
 | .both e f,a,b=>eA w e a b/\eA w f a b
 | .joined e f,a,b=> ∃c,c<w.n/\eA w e a c/\eA w f c b
def Is (w:Wo) (e:Ex) (v:Nat):Prop:=v<2 ^ (w.n*w.n)/\ ∀a b,a<w.n->b<w.n->(v.testBit (a*w.n+b)=k9↔eA w e a b)
def JZ (b:s<2 ^ (n*n)) (c:t<2 ^ (n*n)) (h: ∀x y,x<n->y<n->(s.testBit (x*n+y)=k9↔t.testBit (x*n+y)=k9)):s=t:=by
 refine Wf.dZ b c λk a=> ?_
 have:=h _ _ (Wf.aR a) (Wf.aI a)
 rw [Wf.aS]at this
 exact Ad4.mpr this
def Qz {w:Wo}{e:Ex}{v:Nat}(h:Is w e v){a b:Nat}:eA w (.closed e) a b↔Wf.TC w.n v a b:=by
 refine⟨λ⟨t,lt,g,c⟩=> ?_,λc=>⟨v,h.1,h.2,c⟩⟩
 have:t=v:=JZ lt h.1 λx y f d=>(g x y f d).trans (h.2 x y f d).symm
 exact this▸c
def B6 (a:s<2 ^ n) (b:t<2 ^ n):s ||| t<2 ^ n:=An4 a b
theorem Is.plus {w:Wo}{e f:Ex}{s t:Nat}(h:Is w e s) (g:Is w f t):Is w (.plus e f) (s ||| t):=⟨B6 h.1 g.1,λa b c d=>by
 rw [Ag9,Am2,h.2 a b c d,g.2 a b c d];rfl⟩
theorem Is.both {w:Wo}{e f:Ex}{s t:Nat}(h:Is w e s) (g:Is w f t):Is w (.both e f) (s &&& t):=⟨Nat.and_lt_two_pow s g.1,λa b c d=>by
 rw [Ak2,Aa6,h.2 a b c d,g.2 a b c d];rfl⟩
theorem Is.less {w:Wo}{e f:Ex}{s t:Nat}(h:Is w e s) (g:Is w f t):Is w (.less e f) (s-(s &&& t)):=⟨An1 (Nat.sub_le _ _) h.1,λa b c d=>by
 rw [Wf.bu,Aa6,h.2 a b c d,An2,←Bool.not_eq_true,g.2 a b c d];rfl⟩
theorem Is.turned {w:Wo}{e:Ex}{s:Nat}(h:Is w e s):Is w (.turned e) (Wf.da w.n s):=⟨Wf.fP _ _,λa b d c=>by
 rw [Wf.eW (Wf.place_lt d c),Wf.aD c,Wf.aE c,h.2 b a c d];rfl⟩
theorem Is.joined {w:Wo}{e f:Ex}{s t:Nat}(h:Is w e s) (g:Is w f t):Is w (.joined e f) (Wf.joinM w.n s t):=⟨Wf.dA _ _ _,λa b j i=>by
 rw [Wf.cw (Wf.place_lt j i),Wf.cT i,Ae5]
 refine⟨λ⟨c,d,q⟩=> ?_,λ⟨c,d,k,l⟩=> ?_⟩
 ·have d:=Ab3.mp d
  rw [Aa6]at q
  exact⟨c,d,(h.2 a c j d).mp q.1,(g.2 c b d i).mp q.2⟩
 ·refine⟨c,Ab3.mpr d,?_⟩
  rw [Aa6]
  exact⟨(h.2 a c j d).mpr k,(g.2 c b d i).mpr l⟩⟩
theorem Is.closed {w:Wo}{e:Ex}{s r:Nat}(h:Is w e s) (g:Wf.fO w.n s r):Is w (.closed e) r:=⟨g.lt,λa b c d=>(g.bit a b c d).trans (Qz h).symm⟩
theorem Is.same (w:Wo):Is w .same (Wf.cR w.n):=⟨Wf.fJ _,λa b c d=>by rw [Wf.dY c d,decide_eq_true_eq];rfl⟩
theorem Is.all (w:Wo):Is w .all (2 ^ (w.n*w.n)-1):=⟨Nat.sub_lt (Aj _) (by decide),λa b c d=>by
 rw [Nat.testBit_two_pow_sub_one,decide_eq_true (Wf.place_lt c d)]
 exact⟨λ_=>trivial,λ_=>rfl⟩⟩
theorem Is.none (w:Wo):Is w .none 0:=⟨Aj _,λa b c d=>by
 rw [Nat.zero_testBit]
 exact⟨λh=>absurd h (by decide),λh=>h.elim⟩⟩
def Wo.words (w:Wo):D:=wD w.K w.T
def Wo.aA (w:Wo):D:=Qc w.n w.ks w.ts
def ZU (ts) (t) (h) (a:t∈ts) (b:ts.length<=1000):lD .index (.v (cJ ts)) [.v (.str t)] h= .ok (.v (.int ((fM t ts:Nat):Int))) h:=by
 show(R.of h ((y0 _).bind GO)).bind _=_
 rw [Ag4,zR,R.af,R.aa]
 show(R.of h (y0 t)).bind _=_
 rw [R.af,R.aa,(qr a).1,R.af,R.aa,if_pos (by rw [Gi];lia)]
def kU (n x:Nat):List (Nat×Nat):=((Aa0 n).filter x.testBit).map λa=>(a,a)
def W9 (n x):Wf.dU n (kU n x):=λp c=>by
 obtain⟨a,b,rfl⟩:=Ac1.mp c
 have:=Ab3.mp (Ae.mp b).1
 exact⟨this,this⟩
def Bu (j:a<n) (i:b<n):(Wf.cM n (kU n x)).testBit (a*n+b)=k9↔a=b/\x.testBit a=true:=by
 rw [Wf.bL,Ae5]
 refine⟨λ⟨p,k,e⟩=> ?_,λ⟨e,l⟩=> ?_⟩
 ·obtain⟨c,d,rfl⟩:=Ac1.mp k
  have g:=Ae.mp d
  have d:=Ab3.mp g.1
  have e:=of_decide_eq_true e
  have f:=congrArg (· / n) e
  have h:=congrArg (· % n) e
  simp [Wf.aD d,Wf.aD i,Wf.aE d,Wf.aE i]at f h
  subst f
  exact⟨h,g.2⟩
 ·subst e
  exact⟨_,Ac1.mpr ⟨a,Ae.mpr ⟨Ab3.mpr j,l⟩,rfl⟩,decide_eq_true rfl⟩
def LA (n x:Nat) (k:n<=4) (h):eval F Jg [a,b,c,y0 (.v (.int (n:Int))),y0 (.v (.int (x:Int)))] h= .ok (.own ((kU n x).map pD)) h:=by
 rw [Jg,WZ (λd=>match d with
  | .int i=>if x.testBit i.toNat then y0 (.tup [.int i,.int i])else u0
  | _=>u0) (wd (m:=n) (by simp_all []) (by lia)) (by simp;rw [Gi];lia)]
 ·congr 2
  rw [List.filterMap_map,kU,Ac5]
  induction Aa0 n with
  | nil=>rfl
  | cons y l f=>
   by_cases e:x.testBit y=k9
   ·simp [e,pD,f]
   ·simp [e,f]
 ·intro d g
  obtain⟨i,o,rfl⟩:=gF _ g
  have j:G6 ((x / 2 ^ i:Nat)) 1=y0 (((x.testBit i).toNat:Nat):Int):=by
   rw [show 1=((1:Nat):Int)from rfl,xq,JO]
  refine⟨[y0 _,y0 _],x.testBit i,rfl,?_,?_⟩
  ·unfold Gs
   simp only [eval,Gf,Gj,R.aa,Gx,zF,zn,j,R.af,zZ]
   cases x.testBit i<;>rfl
  ·by_cases e:x.testBit i=k9
   ·simp [e,Gf]
   ·simp [e]
def pT (t) (ts) (h):Gw .mem (.v (.str t)) (.v (cJ ts)) h=y0 (u9 (t∈ts)):=JW t ts (.v (cJ ts)) h rfl rfl
def qD (k)(ok:w.Ok) (t) (i:t∈w.K++w.T) (h): ∃v,Is w (.name t) v/\call prog (k+4) "value_of_name" [.v w.words,.v w.aA,.v (.str t)] h= .ok (.v (.int (v:Int))) h:=by
 rw [Ga rfl _ _ _ rfl]
 simp only [Qq]
 show ∃v,_/\GC _ (execs _ _ [y0 (.v (wD w.K w.T)),y0 (.v (Qc w.n w.ks w.ts)),y0 (.v (.str t)),u0,u0] h)=_
 have j:=ok.hK
 have l:=ok.hT
 by_cases q:t∈w.T
 ·have c:=(qr q).2
  refine⟨w.ts.getD (fM t w.T) 0,⟨?_,λa b d f=> ?_⟩,?_⟩
  ·rw [Ab5,Aa4 (by rw [ok.wl.lt];exact c)]
   exact ok.wl.bt _ (Aj6 _)
  ·show _↔w.at t a b
   rw [Wo.at,if_pos q]
  ·rw [jb,Gb _ _ _ rfl]
   rw [Zr (h1:=h) (by simp_all [ah,wB,pT,decide_eq_true q])]
   exact jb (zc rfl (by simp only [eval,Gg,Gf,Gj,R.aa,ah,wB,HH,R.af,rH,if_true,ZU w.T t h q (by omega)];rw [pz _ _ (by rw [ok.wl.lt];exact c)];rfl))
 ·have e:=(Ae9.mp i).resolve_right q
  have c:=(qr e).2
  have g:=ok.wl.n4
  refine⟨Wf.cM w.n (kU w.n (w.ks.getD (fM t w.K) 0)),⟨Wf.cK (W9 _ _),λa b d f=> ?_⟩,?_⟩
  ·show _↔w.at t a b
   rw [Wo.at,if_neg q]
   exact Bu d f
  ·rw [za (Y1:= [y0 (.v (wD w.K w.T)),y0 (.v (Qc w.n w.ks w.ts)),y0 (.v (.str t)),u0,u0]) (h1:=h) (by simp_all [ah,wB,pT,decide_eq_false q])]
   rw [za (Y1:= [y0 (.v (wD w.K w.T)),y0 (.v (Qc w.n w.ks w.ts)),y0 (.v (.str t)),y0 (.v (.int w.n)),u0]) rfl]
   rw [za (Y1:= [y0 (.v (wD w.K w.T)),y0 (.v (Qc w.n w.ks w.ts)),y0 (.v (.str t)),y0 (.v (.int w.n)),y0 (.v (.int ((w.ks.getD (fM t w.K) 0:Nat))))]) (by simp only [exec,eval,Gg,Gf,Gj,R.aa,ah,xI,LQ,R.af,rH,if_true,ZU w.K t h e (by omega)];rw [pz _ _ (by rw [ok.wl.lk];exact c)];rfl)]
   rw [jb (zc rfl ?_),Gb _ _ _ rfl]
   simp only [eval,Gg,Gf,Gj,R.aa,LA w.n _ g h,Ab,Ad1,W.bb,W.eM,xG k w.n _ h (by omega) (W9 _ _)]
def xb (s X) (h):Gs F (.cmp .eq .v1 (.str X)) [a,y0 (.v (.str s)),c] h= .ok (s==X) h:=by
 simp only [Gs,eval,Gf,Gj,R.aa,xv,R.af,GA]
abbrev hY (n:Nat) (s:Tx) (l:List D):Sl:= [y0 (.v (.int (n:Int))),y0 (.v (.str s)),y0 (.v (.lst l))]
def Df (k n:Nat) (l) (h) (a:n<=4):call prog (k+5) "made" [.v (.int (n:Int)),.v (.str wW),.v (.lst l)] h= .ok (.v (.int ((Wf.cR n:Nat):Int))) h:=by
 rw [Ga rfl _ _ _ rfl]
 simp only [wt]
 show GC _ (execs _ _ (hY n wW l) h)=_
 rw [zk (xb _ _ _) (zc rfl (by simp only [eval,Gg,Gf,Gj,R.aa,Ab,Ad1,W.bb,F8 k n h (by lia)];rfl)),Gb _ _ _ rfl]
def Cv (k n:Nat) (l) (h) (a:n<=4):call prog (k+5) "made" [.v (.int (n:Int)),.v (.str kX),.v (.lst l)] h= .ok (.v (.int ((2 ^ (n*n)-1:Nat):Int))) h:=by
 rw [Ga rfl _ _ _ rfl]
 simp only [wt]
 show GC _ (execs _ _ (hY n kX l) h)=_
 rw [Za (xb _ _ _),zk (xb _ _ _) (zc rfl (by simp only [eval,Gg,Gf,Gj,R.aa,Ab,Ad1,W.bb,K9 _ n h (by lia)];rfl)),Gb _ _ _ rfl]
def FE (k n:Nat) (l) (h):call prog (k+5) "made" [.v (.int (n:Int)),.v (.str mB),.v (.lst l)] h= .ok (.v (.int ((0:Nat):Int))) h:=by
 rw [Ga rfl _ _ _ rfl]
 simp only [wt]
 rw [Za (xb _ _ _),Za (xb _ _ _),zk (xb _ _ _) _,Gb _ _ _ rfl]
 rfl
abbrev l2 (s t:Nat):List D:= [.int (s:Int),.int (t:Int)]
def DE (k n s t:Nat) (h):call prog (k+5) "made" [.v (.int (n:Int)),.v (.str XL),.v (.lst (l2 s t))] h= .ok (.v (.int ((s ||| t:Nat):Int))) h:=by
 rw [Ga rfl _ _ _ rfl]
 simp only [wt]
 show GC _ (execs _ _ (hY n XL _) h)=_
 rw [Za (xb _ _ _),Za (xb _ _ _),Za (xb _ _ _),zk (xb _ _ _) (zc rfl (by simp only [eval,Gg,Gf,Gj,R.aa,Zk,xI,wB,R.af,Ab,Ad1,W.bb,jO _ s t h];rfl)),Gb _ _ _ rfl]
def FF (k n s t:Nat) (h):call prog (k+5) "made" [.v (.int (n:Int)),.v (.str QK),.v (.lst (l2 s t))] h= .ok (.v (.int ((s-(s &&& t):Nat):Int))) h:=by
 rw [Ga rfl _ _ _ rfl]
 simp only [wt]
 show GC _ (execs _ _ (hY n QK _) h)=_
 rw [Za (xb _ _ _),Za (xb _ _ _),Za (xb _ _ _),Za (xb _ _ _),zk (xb _ _ _) (zc rfl (by simp only [eval,Gg,Gf,Gj,R.aa,Zk,xI,wB,R.af,Ab,Ad1,W.bb,QX _ s t h];rfl)),Gb _ _ _ rfl]
def AS (k n s t:Nat) (h):call prog (k+5) "made" [.v (.int (n:Int)),.v (.str qK),.v (.lst (l2 s t))] h= .ok (.v (.int ((s &&& t:Nat):Int))) h:=by
 rw [Ga rfl _ _ _ rfl]
 simp only [wt]
 show GC _ (execs _ _ (hY n qK _) h)=_
 rw [Za (xb _ _ _),Za (xb _ _ _),Za (xb _ _ _),Za (xb _ _ _),Za (xb _ _ _),zk (xb _ _ _) (zc rfl (by simp only [eval,Gg,Gf,Gj,R.aa,Zk,xI,wB,R.af,Ab,Ad1,W.bb,De _ s t h];rfl)),Gb _ _ _ rfl]
def Z0 (k n s t:Nat) (h) (a:n<=4):call prog (k+5) "made" [.v (.int (n:Int)),.v (.str Xs),.v (.lst (l2 s t))] h= .ok (.v (.int ((Wf.joinM n s t:Nat):Int))) h:=by
 rw [Ga rfl _ _ _ rfl]
 simp only [wt]
 show GC _ (execs _ _ (hY n Xs _) h)=_
 rw [Za (xb _ _ _),Za (xb _ _ _),Za (xb _ _ _),Za (xb _ _ _),Za (xb _ _ _),Za (xb _ _ _),zk (xb _ _ _) (zc rfl (by simp only [eval,Gg,Gf,Gj,R.aa,Zk,xI,wB,R.af,Ab,Ad1,W.bb,WQ _ n s t h (by lia)];rfl)),Gb _ _ _ rfl]
def W2 (k n s:Nat) (h) (a:n<=4):call prog (k+5) "made" [.v (.int (n:Int)),.v (.str QB),.v (.lst [.int (s:Int)])] h= .ok (.v (.int ((Wf.da n s:Nat):Int))) h:=by
 rw [Ga rfl _ _ _ rfl]
 simp only [wt]
 show GC _ (execs _ _ (hY n QB [.int s]) h)=_
 rw [Za (xb _ _ _),Za (xb _ _ _),Za (xb _ _ _),Za (xb _ _ _),Za (xb _ _ _),Za (xb _ _ _),Za (xb _ _ _),zk (xb _ _ _) (zc rfl (by simp only [eval,Gg,Gf,Gj,R.aa,Zk,BA,R.af,Ab,Ad1,W.bb,Hn k n s h (by lia)];rfl)),Gb _ _ _ rfl]
def w5 (k n s) (h) (b:n<=4) (a:s<2 ^ (n*n)): ∃r,Wf.fO n s r/\call prog (k+5) "made" [.v (.int (n:Int)),.v (.str QC),.v (.lst [.int (s:Int)])] h= .ok (.v (.int (r:Int))) h:=by
 obtain⟨r,c,e⟩:=DH (k+1) n s h b a
 refine⟨r,c,?_⟩
 rw [Ga rfl _ _ _ rfl]
 simp only [wt]
 show GC _ (execs _ _ (hY n QC [.int s]) h)=_
 rw [Za (xb _ _ _),Za (xb _ _ _),Za (xb _ _ _),Za (xb _ _ _),Za (xb _ _ _),Za (xb _ _ _),Za (xb _ _ _),Za (xb _ _ _),jb (zc rfl (by assumption)),Gb _ _ _ rfl]
def pq (a:Gk F it Y h= .ok [] h):eval F (.comp tg one k az it y9 c elt) Y h= .ok (.own []) h:=by
 rw [eval,a,R.aa,if_pos (show [].length<=aY from Ah2 _)]
 rfl
def vK (b:Gk F it Y h= .ok [d] h) (e:eval F elt (Gy (Aa9 k u0++az.map λj=>Gf Y j) 0 (.v d)) h= .ok (.v y) h):eval F (.comp [0] k9 k az it y9 c elt) Y h= .ok (.own [y]) h:=by
 have a: [d].length<=aY:=by rw [Gi];simp
 rw [eval,b,R.aa,if_pos a]
 simp [Gv,e,R.af]
def W7 (d:Gk F it Y h= .ok [d1,d2] h) (a:eval F elt (Gy (Aa9 k u0++az.map λj=>Gf Y j) 0 (.v d1)) h= .ok (.v y1) h) (b:eval F elt (Gy (Aa9 k u0++az.map λj=>Gf Y j) 0 (.v d2)) h= .ok (.v y2) h):eval F (.comp [0] k9 k az it y9 c elt) Y h= .ok (.own [y1,y2]) h:=by
 have e: [d1,d2].length<=aY:=by rw [Gi];simp
 rw [eval,d,R.aa,if_pos e]
 simp [Gv,a,b,R.af]
abbrev g9 (w:Wo) (d:D) (x:Option W):Sl:= [y0 (.v w.words),y0 (.v w.aA),y0 (.v d),x]
def Zv :Gk F (.seq (.fN .v2 (.int 1))) (g9 w (.tup (s::ds)) x) h= .ok ds h:=by
 have e:cut (s::ds) (y0 1) u0=ds:=yY (s::ds) 1
 refine kz ?_
 show(if aV (s::ds).length 0 (y0 1)=0/\aV (s::ds).length (s::ds).length u0=(s::ds).length then R.fail else R.ok _ h)=_
 rw [if_neg (λc=>by have:=c.1;simp [aV]at this),e]
def Xm (c:aM e= .tup (.str s::ds)) (a:(s==mT)=y9)
 (h1:eval (k8 m) ZV (g9 w (.tup (.str s::ds)) u0) h= .ok (.own ys) h) (h2:call prog m "made" [.v (.int (w.n:Int)),.v (.str s),.v (.lst ys)] h= .ok (.v v) h):call prog (m+1) "value" [.v w.words,.v w.aA,.v (aM e)] h= .ok (.v v) h:=by
 rw [Ga rfl _ _ _ rfl,c]
 simp only [xR]
 show GC _ (execs _ _ (g9 w _ u0) h)=_
 have b:Gs (k8 m) (.cmp .eq (.ix .v2 (.int 0)) (.str mT)) (g9 w (.tup (.str s::ds)) u0) h= .ok y9 h:=by
  simp only [Gs,eval,Gf,Gj,R.aa,ah,Jo,R.af,xv,a,GA]
 rw [Za b,za (Y1:=g9 w _ _) (by rw [exec,h1];rfl)]
 have d:dN (.v w.aA) (.v (.int 0)) h=y0 _:=rfl
 rw [jb (zc rfl (by simp only [eval,Gg,Gf,Gj,R.aa,d,ah,Jo,R.af,Ab,Ad1,W.bb,h2];rfl)),Gb _ _ _ rfl]
def jl (q:call prog m "value" [.v w.words,.v w.aA,.v d] h= .ok (.v y) h):eval (k8 m) (.call "value" (.c .v1 .v2 .v0)) (Gy (List.replicate 1 none++ [0,1].map fun j=>Gf (g9 w v none) j) 0 (.v d)) h= .ok (.v y) h:=by simp_all
def ZP {w:Wo}(ok:w.Ok) (h:AH): ∀(e:Ex) (m:Nat),e.dp+6<=m->e.wf (w.K++w.T)-> ∃v,Is w e v/\call prog m "value" [.v w.words,.v w.aA,.v (aM e)] h= .ok (.v (.int (v:Int))) h:=by
 have o:=ok.wl.n4
 intro e
 induction e with
 | name t=>
  intro m f wf
  obtain⟨k,rfl⟩: ∃k,m=k+5:=⟨m-5,by omega⟩
  obtain⟨v,x,e⟩:=qD k ok t wf h
  refine⟨v,x,?_⟩
  rw [Ga (d:=xR) rfl _ _ _ rfl]
  simp only [xR]
  show GC _ (execs _ _ (g9 w (aM (.name t)) u0) h)=_
  have p:Gs (k8 (k+4)) (.cmp .eq (.ix .v2 (.int 0)) (.str mT)) (g9 w (aM (.name t)) u0) h= .ok k9 h:=by
   simp only [Gs,eval,aM,Gf,Gj,R.aa,ah,Jo,R.af,xv,GA]
   rfl
  rw [zk p (zc rfl (by simp only [eval,Gg,aM,Gf,Gj,R.aa,ah,wB,R.af,Ab,Ad1,W.bb,e];rfl)),Gb _ _ _ rfl]
 | same=>
  intro m f wf
  obtain⟨k,rfl⟩: ∃k,m=k+5+1:=⟨m-6,by simp [Ex.dp]at f;omega⟩
  exact⟨_,Is.same w,Xm (e:= .same) rfl rfl (pq Zv) (Df k w.n _ h o)⟩
 | all=>
  intro m f wf
  obtain⟨k,rfl⟩: ∃k,m=k+5+1:=⟨m-6,by simp [Ex.dp]at f;omega⟩
  exact⟨_,Is.all w,Xm (e:= .all) rfl rfl (pq Zv) (Cv k w.n _ h o)⟩
 | none=>
  intro m f wf
  obtain⟨k,rfl⟩: ∃k,m=k+5+1:=⟨m-6,by simp [Ex.dp]at f;omega⟩
  exact⟨_,Is.none w,Xm (e:= .none) rfl rfl (pq Zv) (FE k w.n _ h)⟩
 | turned a c=>
  intro m f wf
  simp only [Ex.dp]at f
  obtain⟨k,rfl⟩: ∃k,m=k+5+1:=⟨m-6,by omega⟩
  obtain⟨s,i,j⟩:=c (k+5) (by omega) wf
  exact⟨_,i.turned,Xm (e:= .turned a) rfl rfl (vK Zv (jl j)) (W2 k w.n s h o)⟩
 | closed a c=>
  intro m f wf
  simp only [Ex.dp]at f
  obtain⟨k,rfl⟩: ∃k,m=k+5+1:=⟨m-6,by omega⟩
  obtain⟨s,i,j⟩:=c (k+5) (by omega) wf
  obtain⟨r,u,q⟩:=w5 k w.n s h o i.1
  exact⟨_,i.closed u,Xm (e:= .closed a) rfl rfl (vK Zv (jl j)) q⟩
 | plus a b c g=>
  intro m f wf
  simp only [Ex.dp]at f
  obtain⟨k,rfl⟩: ∃k,m=k+5+1:=⟨m-6,by omega⟩
  obtain⟨s,i,j⟩:=c (k+5) (by omega) wf.1
  obtain⟨t,n,l⟩:=g (k+5) (by omega) wf.2
  exact⟨_,i.plus n,Xm (e:= .plus a b) rfl rfl (W7 Zv (jl j) (jl l)) (DE k w.n s t h)⟩
 | less a b c g=>
  intro m f wf
  simp only [Ex.dp]at f
  obtain⟨k,rfl⟩: ∃k,m=k+5+1:=⟨m-6,by omega⟩
  obtain⟨s,i,j⟩:=c (k+5) (by omega) wf.1
  obtain⟨t,n,l⟩:=g (k+5) (by omega) wf.2
  exact⟨_,i.less n,Xm (e:= .less a b) rfl rfl (W7 Zv (jl j) (jl l)) (FF k w.n s t h)⟩
 | both a b c g=>
  intro m f wf
  simp only [Ex.dp]at f
  obtain⟨k,rfl⟩: ∃k,m=k+5+1:=⟨m-6,by omega⟩
  obtain⟨s,i,j⟩:=c (k+5) (by omega) wf.1
  obtain⟨t,n,l⟩:=g (k+5) (by omega) wf.2
  exact⟨_,i.both n,Xm (e:= .both a b) rfl rfl (W7 Zv (jl j) (jl l)) (AS k w.n s t h)⟩
 | joined a b c g=>
  intro m f wf
  simp only [Ex.dp]at f
  obtain⟨k,rfl⟩: ∃k,m=k+5+1:=⟨m-6,by omega⟩
  obtain⟨s,i,j⟩:=c (k+5) (by omega) wf.1
  obtain⟨t,n,l⟩:=g (k+5) (by omega) wf.2
  exact⟨_,i.joined n,Xm (e:= .joined a b) rfl rfl (W7 Zv (jl j) (jl l)) (Z0 k w.n s t h o)⟩
def XF (x y) (r:List D):aX (x::y::r) 1=y0 y:=by
 have:=Xh (x::y::r) 1 (by simp)
 exact this
def Wo.mv (w:Wo) (o:List Nat):Wo:=⟨w.n,w.K,w.T,w.ks.map (kM w.n o),w.ts.map (tK w.n o)⟩
theorem Wo.Ok.mv {w:Wo}(ok:w.Ok)(h:Od w.n o):(w.mv o).Ok:=⟨ok.hK,ok.hT,ok.nm,⟨ok.wl.n4,by simp [Wo.mv,ok.wl.lk],by simp [Wo.mv,ok.wl.lt],λx a=>by
 obtain⟨y,_,rfl⟩:=Ac1.mp a
 exact mm h y,λx a=>by
 obtain⟨y,_,rfl⟩:=Ac1.mp a
 exact ng h y⟩⟩
def j9 (f) (l:List Nat) (i) (h:i<l.length):(l.map f).getD i 0=f (l.getD i 0):=by
 rw [Ab5,Ab5,Ac4,Aa4 h];rfl
def EN {w:Wo}(ok:w.Ok){o:List Nat}(h:Od w.n o){t:Tx}(e:t∈w.K++w.T){a b:Nat}(c:a<w.n) (d:b<w.n):(w.mv o).at t (pm o a) (pm o b)↔w.at t a b:=by
 unfold Wo.at
 show(if t∈w.T then((w.ts.map _).getD (fM t w.T) 0).testBit (pm o a*w.n+pm o b)=k9 else pm o a=pm o b/\((w.ks.map _).getD (fM t w.K) 0).testBit _=k9)↔_
 by_cases q:t∈w.T
 ·rw [if_pos q,if_pos q,j9 _ _ _ (by rw [ok.wl.lt];exact(qr q).2),lh h _ c d]
 ·have f:=(Ae9.mp e).resolve_right q
  rw [if_neg q,if_neg q,j9 _ _ _ (by rw [ok.wl.lk];exact(qr f).2),lQ h _ c,h.inj c d]
def Mj {n v m:Nat}{o:List Nat}(h:Od n o) (k: ∀a b,a<n->b<n->(m.testBit (pm o a*n+pm o b)=k9↔v.testBit (a*n+b)=k9)){a b:Nat}(i:a<n) (s:b<n):Wf.TC n m (pm o a) (pm o b)↔Wf.TC n v a b:=by
 constructor
 ·have: ∀x y,Wf.TC n m x y-> ∀a b,a<n->b<n->pm o a=x->pm o b=y->Wf.TC n v a b:=by
   intro x y e
   induction e with
   | step d f g=>
    intro a b i j r p
    subst r p
    exact .step i j ((k a b i j).mp g)
   | more e d f g l=>
    intro a b i j r p
    subst r p
    obtain⟨c,q,rfl⟩:=h.cO d
    exact .more (l a c i q rfl rfl) q j ((k c b q j).mp g)
  exact λe=>this _ _ e a b i s rfl rfl
 ·intro e
  induction e with
  | step d f g=>exact .step (h.lt d) (h.lt f) ((k _ _ d f).mpr g)
  | more e d f g l=>exact .more (l d) (h.lt d) (h.lt f) ((k _ _ d f).mpr g)
def Be {w:Wo}(ok:w.Ok){o:List Nat}(h:Od w.n o) (r:AH): ∀(e:Ex),e.wf (w.K++w.T)-> ∀a b,a<w.n->b<w.n->(eA (w.mv o) e (pm o a) (pm o b)↔eA w e a b):=by
 intro e
 induction e with
 | name t=>intro wf a b f g;exact EN ok h wf f g
 | same=>intro wf a b f g;exact h.inj f g
 | all=>intro wf a b f g;exact Iff.rfl
 | none=>intro wf a b f g;exact Iff.rfl
 | turned x q=>intro wf a b f g;exact q wf b a g f
 | closed x q=>
  intro wf a b f g
  obtain⟨v,s,_⟩:=ZP ok r x _ (Aa5 _) wf
  obtain⟨u,k,_⟩:=ZP (ok.mv h) r x _ (Aa5 _) wf
  rw [Qz s,Qz k]
  exact Mj h (λa b f g=>by rw [s.2 a b f g,←q wf a b f g];exact k.2 _ _ (h.lt f) (h.lt g)) f g
 | plus x y j i=>intro wf a b f g;exact or_congr (j wf.1 a b f g) (i wf.2 a b f g)
 | less x y j i=>intro wf a b f g;exact and_congr (j wf.1 a b f g) (not_congr (i wf.2 a b f g))
 | both x y j i=>intro wf a b f g;exact and_congr (j wf.1 a b f g) (i wf.2 a b f g)
 | joined x y j i=>
  intro wf a b f g
  constructor
  ·rintro ⟨c,l,p,m⟩
   obtain⟨d,n,rfl⟩:=h.cO l
   exact⟨d,n,(j wf.1 a d f n).mp p,(i wf.2 d b n g).mp m⟩
  ·rintro ⟨c,l,p,m⟩
   exact⟨pm o c,h.lt l,(j wf.1 a c f l).mpr p,(i wf.2 c b l g).mpr m⟩
def Mv (n:Nat) (o:List Nat) (v c:Nat):Prop:=v<2 ^ (n*n)/\c<2 ^ (n*n)/\ ∀a b,a<n->b<n->(c.testBit (pm o a*n+pm o b)=k9↔v.testBit (a*n+b)=k9)
def Cd (ok:w.Ok)(h:Od w.n o) (i:AH) (e) (wf:e.wf (w.K++w.T))(g:Is w e v) (c:Is (w.mv o) e v'):Mv w.n o v v':=⟨g.1,c.1,λa b d f=>by
 rw [g.2 a b d f,←Be ok h i e wf a b d f];exact c.2 _ _ (h.lt d) (h.lt f)⟩
abbrev tb (n v:Nat) (a b:Nat):Bool:=v.testBit (a*n+b)
def xT (n:Nat) (g:Nat->Nat->Bool) (a:Nat):Nat:=((Aa0 n).map λb=>(g a b).toNat).sum
theorem Wz (g): ∀l:List Nat,(l.filter g).length=(l.map λb=>(g b).toNat).sum
 | []=>rfl
 | x::l=>by
  have a:=Wz g l
  by_cases q:g x=k9
  ·rw [List.filter_cons_of_pos q,Ab8,Ab,Ai0,a,q];simp;omega
  ·have c:=by simpa using q
   rw [List.filter_cons_of_neg q,Ab,Ai0,a,c];simp
def wL (m n):Aa0 ((m+1)*n)=Aa0 (m*n)++(Aa0 n).map (m*n+ ·):=by
 rw [Nat.succ_mul,List.range_add]
def L8 {b:Nat}(a:b<n):(m*n+b) / n=m:=Wf.aD a
theorem vq (n v) (a): ∀m,((((Aa0 (m*n)).filter v.testBit).map (· / n)).count a)=if a<m then xT n (tb n v) a else 0
 | 0=>by simp
 | m+1=>by
  have d:=vq n v a m
  rw [wL,An0,Ac6,List.count_append,d,List.filter_map,Ac5]
  have e:((Aa0 n).filter (v.testBit∘(m*n+ ·))).map ((· / n)∘(m*n+ ·))=Aa9 ((Aa0 n).filter (v.testBit∘(m*n+ ·))).length m:=by
   rw [List.eq_replicate_iff]
   refine⟨by simp,λx f=> ?_⟩
   obtain⟨b,h,rfl⟩:=Ac1.mp f
   exact L8 (Ab3.mp (Ae.mp h).1)
  rw [e,List.count_replicate,Wz]
  by_cases q:a=m
  ·subst q
   simp [xT,tb]
  ·have g: ¬(m==a)=true:=by simp;exact λe=>q e.symm
   rw [if_neg g]
   by_cases c:a<m
   ·rw [if_pos c,if_pos (by omega)];omega
   ·rw [if_neg c,if_neg (by omega)]
def CG (b:a<n):((Wf.ao n v).map (·.1)).count a=xT n (tb n v) a:=by
 have:=vq n v a n
 rw [if_pos b]at this
 rw [← this,Wf.ao,Ac5]
 rfl
theorem p6 (n v): ∀m,((Aa0 (m*n)).filter v.testBit).length=((Aa0 m).map (xT n (tb n v))).sum
 | 0=>by simp
 | m+1=>by
  have a:=p6 n v m
  rw [wL,An0,Ab2,a,List.filter_map,Aa,Wz,List.range_succ,Ac6,List.sum_append]
  simp [xT,tb]
def EX (n v):(Wf.ao n v).length=((Aa0 n).map (xT n (tb n v))).sum:=by
 rw [Wf.ao,Aa,p6]
abbrev je:Tx:= [108,101,97,115,116]
abbrev Wk:Tx:= [109,111,115,116]
abbrev jd:Tx:= [101,97,99,104,108,101,97,115,116]
abbrev Zh:Tx:= [101,97,99,104,109,111,115,116]
abbrev fG:Tx:= [105,110]
abbrev Xj:Tx:= [101,113,117,97,108]
abbrev zp:Tx:= [115,111,109,101]
abbrev fA:Tx:= [110,111]
def jM (s a b) (h):Gw .mem (.v (.str s)) (.v (.tup [.str a,.str b])) h=y0 (u9 (s∈ [a,b])):=JW s [a,b] (.v (.tup [.str a,.str b])) h rfl rfl
def rows (n v:Nat):List Nat:=(Aa0 n).map (xT n (tb n v))
def fc (n v:Nat) (s:Tx):List Nat:=if s∈ [je,Wk]then [(rows n v).sum]else rows n v
def Bd (l:List Nat) (a:Nat):(l.map λ(x:Nat)=>(x:Int)).count (a:Int)=l.count a:=by
 induction l with
 | nil=>rfl
 | cons x l b=>
  rw [Ab,List.count_cons,List.count_cons,b]
  by_cases q:x=a
  ·simp [q]
  ·have: ¬(x=(a:Int)):=by lia
   simp [q,this]
def Bp (k n v:Nat) (s) (l:n<=4) (h):call prog (k+2) "counts" [.v (.int (n:Int)),.v (.str s),.v (.int (v:Int))] h= .ok (.own (ag (fc n v s))) h:=by
 rw [Ga rfl _ _ _ rfl]
 simp only [yP]
 show GC _ (execs _ _ [y0 (.v (.int (n:Int))),y0 (.v (.str s)),y0 (.v (.int (v:Int))),u0,u0] h)=_
 refine fx (by simp_all [Js k n v h (by omega)];rfl) ?_
 by_cases q:s∈ [je,Wk]
 ·rw [jb,Gu _ _ _ rfl]
  rw [Zr (h1:=h) (by simp_all [jM,decide_eq_true q])]
  refine jb (Jm rfl ?_)
  simp only [eval,Gm,Gg,Gf,Gj,R.aa,zr,W.eD,R.af,Aa,EX]
  rw [fc,if_pos q]
  rfl
 ·refine fx (by simp_all [jM,decide_eq_false q];rfl) ?_
  have i:eval (k8 (k+1)) jz [y0 (.v (.int (n:Int))),y0 (.v (.str s)),y0 (.v (.int (v:Int))),y0 (.v (.lst ((Wf.ao n v).map pD))),u0] h= .ok (.own (ag ((Wf.ao n v).map (·.1)))) h:=by
   rw [jz,Xz (λd=>match d with | .tup [x,_]=>x | d=>d) (by simp_all []) (JF n v (by omega))]
   ·simp [pD,ag,Function.comp_def]
   ·intro d f
    obtain⟨p,_,rfl⟩:=Ac1.mp f
    exact⟨_,rfl,_,rfl,rfl⟩
  have g:eval (k8 (k+1)) wy [y0 (.v (.int (n:Int))),y0 (.v (.str s)),y0 (.v (.int (v:Int))),y0 (.v (.lst ((Wf.ao n v).map pD))),y0 (.v (.lst (ag ((Wf.ao n v).map (·.1)))))] h= .ok (.own (ag (rows n v))) h:=by
   rw [wy,uD (λa=> .int ((xT n (tb n v) a:Nat):Int)) rfl (by omega) λa b=>⟨.v (.int ((xT n (tb n v) a:Nat):Int)),?_,rfl⟩]
   ·rw [ag,rows,Ac5];rfl
   ·have e:((((Wf.ao n v).map (·.1)).map λ(x:Nat)=>(x:Int))).length<=aY:=by
     have:=JF n v (show n<=20 by omega)
     simpa using this
    have c:lD .count (.v (.lst (ag ((Wf.ao n v).map (·.1))))) [.v (.int (a:Int))] h= .ok (.v (.int ((xT n (tb n v) a:Nat):Int))) h:=by
     show(R.of h ((y0 (ag ((Wf.ao n v).map (·.1)))).bind GG)).bind _=_
     rw [Ag4,zD,R.af,R.aa]
     show(R.of h (y0 (a:Int))).bind _=_
     rw [R.af,R.aa,if_pos e,Bd,CG b]
    have j:lE .count (.v (.lst (ag ((Wf.ao n v).map (·.1))))) h=true:=rfl
    simp only [eval,Gg,Gf,Gj,Ab,Ad1,R.aa,j,if_true,c]
  rw [za (Y1:= [y0 (.v (.int (n:Int))),y0 (.v (.str s)),y0 (.v (.int (v:Int))),y0 (.v (.lst ((Wf.ao n v).map pD))),y0 (.v (.lst (ag ((Wf.ao n v).map (·.1)))))]) (h1:=h) (by rw [exec,i];rfl)]
  rw [jb (Jm rfl g),Gu _ _ _ rfl,fc,if_neg q]
inductive Fc where
 | g0 (a b:Ex)
 | ib (a b:Ex)
 | hO (a:Ex)
 | au (a:Ex)
 | cnt (s:Tx) (k:Nat) (a:Ex)
def d3:Fc->D
 | .g0 a b=> .tup [.str fG,aM a,aM b]
 | .ib a b=> .tup [.str Xj,aM a,aM b]
 | .hO a=> .tup [.str zp,aM a]
 | .au a=> .tup [.str fA,aM a]
 | .cnt s k a=> .tup [.str s,.int (k:Int),aM a]
def Fc.wf (N:List Tx):Fc->Prop
 | .g0 a b=>a.wf N/\b.wf N
 | .ib a b=>a.wf N/\b.wf N
 | .hO a=>a.wf N
 | .au a=>a.wf N
 | .cnt s _ a=>s∈ [je,Wk,jd,Zh]/\a.wf N
def Fc.dp:Fc->Nat
 | .g0 a b=>max a.dp b.dp
 | .ib a b=>max a.dp b.dp
 | .hO a=>a.dp
 | .au a=>a.dp
 | .cnt _ _ a=>a.dp
def Qs {p:Nat->Nat->Bool}:((Aa0 n).all λa=>(Aa0 n).all λb=>p a b)=k9↔ ∀a b,a<n->b<n->p a b=true:=by
 simp [Ab3]
 exact⟨λh a b c d=>h a c b d,λh a c b d=>h a b c d⟩
def J7 (c:s<2 ^ (n*n)):u9 (s-(s &&& t)=0)=(Aa0 n).all λa=>(Aa0 n).all λb=>(tb n s a b&&tb n t a b)==tb n s a b:=by
 rw [Ad4,decide_eq_true_eq,Qs]
 constructor
 ·intro e a b d f
  have:=Wf.bu s t (a*n+b)
  cases q:s.testBit (a*n+b)<;>cases r:t.testBit (a*n+b)<;>simp_all
 ·intro e
  refine Af0 λk=> ?_
  rw [Wf.bu,Nat.zero_testBit]
  by_cases q:k<n*n
  ·have:=e _ _ (Wf.aR q) (Wf.aI q)
   simp only [tb,Wf.aS]at this
   cases a:s.testBit k<;>cases b:t.testBit k<;>simp_all
  ·have:s.testBit k=false:=Ae3 (Ab0 c (Ac8 (by decide) (by omega)))
   rw [this];rfl
def yD (c:s<2 ^ (n*n)) (f:t<2 ^ (n*n)):u9 (s=t)=(Aa0 n).all λa=>(Aa0 n).all λb=>tb n s a b==tb n t a b:=by
 rw [Ad4,decide_eq_true_eq,Qs]
 constructor
 ·rintro rfl a b _ _
  simp
 ·intro e
  exact JZ c f λx y g d=>by
   have:=e x y g d
   rw [beq_iff_eq]at this
   exact Ad4.mp this
def zb (s X) (h):Gs F (.cmp .eq .v3 (.str X)) [a,b,c,y0 (.v (.str s))] h= .ok (s==X) h:=by
 simp only [Gs,eval,Gf,Gj,R.aa,xv,R.af,GA]
abbrev pM (w:Wo) (d:D) (s:Tx):Sl:= [y0 (.v w.words),y0 (.v w.aA),y0 (.v d),y0 (.v (.str s))]
def jk 
 (q:execs (k8 m) (match ba.body with | .cons _ r=>r | r=>r) (pM w (.tup (.str s::ds)) s) h= .ret (.v (.bl b)) h):call prog (m+1) "keeps" [.v w.words,.v w.aA,.v (.tup (.str s::ds))] h= .ok (.v (.bl b)) h:=by
 rw [Ga rfl _ _ _ rfl]
 simp only [ba]at q ⊢
 show GC _ (execs _ _ [y0 _,y0 _,y0 _,u0] h)=_
 rw [za (Y1:=pM w (.tup (.str s::ds)) s) (h1:=h) (by simp_all [ah,Jo]),q,Gb _ _ _ rfl]
section
variable {m:Nat}{w:Wo}{h:AH}
def ua {s t:Nat}(c:call prog (m+1) "value" [.v w.words,.v w.aA,.v (aM a)] h= .ok (.v (.int (s:Int))) h) (e:call prog (m+1) "value" [.v w.words,.v w.aA,.v (aM b)] h= .ok (.v (.int (t:Int))) h):
 call prog (m+2) "keeps" [.v w.words,.v w.aA,.v (d3 (.g0 a b))] h= .ok (.v (.bl (decide (s-(s &&& t)=0)))) h:=by
 refine jk ?_
 simp only [ba]
 have d:Gw .eq _ (.v (.int 0)) h=y0 (u9 (s-(s &&& t)=0)):=wP _ 0 h
 rw [Za (zb _ _ _),Za (zb _ _ _),Za (zb _ _ _),zk (zb _ _ _) (zc rfl (by simp only [eval,Gg,Gf,Gj,R.aa,ah,XF,QR,R.af,Ab,Ad1,W.bb,c,e,QX m s t h,d];rfl))]
def yK {s t:Nat}(d:call prog (m+1) "value" [.v w.words,.v w.aA,.v (aM a)] h= .ok (.v (.int (s:Int))) h) (c:call prog (m+1) "value" [.v w.words,.v w.aA,.v (aM b)] h= .ok (.v (.int (t:Int))) h):
 call prog (m+2) "keeps" [.v w.words,.v w.aA,.v (d3 (.ib a b))] h= .ok (.v (.bl (decide (s=t)))) h:=by
 refine jk ?_
 simp only [ba]
 rw [Za (zb _ _ _),Za (zb _ _ _),Za (zb _ _ _),Za (zb _ _ _),zk (zb _ _ _) (zc rfl (by simp only [eval,Gg,Gf,Gj,R.aa,ah,XF,QR,R.af,Ab,Ad1,W.bb,d,c,wP];rfl))]
def ud {s:Nat}(b:call prog (m+1) "value" [.v w.words,.v w.aA,.v (aM a)] h= .ok (.v (.int (s:Int))) h):
 call prog (m+2) "keeps" [.v w.words,.v w.aA,.v (d3 (.hO a))] h= .ok (.v (.bl (!decide (s=0)))) h:=by
 refine jk ?_
 simp only [ba]
 have d:Gw .ne (.v (.int s)) (.v (.int 0)) h=y0 (!u9 (s=0)):=by
  have this:Gw .eq _ (.v (.int 0)) h=y0 _:=wP s 0 h
  rw [oO]at this
  rw [HM]
  split at this
  ·rename_i c
   rw [if_pos c]
   have:=Ae2.inj this
   rw [← this]
  ·cases this
 rw [Za (zb _ _ _),Za (zb _ _ _),Za (zb _ _ _),Za (zb _ _ _),Za (zb _ _ _),zk (zb _ _ _) (zc rfl (by simp only [eval,Gg,Gf,Gj,R.aa,ah,XF,R.af,Ab,Ad1,W.bb,b,d];rfl))]
def tq {s:Nat}(b:call prog (m+1) "value" [.v w.words,.v w.aA,.v (aM a)] h= .ok (.v (.int (s:Int))) h):
 call prog (m+2) "keeps" [.v w.words,.v w.aA,.v (d3 (.au a))] h= .ok (.v (.bl (decide (s=0)))) h:=by
 refine jk ?_
 simp only [ba]
 have c:Gw .eq _ (.v (.int 0)) h=y0 _:=wP s 0 h
 rw [Za (zb _ _ _),Za (zb _ _ _),Za (zb _ _ _),Za (zb _ _ _),Za (zb _ _ _),Za (zb _ _ _),zk (zb _ _ _) (zc rfl (by simp only [eval,Gg,Gf,Gj,R.aa,ah,XF,R.af,Ab,Ad1,W.bb,b,c];rfl))]
end
def gA (s:Tx) (k:Nat) (l:List Nat):Bool:=if s∈ [je,jd]then l.all λx=>u9 (k<=x)else l.all λx=>u9 (x<=k)
def AO (n v) (s) (a:n<=4):(ag (fc n v s)).length<=aY:=by
 rw [Gi,ag,Aa,fc]
 split
 ·simp
 ·simp [rows];lia
noncomputable abbrev pW (w:Wo) (d:D) (k:Nat) (l:List Nat):Sl:= [y0 (.v w.words),y0 (.v w.aA),y0 (.v d),y0 (.v (.int (k:Int))),y0 (.v (.lst (ag l)))]
def IU (a:(ag l).length<=aY):eval F Qi (pW w d k l) h= .ok (.own ((l.map λx=>u9 (k<=x)).map .bl)) h:=by
 rw [Qi,Xz (λd=>match d with | .int x=> .bl (u9 (k<=x)) | d=>d) (by simp_all []) a]
 ·simp [Function.comp_def]
 ·intro d b
  obtain⟨x,_,rfl⟩:=Ac1.mp b
  refine⟨[y0 _,y0 _],rfl,.v _,?_,rfl⟩
  simp_all [nV]
def L7 (a:(ag l).length<=aY):eval F qj (pW w d k l) h= .ok (.own ((l.map λx=>u9 (x<=k)).map .bl)) h:=by
 rw [qj,Xz (λd=>match d with | .int x=> .bl (u9 (x<= k)) | d=>d) (by simp_all []) a]
 ·simp [Function.comp_def]
 ·intro d b
  obtain⟨x,_,rfl⟩:=Ac1.mp b
  refine⟨[y0 _,y0 _],rfl,.v _,?_,rfl⟩
  simp_all [KC]
def zO {w:Wo}(b:w.n<=4){k v:Nat}(d:call prog (m+2) "value" [.v w.words,.v w.aA,.v (aM a)] h= .ok (.v (.int (v:Int))) h):
 call prog (m+3) "keeps_count" [.v w.words,.v w.aA,.v (d3 (.cnt s k a))] h= .ok (.v (.bl (gA s k (fc w.n v s)))) h:=by
 rw [Ga rfl _ _ _ rfl]
 simp only [zy,d3]
 show GC _ _=_
 have e:dN (.v w.aA) (.v (.int 0)) h=y0 _:=rfl
 have c:=AO w.n v s b
 rw [za (Y1:= [y0 _,y0 _,y0 _,y0 _,u0]) (h1:=h) rfl]
 refine fx (by simp_all [e,ah,Jo,QR,d,Bp m w.n v s b h];rfl) ?_
 by_cases q:s∈ [je,jd]
 ·rw [jb (w:= .v _) (h1:=h),Gb _ _ _ rfl]
  rw [Zr (h1:=h) (by simp_all [ah,Jo,jM,decide_eq_true q])]
  refine jb (zc rfl ?_)
  rw [qx (IU c),my,gA,if_pos q]
 ·refine fx (by simp_all [ah,Jo,jM,decide_eq_false q];rfl) ?_
  rw [jb (w:= .v _) (h1:=h) (zc rfl ?_),Gb _ _ _ rfl]
  rw [qx (L7 c),my,gA,if_neg q]
def sR {m:Nat}{w:Wo}(c:w.n<=4){h:AH}{s:Tx}(b:s∈ [je,Wk,jd,Zh]){k v:Nat}{a:Ex}(d:call prog (m+2) "value" [.v w.words,.v w.aA,.v (aM a)] h= .ok (.v (.int (v:Int))) h):
 call prog (m+4) "keeps" [.v w.words,.v w.aA,.v (d3 (.cnt s k a))] h= .ok (.v (.bl (gA s k (fc w.n v s)))) h:=by
 refine jk (m:=m+3) ?_
 have e:=zO (m:=m) c (s:=s) (k:=k) d
 simp only [d3]at e
 have ne: ∀X,X∈ [mU,kW,[111,114],fG,Xj,zp,fA]->(s==X)=false:=by
  intro X f
  have: ∀s,s∈ [je,Wk,jd,Zh]-> ∀X,X∈ [(mU:Tx),kW,[111,114],fG,Xj,zp,fA]->(s==X)=false:=by decide
  exact this s b X f
 simp only [ba]
 rw [Za ((zb _ _ _).trans (by rw [ne _ (by decide)])),Za ((zb _ _ _).trans (by rw [ne _ (by decide)])),Za ((zb _ _ _).trans (by rw [ne _ (by decide)])),Za ((zb _ _ _).trans (by rw [ne _ (by decide)])),Za ((zb _ _ _).trans (by rw [ne _ (by decide)])),Za ((zb _ _ _).trans (by rw [ne _ (by decide)])),Za ((zb _ _ _).trans (by rw [ne _ (by decide)])),jb (zc rfl (by assumption))]
abbrev oQ:Tx:= [110,111,116]
abbrev mQ:Tx:= [97,110,100]
abbrev mK:Tx:= [111,114]
inductive Sy where
 | fact (f:Fc)
 | neg (a:Sy)
 | cV (a b:Sy)
 | dW (a b:Sy)
def aK:Sy->D
 | .fact f=>d3 f
 | .neg a=> .tup [.str oQ,aK a]
 | .cV a b=> .tup [.str mQ,aK a,aK b]
 | .dW a b=> .tup [.str mK,aK a,aK b]
def Sy.wf (N:List Tx):Sy->Prop
 | .fact f=>f.wf N
 | .neg a=>a.wf N
 | .cV a b=>a.wf N/\b.wf N
 | .dW a b=>a.wf N/\b.wf N
def Sy.dp:Sy->Nat
 | .fact f=>f.dp
 | .neg a=>a.dp+1
 | .cV a b=>max a.dp b.dp+1
 | .dW a b=>max a.dp b.dp+1
section
variable {m:Nat}{w:Wo}{h:AH}{d e:D}{a b:Bool}
def yz (b:call prog m "keeps" [.v w.words,.v w.aA,.v d] h= .ok (.v (.bl a)) h):call prog (m+1) "keeps" [.v w.words,.v w.aA,.v (.tup [.str oQ,d])] h= .ok (.v (.bl (!a))) h:=by
 refine jk ?_
 simp only [ba]
 rw [zk (zb _ _ _) (zc rfl (by simp only [eval,Gg,Gf,Gj,R.aa,ah,XF,R.af,Ab,Ad1,W.bb,b,GA];rfl))]
def uv (f:call prog m "keeps" [.v w.words,.v w.aA,.v d] h= .ok (.v (.bl a)) h) (c:call prog m "keeps" [.v w.words,.v w.aA,.v e] h= .ok (.v (.bl b)) h):call prog (m+1) "keeps" [.v w.words,.v w.aA,.v (.tup [.str mQ,d,e])] h= .ok (.v (.bl (a&&b))) h:=by
 refine jk ?_
 simp only [ba]
 rw [Za (zb _ _ _),zk (zb _ _ _) (zc rfl ?_)]
 cases a<;>simp only [eval,Gg,Gf,Gj,R.aa,ah,XF,QR,R.af,Ab,Ad1,W.bb,f,c,GA,Al3]<;>rfl
def vV (f:call prog m "keeps" [.v w.words,.v w.aA,.v d] h= .ok (.v (.bl a)) h) (c:call prog m "keeps" [.v w.words,.v w.aA,.v e] h= .ok (.v (.bl b)) h):call prog (m+1) "keeps" [.v w.words,.v w.aA,.v (.tup [.str mK,d,e])] h= .ok (.v (.bl (a||b))) h:=by
 refine jk ?_
 simp only [ba]
 rw [Za (zb _ _ _),Za (zb _ _ _),zk (zb _ _ _) (zc rfl ?_)]
 cases a<;>simp only [eval,Gg,Gf,Gj,R.aa,ah,XF,QR,R.af,Ab,Ad1,W.bb,f,c,GA,Bool.false_or]<;>rfl
end
def vH (h:Od n o) (p:Nat->Nat->Bool):((Aa0 n).all λa=>(Aa0 n).all λb=>p a b)=(Aa0 n).all λa=>(Aa0 n).all λb=>p (pm o a) (pm o b):=by
 rw [Ad4,Qs,Qs]
 constructor
 ·exact λk a b c d=>k _ _ (h.lt c) (h.lt d)
 ·intro k x y f e
  obtain⟨a,c,rfl⟩:=h.cO f
  obtain⟨b,d,rfl⟩:=h.cO e
  exact k a b c d
theorem Mv.tb (m:Mv n o v v')(c:a<n) (d:b<n):tb n v' (pm o a) (pm o b)=tb n v a b:=Ad4.mpr (m.2.2 a b c d)
def uq {p q:Nat->Nat->Bool}(h: ∀a b,a<n->b<n->p a b=q a b):((Aa0 n).all λa=>(Aa0 n).all λb=>p a b)=(Aa0 n).all λa=>(Aa0 n).all λb=>q a b:=by
 rw [Ad4,Qs,Qs]
 exact⟨λk a b c d=>(h a b c d)▸k a b c d,λk a b c d=>(h a b c d).symm▸k a b c d⟩
def yT (h:Od n o)(m:Mv n o v v') (k:Mv n o u u'):u9 (v'-(v' &&& u')=0)=u9 (v-(v &&& u)=0):=by
 rw [J7 m.2.1,J7 m.1,vH h]
 exact uq λa b c d=>by rw [m.tb c d,k.tb c d]
def rT (h:Od n o)(m:Mv n o v v') (k:Mv n o u u'):u9 (v'=u')=u9 (v=u):=by
 rw [yD m.2.1 k.2.1,yD m.1 k.1,vH h]
 exact uq λa b c d=>by rw [m.tb c d,k.tb c d]
def tr (h:Od n o)(m:Mv n o v v'):u9 (v'=0)=u9 (v=0):=by
 have z:Mv n o 0 0:=⟨Aj _,Aj _,λa b _ _=>by simp⟩
 exact rT h m z
def Od.lT (h:Od n o)(f:Nat->α):o.map f=(Aa0 n).map λb=>f (pm o b):=by
 have:=congrArg (An f) h.map
 rw [Ac5]at this
 exact this
def Dq (h:Od n o)(m:Mv n o v v')(c:a<n):xT n (tb n v') (pm o a)=xT n (tb n v) a:=by
 rw [xT,xT]
 have p:((Aa0 n).map λb=>(tb n v' (pm o a) b).toNat).Perm _:=(h.p.map _).symm
 rw [p.sum_nat,h.lT]
 congr 1
 refine Ad7 λb d=> ?_
 rw [m.tb c (Ab3.mp d)]
def Bx (h:Od n o)(m:Mv n o v v'):(rows n v').Perm (rows n v):=by
 rw [rows,rows]
 have p:((Aa0 n).map (xT n (tb n v'))).Perm _:=(h.p.map _).symm
 refine p.trans ?_
 have e:o.map (xT n (tb n v'))=(Aa0 n).map (xT n (tb n v)):=by
  rw [h.lT]
  exact Ad7 λa b=>Dq h m (Ab3.mp b)
 rw [e]
def Hq (h:Od n o)(m:Mv n o v v') (s) (j):gA s j (fc n v' s)=gA s j (fc n v s):=by
 have p:=Bx h m
 rw [fc,fc]
 split
 ·rw [p.sum_nat]
 ·rw [gA,gA]
  split
  ·exact p.all_eq
  ·exact p.all_eq
def tj (ok:w.Ok) (h) (e) (wf:e.wf (w.K++w.T)): ∃v,Is w e v/\ ∀m,e.dp+6<=m->call prog m "value" [.v w.words,.v w.aA,.v (aM e)] h= .ok (.v (.int (v:Int))) h:=by
 obtain⟨v,c,_⟩:=ZP ok h e _ (Aa5 _) wf
 refine⟨v,c,λm j=> ?_⟩
 obtain⟨u,g,i⟩:=ZP ok h e m j wf
 rw [i,JZ g.1 c.1 λa b d f=>by rw [g.2 a b d f,c.2 a b d f]]
def Iw {w:Wo}(ok:w.Ok)(l:Od w.n o) (h) (f) (wf:f.wf (w.K++w.T)): ∃b,∀m,f.dp+6<=m->call prog (m+2) "keeps" [.v w.words,.v w.aA,.v (d3 f)] h= .ok (.v (.bl b)) h/\call prog (m+2) "keeps" [.v (w.mv o).words,.v (w.mv o).aA,.v (d3 f)] h= .ok (.v (.bl b)) h:=by
 have z:=ok.wl.n4
 have t:=ok.mv l
 have both: ∀e:Ex,e.wf (w.K++w.T)-> ∃v d,Mv w.n o v d/\(∀ m,e.dp+6<=m->call prog m "value" [.v w.words,.v w.aA,.v (aM e)] h= .ok (.v (.int (v:Int))) h)/\(∀ m,e.dp+6<=m->call prog m "value" [.v (w.mv o).words,.v (w.mv o).aA,.v (aM e)] h= .ok (.v (.int (d:Int))) h):=by
  intro e p
  obtain⟨v,B,c⟩:=tj ok h e p
  obtain⟨d,q,n⟩:=tj t h e p
  exact⟨v,d,Cd ok l h e p B q,c,n⟩
 cases f with
 | g0 x y=>
  obtain⟨v,d,mv,c,a⟩:=both x wf.1
  obtain⟨u,A,r,n,i⟩:=both y wf.2
  refine⟨u9 (v-(v &&& u)=0),λm g=> ?_⟩
  simp only [Fc.dp]at g
  refine⟨ua (c _ (by omega)) (n _ (by omega)),?_⟩
  rw [← yT l mv r]
  exact ua (a _ (by omega)) (i _ (by omega))
 | ib x y=>
  obtain⟨v,d,mv,c,a⟩:=both x wf.1
  obtain⟨u,A,r,n,i⟩:=both y wf.2
  refine⟨u9 (v=u),λm g=> ?_⟩
  simp only [Fc.dp]at g
  refine⟨yK (c _ (by omega)) (n _ (by omega)),?_⟩
  rw [← rT l mv r]
  exact yK (a _ (by omega)) (i _ (by omega))
 | hO x=>
  obtain⟨v,d,mv,c,a⟩:=both x wf
  refine⟨!u9 (v=0),λm g=> ?_⟩
  simp only [Fc.dp]at g
  refine⟨ud (c _ (by omega)),?_⟩
  rw [← tr l mv]
  exact ud (a _ (by omega))
 | au x=>
  obtain⟨v,d,mv,c,a⟩:=both x wf
  refine⟨u9 (v=0),λm g=> ?_⟩
  simp only [Fc.dp]at g
  refine⟨tq (c _ (by omega)),?_⟩
  rw [← tr l mv]
  exact tq (a _ (by omega))
 | cnt s j x=>
  obtain⟨v,d,mv,c,a⟩:=both x wf.2
  refine⟨gA s j (fc w.n v s),λm g=> ?_⟩
  simp only [Fc.dp]at g
  obtain⟨k,rfl⟩: ∃k,m=k+2:=⟨m-2,by omega⟩
  refine⟨sR z wf.1 (c _ (by omega)),?_⟩
  rw [← Hq l mv]
  exact sR (w:=w.mv o) z wf.1 (a _ (by omega))
def Dl {w:Wo}(ok:w.Ok){o:List Nat}(u:Od w.n o) (h:AH): ∀(s:Sy),s.wf (w.K++w.T)-> ∃b,∀m,s.dp+6<=m->call prog (m+2) "keeps" [.v w.words,.v w.aA,.v (aK s)] h= .ok (.v (.bl b)) h/\call prog (m+2) "keeps" [.v (w.mv o).words,.v (w.mv o).aA,.v (aK s)] h= .ok (.v (.bl b)) h:=by
 intro s
 induction s with
 | fact f=>intro wf;exact Iw ok u h f wf
 | neg a t=>
  intro wf
  obtain⟨b,e⟩:=t wf
  refine⟨!b,λm n=> ?_⟩
  simp [Sy.dp]at n
  obtain⟨k,rfl⟩: ∃k,m=k+1:=⟨m-1,by lia⟩
  have⟨l,p⟩:=e k (by lia)
  exact⟨yz l,yz p⟩
 | cV a c g d=>
  intro wf
  obtain⟨b,e⟩:=g wf.1
  obtain⟨q,r⟩:=d wf.2
  refine⟨b&&q,λm n=> ?_⟩
  simp [Sy.dp]at n
  obtain⟨k,rfl⟩: ∃k,m=k+1:=⟨m-1,by lia⟩
  have⟨l,p⟩:=e k (by lia)
  have⟨j,i⟩:=r k (by lia)
  exact⟨uv l j,uv p i⟩
 | dW a c g d=>
  intro wf
  obtain⟨b,e⟩:=g wf.1
  obtain⟨q,r⟩:=d wf.2
  refine⟨b||q,λm n=> ?_⟩
  simp [Sy.dp]at n
  obtain⟨k,rfl⟩: ∃k,m=k+1:=⟨m-1,by lia⟩
  have⟨l,p⟩:=e k (by lia)
  have⟨j,i⟩:=r k (by lia)
  exact⟨vV l j,vV p i⟩
def xB (n:Nat) (rows:List (List Nat)):List (List Nat):=rows.flatMap λr=>((Aa0 n).filter λx=> !u9 (x∈r)).map λx=>r++ [x]
def wm (n:Nat):Nat->List (List Nat)
 | 0=> [[]]
 | j+1=>xB n (wm n j)
abbrev bT (rows:List (List Nat)):List D:=rows.map λr=> .tup (ag r)
def Jc (r:List Nat):List Int:=r.map λ(x:Nat)=>(x:Int)
def vJ (n:Nat):Bool:=u9 ((wm n n).length= [1,1,2,6,24].getD n 0)&&((wm n n).all λr=>u9 (nr (Jc r)=Jc (Aa0 n))&&u9 (r.length=n))&&((Aa0 ((wm n n).length-1)).all λk=>GT (Jc ((wm n n).getD k [])) (Jc ((wm n n).getD (k+1) [])))&&((Aa0 (n+1)).all λj=>u9 ((wm n j).length<=24)&&(wm n j).all λr=>u9 (r.length<=4))
def EF: ∀n,n<5->vJ n=true:=by decide +kernel
structure BE (n:Nat):Prop where
 len:(wm n n).length= [1,1,2,6,24].getD n 0
 Mu: ∀r∈wm n n,nr (Jc r)=Jc (Aa0 n)
 ln: ∀r∈wm n n,r.length=n
 lex: ∀k,k+1<(wm n n).length->GT (Jc ((wm n n).getD k [])) (Jc ((wm n n).getD (k+1) []))=k9
 oy: ∀j,j<=n->(wm n j).length<=24
 sX: ∀j,j<=n-> ∀r∈wm n j,r.length<=4
def mZ (n) (g:n<=4):BE n:=by
 have h:=EF n (by lia)
 unfold vJ at h
 simp only [Aa6,decide_eq_true_eq,Ad8]at h
 obtain⟨⟨⟨e,b⟩,f⟩,c⟩:=h
 exact⟨e,λr a=>(b r a).1,λr a=>(b r a).2,λk i=>f k (Ab3.mpr (by lia)),λj d=>(c j (Ab3.mpr (by lia))).1,λj d r a=>(c j (Ab3.mpr (by lia))).2 r a⟩
def yp (k) (d) (h) (c:Gc d=k9):call prog (k+3) "is_size" [.v d] h= .ok (.v (.bl (We d 5))) h:=by
 rw [Ga rfl _ _ _ rfl]
 have b:=qm k d 5 h c
 have e:prog.con.lookup "GREATEST_SIZE" =some _:=rfl
 have a:(4:Int)+1=5:=rfl
 simp only [JS]
 simp_all [e,Zc,a,b]
def QZ (k) (d) (h) (c:Gc d=k9) (b:We d 5=k9):call prog (k+4) "check_size" [.v d] h= .ok (.v .au) h:=by
 rw [Ga rfl _ _ _ rfl]
 have a:=yp k d h c
 rw [b]at a
 simp only [jq]
 rw [Za (by simp_all [a])]
 simp_all []
def Bt (k) (d) (h) (c:Gc d=k9) (b:We d 5=y9):call prog (k+4) "check_size" [.v d] h= .exc (.exc "NoSize" []) h:=by
 rw [Ga rfl _ _ _ rfl]
 have a:=yp k d h c
 rw [b]at a
 simp only [jq]
 rw [execs,Zr (h1:=h) (by simp_all [a]),Xa]
 simp_all []
theorem uh (b:Nat): ∀l:List Nat,inD (.int (b:Int)) (ag l)=u9 (b∈l)
 | []=>rfl
 | x::l=>by
  have:=uh b l
  simp only [inD,Ab,Af,b0,Ab9]at this ⊢
  rw [this,Ad4]
  simp only [Am2,beq_iff_eq,decide_eq_true_eq]
  constructor
  ·rintro (h | h)
   ·exact .inl (by omega)
   ·exact .inr h
  ·rintro (h | h)
   ·exact .inl (by omega)
   ·exact .inr h
def EE (l):(ag l).all GQ=true:=by
 rw [Am1,Ad8];exact λ_ _=>rfl
def sd (b:Nat) (l) (h):Gw .dE (.v (.int (b:Int))) (.v (.tup (ag l))) h=y0 (!u9 (b∈l)):=by
 show(Kc _ _ h).map _=_
 have:Kc (.v (.int b)) (.v (.tup (ag l))) h=y0 (u9 (b∈l)):=by
  show(if GQ _&&(ag l).all GQ then y0 (inD _ _)else Ku _ _ h)=_
  rw [EE,uh];rfl
 rw [this];rfl
def qH (F) (a) (Y) (h):Gr F (.av a) Y h=Gk F (.av a) Y h:=rfl
theorem rn {n:Nat}(c:n<=4) (h): ∀ rows j x,(∀ r∈rows,r.length<=4)->j.length+rows.length*4<=1000-> ∃J,
 Gq (Gn [3] k9) (λY h=>execs F Wg Y h) (bT rows) [y0 w,y0 (.v (.int (n:Int))),y0 (.own (bT j)),x] h= .next [y0 w,y0 (.v (.int (n:Int))),y0 (.own (bT (j++xB n rows))),J] h
 | [],j,x,_,_=>⟨x,by simp [xB]⟩
 | r::rows,j,x,d,f=>by
  have p:((Aa0 n).filter λx=> !u9 (x∈r)).length<=4:=Ac (Ad6 _ _) (by simp;exact c)
  rw [Ab8]at f
  obtain⟨J,e⟩:=rn c h rows (j++((Aa0 n).filter λx=> !u9 (x∈r)).map λx=>r++ [x]) (y0 (.v (.tup (ag r)))) (λq k=>d q (Aa1 _ k)) (by rw [Ab2,Aa];omega)
  refine⟨J,?_⟩
  have b:eval F Qg [y0 w,y0 (.v (.int n)),y0 (.own (bT j)),y0 (.v (.tup (ag r)))] h= .ok (.own (((Aa0 n).filter λx=> !u9 (x∈r)).map λx=> .tup (ag (r++ [x])))) h:=by
   rw [Qg]
   refine jQ _ _ rfl (by omega) λi o=>⟨?_,.v (.tup (ag (r++ [i]))),?_,rfl⟩
   ·have:=sd i r h
    simp_all [this]
   ·have a:(ag r).length+ [D.int i].length<=aY:=by
     have:=d r Aa3
     rw [Gi,Aa,Af7];omega
    have g:ag (r++ [i])=ag r++ [.int i]:=by simp
    rw [g]
    simp_all [XB,a,if_true]
  have eq:(((Aa0 n).filter λx=> !u9 (x∈r)).map λx=>D.tup (ag (r++ [x])))=bT (((Aa0 n).filter λx=> !u9 (x∈r)).map λx=>r++ [x]):=by rw [bT,Ac5];rfl
  rw [eq]at b
  have a:(bT j).length+(bT (((Aa0 n).filter λx=> !u9 (x∈r)).map λx=>r++ [x])).length<aY:=by
   rw [Gi,Aa,Aa,Aa];omega
  have l:bT (j++((Aa0 n).filter λx=> !u9 (x∈r)).map λx=>r++ [x])=bT j++bT (((Aa0 n).filter λx=> !u9 (x∈r)).map λx=>r++ [x]):=Ac6 ..
  have m:xB n (r::rows)=(((Aa0 n).filter λx=> !u9 (x∈r)).map λx=>r++ [x])++xB n rows:=rfl
  rw [show bT (r::rows)= .tup (ag r)::bT rows from rfl,qa rfl ?_,e,m,Ae7]
  rw [l]
  simp_all [Wg,b,a,if_true]
def AK (k n:Nat) (rows) (h) (a:n<=4) (h1: ∀r∈rows,r.length<=4) (h2:rows.length<=24):call prog (k+1) "longer_by_one" [.bor (bT rows),.v (.int (n:Int))] h= .ok (.own (bT (xB n rows))) h:=by
 obtain⟨b,e⟩:=rn a h rows [] u0 h1 (by simp;lia)
 refine fx (by simp_all [];rfl) ?_
 rw [za (by
  exact e)]
 simp_all []
theorem uU (hn:n<=4) (h): ∀(m j:Nat) x,j+m=n-> ∃x',
 Gq (Gn [2] k9) (λY h=>execs (k8 (k+1)) wn Y h) ((Aa0 m).map λi=>D.int ((j+i:Nat):Int)) [y0 (.v (.int (n:Int))),y0 (.own (bT (wm n j))),x] h= .next [y0 (.v (.int (n:Int))),y0 (.own (bT (wm n n))),x'] h
 | 0,j,x,e=>⟨x,by obtain rfl:j=n:=by omega
                  rfl⟩
 | m+1,j,x,e=>by
  have Rn:=mZ n hn
  have ec:=AK k n (wm n j) h hn (Rn.sX j (by omega)) (Rn.oy j (by omega))
  obtain⟨x',q⟩:=uU hn h m (j+1) (y0 (.v (.int j))) (by omega)
  refine⟨x',?_⟩
  rw [wk,qa rfl ?_,q]
  simp_all [wn,ec]
  rfl
def W3 (k n:Nat) (h) (a:n<=4):call prog (k+5) "renamings" [.v (.int (n:Int))] h= .ok (.own (bT (wm n n))) h:=by
 rw [Ga rfl _ _ _ rfl]
 have b:=QZ k (.int n) h rfl (by simp [We];lia)
 obtain⟨c,e⟩:=uU a h n 0 u0 (by lia)
 refine fx (by simp_all [b];rfl) ?_
 refine fx (by simp_all [];rfl) ?_
 rw [za (by
  rw [exec,qH,wd rfl (by lia),R.ay]
  simp [Af9]at e
  exact e)]
 simp_all []
def cd:List (Nat×Nat)->Nat
 | []=>0
 | q::r=>q.2+2 ^ q.1*cd r
def fS (a:List (Nat×Nat)):Prop:= ∀q∈a,q.2<2 ^ q.1/\q.1<=16
def wS (a:List (Nat×Nat)):Nat:=(a.map (·.1)).sum
theorem nC: ∀ {ps},fS ps->cd ps<2 ^ wS ps
 | [],_=>by simp [cd,wS]
 | q::r,h=>by
  have c:=(h q Aa3).1
  have a:=nC λx b=>h x (Aa1 _ b)
  show q.2+2 ^ q.1*cd r<2 ^ (q.1+wS r)
  rw [Ak3]
  have:2 ^ q.1*(cd r+1)<=2 ^ q.1*2 ^ wS r:=Ad3 (Aa5 _) a
  rw [Am8,Nat.mul_one]at this
  omega
def kQ:Nat->Nat->List (Nat×Nat)->Nat
 | t,_,[]=>t
 | t,pl,q::r=>kQ (t ||| q.2*2 ^ pl) (pl+q.1) r
def IB (h:t<2 ^ pl):t ||| p*2 ^ pl=t+p*2 ^ pl:=by
 have:=Nat.two_pow_add_eq_or_of_lt h p
 rw [Ai]at this
 rw [Nat.or_comm,←this,An7]
theorem rh: ∀(ps) (t pl),fS ps->t<2 ^ pl->kQ t pl ps=t+2 ^ pl*cd ps
 | [],t,pl,_,_=>by simp [kQ,cd]
 | q::r,t,pl,h,b=>by
  have d:=(h q Aa3).1
  have a:t+q.2*2 ^ pl<2 ^ (pl+q.1):=by
   rw [Ak3]
   have:2 ^ pl*(q.2+1)<=2 ^ pl*2 ^ q.1:=Ad3 (Aa5 _) d
   rw [Am8,Nat.mul_one,Ai (2 ^ pl) q.2]at this
   omega
  rw [kQ,IB b,rh r _ _ (λx c=>h x (Aa1 _ c)) a,cd,Ak3,Am8,Nat.mul_assoc,Ai q.2]
  omega
def dg:List Nat->Nat->List Nat
 | [],_=> []
 | w::a,c=>c % 2 ^ w::dg a (c / 2 ^ w)
theorem lX: ∀(ws ps),ws.length=ps.length->fS (ws.zip ps)->dg ws (cd (ws.zip ps))=ps
 | [],[],_,_=>rfl
 | w::ws,p::ps,b,h=>by
  have a:=(h (w,p) Aa3).1
  have d:(p+2 ^ w*cd (ws.zip ps)) % 2 ^ w=p:=by rw [Nat.add_mul_mod_self_left,Am a]
  have e:(p+2 ^ w*cd (ws.zip ps)) / 2 ^ w=cd (ws.zip ps):=by
   rw [Nat.add_mul_div_left _ _ (Ah3 (by decide)),Nat.div_eq_of_lt a,Af9]
  show(p+2 ^ w*cd (ws.zip ps)) % 2 ^ w::dg ws ((p+2 ^ w*cd (ws.zip ps)) / 2 ^ w)=p::ps
  rw [d,e,lX ws ps (by simpa using b) λx c=>h x (Aa1 _ c)]
def sP {ws b a:List Nat}(h1:ws.length=b.length) (h2:ws.length=a.length) (k1:fS (ws.zip b)) (k2:fS (ws.zip a)) (e:cd (ws.zip b)=cd (ws.zip a)):b=a:=by
 rw [← lX ws b h1 k1,e,lX ws a h2 k2]
theorem ra (x y): ∀ a b,a.length=b.length->GT (a++ [x]) (b++ [y])=if a=b then u9 (x<y)else GT a b
 | [],[],_=>by
  show(if x=y then y9 else u9 (x<y))=_
  rw [if_pos rfl]
  by_cases q:x=y
  ·rw [if_pos q,q];simp
  ·rw [if_neg q]
 | c::a,d::b,h=>by
  have f:=ra x y a b (by simpa using h)
  show(if c=d then GT (a++ [x]) (b++ [y])else u9 (c<d))=_
  rw [f]
  by_cases q:c=d
  ·subst q
   by_cases e:a=b
   ·rw [if_pos rfl,if_pos e,if_pos (by rw [e])]
   ·rw [if_pos rfl,if_neg e,if_neg (λz=>e (List.cons.inj z).2)]
    show _=(if c=c then GT a b else _)
    rw [if_pos rfl]
  ·rw [if_neg q,if_neg (λz=>q (List.cons.inj z).1)]
   show _=(if c=d then GT a b else _)
   rw [if_neg q]
def gg :Jc a=Jc b↔a=b:=by
 constructor
 ·intro h
  refine List.map_inj_right (λx y e=>by have e:=e;lia) |>.mp h
 ·rintro rfl;rfl
theorem tR: ∀(ws c b:List Nat),ws.length=c.length->ws.length=b.length->fS (ws.zip c)->fS (ws.zip b)->GT (Jc c.reverse) (Jc b.reverse)=u9 (cd (ws.zip c)<cd (ws.zip b))
 | [],[],[],_,_,_,_=>by simp [Jc,GT,cd]
 | w::ws,p::c,q::b,m,k,j,f=>by
  have r:p<2 ^ w:=(j (w,p) Aa3).1
  have s:q<2 ^ w:=(f (w,q) Aa3).1
  have g:=by simpa using m
  have l2:=by simpa using k
  have h:=λx d=>j x (Aa1 _ d)
  have i:=λx d=>f x (Aa1 _ d)
  have n:=tR ws c b g l2 h i
  have l:Jc (p::c).reverse=Jc c.reverse++ [(p:Int)]:=by simp [Jc]
  have o:Jc (q::b).reverse=Jc b.reverse++ [(q:Int)]:=by simp [Jc]
  rw [l,o,ra _ _ _ _ (by simp [Jc];omega),n]
  show _=u9 (p+2 ^ w*cd (ws.zip c)<q+2 ^ w*cd (ws.zip b))
  by_cases e:Jc c.reverse=Jc b.reverse
  ·rw [if_pos e]
   have:c=b:=List.reverse_inj.mp (gg.mp e)
   rw [this]
   exact decide_eq_decide.mpr (by omega)
  ·rw [if_neg e]
   have ne:=λz=>e (by rw [sP g l2 h i z])
   refine decide_eq_decide.mpr ⟨λz=> ?_,λz=> ?_⟩
   ·have:2 ^ w*(cd (ws.zip c)+1)<=2 ^ w*cd (ws.zip b):=Ad3 (Aa5 _) z
    rw [Am8,Nat.mul_one]at this
    omega
   ·rcases Nat.lt_or_gt_of_ne ne with a | a
    ·exact a
    ·have:2 ^ w*(cd (ws.zip b)+1)<=2 ^ w*cd (ws.zip c):=Ad3 (Aa5 _) a
     rw [Am8,Nat.mul_one]at this
     omega
def bw (n K T:Nat):List Nat:=Aa9 K n++Aa9 T (n*n)
def Cw (n:Nat) (ks ts:List Nat):Nat:=cd ((bw n ks.length ts.length).zip (ks++ts))
structure Wl (n:Nat) (ks ts:List Nat):Prop where
 n4:n<=4
 k4:ks.length<=4
 t4:ts.length<=4
 bk: ∀x∈ks,x<2 ^ n
 bt: ∀x∈ts,x<2 ^ (n*n)
def xp (n K T):(bw n K T).length=K+T:=by simp [bw]
def yk (n) (ks ts:List Nat):(bw n ks.length ts.length).zip (ks++ts)=ks.map (λx=>(n,x))++ts.map (λx=>(n*n,x)):=by
 have h: ∀(w:Nat) (l:List Nat),(Aa9 l.length w).zip l=l.map λx=>(w,x):=λw l=>by
  induction l with
  | nil=>rfl
  | cons x l a=>simp [Ad2,a]
 rw [bw,List.zip_append (by simp),h,h]
def Wl.ok (g:Wl n ks ts):fS ((bw n ks.length ts.length).zip (ks++ts)):=by
 rw [yk]
 have hn:=g.n4
 have c:=Ad3 hn hn
 intro q a
 obtain a | a:=Ae9.mp a
 ·obtain⟨x,b,rfl⟩:=Ac1.mp a
  exact⟨g.bk x b,by lia⟩
 ·obtain⟨x,b,rfl⟩:=Ac1.mp a
  exact⟨g.bt x b,c⟩
def Wl.mv (g:Wl n ks ts) (q:Od n o):Wl n (ks.map (kM n o)) (ts.map (tK n o)):=
 ⟨g.n4,by rw [Aa];exact g.k4,by rw [Aa];exact g.t4,λx a=>by
   obtain⟨y,_,rfl⟩:=Ac1.mp a
   exact mm q y,λx a=>by
   obtain⟨y,_,rfl⟩:=Ac1.mp a
   exact ng q y⟩
def p5 (g:Wl n ks ts) (b:Wl n ks' ts') (h1:ks.length=ks'.length) (h2:ts.length=ts'.length) (e:Cw n ks ts=Cw n ks' ts'):ks=ks'/\ts=ts':=by
 unfold Cw at e
 have c:=g.ok
 have a:=b.ok
 rw [← h1,←h2]at e a
 have:=sP (by rw [xp];simp) (by rw [xp];simp;lia) c a e
 exact List.append_inj this h1
theorem rp (n): ∀ j l,l.length=j->l.Nodup->(∀ x∈l,x<n)->l∈wm n j
 | 0,l,a,_,_=>by
  rw [Ah6 a];simp [wm]
 | j+1,l,a,hn,c=>by
  rcases List.eq_nil_or_concat l with rfl | ⟨r,x,rfl⟩
  ·simp at a
  ·rw [List.concat_eq_append]at*
   have b:=List.nodup_append.mp hn
   have e:=rp n j r (by simpa using a) b.1 λy d=>c y (Ac7 _ d)
   show r++ [x]∈xB n (wm n j)
   unfold xB
   rw [List.mem_flatMap]
   refine⟨r,e,Ac1.mpr ⟨x,Ae.mpr ⟨Ab3.mpr (c x (by simp)),?_⟩,rfl⟩⟩
   have:x∉r:=λz=>b.2.2 x z x (by simp) rfl
   simpa using this
def Cy: ∀n,n<5->((wm n n).all λr=>r.isPerm (Aa0 n))=true:=by decide +kernel
def Xg (b:n<=4) (r):r∈wm n n↔Od n r:=by
 constructor
 ·intro h
  exact⟨List.isPerm_iff.mp (Ad8.mp (Cy n (by lia)) r h)⟩
 ·intro q
  exact rp n n r q.len (q.p.nodup_iff.mpr Aj5) λx a=>q.mem a
structure Ls (n:Nat) (ks ts ks' ts':List Nat):Prop where
 o: ∃r,Od n r/\ks'=ks.map (kM n r)/\ts'=ts.map (tK n r)
 le: ∀r,Od n r->Cw n ks' ts'<=Cw n (ks.map (kM n r)) (ts.map (tK n r))
def Ls.wl (h:Ls n ks ts ks' ts') (g:Wl n ks ts):Wl n ks' ts':=by
 obtain⟨r,q,rfl,rfl⟩:=h.o
 exact g.mv q
def Ls.uniq (g:Wl n ks ts) (h:Ls n ks ts a b) (h':Ls n ks ts a' b'):a=a'/\b=b':=by
 obtain⟨r,q,f,i⟩:=h.o
 obtain⟨j,k,d,c⟩:=h'.o
 have e:=h.le j k
 have l2:=h'.le r q
 rw [← d,←c]at e
 rw [← f,←i]at l2
 refine p5 (h.wl g) (h'.wl g) ?_ ?_ (Nat.le_antisymm e l2)
 ·rw [f,d,Aa,Aa]
 ·rw [i,c,Aa,Aa]
def mC {ks ts r o:List Nat}(q:Od n r) (p:Od n o):(ks.map (kM n o)).map (kM n r)=ks.map (kM n (o.map (pm r)))/\(ts.map (tK n o)).map (tK n r)=ts.map (tK n (o.map (pm r))):=
 ⟨by rw [Ac5];exact Ad7 λx _=>As q p x,by rw [Ac5];exact Ad7 λx _=>C9 q p x⟩
def Od.rev (q:Od n o): ∃p,Od n p/\ ∀a,a<n->pm p (pm o a)=a:=by
 have g: ∀b,∃a,b<n->a<n/\pm o a=b:=λb=>by
  by_cases c:b<n
  ·obtain⟨a,h⟩:=q.cO c
   exact⟨a,λ_=>h⟩
  ·exact⟨0,λz=>absurd z c⟩
 let f:=λb=>Ah0 (g b)
 have i:=λb c=>Af4 (g b) c
 have j:((Aa0 n).map f).length=n:=by simp
 have c: ∀a,a<n->pm _ _=a:=λa e=>by
  have d:=q.lt e
  rw [zu (by rw [j];exact d),Ai5,Ai9]
  exact(q.inj (i _ d).1 e).mp (i _ d).2
 exact⟨_,Od.inv q j c,c⟩
def JQ (g:Wl n ks ts) (q:Od n o) (r:Od n p) (h: ∀a,a<n->pm p (pm o a)=a):(ks.map (kM n o)).map (kM n p)=ks/\(ts.map (tK n o)).map (tK n p)=ts:=by
 constructor
 ·rw [Ac5]
  exact(Ad7 λx b=>AG q r h (g.bk x b)).trans (List.map_id _)
 ·rw [Ac5]
  exact(Ad7 λx b=>A5 q r h (g.bt x b)).trans (List.map_id _)
def Ls.mv {ks ts a b o:List Nat}(g:Wl n ks ts) (q:Od n o) (h:Ls n ks ts a b):Ls n (ks.map (kM n o)) (ts.map (tK n o)) a b:=by
 obtain⟨p,c,i⟩:=q.rev
 obtain⟨r,d,rfl,rfl⟩:=h.o
 obtain⟨j,f⟩:=JQ g q c i
 refine⟨⟨p.map _,Od.then d c,?_,?_⟩,λs e=> ?_⟩
 ·rw [← (mC (ts:= []) d c).1,j]
 ·rw [← (mC (ks:= []) d c).2,f]
 ·obtain⟨k,l⟩:=mC e q
  rw [k,l]
  exact h.le _ (Od.then e q)
def Ls.self (g:Wl n ks ts) (h:Ls n ks ts a b):Ls n a b a b:=by
 obtain⟨r,q,rfl,rfl⟩:=h.o
 exact h.mv g q
abbrev fj (A B:List D):D:= .tup [.tup A,.tup B]
def Ce (x:D) (m):(Aa9 m [x]).flatten=Aa9 m x:=by
 induction m with
 | zero=>rfl
 | succ m a=>rw [Ad2,List.flatten_cons,a];rfl
def tV (x) (m:Nat) (a:m<=1000) (h):GW .mul (.own [x]) (.v (.int (m:Int))) h= .ok (.own (Aa9 m x)) h:=by
 show Kv [x] m h=_
 have c: -1000<=(m:Int)/\(m:Int)<=1000/\ [x].length*(m:Int).toNat<=aY:=by rw [Gi,Ag0];simp;lia
 rw [Kv,if_pos c,Ag0,Ce]
def Ci (n K T):ag (bw n K T)=Aa9 K (.int (n:Int))++Aa9 T (.int ((n*n:Nat):Int)):=by simp [bw]
def qQ (k n:Nat) (A B) (h) (e:n<=4) (g:A.length<=4) (f:B.length<=4):call prog (k+1) "widths" [.v (fj A B),.v (.int (n:Int))] h= .ok (.own (ag (bw n A.length B.length))) h:=by
 rw [Ga rfl _ _ _ rfl]
 have b:=wc n n (by lia)
 have c:=tV (.int n) A.length (by lia) h
 have a:=tV (.int (n*n:Nat)) B.length (by lia) h
 have d:(Aa9 A.length (D.int n)).length+(Aa9 B.length (D.int (n*n:Nat))).length<=aY:=by rw [Gi];simp;lia
 rw [Ci]
 simp only [w6]
 simp_all [ah,xI,wB,Jh,c,b,a,pf,d,if_true]
theorem W4 (x): ∀m,(Aa9 m x).sum=m*x
 | 0=>by simp
 | m+1=>by rw [Ad2,Ai0,W4 x m,Nat.succ_mul,An7]
def yi (n K T):(bw n K T).sum=K*n+T*(n*n):=by rw [bw,List.sum_append,W4,W4]
def nj (k n:Nat) (A B) (h) (a:n<=4) (d:A.length<=4) (b:B.length<=4):call prog (k+2) "bits" [.v (fj A B),.v (.int (n:Int))] h= .ok (.v (.int (((bw n A.length B.length).sum:Nat):Int))) h:=by
 rw [Ga rfl _ _ _ rfl]
 have c:=qQ k n A B h a d b
 have e:(ag (bw n A.length B.length)).length<=aY:=by rw [Gi,Aa,xp];lia
 simp only [pO]
 simp_all [c,Q2,e,if_true,XM]
abbrev i9 (a:List (Nat×Nat)):List D:=a.map λq=> .tup [.int (q.1:Nat),.int (q.2:Nat)]
theorem yr (h): ∀ a (t pl:Nat) j J,fS a->pl+a.length*16<=1000-> ∃i M L,
 Gq (Gn [4,5] y9) (λY h=>execs F qR Y h) (i9 a) [x0,x1,y0 (.v (.int (t:Int))),y0 (.v (.int (pl:Int))),j,J] h= .next [x0,x1,y0 (.v (.int ((kQ t pl a:Nat):Int))),i,M,L] h
 | [],t,pl,j,J,_,_=>⟨_,j,J,rfl⟩
 | q::r,t,pl,j,J,ok,l=>by
  obtain⟨d,m⟩:=ok q Aa3
  rw [Ab8]at l
  obtain⟨i,M,L,e⟩:=yr h r (t ||| q.2*2 ^ pl) (pl+q.1) (y0 (.v (.int q.1))) (y0 (.v (.int q.2))) (λx g=>ok x (Aa1 _ g)) (by omega)
  refine⟨i,M,L,?_⟩
  have c:q.2<2 ^ 64:=Ab0 d (Ac8 (by decide) (by omega))
  have b:=uE q.2 pl c (by omega)
  have k:=xF t (q.2*2 ^ pl)
  have f: pl+ (q.1:Nat)=((pl+q.1:Nat):Int):=rfl
  rw [show i9 (q::r)= .tup [.int q.1,.int q.2]::i9 r from rfl,qa rfl ?_,e]
  ·rfl
  ·simp_all [qR,b,XG,k,Zc,f]
def Ez (ws ps):((ag ws).zip (ag ps)).map (λp=>D.tup [p.1,p.2])=i9 (ws.zip ps):=by
 rw [ag,ag,List.zip_map,Ac5,i9]
 rfl
def DI (k n) (A B) (ks ts) (h) (g:Wl n ks ts) (f:A.length=ks.length) (p:B.length=ts.length):call prog (k+2) "code" [.v (fj A B),.v (Qc n ks ts)] h= .ok (.v (.int ((Cw n ks ts:Nat):Int))) h:=by
 rw [Ga rfl _ _ _ rfl]
 have r:=g.k4
 have q:=g.t4
 have a:=qQ k n A B h g.n4 (by omega) (by omega)
 have o:(ag ks).length+(ag ts).length<=aY:=by rw [Gi,Aa,Aa];omega
 have i:GW .add (.v (.tup (ag ks))) (.v (.tup (ag ts))) h= .ok (.v (.tup (ag (ks++ts)))) h:=by rw [XB,if_pos o,←Ac6]
 obtain⟨l,t,s,e⟩:=yr h _ 0 0 u0 u0 g.ok (by
  rw [Ak,xp]
  have:min (ks.length+ts.length) (ks++ts).length<=8:=by simp;omega
  omega)
 rw [rh _ _ _ g.ok (by decide)]at e
 have m:0+2 ^ 0*cd ((bw n ks.length ts.length).zip (ks++ts))=Cw n ks ts:=by unfold Cw;omega
 rw [m]at e
 simp only [tW]
 refine fx (by simp_all [];rfl) ?_
 refine fx (by simp_all [];rfl) ?_
 have d:Gr (k8 (k+1)) (.zip (.call "widths" (.b .v0 (.ix .v1 (.int 0)))) (.bin .add (.ix .v1 (.int 1)) (.ix .v1 (.int 2)))) [some (.v (fj A B)),some (.v (Qc n ks ts)),some (.v (.int 0)),some (.v (.int 0)),none,none] h= .ok (i9 ((bw n ks.length ts.length).zip (ks++ts))) h:=by
  have c:eval (k8 (k+1)) (.call "widths" (.b .v0 (.ix .v1 (.int 0)))) [some (.v (fj A B)),some (.v (Qc n ks ts)),some (.v (.int 0)),some (.v (.int 0)),none,none] h= .ok (.own (ag (bw n ks.length ts.length))) h:=by
   rw [← f,←p]
   simp_all [ah,xt,a]
  have a2:eval (k8 (k+1)) (.bin .add (.ix .v1 (.int 1)) (.ix .v1 (.int 2))) [y0 (.v (fj A B)),y0 (.v (Qc n ks ts)),y0 (.v (.int 0)),y0 (.v (.int 0)),u0,u0] h= .ok (.v (.tup (ag (ks++ts)))) h:=by
   have j:aX [D.int (n:Int),D.tup (ag ks),D.tup (ag ts)] 1=y0 (.tup (ag ks)):=rfl
   have b:aX [D.int (n:Int),D.tup (ag ks),D.tup (ag ts)] 2=y0 (.tup (ag ts)):=rfl
   simp_all [ah,j,b,i]
  rw [← Ez]
  show(eval _ _ _ h).bind _=_
  rw [c,R.aa,a2]
  rfl
 rw [za (by
  rw [exec,d,R.ay]
  exact e)]
 simp_all []
theorem uK (h): ∀ ws (c:Nat) i j,(∀ w∈ws,w<=16)->i.length+ws.length<=1000-> ∃L J,
 Gq (Gn [5] k9) (λY h=>execs F Jq Y h) (ag ws) [x0,x1,x2,y0 (.own (ag i)),y0 (.v (.int (c:Int))),j,x6] h= .next [x0,x1,x2,y0 (.own (ag (i++dg ws c))),L,J,x6] h
 | [],c,i,j,_,_=>⟨y0 (.v (.int c)),j,by simp [dg]⟩
 | w::ws,c,i,j,a,d=>by
  rw [Ab8]at d
  have f:=a w Aa3
  obtain⟨L,J,e⟩:=uK h ws (c / 2 ^ w) (i++ [c % 2 ^ w]) (y0 (.v (.int w))) (λx l=>a x (Aa1 _ l)) (by simp;omega)
  refine⟨L,J,?_⟩
  have g:=eY w (by omega)
  have p:0<2 ^ w:=Ah3 (by decide)
  have k:((2 ^ w:Nat))-1=((2 ^ w-1:Nat):Int):=by omega
  have b:=xq c (2 ^ w-1)
  rw [Aj4]at b
  have m:=zF c w
  have o:(ag i).length<aY:=by rw [Gi,Aa];omega
  have n:ag (i++ [c % 2 ^ w])=ag i++ [.int ((c % 2 ^ w:Nat))]:=by simp
  rw [show ag (w::ws)= .int w::ag ws from rfl,qa rfl ?_,e,Ae7]
  ·rfl
  ·rw [n]
   simp_all [Jq,g,Wm,k,zn,b,o,if_true,m]
def qM (k n) (A B) (ks ts) (h) (g:Wl n ks ts) (c:A.length=ks.length) (t:B.length=ts.length):call prog (k+5) "world_of" [.v (fj A B),.v (.int (n:Int)),.v (.int ((Cw n ks ts:Nat):Int))] h= .ok (.v (Qc n ks ts)) h:=by
 rw [Ga rfl _ _ _ rfl]
 have hn:=g.n4
 have d:=g.k4
 have m:=g.t4
 have b:n*n<=16:=Ad3 hn hn
 have r:=QZ k (.int (n:Int)) h rfl (by simp [We];omega)
 have j:=nj (k+2) n A B h hn (by omega) (by omega)
 have a:=qQ (k+3) n A B h hn (by omega) (by omega)
 rw [c,t]at j a
 have y:(bw n ks.length ts.length).sum<=100:=by
  rw [yi]
  have v:ks.length*n<=4*4:=Ad3 d hn
  have a2:ts.length*(n*n)<=4*16:=Ad3 m b
  omega
 have o:=eY (bw n ks.length ts.length).sum (by omega)
 have lt:Cw n ks ts<2 ^ (bw n ks.length ts.length).sum:=by
  have:=nC g.ok
  have e:wS ((bw n ks.length ts.length).zip (ks++ts))=(bw n ks.length ts.length).sum:=by
   rw [wS,←List.unzip_fst,List.unzip_zip_left (by rw [xp];simp)]
  rw [e]at this
  exact this
 have i:=qm (k+2) (.int ((Cw n ks ts:Nat):Int)) ((2 ^ (bw n ks.length ts.length).sum:Nat):Int) h rfl
 have s:We (.int ((Cw n ks ts:Nat):Int)) ((2 ^ (bw n ks.length ts.length).sum:Nat):Int)=true:=by
  simp only [We,Aa6,decide_eq_true_eq];omega
 rw [s]at i
 obtain⟨z,x,e⟩:=uK h (bw n ks.length ts.length) (Cw n ks ts) [] u0 (λw a=>by
  rcases Ae9.mp a with a | a
  ·rw [(Ak7.mp a).2];omega
  ·rw [(Ak7.mp a).2];exact b) (by rw [xp];simp;omega)
 rw [Ag2,show dg (bw n ks.length ts.length) (Cw n ks ts)=ks++ts from lX _ _ (by rw [xp];simp) g.ok]at e
 simp only [WL]
 refine fx (by simp_all [r];rfl) ?_
 rw [Za (by simp_all [j,o,i])]
 refine fx (by simp_all [];rfl) ?_
 refine fx (by simp_all [];rfl) ?_
 have u:eval (k8 (k+4)) (.call "widths" (.b .v0 .v1)) [some (.v (fj A B)),some (.v (.int (n:Int))),some (.v (.int ((Cw n ks ts:Nat):Int))),some (.own []),some (.v (.int ((Cw n ks ts:Nat):Int))),none,none] h= .ok (.own (ag (bw n ks.length ts.length))) h:=by
  simp_all [a]
 rw [za (by
  simp only [exec,Gr,GD,u,R.aa,GL,R.af,R.ay]
  exact e)]
 have l:=Q7 (ag (ks++ts)) A.length
 have f:=Hl (ag (ks++ts)) A.length (by simp;omega)
 have q:(ag (ks++ts)).take A.length=ag ks:=by rw [c,ag,Ac6,List.take_left' (by simp)]
 have p:(ag (ks++ts)).drop A.length=ag ts:=by rw [c,ag,Ac6,List.drop_left' (by simp)]
 rw [q]at l
 rw [p]at f
 refine fx (by simp_all [ah,xI,Jh];rfl) ?_
 rw [jb (w:= .v (Qc n ks ts)) (h1:=h) (zc rfl (by simp_all [EC,l,f,xD]))]
 exact Gb _ _ _ rfl
theorem px: ∀(l:List Nat) (a),∃m,(m=a\/m∈l)/\m<=a/\(∀ x∈l,m<=x)/\(l.map λ(x:Nat)=>(x:Int)).foldl (λa b=>if b<a then b else a) (a:Int)=(m)
 | [],a=>⟨a,.inl rfl,Aa5 _,(λ_ h=>by cases h),rfl⟩
 | y::l,a=>by
  by_cases q:y<a
  ·obtain⟨m,c,e,g,f⟩:=px l y
   refine⟨m,.inr ?_,by omega,λx d=> ?_,?_⟩
   ·rcases c with rfl | c
    ·exact Aa3
    ·exact Aa1 _ c
   ·rcases Ab9.mp d with rfl | d
    ·exact e
    ·exact g x d
   ·rw [Ab,Ag3,if_pos (by omega),f]
  ·obtain⟨m,c,e,g,f⟩:=px l a
   refine⟨m,?_,e,λx d=> ?_,?_⟩
   ·rcases c with c | c
    ·exact .inl c
    ·exact .inr (Aa1 _ c)
   ·rcases Ab9.mp d with rfl | d
    ·omega
    ·exact g x d
   ·rw [Ab,Ag3,if_neg (by omega),f]
def HJ (l) (d:l≠ []): ∃m∈l,(∀ x∈l,m<=x)/\(GG (ag l)).bind r9=y0 (m:Int):=by
 cases l with
 | nil=>exact absurd rfl d
 | cons a l=>
  obtain⟨m,c,e,g,f⟩:=px l a
  refine⟨m,?_,λx b=> ?_,?_⟩
  ·obtain rfl | c:=c
   ·exact Aa3
   ·exact Aa1 _ c
  ·obtain rfl | b:=Ab9.mp b
   ·exact e
   ·exact g x b
  ·rw [zD]
   exact congrArg y0 f
section
variable {n:Nat}{ks ts:List Nat}{A B:List D}(g:Wl n ks ts) (hA:A.length=ks.length) (hB:B.length=ts.length)
include g
def tL:wm n n≠ []:=λz=>by
 have hn:=g.n4
 have:Aa0 n∈wm n n:=(Xg hn _).mpr ⟨List.Perm.refl _⟩
 rw [z]at this
 cases this
include hA hB
def sQ (k) (h):call prog (k+6) "codes_alike" [.v (fj A B),.v (Qc n ks ts)] h= .ok (.own (ag ((wm n n).map fun r=>Cw n (ks.map (kM n r)) (ts.map (tK n r))))) h:=by
 rw [Ga rfl _ _ _ rfl]
 have hn:=g.n4
 have i:=g.k4
 have f:=g.t4
 have c:=W3 k n h hn
 have d:=(mZ n hn).oy n (Aa5 _)
 have a:eval (k8 (k+5)) Xp [y0 (.v (fj A B)),y0 (.v (Qc n ks ts))] h= .ok (.own ((wm n n).map λr=> .int ((Cw n (ks.map (kM n r)) (ts.map (tK n r)):Nat)))) h:=by
  refine qg (λr=> .tup (ag r)) _ _ (WS (by simp_all [ah,xt,c])) (by omega) λr b=>⟨.v _,?_,rfl⟩
  have q:=(Xg hn r).mp b
  have e:=IE (k+1) q hn ks ts (by omega) (by omega) (fj A B) h
  have a2:=DI (k+3) n A B _ _ h (g.mv q) (by rw [Aa];exact hA) (by rw [Aa];exact hB)
  simp_all [e,a2]
 simp only [Jw]
 rw [jb (w:= .own (ag ((wm n n).map λr=>Cw n (ks.map (kM n r)) (ts.map (tK n r))))) (Jm rfl (by rw [ag,Ac5];exact a))]
 exact Gu _ _ _ rfl
def Dn (k) (h): ∃a b,Ls n ks ts a b/\call prog (k+7) "form" [.v (fj A B),.v (Qc n ks ts)] h= .ok (.v (Qc n a b)) h:=by
 have hn:=g.n4
 have f:=sQ g hA hB k h
 obtain⟨m,j,c,e⟩:=HJ _ (λz=>tL g (Ai7.mp z))
 obtain⟨r,l,rfl⟩:=Ac1.mp j
 have q:=(Xg hn r).mp l
 have i:=qM (k+1) n A B _ _ h (g.mv q) (by rw [Aa];exact hA) (by simp_all)
 refine⟨_,_,⟨⟨r,q,rfl,rfl⟩,λo d=>c _ (Ac1.mpr ⟨o,(Xg hn o).mpr d,rfl⟩)⟩,?_⟩
 rw [Ga rfl _ _ _ rfl]
 have p:cm .min [.own (ag ((wm n n).map λr=>Cw n (ks.map (kM n r)) (ts.map (tK n r))))] h=aT (.int ((Cw n (ks.map (kM n r)) (ts.map (tK n r)):Nat))) h:=by
  show(R.of h _).bind _=_
  rw [W.el,Ag4,e]
  rfl
 simp only [vy]
 simp_all [ah,xt,f,p,i]
end
theorem oG: ∀a b:List Nat,GJ (ag a) (ag b)=u9 (a=b)
 | [],[]=>rfl
 | [],_::_=>rfl
 | _::_,[]=>rfl
 | x::a,y::b=>by
  show((x==(y:Int))&&GJ (ag a) (ag b))=_
  rw [oG a b,Ad4]
  simp only [Aa6,beq_iff_eq,decide_eq_true_eq,List.cons.injEq]
  exact and_congr (by omega) Iff.rfl
def Zm (n) (ks ts):Gc (Qc n ks ts)=true:=by
 show(k9&&(Gd _&&(Gd _&&k9)))=k9
 rw [m1,m1];rfl
def vz (n) (ks ts):dep (Qc n ks ts)<=2:=by
 have a:=nN ks
 have b:=nN ts
 lia
def LC (n a) (ks ts ks' ts') (h):Gw .eq (.v (Qc n ks ts)) (.v (Qc a ks' ts')) h=y0 (u9 (n=a/\ks=ks'/\ts=ts')):=by
 have d:=vz n ks ts
 rw [oO,W.lP,W.lP,zM (Zm ..),zM (Zm ..),if_pos (by rw [GM,Zm,Zm,decide_eq_true (by lia)];rfl)]
 congr 1
 show((n==(a:Int))&&(GJ _ _&&(GJ _ _&&k9)))=_
 rw [oG,oG,Bool.and_true,Ad4]
 simp only [Aa6,beq_iff_eq,decide_eq_true_eq]
 exact and_congr (by lia) Iff.rfl
noncomputable abbrev gJ (n:Nat) (x1:Option W) (x2:Option W) (a:List (List Nat)) (b c:Option W):Sl:= [y0 (.v (.int (n:Int))),x1,x2,y0 (.own (bT a)),b,c]
theorem pF (d:r.length<=4) (h): ∀ m i J M,i+m=n->J.length+m<=1000-> ∃L,
 Gq (Gn [5] k9) (λY h=>execs F zh Y h) ((Aa0 m).map λj=>D.int ((i+j:Nat):Int)) (gJ n x1 x2 J (y0 (.v (.tup (ag r)))) M) h= .next (gJ n x1 x2 (J++(((Aa0 m).map (i+ ·)).filter λx=> !u9 (x∈r)).map λx=>r++ [x]) (y0 (.v (.tup (ag r)))) L) h
 | 0,i,J,M,_,_=>⟨M,by simp⟩
 | m+1,i,J,M,e,l=>by
  have k:=sd i r h
  have c:(Aa0 (m+1)).map (i+ ·)=i::(Aa0 m).map (i+1+ ·):=by
   rw [Af3,Ab,Ac5]
   congr 1
   exact Ad7 λx _=>by show i+(x+1)=i+1+x;omega
  have a:Gs F (.cmp .dE .v5 .v4) (gJ n x1 x2 J (y0 (.v (.tup (ag r)))) (y0 (.v (.int (i:Int))))) h= .ok (!u9 (i∈r)) h:=by
   simp_all [k]
  by_cases q:i∈r
  ·obtain⟨L,z⟩:=pF (n:=n) d h m (i+1) J (y0 (.v (.int (i:Int)))) (by omega) (by omega)
   refine⟨L,?_⟩
   rw [decide_eq_true q]at a
   rw [c,List.filter_cons_of_neg (by simpa using q),wk,qa (Y1:=gJ n x1 x2 J (y0 (.v (.tup (ag r)))) (y0 (.v (.int (i:Int))))) rfl ?_,z]
   simp only [zh]
   rw [Za a]
   rfl
  ·obtain⟨L,z⟩:=pF (n:=n) (x1:=x1) (x2:=x2) d h m (i+1) (J++ [r++ [i]]) (y0 (.v (.int (i:Int)))) (by omega) (by simp;omega)
   refine⟨L,?_⟩
   rw [decide_eq_false q]at a
   have g:(ag r).length+ [D.int (i:Int)].length<=aY:=by rw [Gi,Aa,Af7];omega
   have b:(bT J).length<aY:=by rw [Gi,Aa];omega
   have f:bT (J++ [r++ [i]])=bT J++ [.tup (ag r++ [.int (i:Int)])]:=by simp
   rw [c,List.filter_cons_of_pos (by simpa using q),Ab,wk,qa (Y1:=gJ n x1 x2 J (y0 (.v (.tup (ag r)))) (y0 (.v (.int (i:Int))))) (Y2:=gJ n x1 x2 (J++ [r++ [i]]) (y0 (.v (.tup (ag r)))) (y0 (.v (.int (i:Int))))) (h2:=h) rfl ?_,z,Ae7]
   ·rfl
   ·simp only [zh,Xa]
    rw [Zr a]
    simp only [gJ,f]
    simp_all [XB,g,if_true,b]
theorem pH (a:n<=4) (h): ∀ rows i J j,(∀ r∈rows,r.length<=4)->i.length+rows.length*4<=1000-> ∃M L,
 Gq (Gn [4] k9) (λY h=>execs F ql Y h) (bT rows) (gJ n x1 x2 i J j) h= .next (gJ n x1 x2 (i++xB n rows) M L) h
 | [],i,J,j,_,_=>⟨J,j,by simp [xB]⟩
 | r::rows,i,J,j,b,c=>by
  rw [Ab8]at c
  have m:((Aa0 n).filter λx=> !u9 (x∈r)).length<=4:=Ac (Ad6 _ _) (by simp;exact a)
  obtain⟨L,e⟩:=pF (n:=n) (b r Aa3) h n 0 i j (by omega) (by omega)
  have g:(Aa0 n).map (0+ ·)=Aa0 n:=(Ad7 λx _=>Af9 x).trans (List.map_id _)
  rw [g]at e
  obtain⟨l,f,q⟩:=pH a h rows (i++((Aa0 n).filter λx=> !u9 (x∈r)).map λx=>r++ [x]) (y0 (.v (.tup (ag r)))) L (λs d=>b s (Aa1 _ d)) (by rw [Ab2,Aa];omega)
  refine⟨l,f,?_⟩
  have k:xB n (r::rows)=(((Aa0 n).filter λx=> !u9 (x∈r)).map λx=>r++ [x])++xB n rows:=rfl
  rw [show bT (r::rows)= .tup (ag r)::bT rows from rfl,qa rfl (by
   simp only [ql,Xa]
   rw [exec,qH,wd rfl (by omega),R.ay]
   simp only [Af9]at e
   exact e),q,k,Ae7]
theorem vo (hn:n<=4) (h): ∀(m j:Nat) x2 x3 x4 x5,j+m=n-> ∃y2 y3 y4 y5,
 Gq (Gn [2] k9) (λY h=>execs (k8 k) Zt Y h) ((Aa0 m).map λi=>D.int ((j+i:Nat):Int)) [y0 (.v (.int (n:Int))),y0 (.own (bT (wm n j))),x2,x3,x4,x5] h= .next [y0 (.v (.int (n:Int))),y0 (.own (bT (wm n n))),y2,y3,y4,y5] h
 | 0,j,x2,x3,x4,x5,e=>⟨x2,x3,x4,x5,by obtain rfl:j=n:=by omega
                                      rfl⟩
 | m+1,j,x2,x3,x4,x5,e=>by
  have Rn:=mZ n hn
  obtain⟨y4,y5,q⟩:=pH hn h (wm n j) [] x4 x5 (Rn.sX j (by omega)) (by have:=Rn.oy j (by omega);simp;omega)
  obtain⟨z2,z3,z4,z5,q2⟩:=vo hn h m (j+1) (y0 (.v (.int j))) u0 y4 y5 (by omega)
  refine⟨z2,z3,z4,z5,?_⟩
  rw [wk,qa rfl ?_,q2]
  refine(za (by simp_all [];rfl)).trans ?_
  refine(za (by simp_all [];rfl)).trans ?_
  rw [za (by
   exact q)]
  rfl
def Ht (k n:Nat) (h) (a:n<=4):call prog (k+1) "_law_orders" [.v (.int (n:Int))] h= .ok (.own (bT (wm n n))) h:=by
 obtain⟨c,d,b,f,e⟩:=vo a h n 0 u0 u0 u0 u0 (by lia)
 refine fx (by simp_all [];rfl) ?_
 rw [za (by
  rw [exec,qH,wd rfl (by lia),R.ay]
  simp [Af9]at e
  exact e)]
 simp_all []
section
variable {n:Nat}{ks ts:List Nat}(g:Wl n ks ts){n2:Nat}{ks2 ts2:List Nat}
include g
def QM (ks ts:List Nat):List D:=ag (ks++ts).reverse
omit g in
theorem t9 (a b:List Nat):(ag b).reverse++(ag a).reverse=QM a b:=by
 unfold QM
 rw [List.reverse_append,ag,ag,ag,Ac6,List.map_reverse,List.map_reverse]
theorem zP (h): ∀ rows i L J j,(∀ r∈rows,Od n r)->Od n i-> ∃r O M S,Od n r/\Cw n (ks.map (kM n r)) (ts.map (tK n r))<=Cw n (ks.map (kM n i)) (ts.map (tK n i))/\(∀ s∈rows,Cw n (ks.map (kM n r)) (ts.map (tK n r))<=Cw n (ks.map (kM n s)) (ts.map (tK n s))) ∧
 Gq (Gn [5] k9) (λY h=>execs (k8 (k+2)) Jd Y h) (bT rows) [y0 (.v (Qc n ks ts)),x1,x2,x3,y0 (.v (.tup [.lst (QM (ks.map (kM n i)) (ts.map (tK n i))),Qc n (ks.map (kM n i)) (ts.map (tK n i))])),L,J,j] h= .next [y0 (.v (Qc n ks ts)),x1,x2,x3,y0 (.v (.tup [.lst (QM (ks.map (kM n r)) (ts.map (tK n r))),Qc n (ks.map (kM n r)) (ts.map (tK n r))])),O,M,S] h
 | [],i,L,J,j,_,p=>⟨i,L,J,j,p,Aa5 _,(λ_ h=>by cases h),rfl⟩
 | s::rows,i,L,J,j,v,p=>by
  have w:=g.k4
  have K:=g.t4
  have u:=v s Aa3
  have z:=yI u g.n4 k ks ts (by omega) (by omega) h
  have E:aX [D.int (n:Int),D.tup (ag (ks.map (kM n s))),D.tup (ag (ts.map (tK n s)))] 1=y0 (.tup (ag (ks.map (kM n s)))):=rfl
  have y:aX [D.int (n:Int),D.tup (ag (ks.map (kM n s))),D.tup (ag (ts.map (tK n s)))] 2=y0 (.tup (ag (ts.map (tK n s)))):=rfl
  have G:(ag (ts.map (tK n s))).reverse.length+(ag (ks.map (kM n s))).reverse.length<=aY:=by rw [Gi];simp;omega
  have x:=tR (bw n ks.length ts.length) (ks.map (kM n s)++ts.map (tK n s)) (ks.map (kM n i)++ts.map (tK n i)) (by rw [xp];simp) (by rw [xp];simp) (by have:=(g.mv u).ok;rw [Aa,Aa]at this;exact this) (by have:=(g.mv p).ok;rw [Aa,Aa]at this;exact this)
  have C:cd ((bw n ks.length ts.length).zip (ks.map (kM n s)++ts.map (tK n s)))=Cw n (ks.map (kM n s)) (ts.map (tK n s)):=by unfold Cw;rw [Aa,Aa]
  have I:cd ((bw n ks.length ts.length).zip (ks.map (kM n i)++ts.map (tK n i)))=Cw n (ks.map (kM n i)) (ts.map (tK n i)):=by unfold Cw;rw [Aa,Aa]
  rw [C,I]at x
  have step: ∀L J j:Option W,execs (k8 (k+2)) Jd [y0 (.v (Qc n ks ts)),x1,x2,x3,y0 (.v (.tup [.lst (QM (ks.map (kM n i)) (ts.map (tK n i))),Qc n (ks.map (kM n i)) (ts.map (tK n i))])),y0 (.v (.tup (ag s))),J,j] h= .next [y0 (.v (Qc n ks ts)),x1,x2,x3,y0 (.v (if Cw n (ks.map (kM n s)) (ts.map (tK n s))<Cw n (ks.map (kM n i)) (ts.map (tK n i))then .tup [.lst (QM (ks.map (kM n s)) (ts.map (tK n s))),Qc n (ks.map (kM n s)) (ts.map (tK n s))]else .tup [.lst (QM (ks.map (kM n i)) (ts.map (tK n i))),Qc n (ks.map (kM n i)) (ts.map (tK n i))])),y0 (.v (.tup (ag s))),y0 (.v (Qc n (ks.map (kM n s)) (ts.map (tK n s)))),y0 (.v (.lst (QM (ks.map (kM n s)) (ts.map (tK n s)))))] h:=λL J j=>by
   simp only [Jd]
   rw [za (Y1:= [y0 (.v (Qc n ks ts)),x1,x2,x3,y0 (.v (.tup [.lst (QM (ks.map (kM n i)) (ts.map (tK n i))),Qc n (ks.map (kM n i)) (ts.map (tK n i))])),y0 (.v (.tup (ag s))),y0 (.v (Qc n (ks.map (kM n s)) (ts.map (tK n s)))),j]) (h1:=h) (by simp_all [z])]
   rw [za (Y1:= [y0 (.v (Qc n ks ts)),x1,x2,x3,y0 (.v (.tup [.lst (QM (ks.map (kM n i)) (ts.map (tK n i))),Qc n (ks.map (kM n i)) (ts.map (tK n i))])),y0 (.v (.tup (ag s))),y0 (.v (Qc n (ks.map (kM n s)) (ts.map (tK n s)))),y0 (.v (.lst (QM (ks.map (kM n s)) (ts.map (tK n s)))))]) (h1:=h) (by
    rw [← t9 (ks.map (kM n s)) (ts.map (tK n s))]
    have H: ∀l,(W.own l).bf h=y0 l:=λ_=>rfl
    simp_all [ah,E,y,pQ,H,pf,G,if_true])]
   have B: ∀l,(W.v (D.lst l)).bf h=y0 l:=λ_=>rfl
   have F:(Jc (ks.map (kM n s)++ts.map (tK n s)).reverse).length=(Jc (ks.map (kM n i)++ts.map (tK n i)).reverse).length:=by simp [Jc]
   have A: ∀a b:List Nat,GG (QM a b)=y0 (Jc (a++b).reverse):=λa b=>zD _
   have o:Gs (k8 (k+2)) (.or (.dS y9 .v4) (.ia .v7 (.ix .v4 (.int 0)))) [y0 (.v (Qc n ks ts)),x1,x2,x3,y0 (.v (.tup [.lst (QM (ks.map (kM n i)) (ts.map (tK n i))),Qc n (ks.map (kM n i)) (ts.map (tK n i))])),y0 (.v (.tup (ag s))),y0 (.v (Qc n (ks.map (kM n s)) (ts.map (tK n s)))),y0 (.v (.lst (QM (ks.map (kM n s)) (ts.map (tK n s)))))] h= .ok (u9 (Cw n (ks.map (kM n s)) (ts.map (tK n s))<Cw n (ks.map (kM n i)) (ts.map (tK n i)))) h:=by
    simp_all [ah,xI,B,A,F,if_true,x]
   rw [Xa]
   by_cases c:Cw n (ks.map (kM n s)) (ts.map (tK n s))<Cw n (ks.map (kM n i)) (ts.map (tK n i))
   ·rw [decide_eq_true c]at o
    rw [Zr o,if_pos c]
    simp_all []
   ·rw [decide_eq_false c]at o
    rw [wY o,if_neg c]
    rfl
  rw [show bT (s::rows)= .tup (ag s)::bT rows from rfl]
  by_cases c:Cw n (ks.map (kM n s)) (ts.map (tK n s))<Cw n (ks.map (kM n i)) (ts.map (tK n i))
  ·obtain⟨r,O,M,S,q,f,le,e⟩:=zP h rows s (y0 (.v (.tup (ag s)))) (y0 (.v (Qc n (ks.map (kM n s)) (ts.map (tK n s))))) (y0 (.v (.lst (QM (ks.map (kM n s)) (ts.map (tK n s)))))) (λt d=>v t (Aa1 _ d)) u
   have m:=step L J j
   rw [if_pos c]at m
   refine⟨r,O,M,S,q,by omega,λt d=> ?_,by rw [qa rfl m,e]⟩
   rcases Ab9.mp d with rfl | d
   ·exact f
   ·exact le t d
  ·obtain⟨r,O,M,S,q,f,le,e⟩:=zP h rows i (y0 (.v (.tup (ag s)))) (y0 (.v (Qc n (ks.map (kM n s)) (ts.map (tK n s))))) (y0 (.v (.lst (QM (ks.map (kM n s)) (ts.map (tK n s)))))) (λt d=>v t (Aa1 _ d)) p
   have m:=step L J j
   rw [if_neg c]at m
   refine⟨r,O,M,S,q,f,λt d=> ?_,by rw [qa rfl m,e]⟩
   rcases Ab9.mp d with rfl | d
   ·omega
   ·exact le t d
end
section
variable {n:Nat}{ks ts:List Nat}(g:Wl n ks ts)
include g
def JY (k) (h): ∃a b,Ls n ks ts a b/\call prog (k+3) "_law_least" [.v (Qc n ks ts)] h= .ok (.v (Qc n a b)) h:=by
 have hn:=g.n4
 have d:=g.k4
 have u:=g.t4
 have p:=Ht (k+1) n h hn
 have all: ∀r∈wm n n,Od n r:=λr c=>(Xg hn r).mp c
 have i:=tL g
 cases j:wm n n with
 | nil=>exact absurd j i
 | cons s rows=>
  rw [j]at all p
  have l:=all s Aa3
  obtain⟨r,G,F,H,q,f,le,e⟩:=zP g h rows s _ _ _ (λt C=>all t (Aa1 _ C)) l
  refine⟨_,_,⟨⟨r,q,rfl,rfl⟩,λo y=> ?_⟩,?_⟩
  ·have c:=(Xg hn o).mpr y
   rw [j]at c
   rcases Ab9.mp c with rfl | c
   ·exact f
   ·exact le o c
  ·rw [Ga rfl _ _ _ rfl]
   have x:=yI l g.n4 k ks ts (by omega) (by omega) h
   have A:aX [D.int (n:Int),D.tup _,D.tup (ag (ts.map (tK n s)))] 1=y0 (.tup (ag (ks.map (kM n s)))):=rfl
   have v:aX [D.int (n:Int),D.tup (ag (ks.map (kM n s))),D.tup _] 2=y0 (.tup (ag (ts.map (tK n s)))):=rfl
   have B:(ag (ts.map (tK n s))).reverse.length+(ag (ks.map (kM n s))).reverse.length<=aY:=by rw [Gi];simp;omega
   have step:execs (k8 (k+2)) Jd [y0 (.v (Qc n ks ts)),y0 (.v (.int (n:Int))),y0 (.v (.tup (ag ks))),y0 (.v (.tup (ag ts))),y0 (.v .au),y0 (.v (.tup (ag s))),u0,u0] h= .next [y0 (.v (Qc n ks ts)),y0 (.v (.int (n:Int))),y0 (.v (.tup (ag ks))),y0 (.v (.tup (ag ts))),y0 (.v (.tup [.lst (QM (ks.map (kM n s)) (ts.map (tK n s))),Qc n (ks.map (kM n s)) (ts.map (tK n s))])),y0 (.v (.tup (ag s))),y0 (.v (Qc n (ks.map (kM n s)) (ts.map (tK n s)))),y0 (.v (.lst (QM (ks.map (kM n s)) (ts.map (tK n s)))))] h:=by
    simp only [Jd]
    refine(za (by simp_all [x];rfl)).trans ?_
    rw [za (Y1:= [y0 (.v (Qc n ks ts)),y0 (.v (.int (n:Int))),y0 (.v (.tup (ag ks))),y0 (.v (.tup (ag ts))),y0 (.v .au),y0 (.v (.tup (ag s))),y0 (.v (Qc n (ks.map (kM n s)) (ts.map (tK n s)))),y0 (.v (.lst (QM (ks.map (kM n s)) (ts.map (tK n s)))))]) (h1:=h) (by
     rw [← t9 (ks.map (kM n s)) (ts.map (tK n s))]
     have E: ∀m,(W.own m).bf h=y0 m:=λ_=>rfl
     simp_all [ah,A,v,pQ,E,pf,B,if_true])]
    rw [Xa,Zr (h1:=h) (by simp_all [])]
    simp_all []
   have z:eval (k8 (k+2)) (.call "_law_orders" (.a .v1)) [some (.v (Qc n ks ts)),some (.v (.int (n:Int))),some (.v (.tup (ag ks))),some (.v (.tup (ag ts))),some (.v .au),none,none,none] h= .ok (.own (bT (s::rows))) h:=by simp_all [p]
   simp only [xH]
   refine fx (by simp_all [];rfl) ?_
   refine fx (by simp_all [];rfl) ?_
   rw [za (by
    simp only [exec,Gr,GD,z,R.aa,GL,R.af,R.ay]
    rw [show bT (s::rows)= .tup (ag s)::bT rows from rfl,qa (Y1:= [y0 (.v (Qc n ks ts)),y0 (.v (.int (n:Int))),y0 (.v (.tup (ag ks))),y0 (.v (.tup (ag ts))),y0 (.v .au),y0 (.v (.tup (ag s))),u0,u0]) (h2:=h) rfl step]
    exact e)]
   rw [jb (w:= .v (Qc n (ks.map (kM n r)) (ts.map (tK n r)))) (h1:=h) (zc rfl (by simp_all [ah,wB]))]
   exact Gb _ _ _ rfl
end
theorem Xe: ∀e:Ex,Gc (aM e)=k9
 | .name _=>rfl
 | .same=>rfl
 | .all=>rfl
 | .none=>rfl
 | .turned a=>by show(k9&&(Gc (aM a)&&k9))=k9;rw [Xe a];rfl
 | .closed a=>by show(k9&&(Gc (aM a)&&k9))=k9;rw [Xe a];rfl
 | .plus a b=>by show(k9&&(Gc (aM a)&&(Gc (aM b)&&k9)))=k9;rw [Xe a,Xe b];rfl
 | .less a b=>by show(k9&&(Gc (aM a)&&(Gc (aM b)&&k9)))=k9;rw [Xe a,Xe b];rfl
 | .both a b=>by show(k9&&(Gc (aM a)&&(Gc (aM b)&&k9)))=k9;rw [Xe a,Xe b];rfl
 | .joined a b=>by show(k9&&(Gc (aM a)&&(Gc (aM b)&&k9)))=k9;rw [Xe a,Xe b];rfl
theorem wg: ∀e:Ex,dep (aM e)<=e.dp+1
 | .name _=>Aa5 _
 | .same=>Aa5 _
 | .all=>Aa5 _
 | .none=>Aa5 _
 | .turned a=>by
  have:=wg a
  show max 0 (max (dep (aM a)) 0)+1<=a.dp+1+1
  omega
 | .closed a=>by
  have:=wg a
  show max 0 (max (dep (aM a)) 0)+1<=a.dp+1+1
  omega
 | .plus a b=>by
  have:=wg a;have:=wg b
  show max 0 (max (dep (aM a)) (max (dep (aM b)) 0))+1<=max a.dp b.dp+1+1
  omega
 | .less a b=>by
  have:=wg a;have:=wg b
  show max 0 (max (dep (aM a)) (max (dep (aM b)) 0))+1<=max a.dp b.dp+1+1
  omega
 | .both a b=>by
  have:=wg a;have:=wg b
  show max 0 (max (dep (aM a)) (max (dep (aM b)) 0))+1<=max a.dp b.dp+1+1
  omega
 | .joined a b=>by
  have:=wg a;have:=wg b
  show max 0 (max (dep (aM a)) (max (dep (aM b)) 0))+1<=max a.dp b.dp+1+1
  omega
def Dk (f):Gc (d3 f)=true:=by
 cases f with
 | g0 a b=>show(k9&&(Gc _&&(Gc _&&k9)))=k9;rw [Xe a,Xe b];rfl
 | ib a b=>show(k9&&(Gc _&&(Gc _&&k9)))=k9;rw [Xe a,Xe b];rfl
 | hO a=>show(k9&&(Gc _&&k9))=k9;rw [Xe a];rfl
 | au a=>show(k9&&(Gc _&&k9))=k9;rw [Xe a];rfl
 | cnt s k a=>show(k9&&(k9&&(Gc _&&k9)))=k9;rw [Xe a];rfl
def HB (f):dep (d3 f)<=f.dp+2:=by
 cases f with
 | g0 a b=>
  have:=wg a;have:=wg b
  show max 0 (max _ (max _ 0))+1<=max a.dp b.dp+2
  lia
 | ib a b=>
  have:=wg a;have:=wg b
  show max 0 (max _ (max _ 0))+1<=max a.dp b.dp+2
  lia
 | hO a=>
  have:=wg a
  show max 0 (max _ 0)+1<=a.dp+2
  lia
 | au a=>
  have:=wg a
  show max 0 (max _ 0)+1<=a.dp+2
  lia
 | cnt s k a=>
  have:=wg a
  show max 0 (max 0 (max _ 0))+1<=a.dp+2
  lia
theorem Zw: ∀s:Sy,Gc (aK s)=k9
 | .fact f=>Dk f
 | .neg a=>by show(k9&&(Gc (aK a)&&k9))=k9;rw [Zw a];rfl
 | .cV a b=>by show(k9&&(Gc (aK a)&&(Gc (aK b)&&k9)))=k9;rw [Zw a,Zw b];rfl
 | .dW a b=>by show(k9&&(Gc (aK a)&&(Gc (aK b)&&k9)))=k9;rw [Zw a,Zw b];rfl
theorem xL: ∀s:Sy,dep (aK s)<=s.dp+2
 | .fact f=>HB f
 | .neg a=>by
  have:=xL a
  show max 0 (max (dep (aK a)) 0)+1<=a.dp+1+2
  omega
 | .cV a b=>by
  have:=xL a;have:=xL b
  show max 0 (max (dep (aK a)) (max (dep (aK b)) 0))+1<=max a.dp b.dp+1+2
  omega
 | .dW a b=>by
  have:=xL a;have:=xL b
  show max 0 (max (dep (aK a)) (max (dep (aK b)) 0))+1<=max a.dp b.dp+1+2
  omega
abbrev pr (d:D) (n:Nat):D:= .tup [d,.int (n:Int)]
def pP (p:Ex×Nat):D:=pr (aM p.1) p.2
def pS (p:Sy×Nat):D:=pr (aK p.1) p.2
structure ky (N:List Tx) (p:Ex×Nat):Prop where
 wf:p.1.wf N
 dp:p.1.dp+1<=p.2
 le:p.2<=13
structure iV (N:List Tx) (p:Sy×Nat):Prop where
 wf:p.1.wf N
 dp:p.1.dp<=p.2+11
 po:1<=p.2
 le:p.2<=13
def pY (p):Gc (pP p)=true:=by show(Gc _&&(k9&&k9))=k9;rw [Xe];rfl
def lY (p):Gc (pS p)=true:=by show(Gc _&&(k9&&k9))=k9;rw [Zw];rfl
theorem JP (f) (k): ∀l:List α,(∀ x∈l,dep (f x)<=k)->GK (l.map f)<=k
 | [],_=>Ah2 _
 | x::l,h=>by
  exact Nat.max_le.mpr ⟨h x Aa3,JP f k l λy a=>h y (Aa1 _ a)⟩
def Lc (h:ky N p):dep (pP p)<=20:=by
 have:=wg p.1;have:=h.dp;have:=h.le
 show max _ (max 0 0)+1<=20
 lia
def rN (h:iV N p):dep (pS p)<=40:=by
 have:=xL p.1;have:=h.dp;have:=h.le
 show max _ (max 0 0)+1<=40
 lia
def jN (c:h[r]? =y0 (.lst xs)) (h1:Gd xs=k9) (h2:GK xs<=100) (a:xs≠ []):Gw .eq (.v (.ref r)) (.own []) h=y0 false:=by
 have b:(W.v (D.ref r)).dd h= .lst xs:=by
  show(match h[r]? with | some (.lst xs)=>D.lst xs | _=> .ref r)=_
  rw [c]
 have d:(W.own []).dd h= .lst []:=rfl
 rw [oO,b,d,if_pos (by
  unfold GM
  rw [show Gc (.lst xs)=k9 from h1,decide_eq_true (show dep _<150 by show GK xs+1<150;lia)];rfl)]
 cases xs with
 | nil=>exact absurd rfl a
 | cons x xs=>rfl
def Ap (k) (K T) (n:(K++T).length<=100) (x) (h): ∃e:Ex,e.wf (K++T)/\e.dp=0/\call prog (k+1) "_law_atom" [.v (wD K T),.v (.int x)] h= .ok (.v (aM e)) h:=by
 obtain⟨p,z,y⟩:=Zf x ((K++T).length+3) (by omega)
 have o:GW .add (.v (cJ K)) (.v (cJ T)) h= .ok (.v (cJ (K++T))) h:=by
  rw [XB,if_pos (by rw [Gi,Aa,Aa];rw [Ab2]at n;omega),←Ac6]
 have u:cm .len [.v (cJ (K++T))] h=aT (.int ((K++T).length:Int)) h:=by rw [Jh,Aa]
 have q:Gp .mod x (((K++T).length:Int)+3)=y0 (p:Int):=by rw [Qo _ _ (by omega)];exact congrArg y0 y
 have l: ∀ i,execs (k8 k) (.cons (.ak 2 (.bin .add (.ix .v0 (.int 0)) (.ix .v0 (.int 1)))) (.cons (.ak 3 (.bin .mod .v1 (.bin .add (.bi .len (.a .v2)) (.int 3)))) i)) (An y0 [W.v (wD K T),.v (.int x)]++Aa9 (4-2) u0) h=execs (k8 k) i [y0 _,y0 _,y0 _,y0 _] h:=λi=>by
  rw [za (h1:=h) (Y1:= [y0 (.v (wD K T)),y0 (.v (.int x)),y0 (.v (cJ (K++T))),u0]) (by simp only [exec,eval,Gf,Gj,R.aa,ah,xI,wB,R.af,o,R.ay,W.eD,Gy,Ab,Ad1,Ai6,Ag2,Ad2,Aj9,Nat.reduceSub])]
  rw [za (h1:=h) (Y1:= [y0 (.v (wD K T)),y0 (.v (.int x)),y0 (.v (cJ (K++T))),y0 (.v (.int (p:Int)))]) (by simp only [exec,eval,Gg,Gf,Gj,R.aa,u,Gx,Zc,R.af,q,R.ay,W.eD,Gy])]
 have a: ∀ {d},GC h.length _= .ok (.v d) h:=λ{d}=>Gb _ _ _ rfl
 by_cases c:p<3
 ·have f:u9 ((p:Int)<(3:Int))=true:=decide_eq_true (by omega)
  have g: ∀ e s,aM e= .tup [.str s]->aX [D.str wW,.str kX,.str mB] (p:Int)=y0 (.str s)->call prog (k+1) "_law_atom" [.v (wD K T),.v (.int x)] h= .ok (.v (aM e)) h:=fun e s t m=>by
   rw [Ga (d:=Xl) rfl _ _ _ rfl]
   simp only [Xl]
   rw [l,zk (w:= .v (aM e)) (by simp_all [xc,f]) (zc rfl (by rw [t];simp only [eval,Gm,Gf,Gj,R.aa,W.eD,R.af,Xt,m]))]
   exact a
  have b:p=0\/p=1\/p=2:=by omega
  rcases b with rfl | rfl | rfl
  ·exact⟨.same,trivial,rfl,g .same wW rfl rfl⟩
  ·exact⟨.all,trivial,rfl,g .all kX rfl rfl⟩
  ·exact⟨.none,trivial,rfl,g .none mB rfl rfl⟩
 ·have f:u9 ((p:Int)<(3:Int))=false:=decide_eq_false (by omega)
  have j:p-3<(K++T).length:=by omega
  have r:(p:Int)-3=((p-3:Nat):Int):=by omega
  have v:dN (.v (cJ (K++T))) (.v (.int ((p-3:Nat):Int))) h=y0 (.str (K++T)[p-3]):=by
   show aX ((K++T).map D.str) _=_
   rw [Xh _ _ (by rw [Aa];exact j),Ac4,Aa4 j];rfl
  refine⟨.name (K++T)[p-3],Aj6 j,rfl,?_⟩
  rw [Ga (d:=Xl) rfl _ _ _ rfl]
  simp only [Xl]
  rw [l,Za (by simp_all [xc,f])]
  rw [jb (w:= .v (aM (.name (K++T)[p-3]))) (h1:=h) (zc rfl (by simp only [eval,Gm,Gf,Gj,R.aa,W.eD,R.af,Gx,Wm,r,v];rfl))]
  exact a
def L6 {x:D}(h) (e:xs.getLast h=x):aX xs (-1)=y0 x:=by
 have a:=Am5.mpr h
 have:dM xs.length (-1)=y0 (xs.length-1):=by
  unfold dM
  rw [if_neg (by decide),if_pos (by lia)]
  exact congrArg y0 (by lia)
 unfold aX
 rw [this,Ag4,Aa4 (by lia),←e,List.getLast_eq_getElem]
def WM {xs:List D}(x) (c:0<xs.length): ∃d∈xs,aX xs (x % ((xs.length:Nat):Int))=y0 d:=by
 obtain⟨a,b,e⟩:=Zf x xs.length c
 exact⟨xs[a],Aj6 b,by rw [e,Xh _ _ b,Aa4 b]⟩
def pd (a:h[r]? =y0 (.lst xs)) (i):dN (.v (.ref r)) (.v (.int i)) h=aX xs i:=by
 show((match h[r]? with | some (.lst xs)=>y0 xs | _=>u0).bind λxs=>aX xs i)=_
 rw [a];rfl
def Z4 (a:h[r]? =y0 (.lst xs)):cm .len [.v (.ref r)] h=aT (.int (xs.length:Int)) h:=by
 show(R.of h (match h[r]? with | some (.lst xs)=>y0 xs | _=>u0)).bind _=_
 rw [a];rfl
noncomputable def Lb (j m:Nat) (a b:Ex):Fc:=match j with
 | 0=> .g0 a b
 | 1=> .ib a b
 | 2=> .hO a
 | 3=> .au a
 | 4=> .cnt je m a
 | 5=> .cnt Wk m a
 | 6=> .cnt jd m a
 | _=> .cnt Zh m a
def sJ (k) (N) (ps) (P: ∀p∈ps,ky N p) (t:ps≠ []) (x) (h:AH) (H:h[0]? =y0 (.lst (ps.map pP))): ∃f:Fc,f.wf N/\f.dp<=12/\call prog (k+1) "_law_fact" [.v (.ref 0),.v (.int x)] h= .ok (.v (d3 f)) h:=by
 have B:ps.map pP≠ []:=λz=>t (Ai7.mp z)
 obtain⟨a,V,ea⟩: ∃p∈ps,aX _ (-1)=y0 _:=⟨ps.getLast t,List.getLast_mem t,L6 B (by rw [List.getLast_map])⟩
 obtain⟨d,Y,Z⟩:=WM (xs:=ps.map pP) _ (Am5.mpr B)
 obtain⟨b,mb,rfl⟩:=Ac1.mp Y
 have K:=JA x 8 (by decide) (by decide)
 have T:=Qo (x / 8) (((ps.map pP).length:Nat):Int) (by have:=Am5.mpr B;omega)
 obtain⟨j,o,s⟩:=Zf x 8 (by decide)
 have s:x % 8=(j:Int):=s
 have n:=Qo x 8 (by decide)
 rw [s]at n
 have g:=P a V
 have q:=P b mb
 have M:=pd H (-1)
 rw [ea]at M
 have L:=pd H (x / 8 % (((ps.map pP).length:Nat):Int))
 rw [Z]at L
 have U:dN (.v (pP a)) (.v (.int 0)) h=y0 (aM a.1):=rfl
 have Q:dN (.v (pP b)) (.v (.int 0)) h=y0 (aM b.1):=rfl
 have ln:=Z4 H
 obtain⟨m,X⟩: ∃m:Nat,eval (k8 k) (.ix (.lst (.b (.bin .mod (.bin .fdiv .v1 (.int 8)) (.int 5)) (.bin .mod (.bin .fdiv .v1 (.int 8)) (.int 100)))) (.bin .mod (.bin .fdiv .v1 (.int 800)) (.int 2))) [y0 (.v (.ref 0)),y0 (.v (.int x)),y0 (.v (aM a.1)),y0 (.v (aM b.1)),y0 (.v (.str ([fG,Xj,zp,fA,je,Wk,jd,Zh].getD j [])))] h= .ok (.v (.int (m:Int))) h:=by
  have F:=Qo (x / 8) 5 (by decide)
  have c:=Qo (x / 8) 100 (by decide)
  have i:=JA x 800 (by decide) (by decide)
  have J:=Qo (x / 800) 2 (by decide)
  obtain⟨u,hu,G⟩:=Zf (x / 8) 5 (by decide)
  obtain⟨v,hv,y⟩:=Zf (x / 8) 100 (by decide)
  obtain⟨z,hz,E⟩:=Zf (x / 800) 2 (by decide)
  have G:x / 8 % 5=(u:Int):=G
  have y:x / 8 % 100=(v:Int):=y
  have E:x / 800 % 2=(z:Int):=E
  rw [G]at F
  rw [y]at c
  rw [E]at J
  have I:z=0\/z=1:=by omega
  rcases I with rfl | rfl
  ·exact⟨u,by simp only [eval,Gm,Gf,Gj,R.aa,Gx,K,R.af,F,c,i,J,W.eD,Xt];rfl⟩
  ·exact⟨v,by simp only [eval,Gm,Gf,Gj,R.aa,Gx,K,R.af,F,c,i,J,W.eD,Xt];rfl⟩
 have S:aX [D.str fG,.str Xj,.str zp,.str fA,.str je,.str Wk,.str jd,.str Zh] (j:Int)=y0 (.str ([fG,Xj,zp,fA,je,Wk,jd,Zh].getD j [])):=by
  rw [Xh _ _ (by show j<8;exact o)]
  have: ∀j,j<8-> [D.str fG,.str Xj,.str zp,.str fA,.str je,.str Wk,.str jd,.str Zh][j]? =y0 (.str ([fG,Xj,zp,fA,je,Wk,jd,Zh].getD j [])):=λj o=>by
   match j,o with
   | 0,_=>rfl
   | 1,_=>rfl
   | 2,_=>rfl
   | 3,_=>rfl
   | 4,_=>rfl
   | 5,_=>rfl
   | 6,_=>rfl
   | 7,_=>rfl
  exact this j o
 have l:a.1.dp<=12:=by have:=g.dp;have:=g.le;omega
 have O:b.1.dp<=12:=by have:=q.dp;have:=q.le;omega
 refine⟨Lb j m a.1 b.1,?_,?_,?_⟩
 ·match j,o with
  | 0,_=>exact⟨g.wf,q.wf⟩
  | 1,_=>exact⟨g.wf,q.wf⟩
  | 2,_=>exact g.wf
  | 3,_=>exact g.wf
  | 4,_=>exact⟨by simp,g.wf⟩
  | 5,_=>exact⟨by simp,g.wf⟩
  | 6,_=>exact⟨by simp,g.wf⟩
  | 7,_=>exact⟨by simp,g.wf⟩
 ·match j,o with
  | 0,_=>exact Nat.max_le.mpr ⟨l,O⟩
  | 1,_=>exact Nat.max_le.mpr ⟨l,O⟩
  | 2,_=>exact l
  | 3,_=>exact l
  | 4,_=>exact l
  | 5,_=>exact l
  | 6,_=>exact l
  | 7,_=>exact l
 ·have e: ∀ {d:D},GC h.length (.ret (.v d) h)= .ok (.v d) h:=λ{d}=>Gb _ _ _ rfl
  rw [Ga (d:=Qy) rfl _ _ _ rfl]
  simp only [Qy]
  have n1:Gp .mul (-1) 1=Gp .mul (-1) 1:=rfl
  refine fx (by simp_all [M,U];rfl) ?_
  refine fx (by simp_all [K,ln,T,L,Q];rfl) ?_
  refine fx (by simp_all [n,Xt,S];rfl) ?_
  by_cases c2:j<2
  ·have r:u9 ((j:Int)<(2:Int))=true:=decide_eq_true (by omega)
   rw [zk (w:= .v (.tup [.str ([fG,Xj,zp,fA,je,Wk,jd,Zh].getD j []),aM a.1,aM b.1])) (by simp_all [n,xc,r]) (zc rfl (by simp_all [])),e]
   match j,c2 with
   | 0,_=>rfl
   | 1,_=>rfl
  have r:u9 ((j:Int)<(2:Int))=false:=decide_eq_false (by omega)
  rw [Za (by simp_all [n,xc,r])]
  by_cases c4:j<4
  ·have C:u9 ((j:Int)<(4:Int))=true:=decide_eq_true (by omega)
   rw [zk (w:= .v (.tup [.str ([fG,Xj,zp,fA,je,Wk,jd,Zh].getD j []),aM a.1])) (by simp_all [n,xc,C]) (zc rfl (by simp_all [])),e]
   have A:j=2\/j=3:=by omega
   rcases A with rfl | rfl<;>rfl
  have C:u9 ((j:Int)<(4:Int))=false:=decide_eq_false (by omega)
  rw [Za (by simp_all [n,xc,C])]
  rw [jb (w:= .v (.tup [.str ([fG,Xj,zp,fA,je,Wk,jd,Zh].getD j []),.int (m:Int),aM a.1])) (h1:=h) (zc rfl (by rw [eval,Gm,eval];simp only [Gf,Gj,R.aa,W.eD,R.af];rw [Gm,X];simp only [R.aa,W.eD,R.af,Gm,eval,Gf,Gj])),e]
  have j4:j=4\/j=5\/j=6\/j=7:=by omega
  rcases j4 with rfl | rfl | rfl | rfl<;>rfl
def Zg (a:h[r]? =y0 (.lst xs)):bj h (y0 (.v (.ref r)))=y0 (r,xs):=by
 show(match h[r]? with | some (.lst xs)=>y0 _ | _=>u0)=_
 rw [a]
def p7 {h:AH}(a:h[r]? =y0 c):(h.set r c')[r]? =y0 c':=Ad0 (Ac0.mp a).1
def XC (xs) (x:D):(xs++ [x])[(xs++ [x]).length-1]? =y0 x:=by simp
def Xx (xs) (x:D):(xs++ [x]).take ((xs++ [x]).length-1)=xs:=by
 rw [Ab2,Af7,Nat.add_sub_cancel,List.take_left'];rfl
def Ik (c:Gc a=k9) (d:Gc b=k9) (t) (n):Gc (pr (.tup [.str t,a,b]) n)=true:=by
 show((k9&&(Gc a&&(Gc b&&k9)))&&(k9&&k9))=k9
 rw [c,d];rfl
def K5 (a b:Nat) (h):cm .max [.v (.int (a:Int)),.v (.int (b:Int))] h=aT (.int ((max a b:Nat):Int)) h:=by
 rw [Bg]
 by_cases c: b>(a:Int)
 ·rw [if_pos c,show max a b=b by lia]
 ·rw [if_neg c,show max a b=a by lia]
def ki (t:Tx) (a b:D) (m n:Nat):D:=if 13<1+max m n then pr a m else pr (.tup [.str t,a,b]) (1+max m n)
def ux (k r) (h) (xs) (a b) (m n) (t) (f:h[r]? =y0 (.lst (xs++ [pr a m]++ [pr b n]))) (i:Gc a=k9) (q:Gc b=k9) (u:xs.length<=1000):
 call prog (k+1) "_law_put" [.v (.ref r),.v (.str t)] h= .ok (.v .au) (h.set r (.lst (xs++ [ki t a b m n]))):=by
 rw [Ga rfl _ _ _ rfl]
 simp only [QT]
 have l:xs.length<aY:=by rw [Gi];omega
 have s:(h.set r (.lst (xs++ [pr a m])))[r]? =y0 _:=p7 f
 have j:(h.set r (.lst xs))[r]? =y0 _:=p7 f
 have d:h.length=(h.set r (.lst (xs++ [ki t a b m n]))).length:=by rw [Ae0]
 refine fx (by
  simp_all [Zg f,XC,Xx]
  rfl) ?_
 refine fx (by
  simp_all [Zg s,XC,Xx,List.set_set]
  rfl) ?_
 have i1: ∀h,dN (.v (pr a m)) (.v (.int 1)) h=y0 _:=λ_=>rfl
 have i2: ∀h,dN (.v (pr b n)) (.v (.int 1)) h=y0 (.int (n:Int)):=λ_=>rfl
 have i3: ∀h,dN (.v (pr a m)) (.v (.int 0)) h=y0 a:=λ_=>rfl
 have i4: ∀h,dN (.v (pr b n)) (.v (.int 0)) h=y0 b:=λ_=>rfl
 have o:(1:Int)+((max m n:Nat):Int)=((1+max m n:Nat):Int):=by omega
 refine fx (by
  simp_all [i1,i2,K5,Zc,o]
  rfl) ?_
 rw [Xa]
 have p:Gc (pr a m)=true:=by show(Gc a&&(k9&&k9))=k9;rw [i];rfl
 by_cases c:13<1+max m n
 ·have e:u9 ((13:Int)<((1+max m n:Nat):Int))=true:=decide_eq_true (by omega)
  have g:ki t a b m n=pr a m:=if_pos c
  rw [Zr (h1:=h.set r (.lst xs)) (by simp_all [Jt,e]),Xa]
  rw [g]at d ⊢
  rw [show exec (k8 k) (.bY 0 .v3) [y0 (.v (.ref r)),y0 (.v (.str t)),y0 (.v (pr b n)),y0 (.v (pr a m)),y0 (.v (.int ((1+max m n:Nat):Int)))] (h.set r (.lst xs))= .next [y0 (.v (.ref r)),y0 (.v (.str t)),y0 (.v (pr b n)),y0 (.v (pr a m)),y0 (.v (.int ((1+max m n:Nat):Int)))] (h.set r (.lst (xs++ [pr a m])))by
   simp_all [Zg j]
   rw [if_pos ⟨l,p⟩,List.set_set]]
  exact Gz _ _ _ d.symm
 ·have e:u9 ((13:Int)<((1+max m n:Nat):Int))=false:=decide_eq_false (by omega)
  have g:ki t a b m n=pr (.tup [.str t,a,b]) (1+max m n):=if_neg c
  rw [wY (h1:=h.set r (.lst xs)) (by simp_all [Jt,e]),Xa]
  rw [g]at d ⊢
  rw [show exec (k8 k) (.bY 0 (.tup (.b (.tup (.c .v1 (.ix .v3 (.int 0)) (.ix .v2 (.int 0)))) .v4))) [y0 (.v (.ref r)),y0 (.v (.str t)),y0 (.v (pr b n)),y0 (.v (pr a m)),y0 (.v (.int ((1+max m n:Nat):Int)))] (h.set r (.lst xs))= .next [y0 (.v (.ref r)),y0 (.v (.str t)),y0 (.v (pr b n)),y0 (.v (pr a m)),y0 (.v (.int ((1+max m n:Nat):Int)))] (h.set r (.lst (xs++ [pr (.tup [.str t,a,b]) (1+max m n)])))by
   simp_all [Zg j,i3,i4]
   rw [if_pos ⟨l,Ik i q t _⟩,List.set_set]]
  exact Gz _ _ _ d.symm
abbrev hP (b:List (Ex×Nat)) (a:List (Sy×Nat)):AH:= [.lst (b.map pP),.lst (a.map pS)]
def ZB (h:l≠ []): ∃i x,l=i++ [x]:=⟨l.dropLast,l.getLast h,(List.dropLast_concat_getLast h).symm⟩
def zY (h:1<l.length): ∃i x y,l=i++ [x]++ [y]:=by
 obtain⟨i,y,rfl⟩:=ZB (l:=l) (λz=>by rw [z]at h;exact absurd h (Ah9 _))
 obtain⟨a,x,rfl⟩:=ZB (l:=i) (λz=>by rw [z]at h;exact absurd h (Ag8 _))
 exact⟨a,x,y,rfl⟩
def QO {b:Type}(f) (a: ∀x,Gc (f x)=k9) (l:List b):Gd (l.map f)=true:=Jl f a l
def yb (d) (h):cm .min [.v (.int 13),.v (.int ((d+1:Nat):Int))] h=aT (.int ((min 13 (d+1):Nat):Int)) h:=by
 rw [KR]
 by_cases c:((d+1:Nat):Int)<13
 ·rw [if_pos c,show min 13 _=d+1 by lia]
 ·rw [if_neg c,show min 13 _=13 by lia];rfl
structure i8 (N:List Tx) (ps:List (Ex×Nat)) (ss:List (Sy×Nat)) (m:Nat):Prop where
 p: ∀p∈ps,ky N p
 s: ∀s∈ss,iV N s
 lp:ps.length<=m
 ls:ss.length<=m
def kB (i:Nat) (a b:Ex):Ex:=match i with
 | 0=> .plus a b
 | 1=> .less a b
 | 2=> .both a b
 | _=> .joined a b
def kf (i:Nat):Tx:= [XL,QK,qK,Xs].getD i []
def KO (i) (c:i<4) (a b):aM (kB i a b)= .tup [.str (kf i),aM a,aM b]:=by
 match i,c with
 | 0,_=>rfl
 | 1,_=>rfl
 | 2,_=>rfl
 | 3,_=>rfl
def C3 (N) (i) (e:i<4) (a b) (c:a.wf N) (d:b.wf N):(kB i a b).wf N:=by
 match i,e with
 | 0,_=>exact⟨c,d⟩
 | 1,_=>exact⟨c,d⟩
 | 2,_=>exact⟨c,d⟩
 | 3,_=>exact⟨c,d⟩
def Ay (i) (c:i<4) (a b):(kB i a b).dp=max a.dp b.dp+1:=by
 match i,c with
 | 0,_=>rfl
 | 1,_=>rfl
 | 2,_=>rfl
 | 3,_=>rfl
def qs {P:α->Prop}(h: ∀x∈l,P x) (a:P y): ∀x∈l++ [y],P x:=λx b=>(Ae9.mp b).elim (h x) λz=>Ae8.mp z▸a
noncomputable abbrev fY (K T:List Tx) (w:Nat) (x:Int) (a b c:Option W):Sl:= [y0 (.v (wD K T)),y0 (.v (.ref 0)),y0 (.v (.ref 1)),y0 (.v (.int (w:Int))),y0 (.v (.int x)),a,b,c]
def ZJ (e:o= .next Y (hP ps ss)):GC 2 o= .ok (.v .au) (hP ps ss):=by rw [e];rfl
def rL (a:eval F e Y (hP ps ss)= .ok (.v (pP q)) (hP ps ss)) (h1:Gj Y 1=y0 (.v (.ref 0))) (b:ps.length<=1000):exec F (.bY 1 e) Y (hP ps ss)= .next Y (hP (ps++ [q]) ss):=by
 simp_all [a,h1,Zg (h:=hP ps ss) (r:=0) rfl]
 rw [if_pos ⟨by rw [Gi,Aa];lia,pY q⟩]
 unfold hP
 rw [Ac6];rfl
def uV (a:eval F e Y (hP ps ss)= .ok (.v (pS q)) (hP ps ss)) (h1:Gj Y 2=y0 (.v (.ref 1))) (b:ss.length<=1000):exec F (.bY 2 e) Y (hP ps ss)= .next Y (hP ps (ss++ [q])):=by
 simp_all [a,h1,Zg (h:=hP ps ss) (r:=1) rfl]
 rw [if_pos ⟨by rw [Gi,Aa];lia,lY q⟩]
 unfold hP
 rw [Ac6];rfl
def K7 (k:Nat) (K T:List Tx) (hl:(K++T).length<=100) (g:List (Ex×Nat)) (l:List (Sy×Nat)) (m:Nat) (b:i8 (K++T) g l m) (hm:m<=100) (w:Nat) (hw:w<16) (x:Int):
 ∃S Z,i8 (K++T) S Z (m+1)/\S≠ []/\call prog (k+2) "_law_op" [.v (wD K T),.v (.ref 0),.v (.ref 1),.v (.int (w:Int)),.v (.int x)] (hP g l)= .ok (.v .au) (hP S Z):=by
 have C: ∀(i:Int),(w:Int)<i->decide _=true:=λi h=>decide_eq_true h
 have u: ∀(i:Int), ¬(w:Int)<i->decide _=false:=λi h=>decide_eq_false h
 have eP:g≠ []->Gw .eq (.v (.ref 0)) _ (hP g l)=y0 false:=λB=>jN (xs:=g.map pP) rfl (QO pP pY g) (Ac (JP pP 20 g λx hx=>Lc (b.p x hx)) (by decide)) λz=>B (Ai7.mp z)
 have eS:l≠ []->Gw .eq (.v (.ref 1)) (.own []) (hP g l)=y0 false:=λns=>jN (xs:=l.map pS) rfl (QO pS lY l) (Ac (JP pS 40 l λx hx=>rN (b.s x hx)) (by decide)) λz=>ns (Ai7.mp z)
 have lm:=b.lp
 have ls:=b.ls
 by_cases c5:w<5\/g= []
 ·obtain⟨e,we,de,ee⟩:=Ap k K T hl x (hP g l)
  have t5:Gs (k8 (k+1)) (.or (.cmp .lt .v3 (.int 5)) (.cmp .eq .v1 (.lst .nil))) (An y0 [W.v (wD K T),.v (.ref 0),.v (.ref 1),.v (.int (w:Int)),.v (.int x)]++Aa9 (8-5) u0) (hP g l)= .ok k9 (hP g l):=by
   by_cases c:w<5
   ·have G:=C 5 (by omega)
    simp_all [xc,G]
   ·have G:=u 5 (by omega)
    obtain rfl:g= []:=c5.elim (λz=>absurd z c) id
    have e0:Gw .eq (.v (.ref 0)) (.own []) (hP [] l)=y0 true:=by simp [Gw,hP,W.dd,GM,res]
    simp_all [xc,G,e0]
  refine⟨g++ [(e,1)],l,⟨qs b.p ⟨we,by show e.dp+1<=1;omega,by show 1<=13;decide⟩,b.s,by rw [Ab2];simp;omega,by omega⟩,by simp,?_⟩
  rw [Ga (d:=Xd) rfl _ _ _ rfl]
  simp only [Xd]
  rw [Xa,Zr (h1:=hP g l) t5,Xa]
  exact ZJ (rL (q:=(e,1)) (by simp_all [ee];rfl) rfl (by omega))
 have B:g≠ []:=λz=>c5 (.inr z)
 have d5:=u 5 (by have:=λz=>c5 (.inl z);omega)
 have start: ∀(a c:Ss),execs (k8 (k+1)) (.a (.iff (.or (.cmp .lt .v3 (.int 5)) (.cmp .eq .v1 (.lst .nil))) a c)) (An y0 [W.v (wD K T),.v (.ref 0),.v (.ref 1),.v (.int (w:Int)),.v (.int x)]++Aa9 (8-5) u0) (hP g l)=execs (k8 (k+1)) c (fY K T w x u0 u0 u0) (hP g l):=λa c=>by
  rw [Xa,wY (h1:=hP g l) (by simp_all [xc,d5,eP B])]
  rfl
 by_cases c7:w<7
 ·have d7:=C 7 (by omega)
  obtain⟨i,⟨e,d⟩,rfl⟩:=ZB B
  have X:=b.p (e,d) (Ab1 _ Aa3)
  have bi: ∀p∈i,ky (K++T) p:=λp L=>b.p p (Ac7 _ L)
  have li:i.length+1<=m:=by have:=lm;rw [Ab2]at this;exact this
  have w56:w=5\/w=6:=by omega
  have P:(d:Int)+1=((d+1:Nat):Int):=rfl
  have mn:=yb d
  obtain⟨V,we,de,ee⟩: ∃V:Ex,V.wf (K++T)/\V.dp+1<=min 13 (d+1)/\ ∀h,exec (k8 (k+1)) (.iff (.cmp .lt .v6 (.int 13)) (.a (.ak 5 (.tup (.b (.ix (.lst (.b (.str QB) (.str QC))) (.bin .sub .v3 (.int 5))) .v5)))) .nil) (fY K T w x (y0 (.v (aM e))) (y0 (.v (.int (d:Int)))) u0) h= .next (fY K T w x (y0 (.v (aM V))) (y0 (.v (.int (d:Int)))) u0) h:=by
   have q1:e.dp+1<=d:=X.dp
   have q2:d<=13:=X.le
   by_cases c:d<13
   ·have dd:u9 ((d:Int)<(13:Int))=true:=decide_eq_true (by omega)
    rcases w56 with rfl | rfl
    ·refine⟨.turned e,X.wf,by show e.dp+1+1<=_;omega,λh=> ?_⟩
     rw [Zr (h1:=h) (by simp_all [xc,dd]),Xa]
     simp_all [Wm,Xt]
     rfl
    ·refine⟨.closed e,X.wf,by show e.dp+1+1<=_;omega,λh=> ?_⟩
     rw [Zr (h1:=h) (by simp_all [xc,dd]),Xa]
     simp_all [Wm,Xt]
     rfl
   ·have dd:u9 ((d:Int)<(13:Int))=false:=decide_eq_false (by omega)
    refine⟨e,X.wf,by omega,λh=> ?_⟩
    rw [wY (h1:=h) (by simp_all [xc,dd])]
    rfl
  refine⟨i++ [(V,min 13 (d+1))],l,⟨qs bi ⟨we,de,Nat.min_le_left _ _⟩,b.s,by rw [Ab2];simp;omega,by omega⟩,by simp,?_⟩
  rw [Ga (d:=Xd) rfl _ _ _ rfl]
  simp only [Xd]
  rw [start,Xa,Zr (h1:=hP (i++ [(e,d)]) l) (by simp_all [xc,d7])]
  have cd:bj (hP (i++ [(e,d)]) l) (y0 (.v (.ref 0)))=y0 (0,i.map pP++ [pr (aM e) d]):=by
   show y0 (0,(i++ [(e,d)]).map pP)=_
   rw [Ac6];rfl
  refine fx (by
   simp_all [cd,XC,Xx]
   rfl) ?_
  rw [za (ee _),Xa]
  exact ZJ (rL (q:=(V,min 13 (d+1))) (by simp_all [Zc,P,mn];rfl) rfl (by omega))
 have d7:=u 7 (by omega)
 by_cases c11:w<11
 ·have M:=C 11 (by omega)
  have N:=Z4 (h:=hP g l) (r:=0) (xs:=g.map pP) rfl
  rw [Aa]at N
  rw [Ga (d:=Xd) rfl _ _ _ rfl]
  simp only [Xd]
  rw [start,Xa,wY (h1:=hP g l) (by simp_all [xc,d7]),Xa,Zr (h1:=hP g l) (by simp_all [xc,M]),Xa]
  by_cases c1:1<g.length
  ·have Q:u9 ((1:Int)<(g.length:Int))=true:=decide_eq_true (by omega)
   rw [Zr (h1:=hP g l) (by simp_all [N,Jt,Q]),Xa]
   obtain⟨i,⟨e,d⟩,⟨A,n⟩,rfl⟩:=zY c1
   have O:=b.p (e,d) (Ac7 _ (Ab1 _ Aa3))
   have Y:=b.p (A,n) (Ab1 _ Aa3)
   have bi: ∀p∈i,ky (K++T) p:=λp L=>b.p p (Ac7 _ (Ac7 _ L))
   have li:i.length+2<=m:=by have:=lm;rw [Ab2,Ab2]at this;exact this
   have I:w-7<4:=by omega
   have ej:(w:Int)-7=((w-7:Nat):Int):=by omega
   have aj:aX [D.str XL,.str QK,.str qK,.str Xs] ((w-7:Nat):Int)=y0 (.str (kf (w-7))):=by
    rw [Xh _ _ (by show w-7<4;exact I)]
    have: ∀j,j<4-> [D.str XL,.str QK,.str qK,.str Xs][j]? =y0 (.str (kf j)):=λj I=>by
     match j,I with
     | 0,_=>rfl
     | 1,_=>rfl
     | 2,_=>rfl
     | 3,_=>rfl
    exact this _ I
   have F:=ux k 0 (hP (i++ [(e,d)]++ [(A,n)]) l) (i.map pP) (aM e) (aM A) d n (kf (w-7)) (by show y0 (Cell.lst ((i++ [(e,d)]++ [(A,n)]).map pP))=_;rw [Ac6,Ac6];rfl) (Xe e) (Xe A) (by rw [Aa];omega)
   obtain⟨q,oq,eq⟩: ∃q:Ex×Nat,ky (K++T) q/\ki (kf (w-7)) (aM e) (aM A) d n=pP q:=by
    by_cases c:13<1+max d n
    ·exact⟨(e,d),O,if_pos c⟩
    ·refine⟨(kB (w-7) e A,1+max d n),⟨C3 _ _ I _ _ O.wf Y.wf,?_,by show 1+max d n<=13;omega⟩,?_⟩
     ·show(kB (w-7) e A).dp+1<=1+max d n
      rw [Ay _ I]
      have q1:e.dp+1<=d:=O.dp
      have q2:A.dp+1<=n:=Y.dp
      omega
     ·show(if 13<1+max d n then _ else _)=pr (aM (kB (w-7) e A)) (1+max d n)
      rw [if_neg c,KO _ I]
   rw [eq]at F
   have F:call prog (k+1) "_law_put" [.v (.ref 0),.v (.str (kf (w-7)))] (hP (i++ [(e,d)]++ [(A,n)]) l)= .ok (.v .au) (hP (i++ [q]) l):=by
    rw [F]
    show R.ok (W.v .au) [.lst (i.map pP++ [pP q]),.lst (l.map pS)]= .ok (.v .au) [.lst ((i++ [q]).map pP),.lst (l.map pS)]
    rw [Ac6];rfl
   refine⟨i++ [q],l,⟨qs bi oq,b.s,by rw [Ab2];simp;omega,by omega⟩,by simp,?_⟩
   exact ZJ (by simp_all [Wm,ej,Xt,aj,F];rfl)
  ·have Q:u9 ((1:Int)<(g.length:Int))=false:=decide_eq_false (by omega)
   refine⟨g,l,⟨b.p,b.s,by omega,by omega⟩,B,?_⟩
   rw [wY (h1:=hP g l) (by simp_all [N,Jt,Q])]
   exact Gz _ _ _ rfl
 have M:=u 11 (by omega)
 have J: ∀(a c e:Ss),execs (k8 (k+1)) (.a (.iff (.cmp .lt .v3 (.int 7)) a (.a (.iff (.cmp .lt .v3 (.int 11)) c e)))) (fY K T w x u0 u0 u0) (hP g l)=execs (k8 (k+1)) e (fY K T w x u0 u0 u0) (hP g l):=λa c e=>by
  rw [Xa,wY (h1:=hP g l) (by simp_all [xc,d7]),Xa,wY (h1:=hP g l) (by simp_all [xc,M])]
 by_cases E:w<14\/l= []
 ·obtain⟨f,wf,df,ef⟩:=sJ k (K++T) g b.p B x (hP g l) rfl
  have t14:Gs (k8 (k+1)) (.or (.cmp .lt .v3 (.int 14)) (.cmp .eq .v2 (.lst .nil))) (fY K T w x u0 u0 u0) (hP g l)= .ok k9 (hP g l):=by
   by_cases c:w<14
   ·have G:=C 14 (by omega)
    simp_all [xc,G]
   ·have G:=u 14 (by omega)
    obtain rfl:l= []:=E.elim (λz=>absurd z c) id
    have e0:Gw .eq (.v (.ref 1)) (.own []) (hP g [])=y0 true:=by simp [Gw,hP,W.dd,GM,res]
    simp_all [xc,G,e0]
  refine⟨g,l++ [(.fact f,1)],⟨b.p,qs (y:=(Sy.fact f,1)) b.s ⟨wf,by show f.dp<=1+11;omega,Aa5 1,by show 1<=13;decide⟩,by omega,by rw [Ab2];simp;omega⟩,B,?_⟩
  rw [Ga (d:=Xd) rfl _ _ _ rfl]
  simp only [Xd]
  rw [start,J,Xa,Zr (h1:=hP g l) t14,Xa]
  exact ZJ (uV (q:=(.fact f,1)) (by simp_all [ef];rfl) rfl (by omega))
 have ns:l≠ []:=λz=>E (.inr z)
 have d14:=u 14 (by have:=λz=>E (.inl z);omega)
 have H: ∀(a e:Ss),execs (k8 (k+1)) (.a (.iff (.or (.cmp .lt .v3 (.int 14)) (.cmp .eq .v2 (.lst .nil))) a e)) (fY K T w x u0 u0 u0) (hP g l)=execs (k8 (k+1)) e (fY K T w x u0 u0 u0) (hP g l):=λa e=>by
  rw [Xa,wY (h1:=hP g l) (by simp_all [xc,d14,eS ns])]
 have w14: ¬w<14:=λz=>E (.inl z)
 by_cases c15:w=14
 ·have G:Gw .eq (.v (.int (w:Int))) (.v (.int 14)) (hP g l)=y0 true:=by rw [jp,decide_eq_true (by omega)]
  obtain⟨i,⟨s,d⟩,rfl⟩:=ZB ns
  have os:=b.s (s,d) (Ab1 _ Aa3)
  have bi: ∀p∈i,iV (K++T) p:=λp L=>b.s p (Ac7 _ L)
  have li:i.length+1<=m:=by have:=ls;rw [Ab2]at this;exact this
  have P:(d:Int)+1=((d+1:Nat):Int):=rfl
  have mn:=yb d
  obtain⟨U,ws,ds,es⟩: ∃U:Sy,U.wf (K++T)/\U.dp<=min 13 (d+1)+11/\ ∀h,exec (k8 (k+1)) (.iff (.cmp .lt .v6 (.int 13)) (.a (.ak 7 (.tup (.b (.str oQ) .v7)))) .nil) (fY K T w x u0 (y0 (.v (.int (d:Int)))) (y0 (.v (aK s)))) h= .next (fY K T w x u0 (y0 (.v (.int (d:Int)))) (y0 (.v (aK U)))) h:=by
   have q1:s.dp<=d+11:=os.dp
   have q2:d<=13:=os.le
   by_cases c:d<13
   ·have dd:u9 ((d:Int)<(13:Int))=true:=decide_eq_true (by omega)
    refine⟨.neg s,os.wf,by show s.dp+1<=_;omega,λh=> ?_⟩
    rw [Zr (h1:=h) (by simp_all [xc,dd]),Xa]
    simp_all []
    rfl
   ·have dd:u9 ((d:Int)<(13:Int))=false:=decide_eq_false (by omega)
    refine⟨s,os.wf,by omega,λh=> ?_⟩
    rw [wY (h1:=h) (by simp_all [xc,dd])]
    rfl
  refine⟨g,i++ [(U,min 13 (d+1))],⟨b.p,qs bi ⟨ws,ds,by show 1<=min 13 (d+1);omega,Nat.min_le_left _ _⟩,by omega,by rw [Ab2];simp;omega⟩,B,?_⟩
  rw [Ga (d:=Xd) rfl _ _ _ rfl]
  simp only [Xd]
  rw [start,J,H,Xa,Zr (h1:=hP g (i++ [(s,d)])) (by simp_all [G])]
  have cd:bj (hP g (i++ [(s,d)])) (y0 (.v (.ref 1)))=y0 (1,i.map pS++ [pr (aK s) d]):=by
   show y0 (1,(i++ [(s,d)]).map pS)=_
   rw [Ac6];rfl
  refine fx (by
   simp_all [cd,XC,Xx]
   rfl) ?_
  rw [za (es _),Xa]
  exact ZJ (uV (q:=(U,min 13 (d+1))) (by simp_all [Zc,P,mn];rfl) rfl (by omega))
 have d15:Gw .eq (.v (.int (w:Int))) (.v (.int 14)) (hP g l)=y0 false:=by rw [jp,decide_eq_false (by omega)]
 have N:=Z4 (h:=hP g l) (r:=1) (xs:=l.map pS) rfl
 rw [Aa]at N
 rw [Ga (d:=Xd) rfl _ _ _ rfl]
 simp only [Xd]
 rw [start,J,H,Xa,wY (h1:=hP g l) (by simp_all [d15]),Xa]
 by_cases c1:1<l.length
 ·have Q:u9 ((1:Int)<(l.length:Int))=true:=decide_eq_true (by omega)
  rw [Zr (h1:=hP g l) (by simp_all [N,Jt,Q]),Xa]
  obtain⟨i,⟨s,d⟩,⟨v,n⟩,rfl⟩:=zY c1
  have O:=b.s (s,d) (Ac7 _ (Ab1 _ Aa3))
  have Y:=b.s (v,n) (Ab1 _ Aa3)
  have bi: ∀p∈i,iV (K++T) p:=λp L=>b.s p (Ac7 _ (Ac7 _ L))
  have li:i.length+2<=m:=by have:=ls;rw [Ab2,Ab2]at this;exact this
  have m2:=Qo x 2 (by decide)
  obtain⟨z,hz,ez⟩:=Zf x 2 (by decide)
  have ez:x % 2=(z:Int):=ez
  rw [ez]at m2
  obtain⟨t,f,ft,at2,fw,fd⟩: ∃(t:Tx) (f:Sy->Sy->Sy),(∀ a b,aK (f a b)= .tup [.str t,aK a,aK b])/\aX [D.str mQ,.str mK] (z:Int)=y0 (.str t)/\(∀ a b,a.wf (K++T)->b.wf (K++T)->(f a b).wf (K++T))/\ ∀a b,(f a b).dp=max a.dp b.dp+1:=by
   have z01:z=0\/z=1:=by omega
   rcases z01 with rfl | rfl
   ·exact⟨mQ,.cV,λ_ _=>rfl,rfl,λ_ _ o h2=>⟨o,h2⟩,λ_ _=>rfl⟩
   ·exact⟨mK,.dW,λ_ _=>rfl,rfl,λ_ _ o h2=>⟨o,h2⟩,λ_ _=>rfl⟩
  have F:=ux k 1 (hP g (i++ [(s,d)]++ [(v,n)])) (i.map pS) (aK s) (aK v) d n t (by show y0 (Cell.lst ((i++ [(s,d)]++ [(v,n)]).map pS))=_;rw [Ac6,Ac6];rfl) (Zw s) (Zw v) (by rw [Aa];omega)
  obtain⟨q,oq,eq⟩: ∃q:Sy×Nat,iV (K++T) q/\ki t (aK s) (aK v) d n=pS q:=by
   by_cases c:13<1+max d n
   ·exact⟨(s,d),O,if_pos c⟩
   ·refine⟨(f s v,1+max d n),⟨fw _ _ O.wf Y.wf,?_,by show 1<=1+max d n;omega,by show 1+max d n<=13;omega⟩,?_⟩
    ·show(f s v).dp<=1+max d n+11
     rw [fd]
     have q1:s.dp<=d+11:=O.dp
     have q2:v.dp<=n+11:=Y.dp
     omega
    ·show(if 13<1+max d n then _ else _)=pr (aK (f s v)) (1+max d n)
     rw [if_neg c,ft]
  rw [eq]at F
  have F:call prog (k+1) "_law_put" [.v (.ref 1),.v (.str t)] (hP g (i++ [(s,d)]++ [(v,n)]))= .ok (.v .au) (hP g (i++ [q])):=by
   rw [F]
   show R.ok (W.v .au) [.lst (g.map pP),.lst (i.map pS++ [pS q])]= .ok (.v .au) [.lst (g.map pP),.lst ((i++ [q]).map pS)]
   rw [Ac6];rfl
  refine⟨g,i++ [q],⟨b.p,qs bi oq,by omega,by rw [Ab2];simp;omega⟩,B,?_⟩
  exact ZJ (by simp_all [m2,Xt,at2,F];rfl)
 ·have Q:u9 ((1:Int)<(l.length:Int))=false:=decide_eq_false (by omega)
  refine⟨g,l,⟨b.p,b.s,by omega,by omega⟩,B,?_⟩
  rw [wY (h1:=hP g l) (by simp_all [N,Jt,Q])]
  exact Gz _ _ _ rfl
def n7 (i j:Int) (a:0<j) (h1:j<2000) (h:AH):cm .divmod [.v (.int i),.v (.int j)] h=aT (.tup [.int (i / j),.int (i % j)]) h:=by
 rw [Ji,if_pos (by rw [GE];lia)]
noncomputable abbrev dR (K T:List Tx) (x:Int) (b c d f e a:Option W):Sl:= [y0 (.v (wD K T)),y0 (.v (.int x)),y0 (.v (.ref 0)),y0 (.v (.ref 1)),b,c,d,f,e,a]
def Cn (k) (K T) (f:(K++T).length<=100) (ps) (ss) (m) (b:i8 (K++T) ps ss m) (h:m<=100) (x) (x4 x5 x6):
 ∃i j y L J,i8 (K++T) i j (m+1)/\i≠ []/\execs (k8 (k+2)) xl (dR K T x x4 x5 x6 u0 u0 u0) (hP ps ss)= .next (dR K T y x4 L J u0 u0 u0) (hP i j):=by
 obtain⟨w,g,a⟩:=Zf x 16 (by decide)
 have a:x % 16= w:=a
 have c:=n7 x 16 (by decide) (by decide) (hP ps ss)
 rw [a]at c
 have l:=n7 (x / 16) 1600 (by decide) (by decide) (hP ps ss)
 obtain⟨i,j,d,n,e⟩:=K7 k K T f ps ss m b h w g (x / 16 % 1600)
 refine⟨i,j,x / 16 / 1600,y0 (.v (.int w)),y0 (.v (.int (x / 16 % 1600))),d,n,?_⟩
 refine(za (by simp_all [c];rfl)).trans ?_
 refine(za (by simp_all [l];rfl)).trans ?_
 simp_all [e]
theorem rg (k:Nat) (K T:List Tx) (s:(K++T).length<=100): ∀(l:List Nat) (a:List (Ex×Nat)) (d:List (Sy×Nat)) (m:Nat) (x:Int) (f c e:Option W),i8 (K++T) a d m->(l= []->a≠ [])->m+l.length<=100 →
 ∃j J y O M L,i8 (K++T) j J (m+l.length)/\j≠ []/\Gq (Gn [4] k9) (λY h=>execs (k8 (k+2)) xl Y h) (l.map λ(i:Nat)=> .int (i:Int)) (dR K T x f c e u0 u0 u0) (hP a d)= .next (dR K T y O M L u0 u0 u0) (hP j J)
 | [],a,d,m,x,f,c,e,b,u,t=>⟨a,d,x,f,c,e,b,u rfl,rfl⟩
 | i::l,a,d,m,x,f,c,e,b,u,t=>by
  rw [Ab8]at t
  obtain⟨p,q,y,M,L,B,r,v⟩:=Cn k K T s a d m b (by omega) x (y0 (.v (.int (i:Int)))) c e
  obtain⟨o,n,z,E,C,A,w,g,D⟩:=rg k K T s l p q (m+1) y (y0 (.v (.int (i:Int)))) M L B (λ_=>r) (by omega)
  refine⟨o,n,z,E,C,A,by rw [Ab8,show m+(l.length+1)=m+1+l.length by omega];exact w,g,?_⟩
  rw [Ab,qa (Y1:=dR K T x (y0 (.v (.int (i:Int)))) c e u0 u0 u0) rfl v,D]
theorem pI {F:Fx}(K T:List Tx){N:List Tx}(x:Int) (a b d:Option W) (h:AH): ∀(l:List (Sy×Nat)) (s:Sy) (f g:Option W) (c:Nat),(∀ p∈l,iV N p)->s.wf N->s.dp<=c->24<=c →
 ∃s' J i,s'.wf N/\s'.dp<=c+l.length/\Gq (Gn [8,9] y9) (λY h=>execs F xh Y h) (l.map pS) (dR K T x a b d (y0 (.v (aK s))) f g) h= .next (dR K T x a b d (y0 (.v (aK s'))) J i) h
 | [],s,f,g,c,_,j,m,_=>⟨s,f,g,j,m,rfl⟩
 | p::l,s,f,g,c,n,j,m,y=>by
  have k:=n p Aa3
  have w:=k.dp
  have v:=k.le
  have o:(Sy.cV s p.1).dp<=c+1:=by
   show max s.dp p.1.dp+1<=c+1
   omega
  obtain⟨s',J,i,r,u,e⟩:=pI (F:=F) K T x a b d h l (.cV s p.1) (y0 (.v (aK p.1))) (y0 (.v (.int (p.2:Int)))) (c+1) (λq t=>n q (Aa1 _ t)) ⟨j,k.wf⟩ o (by omega)
  refine⟨s',J,i,r,by rw [Ab8];omega,?_⟩
  rw [Ab,qa (Y1:=dR K T x a b d (y0 (.v (aK s))) (y0 (.v (aK p.1))) (y0 (.v (.int (p.2:Int))))) (Y2:=dR K T x a b d (y0 (.v (aK (.cV s p.1)))) (y0 (.v (aK p.1))) (y0 (.v (.int (p.2:Int))))) rfl (by
   simp only [xh]
   rw [Xa]
   simp_all []
   rfl),e]
def Lq {h:AH}{r:Nat}{x:D}{xs:List D}(b:h[r]? =y0 (.lst (x::xs))):gO (.v (.ref r)) (y0 1) u0 h= .ok (.own xs) h:=by
 have e:(W.v (.ref r)).bf h=y0 (x::xs):=by simp [W.bf,b]
 show(match (W.v _).bf h with
  | some xs=>R.ok _ h
  | none=> .fail)=_
 rw [e]
 show R.ok _ h=_
 rw [show cut (x::xs) _ u0=xs from by
  have c:aV (x::xs).length 0 (y0 1)=1:=by simp [aV]
  have a:aV (x::xs).length (x::xs).length u0=(x::xs).length:=rfl
  unfold cut
  rw [c,a]
  simp]
def sm (k) (K T) (A:(K++T).length<=100) (x): ∃s:Sy,s.wf (K++T)/\s.dp<=40/\call prog (k+3) "_law_saying" [.v (wD K T),.v (.int x)] []= .ok (.v (aK s)) []:=by
 obtain⟨a,c,y,n,j,i,b,I,e⟩:=rg k K T A (Aa0 7) [] [] 0 x u0 u0 u0 ⟨λ_ h=>absurd h Ad5,λ_ h=>absurd h Ad5,Ah2 _,Ah2 _⟩ (λh=>by cases h) (by decide)
 have u: ∀ c y i,(∀ p∈c,iV (K++T) p)->c≠ []->c.length<=10-> ∃s:Sy,s.wf (K++T)/\s.dp<=40/\GC 0 (execs (k8 (k+2)) (.cons (.ak 7 (.ix (.ix .v3 (.int 0)) (.int 0))) (.cons (.for [8,9] y9 (.seq (.fN .v3 (.int 1))) xh) (.a (.ret .v7)))) (dR K T y n j i u0 u0 u0) (hP a c))= .ok (.v (aK s)) []:=by
  intro c y i o M A
  cases c with
  | nil=>exact absurd rfl M
  | cons p l=>
   have E:=o p Aa3
   have S:=E.dp
   have Q:=E.le
   obtain⟨t,N,F,g,v,e⟩:=pI K T y n j i _ l p.1 u0 u0 24 (λq L=>o q (Aa1 _ L)) E.wf (by omega) (Aa5 _)
   rw [Ab8]at A
   refine⟨t,g,by omega,?_⟩
   have i0:=pd (h:=hP a (p::l)) (r:=1) (xs:=(p::l).map pS) rfl 0
   have i1: ∀h,dN (.v (pS p)) (.v (.int 0)) h=y0 (aK p.1):=λ_=>rfl
   have i2:aX ((p::l).map pS) 0=y0 (pS p):=by rw [Ab,Jo]
   rw [i2]at i0
   refine fx (by simp_all [i0,i1];rfl) ?_
   have sl:=Lq (h:=hP a (p::l)) (r:=1) (x:=pS p) (xs:=l.map pS) rfl
   rw [za (h1:=hP a (p::l)) (Y1:=dR K T y n j i (y0 (.v (aK t))) N F) (by
    rw [exec,show Gr (k8 (k+2)) (.seq (.fN .v3 (.int 1))) (dR K T y n j i (y0 (.v (aK p.1))) u0 u0) (hP a (p::l))= .ok (l.map pS) (hP a (p::l))by simp_all [sl],R.ay]
    exact e)]
   rw [jb (w:= .v (aK t)) (h1:=hP a (p::l)) rfl]
   show fin 0 (.v (aK t)) (hP a (p::l))=_
   unfold fin
   rw [if_neg (by show ¬(2:Nat)=0;decide),if_pos (show (W.v (aK t)).keep=k9 from Zw t)]
   rfl
 rw [Ga (d:=Zp) rfl _ _ _ rfl]
 simp only [Zp]
 rw [za (h1:= [.lst []]) (Y1:= [y0 (.v (wD K T)),y0 (.v (.int x)),y0 (.v (.ref 0)),u0,u0,u0,u0,u0,u0,u0]) (by simp_all [Gd,if_true];rfl)]
 rw [za (h1:=hP [] []) (Y1:=dR K T x u0 u0 u0 u0 u0 u0) (by simp_all [Gd,if_true];rfl)]
 rw [za (h1:=hP a c) (Y1:=dR K T y n j i u0 u0 u0) (by
  rw [exec,qH,wd (m:=7) (by rw [eval];rfl) (by decide),R.ay]
  exact e)]
 by_cases o:c= []
 ·subst o
  have H:=n7 y 1600 (by decide) (by decide) (hP a [])
  obtain⟨f,wf,P,C⟩:=sJ (k+1) (K++T) a b.p I (y % 1600) (hP a []) rfl
  have C:call prog (k+2) "_law_fact" [.v (.ref 0),.v (.int (y % 1600))] (hP a [])= .ok (.v (d3 f)) (hP a []):=C
  have O:Gc (pr (aK (.fact f)) 1)=true:=lY (.fact f,1)
  have D:Gw .eq (.v (.ref 1)) (.own []) (hP a [])=y0 true:=by simp [Gw,hP,W.dd,GM,res]
  obtain⟨s,g,v,B⟩:=u [(.fact f,1)] (y / 1600) (y0 (.v (.int (y % 1600)))) (λp J=>by
   obtain rfl:=Ae8.mp J
   exact⟨wf,by show f.dp<=1+11;omega,Aa5 1,by show 1<=13;decide⟩) (by simp) (show 1<=10 by decide)
  refine⟨s,g,v,?_⟩
  rw [za (h1:=hP a [(.fact f,1)]) (Y1:=dR K T (y / 1600) n j (y0 (.v (.int (y % 1600)))) u0 u0 u0) (by
   rw [Zr (h1:=hP a []) (by simp_all [D])]
   rw [za (h1:=hP a []) (Y1:=dR K T (y / 1600) n j (y0 (.v (.int (y % 1600)))) u0 u0 u0) (by simp_all [H])]
   rw [Xa]
   simp_all [Zg (h:=hP a []) (r:=1) rfl,C]
   rw [if_pos ⟨by rw [Gi];decide,O⟩]
   rfl)]
  exact B
 ·have D:Gw .eq (.v (.ref 1)) (.own []) (hP a c)=y0 false:=jN (xs:=c.map pS) rfl (QO pS lY c) (Ac (JP pS 40 c λx G=>rN (b.s x G)) (by decide)) λz=>o (Ai7.mp z)
  have bl:=b.ls
  rw [Aj1]at bl
  obtain⟨s,g,v,B⟩:=u c y i b.s o (by omega)
  refine⟨s,g,v,?_⟩
  refine fx (by
   rw [wY (h1:=hP a c) (by simp_all [D])]
   rfl) ?_
  exact B
def uA (i:Nat) (j:Nat) (h:i<2000000) (a:j<100):Gp .pow (i:Int) (j:Int)=y0 ((i:Int) ^ j):=by
 have: 0<=(j:Int)/\ j<=BP/\((i:Int)).natAbs<iM:=by rw [GV,GB];refine⟨by lia,by lia,?_⟩;rw [Int.natAbs_natCast];lia
 show(if _ then _ else _)=_
 rw [if_pos this];rfl
def yc (k) (x) (h): ∃y:Int,call prog (k+1) "_law_spread" [.v (.int x)] h= .ok (.v (.int y)) h:=by
 have c:=Qo x 1000003 (by decide)
 obtain⟨u,i,a⟩:=Zf x 1000003 (by decide)
 have a:x % 1000003= u:=a
 rw [a]at c
 have b: u+29=((u+29:Nat):Int):=rfl
 have d:Gp .pow _ 11=y0 _:=uA (u+29) 11 (by omega) (by decide)
 have g:Gp .pow _ 7=y0 _:=uA (u+29) 7 (by omega) (by decide)
 have e:Gp .mul 31 (((u+29:Nat):Int) ^ 7)=y0 (31*((u+29:Nat):Int) ^ 7):=by
  show(if _ then _ else _)=_
  rw [if_pos (.inl (by rw [G7];decide))]
 have f:=JA (((u+29:Nat):Int) ^ 11+31*((u+29:Nat):Int) ^ 7) 13 (by decide) (by decide)
 refine⟨(((u+29:Nat):Int) ^ 11+31*((u+29:Nat):Int) ^ 7) / 13,?_⟩
 rw [Ga rfl _ _ _ rfl]
 simp only [zB]
 refine fx (by simp_all [c,Zc,b];rfl) ?_
 rw [jb (w:= .v (.int ((((u+29:Nat):Int) ^ 11+31*((u+29:Nat):Int) ^ 7) / 13))) (h1:=h) (zc rfl (by simp_all [d,g,e,Zc,f]))]
 exact Gb _ _ _ rfl
def E3 (f:α->β) (xs) (lo hi):cut (xs.map f) lo hi=(cut xs lo hi).map f:=by
 unfold cut
 rw [Aa,List.map_take,List.map_drop]
def Fl (xs:List α) (lo hi):(cut xs lo hi).length<=xs.length:=by
 unfold cut
 rw [Af8,Ai4]
 lia
def Ir (k) (a:List Int) (r:a.length<=63) (K T) (p:(K++T).length<=100) (b u:Nat): ∃ss:List Sy,ss.length<=63/\(∀ s∈ss,s.wf (K++T)/\s.dp<=40)/\call prog (k+4) "_law_sayings" [.v (.lst (a.map .int)),.v (wD K T),.v (.int (b:Int)),.v (.int (u:Int))] []= .ok (.v (.tup (ss.map aK))) []:=by
 have fin: ∀f:List Int,f.length<=63-> ∃ss:List Sy,ss.length<=63/\(∀ s∈ss,s.wf (K++T)/\s.dp<=40)/\exec (k8 (k+3)) (.ret (.bi .tuple (.a zg))) [y0 (.v (.lst (a.map .int))),y0 (.v (wD K T)),y0 (.v (.int (b:Int))),y0 (.v (.int (u:Int))),y0 (.v (.lst (f.map .int)))] []= .ret (.v (.tup (ss.map aK))) []:=λf i=>by
  obtain⟨g,j⟩: ∃g:Int->Sy,∀x,(g x).wf _/\(g x).dp<=40/\call prog _ "_law_saying" [.v _,.v (.int x)] []= .ok (.v (aK (g x))) []:=⟨fun x=>Classical.choose (sm k K T p x),fun x=>Classical.choose_spec (sm k K T p x)⟩
  refine⟨f.map g,by rw [Aa];exact i,λs v=> ?_,?_⟩
  ·obtain⟨x,_,rfl⟩:=Ac1.mp v
   exact⟨(j x).1,(j x).2.1⟩
  ·refine zc rfl ?_
   have e:eval (k8 (k+3)) zg [y0 (.v (.lst (a.map .int))),y0 (.v (wD K T)),y0 (.v (.int (b:Int))),y0 (.v (.int (u:Int))),y0 (.v (.lst (f.map .int)))] []= .ok (.own (f.map λx=>aK (g x))) []:=by
    unfold zg
    refine qg D.int (λx=>aK (g x)) f (oA (by simp_all [])) (by omega) λx t=>⟨.v (aK (g x)),?_,rfl⟩
    have m:=(j x).2.2
    simp_all [m]
   rw [Ac5]
   simp_all [e]
   rfl
 have l:=p9 (k+2) a 0 []
 have q:=Qo (a.getD 0 0) 2 (by decide)
 have w:(b:Int)+(u:Int)=((b+u:Nat):Int):=rfl
 rw [Ga (d:=Zn) rfl _ _ _ rfl]
 simp only [Zn]
 have i:(cut a (y0 (b:Int)) (y0 ((b+u:Nat):Int))).length<=63:=Ac (Fl _ _ _) r
 rw [za (h1:= []) (Y1:= [y0 (.v (.lst (a.map .int))),y0 (.v (wD K T)),y0 (.v (.int (b:Int))),y0 (.v (.int (u:Int))),y0 (.v (.lst ((cut a (y0 (b:Int)) (y0 ((b+u:Nat):Int))).map .int)))]) (by
  simp_all [Zc,int?_int,HE,E3,w])]
 generalize cut a (y0 (b:Int)) (y0 ((b+u:Nat):Int))=f at i
 have l:call prog (k+3) "_law_nth" [.v (.lst (a.map .int)),.v (.int 0)] []= .ok (.v (.int (a.getD 0 0))) []:=l
 obtain⟨g,j⟩: ∃g:Int->Int,∀x,call prog (k+3) "_law_spread" [.v (.int x)] []= .ok (.v (.int (g x))) []:=⟨fun x=>Classical.choose (yc (k+2) x []),fun x=>Classical.choose_spec (yc (k+2) x [])⟩
 by_cases c:a.getD 0 0 % 2=1
 ·have y:eval (k8 (k+3)) Zj [y0 (.v (.lst (a.map .int))),y0 (.v (wD K T)),y0 (.v (.int (b:Int))),y0 (.v (.int (u:Int))),y0 (.v (.lst (f.map .int)))] []= .ok (.own ((f.map g).map .int)) []:=by
   rw [Ac5]
   unfold Zj
   refine qg D.int (λx=> .int (g x)) f (oA (by simp_all [])) (by omega) λx t=>⟨.v (.int (g x)),?_,rfl⟩
   have m:=j x
   simp_all [m]
  obtain⟨ss,h,n,o⟩:=fin (f.map g) (by rw [Aa];exact i)
  refine⟨ss,h,n,?_⟩
  refine fx (by
   rw [Zr (h1:= []) (by simp_all [l,q,jp,c,decide_true])]
   rw [Xa]
   simp_all [y]
   rfl) ?_
  rw [jb o]
  exact Gb _ _ _ rfl
 ·obtain⟨ss,h,n,o⟩:=fin f i
  refine⟨ss,h,n,?_⟩
  rw [Za (by simp_all [l,q,jp,c,decide_false])]
  rw [jb o]
  exact Gb _ _ _ rfl
theorem sO: ∀(ws) (c),(dg ws c).length=ws.length
 | [],_=>rfl
 | w::ws,c=>by rw [dg,Ab8,sO ws,Ab8]
theorem rk: ∀(ws:List Nat) (c),(∀ w∈ws,w<=16)->fS (ws.zip (dg ws c))
 | [],_,_=>λq h=>by cases h
 | w::ws,c,a=>λq h=>by
  rcases Ab9.mp (show q∈(w,c % 2 ^ w)::ws.zip (dg ws (c / 2 ^ w))from h)with rfl | h
  ·exact⟨An6 _ (Ah3 (by decide)),a w Aa3⟩
  ·exact rk ws _ (λx b=>a x (Aa1 _ b)) q h
theorem tw: ∀(ws:List Nat) (c),c<2 ^ ws.sum->cd (ws.zip (dg ws c))=c
 | [],c,h=>by
  have:c=0:=by simpa using h
  rw [this];rfl
 | w::ws,c,h=>by
  show c % 2 ^ w+2 ^ w*cd (ws.zip (dg ws (c / 2 ^ w)))=c
  rw [tw ws (c / 2 ^ w) ?_,Nat.mod_add_div]
  rw [Ai0,Ak3,Ai]at h
  exact Nat.div_lt_of_lt_mul (by rw [Ai];exact h)
def Ke (d:n<=4) (j:K<=4) (l:T<=4) (k:c<2 ^ (bw n K T).sum): ∃ks ts,ks.length=K/\ts.length=T/\Wl n ks ts/\Cw n ks ts=c/\ks++ts=dg (bw n K T) c:=by
 have h:=Ad3 d d
 have i:=sO (bw n K T) c
 rw [xp]at i
 have ok:=rk (bw n K T) c λw a=>by
  obtain a | a:=Ae9.mp a
  ·rw [(Ak7.mp a).2];lia
  ·rw [(Ak7.mp a).2];exact h
 have e:=tw _ c k
 have b:((dg (bw n K T) c).take K).length=K:=by rw [Af8];lia
 have l2:((dg (bw n K T) c).drop K).length=T:=by rw [Ai4];lia
 have g:=List.take_append_drop K (dg (bw n K T) c)
 have z:=yk n ((dg (bw n K T) c).take K) ((dg (bw n K T) c).drop K)
 rw [b,l2,g]at z
 rw [z]at ok
 refine⟨_,_,b,l2,⟨d,by rw [b];exact j,by rw [l2];exact l,λx f=> ?_,λx f=> ?_⟩,?_,g⟩
 ·exact(ok _ (Ac7 _ (Ac1.mpr ⟨x,f,rfl⟩))).1
 ·exact(ok _ (Ab1 _ (Ac1.mpr ⟨x,f,rfl⟩))).1
 ·unfold Cw
  rw [b,l2,g]
  exact e
theorem rG: ∀(a b) (c),dg (a++b) c=dg a c++dg b (c / 2 ^ a.sum)
 | [],b,c=>by simp [dg]
 | w::a,b,c=>by
  show c % 2 ^ w::dg (a++b) (c / 2 ^ w)=c % 2 ^ w::(dg a (c / 2 ^ w)++dg b (c / 2 ^ (w+a.sum)))
  rw [rG a b,Nat.div_div_eq_div_mul,Ak3]
def fZ (B:Nat):Nat->Nat->List Nat
 | 0,_=> []
 | m+1,y=>y % B::fZ B m (y / B)
def kn (B:Nat):Nat->Nat->Nat
 | 0,y=>y
 | m+1,y=>kn B m (y / B)
theorem vY (B): ∀m y,(fZ B m y).length=m
 | 0,_=>rfl
 | m+1,y=>by rw [fZ,Ab8,vY B m]
def cC (n K T x:Nat):List Nat:=fZ (2 ^ n) K (x % 2 ^ (K*n+T*n*n))
def cE (n K T x:Nat):List Nat:=fZ (2 ^ (n*n)) T (kn (2 ^ n) K (x % 2 ^ (K*n+T*n*n)))
theorem J3 (B) (mk:Nat->List D->Option W->Option W->Sl) (body) (h)
 (c: ∀ y J a b i,J.length<1000-> ∃Y1,Gn [7] k9 (.int (i:Int)) (mk y (ag J) a b)=y0 Y1/\execs F body Y1 h= .next (mk (y / B) (ag (J++ [y % B])) (y0 (.v (.int (i:Int)))) (y0 (.v (.int ((y % B:Nat):Int))))) h):
 ∀ m i y J a b,J.length+m<=1000-> ∃M L,
 Gq (Gn [7] k9) (λY h=>execs F body Y h) ((Aa0 m).map λj=>D.int ((i+j:Nat):Int)) (mk y (ag J) a b) h= .next (mk (kn B m y) (ag (J++fZ B m y)) M L) h
 | 0,i,y,J,a,b,_=>⟨a,b,by rw [fZ,Ae4];rfl⟩
 | m+1,i,y,J,a,b,g=>by
  obtain⟨Y1,d,f⟩:=c y J a b i (by omega)
  obtain⟨M,L,e⟩:=J3 B mk body h c m (i+1) (y / B) (J++ [y % B]) (y0 (.v (.int i))) (y0 (.v (.int ((y % B:Nat))))) (by simp;omega)
  refine⟨M,L,?_⟩
  rw [wk,qa d f,e,Ae7]
  rfl
def JM (k n K T y:Nat) (x) (h) (f:n<=4) (v:K<=4) (s:T<=4) (I:x % ((2 ^ (K*n+T*n*n):Nat):Int)=(y:Int)):call prog (k+1) "_law_world" [.v (.int (n:Int)),.v (.int (K:Int)),.v (.int (T:Int)),.v (.int x)] h= .ok (.v (Qc n (cC n K T y) (cE n K T y))) h:=by
 have U:=Xk (n:=n) (by omega)
 have b1:2 ^ n<=2 ^ 4:=Ac8 (by decide) f
 have X:2 ^ _<=2 ^ 16:=Ac8 (by decide) (Ad3 f f)
 have p1:0<2 ^ n:=Ah3 (by decide)
 have V:0<2 ^ (n*n):=Ah3 (by decide)
 have E:=eY n (by omega)
 have C:=eY (n*n) (by omega)
 have M:Gp .mul (n:Int) (n:Int)=y0 _:=wc n n (by omega)
 have P:Gp .mul (K:Int) (n:Int)=y0 _:=wc K n (by omega)
 have Q:Gp .mul (T:Int) (n:Int)=y0 _:=wc T n (by omega)
 have t1:K*n<=4*4:=Ad3 v f
 have L:T*n<=4*4:=Ad3 s f
 have Z:T*n*n<=4*4*4:=Ad3 L f
 have N:Gp .mul ((T*n:Nat):Int) (n:Int)=y0 ((T*n*n:Nat):Int):=wc (T*n) n (by omega)
 have D:=eY (K*n+T*n*n) (by omega)
 have W:0<2 ^ (K*n+T*n*n):=Ah3 (by decide)
 have S:((K*n:Nat):Int)+((T*n*n:Nat):Int)=((K*n+T*n*n:Nat):Int):=rfl
 have u:=Qo x ((2 ^ (K*n+T*n*n):Nat):Int) (by omega)
 rw [I]at u
 have O:y % 2 ^ (K*n+T*n*n)=y:=Am (by have:=Int.emod_lt_of_pos x (b:=((2 ^ (K*n+T*n*n):Nat):Int)) (by omega);omega)
 have H:(0:Int)<((2 ^ n:Nat):Int)/\((2 ^ n:Nat):Int)<fU:=by rw [GE];omega
 have B:(0:Int)<((2 ^ (n*n):Nat):Int)/\((2 ^ (n*n):Nat):Int)<fU:=by rw [GE];omega
 obtain⟨G,j,r⟩:=J3 (F:=(k8 k)) (2 ^ n) (λy l a b=> [y0 (.v (.int (n:Int))),y0 (.v (.int (K:Int))),y0 (.v (.int (T:Int))),y0 (.v (.int x)),y0 (.v (.int (y:Int))),y0 (.own l),y0 (.own []),a,b]) jn h (λy c a b i A=>⟨_,rfl,by
  have q:(ag c).length<aY:=by rw [Gi,Aa];omega
  have p:ag (c++ [y % 2 ^ n])=ag c++ [.int ((y % 2 ^ n:Nat):Int)]:=by rw [ag,Ac6];rfl
  have o:(y:Int) / ((2 ^ n:Nat):Int)=((y / 2 ^ n:Nat):Int):=rfl
  have g:(y:Int) % ((2 ^ n:Nat):Int)=((y % 2 ^ n:Nat):Int):=rfl
  rw [p]
  simp_all [jn,E,Ji,H,and_self,if_true,q,o,g]⟩) K 0 y [] u0 u0 (by simp;omega)
 obtain⟨a2,J,w⟩:=J3 (F:=(k8 k)) (2 ^ (n*n)) (λz l a b=> [y0 (.v (.int (n:Int))),y0 (.v (.int (K:Int))),y0 (.v (.int (T:Int))),y0 (.v (.int x)),y0 (.v (.int (z:Int))),y0 (.own (ag (fZ (2 ^ n) K y))),y0 (.own l),a,b]) jo h (λy c a b i A=>⟨_,rfl,by
  have q:(ag c).length<aY:=by rw [Gi,Aa];omega
  have p:ag (c++ [y % 2 ^ (n*n)])=ag c++ [.int ((y % 2 ^ (n*n):Nat):Int)]:=by rw [ag,Ac6];rfl
  have o:(y:Int) / ((2 ^ (n*n):Nat):Int)=((y / 2 ^ (n*n):Nat):Int):=rfl
  have g:(y:Int) % ((2 ^ (n*n):Nat):Int)=((y % 2 ^ (n*n):Nat):Int):=rfl
  rw [p]
  simp_all [jo,M,C,Ji,B,and_self,if_true,q,o,g]⟩) T 0 (kn (2 ^ n) K y) [] G j (by simp;omega)
 rw [Ga (d:=jv) rfl _ _ _ rfl]
 simp only [jv]
 simp only [Af9,Ag2]at r w
 refine fx (by simp_all [P,Q,N,Zc,S,D,u];rfl) ?_
 refine fx (by simp_all [];rfl) ?_
 refine fx (by simp_all [];rfl) ?_
 have t: ∀(i:Nat) (m:Nat) (Y:Sl),m<=4->Gf Y i=y0 (.v (.int (m:Int)))->Gr (k8 k) (.av (.var i)) Y h= .ok ((Aa0 m).map λ(i:Nat)=> .int (i:Int)) h:=λi m Y hm e=>wd (m:=m) (by rw [eval,e]) (by omega)
 rw [za (by
  rw [exec,t 1 K _ v rfl,R.ay]
  exact r)]
 rw [za (by
  rw [exec,t 2 T _ s rfl,R.ay]
  exact w)]
 unfold cC cE
 rw [O]
 simp_all [XW]
def Cg (k n K T x:Nat) (h) (a:n<=4) (b:K<=4) (c:T<=4):call prog (k+1) "_law_world" [.v (.int (n:Int)),.v (.int (K:Int)),.v (.int (T:Int)),.v (.int (x:Int))] h= .ok (.v (Qc n (cC n K T x) (cE n K T x))) h:=by
 have e:=JM k n K T _ x h a b c (Int.natCast_emod _ _).symm
 unfold cC cE at e ⊢
 rwa [Nat.mod_mod]at e
theorem oD (w): ∀m c,dg (Aa9 m w) c=fZ (2 ^ w) m c
 | 0,_=>rfl
 | m+1,c=>by rw [Ad2,dg,fZ,oD w m]
theorem vQ (w): ∀m c,c / 2 ^ (Aa9 m w).sum=kn (2 ^ w) m c
 | 0,c=>by show c / 2 ^ 0=c;rw [Nat.pow_zero,Nat.div_one]
 | m+1,c=>by rw [Ad2,Ai0,Ak3,←Nat.div_div_eq_div_mul,vQ w m,kn]
def ZM (n K T):(bw n K T).sum=K*n+T*n*n:=by rw [yi,Nat.mul_assoc]
structure At (n K T c:Nat) (ks ts:List Nat):Prop where
 lk:ks.length=K
 lt:ts.length=T
 wl:Wl n ks ts
 cd:Cw n ks ts=c
def EB (d:n<=4) (i:K<=4) (m:T<=4) (a:c<2 ^ (K*n+T*n*n)):At n K T c (cC n K T c) (cE n K T c):=by
 obtain⟨o,p,b,f,k,g,h⟩:=Ke d i m (by rw [ZM];exact a)
 have e:cC n K T c++cE n K T c=dg (bw n K T) c:=by
  unfold cC cE bw
  rw [Am a,rG,oD,oD,vQ]
 rw [← h]at e
 obtain⟨j,l⟩:=List.append_inj e (by rw [b];exact vY _ _ _)
 rw [j,l]
 exact⟨b,f,k,g⟩
def At.o8 (a:At n K T c ks ts):c<2 ^ (K*n+T*n*n):=by
 have h:=nC a.wl.ok
 rw [← a.cd,←ZM]
 have e:wS ((bw n ks.length ts.length).zip (ks++ts))=(bw n K T).sum:=by
  unfold wS
  rw [List.map_fst_zip (by rw [xp,Ab2];lia),a.lk,a.lt]
 rw [e]at h
 exact h
def At.uniq (a:At n K T c ks ts) (b:At n K T c ks' ts'):ks=ks'/\ts=ts':=p5 a.wl b.wl (a.lk.trans b.lk.symm) (a.lt.trans b.lt.symm) (a.cd.trans b.cd.symm)
theorem At.mv (a:At n K T c ks ts) (q:Od n o):At n K T (Cw n (ks.map (kM n o)) (ts.map (tK n o))) (ks.map (kM n o)) (ts.map (tK n o)):=⟨by rw [Aa];exact a.lk,by rw [Aa];exact a.lt,a.wl.mv q,rfl⟩
structure Ct (n:Nat) (K T:List Tx) (ss:List Sy):Prop where
 hn:n<=4
 hK:K.length<=4
 hT:T.length<=4
 nd:(K++T).Nodup
 hs: ∀s∈ss,s.wf (K++T)/\s.dp<=40
 hl:ss.length<=63
 hb:K.length*n+T.length*n*n<=9
abbrev nB (n:Nat) (K T:List Tx):Nat:=2 ^ (K.length*n+T.length*n*n)
def dJ (n:Nat) (K T:List Tx) (ks ts:List Nat) (s:Sy):Bool:=open Classical in u9 (call prog 56 "keeps" [.v (wD K T),.v (Qc n ks ts),.v (aK s)] []= .ok (.v (.bl true)) [])
def f7 (n:Nat) (K T:List Tx) (a:List Sy) (ks ts:List Nat):Bool:=a.all (dJ n K T ks ts)
def Od.one (n):Od n (Aa0 n):=⟨List.Perm.refl _⟩
section
variable {n:Nat}{K T:List Tx}{ss:List Sy}(C:Ct n K T ss)
include C
def Ct.n5:nB n K T<=512:=by
 have h:nB n K T<=2 ^ 9:=Ac8 (by decide) C.hb
 exact h
def Ct.wo (a:At n K.length T.length c ks ts):(Wo.mk n K T ks ts).Ok:=⟨C.hK,C.hT,⟨C.nd⟩,⟨C.hn,a.lk,a.lt,a.wl.bk,a.wl.bt⟩⟩
def Xv (a:At n K.length T.length c ks ts) (g:Od n o)(h:s∈ss):dJ n K T (ks.map (kM n o)) (ts.map (tK n o)) s=dJ n K T ks ts s/\ ∀m,48<=m->call prog m "keeps" [.v (wD K T),.v (Qc n ks ts),.v (aK s)] []= .ok (.v (.bl (dJ n K T ks ts s))) []:=by
 obtain⟨k,p⟩:=C.hs s h
 obtain⟨b,d⟩:=Dl (C.wo a) g [] s k
 have l:call prog 56 "keeps" [.v (wD K T),.v (Qc n ks ts),.v _] []= .ok _ []:=(d 54 (by lia)).1
 have i:call prog 56 "keeps" [.v (wD K T),.v (Qc n (ks.map _) (ts.map _)),.v _] []= .ok _ []:=(d 54 (by lia)).2
 have e:dJ n K T ks ts s=b:=by
  unfold dJ
  rw [l]
  cases b<;>simp
 have j:dJ n K T (ks.map (kM n o)) (ts.map (tK n o)) s=b:=by
  unfold dJ
  rw [i]
  cases b<;>simp
 refine⟨j.trans e.symm,λm q=> ?_⟩
 rw [e]
 have f:=(d (m-2) (by lia)).1
 rw [show m-2+2=m by lia]at f
 exact f
def KL (a:At n K.length T.length c ks ts) (d:Od n o):f7 n K T ss (ks.map (kM n o)) (ts.map (tK n o))=f7 n K T ss ks ts:=by
 unfold f7
 rw [Ad4,Ad8,Ad8]
 exact⟨λh s b=>(Xv C a d b).1▸h s b,λh s b=>((Xv C a d b).1).symm▸h s b⟩
def EY (a:At n K.length T.length c ks ts) (m) (d:48<=m):call prog (m+1) "_law_keep" [.v (wD K T),.v (Qc n ks ts),.v (.tup (ss.map aK))] []= .ok (.v (.bl (f7 n K T ss ks ts))) []:=by
 rw [Ga rfl _ _ _ rfl]
 simp only [JK]
 rw [jb (w:= .v (.bl (f7 n K T ss ks ts))) (zc rfl (by
  unfold f7
  rw [← my]
  refine qx ?_
  rw [Ac5]
  refine qg aK (λs=> .bl _) ss (kz (by simp_all [])) (by have:=C.hl;lia) λs b=>⟨.v _,?_,rfl⟩
  have e:=(Xv C a (Od.one n) b).2 m d
  simp_all [e]))]
 exact Gb _ _ _ rfl
omit C in
theorem K8 (i:Nat) (d:D) (a:List D):GR i (d::a)= .tup [.int (i:Int),d]::GR (i+1) a:=rfl
abbrev ic (n:Nat) (K T:List Tx) (ks ts:List Nat) (a:List Sy) (c b:Option W):Sl:= [y0 (.v (wD K T)),y0 (.v (Qc n ks ts)),y0 (.v (.tup (a.map aK))),c,b]
def eV (p:Sy->Bool):List Sy->Nat->Option Nat
 | [],_=>u0
 | s::l,i=>if p s then eV p l (i+1)else y0 i
def A2:Option Nat->D
 | none=> .au
 | some j=> .int (j:Int)
omit C in
theorem uQ (p:Sy->Bool): ∀(l:List Sy) (i:Nat),(eV p l i).isNone=l.all p
 | [],_=>rfl
 | s::l,i=>by
  rw [eV,Ai1]
  cases q:p s with
  | true=>rw [if_pos rfl,uQ p l,Ai2]
  | false=>rfl
abbrev g4 (n:Nat) (K T:List Tx) (a:List Sy) (ks ts:List Nat):D:=A2 (eV (dJ n K T ks ts) a 0)
theorem sk (a:At n K.length T.length c ks ts) (m) (b:48<=m): ∀ l i L J,(∀ s∈l,s∈ss) →
 (∃ O M,eV (dJ n K T ks ts) l i=u0/\Gq (Gn [3,4] y9) (λY h=>execs (k8 m) Wb Y h) (GR i (l.map aK)) (ic n K T ks ts ss L J) []= .next (ic n K T ks ts ss O M) []) ∨
 ∃j:Nat,eV (dJ n K T ks ts) l i=y0 j/\Gq (Gn [3,4] y9) (λY h=>execs (k8 m) Wb Y h) (GR i (l.map aK)) (ic n K T ks ts ss L J) []= .ret (.v (.int (j:Int))) []
 | [],i,L,J,_=> .inl ⟨L,J,rfl,rfl⟩
 | s::l,i,L,J,d=>by
  have e:=(Xv C a (Od.one n) (d s Aa3)).2 m b
  rw [Ab,K8,eV]
  cases q:dJ n K T ks ts s with
  | true=>
   rw [q]at e
   rw [qa (Y1:=ic n K T ks ts ss (y0 (.v (.int i))) (y0 (.v (aK s)))) rfl (by
    simp only [Wb]
    rw [Za (by simp_all [e])]
    rfl),if_pos rfl]
   exact sk a m b l (i+1) _ _ λt g=>d t (Aa1 _ g)
  | false=>
   rw [q]at e
   refine .inr ⟨i,rfl,?_⟩
   rw [Wy,show Gn [3,4] y9 (.tup [.int i,aK s]) (ic n K T ks ts ss L J)=y0 (ic n K T ks ts ss (y0 (.v (.int i))) (y0 (.v (aK s))))from rfl]
   have f:execs (k8 m) Wb (ic n K T ks ts ss (y0 (.v (.int i))) (y0 (.v (aK s)))) []= .ret (.v (.int i)) []:=by
    simp only [Wb]
    rw [zk (by simp_all [e]) rfl]
   simp only [f]
def qP (a:At n K.length T.length c ks ts) (m) (f:48<=m):call prog (m+1) "first_broken" [.v (wD K T),.v (Qc n ks ts),.v (.tup (ss.map aK))] []= .ok (.v (g4 n K T ss ks ts)) []:=by
 have h:Gr (k8 m) (.enum .v2) (ic n K T ks ts ss u0 u0) []= .ok (GR 0 (ss.map aK)) []:=by
  simp_all []
 rw [Ga rfl _ _ _ rfl]
 simp only [Qt]
 unfold g4
 rcases sk C a m f ss 0 u0 u0 (λs e=>e)with⟨i,g,b,d⟩ | ⟨j,b,d⟩
 ·rw [b]
  refine fx (by
   exact d) ?_
  exact Gb _ _ _ rfl
 ·rw [b,jb (by
   exact d)]
  exact Gb _ _ _ rfl
abbrev g8 (n:Nat) (K T:List Tx) (ks ts:List Nat) (a:List Sy) (b:Option W):Sl:= [y0 (.v (wD K T)),y0 (.v (Qc n ks ts)),y0 (.v (.tup (a.map aK))),b]
theorem r4 (a:At n K.length T.length c ks ts) (m) (d:48<=m): ∀ l p i,p++l=ss →
 (∃ J,eV (dJ n K T ks ts) l p.length=u0/\Gq (Gn [3] k9) (λY h=>execs (k8 m) zd Y h) ((Aa0 l.length).map λj=>D.int ((p.length+j:Nat):Int)) (g8 n K T ks ts ss i) []= .next (g8 n K T ks ts ss J) []) ∨
 ∃j:Nat,eV (dJ n K T ks ts) l p.length=y0 j/\Gq (Gn [3] k9) (λY h=>execs (k8 m) zd Y h) ((Aa0 l.length).map λj=>D.int ((p.length+j:Nat):Int)) (g8 n K T ks ts ss i) []= .ret (.v (.int (j:Int))) []
 | [],p,i,_=> .inl ⟨i,rfl,rfl⟩
 | s::l,p,i,b=>by
  have e:=(Xv C a (Od.one n) (s:=s) (by rw [← b];simp)).2 m d
  have ix:aX (ss.map aK) (p.length:Nat)=y0 (aK s):=by
   rw [Xh _ _ (by rw [← b];simp),←b]
   simp
  rw [Ab8,wk,eV]
  cases q:dJ n K T ks ts s with
  | true=>
   rw [q]at e
   rw [qa (Y1:=g8 n K T ks ts ss (y0 (.v (.int p.length)))) rfl (by
    simp only [zd]
    rw [Za (by simp_all [ah,ix,e])]
    rfl),if_pos rfl]
   have:=r4 a m d l (p++ [s]) (y0 (.v (.int p.length))) (by rw [Ae7];exact b)
   rw [Ab2]at this
   exact this
  | false=>
   rw [q]at e
   refine .inr ⟨p.length,rfl,?_⟩
   rw [Wy,show Gn [3] k9 (.int p.length) (g8 n K T ks ts ss i)=y0 (g8 n K T ks ts ss (y0 (.v (.int p.length))))from rfl]
   have f:execs (k8 m) zd (g8 n K T ks ts ss (y0 (.v (.int p.length)))) []= .ret (.v (.int p.length)) []:=by
    simp only [zd]
    rw [zk (by simp_all [ah,ix,e]) rfl]
   simp only [f]
def EL (a:At n K.length T.length c ks ts) (m) (f:48<=m):call prog (m+1) "_law_broken" [.v (wD K T),.v (Qc n ks ts),.v (.tup (ss.map aK))] []= .ok (.v (g4 n K T ss ks ts)) []:=by
 have e:Gr (k8 m) (.av (.bi .len (.a .v2))) (g8 n K T ks ts ss u0) []= .ok ((Aa0 ss.length).map λj=>D.int ((([]:List Sy).length+j:Nat))) []:=by
  rw [qH,wd (by simp_all [Jh,Aa]) (Ac C.hl (by decide))]
  simp only [Ak0,Af9]
 rw [Ga rfl _ _ _ rfl]
 simp only [XA]
 unfold g4
 rcases r4 C a m f ss [] u0 rfl with⟨g,b,d⟩ | ⟨j,b,d⟩
 ·rw [show eV _ ss 0=u0 from b]
  refine fx (by
   rw [exec,show Gr (k8 m) _ (An y0 [W.v (wD K T),.v (Qc n ks ts),.v (.tup (ss.map aK))]++Aa9 (4-3) u0) []=_ from e,R.ay]
   exact d) ?_
  rw [jb (zc rfl rfl)]
  exact Gb _ _ _ rfl
 ·rw [show eV _ ss 0=y0 j from b,jb (by
   rw [exec,show Gr (k8 m) (.av (.bi .len (.a .v2))) (An y0 [W.v (wD K T),.v (Qc n ks ts),.v (.tup (ss.map aK))]++Aa9 (4-3) u0) []=_ from e,R.ay]
   exact d)]
  exact Gb _ _ _ rfl
abbrev wX (n:Nat) (K T:List Tx) (c:Nat):D:=Qc n (cC n K.length T.length c) (cE n K.length T.length c)
def kc (n:Nat) (K T:List Tx) (a:List Sy) (c:Nat):Bool:=f7 n K T a (cC n K.length T.length c) (cE n K.length T.length c)
omit C in
theorem Ct.at (C:Ct n K T ss){c:Nat}(a:c<nB n K T):At n K.length T.length c (cC n K.length T.length c) (cE n K.length T.length c):=EB C.hn C.hK C.hT a
abbrev kj (n:Nat) (K T:List Tx) (b:List Sy) (a:List Nat) (c d:Option W):Sl:= [y0 (.v (wD K T)),y0 (.v (.int (n:Int))),y0 (.v (.tup (b.map aK))),y0 (.v (.int ((K.length:Nat):Int))),y0 (.v (.int ((T.length:Nat):Int))),y0 (.own (a.map (wX n K T))),c,d]
theorem sr (m) (d:49<=m): ∀ j i J M L,i+j=nB n K T->J.length<=i-> ∃O S,
 Gq (Gn [6] k9) (λY h=>execs (k8 m) Wi Y h) ((Aa0 j).map λx=>D.int ((i+x:Nat):Int)) (kj n K T ss J M L) []= .next (kj n K T ss (J++((Aa0 j).map (i+ ·)).filter (kc n K T ss)) O S) []
 | 0,i,J,M,L,_,_=>⟨M,L,by simp [Gq]⟩
 | j+1,i,J,M,L,h,k=>by
  have n5:=C.n5
  have b:=Cg (m-1) n K.length T.length i [] C.hn C.hK C.hT
  rw [show m-1+1=m by omega]at b
  have a:=EY C (C.at (c:=i) (by omega)) (m-1) (by omega)
  rw [show m-1+1=m by omega]at a
  have f:((Aa0 (j+1)).map (i+ ·))=i::(Aa0 j).map (i+1+ ·):=by
   rw [Af3,Ab,Ac5]
   exact congrArg (i:: ·) (Ad7 λx _=>by show i+(x+1)=i+1+x;omega)
  rw [f,wk]
  obtain⟨O,S,e⟩:=sr m d j (i+1) (J++ [i].filter (kc n K T ss)) (y0 (.v (.int i))) (y0 (.v (wX n K T i))) (by omega) (by
   rw [Ab2]
   have:=Ad6 (kc n K T ss) [i]
   simp only [Af7]at this
   omega)
  refine⟨O,S,?_⟩
  rw [qa (Y1:=kj n K T ss J (y0 (.v (.int i))) L) (Y2:=kj n K T ss (J++ [i].filter (kc n K T ss)) (y0 (.v (.int i))) (y0 (.v (wX n K T i)))) (h2:= []) rfl (by
   simp only [Wi]
   refine(za (by simp_all [b];rfl)).trans ?_
   cases q:kc n K T ss i with
   | true=>
    rw [show f7 n K T ss (cC n K.length T.length i) (cE n K.length T.length i)=k9 from q]at a
    have g:(J.map (wX n K T)).length<aY:=by rw [Gi,Aa];omega
    rw [Xa,Zr (h1:= []) (by simp_all [a]),Xa]
    simp_all [g,if_true]
    simp [q]
   | false=>
    rw [show f7 n K T ss (cC n K.length T.length i) (cE n K.length T.length i)=y9 from q]at a
    rw [Za (by simp_all [a])]
    simp [q,execs]),e,Ae7,Aj7,Aj7]
  simp only [List.filter_nil]
  split<;>simp
def HU (m) (f:49<=m):call prog (m+1) "_law_keepers" [.v (wD K T),.v (.int (n:Int)),.v (.tup (ss.map aK))] []= .ok (.own (((List.range (nB n K T)).filter (kc n K T ss)).map (wX n K T))) []:=by
 have hn:=C.hn
 have o:=C.hK
 have l:=C.hT
 have b:Gp .mul _ (n:Int)=y0 _:=wc K.length n (by omega)
 have i:Gp .mul _ (n:Int)=y0 _:=wc T.length n (by omega)
 have p:T.length*n<=4*4:=Ad3 l hn
 have c:Gp .mul _ (n:Int)=y0 _:=wc (T.length*n) n (by omega)
 have j:((K.length*n:Nat):Int)+((T.length*n*n:Nat):Int)=((K.length*n+T.length*n*n:Nat):Int):=rfl
 have d:=eY (K.length*n+T.length*n*n) (by have:=C.hb;omega)
 have n5:=C.n5
 have a: ∀h,cm .len [.v (cJ K)] h=aT _ h:=λh=>by rw [Jh,Aa]
 have lt: ∀h,cm .len [.v (cJ T)] h=aT (.int ((T.length:Nat):Int)) h:=λh=>by rw [Jh,Aa]
 obtain⟨g,k,e⟩:=sr C m f (nB n K T) 0 [] u0 u0 (by omega) (Aa5 _)
 rw [Ga rfl _ _ _ rfl]
 simp only [Qv]
 refine fx (by simp_all [ah,xI,a];rfl) ?_
 refine fx (by simp_all [ah,wB,lt];rfl) ?_
 rw [za (Y1:=kj n K T ss [] u0 u0) (by simp_all [];rfl)]
 rw [za (Y1:=kj n K T ss ((Aa0 (nB n K T)).filter (kc n K T ss)) g k) (by
  rw [exec,qH,wd (m:=nB n K T) (by simp_all [b,i,c,Zc,j,d]) (by omega),R.ay]
  simpa using e)]
 rw [jb (w:= .own (((Aa0 (nB n K T)).filter (kc n K T ss)).map (wX n K T))) (h1:= []) rfl]
 exact Gu _ _ _ rfl
end
def bR (n K T c:Nat):Bool:=(wm n n).all λr=>u9 (c<=Cw n ((cC n K T c).map (kM n r)) ((cE n K T c).map (tK n r)))
def Mn (g:Wl n ks ts): ∃r,Od n r/\ks.map (kM n r)=ks/\ts.map (tK n r)=ts:=by
 have q:=Od.one n
 obtain⟨p,a,e⟩:=q.rev
 obtain⟨d,f⟩:=JQ g q a e
 obtain⟨b,c⟩:=mC a q
 exact⟨(Aa0 n).map _,a.then q,b.symm.trans d,c.symm.trans f⟩
def su {b:Type}(g) (p) (l:List b) (n:Gk F it Y h= .ok (l.map g) h) (o:l.length<=1000)
 (d: ∀x∈l,Gs F c (y0 (.v (g x))::az.map λj=>Gf Y j) h= .ok (p x) h/\eval F elt (y0 (.v (g x))::az.map λj=>Gf Y j) h= .ok (.v (g x)) h):eval F (.comp [0] k9 1 az it k9 c elt) Y h= .ok (.own ((l.filter p).map g)) h:=by
 rw [eval,n,R.aa,if_pos (by rw [Gi,Aa];lia)]
 have k: ∀ step (l:List b),(∀ x∈l,step (g x) h= .ok (if p x then y0 (g x)else u0) h)->Gv step (l.map g) h= .ok ((l.filter p).map g) h:=λstep l=>by
  induction l with
  | nil=>intro _;rfl
  | cons x l f=>
   intro a
   rw [Ab,Gv,a x Aa3,Aj7]
   simp only [f λy e=>a y (Aa1 _ e)]
   cases p x<;>rfl
 rw [k _ l λx a=> ?_]
 ·rfl
 ·obtain⟨i,m⟩:=d x a
  show(R.bind (Gs F c (y0 _::az.map λj=>Gf Y j) h) _)=_
  rw [i]
  cases p x with
  | true=>
   show(eval F elt (y0 _::az.map λj=>Gf Y j) h).bind _=_
   rw [m]
   rfl
  | false=>rfl
section
variable {n:Nat}{K T:List Tx}{ss:List Sy}(C:Ct n K T ss)
include C
def oP (z:c<nB n K T): ∃j,j<nB n K T/\j<=c/\kc n K T ss j=kc n K T ss c/\bR n K.length T.length j=k9/\(bR n K.length T.length c=k9↔j=c)/\(∃ r,Od n r/\c=Cw n ((cC n K.length T.length j).map (kM n r)) ((cE n K.length T.length j).map (tK n r))) ∧
 ∀ a b,Ls n (cC n K.length T.length c) (cE n K.length T.length c) a b->Qc n a b=wX n K T j:=by
 have d:=C.at z
 obtain⟨a,b,o,_⟩:=JY d.wl 0 []
 obtain⟨r,f,m,l⟩:=o.o
 have e:=d.mv f
 rw [← m,←l]at e
 have g:Cw n a b<nB n K T:=e.o8
 obtain⟨k,q⟩:=e.uniq (C.at g)
 obtain⟨i,D,i1,i2⟩:=Mn d.wl
 have t:=by
  have:=o.le i D
  rw [i1,i2,d.cd]at this
  exact this
 have u:bR n K.length T.length (Cw n a b)=true:=by
  unfold bR
  rw [Ad8]
  intro s x
  have:=(o.self d.wl).le s ((Xg C.hn s).mp x)
  rw [← k,←q]
  exact decide_eq_true this
 refine⟨Cw n a b,g,t,?_,u,⟨λh=> ?_,λh=> ?_⟩,?_,λH G y=> ?_⟩
 ·unfold kc
  rw [← k,←q,m,l]
  exact KL C d f
 ·unfold bR at h
  rw [Ad8]at h
  have:=of_decide_eq_true (h r ((Xg C.hn r).mpr f))
  rw [← m,←l]at this
  lia
 ·rw [← h];exact u
 ·obtain⟨p,v,A⟩:=f.rev
  obtain⟨B,w⟩:=JQ d.wl f v A
  refine⟨p,v,?_⟩
  rw [← k,←q,m,l,B,w,d.cd]
 ·obtain⟨F,E⟩:=Ls.uniq d.wl y o
  rw [F,E]
  show Qc n a b=Qc n _ _
  rw [← k,←q]
def DL (d:c<nB n K T) (k) (h): ∃i,i<nB n K T/\kc n K T ss i=kc n K T ss c/\bR n K.length T.length i=k9/\(bR n K.length T.length c=k9↔i=c)/\call prog (k+3) "_law_least" [.v (wX n K T c)] h= .ok (.v (wX n K T i)) h:=by
 obtain⟨i,o,_,g,m,j,_,l⟩:=oP C d
 obtain⟨a,b,f,e⟩:=JY (C.at d).wl k h
 refine⟨i,o,g,m,j,?_⟩
 rw [e,l a b f]
def CM (b:c<nB n K T) (e:d<nB n K T):(cC n K.length T.length c=cC n K.length T.length d/\cE n K.length T.length c=cE n K.length T.length d)↔c=d:=by
 refine⟨λ⟨f,a⟩=> ?_,λh=>by rw [h];exact⟨rfl,rfl⟩⟩
 rw [← (C.at b).cd,←(C.at e).cd,f,a]
def E7 (a:c<nB n K T) (b:d<nB n K T) (h):Gw .eq (.v (wX n K T c)) (.v (wX n K T d)) h=y0 (u9 (c=d)):=by
 rw [LC]
 congr 1
 rw [decide_eq_decide,←CM C a b]
 simp
abbrev kL (n:Nat) (K T:List Tx) (a:List Sy):List Nat:=(Aa0 (nB n K T)).filter (kc n K T a)
abbrev dL (n:Nat) (K T:List Tx) (a:List Sy):List Nat:=(kL n K T a).filter (bR n K.length T.length)
theorem uM (h:c∈kL n K T ss):c<nB n K T/\kc n K T ss c=true:=⟨Ab3.mp (Ae.mp h).1,(Ae.mp h).2⟩
def sN:(kL n K T ss).length<=512:=Ac (Ad6 _ _) (by rw [Aj1];exact C.n5)
abbrev gY (n K T c:Nat):List Nat:=(wm n n).map λr=>Cw n ((cC n K T c).map (kM n r)) ((cE n K T c).map (tK n r))
def iD (S:List Int) (l:List Nat):List Int:=l.foldl (λS (x:Nat)=>GX S (x:Int)) S
omit C in
theorem Dm (S:List Int) (k x:Int):x∈GX S k↔x∈S\/x=k:=by
 unfold GX
 split
 ·rename_i h
  exact⟨.inl,λz=>z.elim id λe=>by rw [e];simpa using h⟩
 ·rw [Ae9,Ae8]
omit C in
theorem Z9 (S:List Int) (k:Int):(GX S k).length<=S.length+1:=by
 unfold GX
 split
 ·lia
 ·rw [Ab2];exact Aa5 _
omit C in
theorem uy: ∀(l:List Nat) (S:List Int) (x:Int),x∈iD S l↔x∈S\/ ∃y∈l,x=(y:Int)
 | [],S,x=>⟨.inl,λz=>z.elim id λ⟨y,h,_⟩=>absurd h Ad5⟩
 | y::l,S,x=>by
  show x∈iD (GX S (y:Int)) l↔_
  rw [uy l,Dm]
  constructor
  ·rintro ((h | h) | ⟨z,a,e⟩)
   ·exact .inl h
   ·exact .inr ⟨y,Aa3,h⟩
   ·exact .inr ⟨z,Aa1 _ a,e⟩
  ·rintro (h | ⟨z,a,e⟩)
   ·exact .inl (.inl h)
   ·rcases Ab9.mp a with rfl | a
    ·exact .inl (.inr e)
    ·exact .inr ⟨z,a,e⟩
omit C in
theorem q9: ∀(l:List Nat) (S:List Int),(iD S l).length<=S.length+l.length
 | [],S=>Aa5 _
 | y::l,S=>by
  have b:=q9 l (GX S (y:Int))
  have a:=Z9 S (y:Int)
  show(iD (GX S (y:Int)) l).length<=_
  rw [Ab8]
  omega
noncomputable abbrev eZ (n:Nat) (K T:List Tx) (a:List Nat) (b c d:Option W):Sl:= [y0 (.v (wD K T)),y0 (.v (.int (n:Int))),y0 (.v (.ref 0)),y0 (.own (a.map (wX n K T))),b,c,d]
omit C in
theorem rY {F:Fx}(a:List Nat) (b c:Option W): ∀(l:List Nat) (S:List Int) (d:Option W),S.length+l.length<=20000-> ∃i,
 Gq (Gn [6] k9) (λY h=>execs F Jn Y h) (ag l) (eZ n K T a b c d) [.bX S]= .next (eZ n K T a b c i) [.bX (iD S l)]
 | [],S,d,_=>⟨d,rfl⟩
 | y::l,S,d,g=>by
  rw [Ab8]at g
  have j:=Z9 S (y:Int)
  obtain⟨i,e⟩:=rY a b c l (GX S (y:Int)) (y0 (.v (.int (y:Int)))) (by omega)
  refine⟨i,?_⟩
  have dd:Kg [.bX S] (y0 (.v (.ref 0)))=y0 (0,S):=rfl
  have f:S.length<aY:=by rw [Gi];omega
  show Gq _ _ (D.int (y:Int)::ag l) _ _=_
  rw [qa (Y1:=eZ n K T a b c (y0 (.v (.int (y:Int))))) (Y2:=eZ n K T a b c (y0 (.v (.int (y:Int))))) (h2:= [.bX (GX S (y:Int))]) rfl (by
   simp only [Jn]
   rw [Xa]
   simp_all [dd,f,if_true]
   rfl),e]
  rfl
def Iq (n:Nat) (K T:List Tx) (i:Nat) (S:List Int):Prop:= ∀x:Nat,(x:Int)∈S↔ ∃c,c<i/\bR n K.length T.length c=k9/\x∈gY n K.length T.length c
theorem oW (k): ∀ j i S Z L J,i+j=nB n K T->S.length<=i*24->Iq n K T i S-> ∃M W V O,
 Gq (Gn [4] k9) (λY h=>execs (k8 (k+6)) ji Y h) ((Aa0 j).map λx=>D.int ((i+x:Nat):Int)) (eZ n K T ((Aa0 i).filter (bR n K.length T.length)) Z L J) [.bX S]= .next (eZ n K T ((Aa0 (nB n K T)).filter (bR n K.length T.length)) W V O) [.bX M]
 | 0,i,S,Z,L,J,h,_,_=>⟨S,Z,L,J,by rw [← show i=nB n K T by omega];simp [Gq]⟩
 | j+1,i,S,Z,L,J,h,hS,v=>by
  have n5:=C.n5
  have N:i<nB n K T:=by omega
  have a:=C.at N
  have U:(wm n n).length<=24:=by
   have:=(mZ n C.hn).len
   have w:=C.hn
   rw [this]
   match n,w with
   | 0,_=>decide
   | 1,_=>decide
   | 2,_=>decide
   | 3,_=>decide
   | 4,_=>decide
  have d:S.contains (i:Int)= !bR n K.length T.length i:=by
   have:(S.contains (i:Int)=k9)↔bR n K.length T.length i=false:=by
    rw [Ah7,v i]
    constructor
    ·rintro ⟨c,g,b,f⟩
     obtain⟨r,o,e⟩:=Ac1.mp f
     have l:=C.at (c:=c) (by omega)
     have m:=l.mv ((Xg C.hn r).mp o)
     have e:Cw n ((cC n K.length T.length c).map (kM n r)) ((cE n K.length T.length c).map (tK n r))=i:=e
     rw [e]at m
     obtain⟨u1,u2⟩:=a.uniq m
     cases q:bR n K.length T.length i with
     | false=>rfl
     | true=>
      obtain⟨p,G,he⟩:=((Xg C.hn r).mp o).rev
      obtain⟨b1,Q⟩:=JQ l.wl ((Xg C.hn r).mp o) G he
      unfold bR at q
      rw [Ad8]at q
      have:=of_decide_eq_true (q p ((Xg C.hn p).mpr G))
      rw [u1,u2,b1,Q,l.cd]at this
      omega
    ·intro q
     obtain⟨H,g,b,f,w,h5,⟨r,o,e⟩,_⟩:=oP C N
     have hne:H≠i:=λz=>by
      have:=h5.mpr z
      rw [q]at this
      cases this
     exact⟨H,by omega,w,Ac1.mpr ⟨r,(Xg C.hn r).mpr o,e.symm⟩⟩
   cases q:bR n K.length T.length i with
   | false=>rw [this.mpr q];rfl
   | true=>
    cases q2:S.contains (i:Int)with
    | false=>rfl
    | true=>rw [this.mp q2]at q;cases q
  have dd:Kg [.bX S] (y0 (.v (.ref 0)))=y0 (0,S):=rfl
  have P:cI k9 (.v (.int (i:Int))) (y0 (0,S)) [.bX S]=aT (.bl (!S.contains (i:Int))) [.bX S]:=rfl
  have I:(Aa0 (i+1)).filter (bR n K.length T.length)=(Aa0 i).filter (bR n K.length T.length)++ [i].filter (bR n K.length T.length):=by rw [List.range_succ,An0]
  have X:=Ad6 (bR n K.length T.length) (Aa0 i)
  rw [Aj1]at X
  rw [wk]
  cases q:bR n K.length T.length i with
  | false=>
   rw [q]at d
   obtain⟨M,W,V,O,e⟩:=oW k j (i+1) S (y0 (.v (.int (i:Int)))) L J (by omega) (by omega) (λx=>by
    rw [v x]
    constructor
    ·rintro ⟨c,g,b⟩
     exact⟨c,by omega,b⟩
    ·rintro ⟨c,g,b,f⟩
     refine⟨c,?_,b,f⟩
     have:c≠i:=λz=>by rw [z,q]at b;cases b
     omega)
   refine⟨M,W,V,O,?_⟩
   rw [qa (Y1:=eZ n K T ((Aa0 i).filter (bR n K.length T.length)) (y0 (.v (.int (i:Int)))) L J) (Y2:=eZ n K T ((Aa0 i).filter (bR n K.length T.length)) (y0 (.v (.int (i:Int)))) L J) (h2:= [.bX S]) rfl (by
    simp only [ji]
    rw [Za (by simp_all [dd,P,d])]
    rfl)]
   rw [I]at e
   simp only [Aj7,q,List.filter_nil,Ae4,Ag7,if_false]at e
   exact e
  | true=>
   rw [q]at d
   have s:=qM (k+1) n (K.map D.str) (T.map D.str) (cC n K.length T.length i) (cE n K.length T.length i) [.bX S] a.wl (by rw [Aa,a.lk]) (by rw [Aa,a.lt])
   rw [a.cd]at s
   have s:call prog (k+6) "world_of" [.v (wD K T),.v (.int (n:Int)),.v (.int (i:Int))] [.bX S]= .ok (.v (wX n K T i)) [.bX S]:=s
   have t:=sQ a.wl (A:=K.map D.str) (B:=T.map D.str) (by rw [Aa,a.lk]) (by rw [Aa,a.lt]) k [.bX S]
   have t:call prog (k+6) "codes_alike" [.v (wD K T),.v (wX n K T i)] [.bX S]= .ok (.own (ag (gY n K.length T.length i))) [.bX S]:=t
   have ol:(gY n K.length T.length i).length<=24:=by rw [Aa];exact U
   obtain⟨E,ez⟩:=rY (F:=(k8 (k+6))) (n:=n) (K:=K) (T:=T) ((Aa0 (i+1)).filter (bR n K.length T.length)) (y0 (.v (.int (i:Int)))) (y0 (.v (wX n K T i))) (gY n K.length T.length i) S J (by omega)
   have pl:=q9 (gY n K.length T.length i) S
   obtain⟨M,W,V,O,e⟩:=oW k j (i+1) (iD S (gY n K.length T.length i)) (y0 (.v (.int (i:Int)))) (y0 (.v (wX n K T i))) E (by omega) (by omega) (λx=>by
    rw [uy,v x]
    constructor
    ·rintro (⟨c,g,b⟩ | ⟨y,hy,e⟩)
     ·exact⟨c,by omega,b⟩
     ·obtain rfl:x=y:=Int.ofNat.inj e
      exact⟨i,by omega,q,hy⟩
    ·rintro ⟨c,g,b,f⟩
     by_cases u:c=i
     ·exact .inr ⟨x,u▸f,rfl⟩
     ·exact .inl ⟨c,by omega,b,f⟩)
   refine⟨M,W,V,O,?_⟩
   have hL:(((Aa0 i).filter (bR n K.length T.length)).map (wX n K T)).length<aY:=by rw [Gi,Aa];omega
   rw [qa (Y1:=eZ n K T ((Aa0 i).filter (bR n K.length T.length)) (y0 (.v (.int (i:Int)))) L J) (Y2:=eZ n K T ((Aa0 (i+1)).filter (bR n K.length T.length)) (y0 (.v (.int (i:Int)))) (y0 (.v (wX n K T i))) E) (h2:= [.bX (iD S (gY n K.length T.length i))]) rfl (by
    simp only [ji]
    rw [Xa,Zr (h1:= [.bX S]) (by simp_all [dd,P,d])]
    refine(za (by simp_all [s];rfl)).trans ?_
    rw [za (h1:= [.bX S]) (Y1:=eZ n K T ((Aa0 (i+1)).filter (bR n K.length T.length)) (y0 (.v (.int (i:Int)))) (y0 (.v (wX n K T i))) J) (by
     simp_all [hL,if_true]
     rw [I]
     simp [q])]
    rw [Xa,exec,show Gr (k8 (k+6)) (.seq (.call "codes_alike" (.b .v0 .v5))) (eZ n K T ((List.range (i+1)).filter (bR n K.length T.length)) (some (.v (.int (i:Int)))) (some (.v (wX n K T i))) J) [.bX S]= .ok (ag (gY n K.length T.length i)) [.bX S]by simp_all [t],R.ay]
    exact ez),e]
def IC (k):call prog (k+7) "all_forms" [.v (wD K T),.v (.int (n:Int))] []= .ok (.own (((List.range (nB n K T)).filter (bR n K.length T.length)).map (wX n K T))) []:=by
 have n5:=C.n5
 have a:=nj (k+4) n (K.map D.str) (T.map D.str) [.bX []] C.hn (by rw [Aa];exact C.hK) (by rw [Aa];exact C.hT)
 rw [Aa,Aa,ZM]at a
 have a:=a
 have b:=eY (K.length*n+T.length*n*n) (by have:=C.hb;omega)
 obtain⟨f,d,i,g,e⟩:=oW C k (nB n K T) 0 [] u0 u0 u0 (by omega) (Aa5 _) (λx=>⟨λh=>absurd h Ad5,λ⟨c,h,_⟩=>absurd h (Ah9 _)⟩)
 rw [Ga rfl _ _ _ rfl]
 simp only [ZE]
 refine fx (by simp_all [];rfl) ?_
 rw [za (Y1:=eZ n K T [] u0 u0 u0) (by simp_all [];rfl)]
 rw [za (by
  rw [exec,qH,wd (m:=nB n K T) (by simp_all [a,b]) (by omega),R.ay]
  simpa using e)]
 rw [jb rfl]
 show fin 0 _ _=_
 unfold fin
 rw [if_neg (by simp),if_pos (show (W.own _).keep=k9 from Jl _ (λ_=>Zm ..) _)]
 rfl
end
def vZ (k K T) (b:K<=4) (c:T<=4) (h): ∃A B:List Tx,A.length=K/\B.length=T/\(A++B).Nodup/\call prog (k+1) "_law_names" [.v (.int (K:Int)),.v (.int (T:Int))] h= .ok (.v (wD A B)) h:=by
 have a: ∀K,K<5-> ∀T,T<5->(([[97,103,101],[98,101,101],[99,97,112],[100,111,116]].take K)++([[101,97,116],[102,101,100],[103,111],[104,117,116]].take T)).Nodup:=by decide +kernel
 refine⟨[[97,103,101],[98,101,101],[99,97,112],[100,111,116]].take K,[[101,97,116],[102,101,100],[103,111],[104,117,116]].take T,by rw [Af8];simp;lia,by rw [Af8];simp;lia,a K (by lia) T (by lia),?_⟩
 rw [Ga rfl _ _ _ rfl]
 simp only [QH]
 simp_all [Hy,Q7]
 rw [wD,cJ,cJ,List.map_take,List.map_take]
 rfl
def l9 (k n:Nat) (A B) (h) (e:n<=4) (i:A.length<=4) (f:B.length<=4):call prog (k+5) "check_bits" [.v (wD A B),.v (.int (n:Int)),.v (.int 9)] h=if A.length*n+B.length*n*n<=9 then .ok (.v .au) h else .exc (.err "TooBig" "bits" (.int ((A.length*n+B.length*n*n:Nat):Int))) h:=by
 have g:=QZ k (.int (n:Int)) h rfl (by show(u9 ((0:Int)<=(n:Int))&&decide _)=k9;rw [decide_eq_true (by omega),decide_eq_true (by omega)];rfl)
 have a:=nj (k+2) n (A.map D.str) (B.map D.str) h e (by rw [Aa];exact i) (by rw [Aa];exact f)
 rw [Aa,Aa,ZM]at a
 have a:=a
 generalize A.length*n+B.length*n*n=b at a
 rw [Ga rfl _ _ _ rfl]
 simp only [Wp]
 refine fx (by simp_all [g];rfl) ?_
 refine fx (by simp_all [a];rfl) ?_
 by_cases c:b<=9
 ·have d:u9 ((9:Int)<(b:Int))=false:=decide_eq_false (by omega)
  rw [if_pos c,Za (by simp_all [Jt,d])]
  exact Gz _ _ _ rfl
 ·have d:u9 ((9:Int)<(b:Int))=true:=decide_eq_true (by omega)
  rw [if_neg c,Xa,Zr (h1:=h) (by simp_all [Jt,d]),Xa]
  simp_all []
def Hi (k) (nm d) (h) (c:Gc d=k9) (b:We d 5=y9):call prog (k+5) "check_bits" [.v nm,.v d,.v (.int 9)] h= .exc (.exc "NoSize" []) h:=by
 have a:=Bt k d h c b
 rw [Ga rfl _ _ _ rfl]
 simp only [Wp]
 rw [execs,show exec (k8 _) _ _ h= .exc _ h by simp_all [a];rfl]
 rfl
def kT:prog.con.lookup "MOST_LISTED_BITS" =some (.int 9):=rfl
def B9 (k) (nm sy d e) (h) (a:call prog k "check_bits" [.v nm,.v d,.v (.int 9)] h= .exc e h):call prog (k+1) "unlike" [.v (.tup [nm,sy]),.v d] h= .exc e h:=by
 rw [Ga rfl _ _ _ rfl]
 simp only [wN]
 refine fx (by simp_all [];rfl) ?_
 rw [execs,show exec (k8 k) _ [y0 _,y0 _,y0 _,y0 _] h= .exc e h by simp_all [kT,a];rfl]
 rfl
def nP (n) (K T) (ss) (c):(kc n K T ss c=k9->g4 n K T ss (cC n K.length T.length c) (cE n K.length T.length c)= .au)/\(kc n K T ss c=y9-> ∃i:Nat,g4 n K T ss (cC n K.length T.length c) (cE n K.length T.length c)= .int (i:Int)):=by
 have e:=uQ (dJ n K T (cC n K.length T.length c) (cE n K.length T.length c)) ss 0
 unfold g4 kc f7
 rw [← e]
 cases eV _ ss 0 with
 | none=>exact⟨λ_=>rfl,λz=>by cases z⟩
 | some j=>exact⟨λz=>(by cases z),λ_=>⟨j,rfl⟩⟩
section
variable {n:Nat}{K T:List Tx}{ss:List Sy}(C:Ct n K T ss)
include C
def QP (m) (k:55<=m):call prog (m+1) "unlike" [.v (.tup [wD K T,.tup (ss.map aK)]),.v (.int (n:Int))] []= .ok (.own ((dL n K T ss).map (wX n K T))) []:=by
 have d:=l9 (m-5) n K T [] C.hn C.hK C.hT
 rw [if_pos C.hb,show m-5+5=m by omega]at d
 have e:=IC C (m-7)
 rw [show m-7+7=m by omega]at e
 have n5:=C.n5
 rw [Ga rfl _ _ _ rfl]
 simp only [wN]
 refine fx (by simp_all [];rfl) ?_
 refine fx (by simp_all [kT,d];rfl) ?_
 have h:dL n K T ss=((Aa0 (nB n K T)).filter (bR n K.length T.length)).filter (kc n K T ss):=by
  unfold dL kL
  rw [List.filter_filter,List.filter_filter]
  exact List.filter_congr λx _=>Bool.and_comm _ _
 rw [jb (w:= .own ((dL n K T ss).map _)) (Jm rfl (by
  rw [h]
  unfold zK
  refine su (wX n K T) _ _ (WS (by simp_all [e])) (Ac (Ad6 _ _) (by rw [Aj1];omega)) λc f=> ?_
  have b:=Ab3.mp (Ae.mp f).1
  have a:=qP C (C.at b) (m-1) (by omega)
  rw [show m-1+1=m by omega]at a
  refine⟨?_,by simp_all []⟩
  obtain⟨g,j⟩:=nP n K T ss c
  cases q:kc n K T ss c with
  | true=>
   rw [g q]at a
   simp_all [a]
  | false=>
   obtain⟨i,z⟩:=j q
   rw [z]at a
   simp_all [a]))]
 exact Gu _ _ _ rfl
end
section
variable {n:Nat}{K T:List Tx}{ss:List Sy}(C:Ct n K T ss)
theorem yS : ∀ {l:List Nat},c∈l-> ∃j:Nat,Ks (wX n K T c) (l.map (wX n K T))=y0 j
 | [],h=>by cases h
 | x::l,h=>by
  rw [Ab,Ks]
  by_cases q:b0 (wX n K T x) (wX n K T c)=k9
  ·exact⟨0,if_pos q⟩
  ·rcases Ab9.mp h with rfl | h
   ·exact absurd (zC (Zm ..)) q
   ·obtain⟨j,e⟩:=yS h
    exact⟨j+1,by rw [if_neg q,e];rfl⟩
def Ly {l:List Nat}(b:c∈l) (i:l.length<=512): ∃j:Nat,Kh (.v (wX n K T c)) (.v (.lst (l.map (wX n K T)))) []=y0 j/\Kh (.v (wX n K T c)) (.own (l.map (wX n K T))) []=y0 j:=by
 obtain⟨j,e⟩:=yS b
 have a:Gd (l.map (wX n K T))=true:=Jl _ (λ_=>Zm ..) l
 have h:(W.v _).dd []=wX n K T c:=zM (Zm ..)
 have a2:GS [] _=l.map _:=GH a
 have dp:GK (l.map (wX n K T))<=2:=QN _ 2 (λ_=>vz ..) l
 have f:((Gc (wX n K T c)&&Gd (l.map (wX n K T))&&u9 (GK (l.map (wX n K T))<140))&&u9 ((l.map (wX n K T)).length<=aY))=true:=by
  rw [show Gc _=k9 from Zm ..,a,decide_eq_true (by lia),decide_eq_true (by rw [Gi,Aa];lia)]
  rfl
 have g: ∀w:W,w.dd []= .lst _->Kh (.v _) w []=y0 j:=λw d=>by
  unfold Kh
  rw [d,h]
  show(if _ then _ else _)=_
  rw [if_pos f,e]
 exact⟨j,g _ (congrArg D.lst a2),g _ (congrArg D.lst a2)⟩
include C
def sZ:(dL n K T ss).length<=512:=Ac (Ad6 _ _) (sN C)
def C6 (m) (e:55<=m)(a:i<(dL n K T ss).length):call prog (m+2) "world_at" [.v (.tup [wD K T,.tup (ss.map aK)]),.v (.int (n:Int)),.v (.int (i:Int))] []= .ok (.v (wX n K T ((dL n K T ss).getD i 0))) []:=by
 have d:=QP C m e
 have b:=qm (m-1) (.int i) ((dL n K T ss).length) [] rfl
 rw [show m-1+2=m+1 by omega,show We _ _=k9 by
  show(u9 (0<= i)&&decide _)=k9
  rw [decide_eq_true (by omega),decide_eq_true (by omega)];rfl]at b
 have c:aX ((dL n K T ss).map (wX n K T)) (i:Int)=y0 (wX n K T ((dL n K T ss).getD i 0)):=by
  rw [Xh _ _ (by rw [Aa];exact a),Ac4,Ab5,Aa4 a];rfl
 rw [Ga rfl _ _ _ rfl]
 simp only [jr]
 refine fx (by simp_all [d];rfl) ?_
 rw [Za (by simp_all [zr,Aa,b])]
 rw [jb (zc rfl (by simp_all [Zk,c];rfl))]
 exact Gb _ _ _ rfl
def D6 (m) (e:55<=m) (d) (c:Gc d=k9) (f:We d (((dL n K T ss).length:Nat):Int)=y9):call prog (m+2) "world_at" [.v (.tup [wD K T,.tup (ss.map aK)]),.v (.int (n:Int)),.v d] []= .exc (.err "NoNumber" "number" d) []:=by
 have b:=QP C m e
 have a:=qm (m-1) d ((dL n K T ss).length) [] c
 rw [show m-1+2=m+1 by lia,f]at a
 rw [Ga rfl _ _ _ rfl]
 simp only [jr]
 refine fx (by simp_all [b];rfl) ?_
 rw [execs,Zr (h1:= []) (by simp_all [zr,Aa,a]),Xa]
 simp_all []
def Fp (m) (y:56<=m)(p:c<nB n K T) (l:kc n K T ss c=true): ∃i j:Nat,call prog (m+1) "number_of" [.v (.tup [wD K T,.tup (ss.map aK)]),.v (wX n K T c)] []= .ok (.v (.int (j:Int))) []/\(∀ k,call prog (k+3) "_law_least" [.v (wX n K T c)] []= .ok (.v (wX n K T i)) [])/\Kh (.v (wX n K T i)) (.v (.lst ((dL n K T ss).map (wX n K T)))) []=some j:=by
 obtain⟨i,v,_,t,u,_,_,r⟩:=oP C p
 have d:=C.at p
 have e: ∀k,call prog _ "_law_least" [.v _] []= .ok _ []:=fun k=>by
  obtain⟨a,b,w,e⟩:=JY d.wl k []
  rw [r a b w]at e
  exact e
 obtain⟨x,s,g,f⟩:=Dn d.wl (A:=K.map D.str) (B:=T.map D.str) (by rw [Aa];exact d.lk.symm) (by rw [Aa];exact d.lt.symm) _ []
 rw [r x s g,show m-7+7=m by omega]at f
 have f:=f
 obtain⟨j,i1,i2⟩:=Ly (Ae.mpr ⟨Ae.mpr ⟨Ab3.mpr v,by rw [t];exact l⟩,u⟩) (sZ C)
 refine⟨i,j,?_,e,i1⟩
 have h:=l9 (m-5) n K T [] C.hn C.hK C.hT
 rw [if_pos C.hb,show m-5+5=m by omega]at h
 have q:=qP C d (m-1) (by omega)
 rw [(nP n K T ss c).1 l,show m-1+1=m by omega]at q
 have o:=QP C (m-1) (by omega)
 rw [show m-1+1=m by omega]at o
 rw [Ga rfl _ _ _ rfl]
 simp only [zv]
 refine fx (by simp_all [];rfl) ?_
 refine fx (by simp_all [ah,xt,kT,h];rfl) ?_
 refine fx (by simp_all [q];rfl) ?_
 rw [Za (by simp_all [])]
 rw [jb (zc rfl (by
  rw [eval,vi (by simp_all [ah,xt];rfl) o,R.aa]
  simp_all [lE,W.el,f,lD,i2];rfl))]
 exact Gb _ _ _ rfl
def KU (m) (g:56<=m)(e:c<nB n K T)(f:g4 n K T ss (cC n K.length T.length c) (cE n K.length T.length c)= .int (i:Int)):call prog (m+1) "number_of" [.v (.tup [wD K T,.tup (ss.map aK)]),.v (wX n K T c)] []= .exc (.err "Broken" "number" (.int (i:Int))) []:=by
 have a:=C.at e
 have b:=l9 (m-5) n K T [] C.hn C.hK C.hT
 rw [if_pos C.hb,show m-5+5=m by omega]at b
 have d:=qP C a (m-1) (by omega)
 rw [f,show m-1+1=m by omega]at d
 rw [Ga rfl _ _ _ rfl]
 simp only [zv]
 refine fx (by simp_all [];rfl) ?_
 refine fx (by simp_all [ah,xt,kT,b];rfl) ?_
 refine fx (by simp_all [d];rfl) ?_
 rw [execs,Zr (h1:= []) (by simp_all []),Xa]
 simp_all []
end
def Iu (k n:Nat) (nm sy e) (ks ts) (b:call prog k "check_bits" [.v nm,.v (.int (n:Int)),.v (.int 9)] []= .exc e []):call prog (k+1) "number_of" [.v (.tup [nm,sy]),.v (Qc n ks ts)] []= .exc e []:=by
 refine fx (by simp_all [];rfl) ?_
 rw [execs,(show ∀Y:Sl,Gj Y 1=y0 _->Gj Y 2=y0 _->exec (k8 k) _ Y []= .exc e []from λY c a=>by simp_all [c,a,ah,xt,kT,b];rfl) _ rfl rfl]
 rfl
def tQ (k) (nm sy d x e) (b:call prog k "check_bits" [.v nm,.v d,.v (.int 9)] []= .exc e []):call prog (k+2) "world_at" [.v (.tup [nm,sy]),.v d,.v x] []= .exc e []:=by
 have a:=B9 k nm sy d e [] b
 rw [Ga rfl _ _ _ rfl]
 simp only [jr]
 rw [execs,show exec (k8 _) _ _ []= .exc e []by simp_all [a];rfl]
 rfl
abbrev jV:Tx:= [116,111,108,100]
abbrev X8:Tx:= [98,114,111,107,101,110]
abbrev jC:Tx:= [110,117,109,98,101,114]
abbrev vg:Tx:= [98,105,103]
abbrev lW:Tx:= [115,105,122,101]
noncomputable def ET:List String:= ["NoSize", "NoPair", "NoName", "NoCode", "NoText", "Crowded", "TooBig", "NoWorld", "NoRenaming", "NoNumber", "Broken", "Kept", "Unlike", "NoRow", "NoStand", "ValueError"]
def fk (c:String):List D:=ET.map λx=> .bl ([x].any (GI prog.cl 8 c).contains)
def d4 (a:Nat):List D:=(Aa0 16).map λ(i:Nat)=> .bl (u9 ((i:Int)=(a:Int))||u9 ((i:Int)=15))
def nv (h:xs.length+ys.length<=16):GW .add (.v (.lst xs)) (.own ys) []= .ok (.own (xs++ys)) []:=by rw [F9,if_pos (by rw [Gi];lia)]
def Ek (k) (e) (c) (a: ∀ts,bV prog.cl (.v e) ts=y0 (ts.any (GI prog.cl 8 c).contains)):call prog (k+1) "_law_classes" [.v e] []= .ok (.v (.lst (fk c))) []:=by
 rw [Ga rfl _ _ _ rfl]
 simp only [Wx]
 refine fx (by simp_all [a];rfl) ?_
 refine fx (by simp_all [a];rw [nv (by simp)];rfl) ?_
 refine fx (by simp_all [a];rw [nv (by simp)];rfl) ?_
 refine fx (by simp_all [a];rw [nv (by simp)];rfl) ?_
 rw [jb rfl]
 exact Gb _ _ _ rfl
def zQ (F) (a:Nat) (Y):eval F (.comp [0] k9 1 [] (.av (.int 16)) y9 (.bl k9) (.or (.cmp .eq .v0 (.int (a:Int))) (.cmp .eq .v0 (.int 15)))) Y []= .ok (.own (d4 a)) []:=by
 refine uD (λi=> .bl _) rfl (by decide) λi c=>⟨.v _,?_,rfl⟩
 have q:=jp i a []
 have b:=jp i 15 []
 cases z:u9 (i=(a:Int))<;>(rw [z]at q;simp_all [q,b];try rfl)
def mr:Gw .eq (.v (.lst (fk "NoNumber"))) (.own (d4 10)) []=some false/\Gw .eq (.v (.lst (fk "NoNumber"))) (.own (d4 9)) []=some true/\Gw .eq (.v (.lst (fk "Broken"))) (.own (d4 10)) []=some true/\Gw .eq (.v (.lst (fk "TooBig"))) (.own (d4 10)) []=some false/\Gw .eq (.v (.lst (fk "TooBig"))) (.own (d4 9)) []=some false/\Gw .eq (.v (.lst (fk "TooBig"))) (.own (d4 6)) []=some true/\Gw .eq (.v (.lst (fk "NoSize"))) (.own (d4 10)) []=some false/\Gw .eq (.v (.lst (fk "NoSize"))) (.own (d4 9)) []=some false/\Gw .eq (.v (.lst (fk "NoSize"))) (.own (d4 6)) []=some false/\Gw .eq (.v (.lst (fk "NoSize"))) (.own (d4 0)) []=some true:=by decide +kernel
def wZ:Nat->Ss->Ss
 | 0,s=>s
 | n+1,.cons _ r=>wZ n r
 | _+1,.nil=> .nil
def vm (a:(w= .au/\call prog k "world_at" [.v th,.v sz,.v nb] []= .ok (.v v) [])\/ ∃ts,w= .tup ts/\call prog k "number_of" [.v th,.v w] []= .ok (.v v) []):call prog (k+1) "_law_asked" [.v th,.v sz,.v w,.v nb] []= .ok (.own [.str jV,v]) []:=by
 refine fx (by simp_all [];rfl) ?_
 refine fx (by simp_all [];rfl) ?_
 refine fx (Y1:= [y0 _,y0 _,y0 (.v w),y0 _,y0 _,y0 _,u0,u0]) (by rcases a with⟨rfl,a⟩ | ⟨ts,rfl,a⟩<;>(simp_all [Kq,a];try rfl)) ?_
 rw [jb (by rw [Zr (h1:= []) (by simp_all []),Xa];exact Jm rfl (by simp_all [];rfl))]
 exact Gu _ _ _ rfl
def Cc (e:D) (c:String):Prop:=e= .exc c []\/ ∃f d,e= .err c f d
def Fv (d:D) (n:Nat):Kp d n []= []:=by
 unfold Kp
 rw [List.take_nil,ite_self]
def l6 {k:Nat}{th sz w nb e:D}{c:String}{r:R W}(a:(w= .au/\call prog (k+1) "world_at" [.v th,.v sz,.v nb] []= .exc e [])\/ ∃ts,w= .tup ts/\call prog (k+1) "number_of" [.v th,.v w] []= .exc e []) (h:Cc e c) (j: ["WorldError"].any (GI prog.cl 8 c).contains=true)
 (g:GC 0 (execs (k8 (k+1)) (wZ 5 aN.body) [y0 (.v th),y0 (.v sz),y0 (.v w),y0 (.v nb),y0 (.v e),y0 (.v .au),u0,y0 (.v (.lst (fk c)))] [])=r):call prog (k+2) "_law_asked" [.v th,.v sz,.v w,.v nb] []=r:=by
 have b: ∀ts,bV prog.cl (.v e) ts=y0 (ts.any (GI prog.cl 8 c).contains):=λts=>by
  rcases h with rfl | ⟨f,d,rfl⟩<;>rfl
 have i:=Ek k e c b
 rw [Ga (d:=aN) rfl _ _ _ rfl,←g]
 simp only [aN,wZ]
 refine fx (by simp_all [];rfl) ?_
 refine fx (by simp_all [];rfl) ?_
 refine fx (Y1:= [y0 (.v th),y0 (.v sz),y0 (.v w),y0 (.v nb),y0 (.v e),y0 (.v .au),u0,u0]) (h1:= []) (by rcases a with⟨rfl,a⟩ | ⟨ts,rfl,a⟩<;>(simp_all [Kq,a,b,j,Fv];try rfl)) ?_
 rw [Za (by rcases h with rfl | ⟨f,d,rfl⟩<;>simp_all [])]
 exact fx (by simp_all [i]) rfl
def wE:(["WorldError"].any (GI prog.cl 8 "NoNumber").contains=true/\ ["WorldError"].any (GI prog.cl 8 "Broken").contains=true)/\ ["WorldError"].any (GI prog.cl 8 "TooBig").contains=true/\ ["WorldError"].any (GI prog.cl 8 "NoSize").contains=true:=by decide +kernel
section
variable (F:Fx) (Y:Sl)
def md:eval F xw Y []= .ok (.own (d4 10)) []:=zQ F 10 Y
def oe:eval F jx Y []= .ok (.own (d4 9)) []:=zQ F 9 Y
def rK:eval F wv Y []= .ok (.own (d4 6)) []:=zQ F 6 Y
def F3:eval F Jx Y []= .ok (.own (d4 0)) []:=zQ F 0 Y
end
def HL (c:call prog (k+1) "world_at" [.v th,.v sz,.v nb] []= .exc (.err "NoNumber" "number" nb) []):call prog (k+2) "_law_asked" [.v th,.v sz,.v .au,.v nb] []= .ok (.own [.str jC,nb]) []:=by
 obtain⟨a,b,_⟩:=mr
 refine l6 (.inl ⟨rfl,c⟩) (.inr ⟨_,_,rfl⟩) wE.1.1 ?_
 simp only [aN,wZ]
 rw [Za (by simp_all [md,a])]
 rw [jb (by rw [Zr (h1:= []) (by simp_all [oe,b]),Xa];exact Jm rfl (by simp_all [if_true];rfl))]
 exact Gu _ _ _ rfl
def Lr (b:call prog (k+1) "number_of" [.v th,.v (.tup ts)] []= .exc (.err "Broken" "number" d) []):call prog (k+2) "_law_asked" [.v th,.v sz,.v (.tup ts),.v nb] []= .ok (.own [.str X8,d]) []:=by
 obtain⟨_,_,a,_⟩:=mr
 refine l6 (.inr ⟨ts,rfl,b⟩) (.inr ⟨_,_,rfl⟩) wE.1.2 ?_
 simp only [aN,wZ]
 rw [jb (by rw [Zr (h1:= []) (by simp_all [md,a]),Xa];exact Jm rfl (by simp_all [if_true];rfl))]
 exact Gu _ _ _ rfl
def yn (b:(w= .au/\call prog (k+1) "world_at" [.v th,.v sz,.v nb] []= .exc (.err "TooBig" "bits" d) [])\/ ∃ts,w= .tup ts/\call prog (k+1) "number_of" [.v th,.v w] []= .exc (.err "TooBig" "bits" d) []):call prog (k+2) "_law_asked" [.v th,.v sz,.v w,.v nb] []= .ok (.own [.str vg,d]) []:=by
 obtain⟨_,_,_,c,e,a,_⟩:=mr
 refine l6 b (.inr ⟨_,_,rfl⟩) wE.2.1 ?_
 simp only [aN,wZ]
 rw [Za (by simp_all [md,c]),Za (by simp_all [oe,e])]
 rw [jb (by rw [Zr (h1:= []) (by simp_all [rK,a]),Xa];exact Jm rfl (by simp_all [if_true];rfl))]
 exact Gu _ _ _ rfl
def LS (b:call prog (k+1) "world_at" [.v th,.v sz,.v nb] []= .exc (.exc "NoSize" []) []):call prog (k+2) "_law_asked" [.v th,.v sz,.v .au,.v nb] []= .ok (.own [.str lW]) []:=by
 obtain⟨_,_,_,_,_,_,d,e,c,f⟩:=mr
 refine l6 (.inl ⟨rfl,b⟩) (.inl rfl) wE.2.2 ?_
 simp only [aN,wZ]
 have a:GW .mul (.own [.str lW]) (.v (.int 1)) []= .ok (.own [.str lW]) []:=by
  show(if _ then _ else _)=_
  rw [if_pos (by rw [Gi];decide)]
  rfl
 rw [Za (by simp_all [md,d]),Za (by simp_all [oe,e]),Za (by simp_all [rK,c])]
 rw [jb (Jm rfl (by simp_all [F3,a];first | rfl | exact a))]
 exact Gu _ _ _ rfl
def lL (xs) (a:Gd xs=k9) (c:GK xs<100):Gw .eq (.v (.lst xs)) (.own xs) []=y0 k9/\Gw .eq (.own xs) (.v (.lst xs)) []=y0 k9/\Gw .ne (.own xs) (.v (.lst xs)) []=y0 y9/\Gw .ne (.own xs) (.own xs) []=y0 false:=by
 have b:(W.v (.lst xs)).dd []= .lst xs:=congrArg D.lst (GH a)
 have a2:(W.own xs).dd []= .lst xs:=congrArg D.lst (GH a)
 have a3:GM (.lst xs) (.lst xs)=true:=by rw [GM,show Gc (.lst xs)=k9 from a,decide_eq_true (show GK xs+1<150 by lia)];rfl
 have a4:=GF a
 simp [b,a2,a3,a4,and_self]
def XO (k) (d) (h) (a:Gc d=k9):call prog (k+1) "_law_whole" [.v d] h= .ok (.v (.bl (Wt d))) h:=by
 cases d<;>first | exact Gb _ _ _ rfl | cases a
section
variable {n:Nat}{K T:List Tx}{ss:List Sy}(C:Ct n K T ss)
include C
def yH (e:c<nB n K T):call prog 59 "_law_world_right" [.v (.tup [wD K T,.tup (ss.map aK)]),.v (wX n K T c),.v (.lst ((dL n K T ss).map (wX n K T)))] []= .ok (.v (.bl true)) []:=by
 have b:=C.at e
 have a:=EL C b 57 (by decide)
 rw [Ga rfl _ _ _ rfl]
 simp only [Ql]
 obtain⟨m,p⟩:=nP n K T ss c
 refine fx (by simp_all [];rfl) ?_
 cases q:kc n K T ss c with
 | true=>
  obtain⟨s,j,r,h,o⟩:=Fp C 56 (by decide) e q
  have g:=vm (sz:= .int (n:Int)) (nb:= .int 0) (.inr ⟨_,rfl,r⟩)
  rw [m q]at a
  have l:=h 55
  have f:=XO 57 (.int (j:Int)) [] rfl
  have d:=(lL [.str jV,.int (j:Int)] rfl (by simp)).1
  refine fx (by simp_all [ah,xt,g];rfl) ?_
  refine fx (by simp_all [a];rfl) ?_
  rw [Za (by simp_all [])]
  rw [jb (zc rfl (by simp_all [lE,lD,l,o,W.lx,Option.isSome_some,if_true,d,Zk,f];rfl))]
  exact Gb _ _ _ rfl
 | false=>
  obtain⟨i,z⟩:=p q
  have g:=Lr (k:=56) (sz:= .int (n:Int)) (nb:= .int 0) (KU C 56 (by decide) e z)
  rw [z]at a
  have f:=XO 57 (.int (i:Int)) [] rfl
  have d:=(lL [.str X8,.int (i:Int)] rfl (by simp)).1
  refine fx (by simp_all [ah,xt,g];rfl) ?_
  refine fx (by simp_all [a];rfl) ?_
  rw [jb (h1:= []) (by
   rw [Zr (h1:= []) (by simp_all []),Xa]
   exact zc rfl (by simp_all [d,Zk,f];rfl))]
  exact Gb _ _ _ rfl
def Fd (c:Gc d=true) (j:dep d<50) (b:We d (((dL n K T ss).length:Nat):Int)=false) (h:d= .bl true\/d= .au\/ ∃i,d= .int i):call prog 59 "_law_number_right" [.v (.tup [wD K T,.tup (ss.map aK)]),.v (.int (n:Int)),.v d,.v (.lst ((dL n K T ss).map (wX n K T)))] []= .ok (.v (.bl true)) []:=by
 have g:=HL (D6 C 55 (by decide) d c b)
 have a:=XO 57 d [] c
 have e:=(lL [.str jC,d] (by show(_&&(_&&_))=k9;rw [c];rfl) (by simp [GK,dep];omega)).1
 rw [Ga rfl _ _ _ rfl]
 simp only [Jf]
 refine fx (by simp_all [g];rfl) ?_
 have t:Gs (k8 58) (.or (.not (.call "_law_whole" (.a .v2))) (.or (.cmp .lt .v2 (.int 0)) (.cmp .ge .v2 (.bi .len (.a .v3))))) [some (.v (.tup [wD K T,.tup (ss.map aK)])),some (.v (.int (n:Int))),some (.v d),some (.v (.lst ((dL n K T ss).map (wX n K T)))),some (.v (.lst [.str jC,d]))] []= .ok true []:=by
  rcases h with rfl | rfl | ⟨i,rfl⟩
  ·simp_all [a,Wt]
  ·simp_all [a,Wt]
  ·have b:(u9 ((0:Int)<=i)&&u9 (i<(((dL n K T ss).length:Nat):Int)))=false:=b
   by_cases z:i<0
   ·simp_all [a,Wt,xc,decide_eq_true z]
   ·rw [decide_eq_true (show 0<=i by omega),Ai2]at b
    have k:=of_decide_eq_false b
    simp_all [a,Wt,xc,decide_eq_false z,nV,zr,Aa,decide_eq_true (show (((dL n K T ss).length:Nat):Int)<=i by omega)]
 have f:Gw .eq _ (.v (.bl (Wt d))) []=y0 true:=L4 _ rfl (by simp) []
 rw [jb (by
  rw [Zr t,Xa]
  exact zc rfl (by simp_all [e,Zk,show aX [D.str jC,d] 1=y0 d from rfl,a,f];rfl))]
 exact Gb _ _ _ rfl
def HA (b:i<(dL n K T ss).length):call prog 59 "_law_number_right" [.v (.tup [wD K T,.tup (ss.map aK)]),.v (.int (n:Int)),.v (.int (i:Int)),.v (.lst ((dL n K T ss).map (wX n K T)))] []= .ok (.v (.bl true)) []:=by
 have e:=vm (.inl ⟨rfl,C6 C 55 (by decide) b⟩)
 have j:=XO 57 (.int i) [] rfl
 have f:aX ((dL n K T ss).map (wX n K T)) i=y0 (wX n K T ((dL n K T ss).getD i 0)):=by
  rw [Xh _ _ (by rw [Aa];exact b),Ac4,Ab5,Aa4 b];rfl
 have d:(dL n K T ss).getD i 0∈dL n K T ss:=by rw [Ab5,Aa4 b];exact Aj6 b
 generalize (dL n K T ss).getD i 0=c at e f d
 have a:=C.at (uM C (Ae.mp d).1).1
 have k:=a.wl.k4
 have g:=a.wl.t4
 have h:call prog 58 "_law_alike" [.v _,.v (wX n K T c)] []= .ok _ []:=Bc 56 n _ _ (by omega) (by omega) []
 rw [Ga rfl _ _ _ rfl]
 simp only [Jf]
 refine fx (by simp_all [e];rfl) ?_
 rw [Za (by simp_all [j,Wt,xc,decide_eq_false (show ¬(i:Int)<0 by omega),nV,zr,Aa,decide_eq_false (show ¬(((dL n K T ss).length:Nat))<=(i:Int)by omega)])]
 rw [jb (zc rfl (by simp_all [Zk,show aX [D.str jV,wX n K T c] 0=y0 (.str jV)from rfl,show aX [D.str jV,wX n K T c] 1=y0 (wX n K T c)from rfl,xv,beq_self_eq_true,f,h];rfl))]
 exact Gb _ _ _ rfl
def oT (b:d= .bl true\/d= .au\/ ∃i,d= .int i):call prog 59 "_law_number_right" [.v (.tup [wD K T,.tup (ss.map aK)]),.v (.int (n:Int)),.v d,.v (.lst ((dL n K T ss).map (wX n K T)))] []= .ok (.v (.bl true)) []:=by
 have c:Gc d=k9/\dep d<50:=by rcases b with rfl | rfl | ⟨i,rfl⟩<;>exact⟨rfl,by simp⟩
 cases a:We d (_)with
 | false=>exact Fd C c.1 c.2 a b
 | true=>
  obtain rfl | rfl | ⟨i,rfl⟩:=b
  ·cases a
  ·cases a
  ·have a:(decide _&&decide _)=true:=a
   rw [Aa6,decide_eq_true_eq,decide_eq_true_eq]at a
   obtain⟨j,rfl⟩:=Ah5 a.1
   exact HA C (by omega)
end
def rJ:List (Nat×Nat×Nat):= [(0,1,2),(1,0,3),(1,1,1),(2,0,2),(2,3,1),(1,1,2),(0,0,3),(1,0,2)]
abbrev Eu (p:Nat×Nat×Nat):D:= .tup [.int (p.1:Int),.int (p.2.1:Int),.int (p.2.2:Int)]
def uT (p:Nat×Nat×Nat):Bool:=u9 (p.1<=4)&&u9 (p.2.1<=4)&&u9 (p.2.2<=4)&&u9 (p.1*p.2.2+p.2.1*p.2.2*p.2.2<=9)
def Ft:rJ.all uT=true:=by decide +kernel
def HG:Gp .pow 10 20=y0 (10 ^ 20):=by
 have:(0:Int)<=20/\ 20<=BP/\(10:Int).natAbs<iM:=by rw [GV,GB];decide
 show(if _ then _ else _)=_
 rw [if_pos this];rfl
def HY {K T n:Nat}(c:K<=4) (b:T<=4) (a:n<=4):Gp .mul (K:Int) (n:Int)=y0 ((K*n:Nat):Int)/\Gp .mul (T:Int) (n:Int)=y0 ((T*n:Nat):Int)/\Gp .mul ((T*n:Nat):Int) (n:Int)=y0 ((T*n*n:Nat):Int)/\((K*n:Nat):Int)+((T*n*n:Nat):Int)=((K*n+T*n*n:Nat):Int):=by
 have d:=Ad3 b a
 exact⟨wc K n (by lia),wc T n (by lia),wc _ n (by lia),rfl⟩
def E9 (u:Nat) (h): ∃a:Nat,cm .min [.v (.int (u:Int)),.v (.int 2)] h=aT (.int (a:Int)) h:=by
 show ∃a:Nat,aT _ h=_
 by_cases c: 2<(u:Int)
 ·exact⟨2,by rw [if_pos c];rfl⟩
 ·exact⟨u,by rw [if_neg c]⟩
noncomputable abbrev lw (a:List Int) (c:Int) (s:D) (K T n:Nat) (w:D) (u:Nat):Sl:= [y0 (.v (.lst (a.map .int))),y0 (.v (.int c)),y0 (.v s),y0 (.v (.int (K:Int))),y0 (.v (.int (T:Int))),y0 (.v (.int (n:Int))),y0 (.v w),y0 (.v (.int (u:Int))),u0,u0,u0,u0,u0,u0,u0,u0,u0]
def fE (l:List Int) (hl:l.length<=63): ∃h',call prog 60 "law" [.v (.lst (l.map .int))] []= .ok (.v (.bl true)) h':=by
 refine⟨[],?_⟩
 have w: ∀(i:Nat) (j:Int),j=(i:Int)->call prog 59 "_law_nth" [.v _,.v _] []= .ok _ []:=fun i j e=>by rw [e];exact p9 58 l i []
 have n0:=w 0 0 rfl
 have P:=w 1 1 rfl
 have n2:=w 2 2 rfl
 have n3:=w 3 3 rfl
 have n4:=w 4 4 rfl
 have n5:=w 5 5 rfl
 have n6:=w 6 6 rfl
 generalize l.getD 0 0=v0 at n0
 generalize l.getD 1 0=v1 at P
 generalize l.getD 2 0=v2 at n2
 generalize l.getD 3 0=v3 at n3
 generalize l.getD 4 0=v4 at n4
 generalize l.getD 5 0=v5 at n5
 generalize l.getD 6 0=v6 at n6
 have f2:=JA v0 2 (by decide) (by decide)
 generalize v0 / 2=v at f2
 have m8:=Qo v 8 (by decide)
 obtain⟨d,hd,G⟩:=WM (xs:=rJ.map Eu) v (by decide)
 obtain⟨⟨K,T,n⟩,hp,rfl⟩:=Ac1.mp hd
 have ok:=Ad8.mp Ft _ hp
 simp only [uT,Aa6,decide_eq_true_eq]at ok
 obtain⟨⟨⟨Q,V⟩,hn⟩,hb⟩:=ok
 have G:aX [D.tup [.int 0,.int 1,.int 2],.tup [.int 1,.int 0,.int 3],.tup [.int 1,.int 1,.int 1],.tup [.int 2,.int 0,.int 2],.tup [.int 2,.int 3,.int 1],.tup [.int 1,.int 1,.int 2],.tup [.int 0,.int 0,.int 3],.tup [.int 1,.int 0,.int 2]] (v % 8)=y0 (.tup [.int (K:Int),.int (T:Int),.int (n:Int)]):=G
 obtain⟨f,g,X,S,nd,en⟩:=vZ 58 K T Q V []
 have f8:=JA v 8 (by decide) (by decide)
 have m4:=Qo (v / 8) 4 (by decide)
 obtain⟨u,hu,eu⟩:=Zf (v / 8) 4 (by decide)
 rw [show v / 8 % 4=(u:Int)from eu]at m4
 obtain⟨k1,k2,k3,k4⟩:=HY Q V hn
 rw [Ga (d:=pA) rfl _ _ _ rfl]
 refine Eq.trans (congrArg (GC 0) (?_:_=O.ret (.v (.bl k9)) [])) (Gb _ [] [] rfl)
 simp only [pA]
 refine Eq.trans (za (by simp_all [n0,f2];rfl)) ?_
 refine Eq.trans (za (by simp_all [];rfl)) ?_
 refine Eq.trans (za (by simp_all [m8,Zk,G];rfl)) ?_
 refine Eq.trans (za (by simp_all [en];rfl)) ?_
 refine Eq.trans (za (by simp_all [f8,m4];rfl)) ?_
 obtain⟨E,e1⟩: ∃E:Nat,∀s,exec (k8 59) (.iff (.cmp .gt (.bin .add (.bin .mul .v3 .v5) (.bin .mul (.bin .mul .v4 .v5) .v5)) (.int 5)) (.a (.ak 7 (.bi .min (.b .v7 (.int 2))))) .nil) (lw l v s K T n (wD f g) u) []= .next (lw l v s K T n (wD f g) E) []:=by
  cases z:u9 ((5:Int)<((K*n+T*n*n:Nat):Int))with
  | true=>
   obtain⟨E,em⟩:=E9 u []
   exact⟨E,λs=>by rw [Zr (h1:= []) (by simp_all [k1,k2,k3,Zc,k4,Jt,z]),Xa];simp_all [em];try rfl⟩
  | false=>exact⟨u,λs=>by rw [wY (h1:= []) (by simp_all [k1,k2,k3,Zc,k4,Jt,z])];rfl⟩
 refine Eq.trans (za (e1 _)) ?_
 obtain⟨p,sl,sw,ey⟩:=Ir 55 l hl f g (by rw [Ab2];omega) 7 E
 have ey:call prog 59 "_law_sayings" [.v (.lst (l.map .int)),.v (wD f g),.v (.int 7),.v (.int (E:Int))] []= .ok (.v (.tup (p.map aK))) []:=ey
 have C:Ct n f g p:=⟨hn,by omega,by omega,nd,sw,sl,by rw [X,S];exact hb⟩
 have ek:=HU C 58 (by decide)
 have kl:=sN C
 have dl:=sZ C
 refine Eq.trans (za (by simp_all [ey];rfl)) ?_
 have G: ∀Y:Sl,Gj Y 5=y0 (.v (.int (n:Int)))->Gj Y 6=y0 (.v (wD f g))->Gj Y 8=y0 (.v (.tup [wD f g,.tup (p.map aK)]))->eval (k8 59) Q3 Y []= .ok (.own ((dL n f g p).map (wX n f g))) []:=λY h5 h6 h8=>by
  unfold Q3
  have i1:aX [wD f g,D.tup (p.map aK)] 1=y0 (.tup (p.map aK)):=rfl
  refine su (wX n f g) (bR n f.length g.length) _ (WS (by simp_all [h5,h6,h8,ah,i1,ek])) (by omega) λc hc=> ?_
  obtain⟨q,_⟩:=uM C hc
  obtain⟨c',q1,q2,q3,q4,q5⟩:=DL C q 56 []
  have q6:=E7 C q1 q []
  rw [show u9 (c'=c)=bR n f.length g.length c by
   cases z:bR n f.length g.length c with
   | true=>exact decide_eq_true (q4.mp z)
   | false=>exact decide_eq_false λe=>by rw [q4.mpr e]at z;cases z]at q6
  exact⟨by simp_all [q5,q6],by simp_all []⟩
 refine Eq.trans (za (se (G _ rfl rfl rfl) rfl)) ?_
 have hw: ∀x:Int,∃c,c<nB n f g/\call prog 59 "_law_world" [.v (.int (n:Int)),.v (.int (K:Int)),.v (.int (T:Int)),.v (.int x)] []= .ok (.v (wX n f g c)) []:=fun x=>by
  obtain⟨c,q,h2⟩:=Zf x (2 ^ (K*n+T*n*n)) (Ah3 (by decide))
  refine⟨c,by rw [nB,X,S];exact q,?_⟩
  have e:=JM 58 n K T c x [] hn Q V h2
  rw [wX,X,S]
  exact e
 obtain⟨c2,W,w2⟩:=hw v2
 obtain⟨c3,U,w3⟩:=hw v3
 have r2:=yH C W
 have r3:=yH C U
 refine Eq.trans (za (by
  rw [exec,(show ∀Y:Sl,Gj Y 0=y0 (.v (.lst (l.map .int)))->Gr (k8 59) (.seq (.lst (.b (.call "_law_nth" (.b .v0 (.int 2))) (.call "_law_nth" (.b .v0 (.int 3)))))) Y []= .ok [.int v2,.int v3] []from fun Y N=>by simp_all [N,n2,n3]) _ rfl,R.ay]
  rw [qa rfl (by simp only [WY];rw [Za (by simp_all [w2,r2])];rfl),qa rfl (by simp only [WY];rw [Za (by simp_all [w3,r3])];rfl),jG])) ?_
 have f6:=JA v1 6 (by decide) (by decide)
 have I:=Qo (v1 / 6) (10 ^ 20) (by decide)
 have nn:(0:Int)<=v1 / 6 % 10 ^ 20:=Int.emod_nonneg _ (by decide)
 generalize v1 / 6 % 10 ^ 20=m at I nn
 refine Eq.trans (za (by simp_all [P,f6,HG,I];rfl)) ?_
 have m6:=Qo v1 6 (by decide)
 generalize hL:(dL n f g p).length=L at dl
 have eL: ∀h,cm .len [.v (.lst ((dL n f g p).map (wX n f g)))] h=aT (.int (L:Int)) h:=λh=>by rw [zr,Aa,hL]
 obtain⟨o,M,r⟩:=WM (xs:= [D.int (-1),.int (L:Int),.int ((L:Int)+m),.int (-1-m),.bl k9,.au]) v1 (by simp)
 have r:aX [D.int (-1),.int (L:Int),.int ((L:Int)+m),.int (-1-m),.bl k9,.au] (v1 % 6)=y0 o:=r
 have hoi:o= .bl k9\/o= .au\/ ∃i,o= .int i:=by
  simp only [Ab9,Ad5,or_false]at M
  rcases M with rfl | rfl | rfl | rfl | rfl | rfl
  ·exact .inr (.inr ⟨_,rfl⟩)
  ·exact .inr (.inr ⟨_,rfl⟩)
  ·exact .inr (.inr ⟨_,rfl⟩)
  ·exact .inr (.inr ⟨_,rfl⟩)
  ·exact .inl rfl
  ·exact .inr (.inl rfl)
 refine Eq.trans (za (by simp_all [P,m6,eL,Zc,Wm,int?_int,Xt,r];rfl)) ?_
 have mL:=Qo v4 ((L:Int)+1) (by omega)
 have q1:=oT C hoi
 have q2:=oT C (d:= .int (v4 % ((L:Int)+1))) (.inr (.inr ⟨_,rfl⟩))
 have q3:=oT C (d:= .int ((L:Int)-1)) (.inr (.inr ⟨_,rfl⟩))
 refine Eq.trans (za (by
  rw [exec,(show ∀Y:Sl,Gj Y 0=y0 (.v (.lst (l.map .int)))->Gj Y 11=y0 (.v o)->Gj Y 9=y0 (.v (.lst ((dL n f g p).map (wX n f g))))->Gr (k8 59) (.seq (.lst (.c (.var 11) (.bin .mod (.call "_law_nth" (.b .v0 (.int 4))) (.bin .add (.bi .len (.a .v9)) (.int 1))) (.bin .sub (.bi .len (.a .v9)) (.int 1))))) Y []= .ok [o,.int (v4 % ((L:Int)+1)),.int ((L:Int)-1)] []from fun Y N q h9=>by simp_all [N,q,h9,n4,eL,Zc,Wm,mL]) _ rfl rfl rfl,R.ay]
  rw [qa rfl (by simp only [wQ];rw [Za (by simp_all [q1])];rfl),qa rfl (by simp only [wQ];rw [Za (by simp_all [q2])];rfl),qa rfl (by simp only [wQ];rw [Za (by simp_all [q3])];rfl),jG])) ?_
 have m5:=Qo v5 5 (by decide)
 obtain⟨a,ha,ea⟩:=Zf v5 5 (by decide)
 rw [show v5 % 5=(a:Int)from ea]at m5
 have f5:=JA v5 5 (by decide) (by decide)
 have J:=Qo (v5 / 5) 4 (by decide)
 obtain⟨b,hb4,eb⟩:=Zf (v5 / 5) 4 (by decide)
 rw [show v5 / 5 % 4=(b:Int)from eb]at J
 have Z:(1:Int)+(b:Int)=((1+b:Nat):Int):=rfl
 obtain⟨A,B,lA,lB,_,en2⟩:=vZ 58 a (1+b) (by omega) (by omega) []
 refine Eq.trans (za (by simp_all [n5,m5,f5,J,Zc,Z,en2];rfl)) ?_
 have jA: ∀h,cm .len [.v (cJ A)] h=aT (.int (a:Int)) h:=λh=>by rw [Jh,Aa,lA]
 have jB: ∀h,cm .len [.v (cJ B)] h=aT (.int ((1+b:Nat):Int)) h:=λh=>by rw [Jh,Aa,lB]
 have i0:aX [cJ A,cJ B] 0=y0 (cJ A):=rfl
 have i1:aX [cJ A,cJ B] 1=y0 (cJ B):=rfl
 obtain⟨y,_,hy⟩:=Zf v6 (2 ^ (a*4+(1+b)*4*4)) (Ah3 (by decide))
 have ew:call prog 59 "_law_world" [.v (.int 4),.v (.int (a:Int)),.v (.int ((1+b:Nat):Int)),.v (.int v6)] []= .ok (.v (Qc 4 (cC 4 a (1+b) y) (cE 4 a (1+b) y))) []:=JM 58 4 a (1+b) y v6 [] (by decide) (by omega) (by omega) hy
 refine Eq.trans (za (by simp_all [ah,i0,i1,jA,jB,n6,ew];rfl)) ?_
 have j1:Gp .mul (a:Int) 4=y0 ((a*4:Nat):Int):=wc a 4 (by omega)
 have j2:Gp .mul ((1+b:Nat):Int) 16=y0 (((1+b)*16:Nat):Int):=wc (1+b) 16 (by omega)
 have j3:((a*4:Nat):Int)+(((1+b)*16:Nat):Int)=((a*4+(1+b)*16:Nat):Int):=rfl
 refine Eq.trans (za (by simp_all [ah,i0,i1,jA,jB,j1,j2,Zc,j3];rfl)) ?_
 have cb: ∀k,call prog (k+5) "check_bits" [.v (wD A B),.v (.int 4),.v (.int 9)] []= .exc (.err "TooBig" "bits" (.int ((a*4+(1+b)*16:Nat):Int))) []:=fun k=>by
  have z:=l9 k 4 A B [] (by decide) (by omega) (by omega)
  rw [lA,lB,if_neg (by omega),show a*4+(1+b)*4*4=a*4+(1+b)*16 by omega]at z
  exact z
 have ab:=yn (k:=57) (th:= .tup [wD A B,.tup [.tup [.str lK,.tup [.str lb]]]]) (sz:= .int 4) (nb:= .int 0) (.inr ⟨_,rfl,Iu 57 4 (wD A B) (.tup [.tup [.str lK,.tup [.str lb]]]) _ (cC 4 a (1+b) y) (cE 4 a (1+b) y) (cb 52)⟩)
 obtain⟨_,z2,z3,_⟩:=lL [.str vg,.int ((a*4+(1+b)*16:Nat):Int)] rfl (by simp)
 rw [Za (by simp_all [ab,z3])]
 have f20:=JA v5 20 (by decide) (by decide)
 have F:=Qo (v5 / 20) 6 (by decide)
 obtain⟨sz,H,t⟩:=WM (xs:= [D.int (-1),.int 5,.bl k9,.au,.str [50],.int (5+m)]) (v5 / 20) (by simp)
 have t:aX [D.int (-1),.int 5,.bl k9,.au,.str [50],.int (5+m)] (v5 / 20 % 6)=y0 sz:=t
 have dn:Gc sz=k9/\We sz 5=false:=by
  simp only [Ab9,Ad5,or_false]at H
  rcases H with rfl | rfl | rfl | rfl | rfl | rfl
  ·exact⟨rfl,rfl⟩
  ·exact⟨rfl,rfl⟩
  ·exact⟨rfl,rfl⟩
  ·exact⟨rfl,rfl⟩
  ·exact⟨rfl,rfl⟩
  ·refine⟨rfl,?_⟩
   show(u9 ((0:Int)<=5+m)&&u9 (5+m<5))=y9
   rw [decide_eq_false (show ¬(5+m<5)by omega),Bool.and_false]
 refine Eq.trans (za (by simp_all [n5,f20,F,Zc,int?_int,Xt,t];rfl)) ?_
 have as:=LS (k:=57) (tQ 56 (wD A B) (.tup []) sz o _ (Hi 51 (wD A B) sz [] dn.1 dn.2))
 have z5:=(lL [.str lW] rfl (by simp)).2.2.2
 rw [Za (by simp_all [as,z5])]
 have ac:=yn (k:=57) (nb:=o) (.inl ⟨rfl,tQ 56 (wD A B) (.tup []) (.int 4) o _ (cb 51)⟩)
 exact jb (zc rfl (by simp_all [ac,z2]))
end M
namespace L2.MS
open PySem PyProof.Rows
noncomputable def og:List String:= ["is_whole", "is_below", "pairs_of", "gathered", "common", "either", "without", "turned", "joined", "closed", "same", "every", "is_size", "widths", "bits", "check_size", "check_bits", "code", "world_of", "longer_by_one", "renamings", "is_renaming", "renamed_kind", "renamed_tie", "renamed", "codes_alike", "form", "value_of_name", "made", "value", "counts", "keeps_count", "keeps", "first_broken", "all_forms", "unlike", "world_at", "number_of", "_law_nth", "_law_whole", "_law_marks", "_law_orders", "_law_world", "_law_led", "_law_alike", "_law_names", "_law_atom", "_law_fact", "_law_put", "_law_op", "_law_spread", "_law_saying", "_law_sayings", "_law_keep", "_law_least", "_law_keepers", "_law_classes", "_law_asked", "_law_broken", "_law_world_right", "_law_number_right", "law"]
noncomputable def pb:List String:= ["WorldError", "NoSize", "NoPair", "NoName", "NoCode", "NoText", "Crowded", "TooBig", "NoWorld", "NoRenaming", "NoNumber", "Broken", "Kept", "Unlike", "NoRow", "NoStand"]
def oR:List String:= ["NoSize", "NoCode", "NoRenaming"]
def pG:List String:= ["WorldError"]
def Dp:fV:=⟨[],[],[],[],[("TooBig", "bits"),("NoNumber", "number"),("Broken", "number")]⟩
noncomputable def HQ:List (String×List String):= [("law",["_law_script", "_law_cell", "_law_some", "_law_kinds", "_law_ties", "_law_size", "_law_words", "_law_upto", "_law_theory", "_law_due", "_law_far", "_law_odd", "_law_number_here", "_law_big", "_law_world_here", "_law_many", "_law_none"])]
end L2.MS
namespace PySem.W.Fast
def tw6250492274667920692:=Nat
def tw8693663805683993124:=Nat
def tw17433493355480068248:=Nat
def tw5933559381656499951:=Nat
def tw15733478641874494574:=Nat
def tw5026302525033866028:=Nat
def tw4873704784153778583:=Nat
def tw18118613649762124720:=Nat
def tw9056450582049998649:=Nat
def tw12142719187426518949:=Nat
def tw6142088589916670244:=Nat
def tw7205047268866196695:=Nat
def tw1134549632236192380:=Nat
def tw15192377106968517413:=Nat
def tw18304519387949945491:=Nat
def tw10586614530242519499:=Nat
def tw12657247165604383557:=Nat
def tw9186498607722581685:=Nat
def tw281629499442465617:=Nat
def tw16247032850133286233:=Nat
def tw3406395928523194366:=Nat
def tw5758802910328555253:=Nat
def tw9564291389533520391:=Nat
def tw12646441934187592003:=Nat
def tw12965043313397128382:=Nat
def tw9122444917247696406:=Nat
def tw13922092325629788685:=Nat
def tw1304837327368373483:=Nat
def tw8202880560698160211:=Nat
def tw4053223685997884970:=Nat
def tw3357352519247874212:=Nat
def tw13970583650074958532:=Nat
def tw3450858727388649932:=Nat
def tw17551700211217506285:=Nat
def tw11859912482986629983:=Nat
def tw8326161686217494328:=Nat
def tw7069184460744275764:=Nat
def tw6460871136492344089:=Nat
def tw5079184269799156823:=Nat
def tw16776123467238282989:=Nat
def tw14636945649071644952:=Nat
def tw1314671141794973612:=Nat
def tw10765360417505535829:=Nat
def tw896917271373465177:=Nat
def tw3644502870104440445:=Nat
def tw10824333861931068460:=Nat
def tw10266869407710223904:=Nat
def tw6134386266950213449:=Nat
def tw4979173751353268796:=Nat
def tw14876889799938243729:=Nat
def tw214783975684059584:=Nat
def tw4432387003961969143:=Nat
def tw7747509512103769496:=Nat
def tw10496836261765633563:=Nat
def tw11672511693115410541:=Nat
def tw13851221289903966383:=Nat
def tw12844080107220300877:=Nat
def tw8677139108426161188:=Nat
def tw10610695468716663011:=Nat
def tw17464698314095491703:=Nat
def tw9134175790081269362:=Nat
def tw848903138438434866:=Nat
def tw7596341408550223941:=Nat
def tw5902767045843811530:=Nat
def tw4507625229428591763:=Nat
def tw173527338389920043:=Nat
def tw17216006453670625875:=Nat
def tw12160453929832542469:=Nat
def tw13341337157422448944:=Nat
def tw1681502455573030303:=Nat
def tw2788722640414682581:=Nat
def tw6929612683911917703:=Nat
def tw11844789287687572041:=Nat
def tw4957236081690467343:=Nat
def tw3602810947673570642:=Nat
def tw6429444558658111605:=Nat
def tw2418637693291130067:=Nat
def tw12901306783376182130:=Nat
def tw17194293627349788534:=Nat
def tw6296986805986639918:=Nat
def tw14901371227583234423:=Nat
def tw14099485425161794394:=Nat
def tw12810692171942212690:=Nat
def tw6653028853705344176:=Nat
def tw12645751426985952416:=Nat
def tw8066120245629325644:=Nat
def tw17679553792114235028:=Nat
def tw8839323949758699484:=Nat
def tw474672973988240248:=Nat
def tw17456478195063438791:=Nat
def tw8505342660734415116:=Nat
def tw8173487426327117483:=Nat
def tw5273594813692511654:=Nat
def tw5022151067581120261:=Nat
def tw4688708845802306184:=Nat
def tw6533705408352309698:=Nat
def tw15132454545560902385:=Nat
def tw11820595339423078540:=Nat
def tw10944446320143110291:=Nat
def tw8565771406267290762:=Nat
def tw6683519955099875762:=Nat
def tw3255701709303587356:=Nat
def tw18371320662513933782:=Nat
def tw11961076142079248623:=Nat
def tw17215587715786960091:=Nat
def tw17104500466757632226:=Nat
def tw8826964362204802356:=Nat
def tw17343703780410774526:=Nat
def tw6095502050172209160:=Nat
def tw629946465895329663:=Nat
def tw16489123294736919358:=Nat
def tw7808532293916840408:=Nat
def tw959354952250196646:=Nat
def tw12684137877577913322:=Nat
def tw18046976409306170378:=Nat
def tw5490642029137251640:=Nat
def tw16309747870003100003:=Nat
def tw1699518519757261128:=Nat
def tw17078760401935365178:=Nat
def tw15755087136813506002:=Nat
def tw2746558467344609760:=Nat
def tw10865786992272935254:=Nat
def tw4622630162374720243:=Nat
def tw13044506841407541967:=Nat
def tw382639769847192430:=Nat
def tw12089607345510380388:=Nat
def tw6748907851372132781:=Nat
def tw14233268743107733947:=Nat
def tw7421912913215212515:=Nat
def tw17551466111756500856:=Nat
def tw15159927729648011248:=Nat
def tw12492289973657943034:=Nat
def tw9028074112563753352:=Nat
def tw16589016128441727295:=Nat
def tw15073969017261811603:=Nat
def tw11606639046595954850:=Nat
def tw10851884670722445355:=Nat
def tw5880860797810658849:=Nat
def tw4201801598517918951:=Nat
def tw16858979574936953371:=Nat
def tw13470905612956124647:=Nat
def tw13084339581428014444:=Nat
def tw12100649992138434055:=Nat
def tw1205319969773591194:=Nat
def tw1857426445686721614:=Nat
def tw9318247855101568597:=Nat
def tw15288576039059360777:=Nat
def tw11151217147903858123:=Nat
def tw129330448207960191:=Nat
def tw9145224028471245518:=Nat
def tw11748896206466840452:=Nat
def tw3304269750251518124:=Nat
def tw10074982089860128305:=Nat
def tw7260696671364790393:=Nat
def tw1709393151824807571:=Nat
def tw15423527299234829840:=Nat
def tw13218118658633906943:=Nat
def tw6210947675632958471:=Nat
def tw3967878929355030892:=Nat
def tw3155783701429413969:=Nat
def tw15575530185961547524:=Nat
def tw12280180805180948739:=Nat
def tw10425425857792186617:=Nat
def tw14304134913257540532:=Nat
def tw6905846955467467698:=Nat
def tw14096041741796744676:=Nat
def tw8794435260648742232:=Nat
def tw8006388098788685179:=Nat
def tw7782537402986885877:=Nat
def tw6183774349913640434:=Nat
def tw9588510135049598573:=Nat
def tw729269321581350421:=Nat
def tw17399228893162959969:=Nat
def tw14774599694043024158:=Nat
def tw11410821847602910989:=Nat
def tw10266704907797039092:=Nat
def tw6504892903196999409:=Nat
def tw2347984631451296958:=Nat
def tw1745215163742489290:=Nat
def tw16318913640041049281:=Nat
def tw11494547398049068396:=Nat
def tw3094535173940406946:=Nat
def tw16271471974334164603:=Nat
def tw2682519085290412609:=Nat
def tw16777136447562334809:=Nat
def tw8035168854344855561:=Nat
def tw2744615082548045366:=Nat
def tw3338495827180849691:=Nat
def tw3225784553583543822:=Nat
def tw8240688144277695217:=Nat
def tw16349473564476525812:=Nat
def tw16407230884481361470:=Nat
def tw7504543803608614147:=Nat
def tw13504235224455102338:=Nat
def tw7562280066447938110:=Nat
def tw5834466724716107806:=Nat
def tw13686833594246988287:=Nat
def tw1235876233376405283:=Nat
def tw4947578761729284439:=Nat
def tw1534251060437977394:=Nat
def tw6213647162735898225:=Nat
def tw11479456428722604110:=Nat
def tw14311256752866688403:=Nat
def tw11753206785404412047:=Nat
def tw9247474966381441271:=Nat
def tw4229638299033280332:=Nat
def tw3075253558680199188:=Nat
def tw14800414731362449118:=Nat
def tw15045061585451698732:=Nat
def tw13069391261503317484:=Nat
def tw2875842533437173669:=Nat
def tw17171877222004829099:=Nat
def tw7201499348838708977:=Nat
def tw6189751770324044475:=Nat
def tw9002651935161689626:=Nat
def tw17435603333026370953:=Nat
def tw7309232318668554178:=Nat
def tw2409254858777249431:=Nat
def tw16555343028567759633:=Nat
def tw8193909641805280922:=Nat
def tw1785357777231890005:=Nat
def tw6319358593441738228:=Nat
def tw17233155410363769632:=Nat
def tw3257958710206817298:=Nat
def tw15353971448512195210:=Nat
def tw16047116877100784510:=Nat
def tw11056742450227038501:=Nat
def tw16170831295203683354:=Nat
def tw8349073290918453484:=Nat
def tw8151424172248635180:=Nat
def tw7862633644047088623:=Nat
def tw6351173245894046166:=Nat
def tw593780913153542260:=Nat
def tw3561801130952991242:=Nat
def tw2033665015922033698:=Nat
def tw187199217257677527:=Nat
def tw14497663652887505509:=Nat
def tw14370489600118383993:=Nat
def tw13951571978636149297:=Nat
def tw13260717440319966979:=Nat
def tw13063924881600601561:=Nat
def tw12287967634709979805:=Nat
def tw11903326626386537782:=Nat
def tw11479486202259214933:=Nat
def tw11122202036445297491:=Nat
def tw18179359791035626775:=Nat
def tw6903720566550269646:=Nat
def tw3754752596310417772:=Nat
def tw12816300250893167961:=Nat
def tw6163641338431602150:=Nat
def tw12611748898641133313:=Nat
def tw7175081267587252444:=Nat
def tw4132214438127997962:=Nat
def tw3577920606436068470:=Nat
def tw12625102868136078882:=Nat
def tw13718224661020460620:=Nat
def tw9531284401092301151:=Nat
def tw4388148631963749687:=Nat
def tw4309502921957687451:=Nat
def tw6600136356752982209:=Nat
def tw3748360390774953099:=Nat
def tw13380879778910732622:=Nat
def tw4444119494109548424:=Nat
def tw13592511385049461475:=Nat
def tw14182797364424892536:=Nat
def tw6435566333164879885:=Nat
def tw3937190892746778467:=Nat
def tw12240929180647731185:=Nat
def tw14322896767313884650:=Nat
def tw10307067718794147331:=Nat
def tw10202034481758054136:=Nat
def tw13385499489114838022:=Nat
def tw9458784976360765260:=Nat
def tw9341867548983096807:=Nat
def tw9110823649196442957:=Nat
def tw8658076482702752365:=Nat
def tw8276527333496040783:=Nat
def tw5690859471918192423:=Nat
def tw5520541133984381211:=Nat
def tw2771487206166901093:=Nat
def tw2307109908968785293:=Nat
def tw17914336321319580252:=Nat
def tw17361477679576578043:=Nat
def tw17138703486571319197:=Nat
def tw1713817470847894168:=Nat
def tw14501902235827710221:=Nat
def tw12888644947049951599:=Nat
def tw12423458461299021923:=Nat
def tw11380065049735792263:=Nat
def tw9342656115877877458:=Nat
def tw9130374608668101969:=Nat
def tw9089554688055785019:=Nat
def tw5928823392848143746:=Nat
def tw5900871219173021489:=Nat
def tw3376413912887247628:=Nat
def tw3060657727671318731:=Nat
def tw2964987049867432115:=Nat
def tw2962202804958487545:=Nat
def tw18279317766776966977:=Nat
def tw17618778365993727963:=Nat
def tw16076085617235570606:=Nat
def tw15972592519952961109:=Nat
def tw15737612976291727138:=Nat
def tw13594210008937275616:=Nat
def tw13146251754844425869:=Nat
def tw9522014794276078969:=Nat
def tw782545543037507198:=Nat
def tw7698817717049396943:=Nat
def tw6870703339965248155:=Nat
def tw618031610297780592:=Nat
def tw57700588479199330:=Nat
def tw4422978971695468075:=Nat
def tw1653779631235903476:=Nat
def tw14383769819927049114:=Nat
def tw14132956664109959418:=Nat
def tw13820290237174298977:=Nat
def tw13556819425333719565:=Nat
def tw13398920452918015556:=Nat
def tw13282629479739917577:=Nat
def tw10272401263363561013:=Nat
def tw10009374164515943125:=Nat
def tw967080439242028244:=Nat
def tw9505060543411984559:=Nat
def tw7098774031826045054:=Nat
def tw4292457798509485879:=Nat
def tw4250930157215462612:=Nat
def tw3697831953958505292:=Nat
def tw17832679739491498339:=Nat
def tw15914523828676627677:=Nat
def tw1578320091587019638:=Nat
def tw13963122256598892319:=Nat
def tw13555251390793206503:=Nat
def tw13249517804350001237:=Nat
def tw12659096078828361811:=Nat
def tw11299893604979141885:=Nat
def tw10766493689219123903:=Nat
def tw10585779405640810876:=Nat
def tw9797745007602675287:=Nat
def tw9723179094652841555:=Nat
def tw9571173715771151268:=Nat
def tw9544033895300707859:=Nat
def tw9410595295295364425:=Nat
def tw9089905754008586986:=Nat
def tw8961960418830427751:=Nat
def tw8918493340745361222:=Nat
def tw8817947449761587148:=Nat
def tw868142043484994976:=Nat
def tw8629451058912383234:=Nat
def tw8557901744717970769:=Nat
def tw8468778196016398842:=Nat
def tw8413082781062362873:=Nat
def tw8357829160762120708:=Nat
def tw8345600365338810441:=Nat
def tw7975991019908863028:=Nat
def tw7859823372943295389:=Nat
def tw7559899552678742402:=Nat
def tw7098780131231565409:=Nat
def tw6854038791723358623:=Nat
def tw6758990746022156972:=Nat
def tw6700733273258259892:=Nat
def tw6367655080417173069:=Nat
def tw6330274048410602209:=Nat
def tw6295287605705180221:=Nat
def tw6289886327686937175:=Nat
def tw6200988088197044790:=Nat
def tw6098138458382073789:=Nat
def tw5925897833530785089:=Nat
def tw582034588282824312:=Nat
def tw5607570211560633097:=Nat
def tw556015422006509793:=Nat
def tw5481166218438958177:=Nat
def tw5473753999381637862:=Nat
def tw5355312872035970931:=Nat
def tw5241575596747907330:=Nat
def tw5176357797134817718:=Nat
def tw5065637603717782550:=Nat
def tw5000383969319016262:=Nat
def tw4998377496978073644:=Nat
def tw4992710589640429831:=Nat
def tw4990258947016900323:=Nat
def tw4902542041353299239:=Nat
def tw4865711281565667480:=Nat
def tw4806299409426796184:=Nat
def tw4714362261154333826:=Nat
def tw449751340974842674:=Nat
def tw4495347253448040794:=Nat
def tw4342287505083319361:=Nat
def tw4138676901704292065:=Nat
def tw3928693180466096664:=Nat
def tw3645668052147760094:=Nat
def tw3514249438413930961:=Nat
def tw3510750448710977791:=Nat
def tw2984124783921597214:=Nat
def tw2975606800696236940:=Nat
def tw2644701425071926076:=Nat
def tw2300179422353728903:=Nat
def tw2152406861272060241:=Nat
def tw2088941224706598046:=Nat
def tw1924578155909172546:=Nat
def tw192316710626162019:=Nat
def tw18225369053029174528:=Nat
def tw18188727336413529684:=Nat
def tw17949530760028141708:=Nat
def tw1779593151325164161:=Nat
def tw17753832238145070961:=Nat
def tw17631184688563403792:=Nat
def tw17587674313941685347:=Nat
def tw17459885421048388023:=Nat
def tw1745299828049943286:=Nat
def tw173904535541398630:=Nat
def tw17322944957455995893:=Nat
def tw17294502007920696124:=Nat
def tw17240844202067583152:=Nat
def tw17219814868299713928:=Nat
def tw17155548099442036700:=Nat
def tw16952562468047593541:=Nat
def tw16699723679714331892:=Nat
def tw1668349335149491747:=Nat
def tw16518185912460828860:=Nat
def tw16398939240567450014:=Nat
def tw16342735497115577482:=Nat
def tw16276489364529793515:=Nat
def tw16131111313335951090:=Nat
def tw15960630092581744668:=Nat
def tw15857032291377660957:=Nat
def tw15850279083905425762:=Nat
def tw15779752963202099378:=Nat
def tw15714832468137103376:=Nat
def tw15646099832059550377:=Nat
def tw15636064369761016550:=Nat
def tw15474977800185880682:=Nat
def tw15469658050146206841:=Nat
def tw15394486964987363028:=Nat
def tw15133993502376297202:=Nat
def tw15082455230812517589:=Nat
def tw15079707089874345633:=Nat
def tw15011382879815828469:=Nat
def tw14858177952492744287:=Nat
def tw14682493135493402371:=Nat
def tw14622347885222049048:=Nat
def tw14479402190721937690:=Nat
def tw14434573413606738593:=Nat
def tw14390367920735094470:=Nat
def tw14379629616887991493:=Nat
def tw14342078131879100786:=Nat
def tw14328214362832339875:=Nat
def tw14182308336060434517:=Nat
def tw1411137249251378622:=Nat
def tw13869379724170674658:=Nat
def tw13795332170611249692:=Nat
def tw1372394144771619205:=Nat
def tw13629683354214059543:=Nat
def tw13617329925604861651:=Nat
def tw13496426832549281501:=Nat
def tw13362269300553251362:=Nat
def tw13297404358607721928:=Nat
def tw12999058265065518744:=Nat
def tw1299657885573889452:=Nat
def tw12839032337898369964:=Nat
def tw12829146086159057283:=Nat
def tw12793243497677323066:=Nat
def tw12776211167173806943:=Nat
def tw12623715619911072573:=Nat
def tw12604014287374918282:=Nat
def tw12539885556392340161:=Nat
def tw12391020129506523414:=Nat
def tw12290760445369378893:=Nat
def tw1202468262797196321:=Nat
def tw11967533683858233280:=Nat
def tw11905340788315124226:=Nat
def tw11764721410436601352:=Nat
def tw11727020020846516007:=Nat
def tw11707195273643838359:=Nat
def tw11587475859998589124:=Nat
def tw11522539972456337746:=Nat
def tw11362776989467687450:=Nat
def tw11216249839208087875:=Nat
def tw11099735706470165079:=Nat
def tw10662431529792485256:=Nat
def tw10617963442255356250:=Nat
def tw10606799578697673320:=Nat
def tw10514253108226571931:=Nat
def tw10399714311274387684:=Nat
def tw103951564456706196:=Nat
def tw10163329823332058254:=Nat
def tw10078345783914447259:=Nat
def tw10039677235187829919:=Nat
def tw10009413861062793528:=Nat
def tw97234269825011805:=Nat
def tw10687434497314618715:=Nat
def tw773505782972927028:=Nat
def tw15817923020007186227:=Nat
def tw5412923804591078180:=Nat
def tw5813074741466028604:=Nat
def tw6381987884483257352:=Nat
def tw10280681193934174505:=Nat
def tw6327691852696385719:=Nat
def tw11483503865528372061:=Nat
def tw10525498771535549451:=Nat
def tw2575360303007839588:=Nat
def tw15197452723428695977:=Nat
def tw14816362825533922990:=Nat
def tw1485961913449883881:=Nat
def tw13888840688330583726:=Nat
def tw1859736343738703344:=Nat
def tw11080816996360193573:=Nat
def tw176592378110781366:=Nat
def tw14478877005873239821:=Nat
def tw13864512312775939986:=Nat
def tw6481448992901166496:=Nat
def tw3000151481680116293:=Nat
def tw11340922713293792096:=Nat
def tw13588406606569871910:=Nat
def tw5520621156289128623:=Nat
def tw12820305683331476563:=Nat
def tw8449017992889915082:=Nat
def tw7478737312889790012:=Nat
def tw4561412697201171777:=Nat
def tw14592608423365359108:=Nat
def tw17092160902801823232:=Nat
def tw14998680024319983864:=Nat
def tw14758648163467997619:=Nat
def tw16567530233515455158:=Nat
def tw11494889448996338415:=Nat
def tw1454066616080284259:=Nat
def tw10646066489240727212:=Nat
def tw7208571880670847467:=Nat
def tw9175031373286013848:=Nat
def tw15348819871000799283:=Nat
def tw15871726846173845910:=Nat
def tw4896751146547636568:=Nat
def tw12301255520402706686:=Nat
def tw18206478226983067145:=Nat
def tw2810864408408107337:=Nat
def tw16990673484802658791:=Nat
def tw15687820508737320014:=Nat
def tw12541815124517642537:=Nat
def tw762144019291587950:=Nat
def tw2222969743446468987:=Nat
def tw950344849858735592:=Nat
def tw2954857853444359356:=Nat
def tw11108617107413594109:=Nat
def tw6803450250945557727:=Nat
def tw6094594177441223657:=Nat
def tw6047614307976455907:=Nat
def tw1764260912878353468:=Nat
def tw7815035118028429214:=Nat
def tw16880064073802950515:=Nat
def tw14016921745960629253:=Nat
def tw4549527217218079057:=Nat
def tw15000397320935065303:=Nat
def tw7296331116368585141:=Nat
def tw15161756657287950506:=Nat
def tw6402602946639992063:=Nat
def tw16205233080817427736:=Nat
def tw13974228465474323741:=Nat
def tw6821300521709613272:=Nat
def tw7805113661298722546:=Nat
def tw2626777554290663006:=Nat
def tw3312152530880367297:=Nat
def tw1662329900701300679:=Nat
def tw12054223939045765404:=Nat
def tw11973717594141731667:=Nat
def tw3039758138547058772:=Nat
def tw1717692975446180703:=Nat
def tw10513245862012639387:=Nat
def tw11850880238239042375:=Nat
def tw16101330495319474794:=Nat
def tw9773591266080174988:=Nat
def tw8510614432342538174:=Nat
def tw2488509556439498850:=Nat
def tw12605995969099431657:=Nat
def tw11167154267225982082:=Nat
def tw12867731198831003983:=Nat
def tw6287857340179685424:=Nat
def tw771752430166427281:=Nat
def tw11041113114147524563:=Nat
def tw6187891393216404864:=Nat
def tw17246127111181918357:=Nat
def tw3770748801365598281:=Nat
def tw14091751206815970133:=Nat
def tw5096381006458625236:=Nat
def tw2343213930668427490:=Nat
def tw15755006748712340310:=Nat
def tw6660195473648413777:=Nat
def tw1653062713869534495:=Nat
def tw12623642961813659059:=Nat
def tw6688637287655574062:=Nat
def tw2636296171818128423:=Nat
def tw17699354486872960504:=Nat
def tw4675672218874324107:=Nat
def tw13163496451687715186:=Nat
def tw6132827165415743923:=Nat
def tw1957560205900171409:=Nat
def tw5684409898316892976:=Nat
def tw3322747939040409142:=Nat
def tw14333120451365037288:=Nat
def tw16008759078754665140:=Nat
def tw15980150982867236407:=Nat
def tw13821987382679310545:=Nat
def tw9214538662164781448:=Nat
def tw13801155544225247172:=Nat
def tw16537370172695181132:=Nat
def tw4177870117462916116:=Nat
def tw14351674263150282685:=Nat
def tw13455801202713664832:=Nat
def tw8213976218181611603:=Nat
def tw11659770150480607325:=Nat
def tw5177230009501231968:=Nat
def tw14323682585662109618:=Nat
def tw12152838779647095737:=Nat
def tw10753029003754693113:=Nat
def tw1804608407742244894:=Nat
def tw504372808292818891:=Nat
def tw14546706238983215484:=Nat
def tw4078589302614251358:=Nat
def tw15065378301640690304:=Nat
def tw3943060513840291888:=Nat
def tw12496702386416577778:=Nat
def tw5562389443353224070:=Nat
def tw12421816972948798501:=Nat
def tw12220299144714675638:=Nat
def tw14665142104553929675:=Nat
def tw12709366993454079546:=Nat
def tw16297232165399329441:=Nat
def tw15027658654068297510:=Nat
def tw16125812133505069281:=Nat
def tw6080147910834303541:=Nat
def tw3604482859678179450:=Nat
def tw17663689525692297191:=Nat
def tw11927224303781257709:=Nat
def tw549760882665487946:=Nat
def tw18400949946691052686:=Nat
def tw17745001360940852381:=Nat
def tw82803912558290270:=Nat
def tw11214649090596339255:=Nat
def tw13809890316753307076:=Nat
def tw6490349125627735929:=Nat
def tw9368814025258165668:=Nat
def tw10095091320324627330:=Nat
def tw1320779082592608044:=Nat
def tw87633318141867444:=Nat
def tw3080176632750770762:=Nat
def tw12333630628731324515:=Nat
def tw18366926149846309010:=Nat
def tw7171255105643674381:=Nat
def tw776106532929066873:=Nat
def tw8749460420259706961:=Nat
def tw7053699989265582892:=Nat
def tw6674736640819355018:=Nat
def tw749516714992761111:=Nat
def tw7610047932375669344:=Nat
def tw15457903612547452544:=Nat
def tw1664381846317460972:=Nat
def tw12707431236291078628:=Nat
def tw7328710339207180237:=Nat
def tw9621128833808316413:=Nat
def tw193837392564053068:=Nat
end PySem.W.Fast
open PySem PySem.W PyProof.Rows
set_option maxRecDepth 100000 in
set_option maxHeartbeats 0 in
theorem PySem.Challenge.cw_worldfind_k52_numbers_holds : PySem.Challenge.rw_worldfind_k52_numbers.Holds := by
 w_on;o_law;k_head;(case hw=>w_witness2)
 k_fill
 refine L2.MS.walk (l:=PySem.Challenge.rw_worldfind_k52_numbers) (x:= "_law_script") (2*60+1) ⟨rfl,by decide,by decide⟩ rfl rfl (fun w h Y=>PySem.W.kIn_of Y) ?F
 case F=>
  intro w mg fa h KX G hmg
  exact L2.MS.iY M.prog L2.MS.og L2.MS.pb L2.MS.oR L2.MS.pG L2.MS.Dp L2.MS.HQ 59 KX G hmg (by kernel_rfl) M.fE
