import PyProof.Rows.All
import Wide.All
import OpenK.AllK
import Wide.FinOn
import Lean
import PyProof.EqAt
import PyProof.EqKinds
import PyProof.TupleCall
import PyProof.NeKinds
import PyProof.NsDelKeeps
import KE.KRevSl
import PyProof.StrWalks
import PyProof.ConsumeWalk
import PyProof.SumWalk
import PyProof.Rows.SortStr
import PyProof.SumWalkG
import PyProof.StrCalls2
import PyProof.StrLawsIdx
import PyProof.WalkInts
import PyProof.StrOps2
import PyProof.SliceStr2
import PyProof.Draws
import PyProof.EnumMake
import PyProof.Rows.SetFrom
import PyProof.SetRoads
import PyProof.WalksMore
import PyProof.ListRange
import PyProof.TupleOfSeq
import PyProof.TupleOfGen
import PyProof.Rows.SortShell
import PyProof.ZipIter
import PyProof.DictStraight
import PyProof.TupleKey
import PyProof.DictRoadsH
import PyProof.DictTruth
import PyProof.Rows.TupTab
import KE.KTabLook
import PyProof.FString
import PyProof.CallStr
import KE.KIntText
import PyProof.Rows.Range3
import PyProof.DictRoads
import PyProof.Rows.StrNews2
import KE.KDictOf
import PySem.Challenge.RW_worldfind_k31_papers_walked
set_option Elab.async false
set_option linter.all false
set_option maxRecDepth 100000
set_option compiler.extract_closed false
local macro_rules | `(tactic| omega) => `(tactic| lia)
set_option bootstrap.genMatcherCode false
noncomputable section
open List renaming length_map → Aa, getElem?_eq_some_iff → Aa1, replicate → Aa2, getElem?_eq_getElem → Aa3, mem_cons_of_mem → Aa4, range → Aa5, mem_cons_self → Aa7, length_cons → Ab, map_cons → Ab0, length_append → Ab1, getElem?_set_self → Ab4, lookup_cons → Ab5, mem_append_right → Ab6, mem_range → Ab7, mem_map → Ab8, size_toArray → Ac0, mem_cons → Ac1, getElem?_map → Ac2, set_set → Ac3, getD_eq_getElem?_getD → Ac5, getElem?_append_left → Ac9, length_replicate → Ad, any_eq_true → Ad0, map_map → Ad1, length_set → Ad2, mem_of_getElem? → Ad4, getElem?_append_right → Ad6, mem_append → Ad8, getElem?_set_ne → Ae, map_nil → Ae3, replicate_succ → Ae4, nil_append → Ae5, map_append → Ae6, any_cons → Ae8, length_take → Af, append_assoc → Af1, isEmpty_iff → Af4, length_drop → Af7, append_nil → Ag0, all_cons → Ag1, nodup_cons → Ag4, take_of_length_le → Ag5, range_succ_eq_map → Ag6, mem_singleton → Ah0, mem_append_left → Ah3, length_nil → Ah4, map_congr_left → Ai, getElem?_replicate → Ai0, not_mem_nil → Ai2, eq_nil_of_length_eq_zero → Ai3, mem_filter → Ai6, lookup → Ai7, nodup_append → Ai9, length_range → Aj, any_eq_false → Aj0, drop_eq_getElem_cons → Aj4, filterMap_cons → Aj6, pairwise_cons → Aj9, foldl_cons → Ak, flatMap_cons → Ak4, length_filter_le → Ak6, getElem_mem → Ak9, filter_cons → Al, cons_append → Al0, all_eq_true → Al1, sum_cons → Al2, length_zip → Al3, getElem_of_mem → Al4, getElem?_take_of_lt → Am0, range'_succ → Am4, flatMap_def → Am5, take_append_drop → Am8, filter_map → Am9, all_map → An, mem_of_mem_take → An5, map_take → Ao1, Pairwise → Ao2, any_map → Ao5, take_length → Ao8
open Bool renaming and_eq_true → Aa0, false_ne_true → Ab2, true_and → Ad9, or_eq_true → Ae7, false_and → Af0, not_eq_true' → Ah5, eq_false_iff → Ah6, false_eq_true → Ak0, true_or → Al8, eq_iff_iff → An1, not_false → An8, and_false → An9, or_eq_true_iff → Ao, not_eq_true → Ao9, noConfusion → Ap
open PySem.W renaming Frag → Aa6, kia_one → Ae9, keepIn → Ag9, emptyDict → Ah1, instObj → Aj7, findIn → Ak2, plainGet → Am, cellsFrom_some → Am1, lookIn → Am7, plainGet_of → An2, callWith_K → An6, kitx_list → Ao0
open Nat renaming le_refl → Aa8, lt_of_lt_of_le → Ab3, le_trans → Ab9, two_pow_pos → Ac6, ne_of_lt → Ac7, zero_le → Ac8, testBit_two_pow → Ad3, pow_le_pow_right → Ae0, testBit_two_pow_sub_one → Ae1, mul_le_mul → Ae2, and_two_pow_sub_one_eq_mod → Af3, lt_succ_self → Af5, testBit_or → Af6, zero_testBit → Af9, le_of_lt → Ag, testBit_mod_two_pow → Ag2, testBit_div_two_pow → Ag3, testBit_and → Ah7, lt_irrefl → Ai1, testBit_lt_two_pow → Ai4, lt_of_le_of_lt → Ai5, not_lt_zero → Ai8, mod_lt → Aj2, eq_of_testBit_eq → Aj3, le_succ → Aj8, min_eq_left → Ak1, mul_comm → Ak7, le_of_eq → Ak8, div_add_mod → Al5, or_lt_two_pow → Am2, add_sub_cancel_left → Am3, div_div_eq_div_mul → Am6, mul_le_mul_right → An7, not_le → Ao4, sub_self → Ao6, add_comm → Ao7
open PySem.Heap renaming get?_push_of_some → Aa9, lt_size → Ac, get?_push_size → Ac4, get?_update_other → Ak3, size_push → Al9, SameBut → An0
open Option renaming some → Ad5, map_eq_some_iff → Af8, isNone_iff_eq_none → Ah, isSome_iff_exists → Ah2, bind_eq_some_iff → Ah8, bind_some → Ah9, getD_some → Ak5
open Int renaming toNat_natCast → Ad7, eq_ofNat_of_zero_le → Af2, fdiv_eq_ediv_of_nonneg → Al6, ofNat → An3, emod_nonneg → An4, emod_lt_of_pos → Ao3
open Classical renaming choose_spec → Ag7, byContradiction → Ag8, choose → Aj1, propDecidable → Al7
open Array renaming length_toList → Aj5
open Decidable renaming decide → y9
open Option renaming some → k0, none → y0
open Bool renaming true → u0, false → k9
namespace L2
open PySem PySem.Spec PyProof.Rows
abbrev c7:=Sum Int Str
def mB:c7->Value->Bool
 | .inl k,v=>Value.isInt k v
 | .inr x,v=>Value.isStrOf x v
def Fv (w:World):c7->Int
 | .inl k=>hashInt k
 | .inr x=>hashStr w x
def jd: ∀ {k}{v},mB k v=u0->(∃ i t,k=Sum.inl i/\v=Value.int i t)\/(∃ x t,k=Sum.inr x/\v=Value.str x t)
 | .inl i,v,h=>by
  obtain⟨t,e⟩:=Value.isInt_shape h
  exact .inl ⟨i,t,rfl,e⟩
 | .inr x,v,h=>by
  obtain⟨t,e⟩:=Value.isStrOf_shape h
  exact .inr ⟨x,t,rfl,e⟩
def F1 (x) (t):mB (.inr x) (.str x t)=true:=by simp [mB,Value.isStrOf]
def A4 (a b):y9 ((Sum.inl a:c7)=Sum.inl b)=(a==b):=by grind
def yf (a b):y9 ((Sum.inr a:c7)=Sum.inr b)=y9 (a=b):=by simp
def FL (a) (b):y9 ((Sum.inl a:c7)=Sum.inr b)=false:=decide_eq_false (λq=>nomatch q)
def vV (a) (b):y9 ((Sum.inr a:c7)=Sum.inl b)=false:=decide_eq_false (λq=>nomatch q)
noncomputable def xC (prog:Program) (w:World):PySem.KeyKind prog w c7 where
 is:=mB
 hash:=Fv w
 inj:=λv a b f d=>by
  rcases jd f with⟨i,t,rfl,rfl⟩ | ⟨x,t,rfl,rfl⟩
  ·rcases jd d with⟨j,u,rfl,e⟩ | ⟨y,u,rfl,e⟩
   ·injection e with e1 _;rw [e1]
   ·exact nomatch e
  ·rcases jd d with⟨j,u,rfl,e⟩ | ⟨y,u,rfl,e⟩
   ·exact nomatch e
   ·injection e with e1 _;rw [e1]
 byValue:=λk v h=>by
  rcases jd h with⟨i,t,rfl,rfl⟩ | ⟨x,t,rfl,rfl⟩<;>rfl
 pyHash:=λc h=>by
  rcases jd c with⟨i,t,rfl,rfl⟩ | ⟨x,t,rfl,rfl⟩
  ·exact wpAny_pyHash_int h
  ·exact wpAny_pyHash_str h
 eqBool:=λg c h=>by
  rcases jd g with⟨i,t,rfl,rfl⟩ | ⟨x,t,rfl,rfl⟩
  ·rcases jd c with⟨j,u,rfl,rfl⟩ | ⟨y,u,rfl,rfl⟩
   ·rw [A4]at h;exact wpAny_eqBool_int h
   ·rw [FL]at h;exact SeqAt.EqAt.int_str i t y u _ _ _ _ h
  ·rcases jd c with⟨j,u,rfl,rfl⟩ | ⟨y,u,rfl,rfl⟩
   ·rw [vV]at h;exact SeqAt.EqAt.str_int x t j u _ _ _ _ h
   ·rw [yf]at h;exact wpAny_eqBool_str h
 «strs» :=λk x t v h=>by
  rcases jd h with⟨i,u,rfl,e⟩ | ⟨y,u,rfl,e⟩
  ·exact nomatch e
  ·injection e with e1 _
   subst e1
   cases v<;>rfl
def wj (prog) (w) (x) (t):(xC prog w).is (.inr x) (.str x t)=true:=F1 x t
inductive V where
 | ak | bl (b:Bool) | int (i:Int) | str (x:Str) | ie (b:Array UInt8) | gL (b:UInt64) | ref (a:Addr) | ty (n:String)
 deriving DecidableEq
def RelV:V->Value->Prop
 | .ak,u=>u=Value.none
 | .bl b,u=>u=Value.bool b
 | .int i,u=> ∃t,u=Value.int i t
 | .str x,u=> ∃t,u=Value.str x t
 | .ie b,u=> ∃t,u=Value.bytes b t
 | .gL b,u=> ∃t,u=Value.float b t
 | .ref a,u=>u=Value.ref a
 | .ty n,u=>u=Value.type n
abbrev Vals:List V->List Value->Prop:=Paired RelV
theorem Vals.length (r:Vals xs us):xs.length=us.length:=Paired.length r
theorem Vals.get: ∀ {xs}{us}{i:Nat}{x},Vals xs us->xs[i]? =k0 x-> ∃u,us[i]? =k0 u/\RelV x u
 | _,_,_,_,.nil,e=>by simp at e
 | _,_,0,_,.cons r _,e=>by simp at e;subst e;exact⟨_,rfl,r⟩
 | _,_,i+1,x,.cons _ t,e=>by
  obtain⟨u,a,b⟩:=Vals.get t (by simpa using e)
  exact⟨u,by simpa using a,b⟩
theorem Vals.set (r:RelV x u): ∀ {xs}{j} i,Vals xs j->Vals (xs.set i x) (j.set i u)
 | _,_,_,.nil=> .nil
 | _,_,0,.cons _ t=> .cons r t
 | _,_,i+1,.cons q t=> .cons q (Vals.set r i t)
theorem Vals.append: ∀ {xs ys}{j ws},Vals xs j->Vals ys ws->Vals (xs++ys) (j++ws)
 | _,_,_,_,.nil,s=>s
 | _,_,_,_,.cons r t,s=> .cons r (Vals.append t s)
theorem Vals.take: ∀ {xs}{j}(n),Vals xs j->Vals (xs.take n) (j.take n)
 | _,_,0,_=> .nil
 | _,_,_+1,.nil=> .nil
 | _,_,n+1,.cons r t=> .cons r (Vals.take n t)
theorem Vals.drop: ∀ {xs}{j}(n),Vals xs j->Vals (xs.drop n) (j.drop n)
 | _,_,0,r=>r
 | _,_,_+1,.nil=> .nil
 | _,_,n+1,.cons _ t=>Vals.drop n t
def cc:Option V->Option Value->Prop
 | some v,k0 u=>RelV v u
 | none,none=>True
 | _,_=>False
def KV {a:Type}:List (a×V)->List (a×Value)->Prop:=Paired λ(p:a×V) (q:a×Value)=>p.1=q.1/\RelV p.2 q.2
def kV:c7->V
 | .inl i=> .int i
 | .inr x=> .str x
inductive HO where
 | lst (xs:List V)
 | tup (xs:List V)
 | dK (kvs:List (c7×V)) | dT (kvs:List (List c7×V))
 | set (S:Int->Bool) (n:Nat)
 | ins (C dx:Addr) (fs:List (Str×V))
 | own (x:Addr)
 | xd (fs:List (Str×V))
 | met (f x:Addr)
 | g8 (lo hi:Int)
 | d9 (o:Obj) (u:HO)
 | gO (ps:Array Value)
 | ext (φ:Heap->Prop)
abbrev Hp:=Addr->Option HO
def aR (H:Hp) (a:Addr) (o:HO):Hp:=λb=>if b=a then k0 o else H b
def qd :aR H a o a=k0 o:=by unfold aR;rw [if_pos rfl]
def Ja (h:b≠a):aR H a o b=H b:=by unfold aR;rw [if_neg h]
def Qb {H:Hp}(h:H a=k0 o) (h':H b=y0):a≠b:=by
 intro e;subst e;rw [h]at h';cases h'
def dc (h:Heap) (a:Addr) (b:Array Value):Prop:= ∃o,h.get? a=some o/\o.cls= .type "tuple" /\o.dict=none/\ ∃n,o.data= .seq b n
def dc.is (p:dc h a y8):IsTup h a y8:=let ⟨o,e,c,_,n,d⟩:=p; ⟨o,e,c,n,d⟩
theorem dc.lt (p:dc h a y8):a<h.objs.size:=p.is.lt
def dc.new (h:Heap) (y8):dc (h.push { cls:= .type "tuple",data:= .seq y8 }) h.objs.size y8:=⟨_,Heap.get?_push_size _ rfl,rfl,rfl,_,rfl⟩
section
variable (P:Program) (w:World)
def aV (H:Hp) (h:Heap) (a:Addr):HO->Prop
 | .lst xs=>xs.length<=sizeLine/\ ∃(b:List Value) (n:Nat),Vals xs b/\h.get? a=k0 { cls:= .type "list",data:= .seq b.toArray n }
 | .tup xs=>xs.length<=sizeLine/\ ∃b:List Value,Vals xs b/\dc h a b.toArray
 | .dK kvs=>kvs.length<=sizeLine/\(a==sysModules)=k9/\ ∃d,KV kvs d/\h.DictOf (xC P w) a d
 | .dT kvs=>kvs.length<=sizeLine/\(a==sysModules)=k9/\ ∃xs:List (List c7×Addr×Value),
  Paired (λ(p:List c7×V) (q:List c7×Addr×Value)=>p.1=q.1/\H q.2.1=k0 (.tup (p.1.map kV))/\RelV p.2 q.2.2) kvs xs ∧
  ∃o es e,h.get? a=k0 o/\o.ExactDict/\o.data= .dict es e/\es.toList=xs.map (entryOfKey (tupleKind (xC P w)))/\(xs.map (·.1)).Nodup
 | .set S n=>h.SetOf (intKind P w) a S n
 | .ins C dx fs=>H dx=k0 (.own a)/\fs.length<=1000/\dx≠a/\h.get? a=k0 (Aj7 C dx) ∧
  ∃mA,h.Ns1 dx mA/\(∀ f,cc (fs.lookup f) (mA f))/\PySem.Within mA (fs.map (·.1))
 | .own _=> ∃o,h.get? a=k0 o
 | .xd fs=> ∃mA,h.Ns1 a mA/\ ∀f,cc (fs.lookup f) (mA f)
 | .g8 lo hi=> ∃t u v,h.get? a=k0 { cls:= .type "range",data:= .fields #[.int lo t,.int hi u,.int 1 v] }
 | .d9 o u=>h.get? a=k0 o/\aV H h a u
 | .gO ps=>h.get? a=k0 { cls:= .none,data:= .fields ps }
 | .met f x=>h.get? a=k0 (PySem.W.methodObj (.ref f) (.ref x))
 | .ext c=>c h/\(∃ o,h.get? a=k0 o)/\ ∀h1 h2:Heap,c h1->(∀ o,h1.get? a=k0 o->h2.get? a=k0 o)->c h2
def cM (H:Hp) (h:Heap):Prop:= ∀a o,H a=k0 o->aV P w H h a o
end
section
variable {P:Program}{w:World}{H H':Hp}{h h':Heap}{a:Addr}{o:HO}
theorem aV.lt (x:aV P w H h a o):a<h.objs.size:=by
 cases o with
 | lst c=>obtain⟨_,_,_,_,e⟩:=x;exact Ac e
 | tup c=>obtain⟨_,_,_,p⟩:=x;exact p.lt
 | dK b=>obtain⟨_,_,_,_,o,_,_,e,_⟩:=x;exact Ac e
 | dT b=>obtain⟨_,_,_,_,o,_,_,e,_⟩:=x;exact Ac e
 | set S n=>obtain⟨o,_,_,_,e,_⟩:=x;exact Ac e
 | ins C d fs=>obtain⟨_,_,_,e,_⟩:=x;exact Ac e
 | own y=>obtain⟨_,e⟩:=x;exact Ac e
 | xd fs=>obtain⟨_,⟨_,_,_,e,_⟩,_⟩:=x;exact Ac e
 | g8 j g=>obtain⟨_,_,_,e⟩:=x;exact Ac e
 | d9 l u=>obtain⟨e,_⟩:=x;exact Ac e
 | gO k=>exact Ac (x)
 | met f y=>exact Ac (x)
 | ext i=>obtain⟨_,⟨_,e⟩,_⟩:=x;exact Ac e
theorem Paired.kX : ∀ {j}{J},Paired F j J->(∀ a b,F a b->G a b)->Paired G j J
 | _,_,.nil,_=> .nil
 | _,_,.cons r t,f=> .cons (f _ _ r) (Paired.kX t f)
def aV.dW (x:aV P w H h a o) (k: ∀b u,(b=a\/H b=k0 (.own a))->h.get? b=k0 u->h'.get? b=k0 u)
 (E: ∀b,H b=k0 (.own a)->H' b=k0 (.own a)) (B: ∀b xs,H b=k0 (.tup xs)->H' b=k0 (.tup xs)):aV P w H' h' a o:=by
 induction o with
 | lst xs=>obtain⟨z,l,n,r,e⟩:=x;exact⟨z,l,n,r,k _ _ (.inl rfl) e⟩
 | tup xs=>obtain⟨z,l,r,g,e,c⟩:=x;exact⟨z,l,r,g,k _ _ (.inl rfl) e,c⟩
 | dK s=>obtain⟨z,y,D,r,g,i,j,e,c⟩:=x;exact⟨z,y,D,r,g,i,j,k _ _ (.inl rfl) e,c⟩
 | dT s=>
  obtain⟨z,y,xs,r,g,i,j,e,c⟩:=x
  exact⟨z,y,xs,Paired.kX r λp q z=>⟨z.1,B _ _ z.2.1,z.2.2⟩,g,i,j,k _ _ (.inl rfl) e,c⟩
 | set S n=>obtain⟨g,i,j,t,e,c⟩:=x;exact⟨g,i,j,t,k _ _ (.inl rfl) e,c⟩
 | ins C G fs=>
  obtain⟨d,z,ne,e,m,⟨od,i,j,e2,c⟩,r⟩:=x
  exact⟨E _ d,z,ne,k _ _ (.inl rfl) e,m,⟨od,i,j,k _ _ (.inr d) e2,c⟩,r⟩
 | own y=>obtain⟨g,e⟩:=x;exact⟨g,k _ _ (.inl rfl) e⟩
 | xd fs=>obtain⟨m,⟨od,i,j,e,c⟩,r⟩:=x;exact⟨m,⟨od,i,j,k _ _ (.inl rfl) e,c⟩,r⟩
 | g8 K I=>obtain⟨t,u,v,e⟩:=x;exact⟨t,u,v,k _ _ (.inl rfl) e⟩
 | d9 g u F=>obtain⟨e,q⟩:=x;exact⟨k _ _ (.inl rfl) e,F q⟩
 | gO L=>
  have e:=x
  exact k a _ (.inl rfl) e
 | met f y=>
  have e:=x
  exact k a _ (.inl rfl) e
 | ext J=>obtain⟨p,⟨o,e⟩,A⟩:=x;exact⟨A _ _ p λo q=>k _ _ (.inl rfl) q,⟨o,k _ _ (.inl rfl) e⟩,A⟩
theorem cM.lt (x:cM P w H h) (e:H a=k0 o):a<h.objs.size:=(x a o e).lt
def cM.fresh (x:cM P w H h) (e:h.objs.size<=a):H a=none:=by
 cases q:H a with
 | none=>rfl
 | some u=>exact absurd (Ab3 (x.lt q) e) (Ai1 _)
def cM.kept (x:cM P w H h) (k: ∀b u,h.get? b=k0 u->h'.get? b=k0 u):cM P w H h':=λa o e=>
 (x a o e).dW (λb u _ q=>k b u q) (λ_ q=>q) λ_ _ q=>q
def cM.laid (x:cM P w H h) (k: ∀b u,h.get? b=k0 u->h'.get? b=k0 u) (g:h.objs.size<=a) (new:aV P w (aR H a o) h' a o):cM P w (aR H a o) h':=λb u e=>by
 have d:=x.fresh g
 by_cases f:b=a
 ·subst f;rw [qd]at e;cases e;exact new
 ·rw [Ja f]at e
  exact(x b u e).dW (λc v _ q=>k c v q) (λc q=>by rw [Ja (Qb q d)];exact q) λc i q=>by rw [Ja (Qb q d)];exact q
end
def Rd (H:Hp) (a:Addr) (u:HO):Prop:=H a=k0 u\/ ∃o,H a=k0 (.d9 o u)
def Rd.ok (r:Rd H a u) (x:cM P w H h):aV P w H h a u:=by
 obtain r | ⟨o,r⟩:=r
 ·exact x a u r
 ·obtain⟨_,q⟩:=x a _ r
  exact q
def lW:Option HO->Prop
 | some (.lst _)=>True
 | some (.dK _)=>True
 | some (.dT _)=>True
 | some (.set _ _)=>True
 | some (.ins _ _ _)=>True
 | some (.ext _)=>True
 | _=>False
section
variable {P:Program}{w:World}{H:Hp}{h h':Heap}{x e:Addr}{o':HO}
def cM.write (ok:cM P w H h) (g:lW (H x)) (o:e=x\/H e=k0 (.own x)) (k: ∀b u,b≠e->h.get? b=k0 u->h'.get? b=k0 u) (m: ∃u,h'.get? e=k0 u)
 (new:aV P w (aR H x o') h' x o'):cM P w (aR H x o') h':=λb u q=>by
 have d: ∀c y,H c=k0 (.own y)->c≠x:=λc y r z=>by subst z;rw [r]at g;exact g
 have f: ∀c i,H c=k0 (.tup i)->c≠x:=λc i r z=>by subst z;rw [r]at g;exact g
 by_cases j:b=x
 ·subst j;rw [qd]at q;cases q;exact new
 ·rw [Ja j]at q
  by_cases a:b=e
  ·have n:H b=k0 (.own x):=by
    obtain z | z:=o
    ·exact absurd (a.trans z) j
    ·rw [a];exact z
   rw [q]at n;cases n
   obtain⟨v,p⟩:=m
   exact⟨v,by rw [a];exact p⟩
  ·refine(ok b u q).dW (λc v l r=>k c v ?_ r) (λc r=>by rw [Ja (d c b r)];exact r) λc i r=>by rw [Ja (f c i r)];exact r
   obtain rfl | l:=l
   ·exact a
   ·rintro rfl
    obtain z | z:=o
    ·exact d c b l z
    ·rw [l]at z;cases z;exact j rfl
end
structure Un (fs ex:List Addr) (H H':Hp) (h h':Heap):Prop where
 keep: ∀b o,h.get? b=k0 o->H b=y0->b∉fs->b∉ex->h'.get? b=k0 o
 slot: ∀b o,h.get? b=k0 o->H b=y0->b∈fs->b∉ex-> ∃sl,h'.get? b=k0 { o with slots:=sl }
 free: ∀b o,h.get? b=k0 o->H b=y0->b∉ex->H' b=y0
 there: ∀b o,h.get? b=k0 o->b∉ex-> ∃o',h'.get? b=k0 o'
 dM: ∀b xs,H b=k0 (.tup xs)->H' b=k0 (.tup xs)
 dt: ∀b o u,H b=k0 (.d9 o u)->H' b=k0 (.d9 o u)
 dF: ∀b ps,H b=k0 (.gO ps)-> ∃more,H' b=k0 (.gO (ps++more))
section
variable {fs fs' ex ex':List Addr}{H H1 H2:Hp}{h h1 h2 h':Heap}{a x e:Addr}{o:HO}
def Un.any (u:Un fs ex H H1 h h1)(q:h.get? b=k0 ob) (n:H b=y0) (a:b∉ex): ∃sl,h1.get? b=k0 { ob with slots:=sl }:=by
 by_cases c:b∈fs
 ·exact u.slot b ob q n c a
 ·exact⟨ob.slots,u.keep b ob q n c a⟩
def Un.kept (k: ∀b u,h.get? b=k0 u->h'.get? b=k0 u):Un fs ex H H h h':=
 ⟨λb a q _ _ _=>k b a q,λb a q _ _ _=>⟨a.slots,k b a q⟩,λ_ _ _ n _=>n,λb a q _=>⟨a,k b a q⟩,λ_ _ q=>q,λ_ _ _ q=>q,λ_ c q=>⟨#[],by rw [q];simp⟩⟩
def Un.refl:Un fs ex H H h h:=Un.kept λ_ _ q=>q
def Un.laid (k: ∀b u,h.get? b=k0 u->h'.get? b=k0 u) (d:h.objs.size<=a) (c:H a=y0):Un fs ex H (aR H a o) h h' where
 keep:=λb u q _ _ _=>k b u q
 slot:=λb u q _ _ _=>⟨u.slots,k b u q⟩
 free:=λb u q n _=>by rw [Ja (Ac7 (Ab3 (Ac q) d))];exact n
 there:=λb u q _=>⟨u,k b u q⟩
 dM:=λb e q=>by rw [Ja (Qb q c)];exact q
 dt:=λb u e q=>by rw [Ja (Qb q c)];exact q
 dF:=λb f q=>⟨#[],by rw [Ja (Qb q c),q];simp⟩
def Un.write (c:lW (H x)) (l:e=x\/H e=k0 (.own x)) (k: ∀b u,b≠e->h.get? b=k0 u->h'.get? b=k0 u) (d: ∃u,h'.get? e=k0 u):Un fs ex H (aR H x o) h h':=by
 have g: ∀b,H b=y0->b≠x:=λb n z=>by subst z;rw [n]at c;exact c
 have i: ∀b,H b=y0->b≠e:=λb n z=>by
  subst z
  obtain r | r:=l
  ·exact g b n r
  ·rw [n]at r;cases r
 have f: ∀b u,H b=k0 u-> ¬lW (k0 u)->b≠x:=λb u q j z=>by subst z;rw [q]at c;exact j c
 refine⟨λb u q n _ _=>k b u (i b n) q,λb u q n _ _=>⟨u.slots,k b u (i b n) q⟩,λb u q n _=>by rw [Ja (g b n)];exact n,λb u q _=> ?_,
  λb m q=>by rw [Ja (f b _ q λz=>z)];exact q,λb u m q=>by rw [Ja (f b _ q λz=>z)];exact q,λb p q=>⟨#[],by rw [Ja (f b _ q λz=>z),q];simp⟩⟩
 by_cases a:b=e
 ·subst a;exact d
 ·exact⟨u,k b u a q⟩
end
def gI (h:Heap) (H:Hp):List Addr:=(Aa5 h.objs.size).filter λa=>(H a).isSome
def kh (h:Heap) (H:Hp):Heap:=PySem.W.hideAll h (gI h H)
def HX (h) (H):(kh h H).objs.size=h.objs.size:=PySem.W.hideAll_size _ _
def Aw (e:h.get? b=k0 o) (n:H b=y0):(kh h H).get? b=k0 o:=
 PySem.W.hideAll_get _ e λa=>by
  have q:=(Ai6.mp a).2
  rw [n]at q;simp at q
def FK (e:(kh h H).get? b=k0 o):h.get? b=k0 o/\H b=none:=by
 have a:=PySem.W.of_hideAll _ e
 refine⟨a,?_⟩
 cases q:H b with
 | none=>rfl
 | some x=>
  have c:b∈gI h H:=Ai6.mpr ⟨Ab7.mpr (Ac a),by simp [q]⟩
  have z:(kh h H).get? b=none:=PySem.W.hideAll_none _ c
  rw [z]at e;cases e
noncomputable def yU (g h:Heap) (L:Addr):List (Addr×Obj):=(Aa5 h.objs.size).filterMap λa=>if a=L\/(g.get? a).isSome=u0 then y0 else(h.get? a).map λo=>(a,o)
def qt (g h:Heap) (L d:Addr):List (Addr×Obj):=(yU g h L).filter λp=>y9 (p.1≠d)
structure Mod (K:Aa6) (mg:Str->Option Value) (base:Heap):Prop where
 kA:K.In base
 glob:base.Ns mainGlobals mg
 blt: ∃mb,base.Ns builtinsNs mb/\ ∀x:Str,x≠ "__name__" ->mb x=bootBuiltins x
 nolimit:base.NoLimit
structure Cx where
 prog:Program
 w:World
 K:Aa6
 mg:Str->Option Value
 base:Heap
 A:Around
 N:List Str
 s₀:Shared
 H₀:Hp
 env:Env
 outer:List Env
 stack:List Env
 ex:List Addr
 fn:Str->Bool
 calm:Bool
 pn:List (Addr×Obj)
 xe:Value->Shared->Prop
def cV (l:List Env):List Addr:=l.filterMap (·.frame)
abbrev Cx.fs (X:Cx):List Addr:=cV X.outer
def lu (sc:Scope) (x:Str):Prop:=sc.names.lookup x=k0 .local\/sc.names.lookup x=k0 .cell\/sc.names.lookup x=k0 .free
def iN (sc:Scope) (x:Str):Prop:=sc.names.lookup x=k0 .local\/sc.names.lookup x=k0 .cell
def Hb (env:Env) (h:Heap) (m:Str->Option Value) (x:Str) (u:Value):Prop:=
 (env.kindOf x=k0 .local/\m x=k0 u)\/((env.kindOf x=k0 .cell\/env.kindOf x=k0 .free)/\ ∃c,env.cells.lookup x=k0 c/\h.IsCell c (k0 u))
structure Cx.Ok (X:Cx):Prop where
 mod:Mod X.K X.mg X.base
 kind:X.env.scope.kind= .function
 glob:X.env.globals=mainGlobals
 blt:X.env.builtins=builtinsNs
 above:X.s₀.heap.objs.size<=X.env.locals
 inj: ∀x y c,X.env.cells.lookup x=k0 c->X.env.cells.lookup y=k0 c->x=y
 has: ∀x,(X.env.kindOf x=k0 .cell\/X.env.kindOf x=k0 .free)-> ∃c,X.env.cells.lookup x=k0 c
 mX: ∀x c,X.fn x=u0->X.env.cells.lookup x=k0 c->X.s₀.heap.objs.size<=c
 hd:X.calm=u0->X.A.handled=y0
 frames:X.A.frames=k0 X.stack
 lF:X.stack=X.outer\/(X.stack=X.env::X.outer/\X.env.frame=k0 X.env.locals)
 ue: ∀b∈X.ex,b≠X.env.locals/\ ∀x c,X.env.cells.lookup x=k0 c->c≠b
 bs: ∀b o,X.base.get? b=k0 o->X.s₀.heap.get? b=k0 o/\X.H₀ b=y0
 hA:X.base.objs.size<=X.s₀.heap.objs.size
 hU: ∀b o,X.base.get? b=k0 o->b∉X.ex
 iD: ∀b∈X.ex,b∉X.fs
 dq:X.s₀.heap.FunFrames X.base X.outer
 kB: ∀b∈X.fs,X.H₀ b=y0
structure Inv (X:Cx) (k8:List (Addr×Obj)) (U:List (Option V)) (H:Hp) (s:Shared):Prop where
 ok:X.Ok
 os:s.os=X.s₀.os
 bare:AllBare s.gens
 base:Un X.fs X.ex X.H₀ H X.s₀.heap s.heap
 loc: ∃m,s.heap.Ns X.env.locals m/\ ∀(i:Nat) (x:Str) (v:V),X.N[i]? =k0 x->U[i]? =k0 (k0 v)->lu X.env.scope x-> ∃u,RelV v u/\Hb X.env s.heap m x u
 cell: ∀x c,X.env.cells.lookup x=k0 c-> ∃v,s.heap.IsCell c v
 free:H X.env.locals=y0
 cD: ∀x c,X.env.cells.lookup x=k0 c->H c=y0
 pin: ∀p∈X.pn++k8,s.heap.get? p.1=k0 p.2/\H p.1=y0/\p.1≠X.env.locals/\p.1∉X.fs/\ ∀v,p.2.data≠ .cell v
 bf:cM X.prog X.w H s.heap
 len:U.length=X.N.length
section
variable {X:Cx}{k8:List (Addr×Obj)}{U:List (Option V)}{H H':Hp}{s:Shared}{h':Heap}
def Cx.Ok.m4 (ok:X.Ok)(e:X.base.get? b=k0 o):b∉X.fs:=λa=>by
 have:=(ok.dq.mem a).1
 rw [e]at this;cases this
theorem Inv.bs (I:Inv X k8 U H s): ∀b o,X.base.get? b=k0 o->s.heap.get? b=k0 o/\H b=none:=λb o e=>
 ⟨I.base.keep b o (I.ok.bs b o e).1 (I.ok.bs b o e).2 (I.ok.m4 e) (I.ok.hU b o e),I.base.free b o (I.ok.bs b o e).1 (I.ok.bs b o e).2 (I.ok.hU b o e)⟩
def Inv.bk (I:Inv X k8 U H s): ∀b o,X.base.get? b=k0 o->s.heap.get? b=k0 o:=λb o e=>(I.bs b o e).1
theorem Inv.mod (I:Inv X k8 U H s):Mod X.K X.mg X.base:=I.ok.mod
def Inv.cb (I:Inv X k8 U H s):X.K.In s.heap:=I.ok.mod.kA.keeps I.bk
theorem Inv.lt (I:Inv X k8 U H s):X.env.locals<s.heap.objs.size:=let ⟨_,a,_⟩:=I.loc;a.lt
def Inv.sz (I:Inv X k8 U H s):X.s₀.heap.objs.size<=s.heap.objs.size:=Ab9 I.ok.above (Ag I.lt)
def Inv.nC (I:Inv X k8 U H s)(h:s.heap.objs.size<=a):a∉X.fs:=λc=>by
 obtain⟨_,o,b,_⟩:=I.ok.dq.mem c
 exact absurd (Ab3 (Ac b) (Ab9 I.sz h)) (Ai1 _)
def Inv.iE (I:Inv X k8 U H s): ∀x c,X.env.cells.lookup x=k0 c->c≠X.env.locals:=λx c e z=>by
 obtain⟨v,o,d,f⟩:=I.cell x c e
 obtain⟨m,⟨g,i,h,a,b,_⟩,_⟩:=I.loc
 rw [z,a]at d;cases d;rw [b]at f;cases f
theorem Inv.dq (I:Inv X k8 U H s):s.heap.FunFrames X.base X.outer:=by
 have all: ∀ l,(∀ b∈cV l,b∈X.fs)->X.s₀.heap.FunFrames X.base l->s.heap.FunFrames X.base l:=by
  intro l
  induction l with
  | nil=>intro _ _;trivial
  | cons p r n=>
   intro f g
   obtain⟨m,⟨L,o,d,j,k,i⟩,h⟩:=g
   have a:=f L (by unfold cV;rw [Aj6,d];exact Aa7)
   obtain⟨sl,e⟩:=I.base.slot L o k (I.ok.kB L a) a λz=>I.ok.iD L z a
   exact⟨m,⟨L,_,d,j,e,i⟩,n (λb c=>f b (by unfold cV;rw [Aj6,d];exact Aa4 _ c)) h⟩
 exact all X.outer (λ_ c=>c) I.ok.dq
theorem Inv.stack (I:Inv X k8 U H s):s.heap.FunFrames X.base X.stack:=by
 obtain e | ⟨e,b⟩:=I.ok.lF
 ·rw [e];exact I.dq
 ·rw [e]
  obtain⟨m,a,_⟩:=I.loc
  refine .cons (by rw [I.ok.kind];decide) b a ?_ I.dq
  exact Heap.get?_none_of_le (Ab9 I.ok.hA I.ok.above)
def Inv.dG (I:Inv X k8 U H s): ∀b∈cV X.stack,b∈X.env.locals::X.fs:=λb a=>by
 obtain e | ⟨e,c⟩:=I.ok.lF
 ·rw [e]at a;exact Aa4 _ a
 ·rw [e]at a
  unfold cV at a
  rw [Aj6,c]at a
  exact a
def Inv.cU (I:Inv X k8 U H s): ∀b∈cV X.stack,H b=none:=λb a=>by
 rcases Ac1.mp (I.dG b a)with e | a
 ·rw [e];exact I.free
 ·obtain⟨_,o,c,_⟩:=I.ok.dq.mem a
  exact I.base.free b o c (I.ok.kB b a) λz=>I.ok.iD b z a
def Inv.step {ch:List Addr}(I:Inv X k8 U H s)
 (h: ∀b∈ch,(b∈X.ex\/X.s₀.heap.objs.size<=b)/\b≠X.env.locals/\(∀ x c,X.env.cells.lookup x=k0 c->c≠b)/\ ∀p∈X.pn++k8,p.1≠b)
 (keep: ∀b o,b≠X.env.locals->b∉X.fs->b∉ch->s.heap.get? b=k0 o->H b=y0->h'.get? b=k0 o)
 (w: ∀b o,b≠X.env.locals->b∈X.fs->b∉ch->s.heap.get? b=k0 o->H b=y0-> ∃sl,h'.get? b=k0 { o with slots:=sl }) (f: ∀b o,b∉ch->s.heap.get? b=k0 o->H b=y0->H' b=y0)
 (there: ∀b o,b∉ch->s.heap.get? b=k0 o-> ∃o',h'.get? b=k0 o')
 (B: ∀b xs,H b=k0 (.tup xs)->H' b=k0 (.tup xs)) (E: ∀b o u,H b=k0 (.d9 o u)->H' b=k0 (.d9 o u)) (C: ∀b ps,H b=k0 (.gO ps)-> ∃more,H' b=k0 (.gO (ps++more)))
 (ns: ∀m,s.heap.Ns X.env.locals m->h'.Ns X.env.locals m) (F:cM X.prog X.w H' h') (P:AllBare g'):
 Inv X k8 U H' { s with heap:=h',gens:=g',drawn:=d',toks:=t' }:=by
 have D: ∀b o,X.s₀.heap.get? b=k0 o->b≠X.env.locals:=λb o e=>Ac7 (Ab3 (Ac e) I.ok.above)
 have t: ∀b o,X.s₀.heap.get? b=k0 o->b∉X.ex->b∉ch:=λb o e a y=>by
  obtain z | z:=(h b y).1
  ·exact a z
  ·exact absurd (Ab3 (Ac e) z) (Ai1 _)
 have g: ∀x c,X.env.cells.lookup x=k0 c-> ∀v,s.heap.IsCell c v->h'.IsCell c v:=by
  rintro x c e v ⟨o,A,G⟩
  have j:=λz=>(h c z).2.2.1 x c e rfl
  by_cases L:c∈X.fs
  ·obtain⟨sl,q⟩:=w c o (I.iE x c e) L j A (I.cD x c e)
   exact⟨_,q,G⟩
  ·exact⟨o,keep c o (I.iE x c e) L j A (I.cD x c e),G⟩
 refine⟨I.ok,I.os,P,⟨λb o e n y a=> ?_,λb o e n y a=> ?_,λb o e n a=> ?_,λb o e a=> ?_,λb xs e=>B b xs (I.base.dM b xs e),λb o xs e=>E b o xs (I.base.dt b o xs e),λb ps e=> ?_⟩,?_,λx c e=> ?_,?_,λx c e=> ?_,λp K=> ?_,F,I.len⟩
 ·exact keep b o (D b o e) y (t b o e a) (I.base.keep b o e n y a) (I.base.free b o e n a)
 ·obtain⟨sl,e1⟩:=I.base.slot b o e n y a
  obtain⟨J,e2⟩:=w b _ (D b o e) y (t b o e a) e1 (I.base.free b o e n a)
  exact⟨J,e2⟩
 ·obtain⟨o',e1⟩:=I.base.there b o e a
  exact f b o' (t b o e a) e1 (I.base.free b o e n a)
 ·obtain⟨o',e1⟩:=I.base.there b o e a
  exact there b o' (t b o e a) e1
 ·obtain⟨N,e1⟩:=I.base.dF b ps e
  obtain⟨R,e2⟩:=C b _ e1
  exact⟨N++R,by rw [e2,Array.append_assoc]⟩
 ·obtain⟨m,Q,O⟩:=I.loc
  refine⟨m,ns m Q,λi x v e1 e2 S=> ?_⟩
  obtain⟨u,r,l⟩:=O i x v e1 e2 S
  refine⟨u,r,?_⟩
  obtain l | ⟨k,c,e,z⟩:=l
  ·exact .inl l
  ·exact .inr ⟨k,c,e,g x c e _ z⟩
 ·obtain⟨v,z⟩:=I.cell x c e
  exact⟨v,g x c e v z⟩
 ·obtain⟨m,⟨o,_,_,A,_⟩,_⟩:=I.loc
  exact f _ o (λz=>(h _ z).2.1 rfl) A I.free
 ·obtain⟨v,o,A,G⟩:=I.cell x c e
  exact f c o (λz=>(h c z).2.2.1 x c e rfl) A (I.cD x c e)
 ·obtain⟨e,n,ne,M,d⟩:=I.pin p K
  have j:=λz=>(h p.1 z).2.2.2 p K rfl
  exact⟨keep p.1 p.2 ne M j e n,f p.1 p.2 j e n,ne,M,d⟩
def Inv.un (I:Inv X k8 U H s) (u:Un X.fs [] H H' s.heap h') (f:cM X.prog X.w H' h'):Inv X k8 U H' { s with heap:=h',toks:=t' }:=by
 obtain⟨m,⟨o,p,t,h,r⟩,_⟩:=id I.loc
 obtain⟨sl,j⟩:=u.any h I.free (by simp)
 exact I.step (ch:= []) (λ_ z=>nomatch z) (λb o _ d _ e n=>u.keep b o e n d (by simp)) (λb o _ d _ e n=>u.slot b o e n d (by simp)) (λb o _ e n=>u.free b o e n (by simp)) (λb o _ e=>u.there b o e (by simp)) u.dM u.dt u.dF (λl k=>by
  obtain⟨q,c,g,a,i⟩:=k
  rw [h]at a;cases a
  exact⟨_,c,g,j,i⟩) f I.bare
def Inv.call (I:Inv X k8 U H s) (u:Un (cV X.stack) ch H H' s.heap h') (i:cM X.prog X.w H' h') (t:AllBare g')
 (d: ∀b∈ch,(b∈X.ex\/X.s₀.heap.objs.size<=b)/\b≠X.env.locals/\(∀ x c,X.env.cells.lookup x=k0 c->c≠b)/\ ∀p∈X.pn++k8,p.1≠b):
 Inv X k8 U H' { s with heap:=h',gens:=g',drawn:=d',toks:=t' }:=by
 obtain⟨m,⟨o,y,B,k,r⟩,_⟩:=id I.loc
 obtain⟨sl,h⟩:=u.any k I.free λz=>(d _ z).2.1 rfl
 exact I.step d (λb o h q a e n=>u.keep b o e n (λz=>(Ac1.mp (I.dG b z)).elim h q) a) (λb o _ _ a e n=>u.any e n a) (λb o a e n=>u.free b o e n a) (λb o a e=>u.there b o e a) u.dM u.dt u.dF (λw v=>by
  obtain⟨A,g,j,f,l⟩:=v
  rw [k]at f;cases f
  exact⟨_,g,j,h,l⟩) i t
def Inv.turned (I:Inv X k8 U H s) (k: ∀b o,b≠it->s.heap.get? b=k0 o->h'.get? b=k0 o) (i:H it=y0) (f:it≠X.env.locals)
 (h1:it∈X.ex\/X.s₀.heap.objs.size<=it) (t: ∀x c,X.env.cells.lookup x=k0 c->c≠it) (j: ∀p∈X.pn++k8,p.1≠it):Inv X k8 U H { s with heap:=h',toks:=t' }:=by
 have d: ∀b u,H b=k0 u->b≠it:=λb u e z=>by rw [z,i]at e;cases e
 refine I.step (ch:= [it]) (λb h=> ?_) (λb o _ _ a e _=>k b o (λz=>a (by simp [z])) e) (λb o _ _ a e _=>⟨o.slots,k b o (λz=>a (by simp [z])) e⟩) (λ_ _ _ _ n=>n)
  (λb o a e=>⟨o,k b o (λz=>a (by simp [z])) e⟩) (λ_ _ e=>e) (λ_ _ _ e=>e) (λb A e=>⟨#[],by rw [e];simp⟩) (λm y=> ?_) (λb u e=> ?_) I.bare
 ·have e:=by simpa using h
  subst e
  exact⟨h1,f,t,j⟩
 ·obtain⟨o,g,w,l,r⟩:=y
  exact⟨o,g,w,k _ o (Ne.symm f) l,r⟩
 ·refine(I.bf b u e).dW (λc v a q=>k c v ?_ q) (λ_ q=>q) λ_ _ q=>q
  obtain z | z:=a
  ·rw [z];exact d b u e
  ·exact d c _ z
def Inv.tok (I:Inv X k8 U H s) (t):Inv X k8 U H { s with toks:=t }:=I.un Un.refl I.bf
theorem Inv.kept (I:Inv X k8 U H s) (k: ∀b u,s.heap.get? b=k0 u->h'.get? b=k0 u):Inv X k8 U H { s with heap:=h',toks:=t' }:=I.un (Un.kept k) (I.bf.kept k)
theorem Inv.laid (I:Inv X k8 U H s) (k: ∀b u,s.heap.get? b=k0 u->h'.get? b=k0 u) (c:s.heap.objs.size<=a) (new:aV X.prog X.w (aR H a o) h' a o):
 Inv X k8 U (aR H a o) { s with heap:=h',toks:=t' }:=I.un (Un.laid k c (I.bf.fresh c)) (I.bf.laid k c new)
theorem Inv.write (I:Inv X k8 U H s) (d:lW (H x)) (c:e=x\/H e=k0 (.own x)) (k: ∀b u,b≠e->s.heap.get? b=k0 u->h'.get? b=k0 u) (a: ∃u,h'.get? e=k0 u)
 (new:aV X.prog X.w (aR H x o) h' x o):Inv X k8 U (aR H x o) { s with heap:=h',toks:=t' }:=I.un (Un.write d c k a) (I.bf.write d c k a new)
def Inv.bT (I:Inv X k8 U H s) (h: ∀p∈pins',s.heap.get? p.1=k0 p.2/\H p.1=y0/\p.1≠X.env.locals/\p.1∉X.fs/\ ∀v,p.2.data≠ .cell v):Inv X pins' U H s:=
 ⟨I.ok,I.os,I.bare,I.base,I.loc,I.cell,I.free,I.cD,λp a=>(Ad8.mp a).elim (λz=>I.pin p (Ah3 _ z)) (h p),I.bf,I.len⟩
def vF {N:List Str}(c:N.Nodup){i j:Nat}(a:N[i]? =k0 x) (b:N[j]? =k0 x):i=j:=by
 obtain⟨d,e1⟩:=Aa1.mp a
 obtain⟨e,e2⟩:=Aa1.mp b
 exact(List.getElem_inj c).mp (e1.trans e2.symm)
def yh (I:Inv X k8 U H s) (hN:X.N.Nodup) (K:X.N[i]? =k0 x) (t:iN X.env.scope x) (r:RelV v u)
 (h: ∀s',Inv X k8 (U.set i (k0 v)) H s'->(∃ a,An0 a s.heap s'.heap/\(a=X.env.locals\/X.env.cells.lookup x=k0 a))->Q () s') (hf:X.fn x=u0\/X.env.scope.names.lookup x=k0 .local:=by first | exact .inl rfl | exact .inr rfl | assumption):wpAny M A (storeName X.env x u) Q E s:=by
 obtain⟨m,Z,hl⟩:=id I.loc
 have J:(X.env.scope.kind== .class||(X.env.scope.kind== .module&&X.env.locals != X.env.globals))=false:=by rw [I.ok.kind];rfl
 have P:i<U.length:=by rw [I.len];exact(Aa1.mp K).1
 have iE:=I.iE
 have g: ∀ {a}{G},(∃ o,s.heap.get? a=k0 o/\H a=y0)->An0 a s.heap G->cM X.prog X.w H G:=λ{a G} ha f b ob e=>by
  obtain⟨_,_,w⟩:=ha
  refine(I.bf b ob e).dW (λc S l q=>(f.2 c ?_).trans q) (λ_ q=>q) λ_ _ q=>q
  rintro rfl
  obtain rfl | l:=l
  ·rw [w]at e;cases e
  ·rw [w]at l;cases l
 obtain B | B:=t
 ·refine wpAny_storeName_local B Z (λG hn' f=> ?_) J
  obtain⟨oL,_,_,W,_⟩:=id Z
  refine h _ ⟨I.ok,I.os,I.bare,⟨λb o e n C t=> ?_,λb o e n C t=> ?_,I.base.free,λb o e t=> ?_,I.base.dM,I.base.dt,I.base.dF⟩,⟨_,hn',λj y v' e1 e2 e3=> ?_⟩,λy c e=> ?_,I.free,I.cD,λp Y=> ?_,g ⟨oL,W,I.free⟩ f,by simpa using I.len⟩ ⟨_,f,.inl rfl⟩
  ·exact(f.2 b (Ac7 (Ab3 (Ac e) I.ok.above))).trans (I.base.keep b o e n C t)
  ·obtain⟨sl,e1⟩:=I.base.slot b o e n C t
   exact⟨sl,(f.2 b (Ac7 (Ab3 (Ac e) I.ok.above))).trans e1⟩
  ·obtain⟨V,e1⟩:=I.base.there b o e t
   exact⟨V,(f.2 b (Ac7 (Ab3 (Ac e) I.ok.above))).trans e1⟩
  ·by_cases D:j=i
   ·subst D
    rw [K]at e1;cases e1
    rw [Ab4 P]at e2
    cases e2
    exact⟨u,r,.inl ⟨B,by simp⟩⟩
   ·rw [Ae (Ne.symm D)]at e2
    obtain⟨u',T,q⟩:=hl j y v' e1 e2 e3
    refine⟨u',T,?_⟩
    obtain⟨k,e⟩ | ⟨k,c,e,z⟩:=q
    ·refine .inl ⟨k,?_⟩
     have:y≠x:=λe=>D (vF hN e1 (e▸K))
     simp [this,e]
    ·exact .inr ⟨k,c,e,z.sameBut f (iE y c e)⟩
  ·obtain⟨S,z⟩:=I.cell y c e
   exact⟨S,z.sameBut f (iE y c e)⟩
  ·obtain⟨e,n,ne,nf,d⟩:=I.pin p Y
   exact⟨(f.2 p.1 ne).trans e,n,ne,nf,d⟩
 ·have F:X.fn x=true:=by
   obtain z | z:=hf
   ·exact z
   ·rw [z]at B;cases B
  obtain⟨c,l⟩:=I.ok.has x (.inl B)
  obtain⟨S,z⟩:=I.cell x c l
  refine wpAny_storeName_cell I.ok.kind B l z (λG N f=> ?_)
  obtain⟨oc,O,hocd⟩:=id z
  refine h { s with heap:=G } ⟨I.ok,I.os,I.bare,⟨λb o e n C t=> ?_,λb o e n C t=> ?_,I.base.free,λb o e t=> ?_,I.base.dM,I.base.dt,I.base.dF⟩,⟨m,Z.sameBut f (Ne.symm (iE x c l)),λj y v' e1 e2 e3=> ?_⟩,λy R e=> ?_,I.free,I.cD,λp Y=> ?_,g ⟨oc,O,I.cD x c l⟩ f,by simpa using I.len⟩ ⟨c,f,.inr l⟩
  ·exact(f.2 b (Ac7 (Ab3 (Ac e) (I.ok.mX x c F l)))).trans (I.base.keep b o e n C t)
  ·obtain⟨sl,e1⟩:=I.base.slot b o e n C t
   exact⟨sl,(f.2 b (Ac7 (Ab3 (Ac e) (I.ok.mX x c F l)))).trans e1⟩
  ·obtain⟨V,e1⟩:=I.base.there b o e t
   exact⟨V,(f.2 b (Ac7 (Ab3 (Ac e) (I.ok.mX x c F l)))).trans e1⟩
  ·by_cases D:j=i
   ·subst D
    rw [K]at e1;cases e1
    rw [Ab4 P]at e2
    cases e2
    exact⟨u,r,.inr ⟨.inl B,c,l,N⟩⟩
   ·rw [Ae (Ne.symm D)]at e2
    obtain⟨u',T,q⟩:=hl j y v' e1 e2 e3
    refine⟨u',T,?_⟩
    obtain q | ⟨k,R,e,z'⟩:=q
    ·exact .inl q
    ·refine .inr ⟨k,R,e,z'.sameBut f ?_⟩
     rintro rfl
     exact D (vF hN e1 (I.ok.inj _ _ _ e l▸K))
  ·by_cases L:R=c
   ·subst L;exact⟨_,N⟩
   ·obtain⟨w2,z2⟩:=I.cell y R e
    exact⟨w2,z2.sameBut f L⟩
  ·obtain⟨e,n,ne,nf,d⟩:=I.pin p Y
   refine⟨(f.2 p.1 ?_).trans e,n,ne,nf,d⟩
   intro q
   rw [q,O]at e
   have q':=Ad5.inj e
   exact d S (by simp_all)
def WO (I:Inv X k8 U H s) (e:X.N.Nodup) (c:X.N[i]? =k0 x) (b:iN X.env.scope x) (r:RelV v u)
 (h: ∀s',Inv X k8 (U.set i (k0 v)) H s'->Q () s') (a:X.fn x=u0\/X.env.scope.names.lookup x=k0 .local:=by first | exact .inl rfl | exact .inr rfl | assumption):wpAny M A (storeName X.env x u) Q E s:=
 yh I e c b r (λs' d _=>h s' d) a
def Inv.gT (I:Inv X k8 U H s) (g:s'.os=s.os) (u:Un (cV X.stack) ch H H' s.heap s'.heap) (a:cM X.prog X.w H' s'.heap) (f:AllBare s'.gens)
 (d: ∀b∈ch,(b∈X.ex\/X.s₀.heap.objs.size<=b)/\b≠X.env.locals/\(∀ x c,X.env.cells.lookup x=k0 c->c≠b)/\ ∀p∈X.pn++k8,p.1≠b):Inv X k8 U H' s':=by
 obtain⟨i,j,l,k,h⟩:=s'
 have e:=g
 subst e
 exact I.call u a f d
end
abbrev XK:=Value->Option Addr->Hp->Prop
abbrev St:=List (Option V)
abbrev VK:=V->Hp->Prop
abbrev TE:=St->Hp->VK->Prop
abbrev TT:=St->Hp->(Bool->Hp->Prop)->Prop
abbrev TA:=St->Hp->(List V->Hp->Prop)->Prop
structure iw where
 nx:St->Hp->Prop
 rt:VK
 bk:St->Hp->Prop:=λ_ _=>False
 ct:St->Hp->Prop:=λ_ _=>False
abbrev TS:=iw->St->Hp->Prop
def EP (X:Cx) (a:List (Addr×Obj)) (U:St) (Q:VK) (u:Value) (s':Shared):Prop:= ∃v H',Inv X a U H' s'/\RelV v u/\Q v H'
def TP (X:Cx) (a:List (Addr×Obj)) (U:St) (Q:Bool->Hp->Prop) (b:Bool) (s':Shared):Prop:= ∃H',Inv X a U H' s'/\Q b H'
def AP (X:Cx) (a:List (Addr×Obj)) (U:St) (Q:List V->Hp->Prop) (c:List Value) (s':Shared):Prop:= ∃b H',Inv X a U H' s'/\Vals b c/\Q b H'
def SP (X:Cx) (a:List (Addr×Obj)) (D:iw) (f:Flow) (s':Shared):Prop:=
 match f with
 | .next=> ∃b H',Inv X a b H' s'/\D.nx b H'
 | .brk=> ∃b H',Inv X a b H' s'/\D.bk b H'
 | .cont=> ∃b H',Inv X a b H' s'/\D.ct b H'
 | .ret u=> ∃v b H',Inv X a b H' s'/\RelV v u/\D.rt v H'
def PE (X:Cx) (e:Expr) (t:TE):Prop:=
 ∀(k8:List (Addr×Obj)) (s:Shared) (U:St) (H:Hp) (Q:VK),Inv X k8 U H s->t U H Q->wpAny (model X.prog X.w) X.A (eval e X.env) (EP X k8 U Q) X.xe s
def PT (X:Cx) (e:Expr) (t:TT):Prop:=
 ∀(k8:List (Addr×Obj)) (s:Shared) (U:St) (H:Hp) (Q:Bool->Hp->Prop),Inv X k8 U H s->t U H Q->wpAny (model X.prog X.w) X.A (isTrue e X.env (eval e X.env)) (TP X k8 U Q) X.xe s
def PW (X:Cx) (e:Expr) (t:TT):Prop:=
 ∀(a:Sem Value) (k8:List (Addr×Obj)) (s:Shared) (U:St) (H:Hp) (Q:Bool->Hp->Prop),Inv X k8 U H s->t U H Q->wpAny (model X.prog X.w) X.A (isTrue e X.env a) (TP X k8 U Q) X.xe s
def PW.pt (h:PW X e t):PT X e t:=h _
def PA (X:Cx) (es:List Expr) (t:TA):Prop:=
 ∀(pos:Pos) (k8:List (Addr×Obj)) (s:Shared) (U:St) (H:Hp) (Q:List V->Hp->Prop),Inv X k8 U H s->t U H Q->wpAny (model X.prog X.w) X.A (spliced (backTo pos (starEach es X.env))) (AP X k8 U Q) X.xe s
def PS (X:Cx) (st:Stmt) (t:TS):Prop:=
 ∀(k8:List (Addr×Obj)) (s:Shared) (U:St) (H:Hp) (D:iw),Inv X k8 U H s->t D U H->wpAny (model X.prog X.w) X.A (exec st X.env) (SP X k8 D) X.xe s
def cQ (X:Cx) (st:List Stmt) (t:TS):Prop:=
 ∀(k8:List (Addr×Obj)) (s:Shared) (U:St) (H:Hp) (D:iw),Inv X k8 U H s->t D U H->wpAny (model X.prog X.w) X.A (execs st X.env) (SP X k8 D) X.xe s
def aP (h:wpAny M A t Q E s) (b: ∀a s,Q a s->Q' a s):wpAny M A t Q' E s:=wpAny_mono h b λ_ _ x=>x
section
variable {X:Cx}
def bin (d:PE X a ta) (g:PE X b tb){R:V->V->Hp->Prop}(I:Inv X k8 U H s) (h:ta U H λx H1=>tb U H1 λy H2=>R x y H2)
 {f:Value->Value->Sem α}
 (l: ∀v u L x y H2,Inv X k8 U H2 L->RelV x v->RelV y u->R x y H2->wpAny (model X.prog X.w) X.A (f v u) Q X.xe L):
 wpAny (model X.prog X.w) X.A (eval a X.env) (λv j=>wpAny (model X.prog X.w) X.A (eval b X.env) (λu J=>wpAny (model X.prog X.w) X.A (f v u) Q X.xe J) X.xe j) X.xe s:=by
 refine aP (d k8 s U H _ I h) ?_
 rintro v k ⟨x,H1,m,i,c⟩
 refine aP (g k8 k U H1 _ m c) ?_
 rintro u L ⟨y,H2,n,o,e⟩
 exact l v u L x y H2 n i o e
def md (i:Nat):TE:=λU H Q=> ∃v,U[i]? =k0 (k0 v)/\Q v H
def tC (v:V):TE:=λ_ H Q=>Q v H
def XD (k:X.N[i]? =some x) (p:lu X.env.scope x) (g:(x==("__debug__" :Str))=false:=by decide) (f:(x==("__classdict__" :Str))=false:=by decide):PE X (.Name x pos) (md i):=by
 intro d s U H Q I h
 obtain⟨v,e,h⟩:=h
 obtain⟨m,o,n⟩:=I.loc
 obtain⟨u,r,l⟩:=n i x v k e p
 have fin:EP X d U Q u s:=⟨v,H,I,r,h⟩
 obtain⟨b,q⟩ | ⟨b,c,j,a⟩:=l
 ·exact wpAny_Name (wpAny_loadName_local I.ok.kind b o q fin) g
 ·obtain b | b:=b
  ·exact wpAny_Name (wpAny_loadName_cell I.ok.kind b j a fin) g
  ·exact wpAny_Name (wpAny_loadName_free I.ok.kind b j a fin f) g
def F5 {i j pos}:PE X (.Constant (.int i) j pos) (tC (.int i)):=λ_ _ _ H _ I h=>wpAny_Constant_int ⟨.int i,H,I.tok _,⟨_,rfl⟩,h⟩
def DT {b j pos}:PE X (.Constant (.bool b) j pos) (tC (.bl b)):=λ_ _ _ H _ I h=>Constant_bool ⟨.bl b,H,I,rfl,h⟩
def yM {j pos}:PE X (.Constant .none j pos) (tC .ak):=λ_ _ _ H _ I h=>Constant_none ⟨.ak,H,I,rfl,h⟩
def oN {x j pos}:PE X (.Constant (.str x) j pos) (tC (.str x)):=λ_ _ _ H _ I h=>Calls.Constant_str ⟨.str x,H,I.tok _,⟨_,rfl⟩,h⟩
def Gl (X:Cx) (x:Str):Prop:=X.env.kindOf x=k0 .globalImplicit
def WQ (I:Inv X k8 U H s) (a:Gl X x) (c:X.mg x=k0 u) (h:Q u s)
 (b:(x==("__debug__" :Str))=false:=by decide):wpAny (model X.prog X.w) X.A (eval (.Name x pos) X.env) Q E s:=
 Calls.Name_function_global I.ok.kind a (Calls.loadGlobal_global (by rw [I.ok.glob];exact I.mod.glob.keeps I.bk) c h) b
def wN (I:Inv X k8 U H s) (b:Gl X x) (g:X.mg x=y0) (a:bootBuiltins x=k0 u) (h:Q u s)
 (d:x≠ "__name__" :=by decide) (f:(x==("__debug__" :Str))=false:=by decide):wpAny (model X.prog X.w) X.A (eval (.Name x pos) X.env) Q E s:=by
 obtain⟨i,c,e⟩:=I.mod.blt
 exact Calls.Name_function_global I.ok.kind b (Calls.loadGlobal_builtin (by rw [I.ok.glob];exact I.mod.glob.keeps I.bk) g (by rw [I.ok.blt];exact c.keeps I.bk) ((e x d).trans a) h) f
def C9 (a:Gl X x) (c:X.mg x=some u) (r:RelV v u) (b:(x==("__debug__" :Str))=false:=by decide):PE X (.Name x pos) (tC v):=
 λ_ _ _ H _ I h=>WQ I a c ⟨v,H,I,r,h⟩ b
def K9 (b:Gl X x) (e:X.mg x=none) (a:bootBuiltins x=some u) (r:RelV v u) (c:x≠ "__name__" :=by decide) (d:(x==("__debug__" :Str))=false:=by decide):PE X (.Name x pos) (tC v):=
 λ_ _ _ H _ I h=>wN I b e a ⟨v,H,I,r,h⟩ c d
variable {a b:Expr}{ta tb:TE}{pos:Pos}
def PC (X:Cx) (e:CmpOp) (a b:Expr) (t:TE):Prop:=
 ∀(k8:List (Addr×Obj)) (s:Shared) (U:St) (H:Hp) (Q:VK),Inv X k8 U H s->t U H Q →
  wpAny (model X.prog X.w) X.A (eval a X.env) (λv d=>wpAny (model X.prog X.w) X.A (eval b X.env) (λu c=>wpAny (model X.prog X.w) X.A (compareOp e v u) (EP X k8 U Q) X.xe c) X.xe d) X.xe s
def X9 (b)(h:op≠ .In) (a:op≠ .NotIn):behindInMarks op b=false:=by
 have e1:(op==CmpOp.In)=false:=by cases op<;>first | rfl | exact absurd rfl h
 have e2:(op==CmpOp.NotIn)=false:=by cases op<;>first | rfl | exact absurd rfl a
 cases b<;>simp [behindInMarks,e1,e2]
def EI (a:TE):TE:=λU H Q=>a U H λx H1=>Q (.bl (y9 (x= .ak))) H1
def yA (a:TE):TE:=λU H Q=>a U H λx H1=>Q (.bl (!y9 (x= .ak))) H1
def RelV.dY (r:RelV x v):(v==Value.none)=y9 (x= .ak):=by
 cases x with
 | ak=>cases r;rfl
 | bl _=>cases r;rfl
 | int _=>obtain⟨t,rfl⟩:=r;rfl
 | str _=>obtain⟨t,rfl⟩:=r;rfl
 | ie _=>obtain⟨t,rfl⟩:=r;rfl
 | gL _=>obtain⟨t,rfl⟩:=r;rfl
 | ref _=>cases r;rfl
 | ty _=>cases r;rfl
def uz {j pos'}(c:PE X a ta):PC X .Is a (.Constant .none j pos') (EI ta):=by
 intro b s U H Q I h
 refine aP (c b s U H _ I h) ?_
 rintro v i ⟨x,d,f,e,g⟩
 exact Constant_none (is_none_gen ⟨.bl _,d,f,by rw [e.dY];rfl,g⟩)
def tx {j pos'}(c:PE X a ta):PC X .IsNot a (.Constant .none j pos') (yA ta):=by
 intro b s U H Q I h
 refine aP (c b s U H _ I h) ?_
 rintro v i ⟨x,d,f,e,g⟩
 exact Constant_none (isnot_none_gen ⟨.bl _,d,f,by rw [e.dY];rfl,g⟩)
def tB (t:TE):TT:=λU H Q=>t U H λx H1=> ∃c,x= .bl c/\Q c H1
def pb (h:PC X op a b t) (h1:behindInMarks op b=false:=by first | exact X9 _ (by decide) (by decide) | rfl):PE X (.Compare a [op] [b] pos) t:=λc s U H Q I d=>wpAny_Compare1 (h c s U H Q I d) h1
def uT (h:PC X op a b t) (h1:behindInMarks op b=false:=by first | exact X9 _ (by decide) (by decide) | rfl):PT X (.Compare a [op] [b] pos) (tB t):=by
 intro e s U H Q I f
 refine wpAny_isTrue_Compare1 (aP (h e s U H _ I f) λv o h1=>aP h1 λu m k=>aP k λc n ⟨x,i,l,j,g⟩=> ?_) h1
 obtain⟨d,rfl,q⟩:=g
 cases j
 exact wpAny_truthy_bool ⟨i,l,q⟩
variable {tA tB':TT}{qt:List Expr}
def EB (t u:TT):TT:=λU H Q=>t U H λc H1=>if c=u0 then u U H1 Q else Q k9 H1
def HK (t u:TT):TT:=λU H Q=>t U H λc H1=>if c=u0 then Q u0 H1 else u U H1 Q
def Dy (t:TT):TT:=λU H Q=>t U H λc H1=>Q (!c) H1
def EK (d:PT X a tA):PW X (.BoolOp .And [a] pos) tA:=by
 intro g b s U H Q I h
 refine isTrue_and (aP (d b s U H Q I h) λc f e=> ?_)
 cases c with
 | true=>exact isTrue_and_nil e
 | false=>exact e
def DL (d:PT X a tA):PW X (.BoolOp .Or [a] pos) tA:=by
 intro g b s U H Q I h
 refine isTrue_or (aP (d b s U H Q I h) λc f e=> ?_)
 cases c with
 | false=>exact isTrue_or_nil e
 | true=>exact e
def HI (i:PT X a tA) (j:PW X (.BoolOp .And (b::qt) pos) tB'):PW X (.BoolOp .And (a::b::qt) pos) (EB tA tB'):=by
 intro l d s U H Q I h
 refine isTrue_and (aP (i d s U H _ I h) ?_)
 rintro c k ⟨e,f,g⟩
 cases c with
 | true=>exact j l d k U e Q f g
 | false=>exact⟨e,f,g⟩
def K1 (i:PT X a tA) (j:PW X (.BoolOp .Or (b::qt) pos) tB'):PW X (.BoolOp .Or (a::b::qt) pos) (HK tA tB'):=by
 intro l d s U H Q I h
 refine isTrue_or (aP (i d s U H _ I h) ?_)
 rintro c k ⟨e,f,g⟩
 cases c with
 | true=>exact⟨e,f,g⟩
 | false=>exact j l d k U e Q f g
def CM (d:PT X a tA):PT X (.UnaryOp .Not a pos) (Dy tA):=by
 intro b s U H Q I h
 exact isTrue_not (d b s U H (λc e=>Q (!c) e) I h)
def vJ {op}(h:PE X a t):PE X (.BoolOp op [a] pos) t:=λb s U H Q I c=>BoolOp_one (h b s U H Q I c)
end
def bz (K:Aa6) (H:Hp) (a:Addr) (xs:List V):Prop:=
 Rd H a (.lst xs) ∨
  ∃(o:Obj) (b:Array Value) (n:Nat),K.lookup a=some o/\o.cls= .type "list" /\o.dict=none/\o.data= .seq b n/\b.size<=sizeLine/\Vals xs b.toList
def cx (K:Aa6) (H:Hp) (a:Addr) (xs:List V):Prop:=
 Rd H a (.tup xs) ∨
  ∃(o:Obj) (b:Array Value) (n:Nat),K.lookup a=k0 o/\o.cls= .type "tuple" /\o.data= .seq b n/\b.size<=sizeLine/\Vals xs b.toList
noncomputable def Hh:Value->Option V
 | .none=>k0 .ak
 | .bool b=>k0 (.bl b)
 | .int i _=>k0 (.int i)
 | .str x _=>k0 (.str x)
 | .bytes b _=>k0 (.ie b)
 | .float b _=>k0 (.gL b)
 | .ref a=>k0 (.ref a)
 | .type n=>k0 (.ty n)
 | _=>y0
def RelV.abs (r:RelV x u):Hh u=k0 x:=by
 cases x with
 | ak=>cases r;rfl
 | bl _=>cases r;rfl
 | int _=>obtain⟨t,rfl⟩:=r;rfl
 | str _=>obtain⟨t,rfl⟩:=r;rfl
 | ie _=>obtain⟨t,rfl⟩:=r;rfl
 | gL _=>obtain⟨t,rfl⟩:=r;rfl
 | ref _=>cases r;rfl
 | ty _=>cases r;rfl
theorem RelV.inj (r:RelV x u) (q:RelV y u):x=y:=Ad5.inj (r.abs.symm.trans q.abs)
theorem Vals.inj: ∀ {xs ys}{j},Vals xs j->Vals ys j->xs=ys
 | _,_,_,.nil,.nil=>rfl
 | _,_,_,.cons r t,.cons a b=>by rw [r.inj a,Vals.inj t b]
section
variable {X:Cx}{k8:List (Addr×Obj)}{U:St}{H:Hp}{s:Shared}{a:Addr}{xs ys:List V}
def bz.of {K:Aa6}(h:H a=k0 (.lst xs)):bz K H a xs:= .inl (.inl h)
def Inv.list (I:Inv X k8 U H s) (h:bz X.K H a xs): ∃j:List Value,Vals xs j/\PlainL s.heap a j.toArray/\xs.length<=sizeLine:=by
 obtain h | ⟨o,j,n,c,b,f,d,g,r⟩:=h
 ·obtain⟨z,j,n,r,e⟩:=h.ok I.bf
  exact⟨j,r,⟨_,n,e,rfl,rfl,rfl⟩,z⟩
 ·refine⟨j.toList,r,⟨o,n,I.cb a o c,b,f,by simpa using d⟩,?_⟩
  have e:=r.length
  simp [Aj5]at e
  lia
def Inv.tuple (I:Inv X k8 U H s) (h:cx X.K H a xs): ∃j:List Value,Vals xs j/\IsTup s.heap a j.toArray/\xs.length<=sizeLine:=by
 obtain h | ⟨o,j,n,c,b,d,f,r⟩:=h
 ·obtain⟨z,j,r,p⟩:=h.ok I.bf
  exact⟨j,r,p.is,z⟩
 ·refine⟨j.toList,r,⟨o,I.cb a o c,b,n,by simpa using d⟩,?_⟩
  have e:=r.length
  simp [Aj5]at e
  lia
def Inv.dQ (I:Inv X k8 U H s) (h:bz X.K H a xs) (h':bz X.K H a ys):xs=ys:=by
 obtain⟨c,r,⟨o,n,e,_,_,d⟩,_⟩:=I.list h
 obtain⟨b,i,⟨k,l,f,_,_,g⟩,_⟩:=I.list h'
 rw [e]at f;cases f
 rw [d]at g
 injection g with j _
 have:c=b:=by simpa using congrArg Array.toList j
 subst this
 exact r.inj i
def Inv.eZ (I:Inv X k8 U H s) (h:cx X.K H a xs) (h':cx X.K H a ys):xs=ys:=by
 obtain⟨c,r,⟨o,e,_,n,d⟩,_⟩:=I.tuple h
 obtain⟨b,i,⟨k,f,_,l,g⟩,_⟩:=I.tuple h'
 rw [e]at f;cases f
 rw [d]at g
 injection g with j _
 have:c=b:=by simpa using congrArg Array.toList j
 subst this
 exact r.inj i
end
section
variable {X:Cx}{st:Stmt}{qt:List Stmt}{t u:TS}{e:Expr}{te:TE}{pos:Pos}
def Eg:TS:=λD U H=>D.nx U H
def C7 (t u:TS):TS:=λD U H=>t { D with nx:=u D } U H
def BY:cQ X [] Eg:=λ_ _ U H _ I h=>wpAny_execs_nil ⟨U,H,I,h⟩
def He (h1:PS X st t) (c:cQ X qt u):cQ X (st::qt) (C7 t u):=by
 intro a s U H D I h
 refine wpAny_execs_cons (aP (h1 a s U H { D with nx:=u D } I h) λf g q=> ?_)
 cases f with
 | next=>
  obtain⟨b,e,d,q⟩:=q
  exact c a g b e D d q
 | ret v=>exact q
 | brk=>exact q
 | cont=>exact q
def Inv.quiet (I:Inv X k8 U H s):interactive X.env=false:=by simp [interactive,I.ok.kind]
def Ax (a:TE):TS:=λD U H=>a U H λ_ H1=>D.nx U H1
def j6 (c:PE X e te) (d:swapsWith e y0 pos.line X.env=pure false:=by rfl):PS X (.Expr e pos) (Ax te):=by
 intro a s U H D I h
 exact wpAny_Expr_any (aP (c a s U H _ I h) λv j ⟨x,b,f,i,g⟩=>⟨U,b,f,g⟩) I.quiet d
def EA (a:TE):TS:=λD U H=>a U H D.rt
def u1 (c:PE X e te):PS X (.Return (k0 e) pos) (EA te):=by
 intro a s U H D I h
 exact wpAny_Return_some (aP (c a s U H _ I h) λv i ⟨x,b,f,d,g⟩=>⟨x,U,b,f,d,g⟩)
def yC (c:TT) (t u:TS):TS:=λD U H=>c U H λb H1=>if b=u0 then t D U H1 else u D U H1
def yg (l:PT X c tc) (k:cQ X a t) (m:cQ X b u):PS X (.If c a b pos) (yC tc t u):=by
 intro e s U H D I h
 refine wpAny_If (aP (l e s U H _ I h) ?_)
 rintro d j ⟨f,g,i⟩
 cases d with
 | true=>exact k e j U f D g i
 | false=>exact m e j U f D g i
end
abbrev TG:=V->St->Hp->(St->Hp->Prop)->Prop
abbrev i6:=List V->St->Hp->(St->Hp->Prop)->Prop
def PG (X:Cx) (a:Expr) (t:TG):Prop:=
 ∀(k8:List (Addr×Obj)) (s:Shared) (U:St) (H:Hp) (v:V) (u:Value) (Q:St->Hp->Prop),Inv X k8 U H s->RelV v u->t v U H Q →
  wpAny (model X.prog X.w) X.A (assign a X.env u) (λ_ s'=> ∃b H',Inv X k8 b H' s'/\Q b H') X.xe s
def kj (X:Cx) (d:List Expr) (t:i6):Prop:=
 ∀(k8:List (Addr×Obj)) (s:Shared) (U:St) (H:Hp) (c:List V) (b:List Value) (Q:St->Hp->Prop),Inv X k8 U H s->Vals c b->t c U H Q →
  wpAny (model X.prog X.w) X.A (assignInOrder ((assignEach d X.env).map (·.2)) b) (λ_ s'=> ∃a H',Inv X k8 a H' s'/\Q a H') X.xe s
abbrev sX:=V->V->V->Hp->(Hp->Prop)->Prop
def ny (X:Cx) (t:sX):Prop:=
 ∀(k8:List (Addr×Obj)) (s:Shared) (U:St) (H:Hp) (o i v:V) (b a u:Value) (Q:Hp->Prop),Inv X k8 U H s->RelV o b->RelV i a->RelV v u->t o i v H Q →
  wpAny (model X.prog X.w) X.A (setItem b a u) (λ_ s'=> ∃H',Inv X k8 U H' s'/\Q H') X.xe s
section
variable {X:Cx}{pos:Pos}
def JT (i:Nat):TG:=λv U H Q=>Q (U.set i (k0 v)) H
def X6 (f:X.N.Nodup) (c:X.N[i]? =k0 x) (b:iN X.env.scope x) (e:X.fn x=u0\/X.env.scope.names.lookup x=k0 .local:=by first | exact .inl rfl | exact .inr rfl | assumption):PG X (.Name x pos) (JT i):=by
 intro a s U H v u Q I r h
 exact wpAny_assign_Name (WO I f c b r (λg d=>⟨_,H,d,h⟩) e)
def FF:i6:=λa U H Q=>a= []/\Q U H
def CC (t:TG) (u:i6):i6:=λb U H Q=> ∃v r,b=v::r/\t v U H λa H'=>u r a H' Q
def sJ:kj X [] FF:=by
 intro a s U H c b Q I r h
 obtain⟨e,h⟩:=h
 subst e
 cases r
 exact assignInOrder_nil ⟨U,H,I,h⟩
def qS (h1:PG X e t) (j:kj X es u)
 (b:(assignEach (e::es) X.env).map (·.2)=assign e X.env::(assignEach es X.env).map (·.2):=by rfl):kj X (e::es) (CC t u):=by
 intro a s U H l m Q I r h
 obtain⟨v,n,e1,h⟩:=h
 subst e1
 cases r with
 | cons r i=>
  rw [b]
  refine assignInOrder_cons (aP (h1 a s U H _ _ _ I r h) ?_)
  rintro _ g ⟨d,f,k,c⟩
  exact j a g d f _ _ Q k i c
def Eb (K:Aa6) (n:Nat) (t:i6):TG:=λv U H Q=> ∃a xs,v= .ref a/\cx K H a xs/\xs.length=n/\t xs U H Q
def uk (x:X.calm=u0) (h:kj X es t)
 (w:(assignEach es X.env).length=n:=by rfl) (f:(assignEach es X.env).findIdx? (·.1)=none:=by rfl):PG X (.Tuple es k pos) (Eb X.K n t):=by
 intro c s U H v u Q I r d
 obtain⟨a,q,e1,g,p,d⟩:=d
 subst e1
 cases r
 obtain⟨j,rv,l,z⟩:=I.tuple g
 refine assign_Tuple_tuple (I.ok.hd x) l (by simp [w,←p,rv.length]) f λm i=> ?_
 have y:Inv X c U H { s with heap:=m }:=I.kept λb o e=>i b o (Ac7 (Ac e)) e
 exact h c _ U H q _ Q y (by simp_all) d
def CH (b c:TE) (t:sX):TG:=λv U H Q=>b U H λo H1=>c U H1 λi H2=>t o i v H2 λa=>Q U a
def xT (m:PE X o to) (l:PE X i ti) (c:ny X t)
 (f: ∀v,assign (.Subscript o i pos) X.env v=(do
   let j ←holding [v] (eval o X.env)
   let J ←holding [v,j] (eval i X.env)
   standAt pos
   holding [v,j,J] (setItem j J v)
   release [v,j,J] []):=by intro _;rfl):PG X (.Subscript o i pos) (CH to ti t):=by
 intro a s U H v u Q I r h
 rw [f]
 refine wpAny_bind (wpAny_holding (aP (m a s U H _ I h) ?_))
 rintro j p ⟨x,g,A,n,d⟩
 refine wpAny_bind (wpAny_holding (aP (l a p U g _ A d) ?_))
 rintro J e ⟨y,q,B,C,k⟩
 refine wpAny_bind (wpAny_standAt (wpAny_bind (wpAny_holding (aP (c a e U q x y v j J u _ B n C r k) ?_))))
 rintro _ D ⟨b,w,z⟩
 exact wpAny_release ⟨U,b,w,z⟩
def gK (a:TE) (g:TG):TS:=λD U H=>a U H λx H1=>g x U H1 D.nx
def qI (l:PE X e te) (i:PG X tg g) (c:swapsWithSole [tg] e pos.line X.env=pure false:=by rfl) (b:swappedStores [tg] e X.env=pure none:=by rfl)
 (h1:(assignEach [tg] X.env).map (·.2)= [assign tg X.env]:=by rfl):PS X (.Assign [tg] e pos) (gK te g):=by
 intro a s U H D I h
 refine wpAny_Assign_stores (aP (l a s U H _ I h) λv k ⟨x,f,m,j,d⟩=> ?_) c b
 rw [h1]
 exact aP (i a k U f x v _ m j d) λ_ n q=>q
def BF (f:X.N.Nodup) (j:X.N[i]? =k0 x) (b:iN X.env.scope x) (m:PE X e te) (c:swapsWith e (k0 (.Name x pos')) pos.line X.env=pure false:=by rfl) (l:X.fn x=u0\/X.env.scope.names.lookup x=k0 .local:=by first | exact .inl rfl | exact .inr rfl | assumption):
 PS X (.Assign [.Name x pos'] e pos) (gK te (JT i)):=by
 intro a s U H D I h
 refine wpAny_Assign_Name (aP (m a s U H _ I h) λv q ⟨y,g,n,k,d⟩=> ?_) c
 exact WO n f j b k (λp o=>⟨_,g,o,d⟩) l
end
section
variable {X:Cx}{pos:Pos}
def Hl (c:TT) (tb:TS):TS:=λD U H=> ∃W:Nat->St->Hp->Prop,(∃ m,W m U H)/\ ∀m U H,W m U H →
 c U H λb H1=>if b=u0 then ∃N:St->Hp->Prop,(∀ a H',N a H'-> ∃d,d<m/\W d a H')/\tb { D with nx:=N,ct:=N,bk:=D.nx } U H1 else D.nx U H1
def K6 (w:PassesOwn (model X.prog X.w) X.A X.env X.xe) (J:PT X c tc) (C:cQ X body tb):PS X (.While c body [] pos) (Hl tc tb):=by
 intro a s U H D I h
 obtain⟨W,⟨E,L⟩,g⟩:=h
 refine wpAny_While (codeAny_whileLoop (λn F=> ∃t x,Inv X a t x F/\W n t x) ?_ E ⟨U,H,I,L⟩)
 rintro n G ⟨i,u,K,B⟩
 refine wpAny_passesOwn w (aP (J a G i u _ K (g n i u B)) ?_)
 rintro b A ⟨y,z,j⟩
 cases b with
 | true=>
  obtain⟨N,r,j⟩:=j
  refine wpAny_passesOwn w (aP (C a A i y _ z j) λf M k=> ?_)
  cases f with
  | next=>
   obtain⟨e,d,q,p⟩:=k
   obtain⟨l,o,m⟩:=r e d p
   exact⟨l,o,e,d,q,m⟩
  | cont=>
   obtain⟨e,d,q,p⟩:=k
   obtain⟨l,o,m⟩:=r e d p
   exact⟨l,o,e,d,q,m⟩
  | brk=>exact k
  | ret v=>exact k
 | false=>
  exact wpAny_execs_nil ⟨i,y,z,j⟩
end
structure It where
 go:Nat->Hp->Prop
 fg:Nat->Hp->V->Hp->Prop
 stop:Nat->Hp->Prop
def eU (X:Cx) (a:List (Addr×Obj)) (H:Hp) (b:Addr):Prop:=
 H b=y0/\b≠X.env.locals/\b∉X.fs/\(b∈X.ex\/X.s₀.heap.objs.size<=b)/\(∀ x c,X.env.cells.lookup x=k0 c->c≠b)/\ ∀p∈X.pn++a,p.1≠b
def Inv.dX (I:Inv X k8 U H s) (a:s.heap.objs.size<=b) (f:H' b=y0):eU X k8 H' b:=by
 refine⟨f,Nat.ne_of_gt (Ab3 I.lt a),I.nC a,.inr (Ab9 I.sz a),λx c e z=> ?_,λp d z=> ?_⟩
 ·obtain⟨v,q⟩:=I.cell x c e
  exact absurd (Ab3 q.lt (by simp_all)) (Ai1 _)
 ·exact absurd (Ab3 (Ac (I.pin p d).1) (by simp_all)) (Ai1 _)
structure iq (P:Program) (w:World) (K:Aa6) (tg:Expr) (J:It) (fp:List Addr) (it:Addr) (tn:Nat->Heap->Prop):Prop where
 mem:it∈fp
 obj: ∀i h,tn i h-> ∀b∈fp,∃o,h.get? b=k0 o/\ ∀v,o.data≠ .cell v
 keep: ∀i h h',tn i h->(∀ b∈fp,∀o,h.get? b=k0 o->h'.get? b=k0 o)->tn i h'
 item: ∀(X:Cx),X.prog=P->X.w=w->X.K=K->X.calm=u0-> ∀(i:Nat) (k8:List (Addr×Obj)) (s:Shared) (U:St) (H:Hp) (E:Value->Shared->Prop),Inv X k8 U H s->(∀ b∈fp,eU X k8 H b)->tn i s.heap->J.go i H →
  wpAny (model P w) X.A (pyNext (.ref it)) (λr s1=> ∃u,r=k0 u ∧
   wpAny (model P w) X.A (letOwnedTupleGo tg (.ref it) u) (λ_ s2=> ∃x H',Inv X k8 U H' s2/\RelV x u/\J.fg i H x H'/\tn (i+1) s2.heap/\ ∀b∈fp,H' b=y0) E s1) E s
 done: ∀(X:Cx),X.prog=P->X.w=w->X.K=K->X.calm=u0-> ∀(i:Nat) (k8:List (Addr×Obj)) (s:Shared) (U:St) (H:Hp) (E:Value->Shared->Prop),Inv X k8 U H s->(∀ b∈fp,eU X k8 H b)->tn i s.heap->J.stop i H →
  wpAny (model P w) X.A (pyNext (.ref it)) (λr s1=>r=y0/\Inv X k8 U H s1) E s
 self: ∀(A:Around) (i:Nat) (s:Shared) (Q:Value->Shared->Prop) (E:Value->Shared->Prop),tn i s.heap->Q (.ref it) s->wpAny (model P w) A (pyIter (.ref it)) Q E s
abbrev TI:=St->Hp->(It->Hp->Prop)->Prop
def rg (X:Cx) (a:List (Addr×Obj)) (U:St) (g:Expr) (R:It->Hp->Prop) (c:Value) (f:Shared):Prop:=
 ∃(d:Addr) (fp:List Addr) (e:Nat->Heap->Prop) (J:It) (H':Hp),c= .ref d/\Inv X a U H' f/\iq X.prog X.w X.K g J fp d e/\e 0 f.heap/\(∀ b∈fp,eU X a H' b)/\R J H'
def PI (X:Cx) (c a:Expr) (d:TI):Prop:=
 ∀(k8:List (Addr×Obj)) (s:Shared) (U:St) (H:Hp) (R:It->Hp->Prop),Inv X k8 U H s->d U H R →
  wpAny (model X.prog X.w) X.A (eval a X.env) (λv b=>wpAny (model X.prog X.w) X.A (pyIter v) (rg X k8 U c R) X.xe b) X.xe s
def i8 (c:s.heap.get? it=k0 o) (b:o.cls= .type n) (d:o.data= .fields vs)
 (e: ["enumerate", "zip", "dict_itemiterator", "dict_reverseitemiterator", "odict_iterator", "itertools.zip_longest", "itertools.pairwise"].contains n=false) (a:Q () s):wpAny M A (letOwnedTupleGo tg (.ref it) u) Q E s:=by
 cases tg<;>first
  | exact wpAny_pure a
  | (cases u<;>first
      | exact wpAny_pure a
      | (refine wpAny_bind (wpAny_load c ?_)
         rw [b,d]
         show wpAny M A (if _=u0 then _ else _) Q E s
         rw [if_neg (by lia)]
         exact wpAny_pure a))
noncomputable def mh (K:Aa6) (a:Addr):It:=
 ⟨λi H=> ∃xs x,bz K H a xs/\xs[i]? =k0 x,λi H x H'=>H'=H/\ ∀xs,bz K H a xs->xs[i]? =k0 x,λi H=> ∃xs,bz K H a xs/\xs.length<=i⟩
noncomputable def ke (K:Aa6) (a:Addr):It:=
 ⟨λi H=> ∃xs x,cx K H a xs/\xs[i]? =k0 x,λi H x H'=>H'=H/\ ∀xs,cx K H a xs->xs[i]? =k0 x,λi H=> ∃xs,cx K H a xs/\xs.length<=i⟩
def kY (a:Int) (n:Nat):It:=⟨λi _=>i<n,λi H x H'=>H'=H/\x= .int (a+i),λi _=>n<=i⟩
def AD {K:Aa6}(a it):iq P w K tg (mh K a) [it] it (λi h=>h.IsListIter it a i) where
 mem:=by simp
 obj:=λi h f b j=>by
  have e:=by simpa using j
  subst e
  obtain⟨o,e,c,d⟩:=f
  exact⟨o,e,λv z=>by rw [d]at z;cases z⟩
 keep:=λi h B f k=>f.at λo e=>k it (by simp) o e
 item:=by
  intro X D q J M i g s U H E I n f C
  subst D q J
  obtain⟨R,x,m,t⟩:=C
  obtain⟨A,rv,p,O⟩:=I.list m
  obtain⟨u,T,W⟩:=rv.get t
  obtain⟨F,r,Q,L,y,G⟩:=n it (by simp)
  refine wpAny_pyNext_list_item f p.isList (by simpa using T) λB l V=> ?_
  have Y:Inv X g U H { s with heap:=B }:=I.turned (λb o j e=>(V.2 b j).trans e) F r L y G
  obtain⟨o,e,c,d⟩:=id l
  exact⟨u,rfl,i8 e c d (by decide) ⟨x,H,Y,W,⟨rfl,λys S=>by rw [I.dQ S m];exact t⟩,l,λb j=>(n b j).1⟩⟩
 done:=by
  intro X D q J M i g s U H E I n f C
  subst D q J
  obtain⟨R,m,t⟩:=C
  obtain⟨A,rv,p,O⟩:=I.list m
  obtain⟨F,r,Q,L,y,G⟩:=n it (by simp)
  have Z:=rv.length
  exact wpAny_pyNext_list_end (I.ok.hd M) f p.isList (by simp;omega) λB N=>⟨rfl,I.turned (λb o j e=>N b o j e) F r L y G⟩
 self:=λ_ _ _ _ _ f h=>wpAny_pyIter_listiter f h
def A9 {K:Aa6}(a it):iq P w K tg (ke K a) [it] it (λi h=>h.IsTupleIter it a i) where
 mem:=by simp
 obj:=λi h f b j=>by
  have e:=by simpa using j
  subst e
  obtain⟨o,e,c,d⟩:=f
  exact⟨o,e,λv z=>by rw [d]at z;cases z⟩
 keep:=λi h B f k=>f.at λo e=>k it (by simp) o e
 item:=by
  intro X D q J M i g s U H E I n f C
  subst D q J
  obtain⟨R,x,m,t⟩:=C
  obtain⟨A,rv,p,O⟩:=I.tuple m
  obtain⟨u,T,W⟩:=rv.get t
  obtain⟨F,r,Q,L,y,G⟩:=n it (by simp)
  refine wpAny_pyNext_tuple_item f (p) (by simpa using T) λB l V=> ?_
  have Y:Inv X g U H { s with heap:=B }:=I.turned (λb o j e=>(V.2 b j).trans e) F r L y G
  obtain⟨o,e,c,d⟩:=id l
  exact⟨u,rfl,i8 e c d (by decide) ⟨x,H,Y,W,⟨rfl,λys S=>by rw [I.eZ S m];exact t⟩,l,λb j=>(n b j).1⟩⟩
 done:=by
  intro X D q J M i g s U H E I n f C
  subst D q J
  obtain⟨R,m,t⟩:=C
  obtain⟨A,rv,p,O⟩:=I.tuple m
  obtain⟨F,r,Q,L,y,G⟩:=n it (by simp)
  have Z:=rv.length
  exact wpAny_pyNext_tuple_end (I.ok.hd M) f (p) (by simp;omega) λB N=>⟨rfl,I.turned (λb o j e=>N b o j e) F r L y G⟩
 self:=λ_ _ _ _ _ f h=>wpAny_pyIter_tupleiter f h
def B1 {K:Aa6}(it) (lo) (n):iq P w K tg (kY lo n) [it] it (λi h=>IsRangeIter h it (lo+(i:Nat)*1) ((n:Int)-(i:Nat)) 1) where
 mem:=by simp
 obj:=λi h a b d=>by
  have e:=by simpa using d
  subst e
  exact⟨_,a,λv z=>by
   have L:=z
   cases L⟩
 keep:=λi h m a k=>k it (by simp) _ a
 item:=by
  intro X A y B r i c s U H E I g a p
  subst A y B
  obtain⟨q,j,G,x,l,u⟩:=g it (by simp)
  have W:=Walks.range (prog:=X.prog) (w:=X.w) (I.ok.hd r) it lo 1 n
  refine W.item i s _ _ p a λv m C J f D=> ?_
  obtain⟨t,rfl⟩:=J
  have M:Inv X c U H { s with heap:=m,toks:=C }:=I.turned (λb o d e=>D b o (by simpa using d) e) q j x l u
  refine⟨_,rfl,i8 f rfl rfl (by decide) ⟨.int (lo+i),H,M,⟨t,?_⟩,⟨rfl,rfl⟩,f,λb d=>(g b d).1⟩⟩
  rw [Int.mul_one]
 done:=by
  intro X A y B r i c s U H E I g a p
  obtain⟨q,j,G,x,l,u⟩:=g it (by simp)
  exact wpAny_pyNext_range_end (I.ok.hd r) a (by have:n<=i:=p;omega) λm F=>⟨rfl,I.turned (λb o d e=>F b o d e) q j x l u⟩
 self:=λ_ _ _ _ _ a h=>wpAny_pyIter_rangeiter a h
section
variable {X:Cx}{tg:Expr}
def uS {a c:Int}(I:Inv X k8 U H s) (h1: -(2 ^ 62)<=a) (g:a<2 ^ 62) (f: -(2 ^ 62)<=c) (i:c<2 ^ 62)
 (q:R (kY a (c-a).toNat) H):wpAny (model X.prog X.w) X.A (pyIter (.ref s.heap.objs.size)) (rg X k8 U tg R) E { s with heap:=s.heap.push { cls:= .type "range",data:= .fields #[.int a t,.int c u,.int 1 v] },toks:=tk }:=by
 refine wpAny_pyIter_range (IsRange.new ..) (small_one h1 g f i) ?_
 have d:Inv X k8 U H { s with heap:=s.heap.push { cls:= .type "range",data:= .fields #[.int a t,.int c u,.int 1 v] },toks:=tk }:=I.kept fun b o e=>Heap.get?_push_of_some _ e
 refine⟨(s.heap.push { cls:= .type "range",data:= .fields #[.int a t,.int c u,.int 1 v] }).objs.size,[(s.heap.push { cls:= .type "range",data:= .fields #[.int a t,.int c u,.int 1 v] }).objs.size],_,_,H,rfl,
  d.kept λb o e=>Aa9 _ e,B1 _ a (c-a).toNat,?_,λb h=> ?_,q⟩
 ·have e1:a+ (0:Nat)*1=a:=by simp
  have e2: (c-a).toNat- (0:Nat)=Builtin.Range.rangeSize a c 1:=by rw [rangeSize_one];split<;>lia
  rw [e1,e2]
  exact Ac4 _ rfl
 ·have e:b=(s.heap.push { cls:= .type "range",data:= .fields #[.int a t,.int c u,.int 1 v] }).objs.size:=by simpa using h
  subst e
  exact d.dX (Aa8 _) (d.bf.fresh (Aa8 _))
def HQ (a:TA):TI:=λU H R=>a U H λb H1=> ∃j:Int,b= [.int j]/\ -(2 ^ 62)<=j/\j<2 ^ 62/\R (kY 0 j.toNat) H1
def CA (a:TA):TI:=λU H R=>a U H λb H1=> ∃i j:Int,b= [.int i,.int j]/\(-(2 ^ 62)<=i/\i<2 ^ 62/\ -(2 ^ 62)<=j/\j<2 ^ 62)/\R (kY i (j-i).toNat) H1
def Ee (i:Gl X "range") (n:X.mg "range" =none) (f:PA X [a] ta) (d:starEach [a] X.env= [(false,eval a X.env)]:=by rfl):PI X tg (.Call (.Name "range" p) [a] [] pos) (HQ ta):=by
 intro b s U H R I h
 refine Call_ (wN I i n boot_range (PyProof.Rows.callWith_type1 (aP (f pos b s U H _ I h) λv w ⟨u,o,m,k,c⟩=> ?_) d rfl))
 obtain⟨j,e,c,g,q⟩:=c
 subst e
 cases k with
 | cons r l=>
  cases l
  obtain⟨t,rfl⟩:=r
  exact call_range_1 (uS m (by lia) (by lia) c g (by simp_all))
def IT (u:Gl X "range") (y:X.mg "range" =none) (n:PA X [a,b] ta) (m:starEach [a,b] X.env= [(false,eval a X.env),(false,eval b X.env)]:=by rfl) (c:starEach [b] X.env= [(false,eval b X.env)]:=by rfl):
 PI X tg (.Call (.Name "range" p) [a,b] [] pos) (CA ta):=by
 intro d s U H R I h
 refine Call_ (wN I u y boot_range (PyProof.Rows.callWith_type1 (aP (n pos d s U H _ I h) λC D ⟨A,z,x,v,f⟩=> ?_) (by rw [m,c]) (by rw [c];rfl)))
 obtain⟨i,j,e,⟨f,o,w,l⟩,q⟩:=f
 subst e
 cases v with
 | cons r g=>
  cases g with
  | cons k g=>
   cases g
   obtain⟨t,rfl⟩:=r
   obtain⟨B,rfl⟩:=k
   exact call_range_2 (uS x f o w l q)
def HC (d:TI) (g:TG) (tb:TS):TS:=λD U H=>d U H λJ H1=> ∃W:Nat->Nat->St->Hp->Prop,(∃ m,W 0 m U H1)/\ ∀i m U H,W i m U H →
 (J.stop i H/\D.nx U H)\/(J.go i H/\ ∃N:St->Hp->Prop,(∀ a H',N a H'-> ∃b,b<m/\W (i+1) b a H')/\ ∀x H',J.fg i H x H'->g x U H' λc H2=>tb { D with nx:=N,ct:=N,bk:=D.nx } c H2)
def JK (a:List Addr) (h:Heap):List (Addr×Obj):=a.filterMap λb=>(h.get? b).map λo=>(b,o)
def Wi (a:b∈fp) (e:h.get? b=k0 o):(b,o)∈JK fp h:=List.mem_filterMap.mpr ⟨b,a,by rw [e];rfl⟩
def WZ (a:p∈JK fp h):p.1∈fp/\h.get? p.1=k0 p.2:=by
 obtain⟨b,c,e⟩:=List.mem_filterMap.mp a
 cases q:h.get? b with
 | none=>rw [q]at e;cases e
 | some o=>
  rw [q]at e
  have d:=Ad5.inj e
  subst d
  exact⟨c,q⟩
def Inv.pinned (I:Inv X k8 U H s) (k: ∀b∈fp,eU X k8 H b) (h: ∀b∈fp,∃o,s.heap.get? b=k0 o/\ ∀v,o.data≠ .cell v):Inv X (k8++JK fp s.heap) U H s:=
 I.bT λp g=>(Ad8.mp g).elim (λz=>I.pin p (Ab6 _ z)) λz=>by
  obtain⟨a,e⟩:=WZ z
  obtain⟨f,i,j,_⟩:=k p.1 a
  obtain⟨o,c,d⟩:=h p.1 a
  rw [e]at c;cases c
  exact⟨e,f,i,j,d⟩
def Inv.bZ (I:Inv X (k8++pl) U H s):Inv X k8 U H s:=I.bT λp a=>I.pin p (Ab6 _ (Ah3 _ a))
def I1 (z:PassesOwn (model X.prog X.w) X.A X.env X.xe) (hc:X.calm=u0) (hi:PI X tg iter wi) (hg:PG X tg g) (j:cQ X body tb)
 (hs: ∀x,foldedSetIterable iter X.env x=pure x:=by intro _;rfl):PS X (.For tg iter body [] pos) (HC wi g tb):=by
 intro a s U H D I h
 refine wpAny_For (aP (hi a s U H _ I h) λv s1 h1=>aP h1 λitv s2 h2=> ?_) hs
 obtain⟨it,L,V,J,H2,e,I2,T,O,S,W,⟨m0,w0⟩,F⟩:=h2
 subst e
 have c: ∀ {t},(∀ b∈L,t b=y0)-> ∀b∈L,eU X a t b:=λhn b j=>⟨hn b j,(S b j).2⟩
 refine codeAny_forLoop_any (λn Y=> ∃i B t,Inv X a B t Y/\V i Y.heap/\(∀ b∈L,t b=y0)/\W i n B t) ?_ m0 ⟨0,U,H2,I2,O,λb j=>(S b j).1,w0⟩
 rintro n s3 ⟨i,A,K,Z,E,G,w3⟩
 obtain⟨stop,qn⟩ | ⟨go,N,hN,step⟩:=F i n A K w3
 ·refine wpAny_passesOwn z (aP (T.done X rfl rfl rfl hc i a s3 A K X.xe Z (c G) E stop) ?_)
  rintro r s4 ⟨P,I4⟩
  subst P
  exact wpAny_execs_nil ⟨A,K,I4,qn⟩
 ·refine wpAny_passesOwn z (aP (T.item X rfl rfl rfl hc i a s3 A K X.xe Z (c G) E go) ?_)
  rintro r s4 ⟨u,P,h4⟩
  subst P
  refine wpAny_passesOwn z (aP h4 ?_)
  rintro _ s5 ⟨x,H5,I5,r5,y5,y,R⟩
  have Q:=I5.pinned (c R) (T.obj _ _ y)
  refine wpAny_passesOwn z (aP (hg _ s5 A H5 x u _ Q r5 (step x H5 y5)) ?_)
  rintro _ s6 ⟨U6,H6,I6,q6⟩
  refine wpAny_passesOwn z (aP (j _ s6 U6 H6 _ I6 q6) λf M w=> ?_)
  have q: ∀ {k}{p},Inv X _ k p M->N k p-> ∃m,m<n/\ ∃i B t,Inv X a B t M/\V i M.heap/\(∀ b∈L,t b=y0)/\W i m B t:=λ{k p} l C=>by
   obtain⟨m',hm,w7⟩:=hN k p C
   refine⟨m',hm,i+1,k,p,l.bZ,T.keep _ _ _ y λb j o e=>(l.pin _ (Ab6 _ (Ab6 _ (Wi j e)))).1,λb j=> ?_,w7⟩
   obtain⟨o,e,d⟩:=T.obj _ _ y b j
   exact(l.pin _ (Ab6 _ (Ab6 _ (Wi j e)))).2.1
  cases f with
  | next=>obtain⟨k,p,l,C⟩:=w;exact q l C
  | cont=>obtain⟨k,p,l,C⟩:=w;exact q l C
  | brk=>obtain⟨k,p,l,w⟩:=w;exact⟨k,p,l.bZ,w⟩
  | ret v=>obtain⟨x7,k,p,l,r7,w⟩:=w;exact⟨x7,k,p,l.bZ,r7,w⟩
end
abbrev R2:=V->V->Hp->VK->Prop
def bK (X:Cx) (f:Value->Value->Sem Value) (r:R2):Prop:=
 ∀(k8:List (Addr×Obj)) (s:Shared) (U:St) (H:Hp) (x y:V) (v u:Value) (Q:VK),Inv X k8 U H s->RelV x v->RelV y u->r x y H Q →
  wpAny (model X.prog X.w) X.A (f v u) (EP X k8 U Q) X.xe s
def lP (X:Cx) (f:Value->Sem Value) (r:V->Hp->VK->Prop):Prop:=
 ∀(k8:List (Addr×Obj)) (s:Shared) (U:St) (H:Hp) (x:V) (v:Value) (Q:VK),Inv X k8 U H s->RelV x v->r x H Q →
  wpAny (model X.prog X.w) X.A (f v) (EP X k8 U Q) X.xe s
def zt (X:Cx) (f:Value) (r:List V->Hp->VK->Prop):Prop:=
 ∀(k8:List (Addr×Obj)) (s:Shared) (U:St) (H:Hp) (xs:List V) (a:List Value) (Q:VK),Inv X k8 U H s->Vals xs a->r xs H Q →
  wpAny (model X.prog X.w) X.A (call f a) (EP X k8 U Q) X.xe s
def Bc (X:Cx) (r:V->Hp->(Bool->Hp->Prop)->Prop):Prop:=
 ∀(k8:List (Addr×Obj)) (s:Shared) (U:St) (H:Hp) (x:V) (v:Value) (Q:Bool->Hp->Prop),Inv X k8 U H s->RelV x v->r x H Q →
  wpAny (model X.prog X.w) X.A (truthy v) (TP X k8 U Q) X.xe s
def lj (r:R2) (a tb:TE):TE:=λU H Q=>a U H λx H1=>tb U H1 λy H2=>r x y H2 Q
def IU (r:V->Hp->VK->Prop) (a:TE):TE:=λU H Q=>a U H λx H1=>r x H1 Q
def rI (C:Int->Int->Prop) (g:Int->Int->V):R2:=λx y H Q=> ∃i j,x= .int i/\y= .int j/\C i j/\Q (g i j) H
def fP (g:Int->Int->V):R2:=λx y H Q=> ∃i j,x= .int i/\y= .int j/\Q (g i j) H
def rU (g:Int->V):V->Hp->VK->Prop:=λx H Q=> ∃i,x= .int i/\Q (g i) H
section
variable {X:Cx}{a b c:Expr}{ta tb tc:TE}{pos:Pos}
def nX (d:PE X a ta) (g:PE X b tb){R:V->V->Hp->Prop}(I:Inv X k8 U H s)
 (h:ta U H λx H1=>tb U H1 λy H2=>R x y H2){f:Value->Value->Sem Value}
 (l: ∀v u L x y H2,Inv X k8 U H2 L->RelV x v->RelV y u->R x y H2->wpAny (model X.prog X.w) X.A (f v u) Q X.xe L):
 wpAny (model X.prog X.w) X.A (eval a X.env) (λv j=>wpAny (model X.prog X.w) X.A (eval b X.env) (λu J=>wpAny (model X.prog X.w) X.A (f v u) Q X.xe J) X.xe j) X.xe s:=by
 refine aP (d k8 s U H _ I h) ?_
 rintro v k ⟨x,H1,m,i,c⟩
 refine aP (g k8 k U H1 _ m c) ?_
 rintro u L ⟨y,H2,n,o,e⟩
 exact l v u L x y H2 n i o e
def Cj (i:bK X (binaryOp op) r) (f:PE X a ta) (g:PE X b tb):PE X (.BinOp a op b pos) (lj r ta tb):=by
 intro c s U H Q I h
 exact wpAny_BinOp (nX f g I h λv u e x y k l d j q=>i c e U k x y v u Q l d j q)
def rR (e:lP X (unaryOp op) r) (c:PE X a ta):PE X (.UnaryOp op a pos) (IU r ta):=by
 intro b s U H Q I h
 exact UnaryOp_ (aP (c b s U H _ I h) λv j ⟨x,d,g,f,i⟩=>e b j U d x v Q g f i)
def zev {g:Int->Int->Int}
 (a: ∀ i j t u s Q E,C i j->Q (.int (g i j) s.toks) { s with toks:=s.toks+1 }->wpAny (model X.prog X.w) X.A (f (.int i t) (.int j u)) Q E s):
 bK X f (rI C λi j=> .int (g i j)):=by
 intro b s U H x y v u Q I c d h
 obtain⟨i,j,rfl,rfl,k,q⟩:=h
 obtain⟨t,rfl⟩:=c
 obtain⟨e,rfl⟩:=d
 exact a i j t e s _ _ k ⟨.int _,H,I.tok _,⟨_,rfl⟩,q⟩
def lg {g:Int->Int->Int}
 (a: ∀ i j t u s Q E,Q (.int (g i j) s.toks) { s with toks:=s.toks+1 }->wpAny (model X.prog X.w) X.A (f (.int i t) (.int j u)) Q E s):
 bK X f (fP λi j=> .int (g i j)):=by
 intro b s U H x y v u Q I c d h
 obtain⟨i,j,rfl,rfl,q⟩:=h
 obtain⟨t,rfl⟩:=c
 obtain⟨e,rfl⟩:=d
 exact a i j t e s _ _ ⟨.int _,H,I.tok _,⟨_,rfl⟩,q⟩
def mv {g:Int->Int->Bool}
 (a: ∀ i j t u s Q E,Q (.bool (g i j)) s->wpAny (model X.prog X.w) X.A (f (.int i t) (.int j u)) Q E s):
 bK X f (fP λi j=> .bl (g i j)):=by
 intro b s U H x y v u Q I c d h
 obtain⟨i,j,rfl,rfl,q⟩:=h
 obtain⟨t,rfl⟩:=c
 obtain⟨e,rfl⟩:=d
 exact a i j t e s _ _ ⟨.bl _,H,I,rfl,q⟩
def rG (i j:Int):Prop:=0<j/\j<1073741824
def vk (i j:Int):Prop:=0<=j/\j<=1000000/\i.natAbs<2 ^ 64
def iA (i j:Int):Prop:=(-(2 ^ 64)<i/\i<2 ^ 64)\/(-(2 ^ 64)<j/\j<2 ^ 64)
def iA.ok (h:iA i j):IntMulOk i j:=by
 obtain⟨b,a⟩ | ⟨b,a⟩:=h
 ·exact .of_left (intBits_le_64 b a)
 ·exact .of_right (intBits_le_64 b a)
def Fs (k):(0:Int)<=2 ^ k:=by
 exact Int.natCast_nonneg _
def En:bK X (binaryOp .Add) (fP λi j=> .int (i+j)):=lg λ_ _ _ _ _ _ _ q=>add_int q
def Au:bK X (binaryOp .Sub) (fP λi j=> .int (i-j)):=lg λ_ _ _ _ _ _ _ q=>sub_int q
def A8:bK X (binaryOp .Mult) (rI iA λi j=> .int (i*j)):=zev λ_ _ _ _ _ _ _ a q=>mul_int q a.ok
def II:bK X (binaryOp .FloorDiv) (rI rG λi j=> .int (i / j)):=zev λi j _ _ _ _ _ a q=>by
 have b:=a.1
 have c:=a.2
 exact floordiv_int (by lia) (by rw [Al6 i (by lia)];exact q) (.inl (PyProof.noPylong_small (by lia)))
def CS:bK X (binaryOp .Mod) (rI (λ_ j=>0<j) λi j=> .int (i % j)):=zev λi j _ _ _ _ _ a q=>by
 have b:=a
 exact mod_int' (by lia) (by rw [Int.fmod_eq_emod_of_nonneg i (by lia)];exact q)
def y6:bK X (binaryOp .Pow) (rI vk λi j=> .int (i ^ j.toNat)):=zev λ_ _ _ _ _ _ _ a q=>pow_int_small a.1 a.2.1 a.2.2 q
def Er:bK X (binaryOp .LShift) (rI vk λi j=> .int (i*2 ^ j.toNat)):=zev λ_ _ _ _ _ _ _ a q=>lshift_int_small a.1 a.2.1 a.2.2 q
def IZ:bK X (binaryOp .RShift) (rI (λ_ j=>0<=j) λi j=> .int (i / 2 ^ j.toNat)):=zev λi j _ _ _ _ _ a q=>
 rshift_int a (by rw [Al6 i (Fs _)];exact q)
def BV:bK X (binaryOp .BitAnd) (fP λi j=> .int (Builtin.bitAnd i j)):=lg λ_ _ _ _ _ _ _ q=>and_int q
def D9:bK X (binaryOp .BitOr) (fP λi j=> .int (Builtin.bitOr i j)):=lg λ_ _ _ _ _ _ _ q=>or_int q
def By:bK X (binaryOp .BitXor) (fP λi j=> .int (Builtin.bitXor i j)):=lg λ_ _ _ _ _ _ _ q=>xor_int q
def r3 {g:Int->Int}
 (a: ∀ i t s Q E,Q (.int (g i) s.toks) { s with toks:=s.toks+1 }->wpAny (model X.prog X.w) X.A (f (.int i t)) Q E s):
 lP X f (rU λi=> .int (g i)):=by
 intro b s U H x v Q I c h
 obtain⟨i,rfl,q⟩:=h
 obtain⟨t,rfl⟩:=c
 exact a i t s _ _ ⟨.int _,H,I.tok _,⟨_,rfl⟩,q⟩
def BU:lP X (unaryOp .USub) (rU λi=> .int (-i)):=r3 λ_ _ _ _ _ q=>neg_int q
def Bp:lP X (unaryOp .Invert) (rU λi=> .int (Builtin.bitNot i)):=r3 λ_ _ _ _ _ q=>invert_int q
end
section
variable {X:Cx}{a b c:Expr}{ta tb tc:TE}{pos:Pos}
def wY (I:Inv X k8 U H s) (q:Q (.bl k) H) (e:k=k'):EP X k8 U Q (.bool k') s:=by
 subst e
 exact⟨.bl k,H,I,rfl,q⟩
def Di:bK X (compareOp .Lt) (fP λi j=> .bl (y9 (i<j))):=mv λ_ _ _ _ _ _ _ q=>lt_int q
def Ed:bK X (compareOp .LtE) (fP λi j=> .bl (y9 (i<=j))):=mv λ_ _ _ _ _ _ _ q=>le_int q
def yp:bK X (compareOp .Gt) (fP λi j=> .bl (y9 (j<i))):=mv λ_ _ _ _ _ _ _ q=>gt_int q
def Ho:bK X (compareOp .GtE) (fP λi j=> .bl (y9 (j<=i))):=mv λ_ _ _ _ _ _ _ q=>ge_int q
def HW:bK X (compareOp .Lt) (λx y H Q=> ∃i j,x= .str i/\y= .str j/\Q (.bl (y9 (i.cps.toList<j.cps.toList))) H):=by
 intro a s U H x y v u Q I b c h
 obtain⟨i,j,rfl,rfl,q⟩:=h
 obtain⟨t,rfl⟩:=b
 obtain⟨d,rfl⟩:=c
 exact lt_str (wY I q rfl)
def HU:bK X (compareOp .In) (λx y H Q=> ∃i j,x= .str i/\y= .str j/\Q (.bl (!(Builtin.Str.occurrences j i 0 j.length 1).isEmpty)) H):=by
 intro a s U H x y v u Q I b c h
 obtain⟨i,j,rfl,rfl,q⟩:=h
 obtain⟨t,rfl⟩:=b
 obtain⟨d,rfl⟩:=c
 exact in_str (wY I q rfl)
def ua (i:bK X (compareOp op) r) (f:PE X a ta) (g:PE X b tb) (m:behindInMarks op b=k9):PE X (.Compare a [op] [b] pos) (lj r ta tb):=by
 intro c s U H Q I h
 exact wpAny_Compare1 (nX f g I h λv u e x y k l d j q=>i c e U k x y v u Q l d j q) m
def pU (t:TE):TT:=λU H Q=>t U H λx H'=> ∃k,x= .bl k/\Q k H'
def rP (p:bK X (compareOp op) r) (j:PE X a ta) (o:PE X b tb) (F:behindInMarks op b=k9):PT X (.Compare a [op] [b] pos) (pU (lj r ta tb)):=by
 intro d s U H Q I h
 refine wpAny_isTrue_Compare1 (aP (j d s U H _ I h) λv t ⟨x,m,C,q,g⟩=>aP (o d t U m _ C g) λu i ⟨y,w,D,E,n⟩=>
  aP (p d i U w x y v u _ D q E n) λc G ⟨z,f,A,l,k,e,B⟩=> ?_) F
 subst e
 cases l
 exact wpAny_truthy_bool ⟨f,A,B⟩
def om (r r':R2) (d tb b:TE):TE:=λU H Q=>d U H λx H1=>tb U H1 λy H2=>r x y H2 λz a=> ∃k,z= .bl k ∧
 (if k=u0 then b U a λc e=>r' y c e Q else Q (.bl k9) a)
def yo (G:bK X (compareOp op) r) (g:bK X (compareOp op') r') (t:PE X a ta) (D:PE X b tb) (N:PE X c tc)
 (T:lastMarks [op,op'] [b,c]=false:=by with_unfolding_all rfl):PE X (.Compare a [op,op'] [b,c] pos) (om r r' ta tb tc):=by
 intro f s U H Q I h
 refine Compare_chain (aP (t f s U H _ I h) λv L ⟨x,A,R,J,p⟩=>chain_link (aP (D f L U A _ R p) λu q ⟨y,M,S,m,B⟩=>
  aP (G f q U M x y v u _ S J m B) λd K ⟨z,i,j,w,k,e,l⟩=> ?_)) T
 subst e
 cases w
 refine wpAny_truthy_bool ?_
 cases k with
 | false=>exact ite_ff ⟨.bl k9,i,j,rfl,l⟩
 | true=>exact ite_tt (chain_last (aP (N f K U i _ j l) λE C ⟨O,F,P,o,n⟩=>g f C U F y O u E Q P m o n))
def D8 (M:bK X (compareOp op) r) (g:bK X (compareOp op') r') (A:PE X a ta) (G:PE X b tb) (S:PE X c tc)
 (hm:lastMarks [op,op'] [b,c]=false:=by with_unfolding_all rfl):PT X (.Compare a [op,op'] [b,c] pos) (pU (om r r' ta tb tc)):=by
 intro f s U H Q I h
 refine isTrue_chain (aP (A f s U H _ I h) λv P ⟨x,C,W,N,q⟩=>test_link (aP (G f P U C _ W q) λu t ⟨y,R,Z,m,D⟩=>
  aP (M f t U R x y v u _ Z N m D) λd O ⟨z,i,j,B,k,e,l⟩=> ?_)) hm
 subst e
 cases B
 refine wpAny_truthy_bool ?_
 cases k with
 | false=>
  obtain⟨k',p,E⟩:=l
  cases p
  exact ite_ff ⟨i,j,E⟩
 | true=>
  refine ite_tt (test_last (aP (S f O U i _ j l) λK F ⟨T,L,V,o,n⟩=>aP (g f F U L y T u K _ V m o n) ?_))
  rintro d' s5 ⟨z2,Y,J,w,k2,e2,q5⟩
  subst e2
  cases w
  exact wpAny_truthy_bool ⟨Y,J,q5⟩
def hO (K:Aa6) (x:V) (H:Hp) (k:Bool):Prop:=
 match x with
 | .ak=>k=k9
 | .bl b=>k=b
 | .int i=>k=(i != 0)
 | .str y=>y.length<=sizeLine/\k=((y.length:Int) != 0)
 | .ie y=>y.size<=sizeLine/\k=((y.size:Int) != 0)
 | .ref p=>(∃ xs,bz K H p xs/\k= !xs.isEmpty)\/(∃ xs,cx K H p xs/\k= !xs.isEmpty)\/ ∃kvs,H p=k0 (.dK kvs)/\k= !kvs.isEmpty
 | _=>False
def AG (r:KV kvs vs):(!vs.isEmpty)= !kvs.isEmpty:=by
 cases r<;>rfl
def zM (r:Vals xs its):(!its.toArray.isEmpty)= !xs.isEmpty:=by
 cases r<;>simp
def wH:(sizeLine:Nat)<2 ^ 63:=by rw [sizeLine_eq];decide
def lE:Bc X (λx H Q=> ∃k,hO X.K x H k/\Q k H):=by
 intro o s U H x v Q I d h
 obtain⟨k,e,q⟩:=h
 have B:=wH
 have A:=sizeLine_eq
 cases x with
 | ak=>
  cases d
  have a:=e
  subst a
  exact truthy_none ⟨H,I,q⟩
 | bl b=>
  cases d
  have a:=e
  subst a
  exact wpAny_truthy_bool ⟨H,I,q⟩
 | int i=>
  obtain⟨t,rfl⟩:=d
  have a:=e
  subst a
  exact PySem.P.truthy_int ⟨H,I,q⟩
 | str y=>
  obtain⟨t,rfl⟩:=d
  obtain⟨z,a⟩:y.length<=sizeLine/\k=(_ != 0):=e
  subst a
  exact PySem.P.truthy_str (by lia) ⟨H,I.tok _,q⟩
 | ie y=>
  obtain⟨t,rfl⟩:=d
  obtain⟨z,a⟩:y.size<=sizeLine/\k=(_ != 0):=e
  subst a
  exact PySem.W.truthy_bytes (by lia) ⟨H,I.tok _,q⟩
 | ref p=>
  cases d
  have a:=e
  obtain⟨u,f,a⟩ | ⟨u,f,a⟩ | ⟨g,f,a⟩:=a
  ·subst a
   obtain⟨j,r,pl,n⟩:=I.list f
   have c:=r.length
   exact wpAny_truthy_list pl.isList (by simp only [Ac0];lia) ⟨H,I.tok _,by rw [zM r];exact q⟩
  ·subst a
   obtain⟨j,r,pl,n⟩:=I.tuple f
   have c:=r.length
   exact truthy_tuple pl (by simp only [Ac0];lia) ⟨H,I.tok _,by rw [zM r];exact q⟩
  ·subst a
   obtain⟨n,w,l,r,m⟩:g.length<=sizeLine/\(p==sysModules)=k9/\ ∃l,KV g l/\s.heap.DictOf _ p l:=I.bf p _ f
   have c:=Paired.length r
   exact wpAny_truthy_dict w m (by lia) ⟨H,I.tok _,by rw [AG r];exact q⟩
 | _=>exact(e).elim
def F6 (d:PE X a ta) (i: ∀j,isTrue a X.env j=(do let v ←j;standAt a.pos;holding [v] (truthy v))):
 PT X a (λU H Q=>ta U H λx H'=> ∃k,hO X.K x H' k/\Q k H'):=by
 intro b s U H Q I h
 exact isTrue_plain (aP (d b s U H _ I h) λv g ⟨x,e,l,f,c⟩=>lE b g U e x v Q l f c) (i _)
def HA:bK X (binaryOp .Add) (λx y H Q=> ∃i j,x= .str i/\y= .str j/\i.length+j.length<=sizeLine/\Q (.str (i++j)) H):=by
 intro a s U H x y v u Q I b d h
 obtain⟨i,j,rfl,rfl,c,q⟩:=h
 obtain⟨t,rfl⟩:=b
 obtain⟨e,rfl⟩:=d
 exact add_str (λe f=>⟨.str _,H,I.tok _,⟨_,rfl⟩,q⟩) c
def jK (r:Vals [x] us): ∃u,us= [u]/\RelV x u:=by
 cases r with
 | cons b a=>cases a;exact⟨_,rfl,b⟩
def uX (r:Vals [x,y] us): ∃u j,us= [u,j]/\RelV x u/\RelV y j:=by
 cases r with
 | cons b c=>
  cases c with
  | cons d a=>cases a;exact⟨_,_,rfl,b,d⟩
def XT:zt X (.type "int") (fun xs H Q=>(∃ i,xs= [.int i]/\Q (.int i) H)\/ ∃k,xs= [.bl k]/\Q (.int (if k then 1 else 0)) H):=by
 intro a s U H xs c Q I r h
 obtain⟨i,rfl,q⟩ | ⟨k,rfl,q⟩:=h
 ·obtain⟨u,rfl,t,rfl⟩:=jK r
  exact call_int_int ⟨.int i,H,I,⟨_,rfl⟩,q⟩
 ·obtain⟨u,rfl,b⟩:=jK r
  cases b
  exact call_int_bool ⟨.int _,H,I.tok _,⟨_,rfl⟩,q⟩
def Z8:zt X (.builtin "divmod") (fun xs H Q=> ∃i j,xs= [.int i,.int j]/\rG i j/\ ∀p,H p=none->Q (.ref p) (aR H p (.tup [.int (i / j),.int (i % j)]))):=by
 intro a s U H xs k Q I r h
 obtain⟨i,j,rfl,⟨d,l⟩,q⟩:=h
 obtain⟨u,f,rfl,⟨t,rfl⟩,⟨g,rfl⟩⟩:=uX r
 refine divmod_int (by lia) ?_ (.inl (PyProof.noPylong_small (by lia)))
 rw [Al6 i (by lia),Int.fmod_eq_emod_of_nonneg i (by lia)]
 have c:=I.bf.fresh (Aa8 _)
 refine⟨.ref s.heap.objs.size,_,?_,rfl,q _ c⟩
 refine I.laid (λb o e=>Aa9 _ e) (Aa8 _) ⟨by simp only [Ab,Ah4];decide,[.int _ s.toks,.int _ (s.toks+1)],.cons ⟨_,rfl⟩ (.cons ⟨_,rfl⟩ .nil),?_⟩
 exact⟨_,Ac4 s.heap rfl,rfl,rfl,0,rfl⟩
end
structure eh (h:Heap) (x dx C:Addr) (mA:Str->Option Value):Prop where
 obj:h.get? x=k0 (Aj7 C dx)
 ns:h.Ns1 dx mA
 ne:dx≠x
def Bl {h:Heap}(n:h.Ns1 dx mA): ∃od,h.get? dx=k0 od/\ ∀name,Am7 name od=k0 (mA name):=by
 obtain⟨o,c,l,g,f,j,_,k⟩:=n
 refine⟨o,g,λname=> ?_⟩
 have e:=k name
 unfold nsFind findBy at e
 rw [← Array.find?_toList]at e
 unfold Am7
 rw [f]
 dsimp only
 split
 ·rename_i y q
  rw [q]at e
  exact congrArg k0 e
 ·rename_i q
  rw [q]at e
  have a:c.toList.any (·.refKey)=false:=by
   rw [Aj0]
   intro y i
   obtain⟨z,t,b⟩:=j y (Array.mem_toList_iff.mp i)
   simp [DictEntry.refKey,b]
  have d: ¬c.toList.any (·.refKey)=true:=by rw [a];exact Ab2
  rw [if_neg d]
  exact congrArg k0 e
def eh.look (I:eh h x dx C mA): ∃od,PySem.W.InstAt h x (Aj7 C dx) C (k0 od)/\ ∀name,Am7 name od=k0 (mA name):=
 let ⟨od,a,b⟩:=Bl I.ns
 ⟨od,⟨I.obj,rfl,rfl,a⟩,b⟩
section
variable {prog:Program}{w:World}{A:Around}{E:Value->Shared->Prop}{s:Shared}{K:Aa6}{x dx C f:Addr}{mA:Str->Option Value}{name:Str}{v:Value}
def yx (X:K.In s.heap) (I:eh s.heap x dx C mA) (c:Am K C name=u0) (e:PySem.W.hasDictIn K C=u0)
 (f:Ak2 K (.ref C) name=k0 y0) (b:mA name=k0 v) (a:PySem.W.handedIn v=u0) (h:Q v { s with toks:=s.toks+1 }):
 wpAny (model prog w) A (getAttr (.ref x) name expr) Q E s:=by
 obtain⟨od,J,d⟩:=I.look
 exact PySem.W.get_value X J (An2 c).1 (PySem.W.findObj_own e f rfl (by rw [d,b])) a h
def EL (X:K.In s.heap) (I:eh s.heap x dx C mA) (a:Am K C name=u0)
 (e:Ak2 K (.ref C) name=k0 (k0 (.ref f))) (d:PySem.W.isFn K (.ref f)=u0) (b:mA name=y0) (h:Q (.ref f,[.ref x]) s):
 wpAny (model prog w) A (getMethod (.ref x) name pl) Q E s:=by
 obtain⟨od,J,c⟩:=I.look
 exact PySem.W.method_fn X J (An2 a).1 (An2 a).2 e (beq_iff_eq.mp d) (by show(Am7 name od).map _=k0 k9;rw [c,b];rfl) h
def Dm (X:K.In s.heap) (I:eh s.heap x dx C mA)
 (k:PySem.W.findIn K (.ref C) "__setattr__" =some (some (.builtin "object.__setattr__"))) (m:PySem.W.plainOver K C=true) (l:PySem.W.takerIn K C name=some none) (n:PySem.W.hasDictIn K C=true)
 (i:PySem.Within mA ns) (o:ns.length<=sizeLine)
 (h: ∀h',eh h' x dx C (λy=>if y=name then k0 v else mA y)->An0 dx s.heap h'->Q () { s with heap:=h',toks:=s.toks+2 }):
 wpAny (model prog w) A (setAttr (.ref x) name v) Q E s:=by
 obtain⟨od,J,t⟩:=I.look
 refine PySem.W.set_plain X J k (PySem.W.osa_open X J m l λb=> ?_)
 obtain⟨cd,p,d⟩:=PySem.W.any_some n
 have j:=I.obj
 refine wpAny_bind (wpAny_pure (wpAny_bind (wpAny_bind (wpAny_loadPart j (wpAny_bind (PySem.W.Looks.here (PySem.W.looks_clsIn X p) ?_))))))
 rw [d]
 refine wpAny_pure (wpAny_bind (wpAny_pure (wpAny_bind ?_)))
 refine wpAny_nsSet1 I.ns λh' c a=> ?_
 obtain⟨u,q,r,f,g,e⟩:=c.count (PySem.Within.cons name v i)
 refine wpAny_bind (wpAny_lookBehind f (by rw [g];exact pastItsLine_dict (Ab9 e (by simp_all))) ?_)
 exact wpAny_pure (h _ ⟨(a.2 _ (Ne.symm I.ne)).trans I.obj,c,I.ne⟩ a)
def HS (X:K.In s.heap) (c:PySem.W.makesIn K C=u0)
 (b:PySem.W.findIn K (.ref C) "__init__" =some (some (.ref f))) (e:PySem.W.typeIn K (.ref f)=some (.type "function"))
 (h:codeAny (model prog w) (A.under (.builtin "type.__call__" ⟨.ref C::vs,kw⟩)) (.call (.ref f) ⟨.ref (s.heap.objs.size+1)::vs,kw⟩) (PySem.W.InitBack (s.heap.objs.size+1) R)
   { s with heap:=(s.heap.push Ah1).push (Aj7 C s.heap.objs.size) }):
 codeAny (model prog w) A (.call (.ref C) ⟨vs,kw⟩) R s:=by
 obtain⟨j,g,d,t,i⟩:=s
 exact PySem.W.make_core (PySem.W.makes_of X c) (PySem.W.looks_findIn X b) (λa=>PySem.W.bind_fn X a e) (.inl rfl) h
end
noncomputable def aQ (f:Str) (v:V):List (Str×V)->List (Str×V)
 | []=> [(f,v)]
 | (g,x)::r=>if g=f then(g,v)::r else(g,x)::aQ f v r
theorem xH (f g) (v): ∀fs:List (Str×V),(aQ f v fs).lookup g=if g=f then k0 v else fs.lookup g
 | []=>by
  show Ai7 g [(f,v)]=_
  by_cases h:g=f
  ·have a:=beq_iff_eq.mpr h
   simp only [Ai7,a,if_pos h]
  ·have a:=beq_eq_false_iff_ne.mpr h
   simp only [Ai7,a,if_neg h]
 | (k,x)::r=>by
  have c:=xH f g v r
  rw [show aQ f v ((k,x)::r)=(if k=f then(k,v)::r else(k,x)::aQ f v r)from rfl]
  by_cases b:k=f
  ·rw [if_pos b]
   by_cases h:g=k
   ·have a:=beq_iff_eq.mpr h
    simp only [Ai7,a,if_pos (h.trans b)]
   ·have a:=beq_eq_false_iff_ne.mpr h
    simp only [Ai7,a,if_neg (λe:g=f=>h (e.trans b.symm))]
  ·rw [if_neg b]
   by_cases h:g=k
   ·have a:=beq_iff_eq.mpr h
    simp only [Ai7,a,if_neg (λe:g=f=>b (h.symm.trans e))]
   ·have a:=beq_eq_false_iff_ne.mpr h
    simp only [Ai7,a]
    exact c
theorem zJ (f) (v): ∀fs:List (Str×V),f∈(aQ f v fs).map (·.1)/\ ∀g,g∈fs.map (·.1)->g∈(aQ f v fs).map (·.1)
 | []=>⟨by simp [aQ],λg h=>by simp at h⟩
 | (k,x)::r=>by
  obtain⟨i1,i2⟩:=zJ f v r
  rw [show aQ f v ((k,x)::r)=(if k=f then(k,v)::r else(k,x)::aQ f v r)from rfl]
  by_cases a:k=f
  ·rw [if_pos a]
   subst a
   exact⟨by simp,λg h=>by simpa using h⟩
  ·rw [if_neg a]
   refine⟨?_,λg h=> ?_⟩
   ·rw [Ab0]
    exact Aa4 _ i1
   ·rw [Ab0]at h ⊢
    rcases Ac1.mp h with e | e
    ·exact Ac1.mpr (.inl e)
    ·exact Aa4 _ (i2 g e)
theorem xG (f) (v): ∀fs:List (Str×V),(aQ f v fs).length<=fs.length+1
 | []=>by simp [aQ]
 | (k,x)::r=>by
  have b:=xG f v r
  rw [show aQ f v ((k,x)::r)=(if k=f then(k,v)::r else(k,x)::aQ f v r)from rfl]
  by_cases a:k=f
  ·rw [if_pos a,Ab,Ab];omega
  ·rw [if_neg a,Ab,Ab];omega
def cc.some_of (r:cc (k0 v) o): ∃u,o=k0 u/\RelV v u:=by
 cases o with
 | none=>exact(r).elim
 | some u=>exact⟨u,rfl,r⟩
def cc.none_of (r:cc y0 o):o=none:=by
 cases o with
 | none=>rfl
 | some u=>exact(r).elim
def Az (r:RelV v u):PySem.W.handedIn u=true:=by
 cases v with
 | ak=>cases (r);rfl
 | bl b=>cases (r);rfl
 | int i=>obtain⟨t,e⟩:=(r);cases e;rfl
 | str x=>obtain⟨t,e⟩:=(r);cases e;rfl
 | ie b=>obtain⟨t,e⟩:=(r);cases e;rfl
 | gL b=>obtain⟨t,e⟩:=(r);cases e;rfl
 | ref a=>cases (r);rfl
 | ty n=>cases (r);rfl
section
variable {P:Program}{w:World}{H H':Hp}{h h':Heap}{a C dx:Addr}{fs fs':List (Str×V)}
def XO (b:cM P w H h) (e:H a=k0 (.ins C dx fs)): ∃mA,eh h a dx C mA/\(∀ f,cc (fs.lookup f) (mA f))/\PySem.Within mA (fs.map (·.1))/\fs.length<=1000/\H dx=k0 (.own a):=by
 obtain⟨d,z,ne,c,mA,n,r,q⟩:=(show aV P w H h a (.ins C dx fs)from b a _ e)
 exact⟨mA,⟨c,n,ne⟩,r,q,z,d⟩
end
structure dN (K:Aa6) (C:Addr):Prop where
 pg:Am K C Str.empty=u0
 hd:PySem.W.hasDictIn K C=u0
 po:PySem.W.plainOver K C=u0
 sa:PySem.W.findIn K (.ref C) "__setattr__" =some (some (.builtin "object.__setattr__"))
def dN.get {K:Aa6}(c:dN K C) (f):Am K C f=true:=c.pg
def b0 (K:Aa6) (C:Addr) (f:Str):Prop:=Ak2 K (.ref C) f=k0 y0
def b0.lb {K:Aa6}(n:b0 K C f):PySem.W.takerIn K C f=k0 none:=by
 unfold PySem.W.takerIn
 rw [show Ak2 K _ f=k0 y0 from n]
 rfl
structure LJ (K:Aa6) (C:Addr) (f:Str) (v:V) (u:Value):Prop where
 at_:Ak2 K (.ref C) f=k0 (k0 u)
 rel:RelV v u
 get:PySem.W.specialIn K u "__get__" =some none
 cp:PySem.W.copiedNames.contains f=k9
structure kU (K:Aa6) (C:Addr) (m:Str) (f:Addr):Prop where
 at_:Ak2 K (.ref C) m=k0 (k0 (.ref f))
 fn:PySem.W.isFn K (.ref f)=u0
 kp:Ag9 K (.ref f)=u0
section
variable {X:Cx}{k8:List (Addr×Obj)}{U:St}{H:Hp}{s:Shared}{a C dx:Addr}{fs:List (Str×V)}{f:Str}{v:V}{A:Around}{E:Value->Shared->Prop}
def D4 (I:Inv X k8 U H s) (e:H a=k0 (.ins C dx fs)) (c:dN X.K C) (n:b0 X.K C f) (l:fs.lookup f=k0 v)
 (h: ∀u s',Inv X k8 U H s'->RelV v u->Q u s'):wpAny (model X.prog X.w) A (getAttr (.ref a) f b) Q E s:=by
 obtain⟨i,O,r,_,_,_⟩:=XO I.bf e
 obtain⟨u,g,d⟩:=cc.some_of (by rw [← l];exact r f)
 exact yx I.cb O (c.get f) c.hd n g (Az d) (h u _ (I.tok _) d)
def xM (I:Inv X k8 U H s) (e:H a=k0 (.ins C dx fs)) (c:dN X.K C) (k:kU X.K C m g) (l:fs.lookup m=y0)
 (h:Q (.ref g,[.ref a]) s):wpAny (model X.prog X.w) A (getMethod (.ref a) m pl) Q E s:=by
 obtain⟨d,O,r,_,_,_⟩:=XO I.bf e
 have b:=cc.none_of (by rw [← l];exact r m)
 exact EL I.cb O (c.get m) k.at_ k.fn b h
def Ln (I:Inv X k8 U H s) (e:H a=k0 (.ins C dx fs)) (c:dN X.K C) (n:b0 X.K C f) (D:fs.length<1000) (B:RelV y u)
 (h: ∀s',Inv X k8 U (aR H a (.ins C dx (aQ f y fs))) s'->Q () s'):wpAny (model X.prog X.w) A (setAttr (.ref a) f u) Q E s:=by
 obtain⟨l,O,r,i,_,j⟩:=XO I.bf e
 have m:(fs.map (·.1)).length<=sizeLine:=by rw [Aa,sizeLine_eq];lia
 refine Dm I.cb O c.sa c.po n.lb c.hd i m λp d x=>h _ ?_
 have v: ∃o,p.get? dx=k0 o:=let ⟨o,_,_,k,_⟩:=d.ns; ⟨o,k⟩
 refine I.write (by rw [e];exact True.intro) (.inr j) (λb q t z=>(x.2 b t).trans z) v ?_
 refine⟨by rw [Ja O.ne];exact j,?_,O.ne,d.obj,_,d.ns,λg=> ?_,λg w=> ?_⟩
 ·have:=xG f y fs;lia
 ·show cc _ _
  rw [xH]
  by_cases q:g=f
  ·rw [if_pos q,if_pos q];exact B
  ·rw [if_neg q,if_neg q];exact r g
 ·by_cases q:g=f
  ·rw [q];exact(zJ f y fs).1
  ·refine(zJ f y fs).2 g (i g λz=>w ?_)
   show(if g=f then k0 u else l g)=y0
   rw [if_neg q];exact z
def Inv.made (I:Inv X k8 U H s):Inv X k8 U (aR (aR H s.heap.objs.size (.own (s.heap.objs.size+1))) (s.heap.objs.size+1) (.ins C s.heap.objs.size []))
 { s with heap:=(s.heap.push Ah1).push (Aj7 C s.heap.objs.size) }:=by
 have e1:(s.heap.push Ah1).get? s.heap.objs.size=k0 Ah1:=Ac4 s.heap rfl
 have e2:=by
  have:=Ac4 (s.heap.push Ah1) (o:=Aj7 C s.heap.objs.size) rfl
  rwa [Al9]at this
 have f:(s.heap.push Ah1).Ns s.heap.objs.size (λ_=>y0):=⟨Ah1, #[],_,e1,rfl,(λe a=>absurd a (by simp)),λ_=>rfl⟩
 have d:=I.laid (o:= .own (s.heap.objs.size+1)) (t':=s.toks) (λb u q=>Aa9 _ q) (Aa8 _) ⟨_,e1⟩
 refine d.laid (λb u q=>Aa9 _ q) (Ak8 (Al9 _ _)) ?_
 have ne:s.heap.objs.size≠s.heap.objs.size+1:=Ac7 (Af5 _)
 refine⟨by rw [Ja ne,qd],Ac8 _,ne,e2,λ_=>y0,(Heap.Ns1.of_empty f).at λo q=>Aa9 _ q,λ_=>True.intro,λy c=>absurd rfl c⟩
def Ll (a:attributeBase e f env (eval e env)=eval e env)
 (h:wpAny (model prog w) A (eval e env) (λo j=>wpAny (model prog w) A (getAttr o f u0) Q E j) E s):wpAny (model prog w) A (eval (.Attribute e f pos) env) Q E s:=
 Attribute_any_ h (by rw [arm_eval_Attribute,a])
end
def AN (K:Aa6) (b:TE) (f:Str):TE:=λU H Q=>b U H λx H1=> ∃a C dx fs v,x= .ref a/\H1 a=k0 (.ins C dx fs)/\dN K C/\b0 K C f/\fs.lookup f=k0 v/\Q v H1
def Cg (K:Aa6) (c b:TE) (f:Str):TS:=λD U H=>b U H λy H1=>c U H1 λx H2=> ∃a C dx fs,x= .ref a/\H2 a=k0 (.ins C dx fs)/\dN K C/\b0 K C f/\fs.length<1000 ∧
 D.nx U (aR H2 a (.ins C dx (aQ f y fs)))
section
variable {X:Cx}{o e value:Expr}{f:Str}{pos pos' tpos:Pos}{ta tv:TE}
def KP (k:PE X e ta) (j:attributeBase e f X.env (eval e X.env)=eval e X.env):PE X (.Attribute e f pos) (AN X.K ta f):=by
 intro b s U H Q I h
 refine Ll j (aP (k b s U H _ I h) ?_)
 rintro u y ⟨x,g,o,d,a,C,t,fs,v,ex,i,c,n,l,q⟩
 subst ex
 obtain rfl:u=Value.ref a:=d
 exact D4 o i c n l λw r p m=>⟨v,g,p,m,q⟩
def tJ (i:PE X o ta) (t:PE X value tv) (e:swapsWith value (k0 (.Attribute o f pos')) pos.line X.env=pure k9):PS X (.Assign [.Attribute o f pos'] value pos) (Cg X.K ta tv f):=by
 intro b s U H D I h
 refine plainObj_wpAny_Assign_Attribute (aP (t b s U H _ I h) λu r ⟨y,j,w,p,q⟩=>aP (i b r U j _ w q) λg A ⟨x,F,z,d,a,C,B,fs,ex,m,c,n,l,k⟩=> ?_) e
 subst ex
 obtain rfl:g=Value.ref a:=d
 exact Ln z m c n l p λE v=>⟨U,_,v,k⟩
end
section
variable {X:Cx}{k8:List (Addr×Obj)}{U:St}{H:Hp}{s:Shared}{A:Around}{E:Value->Shared->Prop}{Q:Value->Shared->Prop}{c:Value}{b:Bool}
inductive e8 (K:Aa6) (H:Hp):V->Value->Prop where
 | ak:e8 K H .ak (.type "NoneType")
 | bl (x:Bool):e8 K H (.bl x) (.type "bool")
 | int (i:Int):e8 K H (.int i) (.type "int")
 | str (x:Str):e8 K H (.str x) (.type "str")
 | gL (x:UInt64):e8 K H (.gL x) (.type "float")
 | lst {a:Addr}{xs:List V}(e:H a=k0 (.lst xs)):e8 K H (.ref a) (.type "list")
 | d9 {a:Addr}{o:Obj}{xs:List V}(e:H a=k0 (.d9 o (.lst xs))):e8 K H (.ref a) (.type "list")
 | tup {a:Addr}{xs:List V}(e:H a=k0 (.tup xs)):e8 K H (.ref a) (.type "tuple")
 | dK {a:Addr}{kvs:List (c7×V)}(e:H a=k0 (.dK kvs)):e8 K H (.ref a) (.type "dict")
 | dT {a:Addr}{kvs:List (List c7×V)}(e:H a=k0 (.dT kvs)):e8 K H (.ref a) (.type "dict")
 | ins {a C dx:Addr}{fs:List (Str×V)}(e:H a=some (.ins C dx fs)) (cl:dN K C) (ha:PySem.W.findIn K (.ref C) "__class__" =some (some (.builtin "object.__class__")))
  (hn:PySem.W.specialIn K (.builtin "object.__class__") "__get__" =some (some (.builtin "getset_descriptor.__get__"))) (htk:PySem.W.takesIn K (.builtin "object.__class__")=some true)
  (hm:PySem.W.mroIn K C (.type "object")=some true):e8 K H (.ref a) (.ref C)
def zk (I:Inv X k8 U H s) (d:RelV x u) (ty:e8 X.K H x t) (e:PySem.W.kitOne X.K t c=k0 b) (h: ∀tk,Q (.bool b) { s with toks:=tk }):
 wpAny (model X.prog X.w) A (call (.builtin "isinstance") [u,c]) Q E s:=by
 cases ty with
 | ak=>cases (d);exact Ae9 PySem.W.kitx_none I.cb True.intro e (λz=>nomatch z) h
 | bl y=>cases (d);exact Ae9 PySem.W.kitx_bool I.cb True.intro e (λz=>nomatch z) h
 | int i=>obtain⟨t,q⟩:=(d);cases q;exact Ae9 PySem.W.kitx_int I.cb True.intro e (λz=>nomatch z) h
 | str y=>obtain⟨t,q⟩:=(d);cases q;exact Ae9 PySem.W.kitx_str I.cb True.intro e (λz=>nomatch z) h
 | gL y=>obtain⟨t,q⟩:=(d);cases q;exact Ae9 PySem.W.kitx_float I.cb True.intro e (λz=>nomatch z) h
 | @lst a k f=>
  cases (d)
  obtain⟨_,_,n,_,g⟩:=(show aV X.prog X.w H s.heap a (.lst k)from I.bf a _ f)
  exact Ae9 Ao0 I.cb ⟨_,g,rfl⟩ e (λz=>nomatch z) h
 | @d9 a D k f=>
  cases (d)
  obtain⟨_,_,_,n,_,g⟩:=(show aV X.prog X.w H s.heap a (.d9 D _)from I.bf a _ f)
  exact Ae9 Ao0 I.cb ⟨_,g,rfl⟩ e (λz=>nomatch z) h
 | @tup a k f=>
  cases (d)
  obtain⟨_,_,_,p⟩:=(show aV X.prog X.w H s.heap a (.tup k)from I.bf a _ f)
  obtain⟨o,g,l,_⟩:=p
  exact Ae9 PySem.W.kitx_tuple I.cb ⟨o,g,l⟩ e (λz=>nomatch z) h
 | @dK a j f=>
  cases (d)
  obtain⟨_,_,M,_,p⟩:=(show aV X.prog X.w H s.heap a (.dK j)from I.bf a _ f)
  obtain⟨o,v,F,g,l,_⟩:=p
  exact Ae9 PySem.W.kitx_dict I.cb ⟨o,g,l.1⟩ e (λz=>nomatch z) h
 | @dT a j f=>
  cases (d)
  obtain⟨_,_,k,_,o,v,F,g,l,_⟩:=(show aV X.prog X.w H s.heap a (.dT j)from I.bf a _ f)
  exact Ae9 PySem.W.kitx_dict I.cb ⟨o,g,l.1⟩ e (λz=>nomatch z) h
 | @ins a C L fs f r w B m G=>
  cases (d)
  obtain⟨K,O,_⟩:=XO I.bf f
  obtain⟨od,J,_⟩:=O.look
  exact Ae9 (PySem.W.kitx_own (r.get _) r.hd w B m G) I.cb J e (λz=>nomatch z) h
end
structure bj (k:Nat) (A:Around):Prop where
 hd:A.handled=y0
 dp:A.depth+k+5<recursionLimit
 un:A.units+16*k+200<cLine
def bj.mono (r:bj k A) (h:j<=k):bj j A:=⟨r.hd,by have:=r.dp;lia,by have:=r.un;lia⟩
theorem bj.deeper (r:bj (k+1) A) (env):bj k (A.deeper env):=
 ⟨r.hd,by have:=r.dp;show A.depth+1+k+5<_;lia,by have:=r.un;show A.units+3+16*k+200<_;lia⟩
def Dl {A:Around}:(A.under (.builtin "type.__call__" ⟨.ref C::us,kw⟩)).depth=A.depth+1:=by
 first | rfl | simp [guardIds]
def DH {A:Around}:(A.under (.builtin "type.__call__" ⟨.ref C::us,kw⟩)).units=A.units+1:=by
 first | rfl | simp [Code.isFrame]
def bj.make (r:bj (k+1) A) (C) (us) (kw):bj k (A.under (.builtin "type.__call__" ⟨.ref C::us,kw⟩)):=
 ⟨r.hd,by have:=r.dp;rw [Dl];lia,by have:=r.un;rw [DH];lia⟩
theorem bj.depth (r:bj k A):A.depth<recursionLimit:=by have:=r.dp;omega
def oE:TA:=λ_ H Q=>Q [] H
def BA (a:TE) (b:TA):TA:=λU H Q=>a U H λx H1=>b U H1 λxs H2=>Q (x::xs) H2
section
variable {X:Cx}{e:Expr}{es:List Expr}{te:TE}{t:TA}{pos:Pos}
def Jn:PA X [] oE:=λ_ _ _ _ H Q I h=>Calls.spliced_nil ⟨[],H,I,.nil,h⟩
def qg (f:PE X e te) (k:PA X es t) (c:starEach (e::es) X.env=(k9,eval e X.env)::starEach es X.env:=by rfl):PA X (e::es) (BA te t):=by
 intro b a s U H Q I h
 rw [c]
 refine Calls.spliced_cons (aP (f a s U H _ I h) ?_)
 rintro u m ⟨x,g,o,l,d⟩
 exact aP (k b a m U g _ o d) λv r ⟨j,n,p,q,i⟩=>⟨x::j,n,p,.cons l q,i⟩
def vW (t:TA):TE:=λU H Q=>t U H λxs H1=>xs.length<=sizeLine/\ ∀p,H1 p=y0->Q (.ref p) (aR H1 p (.tup xs))
def Ew (t:TA):TE:=λU H Q=>t U H λxs H1=>xs.length<=sizeLine/\ ∀p,H1 p=y0->Q (.ref p) (aR H1 p (.lst xs))
def ID {x1}(h:PA X es t):PE X (.Tuple es x1 pos) (vW t):=by
 intro a s U H Q I f
 refine wpAny_Tuple_spliced (aP (h pos a s U H _ I f) λi c ⟨k,g,d,r,z,q⟩=>⟨by rw [← r.length];exact z,?_⟩)
 have j:=d.bf.fresh (Aa8 _)
 refine⟨.ref c.heap.objs.size,aR g c.heap.objs.size _,d.laid (λb u e=>Aa9 _ e) (Aa8 _) ?_,rfl,q _ j⟩
 exact⟨z,i,r,⟨_,Ac4 _ rfl,rfl,rfl,_,rfl⟩⟩
def Bh (h:PA X es t):PE X (.List es pos) (Ew t):=by
 intro a s U H Q I f
 refine wpAny_List_spliced (aP (h pos a s U H _ I f) λi c ⟨k,g,d,r,z,q⟩=>⟨by rw [← r.length];exact z,?_⟩)
 have j:=d.bf.fresh (Aa8 _)
 refine⟨.ref c.heap.objs.size,aR g c.heap.objs.size _,d.laid (λb u e=>Aa9 _ e) (Aa8 _) ?_,rfl,q _ j⟩
 exact⟨z,i,0,r,Ac4 _ rfl⟩
end
abbrev Sp:=List V->Hp->VK->XK->Prop
abbrev gH:=List Env->Hp->Shared->XK->Value->Shared->Prop
structure ek (P:Program) (w:World) (K:Aa6) (mg:Str->Option Value) (base:Heap) (A:Around) (outer:List Env) (s:Shared) (H:Hp):Prop where
 frames:A.frames=k0 outer
 mod:Mod K mg base
 bs: ∀b o,base.get? b=k0 o->s.heap.get? b=k0 o/\H b=y0
 hA:base.objs.size<=s.heap.objs.size
 dq:s.heap.FunFrames base outer
 kB: ∀b∈cV outer,H b=y0
 bf:cM P w H s.heap
 bare:AllBare s.gens
def CE (a:List Env) (P:Program) (w:World) (H:Hp) (s:Shared) (Q:VK) (u:Value) (s':Shared):Prop:=
 ∃v H',s'.os=s.os/\AllBare s'.gens/\Un (cV a) [] H H' s.heap s'.heap/\cM P w H' s'.heap/\RelV v u/\Q v H'
def CR (b:gH) (a:List Env) (P:Program) (w:World) (H:Hp) (s:Shared) (Q:VK) (E:XK) (r:Result) (s':Shared):Prop:=
 match r with
 | .ok (.ret u)=>CE a P w H s Q u s'
 | .ok _=>False
 | .error e=>b a H s E e s'
structure bA (P:Program) (w:World) (K:Aa6) (mg:Str->Option Value) (base:Heap) (CX:gH) (k:Nat) (f:Addr) (fd:FuncData) (ps:List Str) (sp:Sp):Prop where
 len: ∀vs H Q E,sp vs H Q E->vs.length=ps.length
 run: ∀(A:Around) (outer:List Env) (s:Shared) (H:Hp) (args:Args) (us:List Value) (vs:List V) (Q:VK) (E:XK),bj k A->ek P w K mg base A outer s H->BindsTo s fd args (ps.zip us)->Vals vs us->sp vs H Q E →
  codeAny (model P w) A (.call (.ref f) args) (CR CX outer P w H s Q E) s
def ek.make {K:Aa6}(e:ek P w K mg base A outer s H) (C) (us) (kw):
 ek P w K mg base (A.under (.builtin "type.__call__" ⟨.ref C::us,kw⟩)) outer s H:=⟨by first | exact e.frames | (simpa [pushEnvs]using e.frames),e.mod,e.bs,e.hA,e.dq,e.kB,e.bf,e.bare⟩
section
variable {X:Cx}{k8:List (Addr×Obj)}{U:St}{H:Hp}{s s':Shared}
def Inv.kI (I:Inv X k8 U H s):ek X.prog X.w X.K X.mg X.base X.A X.stack s H:=
 ⟨I.ok.frames,I.ok.mod,I.bs,Ab9 I.ok.hA I.sz,I.stack,I.cU,I.bf,I.bare⟩
def Inv.after (I:Inv X k8 U H s) (h:CE X.stack X.prog X.w H s Q u s'):EP X k8 U Q u s':=by
 obtain⟨v,i,f,a,un,e,r,q⟩:=h
 obtain⟨j,g,d,t,c⟩:=s'
 obtain rfl:c=s.os:=f
 exact⟨v,i,I.call un e a (λb z=>absurd z (by simp)),r,q⟩
end
def uO (b:Sp) (a:List V) (E:XK) (t:TA):TE:=λU H Q=>t U H λc H1=>b (c++a) H1 Q E
def vz (C:Addr) (m:Str) (d:Sp) (b:List V) (E:XK) (c:TE) (t:TA):TE:=λU H Q=>c U H λx H1=> ∃a dx fs,x= .ref a/\H1 a=k0 (.ins C dx fs)/\fs.lookup m=y0 ∧
 t U H1 λe H2=>d (x::(e++b)) H2 Q E
def EJ (C:Addr) (b:Sp) (a:List V) (E:XK) (t:TA):TE:=λU H Q=>t U H λc H1=> ∀x dx,H1 x=y0->H1 dx=y0->dx≠x →
 b (.ref x::(c++a)) (aR (aR H1 dx (.own x)) x (.ins C dx [])) (λv H2=>v= .ak/\Q (.ref x) H2) E
def Binds (K:Aa6) (b:FuncData) (ps:List Str) (ds:List Value):Prop:=
 ∀(s:Shared) (a:List Value),K.In s.heap->(a++ds).length=ps.length->BindsTo s b ⟨a,[]⟩ (ps.zip (a++ds))
def Binds.all {K:Aa6}(h: ∀j:List Value,j.length=ps.length->bindArgs fd ⟨j,[]⟩=pure (ps.zip j)):Binds K fd ps []:=λs j _ a=>by
 rw [Ag0]at a ⊢
 exact .of_eq (h j a)
def Jw (a:gH) (X:Cx) (E:XK):Prop:= ∀(k8:List (Addr×Obj)) (U:St) (H:Hp) (s:Shared) (e:Value) (s':Shared),Inv X k8 U H s->a X.stack H s E e s'->X.xe e s'
section
variable {X:Cx}{CX:gH}{k:Nat}{f C:Addr}{fd:FuncData}{ps:List Str}{sp:Sp}{dvs:List V}{ds:List Value}{E:XK}{x m:Str}{p pos apos:Pos}{e o:Expr}{es:List Expr}{ta:TE}{t:TA}
def lz (F:bA X.prog X.w X.K X.mg X.base CX k f fd ps sp) (j:bj k X.A) (i:Binds X.K fd ps ds) (l:Vals dvs ds) (d:Jw CX X E)
 (I:Inv X k8 U H s) (r:Vals vs us) (h:sp (vs++dvs) H Q E):wpAny (model X.prog X.w) X.A (call (.ref f) us) (EP X k8 U Q) X.xe s:=by
 have b:=r.append l
 have g:(us++ds).length=ps.length:=by rw [← b.length];exact F.len _ _ _ _ h
 refine wpAny_call (codeAny_mono (F.run X.A X.stack s H ⟨us,[]⟩ _ _ Q E j I.kI (i s us I.cb g) b h) λr m a=> ?_)
 cases r with
 | error e=>exact d k8 U H s e m I a
 | ok c=>
  cases c with
  | ret u=>exact I.after a
  | next=>exact False.elim a
  | brk=>exact False.elim a
  | cont=>exact False.elim a
def Fw (F:bA X.prog X.w X.K X.mg X.base CX k f fd ps sp) (l:bj k X.A) (n:Gl X x) (v:X.mg x=k0 (.ref f)) (o:Ag9 X.K (.ref f)=u0) (j:Binds X.K fd ps ds) (m:Vals dvs ds) (g:Jw CX X E)
 (i:PA X (e::es) t) (c:(x==("__debug__" :Str))=false:=by decide) (u:starEach (e::es) X.env=(false,eval e X.env)::starEach es X.env:=by rfl) (b:(backTo pos (starEach es X.env)).any (·.1)=false:=by rfl):
 PE X (.Call (.Name x p) (e::es) [] pos) (uO sp dvs E t):=by
 intro a s U H Q I h
 refine wpAny_Call_Name_kw (WQ I n v ?_ c)
 refine An6 I.ok.mod.kA o (aP (i pos a s U H _ I h) λz A ⟨y,w,d,r,q⟩=>⟨d.cb,?_⟩) u b
 exact lz F l j m g d r q
def Lw (F:bA X.prog X.w X.K X.mg X.base CX k f fd ps sp) (i:bj k X.A) (c:Gl X x) (l:X.mg x=k0 (.ref f)) (e:Ag9 X.K (.ref f)=u0) (g:Binds X.K fd ps ds) (j:Vals dvs ds) (d:Jw CX X E)
 (a:(x==("__debug__" :Str))=false:=by decide):PE X (.Call (.Name x p) [] [] pos) (uO sp dvs E oE):=by
 intro b s U H Q I h
 refine wpAny_Call_Name_kw (WQ I c l ?_ a)
 exact PySem.W.callWith_K0 I.cb e (lz F i g j d I .nil h)
def yt (N:PE X o ta) (c:dN X.K C) (v:kU X.K C m f) (F:bA X.prog X.w X.K X.mg X.base CX k f fd ps sp) (K:bj k X.A) (J:Binds X.K fd ps ds) (L:Vals dvs ds) (y:Jw CX X E) (A:PA X (e::es) t)
 (d:starEach (e::es) X.env=(k9,eval e X.env)::starEach es X.env:=by rfl) (g:(backTo pos (starEach es X.env)).any (·.1)=false:=by rfl)
 (z:eval (.Call (.Attribute o m apos) (e::es) [] pos) X.env=(do
   let j ←eval o X.env
   standAt apos.atName
   let (f,first) ←holding [j] (getMethod j m pl)
   callWith pos f first (backTo pos (starEach (e::es) X.env)) (backToKw pos (keywordEach [] X.env))):=by rfl):
 PE X (.Call (.Attribute o m apos) (e::es) [] pos) (vz C m sp dvs E ta t):=by
 intro b s U H Q I h
 refine PySem.W.methodCall_KW (aP (N b s U H _ I h) λu M ⟨x,B,n,w,a,P,fs,ex,G,l,q⟩=> ?_) z
 subst ex
 obtain rfl:u=Value.ref a:=w
 refine xM n G c v l ?_
 refine An6 I.ok.mod.kA v.kp (aP (A pos b M U B _ n q) λR O ⟨i,S,p,r,D⟩=>⟨p.cb,?_⟩) d g
 exact lz (vs:= .ref a::i) F K J L y p (.cons rfl r) D
def Ci (w:PE X o ta) (c:dN X.K C) (e:kU X.K C m f) (F:bA X.prog X.w X.K X.mg X.base CX k f fd ps sp) (t:bj k X.A) (r:Binds X.K fd ps ds) (v:Vals dvs ds) (i:Jw CX X E)
 (n:eval (.Call (.Attribute o m apos) [] [] pos) X.env=(do
   let j ←eval o X.env
   standAt apos.atName
   let (f,first) ←holding [j] (getMethod j m pl)
   callWith pos f first (backTo pos (starEach [] X.env)) (backToKw pos (keywordEach [] X.env))):=by rfl):
 PE X (.Call (.Attribute o m apos) [] [] pos) (vz C m sp dvs E ta oE):=by
 intro b s U H Q I h
 refine PySem.W.methodCall_KW (aP (w b s U H _ I h) λu A ⟨x,z,d,g,a,y,fs,ex,p,l,q⟩=> ?_) n
 subst ex
 obtain rfl:u=Value.ref a:=g
 refine xM d p c e l ?_
 exact PySem.W.callWith_K0 d.cb e.kp (lz (vs:= [.ref a]) F t r v i d (.cons rfl .nil) q)
structure Mk (K:Aa6) (C f:Addr):Prop where
 makes:PySem.W.makesIn K C=u0
 init:PySem.W.findIn K (.ref C) "__init__" =some (some (.ref f))
 fn:PySem.W.isFn K (.ref f)=u0
 kp:Ag9 K (.ref C)=u0
def DQ (M:Mk X.K C f) (F:bA X.prog X.w X.K X.mg X.base CX k f fd ps sp) (m:bj (k+1) X.A) (l:Binds X.K fd ps ds) (n:Vals dvs ds)
 (i:Jw CX X E) (I:Inv X k8 U H s) (r:Vals vs us)
 (h: ∀x dx,H x=y0->H dx=y0->dx≠x->sp (.ref x::(vs++dvs)) (aR (aR H dx (.own x)) x (.ins C dx [])) (λv H2=>v= .ak/\Q (.ref x) H2) E):
 wpAny (model X.prog X.w) X.A (call (.ref C) us) (EP X k8 U Q) X.xe s:=by
 have c:=h _ s.heap.objs.size (I.bf.fresh (Aj8 _)) (I.bf.fresh (Aa8 _)) (Ac7 (Af5 _))
 have b:=Inv.made (C:=C) I
 have d:Vals (V.ref (s.heap.objs.size+1)::(vs++dvs)) _:= .cons rfl (r.append n)
 have j:=by
  have e:=d.length
  rw [F.len _ _ _ _ c]at e
  exact e.symm
 refine wpAny_call (HS I.cb M.makes M.init (beq_iff_eq.mp M.fn) (codeAny_mono (F.run _ X.stack _ _ ⟨Value.ref _::us,[]⟩ _ _ _ E (m.make C us [])
  (b.kI.make C us []) (l _ _ b.cb j) d c) λr q a=> ?_))
 cases r with
 | error e=>exact i k8 U _ _ e q b a
 | ok g=>
  cases g with
  | ret u=>
   obtain⟨v,p,t,rv,o,w⟩:=b.after a
   subst o
   exact⟨rv,⟨V.ref _,p,t,rfl,w⟩⟩
  | next=>exact False.elim a
  | brk=>exact False.elim a
  | cont=>exact False.elim a
def D7 (M:Mk X.K C f) (F:bA X.prog X.w X.K X.mg X.base CX k f fd ps sp) (l:bj (k+1) X.A) (n:Gl X x) (u:X.mg x=k0 (.ref C)) (j:Binds X.K fd ps ds) (m:Vals dvs ds) (g:Jw CX X E)
 (i:PA X (e::es) t) (c:(x==("__debug__" :Str))=false:=by decide) (o:starEach (e::es) X.env=(false,eval e X.env)::starEach es X.env:=by rfl) (b:(backTo pos (starEach es X.env)).any (·.1)=false:=by rfl):
 PE X (.Call (.Name x p) (e::es) [] pos) (EJ C sp dvs E t):=by
 intro a s U H Q I h
 refine wpAny_Call_Name_kw (WQ I n u ?_ c)
 refine An6 I.ok.mod.kA M.kp (aP (i pos a s U H _ I h) λy z ⟨w,v,d,r,q⟩=>⟨d.cb,?_⟩) o b
 exact DQ M F l j m g d r q
end
section
variable {X:Cx}{CX:gH}{k:Nat}{f C:Addr}{fd:FuncData}{ps ks:List Str}{sp:Sp}{E:XK}{x m:Str}{p pos apos kpos:Pos}{e o:Expr}{es:List Expr}{kws:List Keyword}{te ta:TE}{t tk:TA}{nm:Option Str}
structure Ly (K:Aa6) (fd:FuncData) (ps ks:List Str) (g:List Value->List Value->List Value) (gV:List V->List V->List V):Prop where
 to: ∀(s:Shared) (us ws:List Value),K.In s.heap->(g us ws).length=ps.length->BindsTo s fd ⟨us,ks.zip ws⟩ (ps.zip (g us ws))
 rel: ∀ {vs:List V}{us:List Value}{zs:List V}{ws:List Value},Vals vs us->Vals zs ws->Vals (gV vs zs) (g us ws)
variable {g:List Value->List Value->List Value}{gV:List V->List V->List V}
end
structure QA (N P:List Str) (sc:Scope):Prop where
 kind:sc.kind= .function
 co:sc.isCoroutine=k9
 gen:sc.isGenerator=k9
 nd:N.Nodup
 pre:N.take P.length=P
 par: ∀x∈P,sc.names.lookup x=k0 .local\/sc.names.lookup x=k0 .cell
 ij: ∀y∈sc.names,y.2≠ .free
theorem zV {a:Str->Option NameKind}: ∀ {j}{m},(∀ v,(x,v)∉j)->bindL a j m x=m x
 | [],_,_=>rfl
 | (n,v)::r,m,h=>by
  unfold bindL
  rw [zV λw b=>h w (Aa4 _ b)]
  split
  ·have:x≠n:=by rintro rfl;exact h v Aa7
   simp [this]
  ·rfl
theorem zU {a:Str->Option NameKind}: ∀ {j}{m},(∀ v,(x,v)∉j)->bindC a j m x=m x
 | [],_,_=>rfl
 | (n,v)::r,m,h=>by
  unfold bindC
  rw [zU λw b=>h w (Aa4 _ b)]
  split
  ·rfl
  ·have:x≠n:=by rintro rfl;exact h v Aa7
   simp [this]
theorem jZ {a:Str->Option NameKind}: ∀ {P:List Str}{vs}{i:Nat}{m},P.Nodup->P[i]? =k0 x->vs[i]? =k0 v->a x=k0 .local →
 bindL a (P.zip vs) m x=k0 v
 | [],_,_,_,_,h,_,_=>by simp at h
 | _::_,[],_,_,_,_,h,_=>by simp at h
 | p::P,w::vs,0,m,e,b,c,d=>by
  simp at b c;subst b;subst c
  show bindL a ((p,w)::P.zip vs) m p=_
  unfold bindL
  rw [zV λv f=>(Ag4.mp e).1 (List.of_mem_zip f).1,if_pos d]
  simp
 | p::P,w::vs,i+1,m,e,b,c,d=>by
  unfold bindL
  exact jZ (Ag4.mp e).2 (by simpa using b) (by simpa using c) d
theorem QZ {a:Str->Option NameKind}: ∀ {P:List Str}{vs}{i:Nat}{m},P.Nodup->P[i]? =k0 x->vs[i]? =k0 v->a x≠k0 .local →
 bindC a (P.zip vs) m x=k0 v
 | [],_,_,_,_,h,_,_=>by simp at h
 | _::_,[],_,_,_,_,h,_=>by simp at h
 | p::P,w::vs,0,m,e,b,c,d=>by
  simp at b c;subst b;subst c
  show bindC a ((p,w)::P.zip vs) m p=_
  unfold bindC
  rw [zU λv f=>(Ag4.mp e).1 (List.of_mem_zip f).1,if_neg d]
  simp
 | p::P,w::vs,i+1,m,e,b,c,d=>by
  unfold bindC
  exact QZ (Ag4.mp e).2 (by simpa using b) (by simpa using c) d
def start (N:List Str) (vs:List V):St:=vs.map k0++Aa2 (N.length-vs.length) y0
noncomputable def g9 (CX:gH) (P:Program) (w:World) (K:Aa6) (mg:Str->Option Value) (base:Heap) (N:List Str) (u8:Str) (scope:Scope) (f:Addr) (cd:Value) (A:Around) (outer:List Env) (s:Shared) (H:Hp) (E:XK):Cx where
 prog:=P
 w:=w
 K:=K
 mg:=mg
 base:=base
 A:=A.deeper (envOfC u8 scope s.heap.objs.size f cd)
 N:=N
 s₀:=s
 H₀:=H
 env:=envOfC u8 scope s.heap.objs.size f cd
 outer:=outer
 stack:=envOfC u8 scope s.heap.objs.size f cd::outer
 ex:= []
 calm:=u0
 fn:=λ_=>u0
 pn:= []
 xe:=λe s'=>wpAny (model P w) (A.deeper (envOfC u8 scope s.heap.objs.size f cd)) (leaving (envOfC u8 scope s.heap.objs.size f cd) e) (λ_ s''=>CX outer H s E e s'') (λe' s''=>CX outer H s E e' s'') s'
def tm {sc:Scope}(h:sc.names.lookup x=k0 .cell): ∃c,(cellsFrom n sc.names []).lookup x=k0 c:=by
 have q:=Am1 sc.names n [] (.inl h)
 exact Ah2.mp q
def ym {K:Aa6}
 (S:QA N ps scope) (hd:A.handled=y0) (e0:ek P w K mg base A outer s H) (hl:vs.length=ps.length) (r:Vals vs us)
 (x:InCallC s s.heap.objs.size (bindL (envOfC u8 scope s.heap.objs.size f cd).kindOf (ps.zip us) λ_=>y0) (cellsFrom (s.heap.objs.size+1) scope.names []) (bindC (envOfC u8 scope s.heap.objs.size f cd).kindOf (ps.zip us) λ_=>y0) s1):
 Inv (g9 CX P w K mg base N u8 scope f cd A outer s H E) [] (start N vs) H s1:=by
 have hpl:ps.length<=N.length:=by have:=congrArg List.length S.pre;rw [Af]at this;lia
 obtain⟨h1,tk,rfl,hk⟩:=x.done
 have noA: ∀b:Addr,b∉(g9 CX P w K mg base N u8 scope f cd A outer s H E).ex:=λb z=>absurd (show b∈ []from z) (by simp)
 refine⟨⟨e0.mod,S.kind,rfl,rfl,Aa8 _,λy z c h1 h2=> ?_,λy hy=> ?_,λy c _ h=> ?_,λ_=>hd,Around.frames_deeper e0.frames,.inr ⟨rfl,rfl⟩,λb z=>absurd z (noA b),e0.bs,e0.hA,λb _ _=>noA b,λb z=>absurd z (noA b),e0.dq,e0.kB⟩,
  rfl,e0.bare,Un.kept hk,⟨_,x.toInCall.ns,λi y v h1 h2 h3=> ?_⟩,λy c h=>⟨_,x.cell y c h⟩,e0.bf.fresh (Aa8 _),λy c h=> ?_,λp hp=>absurd (show p∈ []from hp) (by simp),e0.bf.kept hk,?_⟩
 ·exact name_of_addr x.apart (PySem.mem_of_lookup h1) (PySem.mem_of_lookup h2)
 ·have hy:=hy
  obtain hy | hy:=hy
  ·exact tm hy
  ·exact absurd rfl (S.ij _ (PySem.mem_of_lookup hy))
 ·exact Ag (x.above y c (PySem.mem_of_lookup h))
 ·have hi:i<vs.length:=by
   unfold start at h2
   by_cases hi:i<vs.length
   ·exact hi
   ·rw [Ad6 (by simpa using hi)]at h2
    rw [Ai0]at h2
    split at h2<;>cases h2
  have ha:vs[i]? =k0 v:=by
   unfold start at h2
   rw [Ac9 (by simpa using hi),Ac2]at h2
   cases e:vs[i]? with
   | none=>rw [e]at h2;cases h2
   | some a=>rw [e]at h2;cases h2;rfl
  obtain⟨u,hu,rv⟩:=r.get ha
  have hp:ps[i]? =k0 y:=by
   rw [← S.pre,Am0 (by lia)];exact h1
  have ndP:ps.Nodup:=by rw [← S.pre];exact S.nd.sublist (List.take_sublist _ _)
  refine⟨u,rv,?_⟩
  rcases S.par y (Ad4 hp)with k | k
  ·exact .inl ⟨k,jZ ndP hp hu k⟩
  ·obtain⟨c,e⟩:=tm k
   refine .inr ⟨.inl k,c,e,?_⟩
   have q:=x.cell y c e
   rw [QZ ndP hp hu (by show scope.names.lookup y≠_;rw [k];decide)]at q
   exact q
 ·exact e0.bf.fresh (Ag (x.above y c (PySem.mem_of_lookup h)))
 ·unfold start
  show _=N.length
  rw [Ab1,Aa,Ad]
  lia
def DV {K:Aa6}{dV kV doc pm cdv ct oc:Value}
 (lk:K.lookup f=k0 ⟨oc,od,.func (PySem.W.fnOf name u8 params body scope dV kV doc pm an cdv ct),osl⟩) (hcd:PySem.W.codeIn K cdv u8=u0) (S:QA N ps scope)
 (len: ∀vs H Q E,sp vs H Q E->vs.length=ps.length)
 (hbody: ∀ A outer s H vs Q E,bj k (A.deeper (envOfC u8 scope s.heap.objs.size f cdv))->sp vs H Q E →
   ∃t,cQ (g9 CX P w K mg base N u8 scope f cdv A outer s H E) body t/\t { nx:=λ_ H'=>Q .ak H',rt:=Q } (start N vs) H):
 bA P w K mg base CX (k+1) f (PySem.W.fnOf name u8 params body scope dV kV doc pm an cdv ct) ps sp:=by
 refine⟨len,λA outer s H args us vs Q E hr e0 hb r hsp=> ?_⟩
 have hl:=len _ _ _ _ hsp
 have KX:=e0.mod.kA.keeps λb o e=>(e0.bs b o e).1
 have lim:=e0.mod.nolimit.keeps λb o e=>(e0.bs b o e).1
 have hkind: ∀y∈ps.zip us,scope.names.lookup y.1=k0 .local\/(scope.names.lookup y.1=k0 .cell/\((cellsFrom (s.heap.objs.size+1) scope.names []).lookup y.1).isSome=u0):=by
  rintro ⟨n,v⟩ hy
  obtain q | q:=S.par n (List.of_mem_zip hy).1
  ·exact .inl q
  ·exact .inr ⟨q,Am1 _ _ _ (.inl q)⟩
 refine codeAny_call_function hr.depth (KX _ _ lk) rfl S.co S.gen rfl (PySem.W.codeRec_of KX hcd) (hb _ _ _ _ ?_)
 refine wpAny_newFunctionEnv_cells S.kind hkind λenv he s1 x=> ?_
 subst he
 refine⟨lim.keeps x.toInCall.keep,codeAny_func ?_⟩
 obtain⟨t,ht,hq⟩:=hbody A outer s H vs Q E (hr.deeper _) hsp
 have I:Inv (g9 CX P w K mg base N u8 scope f cdv A outer s H E) [] _ H s1:=ym S hr.hd e0 hl r x
 refine wpAny_mono (ht [] s1 _ H _ I hq) (λfl s' hs=> ?_) λe s' hs=>hs
 have fin: ∀ {U'}{H'}{v}{u},Inv (g9 CX P w K mg base N u8 scope f cdv A outer s H E) [] U' H' s'->RelV v u->Q v H'->CE outer P w H s Q u s':=
  λ{U' H' v u} J rv q=>⟨v,H',J.os,J.bare,J.base,J.bf,rv,q⟩
 cases fl with
 | ret u=>
  obtain⟨v,U',H',J,rv,q⟩:=hs
  exact fin J rv q
 | next=>
  obtain⟨U',H',J,q⟩:=hs
  exact fin (v:=V.ak) J rfl q
 | brk=>
  obtain⟨_,_,_,q⟩:=hs
  exact False.elim q
 | cont=>
  obtain⟨_,_,_,q⟩:=hs
  exact False.elim q
section
variable {X:Cx}{x:Str}{p pos:Pos}{e:Expr}{es:List Expr}{t:TA}{id T:String}{r:List V->Hp->VK->Prop}
def mU (r:List V->Hp->VK->Prop) (t:TA):TE:=λU H Q=>t U H λa H1=>r a H1 Q
def Jm (q:zt X (.builtin id) r) (j:Gl X x) (w:X.mg x=none) (o:bootBuiltins x=some (.builtin id)) (f:PA X (e::es) t) (k:x≠ "__name__" :=by decide) (c:(x==("__debug__" :Str))=false:=by decide)
 (u:starEach (e::es) X.env=(k9,eval e X.env)::starEach es X.env:=by rfl) (b:(backTo pos (starEach es X.env)).any (·.1)=false:=by rfl):PE X (.Call (.Name x p) (e::es) [] pos) (mU r t):=by
 intro a s U H Q I h
 refine wpAny_Call_Name_kw (wN I j w o ?_ k c)
 exact PyProof.Rows.callWith_builtin1 (aP (f pos a s U H _ I h) λm n ⟨i,g,v,l,d⟩=>q a n U g i m Q v l d) u b
def Wy (q:zt X (.type T) r) (j:Gl X x) (w:X.mg x=none) (o:bootBuiltins x=some (.type T)) (f:PA X (e::es) t) (k:x≠ "__name__" :=by decide) (c:(x==("__debug__" :Str))=false:=by decide)
 (u:starEach (e::es) X.env=(k9,eval e X.env)::starEach es X.env:=by rfl) (b:(backTo pos (starEach es X.env)).any (·.1)=false:=by rfl):PE X (.Call (.Name x p) (e::es) [] pos) (mU r t):=by
 intro a s U H Q I h
 refine wpAny_Call_Name_kw (wN I j w o ?_ k c)
 exact PyProof.Rows.callWith_type1 (aP (f pos a s U H _ I h) λm n ⟨i,g,v,l,d⟩=>q a n U g i m Q v l d) u b
end
end L2
namespace HT
open PySem PyProof.Rows
section
variable {prog:Program}{w:World}{A:Around}{E:Value->Shared->Prop}{s:Shared}
def gE (p:IsTup s.heap t vs.toArray) (q:IsTup s.heap b ws.toArray) (m:vs≠ [])
 (h1:ws= []->Q (.ref t) s) (x:ws≠ []->Q (.ref s.heap.objs.size) { s with heap:=s.heap.push { cls:= .type "tuple",data:= .seq (vs++ws).toArray } })
 (u:vs.length+ws.length<=sizeLine):wpAny (model prog w) A (binaryOp .Add (.ref t) (.ref b)) Q E s:=by
 obtain⟨⟨J,dd,j,sl⟩,f,v,n,r⟩:=id p
 obtain⟨⟨o,c,i,d⟩,a,h,l,k⟩:=id q
 subst v r h k
 have e:vs.toArray++ws.toArray=(vs++ws).toArray:=by simp
 by_cases g:ws= []
 ·exact concat_meets ⟨_,f,rfl⟩ ⟨_,a,rfl⟩ noFill_tuple_add seq_tuple_add PySem.F.slot_tuple_add PySem.F.entry_tuple_add (PySem.F.args_tuple_add_2 _ _)
   (tuple_addW1 t b vs.toArray ws.toArray n l dd c sl d (by simpa using m) (by simp [g])) ⟨f,a,h1 g⟩
 ·refine concat_meets ⟨_,f,rfl⟩ ⟨_,a,rfl⟩ noFill_tuple_add seq_tuple_add PySem.F.slot_tuple_add PySem.F.entry_tuple_add (PySem.F.args_tuple_add_2 _ _)
   (tuple_addW2 t b vs.toArray ws.toArray n l dd c sl d (by simpa using m) (by simp_all) (by simp_all)) ⟨f,a,?_⟩
  rw [e]
  exact x g
def aX (n d:Nat):Option Int->Nat
 | none=>d
 | some v=>if v<0 then(v+(n:Int)).toNat else min v.toNat n
def Dx (n d) (b:d<=n) (o):aX n d o<=n:=by
 cases o with
 | none=>exact b
 | some v=>
  show(if v<0 then(v+ n).toNat else min v.toNat n)<=n
  by_cases a:v<0
  ·rw [if_pos a];lia
  ·rw [if_neg a];exact Nat.min_le_right _ _
def vA (v) (n d:Nat):(if v<0 then max (v+(n:Int)) 0 else min v (n:Int))=((aX n d (k0 v):Nat):Int):=by
 show(if v<0 then max _ 0 else min v n)=(((if v<0 then(v+(n:Int)).toNat else min v.toNat n)))
 by_cases a:v<0
 ·simp only [if_pos a];lia
 ·simp [if_neg a];lia
def AW (a b) (n:Nat):Builtin.Slice.sliceAdjust a b 1 (n:Int)=(((aX n 0 a:Nat):Int),((aX n n b:Nat):Int)):=by
 have c: ¬(1<0):=by lia
 refine Prod.ext ?_ ?_
 ·cases a with
  | none=>rfl
  | some v=>exact vA v n 0
 ·cases b with
  | none=>rfl
  | some v=>exact vA v n n
def Br (i j:Nat):Builtin.Slice.slicePlaces (i:Int) (j:Int) 1=j-i:=by
 unfold Builtin.Slice.slicePlaces
 have a: 1>0:=by lia
 simp [Int.ediv_one]
 split<;>lia
def jL (p:IsPart v o) (h:Q o s):wpAny (model prog w) A (Builtin.Slice.slicePartIndex v) Q E s:=by
 cases p with
 | none=>exact slicePart_none h
 | int i t=>exact slicePart_int h
def bP {a d:Option Int}{Q:Int×Int×Nat->Shared->Prop}(e:s.heap.IsSliceOf sl vl vu .none) (pl:IsPart vl a) (g:IsPart vu d)
 (h:Q (((aX n 0 a:Nat):Int),1,aX n n d-aX n 0 a) s):wpAny (model prog w) A (Builtin.Slice.sliceApplied (.ref sl) (pure (n:Int))) Q E s:=by
 obtain⟨i,c,f,b⟩:=id e
 refine wpAny_bind (wpAny_bind (wpAny_field c b (x:=vl) rfl (wpAny_bind (wpAny_field c b (x:=vu) rfl (wpAny_bind (wpAny_field c b rfl (wpAny_pure ?_)))))))
 refine wpAny_bind (slicePart_none ?_)
 refine wpAny_bind (jL pl (wpAny_bind (jL g (wpAny_bind (wpAny_pure ?_)))))
 show wpAny _ _ (match Builtin.Slice.sliceAdjust a d 1 (n:Int)with | (a,d)=>pure (a,(1:Int),Builtin.Slice.slicePlaces a d 1)) _ _ s
 rw [AW a d n]
 show wpAny _ _ (pure _) _ _ s
 rw [Br]
 exact wpAny_pure h
def Hi (xs:Array Value) (i k:Nat):((Aa5 k).filterMap λ(m:Nat)=>xs[((i:Int)+(m:Int)*1).toNat]?).toArray=((xs.toList.drop i).take k).toArray:=by
 have e:(λ(m:Nat)=>xs[(i+(m:Int)*1).toNat]?)=λm=>xs[i+m]? :=by
  funext m
  have:(i+(m:Int)*1).toNat=i+m:=by lia
  rw [this]
 rw [e]
 have:=pick_run xs i k
 rw [List.filterMap_map]at this
 have e2:((λx=>xs[x]?)∘λx=>i+x)=λm=>xs[i+m]? :=rfl
 rw [e2]at this
 rw [this]
def cz {a c:Option Int}(d:IsTup s.heap t y8) (j:s.heap.IsSliceOf sl vl vu .none) (pl:IsPart vl a) (m:IsPart vu c)
 (k: ¬(aX y8.size 0 a=0/\aX y8.size y8.size c=y8.size))
 (h:Q (.ref s.heap.objs.size) { s with heap:=s.heap.push { cls:= .type "tuple",data:= .seq ((y8.toList.drop (aX y8.size 0 a)).take (aX y8.size y8.size c-aX y8.size 0 a)).toArray } })
 (o:y8.size<=sizeLine):wpAny (model prog w) A (getItem (.ref t) (.ref sl)) Q E s:=by
 have b:=by
  show((y8.toList.drop (aX y8.size 0 a)).take (aX y8.size y8.size c-aX y8.size 0 a)).toArray.size<=sizeLine
  rw [Ac0,Af,Af7,Aj5]
  omega
 have u:aX y8.size y8.size c<=y8.size:=Dx _ _ (Aa8 _) c
 obtain⟨l,g,e,n⟩:=id j
 have f:s.TypeIs (.ref sl) "slice" :=⟨l,g,e⟩
 unfold getItem
 try with_reducible refine wpAny_holding ?_
 refine wpAny_bind (wpAny_sequenceKey d.typeIs rfl ?_)
 refine wpAny_bind (wpAny_callSpecial?_slot d.typeIs PyProof.Rows.slot_tuple_getitem
  (wpAny_call_entry PyProof.Rows.slot_tuple_getitem d.typeIs entry_tuple_getitem ?_ (args_tuple_getitem _ _)))
 show wpAny _ _ (Builtin.Tuple.tupleItemsOf _ >>= _) _ _ s
 refine wpAny_bind (tupleItemsOf_ d ?_)
 refine wpAny_bind (wpAny_typeOf f ?_)
 refine wpAny_bind (bP j pl m ?_)
 have i: ¬((((aX y8.size 0 a:Nat):Int)==0&&(1:Int)==1&&(aX y8.size y8.size c-aX y8.size 0 a)==y8.size)=u0):=by
  intro q
  rw [Aa0,Aa0]at q
  have p:=eq_of_beq q.1.1
  have r:=eq_of_beq q.2
  exact k ⟨by lia,by omega⟩
 show wpAny _ _ (if _=u0 then _ else _) _ _ s
 rw [if_neg i,Hi]
 first
  | exact wpAny_bind _
  | exact wpAny_bind (wpAny_newObj_type (wpAny_bind (wpAny_pure (wpAny_pure ⟨_,rfl,wpAny_pure h⟩))) b)
  | exact wpAny_bind _
  | exact wpAny_bind _
end
end HT
namespace L2
open PySem PySem.Spec PyProof.Rows
abbrev TO:=St->Hp->(Option Int->Hp->Prop)->Prop
def PO (X:Cx) (e:Option Expr) (t:TO):Prop:=
 ∀(k8:List (Addr×Obj)) (s:Shared) (U:St) (H:Hp) (Q:Option Int->Hp->Prop),Inv X k8 U H s->t U H Q →
  wpAny (model X.prog X.w) X.A (evalPart e X.env) (λu s'=> ∃o H',Inv X k8 U H' s'/\IsPart u o/\Q o H') X.xe s
def Et:TO:=λ_ H Q=>Q y0 H
def K7 (t:TE):TO:=λU H Q=>t U H λx H1=> ∃i,x= .int i/\Q (k0 i) H1
section
variable {X:Cx}{e:Expr}{te:TE}{lo hi:Option Expr}{tl th:TO}{pos p2:Pos}
def tF:PO X y0 Et:=by
 intro a s U H Q I h
 exact wpAny_pure ⟨y0,H,I,.none,h⟩
def QS (h:PE X e te):PO X (k0 e) (K7 te):=by
 intro a s U H Q I b
 refine aP (h a s U H _ I b) ?_
 rintro u j ⟨x,d,g,f,c⟩
 obtain⟨i,rfl,q⟩:=c
 obtain⟨t,rfl⟩:=f
 exact⟨k0 i,d,g,.int i t,q⟩
def gb (X:Cx) (r:V->Option Int->Option Int->Hp->VK->Prop):Prop:=
 ∀(k8:List (Addr×Obj)) (s:Shared) (U:St) (H:Hp) (x:V) (v a b:Value) (lo hi:Option Int) (sl:Addr) (Q:VK),Inv X k8 U H s->RelV x v->s.heap.IsSliceOf sl a b .none->IsPart a lo->IsPart b hi->r x lo hi H Q →
  ∃T id,typeLookup (.type T) "__getitem__" =pure (some (.builtin id))/\s.TypeIs v T/\wpAny (model X.prog X.w) X.A (getItem v (.ref sl)) (EP X k8 U Q) X.xe s
def gb.or (h:gb X r) (h':gb X r'):gb X (λx lo hi H Q=>r x lo hi H Q\/r' x lo hi H Q):=by
 intro a s U H x v e f lo hi sl Q I b c pl d q
 obtain q | q:=q
 ·exact h a s U H x v e f lo hi sl Q I b c pl d q
 ·exact h' a s U H x v e f lo hi sl Q I b c pl d q
def IX (r:V->Option Int->Option Int->Hp->VK->Prop) (b:TE) (c th:TO):TE:=λU H Q=>b U H λx H1=>c U H1 λl H2=>th U H2 λu a=>r x l u a Q
def QO (p:gb X r) (F:PE X e te) (o:PO X lo tl) (z:PO X hi th):PE X (.Subscript e (.Slice lo hi y0 p2) pos) (IX r te tl th):=by
 intro a s U H Q I h
 refine Subscript_ (aP (F a s U H _ I h) ?_)
 rintro v A ⟨x,m,J,y,i⟩
 refine wpAny_Slice (aP (o a A U m _ J i) λd j ⟨l,B,K,pl,n⟩=>aP (z a j U B _ K n) ?_)
 rintro f c ⟨u,g,C,t,D⟩
 refine wpAny_pure ?_
 have G:Inv X a U g { c with heap:=c.heap.push { cls:= .type "slice",data:= .fields #[d,f,.none] } }:=C.kept fun b L q=>Heap.get?_push_of_some _ q
 obtain⟨T,id,E,k,w⟩:=p a { c with heap:=c.heap.push { cls:= .type "slice",data:= .fields #[d,f,.none] } } U g x v d f l u c.heap.objs.size Q G y (Heap.IsSliceOf.new ..) pl t D
 exact tail_any k E w (by with_unfolding_all rfl)
noncomputable def kH (xs:List V) (a b:Option Int):List V:=(xs.drop (HT.aX xs.length 0 a)).take (HT.aX xs.length xs.length b-HT.aX xs.length 0 a)
def wG (xs) (lo hi):(kH xs lo hi).length<=xs.length:=by
 unfold kH
 rw [Af,Af7]
 lia
def n5 (K:Aa6):V->Option Int->Option Int->Hp->VK->Prop:=λx lo hi H Q=> ∃a xs,x= .ref a/\cx K H a xs ∧
 ¬(HT.aX xs.length 0 lo=0/\HT.aX xs.length xs.length hi=xs.length)/\ ∀p,H p=y0->Q (.ref p) (aR H p (.tup (kH xs lo hi)))
def Ay:gb X (n5 X.K):=by
 intro i s U H x v t w p n sl Q I k m pl o h
 obtain⟨a,g,rfl,l,j,q⟩:=h
 cases k
 obtain⟨d,r,f,e⟩:=I.tuple l
 have c:d.toArray.size=g.length:=by rw [Ac0];exact r.length.symm
 refine⟨"tuple",_,PyProof.Rows.slot_tuple_getitem.lookup,f.typeIs,?_⟩
 refine HT.cz f m pl o (by rw [c];exact j) ?_ (by rw [c];exact e)
 rw [c]
 refine⟨.ref s.heap.objs.size,_,I.laid (λb u q=>Aa9 _ q) (Aa8 _) ?_,rfl,q _ (I.bf.fresh (Aa8 _))⟩
 exact⟨Ab9 (wG g p n) e,_,(r.drop _).take _,dc.new _ _⟩
def BQ (K:Aa6):R2:=λx y H Q=> ∃a b xs ys,x= .ref a/\y= .ref b/\cx K H a xs/\cx K H b ys/\xs≠ []/\xs.length+ys.length<=sizeLine ∧
 (ys= []->Q (.ref a) H)/\(ys≠ []-> ∀p,H p=y0->Q (.ref p) (aR H p (.tup (xs++ys))))
def Vals.dE (r:Vals xs us):us= []↔xs= []:=by
 cases r with
 | nil=>simp
 | cons _ _=>simp
def EU:bK X (binaryOp .Add) (BQ X.K):=by
 intro f s U H x y v u Q I i p h
 obtain⟨a,b,A,C,rfl,rfl,m,o,j,e,l,n⟩:=h
 cases i
 cases p
 obtain⟨k,d,r,_⟩:=I.tuple m
 obtain⟨g,c,t,_⟩:=I.tuple o
 refine HT.gE r t (λz=>j (d.dE.mp z)) (λz=>⟨.ref a,H,I,rfl,l (c.dE.mp z)⟩) (λz=> ?_) (by rw [← d.length,←c.length];exact e)
 refine⟨.ref s.heap.objs.size,_,I.laid (λb B q=>Aa9 _ q) (Aa8 _) ?_,rfl,n (λw=>z (c.dE.mpr w)) _ (I.bf.fresh (Aa8 _))⟩
 exact⟨by rw [Ab1];exact e,_,d.append c,dc.new _ _⟩
end
noncomputable def dC (n:Nat) (i:Int):Option Nat:=if 0<=i then(if i<n then k0 i.toNat else y0)else if -(n:Int)<=i then k0 (i+n).toNat else y0
def aW {a:Type}(xs:List a) (i:Int):Option a:=(dC xs.length i).bind λj=>xs[j]?
def uG (h:dC n i=k0 j):seqIndex? i n=k0 j/\j<n/\ -(n:Int)<=i/\i<n:=by
 unfold dC at h
 by_cases b:0<=i
 ·rw [if_pos b]at h
  by_cases a:i<n
  ·rw [if_pos a]at h
   have e:=Ad5.inj h
   exact⟨by rw [seqIndex_of b a,e],by lia,by lia,a⟩
  ·rw [if_neg a]at h;cases h
 ·rw [if_neg b]at h
  by_cases a: - n<=i
  ·rw [if_pos a]at h
   have e:=Ad5.inj h
   exact⟨by rw [seqIndex_neg (by lia) a,e],by lia,a,by lia⟩
  ·rw [if_neg a]at h;cases h
def J3 (h:aW xs i=k0 v): ∃j,seqIndex? i xs.length=k0 j/\xs[j]? =k0 v/\j<xs.length/\ -(xs.length:Int)<=i/\i<xs.length:=by
 unfold aW at h
 cases e:dC xs.length i with
 | none=>rw [e]at h;cases h
 | some j=>
  rw [e]at h
  obtain⟨a,c,b,d⟩:=uG e
  exact⟨j,a,h,c,b,d⟩
def zg {j:Nat}(h:xs[j]? =k0 v):aW xs (j:Int)=k0 v:=by
 have a:=(Aa1.mp h).1
 have e:dC xs.length j=k0 j:=by
  unfold dC
  rw [if_pos (by lia),if_pos (by lia)];simp
 unfold aW;rw [e];exact h
def uY (b:Expr):Prop:= ∀o i,subscripted b k9 o i=operate [o,i] (getItem o i)
def f9 (X:Cx) (r:R2):Prop:=
 ∀(value a:Expr) (k8:List (Addr×Obj)) (s:Shared) (U:St) (H:Hp) (x y:V) (v u:Value) (Q:VK),Inv X k8 U H s->RelV x v->RelV y u->r x y H Q →
  subscripted a k9 v u=operate [v,u] (getItem v u)->wpAny (model X.prog X.w) X.A (subscriptTail value a v u) (EP X k8 U Q) X.xe s
def CK (X:Cx) (id:String) (r:V->List V->Hp->VK->Prop):Prop:=
 ∀(k8:List (Addr×Obj)) (s:Shared) (U:St) (H:Hp) (x:V) (xs:List V) (v:Value) (a:List Value) (Q:VK),Inv X k8 U H s->RelV x v->Vals xs a->r x xs H Q →
  wpAny (model X.prog X.w) X.A (call (.builtin id) (v::a)) (EP X k8 U Q) X.xe s
section
variable {X:Cx}{a b:Expr}{ta tb:TE}{pos:Pos}
def f9.or (h:f9 X r) (h':f9 X r'):f9 X (λx y H Q=>r x y H Q\/r' x y H Q):=by
 intro a b c s U H x y v u Q I d e q f
 obtain q | q:=q
 ·exact h a b c s U H x y v u Q I d e q f
 ·exact h' a b c s U H x y v u Q I d e q f
def oe (j:f9 X r) (g:PE X a ta) (i:PE X b tb) (e:uY b):PE X (.Subscript a b pos) (lj r ta tb):=by
 intro c s U H Q I h
 exact Subscript_ (nX g i I h λv u f x y l m d k q=>j a b c f U l x y v u Q m d k q (e _ _))
def sG (K:Aa6):R2:=λx y H Q=> ∃p xs i v,x= .ref p/\y= .int i/\bz K H p xs/\aW xs i=k0 v/\Q v H
def tE (K:Aa6):R2:=λx y H Q=> ∃p xs i v,x= .ref p/\y= .int i/\cx K H p xs/\aW xs i=k0 v/\Q v H
def pA:R2:=λx y H Q=> ∃z i c,x= .str z/\y= .int i/\z.length<=sizeLine/\aW z.cps.toList i=k0 c/\Q (.str ⟨#[c]⟩) H
def gz:f9 X (sG X.K):=by
 intro f g a s U H x y v u Q I n C h k
 obtain⟨p,G,i,z,rfl,rfl,m,E,q⟩:=h
 cases n
 obtain⟨t,rfl⟩:=C
 obtain⟨d,r,pl,F⟩:=I.list m
 obtain⟨j,b,D,J,A,o⟩:=J3 E
 obtain⟨w,ew,c⟩:=r.get D
 have B:=r.length
 have K:=wH
 have fin:EP X a U Q w s:=⟨z,H,I,c,q⟩
 by_cases l:0<=i
 ·have e:=by
   rw [seqIndex_of l o]at b
   exact Ad5.inj b
  exact item_listR pl.isList l (by lia) (by rw [e];simpa using ew) fin k
 ·have e:(i+ d.toArray.size).toNat=j:=by
   rw [seqIndex_neg (by lia) A]at b
   rw [Ac0,←B]
   exact Ad5.inj b
  exact subscriptTail_builtinR pl.isList.typeIs slot_list_getitem.lookup
   (wpAny_getItem_list_neg pl.isList (by lia) (by simp_all) (by lia) (by rw [e];simpa using ew) ⟨rfl,fin⟩) k
def ae:f9 X (tE X.K):=by
 intro c d a s U H x y v u Q I f n h g
 obtain⟨p,E,i,z,rfl,rfl,e,A,q⟩:=h
 cases f
 obtain⟨t,rfl⟩:=n
 obtain⟨k,r,pl,C⟩:=I.tuple e
 obtain⟨j,l,o,F,D,B⟩:=J3 A
 obtain⟨w,ew,b⟩:=r.get o
 have m:=r.length
 have G:=wH
 have fin:EP X a U Q w s:=⟨z,H,I,b,q⟩
 exact subscriptTail_builtinR pl.typeIs slot_tuple_getitem.lookup
  (getItem_tuple pl (by lia) (by lia) (by rw [Ac0,←m];exact l) (by simpa using ew) ⟨rfl,fin⟩) g
def ng:f9 X pA:=by
 intro a b e s U H x y v u Q I f n h k
 obtain⟨z,i,c,rfl,rfl,r,p,q⟩:=h
 obtain⟨t,rfl⟩:=f
 obtain⟨B,rfl⟩:=n
 obtain⟨j,d,o,w,l,g⟩:=J3 p
 have m:z.cps.toList.length=z.length:=by simp [Str.length]
 rw [m]at d l g
 have A:=wH
 exact tail_any (typeIs_str s z t) slot_str_getitem.lookup (getItem_str (by
  have e1:y9 (i< -(2 ^ 63:Int))=false:=decide_eq_false (by lia)
  have e2:y9 (i>=2 ^ 63)=false:=decide_eq_false (by lia)
  rw [e1,e2,Bool.or_false]) (by rw [d];simpa using o) ⟨.str ⟨#[c]⟩,H,I.tok _,⟨_,rfl⟩,q⟩) k
def AU (K:Aa6):R2:=λx y H Q=>sG K x y H Q\/tE K x y H Q\/pA x y H Q
def KQ:f9 X (AU X.K):=gz.or (ae.or ng)
def BO (a:List Value) (n j) (u):Obj.mapSeq (·.setIfInBounds j u) { cls:= .type "list",data:= .seq a.toArray n }= { cls:= .type "list",data:= .seq (a.set j u).toArray n }:=by
 simp [Obj.mapSeq]
theorem Inv.lst (I:Inv X k8 U H s) (h:H p=k0 (.lst xs)):
 ∃ j n,Vals xs j/\s.heap.get? p=k0 { cls:= .type "list",data:= .seq j.toArray n }/\xs.length<=sizeLine:=by
 obtain⟨z,j,n,r,e⟩:=I.bf p _ h
 exact⟨j,n,r,e,z⟩
def Inv.hG {c a:List Value}(I:Inv X k8 U H s) (h:H p=k0 (.lst xs))
 (g:s.heap.get? p=k0 { cls:= .type "list",data:= .seq c.toArray n }) (d:f { cls:= .type "list",data:= .seq c.toArray n }= { cls:= .type "list",data:= .seq a.toArray n' }) (r:Vals ys a) (j:ys.length<=sizeLine) (t):
 Inv X k8 U (aR H p (.lst ys)) { s with heap:=s.heap.update p f,toks:=t }:=by
 have e:(s.heap.update p f).get? p=k0 { cls:= .type "list",data:= .seq a.toArray n' }:=by
  rw [Heap.get?_update_self f g (by rw [d]<;>rfl),d]
 refine I.write (by rw [h];trivial) (.inl rfl) (λb u i q=>(Ak3 _ _ (Ne.symm i)).trans q) ⟨_,e⟩ ?_
 exact⟨j,a,n',r,e⟩
def Lv:V->V->V->Hp->(Hp->Prop)->Prop:=λo i v H Q=> ∃p xs k j,o= .ref p/\i= .int k/\H p=k0 (.lst xs)/\dC xs.length k=k0 j/\Q (aR H p (.lst (xs.set j v)))
def jF:ny X Lv:=by
 intro e s U H o i v B D u Q I x m rv h
 obtain⟨p,E,k,j,rfl,rfl,f,A,q⟩:=h
 cases x
 obtain⟨t,rfl⟩:=m
 obtain⟨a,n,r,c,C⟩:=I.lst f
 obtain⟨b,G,z,w⟩:=uG A
 have y:=r.length
 have F:=wH
 have l:=
  I.hG f c (BO a n j u) (r.set rv j) (by simp_all) s.toks
 by_cases g:0<=k
 ·have d:=by
   rw [seqIndex_of g w]at b
   exact Ad5.inj b
  exact PySem.W.ki_setAt c g (by lia) (by simp_all) (by rw [d];exact⟨_,l,q⟩)
 ·have d:(k+ a.toArray.size).toNat=j:=by
   rw [seqIndex_neg (by lia) z]at b
   rw [Ac0,←y]
   exact Ad5.inj b
  exact PySem.W.ki_setBack c (by lia) (by simp_all) (by lia) (by rw [d];exact⟨_,l,q⟩)
def j0 (lo hi) (n):(sliceBounds lo hi y0 n).1=((HT.aX n 0 lo:Nat):Int)/\(sliceBounds lo hi y0 n).2.1=((HT.aX n n hi:Nat):Int)/\(sliceBounds lo hi y0 n).2.2=1:=by
 refine⟨?_,?_,rfl⟩
 ·cases lo with
  | none=>simp [sliceBounds,HT.aX]
  | some i=>
   simp [sliceBounds,HT.aX,if_true]
   by_cases h:i<0
   ·simp [h,if_true]<;>lia
   ·simp [h,if_false]<;>lia
 ·cases hi with
  | none=>simp [sliceBounds,HT.aX]
  | some i=>
   simp [sliceBounds,HT.aX,if_true]
   by_cases h:i<0
   ·simp [h,if_true]<;>lia
   ·simp [h,if_false]<;>lia
def wR (a:List Value) (lo hi):slicePick a.toArray lo hi y0=((a.drop (HT.aX a.length 0 lo)).take (HT.aX a.length a.length hi-HT.aX a.length 0 lo)).toArray:=by
 obtain⟨d,c,b⟩:=j0 lo hi a.toArray.size
 unfold slicePick
 rw [d,c,b]
 simp only [sliceRange_one,pick_run,Ac0]<;>rfl
def nh (K:Aa6):V->Option Int->Option Int->Hp->VK->Prop:=λx lo hi H Q=> ∃a xs,x= .ref a/\bz K H a xs/\ ∀p,H p=y0->Q (.ref p) (aR H p (.lst (kH xs lo hi)))
def gF:gb X (nh X.K):=by
 intro e s U H x v p u o l sl Q I f i pl n h
 obtain⟨a,m,rfl,g,q⟩:=h
 cases f
 obtain⟨j,r,d,k⟩:=I.list g
 have c:=r.length
 refine⟨"list",_,slot_list_getitem.lookup,d.isList.typeIs,?_⟩
 refine wpAny_getItem_list_slice d.isList i pl n .none (by simp) ?_ (by simp_all)
 rw [wR,←c]
 refine⟨.ref s.heap.objs.size,_,I.laid (λb t q=>Aa9 _ q) (Aa8 _) ?_,rfl,q _ (I.bf.fresh (Aa8 _))⟩
 exact⟨Ab9 (wG m o l) k,_,0,(r.drop _).take _,Ac4 _ rfl⟩
def QK:V->Bool
 | .ak=>u0
 | .bl _=>u0
 | .int _=>u0
 | .str _=>u0
 | _=>k9
noncomputable def gr:V->V->Bool
 | .ak,.ak=>u0
 | .bl a,.bl b=>a==b
 | .bl a,.int b=>(if a then 1 else 0)==b
 | .int a,.bl b=>a==(if b then 1 else 0)
 | .int a,.int b=>a==b
 | .str a,.str b=>a==b
 | _,_=>k9
def Bk (f:RelV y u) (c:RelV x v) (g:QK y=u0) (e:QK x=u0):SeqAt.EqAt A s u v (gr y x):=by
 cases y with
 | ak=>
  cases f
  cases x with
  | ak=>cases c;exact SeqAt.EqAt.same _
  | bl b=>cases c;exact SeqAt.EqAt.none_bool b
  | int b=>obtain⟨t,rfl⟩:=c;exact SeqAt.EqAt.none_int b t
  | str b=>obtain⟨t,rfl⟩:=c;exact SeqAt.EqAt.none_str b t
  | _=>exact absurd (e) Ab2
 | bl a=>
  cases f
  cases x with
  | ak=>cases c;exact SeqAt.EqAt.bool_none a
  | bl b=>cases c;exact SeqAt.EqAt.bool_bool a b
  | int b=>obtain⟨t,rfl⟩:=c;exact SeqAt.EqAt.bool_int a b t
  | str b=>obtain⟨t,rfl⟩:=c;exact SeqAt.EqAt.bool_str a b t
  | _=>exact absurd (e) Ab2
 | int a=>
  obtain⟨d,rfl⟩:=f
  cases x with
  | ak=>cases c;exact SeqAt.EqAt.int_none a d
  | bl b=>cases c;exact SeqAt.EqAt.int_bool a d b
  | int b=>obtain⟨t,rfl⟩:=c;exact SeqAt.EqAt.int_int a d b t
  | str b=>obtain⟨t,rfl⟩:=c;exact SeqAt.EqAt.int_str a d b t
  | _=>exact absurd (e) Ab2
 | str a=>
  obtain⟨d,rfl⟩:=f
  cases x with
  | ak=>cases c;exact SeqAt.EqAt.str_none a d
  | bl b=>cases c;exact SeqAt.EqAt.str_bool a d b
  | int b=>obtain⟨t,rfl⟩:=c;exact SeqAt.EqAt.str_int a d b t
  | str b=>obtain⟨t,rfl⟩:=c;exact SeqAt.EqAt.str_str a d b t
  | _=>exact absurd (e) Ab2
 | _=>exact absurd (g) Ab2
def iH (x:V) (u:Value):Bool:=match u with
 | .none=>gr .ak x
 | .bool b=>gr (.bl b) x
 | .int i _=>gr (.int i) x
 | .str z _=>gr (.str z) x
 | _=>k9
def tX (r:RelV y u) (f:QK y=u0):iH x u=gr y x:=by
 cases y with
 | ak=>cases r;rfl
 | bl b=>cases r;rfl
 | int i=>obtain⟨t,rfl⟩:=r;rfl
 | str z=>obtain⟨t,rfl⟩:=r;rfl
 | _=>exact absurd (f) Ab2
theorem XI : ∀ {xs}{j},Vals xs j->xs.all QK=u0->j.any (iH x)=xs.any λy=>gr y x
 | _,_,.nil,_=>rfl
 | y::xs,u::j,.cons r t,f=>by
  rw [Ag1,Aa0]at f
  rw [Ae8,Ae8,tX r f.1,XI t f.2]
theorem Xy (c:RelV x v) (b:QK x=u0): ∀ {xs}{j},Vals xs j->xs.all QK=u0-> ∀u∈j,SeqAt.EqAt A s u v (iH x u)
 | _,_,.nil,_=>λu a=>by cases a
 | y::xs,u::j,.cons r t,f=>λd a=>by
  rw [Ag1,Aa0]at f
  rcases Ac1.mp a with rfl | a
  ·rw [tX r f.1];exact Bk r c f.1 b
  ·exact Xy c b t f.2 d a
def lD (x:V) (xs:List V):Bool:=xs.any λy=>gr y x
def pQ (K:Aa6) (neg:Bool):R2:=λx y H Q=> ∃p xs,y= .ref p/\(bz K H p xs\/cx K H p xs)/\QK x=u0/\xs.all QK=u0/\Q (.bl (if neg then !lD x xs else lD x xs)) H
def DZ:bK X (compareOp .In) (pQ X.K k9):=by
 intro d s U H x y v u Q I c i h
 obtain⟨p,j,rfl,b,e,fs,q⟩:=h
 cases i
 obtain b | b:=b
 ·obtain⟨a,r,pl,g⟩:=I.list b
  refine SeqAt.in_listAt _ pl.isList (λw f=>Xy c e r fs w (by simp_all)) ⟨.bl _,H,I,rfl,?_⟩
  rw [show a.toArray.any _=a.any (iH x)by simp,XI r fs]
  exact q
 ·obtain⟨a,r,pl,g⟩:=I.tuple b
  refine SeqAt.in_tupleAt _ pl (λw f=>Xy c e r fs w (by simp_all)) ⟨.bl _,H,I,rfl,?_⟩
  rw [show a.toArray.any _=a.any (iH x)by simp,XI r fs]
  exact q
def WX:bK X (compareOp .NotIn) (pQ X.K u0):=by
 intro d s U H x y v u Q I c i h
 obtain⟨p,j,rfl,b,e,fs,q⟩:=h
 cases i
 obtain b | b:=b
 ·obtain⟨a,r,pl,g⟩:=I.list b
  refine SeqAt.notIn_listAt _ pl.isList (λw f=>Xy c e r fs w (by simp_all)) ⟨.bl _,H,I,rfl,?_⟩
  rw [show a.toArray.any _=a.any (iH x)by simp,XI r fs]
  exact q
 ·obtain⟨a,r,pl,g⟩:=I.tuple b
  refine SeqAt.notIn_tupleAt _ pl (λw f=>Xy c e r fs w (by simp_all)) ⟨.bl _,H,I,rfl,?_⟩
  rw [show a.toArray.any _=a.any (iH x)by simp,XI r fs]
  exact q
def xY:bK X (compareOp .NotIn) (λx y H Q=> ∃i j,x= .str i/\y= .str j/\Q (.bl (!(!(Builtin.Str.occurrences j i 0 j.length 1).isEmpty))) H):=by
 intro a s U H x y v u Q I b c h
 obtain⟨i,j,rfl,rfl,q⟩:=h
 obtain⟨t,rfl⟩:=b
 obtain⟨d,rfl⟩:=c
 exact notIn_str ⟨.bl _,H,I,rfl,q⟩
def wV:zt X (.builtin "len") (fun xs H Q=> ∃p ys,xs= [.ref p]/\(bz X.K H p ys\/cx X.K H p ys)/\Q (.int ys.length) H):=by
 intro e s U H xs j Q I r h
 obtain⟨p,ys,rfl,b,q⟩:=h
 obtain⟨u,rfl,f⟩:=jK r
 cases f
 have i:=wH
 obtain b | b:=b
 ·obtain⟨d,c,pl,g⟩:=I.list b
  have a:=c.length
  exact Calls.call_len_list pl.isList (by simp [Ac0]<;>lia) ⟨.int ys.length,H,I.tok _,⟨s.toks+1,by rw [Ac0,a]⟩,q⟩
 ·obtain⟨d,c,pl,g⟩:=I.tuple b
  have a:=c.length
  exact len_tuple pl (by simp [Ac0]<;>lia) ⟨.int ys.length,H,I.tok _,⟨s.toks+1,by rw [Ac0,a]⟩,q⟩
def ZV:zt X (.builtin "len") (fun xs H Q=> ∃z,xs= [.str z]/\z.length<=sizeLine/\Q (.int z.length) H):=by
 intro a s U H xs c Q I r h
 obtain⟨z,rfl,d,q⟩:=h
 obtain⟨u,rfl,t,rfl⟩:=jK r
 have b:=wH
 exact len_str (by lia) ⟨.int z.length,H,I.tok _,⟨_,rfl⟩,q⟩
def qW:zt X (.type "list") (fun xs H Q=> ∃p ys,xs= [.ref p]/\(bz X.K H p ys\/cx X.K H p ys)/\ ∀l,H l=none->Q (.ref l) (aR H l (.lst ys))):=by
 intro k s U H xs x Q I r h
 obtain⟨p,ys,rfl,f,q⟩:=h
 obtain⟨u,rfl,w⟩:=jK r
 cases w
 have fin: ∀ a,Vals ys a->ys.length<=sizeLine-> ∀ b d,_ →
  b.get? s.heap.objs.size=some { cls:= .type "list",dict:=none,data:= .seq a.toArray d,slots:= #[] }->EP X k U Q _ { s with heap:=b }:=fun a c j b d g e=>
  ⟨.ref s.heap.objs.size,_,I.laid g (Aa8 _) (show aV X.prog X.w _ b _ (.lst ys)from⟨j,a,d,c,e⟩),rfl,q _ (I.bf.fresh (Aa8 _))⟩
 obtain f | f:=f
 ·obtain⟨a,c,pl,j⟩:=I.list f
  have i:=c.length
  obtain⟨o,t,v,n,m⟩:=pl.isList
  exact call_list_seq p (.inl rfl) t v m (λb d g e=>fin a c j b d g e) (by simp_all)
 ·obtain⟨a,c,pl,j⟩:=I.tuple f
  have i:=c.length
  obtain⟨o,t,v,n,m⟩:=pl
  exact call_list_seq p (.inr rfl) t v m (λb d g e=>fin a c j b d g e) (by simp_all)
def Qf:zt X (.type "tuple") (fun xs H Q=> ∃p ys,xs= [.ref p]/\((bz X.K H p ys/\ ∀l,H l=none->Q (.ref l) (aR H l (.tup ys)))\/(cx X.K H p ys/\Q (.ref p) H))):=by
 intro a s U H xs v Q I r h
 obtain⟨p,ys,rfl,h⟩:=h
 obtain⟨u,rfl,m⟩:=jK r
 cases m
 obtain⟨f,q⟩ | ⟨f,q⟩:=h
 ·obtain⟨c,d,pl,j⟩:=I.list f
  have i:=d.length
  refine call_tuple_list pl.isList (λg n=> ?_) (by simp_all)
  have k:Inv X a U H { s with heap:=g }:=I.kept n
  have t:Inv X a U _ { s with heap:=g.push { cls:= .type "tuple",data:= .seq c.toArray } }:=
   k.laid (λb o e=>Aa9 _ e) (Aa8 _) (show aV X.prog X.w _ _ _ (.tup ys)from⟨j,c,d,dc.new _ _⟩)
  exact⟨.ref g.objs.size,_,t,rfl,q _ (k.bf.fresh (Aa8 _))⟩
 ·obtain⟨c,d,pl,j⟩:=I.tuple f
  exact call_tuple_same pl ⟨.ref p,H,I,rfl,q⟩
def vC (K:Aa6) (T:String) (x:V) (H:Hp):Prop:=match x with
 | .str _=>T= "str"
 | .int _=>T= "int"
 | .ref p=>(T= "list" /\ ∃xs,bz K H p xs)\/(T= "tuple" /\ ∃o,K.lookup p=some o/\o.cls= .type "tuple" /\o.dict=none) ∨
  (T= "dict" /\((∃ kvs,H p=some (.dK kvs))\/ ∃kvs,H p=some (.dT kvs)))\/(T= "set" /\ ∃S n,H p=some (.set S n))
 | _=>False
def yO (I:Inv X k8 U H s) (r:RelV x v) (ty:vC X.K T x H):
 s.TypeIs v T/\ ∀a,v= .ref a-> ∃ob,s.heap.get? a=k0 ob/\ob.dict=none:=by
 cases x with
 | str z=>
  obtain⟨t,rfl⟩:=r
  cases (ty)
  exact⟨typeIs_str s z t,λ_ e=>nomatch e⟩
 | int i=>
  obtain⟨t,rfl⟩:=r
  cases (ty)
  exact⟨typeIs_int s i t,λ_ e=>nomatch e⟩
 | ref p=>
  cases r
  obtain⟨rfl,k,g⟩ | ⟨rfl,o,b,j,d⟩ | ⟨rfl,b⟩ | ⟨rfl,S,n,b⟩:=ty
  ·obtain⟨h,_,pl,_⟩:=I.list g
   refine⟨pl.isList.typeIs,λa e=> ?_⟩
   cases e
   obtain⟨o,n,e,c,d,_⟩:=pl
   exact⟨o,e,d⟩
  ·refine⟨⟨o,I.cb p o b,j⟩,λa e=> ?_⟩
   cases e
   exact⟨o,I.cb _ o b,d⟩
  ·have z: ∃o,s.heap.get? p=k0 o/\o.ExactDict:=by
    obtain⟨f,b⟩ | ⟨f,b⟩:=b
    ·obtain⟨_,_,_,_,o,_,_,e,ex,_⟩:=I.bf p _ b
     exact⟨o,e,ex⟩
    ·obtain⟨_,_,_,_,o,_,_,e,ex,_⟩:=I.bf p _ b
     exact⟨o,e,ex⟩
   obtain⟨o,e,ex⟩:=z
   refine⟨⟨o,e,ex.1⟩,λa e2=> ?_⟩
   cases e2
   exact⟨o,e,ex.2.1⟩
  ·obtain⟨o,_,_,_,e,ex,_⟩:=I.bf p _ b
   refine⟨⟨o,e,ex.1⟩,λa e2=> ?_⟩
   cases e2
   exact⟨o,e,ex.2.1⟩
 | _=>exact False.elim ty
def ES (K:Aa6) (T:String) (r:V->List V->Hp->VK->Prop) (a:TE) (t:TA):TE:=λU H Q=>a U H λx H1=>vC K T x H1/\t U H1 λxs H2=>r x xs H2 Q
variable {o e:Expr}{es:List Expr}{to:TE}{t:TA}{name:Str}{apos y7:Pos}{T id:String}{r:V->List V->Hp->VK->Prop}
def vO (B:PlainAttrs T) (f:Slot T name id) (i:typeOf (.builtin id)=pure (.type "method_descriptor")) (K:CK X id r) (A:PE X o to) (q:PA X (e::es) t)
 (b:attributeBase o name X.env (eval o X.env)=eval o X.env:=by rfl)
 (d:((backTo y7 (starEach (e::es) X.env)).all (λx=> !x.1)&&(backToKw y7 (keywordEach [] X.env)).all (λx=>x.1.isSome)
   &&y9 ((e::es).length+([]:List Keyword).length+(if ([]:List Keyword).isEmpty then 0 else 1)<30))=true:=by rfl)
 (c:(apos.endLine==y7.line)=true:=by rfl) (m:starEach (e::es) X.env=(k9,eval e X.env)::starEach es X.env:=by rfl) (g:(backTo y7 (starEach es X.env)).any (·.1)=false:=by rfl):
 PE X (.Call (.Attribute o name apos) (e::es) [] y7) (ES X.K T r to t):=by
 intro a s U H Q I h
 refine wpAny_Call_method_late b d c rfl (aP (A a s U H _ I h) ?_)
 rintro v D ⟨x,w,l,k,ty,n⟩
 obtain⟨u,F⟩:=yO l k ty
 refine⟨T,id,B,f,i,u,F,?_⟩
 have j:=q y7 a D U w _ l n
 rw [m]at j ⊢
 refine Calls.callWith_builtin (by assumption) (Calls.evalArgs_plain ?_)
 exact aP j λC p ⟨z,E,G,J,y⟩=>K a p U E x z v C Q G k J y
end
def hV (X:Cx) (id:String) (r:V->List V->Hp->VK->Prop):Prop:=
 ∀(k8:List (Addr×Obj)) (s:Shared) (U:St) (H:Hp) (x:V) (xs:List V) (v:Value) (a:List Value) (Q:VK),Inv X k8 U H s->RelV x v->Vals xs a->r x xs H Q →
  wpAny (model X.prog X.w) X.A (call (.builtin id) (v::a)) (EP X k8 U Q) X.xe s
def Vals.one: ∀ {x}{j},Vals [x] j-> ∃u,j= [u]/\RelV x u
 | _,_,.cons r .nil=>⟨_,rfl,r⟩
theorem Vals.rep (h:Vals xs us): ∀k:Nat,Vals (Aa2 k xs).flatten (Aa2 k us).flatten
 | 0=> .nil
 | k+1=>by
  exact Vals.append h (Vals.rep h k)
theorem wT (its): ∀ k (a:List Value),
 List.foldl (λJ j=>J++j) a.toArray (Aa2 k its.toArray)=(a++(Aa2 k its).flatten).toArray
 | 0,a=>by simp
 | k+1,a=>by
  have e:a.toArray++its.toArray=(a++its).toArray:=by simp
  have e2:(a++its)++(Aa2 k its).flatten=a++(Aa2 (k+1) its).flatten:=by
   rw [Ae4,List.flatten_cons,Af1]
  rw [← e2,←wT its k (a++its),←e,Ae4,Ak]
section
variable {X:Cx}{k8:List (Addr×Obj)}{U:St}{H:Hp}{s:Shared}{l b:Addr}{xs ys zs:List V}
def Inv.ky {b a:List Value}(I:Inv X k8 U H s) (g:H l=k0 (.lst xs))
 (e:s.heap.get? l=k0 { cls:= .type "list",data:= .seq b.toArray n }) (c:f b.toArray=a.toArray) (d:Vals ys a) (j:ys.length<=sizeLine):
 Inv X k8 U (aR H l (.lst ys)) { s with heap:=s.heap.update l (Obj.mapSeq f),toks:=t' }:=by
 have q:=PySem.IsL.update e f
 rw [c]at q
 refine I.write (by rw [g];exact trivial) (.inl rfl) (λk u i h=>(Ak3 s.heap _ (Ne.symm i)).trans h) ⟨_,q⟩ ?_
 exact⟨j,a,_,d,q⟩
def Inv.kR (I:Inv X k8 U H s) (a:Vals ys its) (b:ys.length<=sizeLine):
 Inv X k8 U (aR H s.heap.objs.size (.lst ys)) { s with heap:=s.heap.push { cls:= .type "list",data:= .seq its.toArray },toks:=t' }:=
 I.laid (λ_ _ q=>Aa9 _ q) (Aa8 _) ⟨b,its,0,a,Ac4 _ rfl⟩
theorem Inv.fresh (I:Inv X k8 U H s):H s.heap.objs.size=none:=I.bf.fresh (Aa8 _)
def Inv.iy (I:Inv X k8 U H s) (a:H l=k0 (.lst xs)):xs.length<=sizeLine/\ ∃ j n,Vals xs j/\xs.length=j.length/\s.heap.get? l=k0 { cls:= .type "list",data:= .seq j.toArray n }:=by
 obtain⟨z,j,n,r,e⟩:=I.bf l _ a
 exact⟨z,j,n,r,r.length,e⟩
def um (h:n<=sizeLine):Builtin.List.listTooLong n=false:=by
 exact decide_eq_false (by lia)
end
section
variable {X:Cx}
def CF:V->List V->Hp->VK->Prop:=λx a H Q=> ∃l xs y,x= .ref l/\a= [y]/\H l=k0 (.lst xs)/\xs.length<sizeLine/\Q .ak (aR H l (.lst (xs++ [y])))
def yJ:hV X "list.append" CF:=by
 intro b s U H x k v m Q I d rv h
 obtain⟨l,j,y,rfl,rfl,c,g,q⟩:=h
 cases d
 obtain⟨u,rfl,f⟩:=rv.one
 obtain⟨z,a,n,r,i,e⟩:=I.iy c
 refine call_meets F.slot_list_append ⟨_,e,rfl⟩ F.entry_list_append (F.args_list_append_2 _ _) (PySem.list_append l a.toArray n u (by simp_all)) ⟨e,?_⟩
 refine⟨.ak,_,I.ky c e (by simp) (r.append (.cons f .nil)) ?_,rfl,q⟩
 rw [Ab1,List.length_singleton]
 lia
def yL:V->List V->Hp->VK->Prop:=λx a H Q=> ∃l b xs zs,x= .ref l/\a= [.ref b]/\H l=k0 (.lst xs)/\H b=k0 (.lst zs)/\xs.length+zs.length<=sizeLine/\Q .ak (aR H l (.lst (xs++zs)))
def yd:hV X "list.extend" yL:=by
 intro g s U H x C v E Q I j rv h
 obtain⟨l,b,B,D,rfl,rfl,i,k,y,q⟩:=h
 cases j
 obtain⟨u,rfl,t⟩:=rv.one
 cases t
 obtain⟨z,c,n,r,A,e⟩:=I.iy i
 obtain⟨w,a,p,m,o,e2⟩:=I.iy k
 have f:c.toArray.size+a.toArray.size<=sizeLine:=by rw [Ac0,Ac0];lia
 have d: ¬(!c.toArray.isEmpty&&Builtin.List.listTooLong (c.toArray.size+a.toArray.size))=true:=by
  rw [um f,An9]
  exact Ab2
 refine call_meets F.slot_list_extend ⟨_,e,rfl⟩ F.entry_list_extend (F.args_list_extend_2 _ _)
  (AutoSeq1.list_extend_list_list_0 l c.toArray n b a.toArray p d (by simp_all) (by lia)) ⟨e,e2,?_⟩
 refine⟨.ak,_,I.ky i e (by simp) (r.append m) ?_,rfl,q⟩
 rw [Ab1]
 lia
def H9 (xs:List α) (k):(Aa2 k xs).flatten.length=k*xs.length:=by simp
end
end L2
namespace Att
open PySem PySem.W PySem.Calls PyProof.Rows
def XH : ∀ ns vs,WellAll P h vs (ns.map WData.int)->IntsAre vs ns:=by
 intro ns
 induction ns with
 | nil=>
  intro vs w
  cases w
  exact .nil
 | cons n ns c=>
  intro vs w
  cases w with
  | cons a b=>
   cases a
   exact .cons _ _ (c _ b)
def Bm {l:OpenLaw}(p:l.most=k0 n)
 (b:l.row.toRowW.claim.pre args=u0) (g:WellAll P h vals args):
 ∃a vs ns,vals= [Value.ref a]/\args= [WData.list (ns.map WData.int)]/\h.get? a=k0 { cls:= .type "list",data:= .seq vs.toArray }/\IntsAre vs ns/\ns.length<=n:=by
 have i:WShape.hasAll [] args [.list .int]=true:=(pre_splitW b).1
 have v:=(pre_splitW b).2
 obtain⟨d,r,rfl,k,w⟩:=hasAllW_cons i
 obtain rfl:=hasAllW_nil w
 obtain⟨x,rfl,s⟩:=hasW_list k
 obtain⟨ns,rfl⟩:=items_int s
 have c:ns.length<=n:=by
  have f:=by
   have f:=(holds_andW v).1
   rw [p]at f
   exact f
  have j:=condW_of f (w_not (w_lt w_lit (w_len_list (w_arg rfl))))
  refine Nat.le_of_not_lt λq=> ?_
  have o:=by omega
  first
   | (rw [decide_eq_true o]at j)
   | (simp at j;lia)
 cases g with
 | cons m t=>
  cases t
  cases m with
  | list u e=>exact⟨_,_,ns,rfl,rfl,u,XH ns _ e,c⟩
def KJ (l:OpenLaw) (args):l.row.toRowW.claim.post args (.bool u0) args=true:=
 postW_of
  (show WShape.has [] _ .bool=u0 by first | rfl | decide | simp [WShape.armsAll])
  (show (WTm.eq .res _).value [] { args:=args,res:=k0 _,after:=args }=k0 (.bool _)from w_eq_bool (w_res rfl) w_lit) rfl
def d3 {l:OpenLaw}
 (D:l.most=k0 n) (m:d.params.defaults= [])
 (call: ∀ w J j mg O M o V cd L a vs ns,
   Ground q loose [] XP w J mg O j.heap->YP w j.heap →
   j.heap.get? M=k0 o->o.data= .func (docDef d.name d.params d.body d.scope V cd L)->j.heap.CodeRec cd d.name->mg d.name=k0 (.ref M) →
   j.heap.get? a=k0 { cls:= .type "list",data:= .seq vs.toArray }->IntsAre vs ns->ns.length<=n->j.gens= #[] →
   codeAny (model l.prog w) callerA (.call (.ref M) ⟨[.ref a],[]⟩) (λr s'=>r= .ok (.ret (.bool u0))/\OldK j.heap s'.heap/\s'.os=j.os/\AllBare s'.gens) j):
 WalkO q loose XP YP l.row.toRowW d [] (λf vs=>PySem.call f vs):=by
 intro w J j mg O G Y M o V cd L A kV E B i s k C t u K g p v h z
 obtain rfl:A= .none:=Dflts.none s m
 obtain rfl:kV= .none:=Dflts.noKw s
 obtain⟨a,vs,ns,rfl,rfl,e,b,c⟩:=Bm D g h
 refine enter_call (codeAny_mono (call w J j mg O M o V cd L a vs ns G Y E (fd_plain B) i k e b c C) λr s' x=> ?_)
 obtain⟨rfl,H,F,y⟩:=x
 exact⟨.inl ⟨.bool u0,.bool u0,[],rfl,λ_=>rfl,.bool u0,KJ l _,λ_=>⟨Ao2.nil,λ_ I=>(nomatch I)⟩⟩,H,F,y⟩
end Att
namespace L2
open PySem PySem.Spec PyProof.Rows
theorem ZW: ∀ {vs}{ns},IntsAre vs ns->Vals (ns.map V.int) vs
 | _,_,.nil=> .nil
 | _,_,.cons n t h=> .cons ⟨t,rfl⟩ (ZW h)
def mY (H:Hp):Prop:= ∀b,H b=y0\/ ∃o xs,H b=k0 (.d9 o (.lst xs))
def I0 {K:Aa6}
 (Q:K.In s₁.heap) (l:s₁.heap.Ns mainGlobals mg) (c:s₁.heap.Ns builtinsNs mb) (I: ∀x:Str,x≠ "__name__" ->mb x=bootBuiltins x) (j:s₁.heap.NoLimit) (hg:s₁.gens= #[])
 (E:s₁.heap.get? a=k0 { cls:= .type "list",data:= .seq vs.toArray }) (T:IntsAre vs ns) (S:ns.length<=sizeLine) (hr:bj k callerA)
 (F: ∀base:Heap,K.In base->base.Ns mainGlobals mg->bA P w K mg base CX k fa fd [x] sp) (i: ∀ s u,BindsTo s fd ⟨[u],[]⟩ [(x,u)])
 (O: ∀H:Hp,mY H->bz K H a (ns.map V.int)->sp [.ref a] H (λv _=>v= .bl u0) λ_ _ _=>False)
 (M: ∀H e s',CX [] H s₁ (λ_ _ _=>False) e s'->False):
 codeAny (model P w) callerA (.call (.ref fa) ⟨[.ref a],[]⟩) (λr s'=>r= .ok (.ret (.bool u0))/\OldK s₁.heap s'.heap/\s'.os=s₁.os/\AllBare s'.gens) s₁:=by
 have rv:=ZW T
 have y:=T.length
 have g: ∀H:Hp,mY H->bz K H a (ns.map V.int)->cM P w H s₁.heap->(∀ b,H b≠y0->b=a)->(H a≠y0->K.lookup a=y0) →
  codeAny (model P w) callerA (.call (.ref fa) ⟨[.ref a],[]⟩) (λr s'=>r= .ok (.ret (.bool u0))/\OldK s₁.heap s'.heap/\s'.os=s₁.os/\AllBare s'.gens) s₁:=by
  intro H U hS p R hK
  have b5: ∀ {b}{o},s₁.heap.get? b=k0 o->H b=y0->(kh s₁.heap H).get? b=k0 o:=λe n=>Aw e n
  have J: ∀ {b}{o}{D}{G},s₁.heap.get? b=k0 o->o.data= .dict D G->H b=none:=λ{b o D G} e d=>by
   cases q:H b with
   | none=>rfl
   | some u=>
    have L:=R b (by rw [q];simp)
    subst L
    rw [E]at e;cases e
    have d':=d
    cases d'
  have f: ∀ {b}{m},s₁.heap.Ns b m->(kh s₁.heap H).Ns b m:=λ{b m} ⟨o,D,G,e,d,r⟩=>⟨o,D,G,b5 e (J e d),d,r⟩
  have t:=λb o e=>b5 (Q b o e) (by
   cases q:H b with
   | none=>rfl
   | some u=>
    have L:=R b (by rw [q];simp)
    subst L
    rw [hK (by rw [q];simp)]at e;cases e)
  have X:Mod K mg _:=⟨t,f l,⟨mb,f c,I⟩,let ⟨mc,h1,h2⟩:=j; ⟨mc,f h1,h2⟩⟩
  have Y:ek P w K mg _ callerA [] s₁ H:=⟨rfl,X,λb o e=>FK e,Ak8 (HX _ _),trivial,λb c=>absurd (show b∈ []from c) (by simp),p,.of_eq hg⟩
  refine codeAny_mono ((F _ t (f l)).run callerA [] s₁ H ⟨[.ref a],[]⟩ [.ref a] [.ref a] _ _ hr Y (i s₁ _) (.cons rfl .nil) (O H U hS)) λr s' h=> ?_
  cases r with
  | error e=>exact(M H e s' h).elim
  | ok fl=>
   cases fl with
   | next=>exact False.elim h
   | brk=>exact False.elim h
   | cont=>exact False.elim h
   | ret u=>
    obtain⟨v,H',os,C,un,A,W,q⟩:=h
    have q':=q
    subst q'
    obtain rfl:u=Value.bool true:=W
    refine⟨rfl,OldK.of_keep λb o e=> ?_,os,C⟩
    cases q:H b with
    | none=>exact un.keep b o e q (by intro z;exact absurd (show b∈ []from z) (by simp)) (by simp)
    | some u=>
     obtain z | ⟨ob,xs,z⟩:=U b
     ·rw [q]at z;cases z
     ·have Z:=un.dt b ob _ z
      obtain⟨e1,_⟩:=p b _ z
      obtain⟨e2,_⟩:=A b _ Z
      rw [e]at e1;cases e1
      exact e2
 cases N:K.lookup a with
 | some o=>
  have e:=Q a o N
  rw [E]at e
  cases e
  refine g (λ_=>y0) (λ_=> .inl rfl) (.inr ⟨_,vs.toArray,_,N,rfl,rfl,rfl,by rw [Ac0,y];exact S,by simpa using rv⟩) (λb u z=>by have B:=z;cases B) (λb z=>absurd rfl z) λz=>absurd rfl z
 | none=>
  refine g (fun b=>if b=a then some (.d9 { cls:= .type "list",data:= .seq vs.toArray } _)else none) (fun b=> ?_) (.inl (.inr ⟨{ cls:= .type "list",data:= .seq vs.toArray },if_pos rfl⟩)) (fun b u z=> ?_) (fun b z=> ?_) fun _=>N
  ·by_cases c:b=a
   ·exact .inr ⟨_,_,if_pos c⟩
   ·exact .inl (if_neg c)
  ·by_cases c:b=a
   ·have B:=(if_pos c).symm.trans z
    cases B
    subst c
    exact⟨E,by rw [Aa];exact S,vs,_,rv,E⟩
   ·have B:=(if_neg c).symm.trans z
    cases B
  ·by_cases c:b=a
   ·exact c
   ·exact absurd (if_neg c) z
abbrev LA {K:Aa6}{h:Heap}(_:K.In h):Aa6:=K
def gB {l:PySem.W.OpenLaw}{K:Params->Aa6}{z:World->gH}{B:World->Sp}
 (O:l.most=k0 n) (m:n<=sizeLine) (y:d.params.defaults= []) (L:bj k callerA)
 (Q: ∀ w h,YP w h->(K w.params).In h)
 (F: ∀ w mg j h,(K w.params).In h->h.Ns mainGlobals mg->mg d.name=k0 (.ref j) →
   ∃fd:FuncData,(∀ s u,BindsTo s fd ⟨[u],[]⟩ [(x,u)]) ∧
    ∀base:Heap,(K w.params).In base->base.Ns mainGlobals mg->bA l.prog w (K w.params) mg base (z w) k j fd [x] (B w))
 (t: ∀ w H a (ns:List Int),ns.length<=n->mY H->bz (K w.params) H a (ns.map V.int)->B w [.ref a] H (λv _=>v= .bl u0) λ_ _ _=>False)
 (p: ∀ w H s e s',z w [] H s (λ_ _ _=>False) e s'->False):
 PySem.W.WalkO q loose XP YP l.row.toRowW d [] (λf vs=>PySem.call f vs):=by
 refine Att.d3 O y λw C i mg R j o U cd D a vs ns G Y T S E r g c b N=> ?_
 have A:=Q w _ Y
 obtain⟨fd,I,P⟩:=F w mg j _ A G.T.g r
 exact I0 A G.T.g G.T.b G.T.builtins G.T.nolimit N g c (Ab9 b m) L P I (λH M J=>t w H a ns b M J) λH e s'=>p w H i e s'
noncomputable def Dr (s:Stmt):Arguments:=match s with
 | .FunctionDef _ a _ _ _ _ _ _ _ _=>a
 | _=> { posonlyargs:= [],args:= [],vararg:=y0,kwonlyargs:= [],kw_defaults:= [],kwarg:=y0,defaults:= [] }
def JG (s:Stmt):List Stmt:=match s with
 | .FunctionDef _ _ b _ _ _ _ _ _ _=>b
 | _=> []
noncomputable def Jk (s:Stmt):Scope:=match s with
 | .FunctionDef _ _ _ _ _ _ a _ _ _=>a
 | _=> { kind:= .function,names:= [],isGenerator:=k9,isCoroutine:=k9 }
abbrev kO:gH:=λ_ _ _ _ _ _=>False
abbrev E0:XK:=λ_ _ _=>False
structure iL (K:Aa6) (x u8:Str) (st:Stmt) (f:Addr) (fd:FuncData):Prop where
 ex: ∃(oc:Value) (od:Option Addr) (kV doc pm:Value) (an:Option Addr) (cdv ct:Value) (osl:Array (Option Value)),
  fd=PySem.W.fnOf x u8 (Dr st) (JG st) (Jk st) .none kV doc pm an cdv ct/\K.lookup f=k0 ⟨oc,od,.func fd,osl⟩/\PySem.W.codeIn K cdv u8=u0
 kp:Ag9 K (.ref f)=u0
def zr (h:n<=1000):n<sizeLine:=Ai5 h (by decide)
section
variable {X:Cx}
def pv (i)(d:X.N[i]? =some x:=by rfl) (b:lu X.env.scope x:=by first | exact Or.inl rfl | exact Or.inr (Or.inl rfl) | exact Or.inr (Or.inr rfl)) (c:(x==("__debug__" :Str))=false:=by decide)
 (a:(x==("__classdict__" :Str))=false:=by decide):PE X (.Name x pos) (md i):=XD d b c a
end
def mZ {A B:Prop}(h:B):if k9=u0 then A else B:=by
 exact h
def m6 {A B:Prop}(h:A):if u0=u0 then A else B:=by
 exact h
end L2
set_option maxHeartbeats 4000000
namespace L2
open PySem PySem.Spec PyProof.Rows
noncomputable def je (env:Env) (a:List (Str×Addr)) (y:Str×NameKind):List (Str×Addr):=
 if y.2== .free then(match env.cells.lookup y.1 with | some c=>(y.1,c)::a | none=>a)else a
def WR (a:Scope) (env:Env):List (Str×Addr):=a.names.foldl (je env) []
theorem uP : ∀(a:List (Str×NameKind)) j,(∀ y∈a,y.2= .free-> ∃c,env.cells.lookup y.1=k0 c) →
 (do
   let mut J:=j
   for (name,kind) in a do
    if kind== .free then J:=(name,←cellOf env name)::J
   return J:Sem (List (Str×Addr)))=pure (a.foldl (je env) j)
 | [],j,_=>by simp
 | (n,k)::r,j,h=>by
  have f:=λJ=>uP r J λy g=>h y (Aa4 _ g)
  by_cases d:k= .free
  ·subst d
   obtain⟨c,b⟩:=h (n,.free) Aa7 rfl
   have b:=b
   have e:je env j (n,.free)=(n,c)::j:=by
    show(if (NameKind.free==NameKind.free)=u0 then(match env.cells.lookup n with | some c=>(n,c)::j | none=>j)else j)=_
    rw [if_pos (show (NameKind.free==NameKind.free)=u0 from rfl),b]
   rw [Ak,e,←f]
   simp [cellOf,b]
  ·have i:(k==NameKind.free)=false:=by simpa using d
   have e:je env j (n,k)=j:=by
    show(if (k==NameKind.free)=u0 then _ else j)=_
    rw [i,if_neg Ab2]
   rw [Ak,e,←f]
   simp [d]
def wO (h: ∀y∈scope.names,y.2= .free-> ∃c,env.cells.lookup y.1=k0 c):closureFor scope env=pure (WR scope env):=
 uP scope.names [] h
theorem JI : ∀(a:List (Str×NameKind)) j,(∀ x c,j.lookup x=k0 c->env.cells.lookup x=k0 c)-> ∀x c,(a.foldl (je env) j).lookup x=k0 c->env.cells.lookup x=k0 c
 | [],_,h=>h
 | (n,k)::r,j,h=>by
  refine JI r (je env j (n,k)) λx c e=> ?_
  unfold je at e
  split at e
  ·split at e
   ·rename_i f d
    rw [Ab5]at e
    cases b:x==n with
    | true=>
     rw [b]at e
     have:x=n:=by simpa using b
     subst this
     cases e
     exact d
    | false=>rw [b]at e;exact h x c e
   ·exact h x c e
  ·exact h x c e
theorem xW (b:env.cells.lookup x=k0 c): ∀(a:List (Str×NameKind)) J,((x,.free)∈a\/ ∃j,J.lookup x=k0 j)-> ∃j,(a.foldl (je env) J).lookup x=k0 j
 | [],J,h=>h.elim (λz=>absurd z (by simp)) id
 | (n,k)::r,J,h=>by
  refine xW b r (je env J (n,k)) ?_
  have grow:(∃ j,J.lookup x=k0 j)-> ∃j,(je env J (n,k)).lookup x=k0 j:=by
   rintro ⟨j,e⟩
   unfold je
   split
   ·split
    ·rw [Ab5]
     cases x==n with
     | true=>exact⟨_,rfl⟩
     | false=>exact⟨j,e⟩
    ·exact⟨j,e⟩
   ·exact⟨j,e⟩
  rcases h with h | h
  ·rcases Ac1.mp h with h | h
   ·cases h
    refine .inr ⟨c,?_⟩
    show Ai7 x (if (NameKind.free==NameKind.free)=u0 then(match env.cells.lookup x with | some c=>(x,c)::J | none=>J)else J)=_
    rw [if_pos (show (NameKind.free==NameKind.free)=u0 from rfl),b]
    simp
   ·exact .inl h
  ·exact .inr (grow h)
def WT (I:Nat->Shared->Prop)
 (k: ∀n s,I n s->wpAny (model prog w) A (pyNext it) (λr J=>match r with
   | none=>R (.ok .next) J
   | some v=>wpAny (model prog w) A (letOwnedTupleGo tg it v) (λ_ L=>wpAny (model prog w) A (assign tg env v) (λ_ M=>
    wpAny (model prog w) A (forIn ifs u0 λc r=>if r=u0 then do let ok ←isTrue c env (eval c env);pure (ForInStep.yield ok)else pure (ForInStep.yield r)) (λok j=>
     if ok=u0 then wpAny (model prog w) A (eval elt env) (λx V=>
      wpAny (model prog w) A (call (.builtin "list.append") [acc,x]) (fun _ O=> ∃m,m<n/\I m O) (notedBy (model prog w) A env fun e s'=>R (.error e) s') V) (notedBy (model prog w) A env fun e s'=>R (.error e) s') j
     else ∃m,m<n/\I m j) (notedBy (model prog w) A env λe s'=>R (.error e) s') M) (notedBy (model prog w) A env λe s'=>R (.error e) s') L) (notedBy (model prog w) A env λe s'=>R (.error e) s') J) (notedBy (model prog w) A env λe s'=>R (.error e) s') s)
 (n) (h:I n s):codeAny (model prog w) A (.compLoop (.ListComp elt [⟨tg,iter,ifs,0⟩] scope pos) 0 it acc env) R s:=by
 refine codeAny_loop rfl I (λn s o=> ?_) n h
 refine wpAny_noted ?_
 rw [compTurn_list]
 refine wpAny_bind (wpAny_standAt (wpAny_bind (wpAny_mono (k n s o) (λr J d=> ?_) λ_ _ a=>a)))
 cases r with
 | none=>exact wpAny_pure d
 | some v=>
  refine wpAny_bind (wpAny_mono d (λ_ L f=> ?_) λ_ _ a=>a)
  refine wpAny_bind (wpAny_mono f (λ_ M g=>wpAny_bind (wpAny_mono g (λok j b=> ?_) λ_ _ a=>a)) λ_ _ a=>a)
  cases ok with
  | false=>exact wpAny_pure ⟨rfl,b⟩
  | true=>
   exact wpAny_bind (wpAny_bind (wpAny_mono b (λx V i=>wpAny_bind (wpAny_mono i (λ_ O l=>wpAny_pure (wpAny_pure ⟨rfl,l⟩)) λ_ _ a=>a)) λ_ _ a=>a))
theorem q9 : ∀ j n J,(x,NameKind.cell)∉j->(cellsFrom n j J).lookup x=J.lookup x
 | [],_,_,_=>rfl
 | (y,k)::r,n,J,h=>by
  unfold cellsFrom
  split
  ·rename_i a
   have a:=by simpa using a
   subst a
   rw [q9 r (n+1) _ λz=>h (Aa4 _ z),Ab5]
   cases b:x==y with
   | true=>
    have:x=y:=by simpa using b
    subst this
    exact absurd Aa7 h
   | false=>rfl
  ·exact q9 r n J λz=>h (Aa4 _ z)
theorem j4 : ∀ j (h:Heap) J L,(J.lookup x=k0 c->L\/(h.IsCell c y0/\(x,NameKind.cell)∈j\/h.IsCell c y0/\L))-> ∀lo,lo<=h.objs.size →
 (cellsFrom h.objs.size j J).lookup x=k0 c->J.lookup x=k0 c\/(lo<=c/\(x,NameKind.cell)∈j/\(pushCells h j).IsCell c y0)
 | [],_,_,_,_,_,_,e=> .inl e
 | (y,k)::r,h,J,L,m,lo,d,e=>by
  unfold cellsFrom at e
  unfold pushCells
  split at e
  ·rename_i a
   rw [if_pos a]
   have a:=by simpa using a
   subst a
   have e:(cellsFrom (h.push { cls:= .type "cell",data:= .cell none }).objs.size r ((y,h.objs.size)::J)).lookup x=some c:=by rw [Heap.size_push];exact e
   rcases j4 r (h.push { cls:= .type "cell",data:= .cell none }) _ True (fun _=> .inl trivial) lo (by rw [Heap.size_push];omega) e with q | ⟨g,i,l⟩
   ·rw [Ab5]at q
    cases f:x==y with
    | true=>
     rw [f]at q
     have:x=y:=by simpa using f
     subst this
     cases q
     exact .inr ⟨d,List.mem_cons_self,(show (h.push { cls:= .type "cell",data:= .cell none }).IsCell h.objs.size none from⟨_,Heap.get?_push_size _ rfl,rfl⟩).keeps fun b o e=>pushCells_keeps r _ b o e⟩
    | false=>
     rw [f]at q
     exact .inl q
   ·exact .inr ⟨g,Aa4 _ i,l⟩
  ·rename_i a
   rw [if_neg a]
   rcases j4 r h J True (λ_=> .inl trivial) lo d e with q | ⟨g,i,l⟩
   ·exact .inl q
   ·exact .inr ⟨g,Aa4 _ i,l⟩
theorem oO: ∀(J) (n) (j),(∀ x c,j.lookup x=k0 c->c<n)->(∀ x y c,j.lookup x=k0 c->j.lookup y=k0 c->x=y) →
 ∀x y c,(cellsFrom n J j).lookup x=k0 c->(cellsFrom n J j).lookup y=k0 c->x=y
 | [],_,_,_,a=>a
 | (z,k)::r,n,j,b,a=>by
  unfold cellsFrom
  split
  ·have look: ∀x c,((z,n)::j).lookup x=k0 c->(x=z/\c=n)\/(j.lookup x=k0 c):=λx c e=>by
    rw [Ab5]at e
    cases d:x==z with
    | true=>
     rw [d]at e
     cases e
     exact .inl ⟨by simpa using d,rfl⟩
    | false=>
     rw [d]at e
     exact .inr e
   refine oO r (n+1) _ (λx c e=> ?_) λx y c e1 e2=> ?_
   ·rcases look x c e with⟨_,q⟩ | q
    ·exact q▸Af5 n
    ·exact Nat.lt_succ_of_lt (b x c q)
   ·rcases look x c e1 with⟨h,i⟩ | p<;>rcases look y c e2 with⟨f,g⟩ | q
    ·rw [h,f]
    ·exact absurd (i▸b y c q) (Ai1 _)
    ·exact absurd (g▸b x c p) (Ai1 _)
    ·exact a x y c p q
  ·exact oO r n j b a
theorem zL : ∀(a:List (Str×NameKind)) j,(a.foldl (je env) j).lookup x=k0 c->j.lookup x=k0 c\/(x,NameKind.free)∈a
 | [],_,h=> .inl h
 | (y,k)::r,j,h=>by
  rcases zL r _ h with q | q
  ·unfold je at q
   split at q
   ·rename_i b
    have b:=by simpa using b
    subst b
    split at q
    ·rw [Ab5]at q
     cases d:x==y with
     | true=>
      have:x=y:=by simpa using d
      subst this
      exact .inr Aa7
     | false=>
      rw [d]at q
      exact .inl q
    ·exact .inl q
   ·exact .inl q
  ·exact .inr (Aa4 _ q)
theorem ZX {env:Env}: ∀ {a:List (Str×NameKind)}{x},
 ((a.map λ(n,k)=>if(k==NameKind.free&&env.scope.kind== .function&&env.kindOf n==k0 .cell)then(n,NameKind.cell)else(n,k)).lookup x=k0 .cell ∨
   (a.map λ(n,k)=>if(k==NameKind.free&&env.scope.kind== .function&&env.kindOf n==k0 .cell)then(n,NameKind.cell)else(n,k)).lookup x=k0 .free)->(x,.free)∈a\/(x,.cell)∈a
 | [],_,h=>by simp at h
 | (n,k)::r,x,h=>by
  have e:= @ZX env r x
  rw [Ab0]at h
  by_cases b:(k==NameKind.free&&env.scope.kind== .function&&env.kindOf n==k0 .cell)=u0
  ·have f:=by
    rw [Aa0,Aa0]at b
    simpa using b.1.1
   subst f
   simp only [b,if_true,Ab5]at h
   cases c:x==n with
   | true=>
    have:x=n:=by simpa using c
    subst this
    exact .inl Aa7
   | false=>
    rw [c]at h
    exact(e h).imp (Aa4 _) (Aa4 _)
  ·have d:=Ah6.mpr b
   simp only [d,Ak0,if_false,Ab5]at h
   cases c:x==n with
   | true=>
    have:x=n:=by simpa using c
    subst this
    rw [c]at h
    rcases h with h | h
    ·have:k= .cell:=by simpa using h
     subst this
     exact .inr Aa7
    ·have:k= .free:=by simpa using h
     subst this
     exact .inl Aa7
   | false=>
    rw [c]at h
    exact(e (by simpa using h)).imp (Aa4 _) (Aa4 _)
theorem sh: ∀ {a:List (Str×NameKind)}{x}{k J},(a.map Prod.fst).Nodup->(x,k)∈a->(x,J)∈a->k=J
 | (y,j)::r,x,k,J,b,c,d=>by
  rw [Ab0,Ag4]at b
  rcases Ac1.mp c with e1 | e1<;>rcases Ac1.mp d with e2 | e2
  ·cases e1;cases e2;rfl
  ·cases e1;exact absurd (Ab8.mpr ⟨_,e2,rfl⟩) b.1
  ·cases e2;exact absurd (Ab8.mpr ⟨_,e1,rfl⟩) b.1
  ·exact sh b.2 e1 e2
theorem W0: ∀ {a:List (Str×NameKind)}{x}{k},(a.map Prod.fst).Nodup->(x,k)∈a->a.lookup x=k0 k
 | (y,j)::r,x,k,b,h=>by
  rw [Ab0,Ag4]at b
  rw [Ab5]
  rcases Ac1.mp h with e | e
  ·cases e;simp
  ·have:(x==y)=false:=by
    cases c:x==y with
    | false=>rfl
    | true=>
     have:x=y:=by simpa using c
     subst this
     exact absurd (Ab8.mpr ⟨_,e,rfl⟩) b.1
   rw [this]
   exact W0 b.2 e
def g6 (a:Scope) (C:Addr) (env:Env):List (Str×Addr):=cellsFrom (C+1) a.names (WR a env)
def ZB 
 (d:Q (newEnv scope s.heap.objs.size globals (cellsFrom (s.heap.objs.size+1) scope.names cl) u8 y0 .none (k0 env) builtinsNs) { s with heap:=pushCells (s.heap.push { cls:= .type "dict",data:= .dict #[] }) scope.names }):
 wpAny M A (newFunctionEnv scope globals cl [] u8 y0 .none (k0 env)) Q E s:=by
 simp only [newFunctionEnv,Option.isSome_some,if_true]
 refine wpAny_bind (wpAny_alloc ?_)
 refine wpAny_bind (wpAny_layCells _ (λname a c=>by cases b:a==NameKind.cell<;>simp [b]) _ _ _ _ ?_)
 rw [show ({ s with heap:=s.heap.push { cls:= .type "dict",data:= .dict #[] } }:Shared).heap.objs.size=s.heap.objs.size+1 from Heap.size_push ..]
 refine wpAny_bind ?_
 exact wpAny_pure (wpAny_pure d)
noncomputable def Wd (X:Cx) (N:List Str) (a:Scope) (C:Addr) (b:List Addr) (s:Shared) (H:Hp):Cx where
 prog:=X.prog
 w:=X.w
 K:=X.K
 mg:=X.mg
 base:=X.base
 A:=X.A
 N:=N
 s₀:=s
 H₀:=H
 env:=compEnvC a (g6 a C X.env) C X.env
 outer:=X.stack
 stack:=X.stack
 ex:=b
 fn:=λx=>y9 (a.names.lookup x=k0 .cell)
 calm:=X.calm
 pn:= []
 xe:=λ_ _=>False
def cv (X:Cx):List Nat->List Str->Prop
 | [],[]=>True
 | j::a,x::xs=>X.N[j]? =k0 x/\(X.env.kindOf x=k0 .cell\/X.env.kindOf x=k0 .free)/\cv X a xs
 | _,_=>False
theorem cv.get {U:St}: ∀ {aC}{xs}{i:Nat}{x}{v},cv X aC xs->xs[i]? =k0 x->(aC.map λj=>(U[j]?).join)[i]? =k0 (k0 v) →
 ∃j:Nat,X.N[j]? =k0 x/\U[j]? =k0 (k0 v)/\(X.env.kindOf x=k0 .cell\/X.env.kindOf x=k0 .free)
 | [],[],_,_,_,_,e,_=>by simp at e
 | [],_::_,_,_,_,h,_,_=>h.elim
 | _::_,[],_,_,_,h,_,_=>h.elim
 | j::d,b::xs,0,x,v,h,e1,e2=>by
  obtain⟨a,c,_⟩:=h
  simp at e1
  subst e1
  refine⟨j,a,?_,c⟩
  have e2:k0 ((U[j]?).join)=k0 (k0 v):=by simpa using e2
  have e2:=Ad5.inj e2
  cases q:U[j]? with
  | none=>rw [q]at e2;cases e2
  | some z=>rw [q]at e2;have:z=k0 v:=e2;rw [this]
 | j::d,b::xs,i+1,x,v,h,e1,e2=>cv.get h.2.2 (by simpa using e1) (by simpa using e2)
theorem cv.length : ∀ {aC}{xs},cv X aC xs->aC.length=xs.length
 | [],[],_=>rfl
 | [],_::_,h=>h.elim
 | _::_,[],h=>h.elim
 | _::_,_::_,h=>congrArg (· +1) (cv.length h.2.2)
def mJ (k:Nat) (aC:List Nat) (U:St):St:=Aa2 k y0++aC.map λ(j:Nat)=>(U[j]?).join
def gA (X:Cx) (a:List Expr) (t:TT):Prop:=
 ∀(k8:List (Addr×Obj)) (s:Shared) (U:St) (H:Hp) (Q:Bool->Hp->Prop),Inv X k8 U H s->t U H Q →
  wpAny (model X.prog X.w) X.A (forIn a u0 λc r=>if r=u0 then do let ok ←isTrue c X.env (eval c X.env);pure (ForInStep.yield ok)else pure (ForInStep.yield r)) (TP X k8 U Q) X.xe s
def K3:TT:=λ_ H Q=>Q u0 H
def vE :gA X [] K3:=λ_ _ _ H _ I h=>wpAny_tests_nil ⟨H,I,h⟩
def rl (h:PT X c t):gA X [c] t:=λa s U H Q I b=>wpAny_tests_one (h a s U H Q I b)
def La (J:It) (g:TG) (j:TT) (n:TE) (e:St) (k:Hp) (Q:VK):Prop:= ∃W:Nat->Nat->List V->St->Hp->Prop,(∃ m,W 0 m [] e k)/\ ∀i m ys τ H,W i m ys τ H →
 (J.stop i H/\ys.length<=sizeLine/\ ∀D,H D=y0->Q (.ref D) (aR H D (.lst ys))) ∨
 (J.go i H/\ys.length<sizeLine/\ ∃N:List V->St->Hp->Prop,(∀ c d H',N c d H'-> ∃h,h<m/\W (i+1) h c d H') ∧
   ∀x H',J.fg i H x H'->g x τ H' λa H2=>j a H2 λb f=>if b=u0 then n a f λy l=>N (ys++ [y]) a l else N ys a f)
abbrev iS (a:Type):=Addr->List Addr->Shared->Hp->a
def lV (k:Nat) (aC:List Nat) (c:TI) (g:iS TG) (a:iS TT) (b:iS TE):TE:=λU H Q=>c U H λJ H1=> ∀C fp s,La J (g C fp s H1) (a C fp s H1) (b C fp s H1) (mJ k aC U) H1 Q
def Inv.adopt (I:Inv X k8 U H s) (A:eU X k8 H D) (l:X.s₀.heap.objs.size<=D)
 (e:s.heap.get? D=k0 { cls:= .type "list",data:= .seq its.toArray n }) (r:Vals ys its) (m:ys.length<=sizeLine):Inv X k8 U (aR H D (.lst ys)) s:=by
 obtain⟨C,w,G,F,t,k⟩:=A
 have a: ∀b o,H b=k0 o->aR H D (.lst ys) b=k0 o:=λb o q=>by rw [Ja (Qb q C)];exact q
 have d: ∀b o,X.s₀.heap.get? b=k0 o->b≠D:=λb o q z=>by rw [z]at q;exact absurd (Ab3 (Ac q) l) (Ai1 _)
 refine⟨I.ok,I.os,I.bare,⟨I.base.keep,I.base.slot,λb o f v j=> ?_,I.base.there,λb g q=>a b _ (I.base.dM b g q),λb o u q=>a b _ (I.base.dt b o u q),λb B q=> ?_⟩,I.loc,I.cell,?_,λx c q=> ?_,λp i=> ?_,λb u q=> ?_,I.len⟩
 ·rw [Ja (d b o f)];exact I.base.free b o f v j
 ·obtain⟨more,y⟩:=I.base.dF b B q
  exact⟨more,a b _ y⟩
 ·rw [Ja (Ne.symm w)];exact I.free
 ·rw [Ja (t x c q)];exact I.cD x c q
 ·obtain⟨E,a2,a3⟩:=I.pin p i
  exact⟨E,by rw [Ja (k p i)];exact a2,a3⟩
 ·by_cases h:b=D
  ·subst h
   rw [qd]at q
   cases q
   exact⟨m,its,n,r,e⟩
  ·rw [Ja h]at q
   exact(I.bf b u q).dW (λ_ _ _ z=>z) (λc z=>a c _ z) λc g z=>a c _ z
theorem Ji {env:Env}: ∀ {b:List (Str×NameKind)}{x},b.lookup x=k0 .free →
 ((b.map λ(n,k)=>if(k==NameKind.free&&env.scope.kind== .function&&env.kindOf n==k0 .cell)then(n,NameKind.cell)else(n,k)).lookup x=k0 .cell ∨
   (b.map λ(n,k)=>if(k==NameKind.free&&env.scope.kind== .function&&env.kindOf n==k0 .cell)then(n,NameKind.cell)else(n,k)).lookup x=k0 .free)
 | [],_,h=>by simp at h
 | (n,k)::r,x,h=>by
  have f:= @Ji env r x
  rw [Ab0]
  rw [Ab5]at h
  cases d:x==n with
  | true=>
   rw [d]at h
   have e:=by simpa using h
   subst e
   by_cases a:(NameKind.free==NameKind.free&&env.scope.kind== .function&&env.kindOf n==k0 .cell)=u0
   ·simp only [a,if_true,Ab5,d]
    first | exact .inl rfl | exact .inl trivial | simp
   ·have c:=Ah6.mpr a
    simp only [c,Ak0,if_false,Ab5,d]
    first | exact .inr rfl | exact .inr trivial | simp
  | false=>
   rw [d]at h
   have q:=f h
   by_cases a:(k==NameKind.free&&env.scope.kind== .function&&env.kindOf n==k0 .cell)=u0
   ·simp only [a,if_true,Ab5,d]
    exact q
   ·have c:=Ah6.mpr a
    simp only [c,Ak0,if_false,Ab5,d]
    exact q
structure ZZ (X:Cx) (scope:Scope) (N:List Str) (k:Nat) (aC:List Nat):Prop where
 kind:scope.kind= .function
 nd:(scope.names.map Prod.fst).Nodup
 names: ∀y∈scope.names,y.2= .local->scope.names.lookup y.1=k0 .local
 free: ∀y∈scope.names,y.2= .free->X.env.kindOf y.1=k0 .cell\/X.env.kindOf y.1=k0 .free
 gC: ∀x∈N.drop k,scope.names.lookup x=k0 .free
 aC:cv X aC (N.drop k)
 le:k<=N.length
structure LC (sc scope:Scope) (N:List Str) (k:Nat):Prop where
 kind:scope.kind= .function
 nd:(scope.names.map Prod.fst).Nodup
 names: ∀y∈scope.names,y.2= .local->scope.names.lookup y.1=k0 .local
 free: ∀y∈scope.names,y.2= .free->sc.names.lookup y.1=k0 .cell\/sc.names.lookup y.1=k0 .free
 gC: ∀x∈N.drop k,scope.names.lookup x=k0 .free
 le:k<=N.length
section
variable {X:Cx}{elt tg iter:Expr}{ifs:List Expr}{scope:Scope}{pos p0:Pos}{N:List Str}{k:Nat}{aC:List Nat}{wi:TI}{g:iS TG}{tc:iS TT}{te:iS TE}
def FQ (ok:ZZ X scope N k aC) (a:Inv X k8 U H2 s2) (G: ∀b∈fp,eU X k8 H2 b) (O: ∀b∈fp,b<s2.heap.objs.size)
 (t:s2.heap.objs.size<=C) (J:h₁.Ns C m) (g: ∀b o,s2.heap.get? b=k0 o->h₁.get? b=k0 o)
 (d: ∀x c,(g6 scope C X.env).lookup x=k0 c->(WR scope X.env).lookup x=k0 c\/(C+1<=c/\(x,NameKind.cell)∈scope.names/\h₁.IsCell c y0)):
 Inv (Wd X N scope C fp s2 H2) [] (mJ k aC U) H2 { s2 with heap:=h₁,toks:=tk }:=by
 have sub: ∀x c,(WR scope X.env).lookup x=k0 c->X.env.cells.lookup x=k0 c:=JI scope.names [] λx c e=>by simp at e
 have F: ∀x,(x,NameKind.free)∈scope.names-> ∃c,(WR scope X.env).lookup x=k0 c:=λx I=>by
  obtain⟨c,w⟩:=a.ok.has x (ok.free _ I rfl)
  exact xW w scope.names [] (.inl I)
 have lt: ∀x c,(WR scope X.env).lookup x=k0 c->c<C+1:=λx c e=>by
  obtain⟨v,o,D,_⟩:=a.cell x c (sub x c e)
  exact Nat.lt_succ_of_le (Ab9 (Ag (Ac D)) t)
 have inj:=oO scope.names _ _ lt λx y c A H=>a.ok.inj x y c (sub x c A) (sub y c H)
 have keep: ∀x c,(x,NameKind.free)∈scope.names->(WR scope X.env).lookup x=k0 c->(g6 scope C X.env).lookup x=k0 c:=λx c I e=>by
  unfold g6
  rw [q9 scope.names _ _ λz=>by cases sh ok.nd I z]
  exact e
 have E: ∀x,_∈scope.names\/(x,NameKind.cell)∈scope.names-> ∃c,(g6 scope C X.env).lookup x=k0 c:=λx h=>by
  rcases h with h | h
  ·obtain⟨c,w⟩:=F x h
   exact⟨c,keep x c h w⟩
  ·exact Ah2.mp (Am1 scope.names _ _ (.inl (W0 ok.nd h)))
 refine⟨⟨a.ok.mod,ok.kind,a.ok.glob,a.ok.blt,t,inj,λx h=>E x (ZX h),λx c s e=> ?_,a.ok.hd,a.ok.frames,.inl rfl,λb n=>⟨?_,λx c e=> ?_⟩,
  λb o e=>a.bs b o e,Ab9 a.ok.hA a.sz,λb o e n=> ?_,λb n z=>(Ac1.mp (a.dG b z)).elim (G b n).2.1 (G b n).2.2.1,a.stack,a.cU⟩,
  rfl,a.bare,Un.kept g,⟨m,J,λi x v e1 e2 e3=> ?_⟩,λx c e=> ?_,a.bf.fresh t,λx c e=> ?_,λp V=>absurd (show p∈([]:List _)from V) (by simp),a.bf.kept g,?_⟩
 ·have s:=of_decide_eq_true s
  rcases d x c e with q | q
  ·rcases zL scope.names [] q with z | z
   ·simp at z
   ·have:=W0 ok.nd z
    rw [s]at this
    cases this
  ·exact Ab9 t (Ab9 (Aj8 C) q.1)
 ·show b≠C
  exact Ac7 (Ab3 (O b n) t)
 ·rcases d x c e with q | q
  ·exact(G b n).2.2.2.2.1 x c (sub x c q)
  ·exact Ne.symm (Ac7 (Ab3 (O b n) (Ab9 t (Ab9 (Aj8 C) q.1))))
 ·rcases (G b n).2.2.2.1 with z | z
  ·exact a.ok.hU b o e z
  ·have A:=Ac e
   have H:=a.ok.hA
   exact absurd (Ab3 A (Ab9 H z)) (Ai1 _)
 ·have f:k<=i:=by
   by_cases f:i<k
   ·have e2:(Aa2 k y0++aC.map λ(j:Nat)=>(U[j]?).join)[i]? =k0 _:=e2
    rw [Ac9 (by simpa using f),Ai0,if_pos f]at e2
    cases e2
   ·omega
  have B:(N.drop k)[i-k]? =k0 x:=by
   rw [List.getElem?_drop,show k+(i-k)=i by omega];exact e1
  have M:(aC.map λ(j:Nat)=>(U[j]?).join)[i-k]? =k0 (k0 v):=by
   have e2:(Aa2 k y0++aC.map λ(j:Nat)=>(U[j]?).join)[i]? =k0 _:=e2
   rw [Ad6 (by simpa using f),Ad]at e2
   exact e2
  obtain⟨j,Q,S,P⟩:=ok.aC.get (U:=U) B M
  obtain⟨Z,Y,T⟩:=a.loc
  obtain⟨u,r,l⟩:=T j x v Q S (.inr (P.elim (λz=> .inl z) λz=> .inr z))
  refine⟨u,r,.inr ?_⟩
  have s:=ok.gC x (Ad4 B)
  refine⟨Ji s,?_⟩
  obtain⟨c,w⟩:=F x (PySem.mem_of_lookup s)
  refine⟨c,keep x c (PySem.mem_of_lookup s) w,?_⟩
  rcases l with⟨R,_⟩ | ⟨_,W,L,o,D,K⟩
  ·rcases P with z | z<;>(rw [R]at z;cases z)
  ·have d:=sub x c w
   rw [L]at d
   cases d
   exact⟨o,g _ o D,K⟩
 ·rcases d x c e with q | q
  ·obtain⟨v,o,D,K⟩:=a.cell x c (sub x c q)
   exact⟨v,o,g c o D,K⟩
  ·exact⟨y0,q.2.2⟩
 ·rcases d x c e with q | q
  ·exact a.cD x c (sub x c q)
  ·exact a.bf.fresh (Ab9 t (Ab9 (Aj8 C) q.1))
 ·show(Aa2 k y0++aC.map λ(j:Nat)=>(U[j]?).join).length=N.length
  have A:=ok.aC.length
  have H:=ok.le
  rw [Ab1,Ad,Aa,A,Af7]
  omega
def XU (use) (hc:X.calm=u0) (ok:ZZ X scope N k aC) (hi:PI X tg iter wi)
 (hg: ∀C fp s H,PG (Wd X N scope C fp s H) tg (g C fp s H)) (ht: ∀C fp s H,gA (Wd X N scope C fp s H) ifs (tc C fp s H)) (he: ∀C fp s H,PE (Wd X N scope C fp s H) elt (te C fp s H))
 (hs: ∀x,foldedSetIterable iter X.env x=pure x)
 (I:Inv X k8 U H s) (h:lV k aC wi g tc te U H Q)
 (fin: ∀(D C:Addr) (oC:Obj) (m:Str->Option Value) (H4:Hp) (s4:Shared),Inv X (k8++ [(C,oC)]) U H4 s4->eU X k8 H4 C->Q (.ref D) H4->(∀ h:Heap,h.get? C=k0 oC->h.Ns C m) →
   compPost (model X.prog X.w) X.A X.xe use Q' (.ref D) C (.ok .next) s4):
 wpAny (model X.prog X.w) X.A (comprehension (.ListComp elt [⟨tg,iter,ifs,0⟩] scope pos) scope X.env p0 (newList []) k9 (eval iter X.env) use) Q' X.xe s:=by
 have hcl:closureFor scope X.env=pure _:=wO λy hy hf=>I.ok.has y.1 (ok.free y hy hf)
 refine wpAny_comprehension_free (use:=use) rfl hs hcl ok.kind ok.names (aP (hi k8 s U H _ I h) λv s1 h1=>aP h1 λitv s2 h2=> ?_)
 obtain⟨it,fp,tn,J,H2,e,I2,T,st2,f2,hW⟩:=h2
 subst e
 refine wpAny_newObj_type (ZB ?_)
 dsimp only
 generalize hHp:s2.heap.push { cls:= .type "list",dict:=none,data:= .seq ([]:List Value).toArray }=HP
 have hCs:HP.objs.size=s2.heap.objs.size+1:=by rw [← hHp,Al9]
 generalize hDD:s2.heap.objs.size=D at hCs ⊢
 have hns0:(HP.push { cls:= .type "dict",data:= .dict #[] }).Ns HP.objs.size fun _=>none:=Heap.Ns.new HP _
 have hlk: ∀x c,(g6 scope HP.objs.size X.env).lookup x=some c->(WR scope X.env).lookup x=some c\/(HP.objs.size+1<=c/\(x,NameKind.cell)∈scope.names/\(pushCells (HP.push { cls:= .type "dict",data:= .dict #[] }) scope.names).IsCell c none):=fun x c e=>by
  refine j4 scope.names _ _ True (λ_=> .inl trivial) _ (by rw [Al9];exact Aa8 _) ?_
  rw [Al9]
  exact e
 generalize hh1:pushCells _ scope.names=h₁ at hlk ⊢
 have hns₁:h₁.Ns HP.objs.size λ_=>none:=by rw [← hh1];exact hns0.keeps (pushCells_keeps _ _)
 have hk1: ∀b o,HP.get? b=k0 o->h₁.get? b=k0 o:=λb o e=>by
  rw [← hh1]
  exact pushCells_keeps _ _ b o (Aa9 _ e)
 generalize hCC:HP.objs.size=C at hCs hns₁ hlk ⊢
 have hDC:D≠C:=by rw [hCs];exact Ac7 (Af5 _)
 have hle:s2.heap.objs.size<=C:=by rw [hDD,hCs];exact Aj8 _
 have hleD:s2.heap.objs.size<=D:=Ak8 hDD
 have fo: ∀b∈fp,b<D:=λb hb=>by
  obtain⟨o,eo,_⟩:=T.obj _ _ st2 b hb
  rw [← hDD]
  exact Ac eo
 have old: ∀b o,s2.heap.get? b=k0 o->h₁.get? b=k0 o:=λb o e=>by
  exact hk1 b o (hHp▸Aa9 _ e)
 have hacc:h₁.get? D=k0 { cls:= .type "list",data:= .seq ([]:List Value).toArray }:=by
  refine hk1 _ _ ?_
  rw [← hHp,←hDD]
  exact Ac4 _ rfl
 obtain⟨W,⟨m0,w0⟩,turn⟩:=hW C fp s2
 have I3:Inv _ [] _ H2 { s2 with heap:=h₁,toks:=s2.toks }:=
  FQ ok I2 f2 (λb hb=>by rw [hDD];exact fo b hb) hle hns₁ old hlk
 have st3:tn 0 h₁:=T.keep _ _ _ st2 λb _ o e=>old b o e
 have hch: ∀b∈fp,_/\b≠X.env.locals/\(∀ x c,X.env.cells.lookup x=k0 c->c≠b)/\ ∀p∈X.pn++k8,p.1≠b:=λb hb=>⟨(f2 b hb).2.2.2.1,(f2 b hb).2.1,(f2 b hb).2.2.2.2.1,(f2 b hb).2.2.2.2.2⟩
 have FD: ∀ {H':Hp},H' D=y0->eU X k8 H' D:=λhn=>I2.dX hleD hn
 have FC: ∀ {H':Hp},H' C=y0->eU X k8 H' C:=λhn=>I2.dX hle hn
 have sub: ∀x c,(WR scope X.env).lookup x=k0 c->X.env.cells.lookup x=k0 c:=JI scope.names [] λx c e=>by simp at e
 have hDst:D∉cV X.stack:=λz=>(Ac1.mp (I2.dG D z)).elim (FD (H':=λ_=>y0) rfl).2.1 (FD (H':=λ_=>y0) rfl).2.2.1
 have hDc: ∀x c,(g6 scope C X.env).lookup x=k0 c->c≠D:=λx c e=>by
  rcases hlk x c e with q | q
  ·exact(FD (H':=λ_=>y0) rfl).2.2.2.2.1 x c (sub x c q)
  ·exact Ne.symm (Ac7 (Ab3 (by rw [hCs];exact Nat.lt_succ_of_lt (Af5 _)) q.1))
 have loop: ∀s₃:Shared,s₃= { s2 with heap:=h₁,toks:=s2.toks } →
  codeAny (model X.prog X.w) X.A (.compLoop (.ListComp elt [⟨tg,iter,ifs,0⟩] scope pos) 0 (.ref it) (.ref D) (compEnvC scope (g6 scope C X.env) C X.env))
   (compPost (model X.prog X.w) X.A X.xe use Q' (.ref D) C) s₃:=by
  rintro s₃ rfl
  refine WT (λn s'=> ∃i ys its kk τ H',Inv (Wd X N scope C fp s2 H2) [] τ H' s'/\tn i s'.heap/\(∀ b∈fp,H' b=y0)/\H' D=y0/\s'.heap.get? D=k0 { cls:= .type "list",data:= .seq (its:List Value).toArray kk }/\Vals ys its/\W i n ys τ H')
   ?_ m0 ⟨0,[],[],0,_,H2,I3,st3,λb hb=>(f2 b hb).1,I2.bf.fresh hleD,hacc,.nil,w0⟩
  rintro n s3 ⟨i,ys,its,kk,τ,H3,I3,st3,fr3,hD3,eD3,rv3,w3⟩
  have IP:Inv (Wd X N scope C fp s2 H2) [(D,{ cls:= .type "list",data:= .seq its.toArray kk })] τ H3 s3:=I3.bT fun p hp=>by
   have e:p=(D,{ cls:= .type "list",data:= .seq its.toArray kk }):=by simpa using hp
   subst e
   exact⟨eD3,hD3,hDC,hDst,λv z=>by cases z⟩
  have fpok: ∀ {H':Hp},(∀ b∈fp,H' b=y0)-> ∀b∈fp,eU (Wd X N scope C fp s2 H2) [(D,{ cls:= .type "list",data:= .seq its.toArray kk })] H' b:=fun {H'} hn b hb=>by
   refine⟨hn b hb,I3.ok.ue b hb |>.1,I3.ok.iD b hb,.inl hb,I3.ok.ue b hb |>.2,λp hp=> ?_⟩
   have e:p=(D,{ cls:= .type "list",data:= .seq its.toArray kk }):=by
    have hp:p∈([]:List (Addr×Obj))++ [(D,{ cls:= .type "list",data:= .seq its.toArray kk })]:=hp
    simpa using hp
   rw [e]
   exact Ne.symm (Ac7 (fo b hb))
  rcases turn i n ys τ H3 w3 with⟨stop,hz,q⟩ | ⟨go,hz,NN,hN,step⟩
  ·refine aP (T.done (Wd X N scope C fp s2 H2) rfl rfl rfl hc i _ s3 τ H3 _ IP (fpok fr3) st3 stop) ?_
   rintro r s4 ⟨hr,I4⟩
   subst hr
   have eD4:=(I4.pin _ (Ab6 _ Aa7)).1
   have I5:Inv X k8 U H3 s4:=I2.gT (ch:=fp) I4.os I4.base I4.bf I4.bare hch
   have I6:=I5.adopt (FD hD3) (Ab9 I2.sz hleD) eD4 rv3 hz
   obtain⟨m,⟨oC,es,ep,hoC,hdC,hr⟩,_⟩:=I4.loc
   have fC:eU X k8 (aR H3 D (.lst ys)) C:=FC (by rw [Ja (Ne.symm hDC)];exact I4.free)
   have I7:Inv X (k8++ [(C,oC)]) U (aR H3 D (.lst ys)) s4:=I6.bT λp hp=>(Ad8.mp hp).elim (λz=>I6.pin p (Ab6 _ z)) λz=>by
    have e:p=(C,oC):=by simpa using z
    subst e
    exact⟨hoC,fC.1,fC.2.1,fC.2.2.1,λv z=>by rw [hdC]at z;cases z⟩
   exact fin D C oC m _ s4 I7 fC (q D hD3) λh e=>⟨oC,es,ep,e,hdC,hr⟩
  ·refine aP (T.item (Wd X N scope C fp s2 H2) rfl rfl rfl hc i _ s3 τ H3 _ IP (fpok fr3) st3 go) ?_
   rintro r s4 ⟨u,hr,h4⟩
   subst hr
   refine aP h4 ?_
   rintro _ s5 ⟨x,H5,I5,r5,y5,st5,fr5⟩
   have I5':=I5.pinned (fpok fr5) (T.obj _ _ st5)
   refine wpAny_mono (hg C fp s2 H2 _ s5 τ H5 x u _ I5' r5 (step x H5 y5)) (λ_ s6 ⟨U6,H6,I6,q6⟩=> ?_) λ_ _ z=>False.elim z
   refine wpAny_mono (ht C fp s2 H2 _ s6 U6 H6 _ I6 q6) (λb s7 ⟨H7,I7,q7⟩=> ?_) λ_ _ z=>False.elim z
   have hp5: ∀b∈fp,∃o,s5.heap.get? b=k0 o:=λb hb=>let ⟨o,e,_⟩:=T.obj _ _ st5 b hb; ⟨o,e⟩
   cases b with
   | false=>
    rw [if_neg Ab2]at q7 ⊢
    obtain⟨m',hm,w7⟩:=hN _ _ _ q7
    refine⟨m',hm,i+1,ys,its,kk,U6,H7,I7.bT λp hp=>absurd hp (by simp),T.keep _ _ _ st5 λb hb o e=>(I7.pin (b,o) (Ab6 _ (Ab6 _ (Wi hb e)))).1,λb hb=> ?_,?_,?_,rv3,w7⟩
    ·obtain⟨o,e⟩:=hp5 b hb
     exact(I7.pin (b,o) (Ab6 _ (Ab6 _ (Wi hb e)))).2.1
    ·exact(I7.pin _ (Ab6 _ (Ah3 _ Aa7))).2.1
    ·exact(I7.pin _ (Ab6 _ (Ah3 _ Aa7))).1
   | true=>
    rw [if_pos rfl]at q7 ⊢
    refine wpAny_mono (he C fp s2 H2 _ s7 U6 H7 _ I7 q7) (λy s8 ⟨yv,H8,I8,r8,q8⟩=> ?_) λ_ _ z=>False.elim z
    have pD:=I8.pin _ (Ab6 _ (Ah3 _ Aa7))
    have eD8:s8.heap.get? D=k0 { cls:= .type "list",data:= .seq its.toArray kk }:=pD.1
    have hD8:H8 D=none:=pD.2.1
    have k7:=rv3.length
    refine call_meets F.slot_list_append ⟨_,eD8,rfl⟩ F.entry_list_append (F.args_list_append_2 _ _) (PySem.list_append D its.toArray kk y (by rw [Ac0];omega)) ⟨eD8,?_⟩
    obtain⟨m',hm,w8⟩:=hN _ _ _ q8
    have IQ:Inv (Wd X N scope C fp s2 H2) (JK fp s5.heap) U6 H8 s8:=I8.bT λp hp=>I8.pin p (Ab6 _ (Ab6 _ hp))
    have e9:=PySem.IsL.update eD8 (·.push y)
    rw [show its.toArray.push y=(its++ [y]).toArray by simp]at e9
    have I9:Inv (Wd X N scope C fp s2 H2) (JK fp s5.heap) U6 H8 { s8 with heap:=s8.heap.update D (Obj.mapSeq (·.push y)),toks:=s8.toks }:=
     IQ.turned (it:=D) (λb o hb e=>(Ak3 s8.heap (Obj.mapSeq (·.push y)) (Ne.symm hb)).trans e) hD8 hDC (.inr hleD) hDc λp hp=>by
      have hp:p∈([]:List (Addr×Obj))++JK fp s5.heap:=hp
      have:=fo p.1 (WZ (by simpa using hp)).1
      exact Ac7 this
    refine⟨m',hm,i+1,ys++ [yv],its++ [y],_,U6,H8,I9.bT λp hp=>absurd hp (by simp),T.keep _ _ _ st5 λb hb o e=>(I9.pin (b,o) (Ab6 _ (Wi hb e))).1,λb hb=> ?_,hD8,e9,rv3.append (.cons r8 .nil),w8⟩
    obtain⟨o,e⟩:=hp5 b hb
    exact(I9.pin (b,o) (Ab6 _ (Wi hb e))).2.1
 exact codeAny_compStart_list (loop _ rfl) (T.self _ 0 _ _ _ st3 (loop _ rfl))
def Ir (ok:ZZ X scope N k aC) (n:PI X tg iter wi)
 (r: ∀C fp s H,PG (Wd X N scope C fp s H) tg (g C fp s H)) (l: ∀C fp s H,gA (Wd X N scope C fp s H) ifs (tc C fp s H)) (w: ∀C fp s H,PE (Wd X N scope C fp s H) elt (te C fp s H))
 (v:X.calm=true:=by rfl) (j: ∀x,foldedSetIterable iter X.env x=pure x:=by intro _;rfl):PE X (.ListComp elt [⟨tg,iter,ifs,0⟩] scope pos) (lV k aC wi g tc te):=by
 intro f s U H Q I h
 refine XU y0 v ok n r l w j I h λD C y m u A i a q c=> ?_
 have t:=i.pin _ (Ab6 _ (Ab6 _ Aa7))
 refine⟨m,c _ t.1,λz d=>⟨.ref D,u,?_,rfl,q⟩⟩
 exact(i.bZ).turned (λb o p e=>d.extBut b o p e) a.1 a.2.1 a.2.2.2.1 a.2.2.2.2.1 a.2.2.2.2.2
def IJ (y:X.N.Nodup) (d:X.N[i]? =k0 x) (r:iN X.env.scope x) (ok:ZZ X scope N k aC) (z:PI X tg iter wi)
 (B: ∀C fp s H,PG (Wd X N scope C fp s H) tg (g C fp s H)) (u: ∀C fp s H,gA (Wd X N scope C fp s H) ifs (tc C fp s H)) (K: ∀C fp s H,PE (Wd X N scope C fp s H) elt (te C fp s H))
 (j:swapsWith (.ListComp elt [⟨tg,iter,ifs,0⟩] scope p0) (k0 (.Name x pos')) pos.line X.env=pure true:=by rfl)
 (J:X.calm=true:=by rfl) (t: ∀x,foldedSetIterable iter X.env x=pure x:=by intro _;rfl) (G:X.fn x=u0\/X.env.scope.names.lookup x=k0 .local:=by first | exact .inl rfl | exact .inr rfl | assumption):
 PS X (.Assign [.Name x pos'] (.ListComp elt [⟨tg,iter,ifs,0⟩] scope p0) pos) (gK (lV k aC wi g tc te) (JT i)):=by
 intro n s U H D I h
 rw [exec_Assign_Name_used _ _ _ _ j]
 refine wpAny_bind (wpAny_standAt (wpAny_bind ?_))
 refine wpAny_bind (wpAny_mono (XU _ J ok z B u K t I h λw C M m F P L a q c=> ?_) (λ_ R p=>wpAny_pure (wpAny_pure p)) λ_ _ e=>e)
 refine wpAny_assign_Name (WO L y d r (v:= .ref w) rfl (λQ l=> ?_) G)
 have E:=l.pin _ (Ab6 _ (Ab6 _ Aa7))
 refine⟨m,c _ E.1,λO f=>⟨_,F,?_,q⟩⟩
 exact(l.bZ).turned (λb o A e=>f.extBut b o A e) a.1 a.2.1 a.2.2.2.1 a.2.2.2.2.1 a.2.2.2.2.2
end
noncomputable def lq (K:Aa6) (a:Addr) (n:Nat):It:=
 ⟨λi H=> ∃xs,bz K H a xs/\xs.length=n/\i<n,λi H x H'=>H'=H/\ ∀xs,bz K H a xs->xs[n-1-i]? =k0 x,λi _=>i=n⟩
def Fg {K:Aa6}(a it) (n):iq P w K tg (lq K a n) [it] it (λi h=>h.IsRevIter it a ((n:Int)-1-((i:Nat):Int))) where
 mem:=by simp
 obj:=λi h f b j=>by
  have e:=by simpa using j
  subst e
  obtain⟨o,e,c,d⟩:=f
  exact⟨o,e,λv z=>by rw [d]at z;cases z⟩
 keep:=λi h y f k=>f.at λo e=>k it (by simp) o e
 item:=by
  intro X A r D M i g s U H E I q f m
  subst A r D
  obtain⟨L,G,Z,hi⟩:=m
  obtain⟨O,rv,p,Y⟩:=I.list G
  have J:L[n-1-i]? =k0 (L[n-1-i]'(by omega)):=Aa3 (by omega)
  obtain⟨u,S,V⟩:=rv.get J
  obtain⟨B,t,Q,F,x,C⟩:=q it (by simp)
  have e: n-1- (i:Nat)=((n-1-i:Nat):Int):=by omega
  have f:=f
  rw [e]at f
  refine wpAny_pyNext_rev_item f p.isList (by simpa using S) λy l T=> ?_
  have W:Inv X g U H { s with heap:=y }:=I.turned (λb o j e=>(T.2 b j).trans e) B t F x C
  have e2: (n-1-i:Nat)-1= n-1-((i+1:Nat):Int):=by omega
  rw [e2]at l
  obtain⟨o,e,c,d⟩:=id l
  exact⟨u,rfl,i8 e c d (by decide) ⟨_,H,W,V,⟨rfl,λys R=>by rw [I.dQ R G];exact J⟩,l,λb j=>(q b j).1⟩⟩
 done:=by
  intro X A r D M i g s U H E I q f m
  subst A r D
  have m:=m
  subst m
  obtain⟨B,t,Q,F,x,C⟩:=q it (by simp)
  have e: i-1-((i:Nat):Int)= -1:=by omega
  have f:=f
  rw [e]at f
  exact wpAny_pyNext_rev_end (I.ok.hd M) f λy N=>⟨rfl,I.turned (λb o j e=>N b o j e) B t F x C⟩
 self:=λ_ _ _ _ _ f h=>wpAny_pyIter_revIter f h
section
variable {X:Cx}{tg:Expr}
def E5 (K:Aa6) (b:TA):TI:=λU H R=>b U H λc H1=> ∃a xs,c= [.ref a]/\bz K H1 a xs/\R (lq K a xs.length) H1
def nL (x:Gl X "reversed") (A:X.mg "reversed" =none) (u:PA X [a] ta) (n:starEach [a] X.env= [(false,eval a X.env)]:=by rfl):PI X tg (.Call (.Name "reversed" p) [a] [] pos) (E5 X.K ta):=by
 intro g s U H R I h
 refine Call_ (wN I x A boot_reversed (PyProof.Rows.callWith_type1 (aP (u pos g s U H _ I h) λD i ⟨C,v,j,y,t⟩=> ?_) n rfl))
 obtain⟨b,d,e,m,q⟩:=t
 subst e
 cases y with
 | cons r z=>
  cases z
  cases r
  obtain⟨k,rv,pl,B⟩:=j.list m
  refine call_reversed_list pl.isList ?_
  have f:k.toArray.size=d.length:=by rw [Ac0];exact rv.length.symm
  rw [f]
  have l:(i.heap.push (revObj b (d.length-1))).IsRevIter i.heap.objs.size b (d.length-1- (0:Nat)):=by
   refine⟨_,Ac4 _ rfl,rfl,?_⟩
   rw [show d.length-1- (0:Nat)=(d.length:Int)-1 by lia]<;>rfl
  refine wpAny_pyIter_revIter l ?_
  refine⟨i.heap.objs.size,[i.heap.objs.size],_,_,v,rfl,j.kept λb o e=>Aa9 _ e,Fg b _ d.length,l,λc w=> ?_,q⟩
  have e:=by simpa using w
  subst e
  exact j.dX (Aa8 _) (j.bf.fresh (Aa8 _))
end
structure Lx (P:Program) (w:World) (K:Aa6) (mg:Str->Option Value) (base:Heap) (k:Nat) (x:Str) (ps:List Str) (sp:Sp):Prop where
 ex: ∃f fd,bA P w K mg base kO k f fd ps sp/\Binds K fd ps []/\Ag9 K (.ref f)=u0/\mg x=k0 (.ref f)
open PySem PySem.Spec PySem.Calls PySem.W PyProof.Rows
structure vX (K:Frag) (C:Addr):Prop where
 ga:findIn K (.ref C) "__getattribute__" =some (some (.builtin "BaseException.__getattribute__"))
 gn:findIn K (.ref C) "__getattr__" =some none
 cl:findIn K (.ref C) "__class__" =some (some (.builtin "object.__class__"))
 get:specialIn K (.builtin "object.__class__") "__get__" =some (some (.builtin "getset_descriptor.__get__"))
 set:takesIn K (.builtin "object.__class__")=some true
 obj:mroIn K C (.type "object")=some true
 bas:mroIn K C (.type "BaseException")=some true
 slf:kitCls K (.ref C) (.ref C)=k0 u0
 cls:(clsIn K C).isSome=u0
noncomputable def vG (x C:Addr) (od:Option Addr):HO:= .ext λh=> ∃o,h.get? x=k0 o/\o.cls= .ref C/\notCls o=u0/\ ∀dx,od=k0 dx->o.dict=k0 dx
def DK (h h':Heap):Prop:= ∀b o,h.get? b=k0 o-> ∃o',h'.get? b=k0 o'/\o'.dict=o.dict
def DK.refl (h):DK h h:=λ_ o e=>⟨o,e,rfl⟩
theorem DK.trans (x:DK a b) (y:DK b c):DK a c:=λi o e=>
 let ⟨h,e1,g⟩:=x i o e
 let ⟨d,e2,f⟩:=y i h e1
 ⟨d,e2,f.trans g⟩
def KD {b:Type}:Sem b->Prop
 | .pure _=>True
 | .raise _=>True
 | .unsupported _=>True
 | .finish _=>True
 | .register _ _=>True
 | .rule _ k=>KD (k ())
 | .at _ k=>KD (k ())
 | .load _ _ k=> ∀o,KD (k o)
 | .update _ _ f k=>(∀ o,(f o).dict=o.dict/\(o.isFreed=k9->(f o).isFreed=k9))/\KD (k ())
 | .alloc _ k=> ∀a,KD (k a)
 | .loadIfAlive _ k=> ∀o,KD (k o)
 | .point _ k=>KD (k ())
 | .fresh k=> ∀t,KD (k t)
 | .ask k=> ∀t,KD (k t)
 | .handled _ k=> ∀t,KD (k t)
 | .stack k=> ∀t,KD (k t)
 | .thread k=> ∀t,KD (k t)
 | _=>False
theorem KD.bind (c: ∀a,KD (f a))(h:KD m):KD (m.bind f):=by
 induction m with
 | pure a=>exact c a
 | raise _=>exact trivial
 | unsupported _=>exact trivial
 | finish _=>exact trivial
 | register _ _=>exact trivial
 | rule _ k b=>exact b () h
 | «at» _ k b=>exact b () h
 | load _ _ k b=>exact λo=>b o (h o)
 | update _ _ _ k b=>exact⟨h.1,b () h.2⟩
 | alloc _ k b=>exact λo=>b o (h o)
 | loadIfAlive _ k b=>exact λo=>b o (h o)
 | point _ k b=>exact b () h
 | fresh k b=>exact λo=>b o (h o)
 | ask k b=>exact λo=>b o (h o)
 | handled _ k b=>exact λo=>b o (h o)
 | stack k b=>exact λo=>b o (h o)
 | thread k b=>exact λo=>b o (h o)
 | _=>exact False.elim h
theorem DK.push (h) (o):DK h (h.push o):=λb u e=>⟨u,Aa9 _ e,rfl⟩
theorem DK.update (h) (a)(c: ∀o,(f o).dict=o.dict/\(o.isFreed=k9->(f o).isFreed=k9)):DK h (h.update a f):=λb u e=>by
 by_cases q:a=b
 ·subst q
  exact⟨f u,Heap.get?_update_self f e ((c u).2 (Heap.get?_some_iff.mp e).2),(c u).1⟩
 ·exact⟨u,by rw [Ak3 _ _ q];exact e,rfl⟩
def EY : ∀ {p}{s},KD t->DK h0 s.heap->Sem.wp M Y t Q E p s →
 Sem.wp M Y t (λa p s'=>Q a p s'/\DK h0 s'.heap) (λe p s'=>E e p s'/\DK h0 s'.heap) p s:=by
 induction t with
 | pure a=>exact λk d h=>⟨h,d⟩
 | raise _=>exact λk d h=>⟨h,d⟩
 | unsupported _=>exact λk d h=>h
 | finish _=>exact λk d h=>h
 | register _ _=>exact λk d h=>h
 | rule _ t b=>exact λk d h=>b () k d h
 | «at» _ t b=>exact λk d h=>b () k d h
 | load _ _ t b=>exact λk d ⟨o,e,h⟩=>⟨o,e,b o (k o) d h⟩
 | update a _ f t b=>exact λk d ⟨e,h⟩=>⟨e,b () k.2 (d.trans (DK.update _ _ k.1)) h⟩
 | alloc o t b=>exact λk d h=>b _ (k _) (d.trans (DK.push _ _)) h
 | loadIfAlive _ t b=>exact λk d h=>b _ (k _) d h
 | point _ t b=>exact λk d h=>b () k d h
 | fresh t b=>exact λk d h=>b _ (k _) d h
 | ask t b=>exact λk d h=>b _ (k _) d h
 | handled _ t b=>exact λk d h=>b _ (k _) d h
 | stack t b=>exact λk d h=>b _ (k _) d h
 | thread t b=>exact λk d h=>b _ (k _) d h
 | _=>exact λk=>False.elim k
def Fp (k:KD t) (h:wpAny M A t Q E s):
 wpAny M A t (λa s'=>Q a s'/\DK s.heap s'.heap) (λe s'=>E e s'/\DK s.heap s'.heap) s:=λY p b=>EY k (DK.refl _) (h Y p b)
def Q7 (v):KD (fieldsOf v):=by
 cases v<;>first | exact trivial | skip
 refine KD.bind (λo=> ?_) λ_=>trivial
 split<;>exact trivial
def zF (v) (i):KD (field v i):=by
 refine KD.bind (λo=> ?_) (Q7 v)
 split<;>exact trivial
def Q6 {c:Bool}(d:KD a) (e:KD b):KD (if c then a else b):=by cases c<;>assumption
def Wu (v) (i) (x):KD (setField v i x):=by
 cases v<;>first | exact trivial | skip
 refine KD.bind (λo=> ?_) λ_=>trivial
 split
 ·split
  ·refine⟨λo=> ?_,trivial⟩
   obtain⟨c,d,a,sl⟩:=o
   cases a<;>exact⟨rfl,λz=>z⟩
  ·exact trivial
 ·exact trivial
def XR (f) (b):KD (entryPlaceOf f b):=by
 refine KD.bind (λo=> ?_) λ_=>trivial
 split<;>exact trivial
def Z2 (a b c d e) (p):KD (EntryCells.newEntry a b c d e p):=by
 have f: ∀g:Array Value,KD (if g.size>sizeLine+2 then do
  unsupported "record:memory"
  else newObjAsIs (Value.type "traceback") (Data.fields g)):=fun g=>by
  split
  ·exact trivial
  ·unfold newObjAsIs
   exact λ_=>trivial
 exact f _
theorem tH: ∀l:List Env,KD (readyFrames l)
 | []=>trivial
 | env::outer=>by
  unfold readyFrames
  split
  ·refine KD.bind (λo=> ?_) λ_=>trivial
   refine Q6 trivial ?_
   refine KD.bind (λi=> ?_) ?_
   ·refine KD.bind (λb=> ?_) ?_
    ·refine KD.bind (λ_=>tH outer) ⟨λo=>⟨rfl,λz=> ?_⟩,trivial⟩
     obtain⟨c,d,a,sl⟩:=o
     cases a<;>exact z
    ·unfold keptBack
     split
     ·refine Q6 trivial ?_
      refine KD.bind (λ_=> trivial) ?_
      exact λ_=>trivial
     ·exact trivial
   ·unfold behindIsImport
    refine Q6 trivial (Q6 trivial ?_)
    exact KD.bind (λ_=> trivial) (zF _ _)
  ·exact trivial
def K8 (env):KD (PySem.frameOf env):=by
 refine KD.bind (λl=> ?_) λ_=>trivial
 refine KD.bind (λo=> ?_) ?_
 ·split<;>exact trivial
 ·unfold frameObject
  split
  ·exact trivial
  ·exact KD.bind (λ_=> trivial) (tH _)
def B8 (e) (env):KD (noteFrame e env):=by
 unfold noteFrame
 split
 ·refine KD.bind (λf=> ?_) (zF _ _)
  have d:KD (do setField e 1 (← EntryCells.newEntry f (← PySem.frameOf env) .none (rawInt ‹Addr›) .none (← entryPlaceOf ‹Addr› (f != .none)))):=
   KD.bind (λa=>KD.bind (λb=>KD.bind (λc=>Wu _ _ _) (Z2 _ _ _ _ _ _)) (XR _ _)) (K8 env)
  refine Q6 ?_ d
  refine KD.bind (λx=> ?_) (zF _ _)
  refine Q6 trivial ?_
  exact KD.bind (λ_=>d) (Wu _ _ _)
 ·exact trivial
def Ig (e) (f):KD (setFlight e f):=by
 refine KD.bind (λx=> ?_) (zF _ _)
 exact Q6 (Wu _ _ _) trivial
def DC (env) (e):KD (leaving env e):=KD.bind (λ_=>Ig e y0) (B8 e env)
def aV.there (x:aV P w H h a o): ∃u,h.get? a=k0 u:=by
 cases o with
 | lst c=>exact⟨_,x.2.choose_spec.choose_spec.2⟩
 | tup c=>obtain⟨_,_,_,u,e,_⟩:=x;exact⟨u,e⟩
 | dK b=>obtain⟨_,_,_,_,u,_,_,e,_⟩:=x;exact⟨u,e⟩
 | dT b=>obtain⟨_,_,_,_,u,_,_,e,_⟩:=x;exact⟨u,e⟩
 | set S n=>obtain⟨u,_,_,_,e,_⟩:=x;exact⟨u,e⟩
 | ins C d fs=>obtain⟨_,_,_,e,_⟩:=x;exact⟨_,e⟩
 | own y=>exact x
 | xd fs=>obtain⟨_,⟨u,_,_,e,_⟩,_⟩:=x;exact⟨u,e⟩
 | g8 g j=>obtain⟨_,_,_,e⟩:=x;exact⟨_,e⟩
 | d9 l u=>exact⟨_,x.1⟩
 | gO i=>exact⟨_,show h.get? a=k0 _ from x⟩
 | met f y=>exact⟨_,show h.get? a=k0 _ from x⟩
 | ext k=>exact x.2.1
def eA (P:Program) (w:World):gH:=λouter H s E e s'=> ∃(x C t:Addr) (B:Heap) (H':Hp) (od:Option Addr),e= .ref x/\s'.os=s.os/\AllBare s'.gens ∧
 Heap.FlyingW B outer x (.ref C) (.ref t) s'.heap/\Un (cV outer) [] H H' s.heap s'.heap/\cM P w H' s'.heap ∧
 (∀ b o,s'.heap.get? b=k0 o->((∃ u,H' b=k0 u)\/ ∃u,s.heap.get? b=k0 u)->b∉cV outer->B.get? b=k0 o)/\s.heap.get? x=y0/\(∀ dx,od=k0 dx-> ∃o,s'.heap.get? x=k0 o/\o.dict=k0 dx)/\E (.ref C) od H'
section
variable {P:Program}{w:World}{K:Frag}{mg:Str->Option Value}{base:Heap}{N:List Str}{u8:Str}{scope:Scope}{f:Addr}{cd:Value}{A:Around}{outer:List Env}{s:Shared}{H:Hp}{E:XK}
abbrev p6:List Value:= [.type "ValueError",.type "Exception",.type "BaseException",.type "object"]
def iL.FX {st:Stmt}(F:iL K x u8 st f fd) (S:QA N ps (Jk st)) (len: ∀vs H Q E,sp vs H Q E->vs.length=ps.length)
 (a: ∀ j A outer s H vs Q E,bj k (A.deeper (envOfC u8 (Jk st) s.heap.objs.size f j))->sp vs H Q E →
   ∃t,cQ (g9 (eA P w) P w K mg base N u8 (Jk st) f j A outer s H E) (JG st) t/\t { nx:=λ_ H'=>Q .ak H',rt:=Q } (start N vs) H):bA P w K mg base (eA P w) (k+1) f fd ps sp:=by
 obtain⟨m,od,kV,d,n,l,j,i,h,rfl,e,b⟩:=F.ex
 exact DV e b S len λA outer s H vs Q E g c=>a j A outer s H vs Q E g c
def Hy:PassesOwn (model P w) (A.deeper (envOfC u8 scope s.heap.objs.size f cd)) (envOfC u8 scope s.heap.objs.size f cd) (g9 (eA P w) P w K mg base N u8 scope f cd A outer s H E).xe:=
 PassesOwn.leaving
end
def HN {j s':Shared}(k:Inv X k8 U H1 j) (r:s'.os=j.os) (h:AllBare s'.gens) (un:Un (cV X.stack) [] H1 H' j.heap s'.heap) (l:cM X.prog X.w H' s'.heap)
 (comp: ∀b o,s'.heap.get? b=k0 o->((∃ u,H' b=k0 u)\/ ∃u,j.heap.get? b=k0 u)->b∉cV X.stack->B.get? b=k0 o) (f:Heap.FlyingW B X.stack x (.ref C) (.ref t) h6) (q:s'.heap.UpToSlots h6):Inv X k8 U H' { s' with heap:=h6 }:=by
 have gI: ∀c u,H' c=k0 u->c∉cV X.stack:=λc u z d=>by
  obtain⟨_,o,e,_⟩:=k.stack.mem d
  have:=un.free c o e (k.cU c d) (by simp)
  rw [this]at z
  cases z
 refine k.gT (s':= { s' with heap:=h6 }) (ch:= []) r ⟨λb o e n a g=> ?_,λb o e n a g=> ?_,un.free,λb o e g=> ?_,un.dM,un.dt,un.dF⟩ (λb u e=> ?_) h λb a=>absurd a (by simp)
 ·exact f.1 b o (comp b o (un.keep b o e n a g) (.inr ⟨o,e⟩) a)
 ·obtain⟨sl,e1⟩:=un.slot b o e n a g
  obtain⟨_,i,e2,s⟩:=k.stack.mem a
  rw [e]at e2
  cases e2
  obtain⟨m,w⟩:=q b _ e1 s
  exact⟨m,w⟩
 ·obtain⟨i,e1⟩:=un.there b o e g
  by_cases a:b∈cV X.stack
  ·obtain⟨_,p,e2,_⟩:=f.2.2.1.mem a
   exact⟨p,e2⟩
  ·exact⟨i,f.1 b i (comp b i e1 (.inr ⟨o,e⟩) a)⟩
 ·refine(l b u e).dW (λc v d z=> ?_) (λ_ z=>z) λ_ _ z=>z
  obtain rfl | d:=d
  ·exact f.1 c v (comp c v z (.inl ⟨u,e⟩) (gI c u e))
  ·exact f.1 c v (comp c v z (.inl ⟨_,d⟩) (gI c _ d))
def bA.calm {K:Frag}(F:bA P w K mg base (eA P w) k f fd ps sp)
 (h: ∀vs H Q E,sp0 vs H Q E->sp vs H Q (λ_ _ _=>False)):bA P w K mg base kO k f fd ps sp0:=by
 refine⟨λvs H Q E q=>F.len vs H Q _ (h _ _ _ _ q),λA a s H c l vs Q E i n g m e=>codeAny_mono (F.run A a s H c l vs Q _ i n g m (h _ _ _ _ e)) λres r b=> ?_⟩
 cases res with
 | ok d=>
  cases d with
  | ret u=>exact b
  | next=>exact b
  | brk=>exact b
  | cont=>exact b
 | error o=>
  obtain⟨x,C,t,B,p,_,_,_,_,_,_,_,_,_,_,j⟩:=b
  exact j
noncomputable def hQ (x:Str):It:=⟨λi _=> ∃c,x.cps[i]? =k0 c,λi H y H'=>H'=H/\ ∃c,x.cps[i]? =k0 c/\y= .str ⟨#[c]⟩,λi _=>x.cps[i]? =y0⟩
def FO {K:PySem.W.Frag}(it) (x) (t):iq P w K tg (hQ x) [it] it (λi h=>h.IsStrIter it "str_ascii_iterator" x t i) where
 mem:=by simp
 obj:=λi h a b g=>by
  have e:=by simpa using g
  subst e
  obtain⟨o,e,c,d⟩:=a
  exact⟨o,e,λv z=>by rw [d]at z;cases z⟩
 keep:=λi h p a k=>by
  obtain⟨o,e,c,d⟩:=a
  exact⟨o,k it (by simp) o e,c,d⟩
 item:=by
  intro X J C N B i f s U H E I l a q
  obtain⟨c,A⟩:=q
  obtain⟨r,m,F,y,n,u⟩:=l it (by simp)
  refine wpAny_pyNext_ascii_item a A λp j L=> ?_
  have M:Inv X f U H { s with heap:=p,toks:=s.toks+1 }:=I.turned (λb o g e=>(L.2 b g).trans e) r m y n u
  obtain⟨o,e,G,d⟩:=id j
  exact⟨_,rfl,i8 e G d (by decide) ⟨.str ⟨#[c]⟩,H,M,⟨_,rfl⟩,⟨rfl,c,A,rfl⟩,j,λb g=>(l b g).1⟩⟩
 done:=by
  intro X J C N B i f s U H E I l a q
  obtain⟨r,m,F,y,n,u⟩:=l it (by simp)
  exact wpAny_pyNext_ascii_end (I.ok.hd B) a q λp D=>⟨rfl,I.turned (λb o g e=>D b o g e) r m y n u⟩
 self:=λ_ _ _ _ _ a h=>wpAny_pyIter_striter_ascii a h
def BI {K:PySem.W.Frag}(it) (x) (t):iq P w K tg (hQ x) [it] it (λi h=>h.IsStrIter it "str_iterator" x t i) where
 mem:=by simp
 obj:=λi h a b g=>by
  have e:=by simpa using g
  subst e
  obtain⟨o,e,c,d⟩:=a
  exact⟨o,e,λv z=>by rw [d]at z;cases z⟩
 keep:=λi h p a k=>by
  obtain⟨o,e,c,d⟩:=a
  exact⟨o,k it (by simp) o e,c,d⟩
 item:=by
  intro X J C N B i f s U H E I l a q
  obtain⟨c,A⟩:=q
  obtain⟨r,m,F,y,n,u⟩:=l it (by simp)
  refine wpAny_pyNext_wide_item a A λp j L=> ?_
  have M:Inv X f U H { s with heap:=p,toks:=s.toks+1 }:=I.turned (λb o g e=>(L.2 b g).trans e) r m y n u
  obtain⟨o,e,G,d⟩:=id j
  exact⟨_,rfl,i8 e G d (by decide) ⟨.str ⟨#[c]⟩,H,M,⟨_,rfl⟩,⟨rfl,c,A,rfl⟩,j,λb g=>(l b g).1⟩⟩
 done:=by
  intro X J C N B i f s U H E I l a q
  obtain⟨r,m,F,y,n,u⟩:=l it (by simp)
  exact wpAny_pyNext_wide_end (I.ok.hd B) a q λp D=>⟨rfl,I.turned (λb o g e=>D b o g e) r m y n u⟩
 self:=λ_ _ _ _ _ a h=>wpAny_pyIter_striter_wide a h
def KC (K:Aa6) (b:TE):TI:=λU H R=>b U H λx H1=>(∃ a,x= .ref a/\(∃ xs,bz K H1 a xs)/\R (mh K a) H1)\/(∃ a,x= .ref a/\(∃ xs,cx K H1 a xs)/\R (ke K a) H1)\/ ∃z,x= .str z/\R (hQ z) H1
def nD (w:PE X l tl):PI X tg l (KC X.K tl):=by
 intro g s U H R I h
 refine aP (w g s U H _ I h) ?_
 rintro v d ⟨x,i,c,m,r⟩
 obtain⟨a,e,⟨y,j⟩,q⟩ | ⟨a,e,⟨y,j⟩,q⟩ | ⟨z,e,q⟩:=r
 ·subst e
  cases m
  obtain⟨k,rv,p,u⟩:=c.list j
  refine wpAny_pyIter_list p.isList ?_
  refine⟨d.heap.objs.size,[d.heap.objs.size],_,_,i,rfl,c.kept λb o e=>Aa9 _ e,AD a _,⟨_,Ac4 _ rfl,rfl,rfl⟩,λb f=> ?_,q⟩
  have e:=by simpa using f
  subst e
  exact c.dX (Aa8 _) (c.bf.fresh (Aa8 _))
 ·subst e
  cases m
  obtain⟨k,rv,p,u⟩:=c.tuple j
  refine wpAny_pyIter_tuple (p) ?_
  refine⟨d.heap.objs.size,[d.heap.objs.size],_,_,i,rfl,c.kept λb o e=>Aa9 _ e,A9 a _,⟨_,Ac4 _ rfl,rfl,rfl⟩,λb f=> ?_,q⟩
  have e:=by simpa using f
  subst e
  exact c.dX (Aa8 _) (c.bf.fresh (Aa8 _))
 ·subst e
  obtain⟨t,rfl⟩:=m
  cases n:z.cps.all (· <128)with
  | true=>
   refine wpAny_pyIter_ascii n ?_
   refine⟨d.heap.objs.size,[d.heap.objs.size],_,_,i,rfl,c.kept λb o e=>Aa9 _ e,FO _ z t,⟨_,Ac4 _ rfl,rfl,rfl⟩,λb f=> ?_,q⟩
   have e:=by simpa using f
   subst e
   exact c.dX (Aa8 _) (c.bf.fresh (Aa8 _))
  | false=>
   refine wpAny_pyIter_wide n ?_
   refine⟨d.heap.objs.size,[d.heap.objs.size],_,_,i,rfl,c.kept λb o e=>Aa9 _ e,BI _ z t,⟨_,Ac4 _ rfl,rfl,rfl⟩,λb f=> ?_,q⟩
   have e:=by simpa using f
   subst e
   exact c.dX (Aa8 _) (c.bf.fresh (Aa8 _))
section
variable {X:Cx}
def Vals.ig (r:Vals xs us){i:Nat}(h:us[i]? =k0 u): ∃x,xs[i]? =k0 x/\RelV x u:=by
 have d:=r.length
 have e:=(Aa1.mp h).1
 have b:i<xs.length:=by lia
 obtain⟨f,a,c⟩:=r.get (Aa3 b)
 rw [h]at a
 cases a
 exact⟨_,Aa3 b,c⟩
def HJ (bs:List Bool):(Aa5 bs.length).all (λi=>bs.getD i k9)=bs.all id:=by
 induction bs with
 | nil=>rfl
 | cons b bs a=>
  rw [Ab,Ag6,Ag1,An,Ag1,←a]
  rfl
def EW (bs:List Bool):(Aa5 bs.length).any (λi=>bs.getD i k9)=bs.any id:=by
 induction bs with
 | nil=>rfl
 | cons b bs a=>
  rw [Ab,Ag6,Ae8,Ao5,Ae8,←a]
  rfl
def QU {bs:List Bool}(r:Vals (bs.map V.bl) its):TruthOf P w A (λi v=>its.toArray[i]? =k0 v) (λi=>bs.getD i k9):=by
 intro i v s Q E d g
 obtain⟨x,a,f⟩:=r.ig (by simpa using d)
 rw [Ac2]at a
 cases c:bs[i]? with
 | none=>rw [c]at a;cases a
 | some b=>
  rw [c]at a
  cases a
  cases f
  refine wpAny_truthy_bool ?_
  have e:bs.getD i k9=b:=by rw [Ac5,c];rfl
  rw [← e]
  exact g
def vU (t:X.calm=u0):zt X (.builtin "all") (fun xs H Q=> ∃p,∃bs:List Bool,xs= [.ref p]/\bz X.K H p (bs.map V.bl)/\Q (.bl (bs.all id)) H):=by
 intro c s U H xs x Q I r h
 obtain⟨p,bs,rfl,g,q⟩:=h
 obtain⟨u,rfl,j⟩:=jK r
 cases j
 obtain⟨d,rv,pl,w⟩:=I.list g
 have a:=rv.length
 rw [Aa]at a
 refine call_all_walk (wpAny_pyIter_list pl.isList ?_)
 have f:p≠s.heap.objs.size:=by
  obtain⟨o,m,_⟩:=pl.isList
  exact Ac7 (Ac m)
 refine⟨s.heap.objs.size,_,_,_,_,_,λi=>bs.getD i k9,rfl,Walks.list (A:=X.A.in1) (I.ok.hd t) _ p f d.toArray,⟨⟨_,Ac4 _ rfl,rfl,rfl⟩,pl.isList.at λo e=>Aa9 _ e⟩,QU rv,λl k n=> ?_⟩
 have v:Inv X c U H { s with heap:=l,toks:=k }:=I.kept λb o e=>n b o (by simp;exact Ac7 (Ac e)) (Aa9 _ e)
 refine⟨.bl _,H,v,?_,q⟩
 show _=_
 rw [Ac0,←a,HJ]
def Fi (t:X.calm=u0):zt X (.builtin "any") (fun xs H Q=> ∃p,∃bs:List Bool,xs= [.ref p]/\bz X.K H p (bs.map V.bl)/\Q (.bl (bs.any id)) H):=by
 intro c s U H xs x Q I r h
 obtain⟨p,bs,rfl,g,q⟩:=h
 obtain⟨u,rfl,j⟩:=jK r
 cases j
 obtain⟨d,rv,pl,w⟩:=I.list g
 have a:=rv.length
 rw [Aa]at a
 refine call_any_walk (wpAny_pyIter_list pl.isList ?_)
 have f:p≠s.heap.objs.size:=by
  obtain⟨o,m,_⟩:=pl.isList
  exact Ac7 (Ac m)
 refine⟨s.heap.objs.size,_,_,_,_,_,λi=>bs.getD i k9,rfl,Walks.list (A:=X.A.in1) (I.ok.hd t) _ p f d.toArray,⟨⟨_,Ac4 _ rfl,rfl,rfl⟩,pl.isList.at λo e=>Aa9 _ e⟩,QU rv,λl k n=> ?_⟩
 have v:Inv X c U H { s with heap:=l,toks:=k }:=I.kept λb o e=>n b o (by simp;exact Ac7 (Ac e)) (Aa9 _ e)
 refine⟨.bl _,H,v,?_,q⟩
 show _=_
 rw [Ac0,←a,EW]
def f5:List Int->Int
 | []=>0
 | i::r=>i+f5 r
theorem QW: ∀(xs) (x),f5 (xs++ [x])=f5 xs+x
 | [],x=>by simp [f5]
 | y::a,x=>by
  show y+f5 (a++ [x])=y+f5 a+x
  rw [QW a x];omega
theorem jH (ns:List Int): ∀j,j<=ns.length->preSum (λi=>ns.getD i 0) j=f5 (ns.take j)
 | 0,_=>rfl
 | j+1,h=>by
  rw [preSum,jH ns j (by omega),List.take_succ,Aa3 (by omega)]
  show _=f5 (ns.take j++ [ns[j]])
  rw [QW,Ac5,Aa3 (by omega)]
  rfl
end
section
variable {X:Cx}
theorem XB: ∀ {J}{j},Vals (J.map V.str) j->StrsAre j J
 | [],j,r=>by cases r;exact .nil
 | z::J,j,r=>by
  cases r with
  | cons h t=>
   obtain⟨k,rfl⟩:=h
   exact .cons _ _ (XB t)
theorem tQ: ∀ {J}{j},StrsAre J j->Vals (j.map V.str) J
 | _,_,.nil=> .nil
 | _,_,.cons _ _ h=> .cons ⟨_,rfl⟩ (tQ h)
def J0:zt X (.builtin "sorted") (fun xs H Q=> ∃p,∃J:List Str,xs= [.ref p]/\bz X.K H p (J.map V.str)/\J.length<64/\ ∀j,j.Perm J->sortedS j=true-> ∀l,H l=none->Q (.ref l) (aR H l (.lst (j.map V.str)))):=by
 intro g s U H xs w Q I r h
 obtain⟨p,J,rfl,k,i,q⟩:=h
 obtain⟨u,rfl,m⟩:=jK r
 cases m
 obtain⟨d,rv,pl,f⟩:=I.list k
 have a:=rv.length
 rw [Aa]at a
 refine sorted_strs pl.isList (XB rv) (by lia) λc j t a2 a3=> ?_
 obtain⟨e,v⟩:=sortedAll_at s.heap d c
 have n:j.length<=sizeLine:=by rw [a2.length_eq];rw [Aa]at f;exact f
 refine⟨.ref _,_,I.laid (λb o e=>sortedAll_old e) (Aj8 _) (show aV X.prog X.w _ _ _ (.lst _)from⟨by rw [Aa];exact n,c.toList,e,tQ t,by simpa [seqObj]using v⟩),rfl,q j a2 a3 _ (I.bf.fresh (Aj8 _))⟩
end
section
variable {X:Cx}
def g0 (x:Str) (n:Nat):Str:=⟨(Aa2 n x.cps).foldl (· ++ ·) #[]⟩
theorem X0 : ∀ n (a b:Array α),((Aa2 n a).foldl (· ++ ·) b).toList=b.toList++(Aa2 n a.toList).flatten
 | 0,a,b=>by simp
 | n+1,a,b=>by
  rw [Ae4,Ak,X0 n,Ae4,List.flatten_cons]
  simp
def jI (x) (n):(g0 x n).cps.toList=(Aa2 n x.cps.toList).flatten:=by
 unfold g0
 rw [X0]
 simp
def IL (x) (n):(g0 x n).length=x.length*n:=by
 show(g0 x n).cps.size=x.cps.size*n
 rw [← Aj5,jI]
 simp [Ak7]
def rC {a b:Str}(h:a.cps.toList=b.cps.toList):a=b:=by
 cases a;cases b
 simp [Str.mk.injEq]
 exact Array.toList_inj.mp h
def Hn:bK X (binaryOp .Mult) (λx y H Q=> ∃z k,x= .str z/\y= .int k/\0<=k/\k<=1000/\z.length*k.toNat<=1000000/\Q (.str (g0 z k.toNat)) H):=by
 intro k8 s U H x y v u Q I rx ry h
 obtain⟨z,k,rfl,rfl,h0,h1,hl,q⟩:=h
 obtain⟨t,rfl⟩:=rx
 obtain⟨t',rfl⟩:=ry
 have hsz:(g0 z k.toNat).length<=sizeLine:=by rw [IL];exact Ab9 hl (by decide)
 refine P.mul_str (by
  have a: ¬k< -(2 ^ 63:Int):=by lia
  have b: ¬k>=2 ^ 63:=by lia
  rw [decide_eq_false a,decide_eq_false b];rfl) (λc1 c2=> ?_) (λc1 c2=> ?_) ?_
 ·have hk:=by omega
  have:(2:Int) ^ 63-1>=(z.length:Int)*k:=by
   have e:((z.length*k.toNat:Nat):Int)=(z.length:Int)*k:=by rw [Int.natCast_mul,Int.toNat_of_nonneg h0]
   have:=hl
   lia
  have:=Int.le_ediv_of_mul_le (c:=k) (by omega) (by omega)
  lia
 ·unfold Builtin.Str.tooLong
  exact decide_eq_false (by have:sizeLine>=1000000:=by decide
                            lia)
 ·by_cases c1:k<1
  ·have hk:k=0:=by lia
   subst hk
   rw [if_pos c1]
   exact⟨by decide,.str _,H,I.kept λb o e=>e,⟨_,rfl⟩,q⟩
  ·rw [if_neg c1]
   by_cases c2:(k==1||z.length==0)=u0
   ·rw [if_pos c2]
    have e:g0 z k.toNat=z:=by
     apply rC
     rw [jI]
     obtain c | c:=Ao.mp c2
     ·have:k=1:=by simpa using c
      subst this
      simp
     ·have:z.cps.toList= []:=by
       have c:z.length=0:=by simpa using c
       have c:z.cps.size=0:=c
       rw [← Aj5]at c
       exact Ai3 c
      rw [this]
      simp
    rw [e]at q
    exact⟨.str z,H,I,⟨t,rfl⟩,q⟩
   ·rw [if_neg c2]
    exact⟨hsz,.str _,H,I.kept λb o e=>e,⟨_,rfl⟩,q⟩
def A3:bK X (binaryOp .Add) (λx y H Q=> ∃a b ys,x= .ref a/\y= .ref b/\cx X.K H a []/\cx X.K H b ys/\Q (.ref b) H):=by
 intro l s U H x y v u Q I p B h
 obtain⟨a,b,ys,rfl,rfl,t,w,q⟩:=h
 cases p
 cases B
 obtain⟨r,A,C,_⟩:=I.tuple t
 obtain⟨d,J,E,_⟩:=I.tuple w
 cases A
 obtain⟨⟨G,dd,k,sl⟩,m,F,n,z⟩:=id C
 obtain⟨⟨o,e,i,g⟩,c,f,D,j⟩:=id E
 subst F z f j
 exact concat_meets ⟨_,m,rfl⟩ ⟨_,c,rfl⟩ noFill_tuple_add seq_tuple_add PySem.F.slot_tuple_add PySem.F.entry_tuple_add (PySem.F.args_tuple_add_2 _ _)
  (tuple_addW0 a b _ d.toArray n D dd e sl g rfl) ⟨m,c,.ref b,H,I,rfl,q⟩
def HE (D:X.calm=u0):zt X (.builtin "sum") (fun xs H Q=> ∃p,∃ns:List Int,xs= [.ref p]/\bz X.K H p (ns.map V.int)/\Q (.int (f5 ns)) H):=by
 intro f s U H xs J Q I r h
 obtain⟨p,ns,rfl,l,q⟩:=h
 obtain⟨u,rfl,m⟩:=jK r
 cases m
 obtain⟨k,rv,pl,G⟩:=I.list l
 have a:=rv.length
 rw [Aa]at a
 refine call_sum_walkG (wpAny_pyIter_list pl.isList ?_)
 have g:p<s.heap.objs.size:=by
  obtain⟨o,y,_⟩:=pl.isList
  exact Ac y
 have j:s.heap.objs.size<(s.heap.push { cls:= .type "list_iterator",data:= .fields #[.ref p,.int 0 0] }).objs.size:=Heap.lt_size (Heap.get?_push_size _ rfl)
 refine⟨s.heap.objs.size,_,_,_,_,_,λi=>ns.getD i 0,rfl,Walks.list (A:=X.A.in1) (I.ok.hd D) _ p (Ac7 g) k.toArray,⟨⟨_,Ac4 _ rfl,rfl,rfl⟩,pl.isList.at λo e=>Aa9 _ e⟩,λb c=> ?_,λi v C=> ?_,λw n B z=> ?_⟩
 ·simp [or_false]at c
  obtain rfl | rfl:=c
  ·exact j
  ·exact Nat.lt_trans g j
 ·obtain⟨x,d,E⟩:=rv.ig (by simpa using C)
  rw [Ac2]at d
  cases c:ns[i]? with
  | none=>rw [c]at d;cases d
  | some b=>
   rw [c]at d
   cases d
   obtain⟨t,rfl⟩:=E
   exact⟨t,by show Value.int b t=Value.int (ns.getD i 0) t;rw [Ac5,c];rfl⟩
 ·have F:Inv X f U H { s with heap:=w,toks:=n }:=I.kept λb o e=>z b o (by simp;exact Ac7 (Ac e)) (Aa9 _ e)
  refine⟨.int _,H,F,⟨B,?_⟩,q⟩
  rw [Ac0,←a,jH ns _ (Aa8 _),Ao8]
theorem jO: ∀ {ns}{j},Vals (ns.map V.int) j-> ∃ps:List (Int×Tok),j=ps.map (λp=> .int p.1 p.2)/\ps.map (·.1)=ns
 | [],j,r=>by cases r;exact⟨[],rfl,rfl⟩
 | n::ns,j,r=>by
  cases r with
  | cons h t=>
   obtain⟨k,rfl⟩:=h
   obtain⟨ps,e1,e2⟩:=jO t
   exact⟨(n,k)::ps,by rw [e1];rfl,by rw [← e2];rfl⟩
def XE (lo) (d n) (a:d<=n):(match lo with | none=>(d:Int) | some i=>max 0 (min (if i<0 then i+n else i) n))=((HT.aX n d lo:Nat):Int)/\HT.aX n d lo<=n:=by
 cases lo with
 | none=>exact⟨rfl,a⟩
 | some i=>
  by_cases q:i<0
  ·simp [HT.aX,q,if_true];lia
  ·simp [HT.aX,q,if_false];lia
def qX (x:Str) (a b:Option Int):Builtin.Str.strSliceIndices a b 1 x.length=(Aa5 (HT.aX x.length x.length b-HT.aX x.length 0 a)).map λk=>HT.aX x.length 0 a+k:=by
 have c:=XE a 0 x.length (Ac8 _)
 have d:=XE b x.length x.length (Aa8 _)
 have e:Builtin.Str.strSliceIndices a b 1 x.length=sliceRange ((HT.aX x.length 0 a)) ((HT.aX x.length x.length b)) 1:=by
  rw [← c.1,←d.1]
  cases a<;>cases b<;>rfl
 rw [e]
 unfold sliceRange
 simp only [show (1:Int)>0 by decide,if_true,Int.ediv_one,Int.one_mul]
 have e2:(if ((HT.aX x.length 0 a))<((HT.aX x.length x.length b:Nat):Int)then((HT.aX x.length x.length b))-((HT.aX x.length 0 a:Nat):Int)+1-1 else 0).toNat=HT.aX x.length x.length b-HT.aX x.length 0 a:=by
  split<;>lia
 rw [e2]
 refine Ai λk _=> ?_
 lia
noncomputable def iZ (x:Str) (a b:Option Int):Str:=⟨((x.cps.toList.drop (HT.aX x.length 0 a)).take (HT.aX x.length x.length b-HT.aX x.length 0 a)).toArray⟩
def vY (x) (lo hi):Txt.slice x lo hi=iZ x lo hi:=by
 have c:=(XE lo 0 x.length (Ac8 _)).2
 have a:=(XE hi x.length x.length (Aa8 _)).2
 by_cases q:HT.aX x.length 0 lo<=HT.aX x.length x.length hi
 ·have e:=StrLaws.sliceText_nat x q a
  rw [show iZ x lo hi=⟨((x.cps.toList.drop _).take _).toArray⟩from rfl,←e]
  unfold Txt.slice StrLaws.sliceText
  rw [qX x lo hi,StrLaws.strSliceIndices_plain q a]
 ·have b:HT.aX x.length x.length hi-HT.aX x.length 0 lo=0:=by lia
  unfold Txt.slice iZ
  rw [qX x lo hi,b]
  rw [if_neg (by simp;lia)]
  simp
def oB:V->Option Int->Option Int->Hp->VK->Prop:=λx lo hi H Q=> ∃z,x= .str z/\z.length<=sizeLine/\Q (.str (iZ z lo hi)) H
def oX:gb X oB:=by
 intro a s U H x v p r i g sl Q I j c pl n h
 obtain⟨z,rfl,m,q⟩:=h
 obtain⟨t,rfl⟩:=j
 refine⟨"str",_,F.slot_str_getitem.lookup,typeIs_str _ _ _,?_⟩
 have fin: ∀f k,EP X a U Q (.str (Txt.slice z i g) f) { s with toks:=k }:=λf k=>by
  rw [vY]
  exact⟨.str _,H,I.kept (t':=k) λb o e=>e,⟨_,rfl⟩,q⟩
 have d:(Txt.slice z i g).length<=sizeLine:=Ab9 (Txt.slice_le z _ _) m
 cases pl<;>cases n
 ·exact wpAny_getItem_str_slice (l:=y0) (u:=y0) (st:=y0) c rfl (post_val_or_str ⟨d,fin⟩)
 ·exact wpAny_getItem_str_slice (l:=y0) (u:=k0 (_,_)) (st:=y0) c rfl (post_val_or_str ⟨d,fin⟩)
 ·exact wpAny_getItem_str_slice (l:=k0 (_,_)) (u:=y0) (st:=y0) c rfl (post_val_or_str ⟨d,fin⟩)
 ·exact wpAny_getItem_str_slice (l:=k0 (_,_)) (u:=k0 (_,_)) (st:=y0) c rfl (post_val_or_str ⟨d,fin⟩)
end
open PySem PySem.Spec PyProof.Rows PySem.MeetsSeq
section
variable {X:Cx}
def BZ {e:Nat->Bool}(k:IsTup s.heap a y8)
 (p: ∀i y,y8[i]? =k0 y->PySem.SeqAt.EqAt A.in1 s y x (e i)) (r:j<y8.size) (d:e j=u0) (f: ∀i,i<j->e i=k9) (h: ∀t',Q (.int (j:Int) t') { s with toks:=s.toks+1 }):
 wpAny (model prog w) A (call (.builtin "tuple.index") [.ref a,x]) Q E s:=by
 refine wpAny_call_entry F.slot_tuple_index k.typeIs F.entry_tuple_index ?_ (F.args_tuple_index_2 _ _)
 refine wpAny_bind (wpAny_of_eq (show PySem.selfAndSome "tuple.index" "index" 1 3 ⟨[.ref a,x],[]⟩=pure (Value.ref a,[x])from rfl) ?_)
 refine wpAny_bind (tupleItemsOf_ k ?_)
 refine wpAny_bind (wpAny_pure (wpAny_bind (wpAny_pure (wpAny_bind ?_))))
 rw [Nat.min_self,Std.Legacy.Range.forIn_eq_forIn_range']
 refine wpAny_forIn_list _ (λqt b g=>g=s/\b=(y0,())/\ ∃i,i<=j/\qt=List.range' i (y8.size-i)) _ ?_ ?_ _ _ ⟨rfl,rfl,0,Ac8 _,by simp⟩
 ·rintro i qt b g ⟨rfl,rfl,i0,n,c⟩
  have e1:y8.size-i0=(y8.size-(i0+1))+1:=by lia
  rw [e1,Am4]at c
  injection c with m o
  subst m
  have l:i<y8.size:=by lia
  rw [Array.getElem?_eq_getElem l]
  refine wpAny_bind (p i y8[i] (Array.getElem?_eq_getElem l) prog w _ _ ?_)
  by_cases q:i=j
  ·subst q
   rw [d,if_pos rfl]
   refine wpAny_bind (wpAny_bind (wpAny_mkInt ?_))
   exact wpAny_pure (wpAny_pure (wpAny_pure ⟨_,rfl,h _⟩))
  ·rw [f i (by lia),if_neg Ab2]
   exact wpAny_pure ⟨rfl,rfl,i+1,by lia,o⟩
 ·rintro b g ⟨rfl,rfl,i0,n,c⟩
  have e1:y8.size-i0=(y8.size-(i0+1))+1:=by lia
  rw [e1,Am4]at c
  cases c
abbrev vj:=V->Hp->Prop
def lZ (X:Cx) (T:String) (ty:vj):Prop:= ∀(k8:List (Addr×Obj)) (s:Shared) (U:St) (H:Hp) (x:V) (v:Value),Inv X k8 U H s->RelV x v->ty x H->s.TypeIs v T/\ ∀a,v= .ref a-> ∃ob,s.heap.get? a=k0 ob/\ob.dict=y0
def B4 (ty:vj) (r:V->List V->Hp->VK->Prop) (a:TE) (t:TA):TE:=λU H Q=>a U H λx H1=>ty x H1/\t U H1 λxs H2=>r x xs H2 Q
def mF {T id:String}(E:PlainAttrs T) (f:Slot T name id) (i:typeOf (.builtin id)=pure (.type "method_descriptor")) (w:lZ X T ty) (M:hV X id r) (D:PE X o to) (y:PA X (e::es) t)
 (b:attributeBase o name X.env (eval o X.env)=eval o X.env)
 (d:((backTo y7 (starEach (e::es) X.env)).all (λx=> !x.1)&&(backToKw y7 (keywordEach [] X.env)).all (λx=>x.1.isSome)
   &&y9 ((e::es).length+([]:List Keyword).length+(if ([]:List Keyword).isEmpty then 0 else 1)<30))=u0)
 (c:(apos.endLine==y7.line)=u0) (p:starEach (e::es) X.env=(k9,eval e X.env)::starEach es X.env) (g:(backTo y7 (starEach es X.env)).any (·.1)=k9):
 PE X (.Call (.Attribute o name apos) (e::es) [] y7) (B4 ty r to t):=by
 intro a s U H Q I h
 refine wpAny_Call_method_late b d c rfl (aP (D a s U H _ I h) ?_)
 rintro v m ⟨x,k,n,l,C,q⟩
 obtain⟨z,J⟩:=w a m U k x v n l C
 refine⟨T,id,E,f,i,z,J,?_⟩
 have j:=y y7 a m U k _ n q
 rw [p]at j ⊢
 refine Calls.callWith_builtin (by assumption) (Calls.evalArgs_plain ?_)
 exact aP j λF u ⟨B,G,K,L,A⟩=>M a u U G x B v F Q K l L A
def uK (K:PySem.W.Frag) (H:Hp) (a:Addr):Prop:=(∃ xs,H a=some (.tup xs))\/ ∃o,K.lookup a=some o/\o.cls= .type "tuple" /\o.dict=none
def Ar:lZ X "tuple" (fun x H=> ∃a,x= .ref a/\uK X.K H a):=by
 intro f s U H x v I r h
 obtain⟨a,rfl,h⟩:=h
 cases r
 obtain⟨l,h⟩ | ⟨o,g,k,j⟩:=h
 ·obtain⟨_,i,_,o,e,c,d,n,m⟩:=I.bf a _ h
  refine⟨⟨o,e,c⟩,λb z=> ?_⟩
  cases z
  exact⟨o,e,d⟩
 ·refine⟨⟨o,I.cb a o g,k⟩,λb z=> ?_⟩
  cases z
  exact⟨o,I.cb _ o g,j⟩
def IK:lZ X "str" (fun x _=> ∃z,x= .str z):=by
 intro a s U H x v I r h
 obtain⟨z,rfl⟩:=h
 obtain⟨t,rfl⟩:=r
 exact⟨typeIs_str s z t,λ_ e=>nomatch e⟩
def vP:lZ X "list" (fun x H=> ∃a xs,x= .ref a/\bz X.K H a xs):=by
 intro d s U H x v I r h
 obtain⟨a,xs,rfl,h⟩:=h
 cases r
 obtain⟨f,_,pl,_⟩:=I.list h
 refine⟨pl.isList.typeIs,λb e=> ?_⟩
 cases e
 obtain⟨o,n,e,c,g,_⟩:=pl
 exact⟨o,e,g⟩
def iP (x:Str):List Str->Option Nat
 | []=>y0
 | y::ys=>if y=x then k0 0 else(iP x ys).map (· +1)
theorem tK : ∀ {J}{j},iP x J=k0 j->j<J.length/\J[j]? =k0 x/\ ∀i,i<j-> ∀y,J[i]? =k0 y->y≠x
 | [],_,h=>by cases h
 | y::g,j,h=>by
  unfold iP at h
  split at h
  ·rename_i q
   cases h
   exact⟨Nat.zero_lt_succ _,by simp [q],λi b=>absurd b (Ai8 _)⟩
  ·rename_i q
   obtain⟨k,e,rfl⟩:=Af8.mp h
   obtain⟨c,d,f⟩:=tK e
   refine⟨Nat.succ_lt_succ c,by simpa using d,λi b z a=> ?_⟩
   cases i with
   | zero=>simp at a;rw [← a];exact q
   | succ i=>exact f i (by omega) z (by simpa using a)
def EZ (K:Aa6):V->List V->Hp->VK->Prop:=λx c H Q=> ∃a z j,∃b:List Str,x= .ref a/\c= [.str z]/\cx K H a (b.map V.str)/\iP z b=k0 j/\Q (.int (j:Nat)) H
def y4:hV X "tuple.index" (EZ X.K):=by
 intro n s U H x N v O Q I C rv h
 obtain⟨a,z,j,f,rfl,rfl,B,G,q⟩:=h
 cases C
 obtain⟨u,rfl,K⟩:=rv.one
 obtain⟨t,rfl⟩:=K
 obtain⟨g,r,p,L⟩:=I.tuple B
 obtain⟨M,J,F⟩:=tK G
 have l:=r.length
 have look: ∀(i:Nat) y,g.toArray[i]? =k0 y-> ∃w d,f[i]? =k0 w/\y=Value.str w d:=λi y k=>by
  obtain⟨P,e1,e2⟩:=r.ig (by simpa using k)
  rw [Ac2]at e1
  cases m:f[i]? with
  | none=>rw [m]at e1;cases e1
  | some b=>
   rw [m]at e1
   cases e1
   obtain⟨d,rfl⟩:=e2
   exact⟨b,d,rfl,rfl⟩
 refine BZ (e:=λi=>y9 (f[i]? =k0 z)) p (λi y k=> ?_) (by simp_all) (decide_eq_true J) (λi D=> ?_) λd=>⟨.int j,H,I.kept λb o e=>e,⟨d,rfl⟩,q⟩
 ·obtain⟨w,d,e,rfl⟩:=look i y k
  have:=PySem.SeqAt.EqAt.str_str (A:=X.A.in1) (s:=s) w d z t
  have e2:y9 (f[i]? =k0 z)=(w==z):=by
   rw [e]
   by_cases q:w=z
   ·subst q;simp
   ·simp [q]
  rw [e2]
  exact this
 ·have E:=by omega
  exact decide_eq_false λc=>F i D z c rfl
def DP (K:Aa6):V->List V->Hp->VK->Prop:=λx b H Q=> ∃a n,∃ns:List Int,x= .ref a/\b= [.int n]/\bz K H a (ns.map V.int)/\Q (.int ((ns.count n:Nat):Int)) H
def AE:hV X "list.count" (DP X.K):=by
 intro d s U H x E v J Q I l rv h
 obtain⟨a,n,D,rfl,rfl,j,q⟩:=h
 cases l
 obtain⟨u,rfl,A⟩:=rv.one
 obtain⟨t,rfl⟩:=A
 obtain⟨m,r,pl,C⟩:=I.list j
 obtain⟨G,rfl,e2⟩:=jO r
 obtain⟨⟨B,dd,c,sl⟩,f,z,k,w⟩:=id pl.isList
 subst z w
 refine call_meets F.slot_list_count ⟨_,f,rfl⟩ F.entry_list_count (F.args_list_count_2 _ _) (PySem.SeqAt.list_countAt a _ k dd sl _ (λy=>match y with | .int i _=>i==n | _=>k9)) ⟨f,λy g=> ?_,?_⟩
 ·simp only [List.mem_toArray,Ab8]at g
  obtain⟨p,_,rfl⟩:=g
  exact PySem.SeqAt.EqAt.int_int p.1 p.2 n t
 ·refine⟨.int _,H,I.kept λb o e=>e,⟨s.toks,?_⟩,q⟩
  rw [← e2,List.count_eq_countP,List.countP_map]
  simp only [List.countP_map]
  rfl
end
def WI {e f:Option Int}(a:IsTup s.heap t vs) (g:s.heap.IsSliceOf sl vl vu .none) (pl:IsPart vl e) (k:IsPart vu f)
 (l:HT.aX vs.size 0 e=0) (h1:HT.aX vs.size vs.size f=vs.size) (h:Q (.ref t) s):wpAny (model prog w) A (getItem (.ref t) (.ref sl)) Q E s:=by
 obtain⟨j,d,b,i⟩:=id g
 have c:s.TypeIs (.ref sl) "slice" :=⟨j,d,b⟩
 unfold getItem
 try with_reducible refine wpAny_holding ?_
 refine wpAny_bind (wpAny_sequenceKey a.typeIs rfl (wpAny_bind (wpAny_callSpecial?_slot a.typeIs PyProof.Rows.slot_tuple_getitem
  (wpAny_call_entry PyProof.Rows.slot_tuple_getitem a.typeIs PyProof.Rows.entry_tuple_getitem ?_ (PyProof.Rows.args_tuple_getitem _ _)))))
 show wpAny _ _ (Builtin.Tuple.tupleItemsOf _ >>= _) _ _ s
 refine wpAny_bind (tupleItemsOf_ a (wpAny_bind (wpAny_typeOf c ?_)))
 refine wpAny_bind (HT.bP g pl k ?_)
 show wpAny _ _ (if _=u0 then _ else _) _ _ s
 rw [if_pos (by simp_all)]
 refine wpAny_bind (wpAny_bind (wpAny_typeOf a.typeIs (wpAny_pure ?_)))
 exact wpAny_bind (wpAny_rule (wpAny_pure ⟨_,rfl,wpAny_pure h⟩))
section
variable {X:Cx}
def oi (K:Aa6):V->Option Int->Option Int->Hp->VK->Prop:=λx lo hi H Q=> ∃a xs,x= .ref a/\cx K H a xs/\HT.aX xs.length 0 lo=0/\HT.aX xs.length xs.length hi=xs.length/\Q (.ref a) H
def yj:gb X (oi X.K):=by
 intro e s U H x v t u p o sl Q I f i pl l h
 obtain⟨a,k,rfl,g,m,j,q⟩:=h
 cases f
 obtain⟨c,r,d,n⟩:=I.tuple g
 have b:c.toArray.size=k.length:=by rw [Ac0];exact r.length.symm
 refine⟨"tuple",_,PyProof.Rows.slot_tuple_getitem.lookup,d.typeIs,?_⟩
 exact WI d i pl l (by rw [b];exact m) (by rw [b];exact j) ⟨.ref a,H,I,rfl,q⟩
end
end L2
set_option maxHeartbeats 8000000
namespace L2
open PySem PySem.Spec PyProof.Rows
open Sem (wp)
abbrev K2:=List (Int ⊕ List Int)
section
variable (prog:Program) (w:World)
inductive zX (h:Heap):K2->List Value->Prop
 | nil:zX h [] []
 | int {i:Int}{t:Tok}{ks:K2}{vs:List Value}:zX h ks vs->zX h (.inl i::ks) (.int i t::vs)
 | tup {l:List Int}{a:Addr}{ks:K2}{vs:List Value}:IsTupleKey (intKind prog w) h l a->zX h ks vs->zX h (.inr l::ks) (.ref a::vs)
end
abbrev WK:=Int×List Int×List Int
def rq (l:List Int):Int:=reduceHash (Builtin.Tuple.tupleHashOf (l.map hashInt))
def FW (k:WK):Int:=reduceHash (Builtin.Tuple.tupleHashOf [hashInt k.1,rq k.2.1,rq k.2.2])
def C0 (x:WK×Addr×Value):DictEntry:=⟨FW x.1,.ref x.2.1,x.2.2⟩
noncomputable def DW (a:Addr) (xs:List (WK×Addr×Value)):HO:= .ext λh=>(a==sysModules)=k9/\xs.length<=sizeLine/\(xs.map (·.1)).Nodup/\ ∃o es b,h.get? a=k0 o/\o.ExactDict/\o.data= .dict es b/\es.toList=xs.map C0
section
variable {X:Cx}{k8:List (Addr×Obj)}{U:St}{H:Hp}{s:Shared}{a b:Addr}{k:WK}{xs:List (WK×Addr×Value)}{r:Value}{A:Around}{E:Value->Shared->Prop}
def J6 (I:Inv X k8 U H s):sysModules<s.heap.objs.size:=by
 have h:=(I.mod.glob.keeps I.bk).lt
 exact Nat.lt_trans (by decide) h
end
open PySem.AutoSeq1 (wpAny_loadPart')
open MeetsSeq MeetsSeq2 MeetsSeq3 SeqRoads2 PySem.SeqAt
open PySem PySem.Spec PyProof.Rows PyProof.Rows.KTD PyProof.V
def EE (K:Aa6) (a:Addr) (T:List (Str×PyData)):Prop:=tabLook flatLooks (λb=>K.lookup b) a T=u0
section
variable {X:Cx}{k8:List (Addr×Obj)}{U:St}{H:Hp}{s:Shared}
theorem XM {K:Type} [DecidableEq K]: ∀(more a:List (K×Value)),((a++more).map (·.1)).Nodup->merged a more=a++more
 | [],a,_=>by simp [merged]
 | p::more,a,h=>by
  have e:stored a p.1 p.2=a++ [p]:=by
   unfold stored
   rw [if_neg]
   intro z
   obtain⟨b,c,e⟩:=Ad0.mp z
   rw [Ae6,Ai9]at h
   exact h.2.2 b.1 (List.mem_map_of_mem c) p.1 (by simp) (of_decide_eq_true e)
  show merged (stored a p.1 p.2) more=_
  rw [e,XM more (a++ [p]) (by simpa using h)]
  simp
end
open PySem PySem.Spec PySem.Calls PySem.W PyProof.Rows
def p7:List Value->Bool
 | []=>k9
 | x::r=>match x with
  | .ref _=>p7 r
  | _=>x::r==p6
def sP (K:Frag) (C:Addr):Bool:=(clsIn K C).any λcd=>p7 cd.mro&&cd.hasDict
noncomputable def yu (K:Frag) (C:Addr):Bool:=match K.lookup C with
 | some ⟨.type "type",_,.cls cd,sl⟩=>(match cd.mro,sl.toList with
  | .ref c::a,[_,_,_,_,k0 (.builtin n),_]=>c==C&&(n== "ValueError.__new__" &&(!cd.hasDel&&(tailIn K p6 a&&nsOkIn K cd.ns)))
  | _,_=>k9)
 | _=>k9
structure LH (K:Frag) (C:Addr) (f:Str):Prop where
 cls:yu K C=u0
 ov:sP K C=u0
 sa:findIn K (.ref C) "__setattr__" =some (some (.builtin "object.__setattr__"))
 no:findIn K (.ref C) f=k0 y0
 kp:keepIn K (.ref C)=u0
structure LF (K:Frag) (f:Str) (fI:Addr) (fd:FuncData) (ps:List Str):Prop where
 ex: ∃x u8 st N n1 n2 p1 p2 p3 p4,iL K x u8 st fI fd/\ps= [n1,n2]/\N= [n1,n2]/\QA N ps (Jk st)/\JG st= [.Assign [.Attribute (.Name n1 p1) f p2] (.Name n2 p3) p4]/\(n1==("__debug__" :Str))=false/\(n2==("__debug__" :Str))=false ∧
  (n1==("__classdict__" :Str))=false/\(n2==("__classdict__" :Str))=false
 bd:Binds K fd ps []
 fn:typeIn K (.ref fI)=k0 (.type "function")
structure t7 (K:Frag) (C:Addr) (f:Str):Prop where
 ov:sP K C=u0
 no:findIn K (.ref C) f=k0 y0
 ga:findIn K (.ref C) "__getattribute__" =some (some (.builtin "BaseException.__getattribute__"))
 gh:findIn K (.ref C) "__getattr__" =some none
def dI (a:List Int):HO:= .dK (a.map λk=>(.inl k,.bl u0))
end L2
namespace L2
open PySem PySem.Spec PyProof.Rows PySem.Builtin.Str
def bV:Str:=⟨#[32]⟩
noncomputable def mf (z:Str) (a:List Str):Bool:= !(y9 (z.length<bV.length)||y9 (strKind z<strKind bV))&& !(occurrences z bV 0 z.length (z.length+1)).isEmpty&&y9 (z.length<=1000)&&y9 (partsBetween z (occurrences z bV 0 z.length (z.length+1)) bV.length=a)&&y9 (a.length<=1000)
section
variable {X:Cx}
theorem zY: ∀(ps) (t),Vals (ps.map V.str) (strsFrom t ps)
 | [],_=> .nil
 | p::ps,t=> .cons ⟨_,rfl⟩ (zY ps (t+1))
def EG:hV X "str.split" (fun x vs H Q=> ∃ z j,x= .str z/\vs= [.str bV]/\mf z j=true/\ ∀p,H p=none->Q (.ref p) (aR H p (.lst (j.map V.str)))):=by
 intro f s U H x vs v w Q I g rv h
 obtain⟨z,j,rfl,rfl,a,q⟩:=h
 obtain⟨t,rfl⟩:=g
 obtain⟨u,rfl,r⟩:=rv.one
 obtain⟨m,rfl⟩:=r
 unfold mf at a
 simp only [Aa0,Ah5,decide_eq_true_eq]at a
 obtain⟨⟨⟨⟨i,n⟩,k⟩,d⟩,c⟩:=a
 refine call_meets PySem.F.slot_str_split (typeIs_str _ _ _) PySem.F.entry_str_split (PySem.F.args_str_split_2 _ _) (meets_str_split_sep z bV t m i rfl n (Ag (zr k)) (by rw [d];exact(Ag (zr c)))) ?_
 rw [d]
 have l:=I.bf.fresh (Aa8 _)
 refine⟨.ref s.heap.objs.size,_,?_,rfl,q _ l⟩
 exact I.laid (λb o e=>Aa9 _ e) (Aa8 _) (show aV X.prog X.w _ _ _ (.lst _)from⟨by rw [Aa];exact(Ag (zr c)),strsFrom s.toks j,0,zY j s.toks,Ac4 s.heap rfl⟩)
end
open PySem PySem.Spec PyProof.Rows
def dS (a:List (Str×V)):HO:= .dK (a.map λp=>(.inr p.1,p.2))
noncomputable def gS (a:List (Str×V)) (k:Str) (v:V):List (Str×V):=if a.any (λp=>y9 (p.1=k))then a.map (λp=>if p.1=k then(p.1,v)else p)else a++ [(k,v)]
theorem u6 : ∀ {c:List (Str×V)}{vs},KV (c.map λp=>((.inr p.1:c7),p.2)) vs->(vs.any λj=>j.1= .inr k)=c.any λp=>y9 (p.1=k)
 | [],_,.nil=>rfl
 | p::c,(a,b)::vs,.cons r t=>by
  obtain⟨e1,e2⟩:=r
  rw [Ae8,Ae8,u6 t,←e1]
  by_cases q:p.1=k<;>simp [q]
theorem mz : ∀ {c:List (Str×V)}{vs},KV (c.map λp=>((.inr p.1:c7),p.2)) vs->cc (c.lookup k) (valueAt vs (.inr k))
 | [],_,.nil=>trivial
 | p::c,(a,b)::vs,.cons r t=>by
  obtain⟨e1,e2⟩:=r
  have d:=mz (k:=k) t
  unfold valueAt at d ⊢
  rw [List.find?_cons,Ab5,←e1]
  by_cases q:p.1=k
  ·rw [beq_iff_eq.mpr q.symm]
   simp only [q,decide_true]
   exact e2
  ·rw [beq_eq_false_iff_ne.mpr λz=>q z.symm]
   have: ¬(Sum.inr p.1:c7)= .inr k:=λz=>q (by injection z)
   simp only [this,decide_false]
   exact d
def yZ (d:RelV v u)(h:KV (kvs.map λp=>((.inr p.1:c7),p.2)) vs):KV ((gS kvs k v).map λp=>((.inr p.1:c7),p.2)) (stored vs (.inr k) u):=by
 unfold gS stored
 rw [u6 h]
 by_cases c:(kvs.any λp=>y9 (p.1=k))=u0
 ·rw [if_pos c,if_pos c]
  clear c
  induction kvs generalizing vs with
  | nil=>cases h;exact .nil
  | cons p kvs e=>
   cases h with
   | @cons _ q _ vs r t=>
    obtain⟨a,b⟩:=q
    obtain⟨e1,e2⟩:=r
    subst e1
    refine .cons ?_ (e t)
    by_cases q:p.1=k
    ·subst q
     simp only [if_true]
     exact⟨trivial,d⟩
    ·have: ¬(Sum.inr p.1:c7)= .inr k:=λz=>q (by injection z)
     simp only [q,this,if_false]
     exact⟨trivial,e2⟩
 ·rw [if_neg c,if_neg c,Ae6]
  exact Paired.snoc h ⟨rfl,d⟩
section
variable {X:Cx}{k8:List (Addr×Obj)}{U:St}{H:Hp}{s:Shared}{a:Addr}{k:Str}{kvs:List (Str×V)}{u r:Value}{A:Around}{E:Value->Shared->Prop}
def Q3 (I:Inv X k8 U H s) (e:H a=k0 (dS kvs)):kvs.length<=sizeLine/\(a==sysModules)=k9/\ ∃vs,KV (kvs.map λp=>((.inr p.1:c7),p.2)) vs/\s.heap.DictOf (xC X.prog X.w) a vs:=by
 obtain⟨z,c,vs,b,dd⟩:=(show aV X.prog X.w H s.heap a (dS kvs)from I.bf a _ e)
 rw [Aa]at z
 exact⟨z,c,vs,b,dd⟩
def FH (I:Inv X k8 U H s) (e:H a=k0 (dS kvs)) (f:RelV (.str k) u) (l:kvs.lookup k=k0 v) (h: ∀j s',Inv X k8 U H s'->RelV v j->Q j s'):wpAny (model X.prog X.w) A (getItem (.ref a) u) Q E s:=by
 obtain⟨z,i,g,b,dd⟩:=Q3 I e
 obtain⟨t,rfl⟩:=f
 obtain⟨j,d,c⟩:=cc.some_of (by rw [← l];exact mz b)
 exact wpAny_getItem_of (wj _ _ k t) dd.mapOf d (h j _ (I.tok _) c)
def pZ (r:cc o q):q.isSome=o.isSome:=by
 cases o with
 | none=>rw [cc.none_of r];rfl
 | some v=>obtain⟨u,rfl,_⟩:=cc.some_of r;rfl
def FA (I:Inv X k8 U H s) (e:H a=k0 (dS kvs)) (c:RelV (.str k) u) (h: ∀s',Inv X k8 U H s'->Q (.bool (kvs.lookup k).isSome) s'):wpAny (model X.prog X.w) A (compareOp .In u (.ref a)) Q E s:=by
 obtain⟨z,d,f,b,dd⟩:=Q3 I e
 obtain⟨t,rfl⟩:=c
 refine wpAny_in_of (wj _ _ k t) d dd.mapOf ?_
 rw [pZ (mz b)]
 exact h _ (I.tok _)
def AK (I:Inv X k8 U H s) (e:H a=k0 (dS kvs)) (c:RelV (.str k) u) (h: ∀s',Inv X k8 U H s'->Q (.bool (!(kvs.lookup k).isSome)) s'):wpAny (model X.prog X.w) A (compareOp .NotIn u (.ref a)) Q E s:=by
 obtain⟨z,d,f,b,dd⟩:=Q3 I e
 obtain⟨t,rfl⟩:=c
 refine wpAny_notIn_of (wj _ _ k t) d dd.mapOf ?_
 rw [pZ (mz b)]
 exact h _ (I.tok _)
def HH (kvs) (k) (v):(gS kvs k v).length<=kvs.length+1:=by
 unfold gS
 split
 ·rw [Aa];lia
 ·simp
def Lm (I:Inv X k8 U H s) (e:H a=k0 (dS kvs)) (n:RelV (.str k) u) (rv:RelV v r) (w:kvs.length<sizeLine) (h: ∀s',Inv X k8 U (aR H a (dS (gS kvs k v))) s'->Q () s'):wpAny (model X.prog X.w) A (setItem (.ref a) u r) Q E s:=by
 obtain⟨z,l,j,c,dd⟩:=Q3 I e
 obtain⟨t,rfl⟩:=n
 have p:j.length<=sizeLine:=by rw [← Paired.length c,Aa];exact z
 refine wpAny_setItem_pairs (wj _ _ k t) dd λi b g=>h _ ?_
 have o: ∃q,i.get? a=k0 q:=let ⟨q,_,_,f,_⟩:=b; ⟨q,f⟩
 refine I.write (by rw [e];exact True.intro) (.inl rfl) (λm q d z=>(g.2 m d).trans z) o ⟨?_,l,_,yZ rv c,b⟩
 rw [Aa]
 have:=HH kvs k v
 lia
def AV (I:Inv X k8 U H s) (e:H a=k0 (dS kvs)) (h: ∀p s',H p=y0->Inv X k8 U (aR H p (dS kvs)) s'->Q (.ref p) s'):wpAny (model X.prog X.w) A (call (.type "dict") [.ref a]) Q E s:=by
 obtain⟨z,j,i,c,dd⟩:=Q3 I e
 refine kt_call_dict j dd (by rw [← Paired.length c,Aa];exact z) λk d g=> ?_
 refine h _ _ (I.bf.fresh (Aa8 _)) (I.laid (λb q f=> ?_) (Aa8 _) ⟨by rw [Aa];exact z,beq_eq_false_iff_ne.mpr (Ne.symm (Ac7 (J6 I))),i,c,d⟩)
 exact(g.2 b (Ac7 (Ac f))).trans (Aa9 _ f)
def yT:TE:=λ_ H Q=> ∀p,H p=y0->Q (.ref p) (aR H p (dS []))
def Dj :PE X (.Dict [] [] pos) yT:=λa s U H Q I h=>
 wpAny_Dict_empty ⟨.ref s.heap.objs.size,_,I.laid (o:=dS []) (λ_ _ q=>Aa9 _ q) (Aa8 _) ⟨Ac8 _,beq_eq_false_iff_ne.mpr (Ne.symm (Ac7 (J6 I))),[],.nil,Heap.DictOf.new _⟩,rfl,h _ (I.bf.fresh (Aa8 _))⟩
end
open PySem PySem.Spec PySem.Calls PySem.W PyProof.Rows
section
variable {prog:Program}{w:World}{A:Around}{E:Value->Shared->Prop}{s:Shared}
theorem WW (f:t≠it): ∀ n i s Q,s.heap.IsListIter it t i->s.heap.IsList t y8->i+n<=y8.size →
 (∀ h',Heap.IsListIter h' it t (i+n)->An0 it s.heap h'->Q ((y8.toList.drop i).take n) { s with heap:=h' })->wpAny (model prog w) A (draw (.ref it) n) Q E s
 | 0,i,s,Q,d,_,_,j=>by
  exact wpAny_pure (by simpa using j s.heap d (An0.refl ..))
 | n+1,i,s,Q,d,k,m,j=>by
  have h:i<y8.size:=by omega
  refine wpAny_bind (wpAny_pyNext_list_item d k (x:=y8[i]) (by simp [h]) λl c a=> ?_)
  refine wpAny_bind (wpAny_holding (WW f n (i+1) _ _ c (k.extBut a.extBut f) (by omega) λg b e=>wpAny_pure ?_))
  have o:y8.toList.drop i=y8[i]::y8.toList.drop (i+1):=by simp [Aj4,h]
  have:=j g (by rw [show i+(n+1)=i+1+n by omega];exact b) (a.trans e)
  rw [o,List.take_succ_cons]at this
  exact this
def qE (n:A.handled=y0) (h:s.heap.IsList t y8)
 (p: ∀h',Heap.ExtBut s.heap.objs.size s.heap h'->Q y8.toList { s with heap:=h' }):wpAny (model prog w) A (unpackItems (.ref t) y8.size y0) Q E s:=by
 have i:t≠s.heap.objs.size:=by obtain⟨o,m,_⟩:=h;exact Ac7 (Ac m)
 refine wpAny_bind ?_
 ·unfold notIterableAtAll
  refine wpAny_bind (wpAny_specialOf h.typeIs slot_list_iter.lookup ?_)
  refine wpAny_pure ?_
  refine wpAny_bind (wpAny_holding (wpAny_pyIter_list h ?_))
  refine wpAny_bind (wpAny_holding (WW i y8.size 0 _ _ ⟨_,Ac4 _ rfl,rfl,rfl⟩ (h.push _) (by lia) λl c a=> ?_))
  have j:List.take y8.size (List.drop 0 y8.toList)=y8.toList:=by
   rw [List.drop_zero];exact Ag5 (by simp)
  rw [j]
  rw [if_neg (by simp)]
  have f:=(h.push _).extBut a.extBut i
  refine wpAny_bind (wpAny_holding (wpAny_pyNext_list_end n c f (by simp) λg d=> ?_))
  refine wpAny_pure (p g λb o k e=>d b o k (a.extBut b o k (Aa9 _ e)))
def qA {x1}(c:A.handled=y0) (d:s.heap.IsList t y8)
 (b:(assignEach elts env).length=y8.size) (a:(assignEach elts env).findIdx? (·.1)=y0)
 (h: ∀h',Heap.ExtBut s.heap.objs.size s.heap h'->wpAny (model prog w) A (assignInOrder ((assignEach elts env).map (·.2)) y8.toList) Q E { s with heap:=h' }):
 wpAny (model prog w) A (assign (.Tuple elts x1 pos) env (.ref t)) Q E s:=by
 rw [assign_Tuple]
 refine wpAny_bind (wpAny_standAt ?_)
 unfold unpack
 rw [b,a]
 exact wpAny_bind (wpAny_holding (qE c d h))
end
def AB (K:Aa6) (n:Nat) (t:i6):TG:=λv U H Q=> ∃a xs,v= .ref a/\bz K H a xs/\xs.length=n/\t xs U H Q
def Eu (x:X.calm=u0) (h:kj X es t)
 (w:(assignEach es X.env).length=n:=by rfl) (f:(assignEach es X.env).findIdx? (·.1)=none:=by rfl):PG X (.Tuple es k pos) (AB X.K n t):=by
 intro c s U H v u Q I r d
 obtain⟨a,q,e1,g,p,d⟩:=d
 subst e1
 cases r
 obtain⟨j,rv,l,z⟩:=I.list g
 refine qA (I.ok.hd x) l.isList (by simp [w,←p,rv.length]) f λm i=> ?_
 have y:Inv X c U H { s with heap:=m }:=I.kept λb o e=>i b o (Ac7 (Ac e)) e
 exact h c _ U H q _ Q y (by simp_all) d
def oU:List TE->St->Hp->(List V->Hp->Prop)->Prop
 | [],_,H,Q=>Q [] H
 | t::a,U,H,Q=>t U H λv H1=>oU a U H1 λb H2=>Q (v::b) H2
section
variable {X:Cx}
def kL (X:Cx):List Str->List TE->List (Option Expr)->List Expr->Prop
 | [],d,ks,f=>d= []/\ks= []/\f= []
 | x::r,d,ks,f=> ∃j p e t b c a,d=t::a/\ks=k0 (.Constant (.str x) j p)::b/\f=e::c/\PE X e t/\kL X r a b c
theorem vy: ∀ {T}{J}{ks}{vs},kL X T J ks vs->ks.all (·.isSome)=u0/\ks.length=T.length/\vs.length=T.length
 | [],_,_,_,⟨rfl,rfl,rfl⟩=>⟨rfl,rfl,rfl⟩
 | x::r,_,_,_,⟨j,p,e,t,g,a,d,rfl,rfl,rfl,_,ok⟩=>by
  obtain⟨b,f,c⟩:=vy ok
  exact⟨by simpa using b,by simp [f],by simp [c]⟩
theorem XL : ∀ {T}{O}{ks}{vs}{s}{H}{Q}{J},kL X T O ks vs->Inv X k8 U H s->oU O U H Q →
 (∀ ws H1 kvs L M,Inv X k8 U H1 M->Carries (xC X.prog X.w) L kvs->KV ((T.zip ws).map λp=>((.inr p.1:c7),p.2)) kvs->kvs.map (·.1)=T.map .inr->Q ws H1->J L M) →
 wpAny (model X.prog X.w) X.A (evalPairs (pairTrees ks vs X.env pos)) J X.xe s
 | [],_,_,_,s,H,Q,J,⟨rfl,rfl,rfl⟩,I,h,q=>pairTrees_nil_walk (q [] H [] [] s I trivial .nil rfl h)
 | x::r,_,_,_,s,H,Q,J,⟨j,p,e,t,w,b,n,rfl,rfl,rfl,i,ok⟩,I,h,q=>
  pairTrees_cons_walk (Calls.Constant_str (aP (i k8 _ U H _ (I.tok _) h) λu M ⟨v,H1,o,k,d⟩=>
   XL ok o d λws l kvs L a y c f m g=>q (v::ws) l ((.inr x,u)::kvs) _ a y ⟨wj _ _ x _,rfl,c⟩ (.cons ⟨rfl,k⟩ f) (by simp [m]) g))
def DX (ok:kL X T ts ks vs) (A:T≠ []) (j:T.length<=15) (y:T.Nodup):
 PE X (.Dict ks vs pos) (λU H Q=> ∀p,H p=y0->oU ts U (aR H p (dS [])) λws H1=>H1 p=k0 (dS [])/\Q (.ref p) (aR H1 p (dS (T.zip ws)))):=by
 intro l s U H Q I h
 obtain⟨B,a2,a3⟩:=vy ok
 have w:=J6 I
 have k:=beq_eq_false_iff_ne.mpr (Ne.symm (Ac7 w))
 have C:=I.laid (o:=dS []) (t':=s.toks) (λ_ _ q=>Heap.get?_push_of_some { cls:= .type "dict",data:= .dict #[] } q) (Nat.le_refl _) ⟨Nat.zero_le _,k,[],.nil,Heap.DictOf.new _⟩
 refine wpAny_Dict_walk (knd:=xC X.prog X.w) B (a2.trans a3.symm) (λz=>A (List.length_eq_zero_iff.mp (by simp_all))) (by lia) ?_
 refine XL ok C (h _ (I.bf.fresh (Aa8 _))) λws H1 d E F n c f m q=>⟨d,c,?_,λv dd t=> ?_⟩
 ·obtain⟨_,_,u,i,dd⟩:=Q3 n q.1
  cases i
  exact dd
 ·rw [XM d [] (by rw [Ae5,m];exact Ao2.map _ (λa b z e=>z (by injection e)) y),Ae5]at dd
  have D: ∃q,v.get? s.heap.objs.size=k0 q:=let ⟨q,_,_,r,_⟩:=dd; ⟨q,r⟩
  refine⟨.ref s.heap.objs.size,_,n.write (o:=dS _) (by rw [q.1];exact True.intro) (.inl rfl) (λx q g z=>(t.2 x g).trans z) D ⟨?_,k,_,f,dd⟩,rfl,q.2⟩
  rw [Aa,Al3]
  have:=j
  exact Ab9 (Nat.min_le_left _ _) (Ab9 j (by decide))
end
end L2
set_option genSizeOfSpec false
namespace M
abbrev Tx:=List Nat
def sO: ∃n:Nat,n=1000000:=⟨_,rfl⟩
noncomputable def ba:Nat:=Aj1 sO
def Gg:ba=1000000:=Ag7 sO
def vn: ∃n:Int,n=1073741824:=⟨_,rfl⟩
noncomputable def kc:Int:=Aj1 vn
def GS:kc=1073741824:=Ag7 vn
def pH: ∃n:Int,n=2 ^ 62:=⟨_,rfl⟩
noncomputable def eS:Int:=Aj1 pH
def GO:eS=2 ^ 62:=Ag7 pH
def sm: ∃n:Int,n=2 ^ 64:=⟨_,rfl⟩
noncomputable def dZ:Int:=Aj1 sm
def GU:dZ=2 ^ 64:=Ag7 sm
def vH: ∃n:Int,n=1000000:=⟨_,rfl⟩
noncomputable def BP:Int:=Aj1 vH
def G6:BP=1000000:=Ag7 vH
def uL: ∃n:Nat,n=2 ^ 64:=⟨_,rfl⟩
noncomputable def kb:Nat:=Aj1 uL
def GE:kb=2 ^ 64:=Ag7 uL
inductive D where
 | ak
 | bl (b:Bool)
 | int (i:Int)
 | str (s:Tx)
 | tup (xs:List D)
 | lst (xs:List D)
 | ref (r:Nat)
 | exc (c:String) (fs:List (Tx×D))
 | err (c f:String) (d:D)
inductive W where
 | v (d:D)
 | own (xs:List D)
 | bor (xs:List D)
abbrev WK:=Int×List Int×List Int
inductive Cell where
 | lst (xs:List D)
 | ip (ks:List WK)
 | iK (ks:List Int)
 | aG (kvs:List (Tx×D))
 | obj (c:String) (fs:List (String×D))
abbrev AH:=List Cell
abbrev Sl:=List (Option W)
inductive R (α:Type) where
 | ok (a:α) (h:AH)
 | exc (d:D) (h:AH)
 | fail
def R.bind {c b:Type}:R c->(c->AH->R b)->R b
 | .ok a h,f=>f a h
 | .exc d h,_=> .exc d h
 | .fail,_=> .fail
inductive O where
 | next (τ:Sl) (h:AH)
 | ret (w:W) (h:AH)
 | brk (τ:Sl) (h:AH)
 | cont (τ:Sl) (h:AH)
 | exc (d:D) (h:AH)
 | fail
def O.seq:O->(Sl->AH->O)->O
 | .next τ h,f=>f τ h
 | o,_=>o
def R.cF {b:Type}:R b->(b->AH->O)->O
 | .ok a h,f=>f a h
 | .exc d h,_=> .exc d h
 | .fail,_=> .fail
section
variable {α β:Type}
@[simp] theorem R.ab (a) (h) (f:α->AH->R β):(R.ok a h).bind f=f a h:=rfl
@[simp] theorem R.ay (a) (h) (f:α->AH->O):(R.ok a h).cF f=f a h:=rfl
@[simp] theorem O.cA (τ) (h) (f):(O.next τ h).seq f=f τ h:=rfl
@[simp] theorem O.cY (w) (h) (f):(O.ret w h).seq f= .ret w h:=rfl
@[simp] theorem O.gJ (d) (h) (f):(O.exc d h).seq f= .exc d h:=rfl
end
inductive Op where
 | add | sub | mul | fdiv | mod | pow | shl | shr | band | bor | bxor
 deriving DecidableEq
inductive Cp where
 | eq | ne | lt | le | gt | ge | mem | eV | cH
 deriving DecidableEq
inductive Ty where
 | ak | bool | int | str | list | tuple
 deriving DecidableEq
inductive Mt where
 | index | count | bG
 deriving DecidableEq
inductive Bi where
 | len | int | list | tuple | sum | all | any | sorted | divmod | str | min | max | abs
 deriving DecidableEq
set_option genInjectivity false
mutual
inductive E where
 | var (i:Nat)
 | con (x:String)
 | int (i:Int)
 | bl (b:Bool)
 | ak
 | str (s:Tx)
 | tup (es:Es)
 | lst (es:Es)
 | bin (o:Op) (a b:E)
 | cmp (o:Cp) (a b:E)
 | chain (o p:Cp) (a b c:E)
 | fv (neg:Bool) (a:E)
 | neg (a:E)
 | inv (a:E)
 | not (a:E)
 | and (a b:E)
 | or (a b:E)
 | call (f:String) (es:Es)
 | bi (b:Bi) (es:Es)
 | cq (a:E) (t:Ty)
 | ix (a b:E)
 | sl (a lo hi:E)
 | dH (a lo:E)
 | di (a hi:E)
 | comp (tg:List Nat) (one:Bool) (k:Nat) (aC:List Nat) (it:It) (u7:Bool) (c elt:E)
 | cZ
 | ea (i:Nat) (a:E)
 | cg (neg:Bool) (a:E) (i:Nat)
 | eg (i:Nat)
 | fA (k1:Tx) (a:E) (k2:Tx) (b:E) (k3:Tx) (c:E) (i:Nat)
 | share (a:E)
 | fD (s:Tx) (ts:List Tx)
 | dj (m:Mt) (a:E) (es:Es)
 | fld (i:Nat) (c f:String)
 | bw (i:Nat) (c m q:String) (es:Es)
 | make (c q:String) (es:Es)
inductive Es where
 | nil
 | cons (e:E) (es:Es)
inductive It where
 | seq (e:E)
 | ao (a:E)
 | bY (a b:E)
 | rev (e:E)
end
set_option genInjectivity true
mutual
inductive S where
 | set (i:Nat) (e:E)
 | ag (i:Nat) (e:E)
 | fB (is:List Nat) (e:E)
 | eI (i:Nat) (k e:E)
 | bS (o k e:E)
 | app (i:Nat) (e:E)
 | ext (i:Nat) (e:E)
 | b9 (i:Nat) (k e:E)
 | d4 (i:Nat) (k e:E)
 | b4 (i:Nat) (c f:String) (e:E)
 | fM (is:List Nat) (e:E)
 | freeze (i:Nat)
 | ex (e:E)
 | ret (e:E)
 | iff (c:E) (a b:Ss)
 | iX (n:Nat) (c:E) (b:Ss)
 | for (tg:List Nat) (one:Bool) (it:It) (b:Ss)
 | fH (o k:E) (j:Nat) (e:E)
 | bR (i:Nat) (c f:String) (e:E)
 | eW
inductive Ss where
 | nil
 | cons (s:S) (ss:Ss)
end
noncomputable section
mutual
@[simp,reducible] noncomputable def Gc:D->Bool
 | .ref _=>k9
 | .tup xs=>Gf xs
 | .lst xs=>Gf xs
 | .exc _ _=>k9
 | .err _ _ _=>k9
 | _=>u0
@[simp,reducible] noncomputable def Gf:List D->Bool
 | []=>u0
 | x::xs=>Gc x&&Gf xs
end
mutual
@[simp,reducible] noncomputable def dep:D->Nat
 | .tup xs=>GD xs+1
 | .lst xs=>GD xs+1
 | _=>0
@[simp,reducible] noncomputable def GD:List D->Nat
 | []=>0
 | x::xs=>max (dep x) (GD xs)
end
@[reducible] def Kg (a b:D):Bool:=Gc a&&Gc b&&y9 (dep a<150)
mutual
@[simp] noncomputable def res (h:AH):D->D
 | .ref r=>match h[r]? with
  | some (.lst xs)=> .lst xs
  | _=> .ref r
 | .tup xs=> .tup (GW h xs)
 | .lst xs=> .lst (GW h xs)
 | d=>d
@[simp] noncomputable def GW (h:AH):List D->List D
 | []=> []
 | x::xs=>res h x::GW h xs
end
mutual
@[simp] noncomputable def bL:D->D->Bool
 | .ak,.ak=>u0
 | .bl a,.bl b=>a==b
 | .int i,.int j=>i==j
 | .bl a,.int j=>(a.toNat:Int)==j
 | .int i,.bl b=>i==(b.toNat:Int)
 | .str s,.str t=>s==t
 | .tup xs,.tup ys=>GK xs ys
 | .lst xs,.lst ys=>GK xs ys
 | _,_=>k9
@[simp] noncomputable def GK:List D->List D->Bool
 | [],[]=>u0
 | x::xs,y::ys=>bL x y&&GK xs ys
 | _,_=>k9
end
def g7 (s:Tx):List D:=s.map λc=> .str [c]
def W.d:W->Option D
 | .v d=>k0 d
 | .own xs=>k0 (.lst xs)
 | .bor _=>y0
def W.arg:W->W
 | .own xs=> .bor xs
 | w=>w
@[simp] theorem W.bO (d):(W.v d).arg= .v d:=rfl
@[simp] theorem W.eJ (xs):(W.own xs).arg= .bor xs:=rfl
@[simp] theorem W.gs (xs):(W.bor xs).arg= .bor xs:=rfl
def W.dd (h:AH):W->D
 | .v d=>res h d
 | .own xs=> .lst (GW h xs)
 | .bor xs=> .lst (GW h xs)
noncomputable def W.cE (h:AH):W->Option (List D)
 | .v (.lst xs)=>k0 xs
 | .own xs=>k0 xs
 | .bor xs=>k0 xs
 | .v (.ref r)=>match h[r]? with
  | some (.lst xs)=>k0 xs
  | _=>y0
 | _=>y0
noncomputable def W.seq? (h:AH):W->Option (List D)
 | .v (.tup xs)=>k0 xs
 | .v (.lst xs)=>k0 xs
 | .own xs=>k0 xs
 | .bor xs=>k0 xs
 | .v (.ref r)=>match h[r]? with
  | some (.lst xs)=>k0 xs
  | _=>y0
 | _=>y0
def R.of {b:Type}(h:AH):Option b->R b
 | some a=> .ok a h
 | none=> .fail
@[simp] abbrev aD (d:D) (h:AH):R W:= .ok (.v d) h
def GX (h:AH):W->Option Bool
 | .v .ak=>k0 k9
 | .v (.bl b)=>k0 b
 | .v (.int i)=>k0 (i != 0)
 | .v (.str s)=>if s.length<=ba then k0 (!s.isEmpty)else y0
 | .v (.tup xs)=>k0 (!xs.isEmpty)
 | .v (.lst xs)=>k0 (!xs.isEmpty)
 | .own xs=>k0 (!xs.isEmpty)
 | .bor xs=>k0 (!xs.isEmpty)
 | _=>y0
@[simp] theorem R.aj (h) (a:α):R.of h (k0 a)= .ok a h:=rfl
@[simp] theorem W.iQ (d):(W.v d).d=k0 d:=rfl
@[simp] theorem W.gZ (xs):(W.own xs).d=k0 (.lst xs):=rfl
@[simp] theorem W.cR (h) (d):(W.v d).dd h=res h d:=rfl
@[simp] theorem W.hY (h) (xs):(W.own xs).dd h= .lst (GW h xs):=rfl
@[simp] theorem W.iG (h) (xs):(W.bor xs).dd h= .lst (GW h xs):=rfl
@[simp] theorem GP (h) (b):GX h (.v (.bl b))=k0 b:=rfl
@[simp] theorem tW (h) (i):GX h (.v (.int i))=k0 (i != 0):=rfl
noncomputable def Kd (i j:Int):Option Int:=
 if 0<=i then(if 0<=j then k0 ((i.toNat &&& j.toNat:Nat):Int)else k0 ((i.toNat-(i.toNat &&& (-j-1).toNat):Nat):Int))else y0
def kg (i j:Int):Option Int:=if 0<=i/\0<=j then k0 ((i.toNat ||| j.toNat:Nat):Int)else y0
def Kt (i j:Int):Option Int:=if 0<=i/\0<=j then k0 ((i.toNat ^^^ j.toNat:Nat):Int)else y0
def Gj (o:Op) (i j:Int):Option Int:=match o with
 | .add=>k0 (i+j)
 | .sub=>k0 (i-j)
 | .mul=>if(-(dZ)<i/\i<dZ)\/(-(dZ)<j/\j<dZ)then k0 (i*j)else y0
 | .fdiv=>if 0<j/\j<kc then k0 (i / j)else y0
 | .mod=>if 0<j then k0 (i % j)else y0
 | .pow=>if 0<=j/\j<=BP/\i.natAbs<kb then k0 (i ^ j.toNat)else y0
 | .shl=>if 0<=j/\j<=BP/\i.natAbs<kb then k0 (i*2 ^ j.toNat)else y0
 | .shr=>if 0<=j then k0 (i / 2 ^ j.toNat)else y0
 | .band=>Kd i j
 | .bor=>kg i j
 | .bxor=>Kt i j
def W.int? :W->Option Int
 | .v (.int i)=>k0 i
 | _=>y0
def W.bJ :W->Option Tx
 | .v (.str s)=>k0 s
 | _=>y0
def W.eX :W->Option (List D)
 | .v (.tup s)=>k0 s
 | _=>y0
def Kz (xs a:List D) (h:AH):R W:=if xs.length+a.length<=ba then .ok (.own (xs++a)) h else .fail
def Kq (xs:List D) (j:Int) (h:AH):R W:=if -1000<=j/\j<=1000/\xs.length*j.toNat<=ba then .ok (.own (Aa2 j.toNat xs).flatten) h else .fail
def Ky (a b:W) (h:AH):R W:=match a.bJ,b.bJ with
 | some s,k0 t=>if s.length+t.length<=ba then aD (.str (s++t)) h else .fail
 | _,_=>match a.eX,b.eX with
  | some xs,k0 ys=>if xs.length+ys.length<=ba then aD (.tup (xs++ys)) h else .fail
  | _,_=>match a.cE h,b.cE h with
   | some xs,k0 ys=>Kz xs ys h
   | _,_=> .fail
noncomputable def W.gQ (h:AH):W->Option (List D)
 | .own xs=>k0 xs
 | .bor xs=>k0 xs
 | .v (.ref r)=>match h[r]? with
  | some (.lst xs)=>k0 xs
  | _=>y0
 | _=>y0
def Kx (a b:W) (h:AH):R W:=match a.bJ,b.int? with
 | some s,k0 j=>if 0<=j/\j<=1000/\s.length*j.toNat<=ba then aD (.str (Aa2 j.toNat s).flatten) h else .fail
 | _,_=>match a.gQ h,b.int? with
  | some xs,k0 j=>Kq xs j h
  | _,_=> .fail
def GM (o:Op) (a b:W) (h:AH):R W:=match a.int?,b.int? with
 | some i,k0 j=>(R.of h (Gj o i j)).bind λk h=>aD (.int k) h
 | _,_=>match o with
  | .add=>Ky a b h
  | .mul=>Kx a b h
  | _=> .fail
def inD (x:D) (xs:List D):Bool:=xs.any λy=>bL y x
@[simp,reducible] def GI:D->Bool
 | .ak=>u0
 | .bl _=>u0
 | .int _=>u0
 | .str _=>u0
 | _=>k9
def Kr (a b:W) (h:AH):Option Bool:=match b.dd h with
 | .lst ys=>if Gc (a.dd h)&&Gf ys&&y9 (GD ys<140)then k0 (inD (a.dd h) ys)else y0
 | _=>y0
def Kb (a b:W) (h:AH):Option Bool:=match a.bJ,b.bJ with
 | some s,k0 t=>match s with
  | [c]=>k0 (t.contains c)
  | _=>y0
 | _,_=>match a.d,b.seq? h with
  | some d,k0 xs=>if GI d&&xs.all GI then k0 (inD d xs)else Kr a b h
  | _,_=>y0
noncomputable def Ks (o:Cp) (i j:Int):Option Bool:=match o with
 | .lt=>k0 (y9 (i<j))
 | .le=>k0 (y9 (i<=j))
 | .gt=>k0 (y9 (j<i))
 | .ge=>k0 (y9 (j<=i))
 | _=>y0
def Kv (o:Cp) (i j:Tx):Option Bool:=match o with
 | .lt=>k0 (y9 (i<j))
 | .ge=>k0 (!y9 (i<j))
 | _=>y0
def Ku:W->W->Option Bool
 | .v .ak,.v (.bl _)=>k0 k9
 | .v (.bl b),.v (.bl c)=>k0 (b==c)
 | _,_=>y0
def Gs (o:Cp) (a b:W) (h:AH):Option Bool:=match o with
 | .eq=>if Kg (a.dd h) (b.dd h)then k0 (bL (a.dd h) (b.dd h))else y0
 | .ne=>if Kg (a.dd h) (b.dd h)then k0 (!bL (a.dd h) (b.dd h))else y0
 | .mem=>Kb a b h
 | .eV=>(Kb a b h).map (!·)
 | .cH=>Ku a b
 | o=>match a.int?,b.int? with
  | some i,k0 j=>Ks o i j
  | _,_=>match a.bJ,b.bJ with
   | some s,k0 t=>Kv o s t
   | _,_=>y0
noncomputable def dC (n:Nat) (i:Int):Option Nat:=if 0<=i then(if i<n then k0 i.toNat else y0)else if -(n:Int)<=i then k0 (i+n).toNat else y0
def aW {a:Type}(xs:List a) (i:Int):Option a:=(dC xs.length i).bind λj=>xs[j]?
def dz (a b:W) (h:AH):Option D:=match b.int? with
 | some i=>match a.bJ with
  | some s=>if s.length<=ba then(aW s i).map λc=> .str [c]else y0
  | none=>(a.seq? h).bind λxs=>aW xs i
 | none=>y0
def aX (n d:Nat):Option Int->Nat
 | none=>d
 | some v=>if v<0 then(v+n).toNat else min v.toNat n
noncomputable def cut {b:Type}(xs:List b) (a c:Option Int):List b:=(xs.drop (aX xs.length 0 a)).take (aX xs.length xs.length c-aX xs.length 0 a)
def eb (a:W) (b c:Option Int) (h:AH):R W:=match a.bJ with
 | some s=>if s.length<=ba then aD (.str (cut s b c)) h else .fail
 | none=>match a.eX with
  | some xs=>aD (.tup (cut xs b c)) h
  | none=>match a.cE h with
   | some xs=> .ok (.own (cut xs b c)) h
   | none=> .fail
def Ka:List D->Option Int
 | []=>k0 0
 | .int i::r=>(Ka r).map (i+ ·)
 | _::_=>y0
def GQ:List D->Option (List Int)
 | []=>k0 []
 | .int i::r=>(GQ r).map (i:: ·)
 | _::_=>y0
def GR:List D->Option (List Tx)
 | []=>k0 []
 | .str s::r=>(GR r).map (s:: ·)
 | _::_=>y0
def Fy:List Int->Option Int
 | []=>y0
 | i::r=>k0 (r.foldl (λa b=>if b>a then b else a) i)
def IG:List Int->Option Int
 | []=>y0
 | i::r=>k0 (r.foldl (λa b=>if b<a then b else a) i)
def GY (x:Tx):List Tx->List Tx
 | []=> [x]
 | y::ys=>if y<x then y::GY x ys else x::y::ys
def GB:List Tx->List Tx
 | []=> []
 | x::xs=>GY x (GB xs)
def Kc (x:Tx):List Tx->Option Nat
 | []=>y0
 | y::ys=>if y=x then k0 0 else(Kc x ys).map (· +1)
def Kh:List D->Option (List Bool)
 | []=>k0 []
 | .bl b::r=>(Kh r).map (b:: ·)
 | _::_=>y0
def oj (b:Bi) (w:W) (h:AH):R W:=match b with
 | .len=>match w.bJ with
  | some s=>if s.length<=ba then aD (.int s.length) h else .fail
  | none=>(R.of h (w.seq? h)).bind λxs h=>aD (.int xs.length) h
 | .int=>match w with
  | .v (.int i)=>aD (.int i) h
  | .v (.bl b)=>aD (.int (b.toNat:Int)) h
  | _=> .fail
 | .list=>(R.of h (w.seq? h)).bind λxs h=> .ok (.own xs) h
 | .tuple=>(R.of h (w.seq? h)).bind λxs h=>aD (.tup xs) h
 | .sum=>(R.of h ((w.cE h).bind λxs=>if xs.length<=ba then Ka xs else y0)).bind λi h=>aD (.int i) h
 | .all=>(R.of h ((w.cE h).bind Kh)).bind λbs h=>aD (.bl (bs.all id)) h
 | .any=>(R.of h ((w.cE h).bind Kh)).bind λbs h=>aD (.bl (bs.any id)) h
 | .max=>(R.of h (((w.cE h).bind GQ).bind Fy)).bind λi h=>aD (.int i) h
 | .min=>(R.of h (((w.cE h).bind GQ).bind IG)).bind λi h=>aD (.int i) h
 | .sorted=>(R.of h ((w.cE h).bind GR)).bind λa h=>if a.length<64 then .ok (.own ((GB a).map .str)) h else .fail
 | _=> .fail
noncomputable def k5 (m:Mt) (x:W) (h:AH):Bool:=match m with
 | .index=>x.eX.isSome
 | .count=>(x.cE h).isSome
 | .bG=>(x.cE h).isSome
@[simp] theorem tO (xs) (h):k5 .index (.v (.tup xs)) h=true:=rfl
def Ke (d:D):List D->Option Nat
 | []=>y0
 | y::ys=>if bL y d=u0 then k0 0 else(Ke d ys).map (· +1)
def Ki (a b:W) (h:AH):Option Nat:=match b.dd h with
 | .lst ys=>if(Gc (a.dd h)&&Gf ys&&y9 (GD ys<140))&&y9 (ys.length<=ba)then Ke (a.dd h) ys else y0
 | _=>y0
def kP (m:Mt) (x:W) (ws:List W) (h:AH):R W:=match m,ws with
 | .index,[w]=>(R.of h (x.eX.bind GR)).bind λa h=>(R.of h w.bJ).bind λt h=>(R.of h (Kc t a)).bind λn h=>if a.length<=ba then aD (.int (n:Int)) h else .fail
 | .count,[w]=>(R.of h ((x.cE h).bind GQ)).bind λis h=>(R.of h w.int?).bind λi h=>if is.length<=ba then aD (.int ((is.count i:Nat):Int)) h else .fail
 | .bG,[w]=>(R.of h (Ki w x h)).bind λn h=>aD (.int (n:Int)) h
 | _,_=> .fail
def vT (b:Bi) (i j:Int) (h:AH):R W:=match b with
 | .divmod=>if 0<j/\j<kc then aD (.tup [.int (i / j),.int (i % j)]) h else .fail
 | .min=>aD (.int (if j<i then j else i)) h
 | .max=>aD (.int (if j>i then j else i)) h
 | _=> .fail
def dA (b:Bi) (ws:List W) (h:AH):R W:=match ws with
 | [w]=>oj b w h
 | [v,w]=>(R.of h v.int?).bind λi h=>(R.of h w.int?).bind λj h=>vT b i j h
 | _=> .fail
@[simp] theorem GH (o) (i j) (h):GM o (.v (.int i)) (.v (.int j)) h=(R.of h (Gj o i j)).bind λk h=>aD (.int k) h:=rfl
@[simp] theorem zc (i j):Gj .add i j=k0 (i+j):=rfl
@[simp] theorem zf (i j):Gj .sub i j=k0 (i-j):=rfl
@[simp] theorem AL (s u) (h):GM .add (.v (.str s)) (.v (.str u)) h=if s.length+u.length<=ba then aD (.str (s++u)) h else .fail:=rfl
@[simp] theorem QE (s u) (h):GM .add (.v (.tup s)) (.v (.tup u)) h=if s.length+u.length<=ba then aD (.tup (s++u)) h else .fail:=rfl
@[simp] theorem ri (s u) (h):GM .add (.v (.lst s)) (.own u) h=if s.length+u.length<=ba then .ok (.own (s++u)) h else .fail:=rfl
@[simp] theorem vI (s u) (h):GM .add (.own s) (.own u) h=if s.length+u.length<=ba then .ok (.own (s++u)) h else .fail:=rfl
@[simp] theorem Xv (i j) (h):Gs .lt (.v (.int i)) (.v (.int j)) h=k0 (y9 (i<j)):=rfl
@[simp] theorem qu (i j) (h):Gs .le (.v (.int i)) (.v (.int j)) h=k0 (y9 (i<=j)):=rfl
@[simp] theorem yK (i j) (h):Gs .gt (.v (.int i)) (.v (.int j)) h=k0 (y9 (j<i)):=rfl
@[simp] theorem D3 (i j) (h):Gs .ge (.v (.int i)) (.v (.int j)) h=k0 (y9 (j<=i)):=rfl
@[simp] theorem nu (a b) (h):Gs .eq a b h=if Kg (a.dd h) (b.dd h)then k0 (bL (a.dd h) (b.dd h))else none:=rfl
@[simp] theorem oP (a b) (h):Gs .ne a b h=if Kg (a.dd h) (b.dd h)then k0 (!bL (a.dd h) (b.dd h))else none:=rfl
@[simp] theorem int?_int (i):(W.v (.int i)).int? =k0 i:=rfl
@[simp] theorem len_str (s) (h):dA .len [.v (.str s)] h=if s.length<=ba then aD (.int s.length) h else .fail:=rfl
@[simp] theorem Wh (s) (h):dA .len [.v (.tup s)] h=aD (.int s.length) h:=rfl
@[simp] theorem wv (s) (h):dA .len [.v (.lst s)] h=aD (.int s.length) h:=rfl
@[simp] theorem int_int (i) (h):dA .int [.v (.int i)] h=aD (.int i) h:=rfl
@[simp] theorem Dq (b) (h):dA .int [.v (.bl b)] h=aD (.int (b.toNat:Int)) h:=rfl
@[simp] theorem BX (s) (h):dA .list [.v (.tup s)] h= .ok (.own s) h:=rfl
@[simp] theorem qU (s) (h):dA .tuple [.own s] h=aD (.tup s) h:=rfl
@[simp] theorem jU (s) (h):dA .tuple [.bor s] h=aD (.tup s) h:=rfl
@[simp] theorem LB (s) (h):dA .all [.own s] h=(R.of h (Kh s)).bind λbs h=>aD (.bl (bs.all id)) h:=rfl
@[simp] theorem LI (s) (h):dA .any [.own s] h=(R.of h (Kh s)).bind λbs h=>aD (.bl (bs.any id)) h:=rfl
@[simp] theorem rk (s) (h):dA .sum [.own s] h=(R.of h (if s.length<=ba then Ka s else y0)).bind λi h=>aD (.int i) h:=rfl
@[simp] theorem Z9 (i j) (h):dA .divmod [.v (.int i),.v (.int j)] h=if 0<j/\j<kc then aD (.tup [.int (i / j),.int (i % j)]) h else .fail:=rfl
@[simp] theorem ng (s) (i) (h):dz (.v (.str s)) (.v (.int i)) h=if s.length<=ba then(aW s i).map λc=> .str [c]else none:=rfl
@[simp] theorem ae (s) (i) (h):dz (.v (.tup s)) (.v (.int i)) h=aW s i:=rfl
@[simp] theorem xr (s) (i) (h):dz (.v (.lst s)) (.v (.int i)) h=aW s i:=rfl
@[simp] theorem WM (s) (i) (h):dz (.own s) (.v (.int i)) h=aW s i:=rfl
@[simp] theorem nH (s) (i) (h):dz (.bor s) (.v (.int i)) h=aW s i:=rfl
@[simp] theorem oK (s) (lo hi) (h):eb (.v (.lst s)) lo hi h= .ok (.own (cut s lo hi)) h:=rfl
@[simp] theorem vv (s) (lo hi) (h):eb (.bor s) lo hi h= .ok (.own (cut s lo hi)) h:=rfl
abbrev dN:=List (String×String)
noncomputable def Kw (a:dN):Nat->String->List String
 | 0,_=> []
 | n+1,c=>c::match a.lookup c with
  | some b=>Kw a n b
  | none=> []
noncomputable def ye:W->Option Ty
 | .v .ak=>k0 .ak
 | .v (.bl _)=>k0 .bool
 | .v (.int _)=>k0 .int
 | .v (.str _)=>k0 .str
 | .v (.tup _)=>k0 .tuple
 | .v (.lst _)=>k0 .list
 | .own _=>k0 .list
 | .bor _=>k0 .list
 | .v (.ref _)=>y0
 | .v (.exc _ _)=>y0
 | .v (.err _ _ _)=>y0
def Ty.le:Ty->Ty->Bool
 | .bool,.int=>u0
 | a,b=>y9 (a=b)
def cq (t:Ty) (w:W):Option Bool:=(ye w).map λu=>u.le t
@[simp] theorem Ty.mr (t):Ty.le t t=true:=by cases t<;>rfl
@[simp] def Gp:Sl->Nat->Option W
 | [],_=>y0
 | x::_,0=>x
 | _::r,n+1=>Gp r n
@[simp] def GC:Sl->Nat->W->Sl
 | [],_,_=> []
 | _::r,0,w=>k0 w::r
 | x::r,n+1,w=>x::GC r n w
def Gk (τ:Sl) (i:Nat):Option W:=match Gp τ i with
 | some (.own xs)=>k0 (.bor xs)
 | o=>o
@[simp] theorem G7 (e:Gp τ i=k0 (.own xs)):Gk τ i=k0 (.bor xs):=by simp [Gk,e]
@[simp] theorem Kn (e:Gp τ i=k0 (.v d)):Gk τ i=k0 (.v d):=by simp [Gk,e]
@[simp] theorem G8 (e:Gp τ i=k0 (.bor xs)):Gk τ i=k0 (.bor xs):=by simp [Gk,e]
@[simp] noncomputable def aL:List Nat->List D->Sl->Option Sl
 | [],[],τ=>k0 τ
 | i::is,d::ds,τ=>aL is ds (GC τ i (.v d))
 | _,_,_=>y0
def Gv (a:List Nat) (one:Bool) (d:D) (τ:Sl):Option Sl:=match one with
 | true=>match a with
  | [i]=>k0 (GC τ i (.v d))
  | _=>y0
 | false=>match d with
  | .tup ds=>aL a ds τ
  | _=>y0
noncomputable def Gy (step:D->AH->R (Option D)):List D->AH->R (List D)
 | [],h=> .ok [] h
 | d::ds,h=>match step d h with
  | .ok o h1=>match Gy step ds h1 with
   | .ok r h2=> .ok (match o with | some x=>x::r | none=>r) h2
   | _=> .fail
  | _=> .fail
structure Fx where
 call:String->List W->AH->R W
 cl:dN
 con:List (String×D)
noncomputable def GV (h:AH):Option W->Option (Nat×String×List (String×D))
 | some (.v (.ref r))=>match h[r]? with
  | some (.obj c fs)=>k0 (r,c,fs)
  | _=>y0
 | _=>y0
noncomputable def aQ (f:String) (d:D):List (String×D)->List (String×D)
 | []=> [(f,d)]
 | (g,x)::r=>if g=f then(g,d)::r else(g,x)::aQ f d r
noncomputable def GT (h:AH):Option W->Option (Nat×List (Tx×D))
 | some (.v (.ref r))=>match h[r]? with
  | some (.aG ks)=>k0 (r,ks)
  | _=>y0
 | _=>y0
noncomputable def GG (a:List (Tx×D)) (k:Tx) (d:D):List (Tx×D):=if a.any (λp=>y9 (p.1=k))then a.map (λp=>if p.1=k then(p.1,d)else p)else a++ [(k,d)]
noncomputable def ea (w:W) (o:Option (Nat×List (Tx×D))) (h:AH):R W:=match w,o with
 | .v (.str k),k0 (_,ks)=>match ks.lookup k with
  | some d=>aD d h
  | none=> .fail
 | _,_=> .fail
noncomputable def cg (neg:Bool) (w:W) (o:Option (Nat×List (Tx×D))) (h:AH):R W:=match w,o with
 | .v (.str k),k0 (_,ks)=>aD (.bl (if neg then !(ks.lookup k).isSome else(ks.lookup k).isSome)) h
 | _,_=> .fail
noncomputable def fA (T:List (Tx×W)) (o:Option W) (h:AH):R W:=match o with
 | some (.v (.str k))=>match T.lookup k with
  | some (.v d)=>if GI d then aD d h else .fail
  | _=> .fail
 | _=> .fail
mutual
@[simp] noncomputable def eval (F:Fx):E->Sl->AH->R W
 | .var i,τ,h=>match Gk τ i with
  | some w=> .ok w h
  | none=> .fail
 | .con x,_,h=>match F.con.lookup x with
  | some d=>aD d h
  | none=> .fail
 | .int i,_,h=>aD (.int i) h
 | .bl b,_,h=>aD (.bl b) h
 | .ak,_,h=>aD .ak h
 | .str s,_,h=>aD (.str s) h
 | .tup es,τ,h=>(Gu F es τ h).bind λds h=>aD (.tup ds) h
 | .lst es,τ,h=>(Gu F es τ h).bind λds h=> .ok (.own ds) h
 | .bin o a b,τ,h=>(eval F a τ h).bind λx h=>(eval F b τ h).bind λy h=>GM o x y h
 | .cmp o a b,τ,h=>(eval F a τ h).bind λx h=>(eval F b τ h).bind λy h=>(R.of h (Gs o x y h)).bind λc h=>aD (.bl c) h
 | .chain o p a b c,τ,h=>(eval F a τ h).bind λx h=>(eval F b τ h).bind λy h=>(R.of h (Gs o x y h)).bind λt h=>match t with
  | true=>(eval F c τ h).bind λz h=>(R.of h (Gs p y z h)).bind λc h=>aD (.bl c) h
  | false=>aD (.bl k9) h
 | .fv neg a,τ,h=>(eval F a τ h).bind λx h=>match x with
  | .v .ak=>aD (.bl (!neg)) h
  | _=>aD (.bl neg) h
 | .neg a,τ,h=>(eval F a τ h).bind λx h=>(R.of h x.int?).bind λi h=>aD (.int (-i)) h
 | .inv a,τ,h=>(eval F a τ h).bind λx h=>(R.of h x.int?).bind λi h=>aD (.int (-i-1)) h
 | .not a,τ,h=>(eval F a τ h).bind λx h=>(R.of h (GX h x)).bind λc h=>aD (.bl (!c)) h
 | .and a b,τ,h=>(eval F a τ h).bind λx h=>(R.of h (GX h x)).bind λc h=>match c with
  | true=>eval F b τ h
  | false=> .ok x h
 | .or a b,τ,h=>(eval F a τ h).bind λx h=>(R.of h (GX h x)).bind λc h=>match c with
  | true=> .ok x h
  | false=>eval F b τ h
 | .call f es,τ,h=>(Gi F es τ h).bind λws h=>F.call f (ws.map W.arg) h
 | .bi b es,τ,h=>(Gi F es τ h).bind λws h=>dA b ws h
 | .cq a t,τ,h=>(eval F a τ h).bind λx h=>(R.of h (cq t x)).bind λc h=>aD (.bl c) h
 | .ix a b,τ,h=>(eval F a τ h).bind λx h=>(eval F b τ h).bind λy h=>(R.of h (dz x y h)).bind λd h=>aD d h
 | .sl a lo hi,τ,h=>(eval F a τ h).bind λx h=>(eval F lo τ h).bind λl h=>(R.of h l.int?).bind λl h=>(eval F hi τ h).bind λu h=>(R.of h u.int?).bind λu h=>eb x (k0 l) (k0 u) h
 | .dH a lo,τ,h=>(eval F a τ h).bind λx h=>(eval F lo τ h).bind λl h=>(R.of h l.int?).bind λl h=>eb x (k0 l) y0 h
 | .di a hi,τ,h=>(eval F a τ h).bind λx h=>(eval F hi τ h).bind λu h=>(R.of h u.int?).bind λu h=>eb x y0 (k0 u) h
 | .comp tg one k aC it u7 c elt,τ,h=>(Gn F it τ h).bind λds h=>
  if ds.length<=ba then
   (Gy (λd h=>match Gv tg one d (Aa2 k y0++aC.map λj=>Gk τ j)with
     | none=> .fail
     | some τ'=>(if u7 then(eval F c τ' h).bind λx h=>R.of h (GX h x)else .ok u0 h).bind λb h=>match b with
      | true=>(eval F elt τ' h).bind λy h=>(R.of h y.d).bind λy h=> .ok (k0 y) h
      | false=> .ok y0 h) ds h).bind λys h=> .ok (.own ys) h
  else .fail
 | .cZ,_,h=>aD (.ref h.length) (h++ [.aG []])
 | .ea i a,τ,h=>match GT h (Gp τ i)with
  | some _=>(eval F a τ h).bind λx h=>ea x (GT h (Gp τ i)) h
  | none=> .fail
 | .cg neg a i,τ,h=>(eval F a τ h).bind λx h=>cg neg x (GT h (Gp τ i)) h
 | .fA k1 a k2 b k3 c i,τ,h=>(eval F a τ h).bind λx h=>(eval F b τ h).bind λy h=>(eval F c τ h).bind λz h=>fA [(k1,x),(k2,y),(k3,z)] (Gp τ i) h
 | .eg i,τ,h=>match GT h (Gp τ i)with
  | some (_,ks)=>aD (.ref h.length) (h++ [.aG ks])
  | none=> .fail
 | .share a,τ,h=>(eval F a τ h).bind λx h=>match x with
  | .own xs=>if Gf xs then aD (.ref h.length) (h++ [.lst xs])else .fail
  | _=> .fail
 | .fD _ ts,τ,h=> .ok (.own (ts.map .str)) h
 | .dj m a es,τ,h=>(eval F a τ h).bind λx h=>if k5 m x h then(Gi F es τ h).bind λws h=>kP m x ws h else .fail
 | .fld i c f,τ,h=>match GV h (Gp τ i)with
  | some (_,c',fs)=>if c'=c then(R.of h (fs.lookup f)).bind λd h=>aD d h else .fail
  | none=> .fail
 | .bw i c m q es,τ,h=>match GV h (Gp τ i)with
  | some (r,c',fs)=>if c'=c/\(fs.lookup m).isNone=u0 then(Gi F es τ h).bind λws h=>F.call q (.v (.ref r)::ws.map W.arg) h else .fail
  | none=> .fail
 | .make c q es,τ,h=>(Gi F es τ h).bind λws h=>(F.call q (.v (.ref h.length)::ws.map W.arg) (h++ [.obj c []])).bind λw h'=>match w with
  | .v .ak=>aD (.ref h.length) h'
  | _=> .fail
@[simp] noncomputable def Gi (F:Fx):Es->Sl->AH->R (List W)
 | .nil,_,h=> .ok [] h
 | .cons e es,τ,h=>(eval F e τ h).bind λw h=>(Gi F es τ h).bind λws h=> .ok (w::ws) h
@[simp] noncomputable def Gu (F:Fx):Es->Sl->AH->R (List D)
 | .nil,_,h=> .ok [] h
 | .cons e es,τ,h=>(eval F e τ h).bind λw h=>(R.of h w.d).bind λd h=>(Gu F es τ h).bind λds h=> .ok (d::ds) h
@[simp] noncomputable def Gn (F:Fx):It->Sl->AH->R (List D)
 | .seq e,τ,h=>(eval F e τ h).bind λw h=>match w with
  | .v (.str s)=> .ok (g7 s) h
  | .v (.tup xs)=> .ok xs h
  | .v (.lst xs)=> .ok xs h
  | .own xs=> .ok xs h
  | .bor xs=> .ok xs h
  | _=> .fail
 | .ao a,τ,h=>(eval F a τ h).bind λw h=>(R.of h w.int?).bind λn h=>if -(eS)<=n/\n<eS then .ok ((Aa5 n.toNat).map λ(i:Nat)=> .int (i:Int)) h else .fail
 | .bY a b,τ,h=>(eval F a τ h).bind λw h=>(R.of h w.int?).bind λi h=>(eval F b τ h).bind λw h=>(R.of h w.int?).bind λj h=>
  if(-(eS)<=i/\i<eS)/\(-(eS)<=j/\j<eS)then .ok ((Aa5 (j-i).toNat).map λ(k:Nat)=> .int (i+(k:Int))) h else .fail
 | .rev e,τ,h=>(eval F e τ h).bind λw h=>match w with
  | .v (.lst xs)=> .ok xs.reverse h
  | .own xs=> .ok xs.reverse h
  | .bor xs=> .ok xs.reverse h
  | _=> .fail
end
noncomputable def mC:W->Option (List D)
 | .v (.str s)=>k0 (g7 s)
 | .v (.tup xs)=>k0 xs
 | .v (.lst xs)=>k0 xs
 | .own xs=>k0 xs
 | _=>y0
noncomputable def kv:W->Option (List D)
 | .v (.str s)=>k0 (g7 s)
 | .v (.tup xs)=>k0 xs
 | .v (.lst xs)=>k0 xs
 | .bor xs=>k0 xs
 | _=>y0
def yS:W->Option (List D)
 | .v (.lst xs)=>k0 xs.reverse
 | .own xs=>k0 xs.reverse
 | _=>y0
def KU:W->Option (List D)
 | .v (.lst xs)=>k0 xs.reverse
 | .bor xs=>k0 xs.reverse
 | _=>y0
@[simp] theorem Ko (xs):mC (.v (.tup xs))=k0 xs:=rfl
@[simp] theorem Km (xs):mC (.v (.lst xs))=k0 xs:=rfl
@[simp] theorem G9 (xs):mC (.own xs)=k0 xs:=rfl
@[simp] theorem Kp (xs):kv (.v (.tup xs))=k0 xs:=rfl
@[simp] theorem Kk (xs):kv (.v (.lst xs))=k0 xs:=rfl
@[simp] theorem Kl (xs):kv (.bor xs)=k0 xs:=rfl
@[simp] def GF:E->Option Nat
 | .var i=>k0 i
 | _=>y0
@[simp] def Gr (F:Fx) (it:It) (τ:Sl) (h:AH):R (List D):=match it with
 | .seq e=>match GF e with
  | some i=>R.of h ((Gp τ i).bind kv)
  | none=>(eval F e τ h).bind λw h=>R.of h (mC w)
 | .rev e=>match GF e with
  | some i=>R.of h ((Gp τ i).bind KU)
  | none=>(eval F e τ h).bind λw h=>R.of h (yS w)
 | it=>Gn F it τ h
noncomputable def Gw (bnd:D->Sl->Option Sl) (a:Sl->AH->O):List D->Sl->AH->O
 | [],τ,h=> .next τ h
 | d::ds,τ,h=>match bnd d τ with
  | none=> .fail
  | some c=>match a c h with
   | .next b h2=>Gw bnd a ds b h2
   | .cont b h2=>Gw bnd a ds b h2
   | .brk b h2=> .next b h2
   | o=>o
noncomputable def GL (c:Sl->AH->R Bool) (a:Sl->AH->O):Nat->Sl->AH->O
 | 0,_,_=> .fail
 | n+1,τ,h=>(c τ h).cF λb h1=>match b with
  | false=> .next τ h1
  | true=>match a τ h1 with
   | .next d h2=>GL c a n d h2
   | .cont d h2=>GL c a n d h2
   | .brk d h2=> .next d h2
   | o=>o
def Gm (F:Fx) (e:E) (τ:Sl) (h:AH):R Bool:=(eval F e τ h).bind λx h=>R.of h (GX h x)
def fq :W->Option (D×D)
 | .v (.tup [a,b])=>k0 (a,b)
 | _=>y0
def Kj (w b a:W) (τ:Sl) (h:AH):O:=match w,b,a with
 | .v d,.v (.ref r),.v (.int j)=>match h[r]? with
  | some (.lst xs)=>match dC xs.length j with
   | some n=>if GI d then .next τ (h.set r (.lst (xs.set n d)))else .fail
   | none=> .fail
  | _=> .fail
 | _,_,_=> .fail
mutual
@[simp] noncomputable def exec (F:Fx):S->Sl->AH->O
 | .set i e,τ,h=>(eval F e τ h).cF λw h=>match w with
  | .bor _=> .fail
  | w=> .next (GC τ i w) h
 | .ag i e,τ,h=>(eval F e τ h).cF λw h=>match w.d with
  | some d=> .next (GC τ i (.v d)) h
  | none=> .fail
 | .fB is e,τ,h=>(eval F e τ h).cF λw h=>match w with
  | .v (.tup ds)=>match aL is ds τ with
   | some τ'=> .next τ' h
   | none=> .fail
  | _=> .fail
 | .eI i k e,τ,h=>(eval F e τ h).cF λw h=>match Gp τ i with
  | some (.own xs)=>(eval F k τ h).cF λkw h=>match w,kw with
   | .v d,.v (.int j)=>if GI d then(match dC xs.length j with
    | some n=> .next (GC τ i (.own (xs.set n d))) h
    | none=> .fail)else .fail
   | _,_=> .fail
  | _=> .fail
 | .fH o k j e,τ,h=>(eval F e τ h).cF λw h=>match fq w with
  | some (d1,d2)=>(eval F o τ h).cF λow h=>(eval F k τ h).cF λkw h=>if GI d2 then(match Kj (.v d1) ow kw τ h with
   | .next τ h=> .next (GC τ j (.v d2)) h
   | _=> .fail)else .fail
  | none=> .fail
 | .bS o k e,τ,h=>(eval F e τ h).cF λw h=>(eval F o τ h).cF λow h=>(eval F k τ h).cF λkw h=>Kj w ow kw τ h
 | .app i e,τ,h=>match Gp τ i with
  | some (.own xs)=>(eval F e τ h).cF λw h=>match w.d with
   | some d=>if xs.length<ba then .next (GC τ i (.own (xs++ [d]))) h else .fail
   | none=> .fail
  | _=> .fail
 | .ext i e,τ,h=>match Gp τ i with
  | some (.own xs)=>(eval F e τ h).cF λw h=>match w with
   | .own ys=>if xs.length+ys.length<ba then .next (GC τ i (.own (xs++ys))) h else .fail
   | _=> .fail
  | _=> .fail
 | .b4 i c f e,τ,h=>(eval F e τ h).cF λw h=>match w.d with
  | some d=>match GV h (Gp τ i)with
   | some (r,c',fs)=>if c'=c/\Gc d=u0/\fs.length<100 then .next τ (h.set r (.obj c (aQ f d fs)))else .fail
   | none=> .fail
  | none=> .fail
 | .d4 i k e,τ,h=>(eval F e τ h).cF λw h=>match Gp τ i with
  | some (.own xs)=>(eval F k τ h).cF λkw h=>match w,kw with
   | .v d,.v (.int j)=>(match dC xs.length j with
    | some n=> .next (GC τ i (.own (xs.set n d))) h
    | none=> .fail)
   | _,_=> .fail
  | _=> .fail
 | .fM is e,τ,h=>(eval F e τ h).cF λw h=>match w with
  | .own ds=>match aL is ds τ with
   | some τ'=> .next τ' h
   | none=> .fail
  | _=> .fail
 | .b9 i k e,τ,h=>(eval F e τ h).cF λw h=>match GT h (Gp τ i)with
  | some _=>(eval F k τ h).cF λkw h=>match w,kw,GT h (Gp τ i)with
   | .v d,.v (.str t),k0 (r,ks)=>if ks.length<ba/\Gc d=u0 then .next τ (h.set r (.aG (GG ks t d)))else .fail
   | _,_,_=> .fail
  | none=> .fail
 | .freeze i,τ,h=>match Gp τ i with
  | some (.own xs)=> .next (GC τ i (.v (.lst xs))) h
  | _=> .next τ h
 | .ex e,τ,h=>(eval F e τ h).cF λ_ h=> .next τ h
 | .ret e,τ,h=>match GF e with
  | some i=>match Gp τ i with
   | some (.bor _)=> .fail
   | some w=> .ret w h
   | none=> .fail
  | none=>(eval F e τ h).cF λw h=>match w with
   | .bor _=> .fail
   | w=> .ret w h
 | .iff c a b,τ,h=>(Gm F c τ h).cF λt h=>match t with
  | true=>execs F a τ h
  | false=>execs F b τ h
 | .iX n c b,τ,h=>GL (λτ h=>Gm F c τ h) (λτ h=>execs F b τ h) n τ h
 | .for tg one it b,τ,h=>(Gr F it τ h).cF λds h=>Gw (Gv tg one) (λτ h=>execs F b τ h) ds τ h
 | .bR i c f e,τ,h=>(eval F e τ h).cF λw h=>match w with
  | .v d=>match GV h (Gp τ i)with
   | some (r,c',fs)=>if c'=c/\Gc d=u0/\fs.length<100 then .next τ (h.set r (.obj c (aQ f d fs)))else .fail
   | none=> .fail
  | _=> .fail
 | .eW,_,_=> .fail
@[simp] noncomputable def execs (F:Fx):Ss->Sl->AH->O
 | .nil,τ,h=> .next τ h
 | .cons s ss,τ,h=>(exec F s τ h).seq λτ h=>execs F ss τ h
end
structure Fn where
 ps:Nat
 n:Nat
 body:Ss
structure Prog where
 fns:List (String×Fn)
 cl:dN
 con:List (String×D)
def W.keep:W->Bool
 | .v d=>Gc d
 | .own xs=>Gf xs
 | .bor _=>u0
def fin (n:Nat) (w:W) (h:AH):R W:=if h.length=n then .ok w h else if w.keep then .ok w (h.take n)else .ok w h
noncomputable def Gq (n:Nat):O->R W
 | .ret w h=>match w with
  | .bor _=> .fail
  | w=>fin n w h
 | .next _ h=>fin n (.v .ak) h
 | .exc d h=> .exc d h
 | _=> .fail
@[simp] theorem Ga (d) (h h':AH) (e:h'.length=h.length):Gq h.length (.ret (.v d) h')= .ok (.v d) h':=by simp [Gq,fin,e]
@[simp] theorem Gx (xs) (h h':AH) (e:h'.length=h.length):Gq h.length (.ret (.own xs) h')= .ok (.own xs) h':=by simp [Gq,fin,e]
@[simp] theorem GA (τ) (h h':AH) (e:h'.length=h.length):Gq h.length (.next τ h')= .ok (.v .ak) h':=by simp [Gq,fin,e]
@[simp] theorem Kf (d) (n) (h):Gq n (.exc d h)= .exc d h:=rfl
def run (F:Fx) (d:Fn) (ws:List W) (h:AH):R W:=if ws.length=d.ps then Gq h.length (execs F d.body (ws.map k0++Aa2 (d.n-d.ps) y0) h)else .fail
def call (p:Prog):Nat->String->List W->AH->R W
 | 0,_,_,_=> .fail
 | k+1,f,a,h=>match p.fns.lookup f with
  | some d=>run ⟨call p k,p.cl,p.con⟩ d a h
  | none=> .fail
def Gb (e:p.fns.lookup f=k0 d) (k) (ws) (h) (a:ws.length=d.ps):
 call p (k+1) f ws h=Gq h.length (execs ⟨call p k,p.cl,p.con⟩ d.body (ws.map k0++Aa2 (d.n-d.ps) y0) h):=by
 rw [call,e]
 simp [run,a]
end
end M
namespace L2.MS
open PySem PySem.Spec
structure Ge where
 K:Aa6
 ca:String->Addr
 cl:M.dN
 own:List String
 ma:String->Addr
structure mm (Y:Ge) (c:String):Prop where
 k:vX Y.K (Y.ca c)
 own: ∀t∈Y.own,PySem.W.kitOne Y.K (.ref (Y.ca c)) (.ref (Y.ca t))=k0 ((M.Kw Y.cl 8 c).contains t)
 ve:PySem.W.kitOne Y.K (.ref (Y.ca c)) (.type "ValueError")=some ((M.Kw Y.cl 8 c).contains "ValueError")
structure Gh where
 fz:Addr->Prop
 aO:Nat->Addr
 n:Nat
def eQ (Y:Ge) (G:Gh) (H:Hp) (a:Addr) (vs:List V):Prop:=(G.fz a/\H a=k0 (.tup vs)) ∨
 ∃(o:Obj) (b:Array Value) (n:Nat),Y.K.lookup a=some o/\o.cls= .type "tuple" /\o.dict=none/\o.data= .seq b n/\b.size<=sizeLine/\Vals vs b.toList
def uy (Y:Ge) (a:Addr) (vs:List V):Prop:= ∃(o:Obj) (b:Array Value) (n:Nat),Y.K.lookup a=some o/\o.cls= .type "list" /\o.dict=none/\o.data= .seq b n/\b.size<=sizeLine/\Vals vs b.toList
def iB (Y:Ge) (G:Gh) (H:Hp) (a:Addr) (vs:List V):Prop:=(G.fz a/\Rd H a (.lst vs))\/uy Y a vs
def eQ.sq (h:eQ Y G H a vs):cx Y.K H a vs:=h.elim (λz=> .inl (.inl z.2)) λ⟨o,b,n,c,d,_,e⟩=> .inr ⟨o,b,n,c,d,e⟩
def eQ.pl (h:eQ Y G H a vs):uK Y.K H a:=h.elim (λz=> .inl ⟨_,z.2⟩) λ⟨o,_,_,b,c,d,_⟩=> .inr ⟨o,b,c,d⟩
def iB.sq (h:iB Y G H a vs):bz Y.K H a vs:=h.elim (λz=> .inl z.2) λz=> .inr z
def aB (s:M.Tx):Str:=⟨s.toArray⟩
def CD:M.D->PyData
 | .int i=> .int i
 | .str s=> .str (aB s)
 | .bl b=> .bool b
 | _=> .none
def vw (T:List (M.Tx×M.D)):List (Str×PyData):=T.map λp=>(aB p.1,CD p.2)
def EM (Y:Ge) (a:Addr) (T:List (M.Tx×M.D)):Prop:=EE Y.K a (vw T)
mutual
def aA (Y:Ge) (G:Gh) (H:Hp):M.D->V->Prop
 | .ak,v=>v= .ak
 | .bl b,v=>v= .bl b
 | .int i,v=>v= .int i
 | .str s,v=>v= .str (aB s)
 | .tup ds,v=> ∃a vs,v= .ref a/\eQ Y G H a vs/\aa Y G H ds vs
 | .lst ds,v=> ∃a vs,v= .ref a/\iB Y G H a vs/\aa Y G H ds vs
 | .ref r,v=>r<G.n/\v= .ref (G.aO r)
 | .exc c fs,v=>(fs= []/\ ∃x,v= .ref x/\G.fz x/\H x=k0 (vG x (Y.ca c) y0)/\mm Y c)\/(fs≠ []/\ ∃a,v= .ref a/\EM Y a fs)
 | .err c f d,v=> ∃x dx u,v= .ref x/\G.fz x/\G.fz dx/\H x=k0 (vG x (Y.ca c) (k0 dx))/\H dx=k0 (.xd [(Str.ofString f,u)])/\mm Y c/\t7 Y.K (Y.ca c) (Str.ofString f)/\aA Y G H d u
def aa (Y:Ge) (G:Gh) (H:Hp):List M.D->List V->Prop
 | [],vs=>vs= []
 | d::ds,vs=> ∃v r,vs=v::r/\aA Y G H d v/\aa Y G H ds r
end
def se (k:M.WK):M.D:= .tup [.int k.1,.tup (k.2.1.map .int),.tup (k.2.2.map .int)]
def bC (Y:Ge) (G:Gh) (H:Hp) (a:Addr):M.Cell->Prop
 | .lst xs=>M.Gf xs=u0/\ ∃d,H a=k0 (.lst d)/\aa Y G H xs d
 | .ip ks=> ∃xs,H a=k0 (DW a xs)/\xs.map (·.1)=ks/\ ∀x∈xs,aA Y G H (se x.1) (.ref x.2.1)
 | .iK ks=>H a=k0 (dI ks)
 | .aG ks=>M.Gf (ks.map (·.2))=u0/\ ∃b,H a=k0 (dS ((ks.map λp=>aB p.1).zip b))/\aa Y G H (ks.map (·.2)) b
 | .obj c fs=>M.Gf (fs.map (·.2))=u0/\ ∃dx b,H a=k0 (.ins (Y.ca c) dx ((fs.map λp=>Str.ofString p.1).zip b))/\aa Y G H (fs.map (·.2)) b
structure ah (Y:Ge) (G:Gh) (h:M.AH) (H:Hp):Prop where
 len:h.length=G.n
 any: ∀r c,h[r]? =k0 c-> ¬G.fz (G.aO r)/\bC Y G H (G.aO r) c
 inj: ∀r s,r<G.n->s<G.n->G.aO r=G.aO s->r=s
 live: ∀a,G.fz a-> ∃o,H a=k0 o
def dD (G:Gh) (a:Addr):Prop:= ∀r,r<G.n->G.aO r≠a
structure Ext (G:Gh) (H:Hp) (G':Gh) (H':Hp):Prop where
 keep: ∀a o,H a=k0 o->dD G a->H' a=k0 o
 le:G.n<=G'.n
 aO: ∀r,r<G.n->G'.aO r=G.aO r
 new: ∀r,G.n<=r->r<G'.n->H (G'.aO r)=y0
 fz: ∀a,G.fz a->G'.fz a
 old: ∀a,G'.fz a->G.fz a\/H a=y0
 cells: ∀r,r<G.n->(∃ o,H (G.aO r)=k0 o)-> ∃o,H' (G.aO r)=k0 o
def ai (Y:Ge) (G:Gh) (H:Hp):M.W->V->Prop
 | .v d,v=>aA Y G H d v
 | .own xs,v=> ∃a b,v= .ref a/\ ¬G.fz a/\dD G a/\H a=k0 (.lst b)/\aa Y G H xs b
 | .bor xs,v=> ∃a b,v= .ref a/\dD G a/\Rd H a (.lst b)/\aa Y G H xs b
def gi:M.W->Bool
 | .own _=>u0
 | .bor _=>u0
 | _=>k9
structure ar (Y:Ge) (G:Gh) (τ:M.Sl) (h:M.AH) (U:St) (H:Hp):Prop where
 len:τ.length=U.length
 slot: ∀i w,M.Gp τ i=k0 w-> ∃v,U[i]? =k0 (k0 v)/\ai Y G H w v
 apart: ∀i j xs w a,i≠j->M.Gp τ i=k0 (.own xs)->M.Gp τ j=k0 w->gi w=u0->U[i]? =k0 (k0 (.ref a))->U[j]? ≠k0 (k0 (.ref a))
 heap:ah Y G h H
section
variable {Y:Ge}{G G' G1 G2:Gh}{H H' H1 H2:Hp}{h h':M.AH}{τ:M.Sl}{U:St}
def ah.cell (R:ah Y G h H) (r) (xs) (e:h[r]? =k0 (M.Cell.lst xs)): ¬G.fz (G.aO r)/\ ∃vs,H (G.aO r)=k0 (.lst vs)/\aa Y G H xs vs:=⟨(R.any r _ e).1,(R.any r _ e).2.2⟩
def ah.pure (R:ah Y G h H) (r:Nat) (xs) (e:h[r]? =k0 (M.Cell.lst xs)):M.Gf xs=true:=(R.any r _ e).2.1
theorem ah.obj (R:ah Y G h H) (r) (c) (fs) (e:h[r]? =k0 (M.Cell.obj c fs)): ¬G.fz (G.aO r)/\M.Gf (fs.map (·.2))=u0/\ ∃dx j,H (G.aO r)=k0 (.ins (Y.ca c) dx ((fs.map λp=>Str.ofString p.1).zip j))/\aa Y G H (fs.map (·.2)) j:=R.any r _ e
def ah.lt (R:ah Y G h H)(e:h[r]? =k0 c):r<G.n:=by rw [← R.len];exact(Aa1.mp e).1
def ah.at (R:ah Y G h H)(a:i<G.n): ∃c,h[i]? =k0 c:=⟨_,Aa3 (by rw [R.len];exact a)⟩
def bC.there (z:bC Y G H a c): ∃o,H a=k0 o:=by
 cases c with
 | lst d=>obtain⟨_,_,z,_⟩:=z;exact⟨_,z⟩
 | ip b=>obtain⟨_,z,_⟩:=z;exact⟨_,z⟩
 | iK b=>exact⟨_,z⟩
 | aG b=>obtain⟨_,_,z,_⟩:=z;exact⟨_,z⟩
 | obj c fs=>obtain⟨_,_,_,z,_⟩:=z;exact⟨_,z⟩
def ah.kG (r:ah Y G h H)(a:i<G.n): ¬G.fz (G.aO i):=let ⟨_,e⟩:=r.at a;(r.any i _ e).1
def ah.off (r:ah Y G h H)(c:G.fz a):dD G a:=λi b z=>r.kG b (z▸c)
theorem ah.there (r:ah Y G h H)(a:i<G.n): ∃o,H (G.aO i)=k0 o:=let ⟨_,e⟩:=r.at a;(r.any i _ e).2.there
def Ext.refl:Ext G H G H:=⟨λ_ _ e _=>e,Aa8 _,λ_ _=>rfl,λr a b=>absurd a (Ao4.mpr b),λ_ z=>z,λ_ z=> .inl z,λ_ _ z=>z⟩
theorem Ext.none (e:Ext G H G' H') (f:ah Y G h H)(z:H' a=y0):H a=none:=by
 cases q:H a with
 | none=>rfl
 | some o=>
  by_cases b:dD G a
  ·rw [e.keep a o q b]at z;cases z
  ·unfold dD at b
   have: ∃r,r<G.n/\G.aO r=a:=Ag8 λg=>b λr f z=>g ⟨r,f,z⟩
   obtain⟨r,c,rfl⟩:=this
   obtain⟨i,d⟩:=e.cells r c ⟨o,q⟩
   rw [z]at d;cases d
def Ext.off (e:Ext G H G' H')(f:H a=k0 o) (b:dD G a):dD G' a:=λr d z=>by
 by_cases c:r<G.n
 ·rw [e.aO r c]at z;exact b r c z
 ·have:=e.new r (Nat.not_lt.mp c) d
  rw [z,f]at this;cases this
def Ext.trans (b:Ext G H G1 H1) (f:ah Y G h H) (d:Ext G1 H1 G2 H2):Ext G H G2 H2 where
 keep:=λa o z e=>d.keep a o (b.keep a o z e) (b.off z e)
 le:=Ab9 b.le d.le
 aO:=λr c=>by rw [d.aO r (Ab3 c b.le),b.aO r c]
 new:=λr g i=>by
  by_cases c:r<G1.n
  ·rw [d.aO r c];exact b.new r g c
  ·exact b.none f (d.new r (Nat.not_lt.mp c) i)
 fz:=λa z=>d.fz a (b.fz a z)
 old:=λa z=>(d.old a z).elim (λz=>b.old a z) λz=> .inr (b.none f z)
 cells:=λr c z=>by
  have:=d.cells r (Ab3 c b.le) (by rw [b.aO r c];exact b.cells r c z)
  rwa [b.aO r c]at this
def Ext.rd (e:Ext G H G' H')(z:Rd H a u) (b:dD G a):Rd H' a u:=z.elim (λz=> .inl (e.keep a _ z b)) λ⟨o,z⟩=> .inr ⟨o,e.keep a _ z b⟩
structure Mon (G:Gh) (H:Hp) (G':Gh) (H':Hp):Prop where
 keep: ∀a o,G.fz a->H a=k0 o->H' a=k0 o
 le:G.n<=G'.n
 aO: ∀r,r<G.n->G'.aO r=G.aO r
 fz: ∀a,G.fz a->G'.fz a
def Ext.mon (e:Ext G H G' H') (b:ah Y G h H):Mon G H G' H':=⟨λa o z q=>e.keep a o q (b.off z),e.le,e.aO,e.fz⟩
def Mon.rd (e:Mon G H G' H')(z:Rd H a u) (b:G.fz a):Rd H' a u:=z.elim (λz=> .inl (e.keep a _ b z)) λ⟨o,z⟩=> .inr ⟨o,e.keep a _ b z⟩
mutual
theorem aA.mon (e:Mon G H G' H'): ∀ {d:M.D}{v:V},aA Y G H d v->aA Y G' H' d v
 | .ak,_,z=>z
 | .bl _,_,z=>z
 | .int _,_,z=>z
 | .str _,_,z=>z
 | .tup _,_,⟨a,vs,z1,z2,z3⟩=>⟨a,vs,z1,z2.elim (λz=> .inl ⟨e.fz a z.1,e.keep a _ z.1 z.2⟩) λz=> .inr z,aa.mon e z3⟩
 | .lst _,_,⟨a,vs,z1,z2,z3⟩=>⟨a,vs,z1,z2.elim (λz=> .inl ⟨e.fz a z.1,e.rd z.2 z.1⟩) .inr,aa.mon e z3⟩
 | .ref r,_,⟨z1,z2⟩=>⟨Ab3 z1 e.le,by rw [e.aO r z1];exact z2⟩
 | .exc c fs,_,z=>z.imp (λ⟨z0,x,z1,z2,z3,z4⟩=>⟨z0,x,z1,e.fz x z2,e.keep x _ z2 z3,z4⟩) id
 | .err c f d,_,⟨x,dx,u,z1,z2,z3,z4,z5,z6,z7,z8⟩=>⟨x,dx,u,z1,e.fz x z2,e.fz dx z3,e.keep x _ z2 z4,e.keep dx _ z3 z5,z6,z7,aA.mon e z8⟩
theorem aa.mon (e:Mon G H G' H'): ∀ {ds:List M.D}{vs:List V},aa Y G H ds vs->aa Y G' H' ds vs
 | [],_,z=>z
 | _::_,_,⟨v,r,z1,z2,z3⟩=>⟨v,r,z1,aA.mon e z2,aa.mon e z3⟩
end
theorem bC.mon (e:Mon G H G' H')(k: ∀o,H a=k0 o->H' a=k0 o) (z:bC Y G H a c):bC Y G' H' a c:=by
 cases c with
 | lst i=>obtain⟨f,n,d,b⟩:=z;exact⟨f,n,k _ d,b.mon e⟩
 | ip h=>obtain⟨i,d,b,j⟩:=z;exact⟨i,k _ d,b,λx m=>(j x m).mon e⟩
 | iK h=>exact k _ z
 | aG h=>obtain⟨f,g,d,b⟩:=z;exact⟨f,g,k _ d,b.mon e⟩
 | obj c fs=>obtain⟨f,l,g,d,b⟩:=z;exact⟨f,l,g,k _ d,b.mon e⟩
def aA.ext (e:Ext G H G' H') (a:ah Y G h H)(z:aA Y G H d v):aA Y G' H' d v:=z.mon (e.mon a)
def aa.ext (e:Ext G H G' H') (a:ah Y G h H)(z:aa Y G H d v):aa Y G' H' d v:=z.mon (e.mon a)
theorem ai.ext (e:Ext G H G' H') (g:ah Y G h H)(z:ai Y G H w v):ai Y G' H' w v:=by
 cases w with
 | v d=>exact aA.ext e g z
 | own l=>
  obtain⟨a,j,i,k,c,b,f⟩:=z
  refine⟨a,j,i,λq=> ?_,e.off b c,e.keep a _ b c,aa.ext e g f⟩
  obtain q | q:=e.old a q
  ·exact k q
  ·rw [b]at q;cases q
 | bor l=>
  obtain⟨a,j,i,c,b,f⟩:=z
  refine⟨a,j,i,?_,e.rd b c,aa.ext e g f⟩
  obtain b | ⟨o,b⟩:=b
  ·exact e.off b c
  ·exact e.off b c
theorem ar.ext (s:ar Y G τ h U H) (e:Ext G H G' H') (b:ah Y G' h' H'):ar Y G' τ h' U H' where
 len:=s.len
 slot:=λi w z=>let ⟨v,c,a⟩:=s.slot i w z; ⟨v,c,a.ext e s.heap⟩
 apart:=s.apart
 heap:=b
theorem aa.length: ∀ {ds}{vs},aa Y G H ds vs->ds.length=vs.length
 | [],_,rfl=>rfl
 | _::_,_,⟨_,_,rfl,_,z⟩=>congrArg (· +1) (aa.length z)
theorem aa.get: ∀ {ds}{vs}{i:Nat}{d},aa Y G H ds vs->ds[i]? =k0 d-> ∃v,vs[i]? =k0 v/\aA Y G H d v
 | [],_,_,_,_,e=>by simp at e
 | _::_,_,0,_,⟨v,_,rfl,z,_⟩,e=>by simp at e;subst e;exact⟨v,rfl,z⟩
 | _::_,_,i+1,_,⟨_,_,rfl,_,z⟩,e=>by
  obtain⟨v,a,b⟩:=aa.get z (by simpa using e)
  exact⟨v,by simpa using a,b⟩
theorem aa.append: ∀ {ds es}{vs j},aa Y G H ds vs->aa Y G H es j->aa Y G H (ds++es) (vs++j)
 | [],_,_,_,rfl,z=>z
 | _::_,_,_,_,⟨v,r,rfl,b,a⟩,z=>⟨v,r++_,rfl,b,aa.append a z⟩
theorem aa.drop: ∀ {ds}{vs}(n),aa Y G H ds vs->aa Y G H (ds.drop n) (vs.drop n)
 | _,_,0,z=>z
 | [],_,_+1,rfl=>rfl
 | _::_,_,n+1,⟨_,_,rfl,_,z⟩=>aa.drop n z
theorem aa.take: ∀ {ds}{vs}(n),aa Y G H ds vs->aa Y G H (ds.take n) (vs.take n)
 | _,_,0,_=>rfl
 | [],_,_+1,rfl=>rfl
 | _::_,_,n+1,⟨v,r,rfl,a,z⟩=>⟨v,r.take n,rfl,a,aa.take n z⟩
theorem aa.reverse: ∀ {ds}{vs},aa Y G H ds vs->aa Y G H ds.reverse vs.reverse
 | [],_,rfl=>rfl
 | _::_,_,⟨v,r,rfl,a,z⟩=>by
  rw [List.reverse_cons,List.reverse_cons]
  exact(aa.reverse z).append ⟨v,[],rfl,a,rfl⟩
theorem aa.set (z:aA Y G H d v): ∀ {ds}{vs} i,aa Y G H ds vs->aa Y G H (ds.set i d) (vs.set i v)
 | [],_,_,rfl=>rfl
 | _::_,_,0,⟨_,r,rfl,_,a⟩=>⟨v,r,rfl,z,a⟩
 | _::_,_,i+1,⟨u,r,rfl,b,a⟩=>⟨u,r.set i v,rfl,b,aa.set z i a⟩
def Gh.more (G:Gh) (a:Addr):Gh:= { G with fz:=λb=>G.fz b\/b=a }
def Zp (o) (b:H p=y0):Ext G H G (aR H p o) where
 keep:=λa u z _=>by rw [Ja (Qb z b)];exact z
 le:=Aa8 _
 aO:=λ_ _=>rfl
 new:=λr c d=>absurd c (Ao4.mpr d)
 fz:=λ_ z=>z
 old:=λ_ z=> .inl z
 cells:=λr _ ⟨u,z⟩=>⟨u,by rw [Ja (Qb z b)];exact z⟩
def ZR (o) (b:H p=y0):Ext G H (G.more p) (aR H p o) where
 keep:=λa u z _=>by rw [Ja (Qb z b)];exact z
 le:=Aa8 _
 aO:=λ_ _=>rfl
 new:=λr c d=>absurd c (Ao4.mpr d)
 fz:=λ_ z=> .inl z
 old:=λa z=>z.elim .inl λe=> .inr (e▸b)
 cells:=λr _ ⟨u,z⟩=>⟨u,by rw [Ja (Qb z b)];exact z⟩
def ah.new (r:ah Y G h H)(o) (b:H p=y0):ah Y G h (aR H p o) where
 len:=r.len
 any:=λi c z=>⟨(r.any i c z).1,(r.any i c z).2.mon ((Zp o b).mon r) λu q=>by rw [Ja (Qb q b)];exact q⟩
 inj:=r.inj
 live:=λa z=>let ⟨u,q⟩:=r.live a z; ⟨u,by rw [Ja (Qb q b)];exact q⟩
def ah.ou (r:ah Y G h H)(o) (b:H p=y0):ah Y (G.more p) h (aR H p o) where
 len:=r.len
 any:=λi c z=>by
  obtain⟨g,d⟩:=r.any i c z
  obtain⟨u,f⟩:=d.there
  exact⟨λq=>q.elim g (Qb f b),d.mon ((ZR o b).mon r) λu q=>by rw [Ja (Qb q b)];exact q⟩
 inj:=r.inj
 live:=λa z=>z.elim (λz=>let ⟨u,q⟩:=r.live a z; ⟨u,by rw [Ja (Qb q b)];exact q⟩) λe=>⟨o,by rw [e];exact qd⟩
def Xm (a):Mon G H (G.more a) H:=⟨λ_ _ _ z=>z,Aa8 _,λ_ _=>rfl,λ_ z=> .inl z⟩
theorem Ext.more (e:Ext G H G1 H1)(c:H a=Option.none):Ext G H (G1.more a) H1:=
 ⟨e.keep,e.le,e.aO,e.new,λb z=> .inl (e.fz b z),λb z=>z.elim (λz=>e.old b z) λz=> .inr (z▸c),e.cells⟩
theorem ah.more (r:ah Y G h H)(d:dD G a) (f: ∃o,H a=k0 o):ah Y (G.more a) h H where
 len:=r.len
 any:=λi c z=>⟨λq=>q.elim (r.any i c z).1 λe=>d i (r.lt z) e,(r.any i c z).2.mon (Xm a) λ_ q=>q⟩
 inj:=r.inj
 live:=λb z=>z.elim (λz=>r.live b z) λe=>e▸f
theorem ai.more (z:ai Y G H w v) (j:gi w=u0->v≠ .ref a):ai Y (G.more a) H w v:=by
 cases w with
 | v d=>exact aA.mon (Xm a) z
 | own l=>
  obtain⟨b,i,c,k,f,g,h⟩:=z
  exact⟨b,i,c,λq=>q.elim k λe=>j rfl (e▸c),f,g,h.mon (Xm a)⟩
 | bor l=>
  obtain⟨b,i,c,f,g,h⟩:=z
  exact⟨b,i,c,f,g,h.mon (Xm a)⟩
theorem ar.more (s:ar Y G τ h U H)(b:dD G a) (g: ∃o,H a=k0 o) (f: ∀ i w,M.Gp τ i=k0 w->gi w=u0->U[i]? ≠k0 (k0 (.ref a))):ar Y (G.more a) τ h U H where
 len:=s.len
 slot:=λi w z=>by
  obtain⟨v,c,d⟩:=s.slot i w z
  exact⟨v,c,d.more λq e=>f i w z q (e▸c)⟩
 apart:=s.apart
 heap:=s.heap.more b g
def aJ (τ:M.Sl) (U:St) (H:Hp):M.W->V->Prop
 | .v _,_=>True
 | .own _,v=> ∃a,v= .ref a/\H a=y0
 | .bor _,v=> ∃(i:Nat) (w:M.W),M.Gp τ i=k0 w/\gi w=u0/\U[i]? =k0 (k0 v)
def aJ.back (e:Ext G H G1 H1) (f:ah Y G h H)(z:aJ τ U H1 w v):aJ τ U H w v:=by
 cases w with
 | v d=>trivial
 | own c=>obtain⟨a,g,b⟩:=z;exact⟨a,g,e.none f b⟩
 | bor c=>exact z
def ar.cJ (s:ar Y G τ h U H)(e:M.Gp τ i=k0 w) (j:gi w=u0) (q:U[i]? =k0 (k0 (.ref a))): ∃o,H a=k0 o:=by
 obtain⟨v,f,g⟩:=s.slot i w e
 rw [q]at f
 cases f
 cases w with
 | v d=>cases j
 | own k=>obtain⟨b,l,f,_,_,c,_⟩:=g;cases f;exact⟨_,c⟩
 | bor k=>
  obtain⟨b,l,f,_,c,_⟩:=g
  cases f
  obtain c | ⟨o,c⟩:=c
  ·exact⟨_,c⟩
  ·exact⟨_,c⟩
def rY (Y:Ge) (E:XK) (d:M.D) (G:Gh) (H:Hp):Prop:=(∀ c,d= .exc c []->mm Y c->E (.ref (Y.ca c)) y0 H) ∧
 ∀c f a,d= .err c f a->mm Y c->t7 Y.K (Y.ca c) (Str.ofString f)-> ∀dx u,G.fz dx->H dx=k0 (.xd [(Str.ofString f,u)])->aA Y G H a u->E (.ref (Y.ca c)) (k0 dx) H
def au {b:Type}(Y:Ge) (E:XK) (G:Gh) (H:Hp) (r:M.R b) (P:b->M.AH->Gh->Hp->Prop):Prop:=match r with
 | .ok a h'=> ∀G' H',Ext G H G' H'->ah Y G' h' H'->P a h' G' H'
 | .exc d h'=> ∀G' H',Ext G H G' H'->ah Y G' h' H'->rY Y E d G' H'
 | .fail=>False
def au.on (p:au Y E G H r P) (e:Ext G H G1 H1) (i:ah Y G h H):au Y E G1 H1 r P:=by
 cases r with
 | ok a j=>exact λc g f b=>p c g (e.trans i f) b
 | exc d j=>exact λc g f b=>p c g (e.trans i f) b
 | fail=>exact p
def tD (Y:Ge) (E:XK) (m:M.Sl->M.AH->M.R M.W):TE:=λU H Q=> ∃G τ h,ar Y G τ h U H/\au Y E G H (m τ h) λw h' G' H'=> ∀v,ai Y G' H' w v->aJ τ U H w v->Q v H'
def cN (Y:Ge) (E:XK) (m:M.Sl->M.AH->M.R Bool):TT:=λU H Q=> ∃G τ h,ar Y G τ h U H/\au Y E G H (m τ h) λb _ _ H'=>Q b H'
def Xa (a:ah Y G0 h0 H0) (b:Ext G0 H0 G H) (s:ar Y G τ h U H)
 (p:au Y E G0 H0 ((m τ h).bind f) P)
 (k: ∀w v h1 G1 H1,Ext G0 H0 G1 H1->Ext G H G1 H1->ar Y G1 τ h1 U H1->ai Y G1 H1 w v->aJ τ U H w v->au Y E G0 H0 (f w h1) P->Q v H1):tD Y E m U H Q:=by
 refine⟨G,τ,h,s,?_⟩
 cases q:m τ h with
 | ok w h1=>
  rw [q]at p
  exact λG1 H1 e g v i c=>k w v h1 G1 H1 (b.trans a e) e (s.ext e g) i c p
 | exc d h1=>rw [q]at p;exact au.on p b a
 | fail=>rw [q]at p;exact p
def xO (a:ah Y G0 h0 H0) (c:Ext G0 H0 G H) (s:ar Y G τ h U H)
 (p:au Y E G0 H0 ((m τ h).bind f) P)
 (k: ∀b h1 G1 H1,Ext G0 H0 G1 H1->Ext G H G1 H1->ar Y G1 τ h1 U H1->au Y E G0 H0 (f b h1) P->Q b H1):cN Y E m U H Q:=by
 refine⟨G,τ,h,s,?_⟩
 cases q:m τ h with
 | ok w h1=>
  rw [q]at p
  exact λG1 H1 e g=>k w h1 G1 H1 (c.trans a e) e (s.ext e g) p
 | exc d h1=>rw [q]at p;exact au.on p c a
 | fail=>rw [q]at p;exact p
def ir (Y:Ge) (E:XK) (m:M.Sl->M.AH->M.R (List M.D)):TA:=λU H Q=> ∃G τ h,ar Y G τ h U H/\au Y E G H (m τ h) λds _ G' H'=> ∀a,aa Y G' H' ds a->Q a H'
def bg (Y:Ge) (G:Gh) (H:Hp):List M.W->List V->Prop
 | [],a=>a= []
 | w::b,a=> ∃v r,a=v::r/\ai Y G H w v/\bg Y G H b r
theorem bg.ext (e:Ext G H G' H') (a:ah Y G h H): ∀ {ws}{vs},bg Y G H ws vs->bg Y G' H' ws vs
 | [],_,z=>z
 | _::_,_,⟨v,r,d,c,b⟩=>⟨v,r,d,ai.ext e a c,bg.ext e a b⟩
theorem bg.length: ∀ {ws}{vs},bg Y G H ws vs->ws.length=vs.length
 | [],_,rfl=>rfl
 | _::_,_,⟨_,_,rfl,_,z⟩=>congrArg (· +1) (bg.length z)
def fW (Y:Ge) (E:XK) (m:M.Sl->M.AH->M.R (List M.W)):TA:=λU H Q=> ∃G τ h,ar Y G τ h U H/\au Y E G H (m τ h) λb _ G' H'=> ∀a,bg Y G' H' b a->Q a H'
def w5 (a:ah Y G0 h0 H0) (b:Ext G0 H0 G H) (s:ar Y G τ h U H)
 (p:au Y E G0 H0 ((m τ h).bind f) P)
 (k: ∀ds vs h1 G1 H1,Ext G0 H0 G1 H1->Ext G H G1 H1->ar Y G1 τ h1 U H1->aa Y G1 H1 ds vs->au Y E G0 H0 (f ds h1) P->Q vs H1):ir Y E m U H Q:=by
 refine⟨G,τ,h,s,?_⟩
 cases q:m τ h with
 | ok w h1=>
  rw [q]at p
  exact λG1 H1 e c vs z=>k w vs h1 G1 H1 (b.trans a e) e (s.ext e c) z p
 | exc d h1=>rw [q]at p;exact au.on p b a
 | fail=>rw [q]at p;exact p
def zq (a:ah Y G0 h0 H0) (b:Ext G0 H0 G H) (s:ar Y G τ h U H)
 (p:au Y E G0 H0 ((m τ h).bind f) P)
 (k: ∀ds vs h1 G1 H1,Ext G0 H0 G1 H1->Ext G H G1 H1->ar Y G1 τ h1 U H1->bg Y G1 H1 ds vs->au Y E G0 H0 (f ds h1) P->Q vs H1):fW Y E m U H Q:=by
 refine⟨G,τ,h,s,?_⟩
 cases q:m τ h with
 | ok w h1=>
  rw [q]at p
  exact λG1 H1 e c vs z=>k w vs h1 G1 H1 (b.trans a e) e (s.ext e c) z p
 | exc d h1=>rw [q]at p;exact au.on p b a
 | fail=>rw [q]at p;exact p
theorem au.of (p:au Y E G H ((M.R.of h o).bind f) P): ∃b,o=k0 b/\au Y E G H (f b h) P:=by
 cases o with
 | none=>exact p.elim
 | some b=>exact⟨b,rfl,p⟩
def au.at (p:au Y E G H (.ok a h) P) (e:Ext G H G1 H1) (b:ah Y G1 h H1):P a h G1 H1:=p G1 H1 e b
def nB (e:Ext G H G1 H1) (s:ar Y G1 τ h U H1) (u:ar Y G τ h' U H)(r:ai Y G1 H1 w v) (f:aJ τ U H w v) (c:w.d=k0 d):
 ∃G2,Ext G H G2 H1/\ar Y G2 τ h U H1/\aA Y G2 H1 d v/\Mon G1 H1 G2 H1:=by
 cases w with
 | v A=>cases c;exact⟨G1,e,s,r,⟨λ_ _ _ z=>z,Aa8 _,λ_ _=>rfl,λ_ z=>z⟩⟩
 | own m=>
  cases c
  obtain⟨a,p,rfl,y,t,g,x⟩:=r
  obtain⟨b,n,j⟩:=f
  cases n
  refine⟨G1.more a,e.more j,s.more t ⟨_,g⟩ λi w q l z=> ?_,⟨a,p,rfl,.inl ⟨.inr rfl,.inl g⟩,x.mon (Xm a)⟩,Xm a⟩
  obtain⟨o,k⟩:=u.cJ q l z
  rw [j]at k;cases k
 | bor m=>cases c
end
open PySem PySem.Spec PyProof.Rows
mutual
def RV (hp:Heap):M.D->Value->Prop
 | .ak,u=>u= .none
 | .bl b,u=>u= .bool b
 | .int i,u=> ∃t,u= .int i t
 | .str s,u=> ∃t,u= .str (aB s) t
 | .tup ds,u=> ∃(a:Addr) (its:List Value),u= .ref a/\IsTup hp a its.toArray/\b7 hp ds its
 | .lst ds,u=> ∃(a:Addr) (its:List Value),u= .ref a/\hp.IsList a its.toArray/\b7 hp ds its
 | .ref _,_=>False
 | .exc _ _,_=>False
 | .err _ _ _,_=>False
def b7 (hp:Heap):List M.D->List Value->Prop
 | [],us=>us= []
 | d::ds,us=> ∃u r,us=u::r/\RV hp d u/\b7 hp ds r
end
theorem b7.length : ∀ {ds}{j},b7 hp ds j->ds.length=j.length
 | [],_,rfl=>rfl
 | _::_,_,⟨_,_,rfl,_,z⟩=>congrArg (· +1) (b7.length z)
theorem b7.get : ∀ {ds}{us}{j:Nat}{u},b7 hp ds us->us[j]? =k0 u-> ∃d,ds[j]? =k0 d/\RV hp d u
 | [],_,_,_,rfl,e=>by simp at e
 | d::_,_,0,_,⟨v,_,rfl,z,_⟩,e=>by simp at e;subst e;exact⟨d,rfl,z⟩
 | _::_,_,j+1,_,⟨_,_,rfl,_,z⟩,e=>by
  obtain⟨v,a,b⟩:=b7.get z (by simpa using e)
  exact⟨v,by simpa using a,b⟩
section
variable {X:Cx}{Y:Ge}{G:Gh}{H:Hp}{h:M.AH}{k8:List (Addr×Obj)}{U:St}{s:Shared}
mutual
theorem aA.iV (I:Inv X k8 U H s) (hK:X.K=Y.K): ∀ {d:M.D}{x:V}{u:Value},aA Y G H d x->RelV x u->M.Gc d=u0->RV s.heap d u
 | .ak,_,_,rfl,r,_=>r
 | .bl _,_,_,rfl,r,_=>r
 | .int _,_,_,rfl,r,_=>r
 | .str _,_,_,rfl,r,_=>r
 | .tup ds,_,_,⟨a,vs,rfl,z2,z3⟩,r,n=>by
  cases r
  obtain⟨its,r1,p1,_⟩:=I.tuple (hK▸z2.sq)
  exact⟨a,its,rfl,p1,aa.iV I hK z3 r1 (by simpa [M.Gc]using n)⟩
 | .lst ds,_,_,⟨a,vs,rfl,z2,z3⟩,r,n=>by
  cases r
  obtain⟨its,r1,p1,_⟩:=I.list (hK▸z2.sq)
  exact⟨a,its,rfl,p1.isList,aa.iV I hK z3 r1 (by simpa [M.Gc]using n)⟩
 | .ref _,_,_,_,_,n=>by simp [M.Gc]at n
 | .exc _ _,_,_,_,_,n=>by simp [M.Gc]at n
 | .err _ _ _,_,_,_,_,n=>by simp [M.Gc]at n
theorem aa.iV (I:Inv X k8 U H s) (hK:X.K=Y.K): ∀ {ds:List M.D}{xs:List V}{us:List Value},aa Y G H ds xs->Vals xs us->M.Gf ds=u0->b7 s.heap ds us
 | [],_,_,rfl,.nil,_=>rfl
 | d::ds,_,_,⟨v,r,rfl,z1,z2⟩,.cons r1 r2,n=>by
  have n':M.Gc d=u0/\M.Gf ds=true:=by simpa [M.Gf]using n
  exact⟨_,_,rfl,aA.iV I hK z1 r1 n'.1,aa.iV I hK z2 r2 n'.2⟩
end
mutual
theorem aA.rv (I:Inv X k8 U H s) (hK:X.K=Y.K) (hr:ah Y G h H): ∀ {d:M.D}{x:V}{u:Value},aA Y G H d x->RelV x u->M.Gc (M.res h d)=u0->RV s.heap (M.res h d) u
 | .ak,_,_,rfl,r,_=>r
 | .bl _,_,_,rfl,r,_=>r
 | .int _,_,_,rfl,r,_=>r
 | .str _,_,_,rfl,r,_=>r
 | .tup ds,_,_,⟨a,vs,rfl,z2,z3⟩,r,n=>by
  cases r
  obtain⟨its,r1,p1,_⟩:=I.tuple (hK▸z2.sq)
  rw [M.res]at n ⊢
  exact⟨a,its,rfl,p1,aa.rv I hK hr z3 r1 (by simpa [M.Gc]using n)⟩
 | .lst ds,_,_,⟨a,vs,rfl,z2,z3⟩,r,n=>by
  cases r
  obtain⟨its,r1,p1,_⟩:=I.list (hK▸z2.sq)
  rw [M.res]at n ⊢
  exact⟨a,its,rfl,p1.isList,aa.rv I hK hr z3 r1 (by simpa [M.Gc]using n)⟩
 | .ref i,_,_,⟨hi,e⟩,r,n=>by
  subst e
  cases r
  rw [M.res]at n ⊢
  cases q:h[i]? with
  | none=>rw [q]at n;simp [M.Gc]at n
  | some c=>
   cases c with
   | lst xs=>
    rw [q]at n
    obtain⟨_,vs,z2,z3⟩:=hr.cell i xs q
    obtain⟨its,r1,p1,_⟩:=I.list (bz.of (K:=X.K) z2)
    exact⟨_,its,rfl,p1.isList,aa.iV I hK z3 r1 (by simpa [M.Gc]using n)⟩
   | ip ks=>rw [q]at n;simp [M.Gc]at n
   | obj c fs=>rw [q]at n;simp [M.Gc]at n
   | iK ks=>rw [q]at n;simp [M.Gc]at n
   | aG ks=>rw [q]at n;simp [M.Gc]at n
 | .exc _ _,_,_,_,_,n=>by simp [M.res,M.Gc]at n
 | .err _ _ _,_,_,_,_,n=>by simp [M.res,M.Gc]at n
theorem aa.rv (I:Inv X k8 U H s) (hK:X.K=Y.K) (hr:ah Y G h H): ∀ {ds:List M.D}{xs:List V}{us:List Value},aa Y G H ds xs->Vals xs us->M.Gf (M.GW h ds)=u0->b7 s.heap (M.GW h ds) us
 | [],_,_,rfl,.nil,_=>rfl
 | d::ds,_,_,⟨v,r,rfl,z1,z2⟩,.cons r1 r2,n=>by
  rw [M.GW]at n ⊢
  have n':M.Gc (M.res h d)=u0/\M.Gf (M.GW h ds)=true:=by simpa [M.Gf]using n
  exact⟨_,_,rfl,aA.rv I hK hr z1 r1 n'.1,aa.rv I hK hr z2 r2 n'.2⟩
end
theorem ai.rv (I:Inv X k8 U H s) (j:X.K=Y.K) (i:ah Y G h H)(z:ai Y G H w x) (r:RelV x u) (n:M.Gc (w.dd h)=u0):RV s.heap (w.dd h) u:=by
 cases w with
 | v d=>exact aA.rv I j i z r n
 | own k=>
  obtain⟨a,l,rfl,_,_,c,e⟩:=z
  cases r
  obtain⟨b,f,g,_⟩:=I.list (bz.of c)
  exact⟨a,b,rfl,g.isList,aa.rv I j i e f (by simp_all)⟩
 | bor k=>
  obtain⟨a,l,rfl,_,c,e⟩:=z
  cases r
  obtain⟨b,f,g,_⟩:=I.list (.inl c)
  exact⟨a,b,rfl,g.isList,aa.rv I j i e f (by simp_all)⟩
end
def zC (h:aB a=aB b):a=b:=by
 have:=congrArg Str.cps h
 simpa [aB]using this
def qV {xs c:List Value}(h1:IsTup hp a xs.toArray) (d:IsTup hp a c.toArray):xs=c:=by
 obtain⟨o,e1,_,n,e⟩:=h1
 obtain⟨f,e2,_,g,b⟩:=d
 rw [e1]at e2;cases e2
 rw [e]at b;cases b
 rfl
def ZN {b:Heap}{xs d:List Value}(h1:b.IsList a xs.toArray) (e:b.IsList a d.toArray):xs=d:=by
 obtain⟨o,e1,_,n,f⟩:=h1
 obtain⟨g,e2,_,h,c⟩:=e
 rw [e1]at e2;cases e2
 rw [f]at c;cases c
 rfl
def QD (h1:IsTup hp a xs) (c:hp.IsList a ys):False:=by
 obtain⟨o,e1,d,_⟩:=h1
 obtain⟨e,e2,b,_⟩:=c
 rw [e1]at e2;cases e2
 rw [d]at b
 exact absurd b (by decide)
mutual
theorem RV.inj {hp:Heap}: ∀ {d e:M.D}{u:Value},RV hp d u->RV hp e u->d=e
 | .ak,e,_,rfl,q=>by cases e<;>first | rfl | (simp [RV]at q)
 | .bl _,e,_,rfl,q=>by cases e<;>first | (simp [RV]at q;done) | (have q:=q;simp [RV]at q;try rw [q])
 | .int _,e,_,⟨t,rfl⟩,q=>by cases e<;>first | (simp [RV]at q;done) | (have q:=q;simp [RV]at q;try rw [q])
 | .str _,e,_,⟨t,rfl⟩,q=>by
  cases e with
  | str z=>
   obtain⟨t',q⟩:=q
   injection q with q1 q2
   rw [zC q1]
  | _=>simp [RV]at q
 | .tup ds,e,_,⟨a,its,rfl,p,r⟩,q=>by
  cases e with
  | tup es=>
   obtain⟨b,its2,e,p2,r2⟩:=q
   cases e
   cases qV p p2
   rw [b7.inj r r2]
  | lst es=>
   obtain⟨b,its2,e,p2,r2⟩:=q
   cases e
   exact(QD p p2).elim
  | _=>simp [RV]at q
 | .lst ds,e,_,⟨a,its,rfl,p,r⟩,q=>by
  cases e with
  | lst es=>
   obtain⟨b,its2,e,p2,r2⟩:=q
   cases e
   cases ZN p p2
   rw [b7.inj r r2]
  | tup es=>
   obtain⟨b,its2,e,p2,r2⟩:=q
   cases e
   exact(QD p2 p).elim
  | _=>simp [RV]at q
 | .ref _,_,_,q,_=>q.elim
 | .exc _ _,_,_,q,_=>q.elim
 | .err _ _ _,_,_,q,_=>q.elim
theorem b7.inj {hp:Heap}: ∀ {d e:List M.D}{u:List Value},b7 hp d u->b7 hp e u->d=e
 | [],e,_,rfl,q=>by
  cases e with
  | nil=>rfl
  | cons a b=>obtain⟨_,_,z,_⟩:=q;cases z
 | d::ds,e,_,⟨u,r,rfl,z1,z2⟩,q=>by
  cases e with
  | nil=>cases (show _::_= []from q)
  | cons a b=>
   obtain⟨_,_,z,y1,y2⟩:=q
   cases z
   rw [RV.inj z1 y1,b7.inj z2 y2]
end
mutual
theorem RV.refl {hp:Heap}: ∀ {d:M.D}{u:Value},RV hp d u->M.bL d d=u0
 | .ak,_,_=>rfl
 | .bl _,_,_=>by simp
 | .int _,_,_=>by simp
 | .str _,_,_=>by simp
 | .tup ds,_,⟨_,_,_,_,r⟩=>by rw [M.bL];exact b7.refl r
 | .lst ds,_,⟨_,_,_,_,r⟩=>by rw [M.bL];exact b7.refl r
 | .ref _,_,q=>q.elim
 | .exc _ _,_,q=>q.elim
 | .err _ _ _,_,q=>q.elim
theorem b7.refl {hp:Heap}: ∀ {d:List M.D}{u:List Value},b7 hp d u->M.GK d d=u0
 | [],_,_=>rfl
 | d::ds,_,⟨_,_,_,z1,z2⟩=>by rw [M.GK,RV.refl z1,b7.refl z2];rfl
end
def iI (xs c:List M.D) (j:Nat):Bool:=match xs[j]?,c[j]? with
 | some a,k0 b=>M.bL a b
 | _,_=>u0
def ZK (n) (e):(Aa5 (n+1)).all e=(e 0&&(Aa5 n).all λj=>e (j+1)):=by
 rw [Ag6,Ag1,An];rfl
theorem W4: ∀(xs ys),xs.length=ys.length->(Aa5 xs.length).all (iI xs ys)=M.GK xs ys
 | [],[],_=>rfl
 | [],_::_,h=>by simp at h
 | _::_,[],h=>by simp at h
 | x::xs,y::ys,h=>by
  rw [Ab,ZK,M.GK]
  have a:=W4 xs ys (by simpa using h)
  rw [← a]
  rfl
theorem rA: ∀(xs ys),M.GK xs ys=u0->xs.length=ys.length
 | [],[],_=>rfl
 | [],_::_,h=>by simp at h
 | _::_,[],h=>by simp at h
 | x::xs,y::ys,h=>by
  rw [M.GK,Aa0]at h
  rw [Ab,Ab,rA xs ys h.2]
def pJ (h:xs.length≠ys.length):M.GK xs ys=false:=by
 cases e:M.GK xs ys with
 | false=>rfl
 | true=>exact absurd (rA xs ys e) h
open SeqAt in
structure dO (A:Around) (s:Shared) (u v:Value) (b:Bool):Prop where
 rc:RcAt A s u v b
 ne:RcNeAt A s u v (!b)
 eq:EqAt A s u v b
section
open SeqAt
variable {A:Around}{s:Shared}
theorem ZF: ∀ {ds}{j:Nat}{d},ds[j]? =k0 d->M.dep d<=M.GD ds
 | [],_,_,e=>by simp at e
 | x::a,0,d,e=>by simp at e;subst e;simp only [M.GD];omega
 | x::a,j+1,d,e=>by
  have:=ZF (by simpa using e)
  simp only [M.GD]
  omega
def ly (b:Bool):((if b then(1:Int)else 0))=((b.toNat:Nat):Int):=by cases b<;>rfl
def uD (a b):(aB a==aB b)=(a==b):=by
 by_cases h:a=b
 ·subst h;simp
 ·have c:=λe=>h (zC e)
  rw [beq_eq_false_iff_ne.mpr h,beq_eq_false_iff_ne.mpr c]
def Ey (f:s.heap.IsList l its.toArray) (g:s.heap.IsList b its2.toArray) (i:b7 s.heap xs its) (m:b7 s.heap ys its2) (k:A.units<cLine)
 (z: ∀(j:Nat) a c u v,xs[j]? =k0 a->ys[j]? =k0 c->RV s.heap a u->RV s.heap c v->EqAt A.in1 s u v (M.bL a c)):dO A s (.ref l) (.ref b) (M.GK xs ys):=by
 have o: ∀ j t (y:j<its2.toArray.size),EqAt A.in1 s its.toArray[j] its2.toArray[j] (iI xs ys j):=λj t y=>by
  obtain⟨a,p,x⟩:=i.get (j:=j) (u:=its.toArray[j]) (by simp)
  obtain⟨c,q,w⟩:=m.get (j:=j) (u:=its2.toArray[j]) (by simp)
  have:=z j a c _ _ p q x w
  unfold iI
  rw [p,q]
  exact this
 have r:=i.length
 have l2:=m.length
 have two:RcAt A s (.ref l) (.ref b) (M.GK xs ys)/\RcNeAt A s (.ref l) (.ref b) (!M.GK xs ys):=by
  by_cases n:xs.length=ys.length
  ·have d:its.toArray.size=its2.toArray.size:=by simp;lia
   have e:(Aa5 its.toArray.size).all (iI xs ys)=M.GK xs ys:=by
    rw [Ac0,←r];exact W4 xs ys n
   have a:=RcAt.lists f g d k o
   have c:=RcNeAt.lists f g d k o
   rw [e]at a c
   exact⟨a,c⟩
  ·have d:(its.toArray.size != its2.toArray.size)=true:=by simp;lia
   rw [pJ n]
   exact⟨RcAt.lists_lengths f g d k,RcNeAt.lists_lengths f g d k⟩
 refine⟨two.1,two.2,?_⟩
 by_cases h:l=b
 ·subst h
  cases ZN f g
  cases b7.inj i m
  rw [b7.refl i]
  exact EqAt.same _
 ·exact EqAt.of_refs h two.1
def As (h:IsTup s.heap l its.toArray) (i:IsTup s.heap b its2.toArray) (g:b7 s.heap xs its) (k:b7 s.heap ys its2) (p:A.units<cLine)
 (y: ∀(j:Nat) a c u v,xs[j]? =k0 a->ys[j]? =k0 c->RV s.heap a u->RV s.heap c v->EqAt A.in1 s u v (M.bL a c)):dO A s (.ref l) (.ref b) (M.GK xs ys):=by
 have m: ∀ j r (x:j<its2.toArray.size),EqAt A.in1 s its.toArray[j] its2.toArray[j] (iI xs ys j):=λj r x=>by
  obtain⟨a,n,w⟩:=g.get (j:=j) (u:=its.toArray[j]) (by simp)
  obtain⟨c,o,t⟩:=k.get (j:=j) (u:=its2.toArray[j]) (by simp)
  have:=y j a c _ _ n o w t
  unfold iI
  rw [n,o]
  exact this
 have q:=g.length
 have l2:=k.length
 have e:((Aa5 (min its.toArray.size its2.toArray.size)).all (iI xs ys)&&its.toArray.size==its2.toArray.size)=M.GK xs ys:=by
  rw [Ac0,Ac0,←q,←l2]
  by_cases f:xs.length=ys.length
  ·rw [← f,Nat.min_self,W4 xs ys f];simp
  ·rw [pJ f];simp [f]
 have a:=RcAt.tuples h i p m
 have c:=RcNeAt.tuples h i p m
 rw [e]at a c
 refine⟨a,c,?_⟩
 by_cases d:l=b
 ·subst d
  cases qV h i
  cases b7.inj g k
  rw [b7.refl g]
  exact EqAt.same _
 ·exact EqAt.of_refs d a
def dO.of (h:dO A s u v b) (e:b=b'):dO A s u v b':=e▸h
def m1: ∀(n:Nat) (d e:M.D) (A:Around) (u v:Value),M.dep d<=n->A.units+n<cLine->RV s.heap d u->RV s.heap e v->dO A s u v (M.bL d e):=by
 intro n
 induction n with
 | zero=>
  intro d e A u v B K m f
  have c:A.units<cLine:=by omega
  cases d with
  | ak=>
   cases (show u= .none from m)
   cases e with
   | ak=>cases (show v= .none from f);exact⟨RcAt.none_none,RcNeAt.none_none,EqAt.same _⟩
   | bl b=>cases (show v= .bool b from f);exact⟨RcAt.none_bool b,RcNeAt.none_bool b,EqAt.none_bool b⟩
   | int i=>obtain⟨t,rfl⟩:=f;exact⟨RcAt.none_int i t,RcNeAt.none_int i t,EqAt.none_int i t⟩
   | str z=>obtain⟨t,rfl⟩:=f;exact⟨RcAt.none_str _ t,RcNeAt.none_str _ t,EqAt.none_str _ t⟩
   | tup o=>obtain⟨a,k,rfl,p,_⟩:=f;exact⟨RcAt.none_tuple p c,RcNeAt.none_tuple p c,EqAt.none_tuple p c⟩
   | lst o=>obtain⟨a,k,rfl,p,_⟩:=f;exact⟨RcAt.none_list p c,RcNeAt.none_list p c,EqAt.none_list p c⟩
   | ref _=>exact f.elim
   | exc _ _=>exact f.elim
   | err _ _ _=>exact f.elim
  | bl x=>
   cases (show u= .bool x from m)
   cases e with
   | ak=>cases (show v= .none from f);exact⟨RcAt.bool_none x,RcNeAt.bool_none x,EqAt.bool_none x⟩
   | bl b=>cases (show v= .bool b from f);exact⟨RcAt.bool_bool x b,RcNeAt.bool_bool x b,EqAt.bool_bool x b⟩
   | int i=>obtain⟨t,rfl⟩:=f;exact(dO.mk (RcAt.bool_int x i t) (RcNeAt.bool_int x i t) (EqAt.bool_int x i t)).of (by rw [ly];rfl)
   | str z=>obtain⟨t,rfl⟩:=f;exact⟨RcAt.bool_str x _ t,RcNeAt.bool_str x _ t,EqAt.bool_str x _ t⟩
   | tup o=>obtain⟨a,k,rfl,p,_⟩:=f;exact⟨RcAt.bool_tuple x p c,RcNeAt.bool_tuple x p c,EqAt.bool_tuple x p c⟩
   | lst o=>obtain⟨a,k,rfl,p,_⟩:=f;exact⟨RcAt.bool_list x p c,RcNeAt.bool_list x p c,EqAt.bool_list x p c⟩
   | ref _=>exact f.elim
   | exc _ _=>exact f.elim
   | err _ _ _=>exact f.elim
  | int x=>
   obtain⟨g,rfl⟩:=m
   cases e with
   | ak=>cases (show v= .none from f);exact⟨RcAt.int_none x g,RcNeAt.int_none x g,EqAt.int_none x g⟩
   | bl b=>cases (show v= .bool b from f);exact(dO.mk (RcAt.int_bool x g b) (RcNeAt.int_bool x g b) (EqAt.int_bool x g b)).of (by rw [ly];rfl)
   | int i=>obtain⟨t,rfl⟩:=f;exact⟨RcAt.int_int x g i t,RcNeAt.int_int x g i t,EqAt.int_int x g i t⟩
   | str z=>obtain⟨t,rfl⟩:=f;exact⟨RcAt.int_str x g _ t,RcNeAt.int_str x g _ t,EqAt.int_str x g _ t⟩
   | tup o=>obtain⟨a,k,rfl,p,_⟩:=f;exact⟨RcAt.int_tuple x g p c,RcNeAt.int_tuple x g p c,EqAt.int_tuple x g p c⟩
   | lst o=>obtain⟨a,k,rfl,p,_⟩:=f;exact⟨RcAt.int_list x g p c,RcNeAt.int_list x g p c,EqAt.int_list x g p c⟩
   | ref _=>exact f.elim
   | exc _ _=>exact f.elim
   | err _ _ _=>exact f.elim
  | str x=>
   obtain⟨g,rfl⟩:=m
   cases e with
   | ak=>cases (show v= .none from f);exact⟨RcAt.str_none _ g,RcNeAt.str_none _ g,EqAt.str_none _ g⟩
   | bl b=>cases (show v= .bool b from f);exact⟨RcAt.str_bool _ g b,RcNeAt.str_bool _ g b,EqAt.str_bool _ g b⟩
   | int i=>obtain⟨t,rfl⟩:=f;exact⟨RcAt.str_int _ g i t,RcNeAt.str_int _ g i t,EqAt.str_int _ g i t⟩
   | str z=>obtain⟨t,rfl⟩:=f;exact(dO.mk (RcAt.str_str _ g _ t) (RcNeAt.str_str _ g _ t) (EqAt.str_str _ g _ t)).of (by rw [uD];rfl)
   | tup o=>obtain⟨a,k,rfl,p,_⟩:=f;exact⟨RcAt.str_tuple _ g p c,RcNeAt.str_tuple _ g p c,EqAt.str_tuple _ g p c⟩
   | lst o=>obtain⟨a,k,rfl,p,_⟩:=f;exact⟨RcAt.str_list _ g p c,RcNeAt.str_list _ g p c,EqAt.str_list _ g p c⟩
   | ref _=>exact f.elim
   | exc _ _=>exact f.elim
   | err _ _ _=>exact f.elim
  | tup y=>simp only [M.dep]at B;omega
  | lst y=>simp only [M.dep]at B;omega
  | ref _=>exact m.elim
  | exc _ _=>exact m.elim
  | err _ _ _=>exact m.elim
 | succ n w=>
  intro d e A u v B K m f
  have c:A.units<cLine:=by omega
  cases d with
  | tup y=>
   obtain⟨l,C,rfl,h,F⟩:=m
   have r:M.GD y<=n:=by simp only [M.dep]at B;omega
   cases e with
   | ak=>cases (show v= .none from f);exact⟨RcAt.tuple_none h c,RcNeAt.tuple_none h c,EqAt.tuple_none h c⟩
   | bl b=>cases (show v= .bool b from f);exact⟨RcAt.tuple_bool b h c,RcNeAt.tuple_bool b h c,EqAt.tuple_bool b h c⟩
   | int i=>obtain⟨t,rfl⟩:=f;exact⟨RcAt.tuple_int i t h c,RcNeAt.tuple_int i t h c,EqAt.tuple_int i t h c⟩
   | str z=>obtain⟨t,rfl⟩:=f;exact⟨RcAt.tuple_str _ t h c,RcNeAt.tuple_str _ t h c,EqAt.tuple_str _ t h c⟩
   | tup o=>
    obtain⟨a,k,rfl,p,q⟩:=f
    rw [M.bL]
    exact As h p F q c λj D G H J e1 e2 E I=>(w D G A.in1 H J (Ab9 (ZF e1) r) (by show A.units+1+n<cLine;omega) E I).eq
   | lst o=>obtain⟨a,k,rfl,p,_⟩:=f;exact⟨RcAt.tuple_list h p c,RcNeAt.tuple_list h p c,EqAt.tuple_list h p c⟩
   | ref _=>exact f.elim
   | exc _ _=>exact f.elim
   | err _ _ _=>exact f.elim
  | lst y=>
   obtain⟨l,C,rfl,h,F⟩:=m
   have r:M.GD y<=n:=by simp only [M.dep]at B;omega
   cases e with
   | ak=>cases (show v= .none from f);exact⟨RcAt.list_none h c,RcNeAt.list_none h c,EqAt.list_none h c⟩
   | bl b=>cases (show v= .bool b from f);exact⟨RcAt.list_bool b h c,RcNeAt.list_bool b h c,EqAt.list_bool b h c⟩
   | int i=>obtain⟨t,rfl⟩:=f;exact⟨RcAt.list_int i t h c,RcNeAt.list_int i t h c,EqAt.list_int i t h c⟩
   | str z=>obtain⟨t,rfl⟩:=f;exact⟨RcAt.list_str _ t h c,RcNeAt.list_str _ t h c,EqAt.list_str _ t h c⟩
   | lst o=>
    obtain⟨a,k,rfl,p,q⟩:=f
    rw [M.bL]
    exact Ey h p F q c λj D G H J e1 e2 E I=>(w D G A.in1 H J (Ab9 (ZF e1) r) (by show A.units+1+n<cLine;omega) E I).eq
   | tup o=>obtain⟨a,k,rfl,p,_⟩:=f;exact⟨RcAt.list_tuple h p c,RcNeAt.list_tuple h p c,EqAt.list_tuple h p c⟩
   | ref _=>exact f.elim
   | exc _ _=>exact f.elim
   | err _ _ _=>exact f.elim
  | ak=>exact w .ak e A u v (by simp) (by omega) m f
  | bl x=>exact w _ e A u v (by simp) (by omega) m f
  | int x=>exact w _ e A u v (by simp) (by omega) m f
  | str x=>exact w _ e A u v (by simp) (by omega) m f
  | ref _=>exact m.elim
  | exc _ _=>exact m.elim
  | err _ _ _=>exact m.elim
end
def az (Y:Ge) (E:XK) (G:Gh) (H:Hp) (r:M.R M.W) (Q:VK):Prop:=au Y E G H r λw _ G' H'=> ∀v,ai Y G' H' w v->aJ [] [] H w v->Q v H'
section
variable {X:Cx}{Y:Ge}{G:Gh}{H:Hp}{h:M.AH}{k8:List (Addr×Obj)}{U:St}{s:Shared}{Q:VK}{E:XK}
theorem az.v (p:az Y E G H (.ok (.v d) h) Q) (a:ah Y G h H){v:V}(z:aA Y G H d v):Q v H:=p G H Ext.refl a v z trivial
def ah.hX (b:ah Y G h H)(c:H a=y0): ¬G.fz a:=λq=>by
 obtain⟨o,z⟩:=b.live a q
 rw [c]at z;cases z
def ah.fX (c:ah Y G h H)(d:H a=y0):dD G a:=λr b e=>by
 obtain⟨o,q⟩:=c.there b
 rw [e,d]at q;cases q
theorem az.own (p:az Y E G H (.ok (.own xs) h) Q) (c:ah Y G h H) (z:aa Y G H xs vs) (a) (b:H a=y0):Q (.ref a) (aR H a (.lst vs)):=
 p G _ (Zp _ b) (c.new _ b) _ ⟨a,vs,rfl,c.hX b,c.fX b,qd,z.ext (Zp _ b) c⟩ ⟨a,rfl,b⟩
theorem az.tup (p:az Y E G H (.ok (.v (.tup xs)) h) Q) (c:ah Y G h H) (z:aa Y G H xs vs) (a) (b:H a=y0):Q (.ref a) (aR H a (.tup vs)):=
 p _ _ (ZR _ b) (c.ou _ b) _ ⟨a,vs,rfl,.inl ⟨.inr rfl,qd⟩,z.ext (ZR _ b) c⟩ trivial
theorem az.of (p:az Y E G H ((M.R.of h o).bind f) Q): ∃b,o=k0 b/\az Y E G H (f b h) Q:=au.of p
def az.mk (p:au Y E G0 H0 r λw _ G' H'=> ∀v,ai Y G' H' w v->aJ τ U H0 w v->Q v H') (e:Ext G0 H0 G H) (g:ah Y G0 h0 H0):az Y E G H r Q:=by
 cases r with
 | ok w j=>
  refine λG' H' c b v l h=>p G' H' (e.trans g c) b v l ?_
  cases w with
  | v d=>trivial
  | own k=>obtain⟨a,f,m⟩:=h;exact⟨a,f,e.none g m⟩
  | bor k=>obtain⟨i,w,f,_⟩:=h;simp at f
 | exc d j=>exact λG' H' c b=>p G' H' (e.trans g c) b
 | fail=>exact p
theorem ai.lst (k:ah Y G h H)(z:ai Y G H w v) (e:w.cE h=k0 xs): ∃a vs,v= .ref a/\bz Y.K H a vs/\aa Y G H xs vs:=by
 cases w with
 | v d=>
  cases d with
  | lst i=>cases e;obtain⟨a,vs,g,f,b⟩:=z;exact⟨a,vs,g,f.sq,b⟩
  | ref r=>
   obtain⟨l,g⟩:=z
   have e:(match h[r]? with | some (M.Cell.lst zs)=>k0 zs | _=>y0)=k0 xs:=e
   cases q:h[r]? with
   | none=>rw [q]at e;cases e
   | some c=>
    cases c with
    | lst i=>
     rw [q]at e
     cases e
     obtain⟨_,vs,f,b⟩:=k.cell r _ q
     exact⟨_,vs,g,bz.of f,b⟩
    | ip j=>rw [q]at e;cases e
    | obj c fs=>rw [q]at e;cases e
    | iK j=>rw [q]at e;cases e
    | aG j=>rw [q]at e;cases e
  | ak=>cases e
  | bl _=>cases e
  | int _=>cases e
  | str _=>cases e
  | tup _=>cases e
  | exc _ _=>cases e
  | err _ _ _=>cases e
 | own i=>cases e;obtain⟨a,vs,g,_,_,f,b⟩:=z;exact⟨a,vs,g,bz.of f,b⟩
 | bor i=>cases e;obtain⟨a,vs,g,_,f,b⟩:=z;exact⟨a,vs,g,.inl f,b⟩
theorem ai.oH (k:ah Y G h H)(z:ai Y G H w v) (e:w.gQ h=k0 xs): ∃a vs,v= .ref a/\Rd H a (.lst vs)/\aa Y G H xs vs:=by
 cases w with
 | v d=>
  cases d with
  | ref r=>
   obtain⟨l,g⟩:=z
   have e:(match h[r]? with | some (M.Cell.lst zs)=>k0 zs | _=>y0)=k0 xs:=e
   cases q:h[r]? with
   | none=>rw [q]at e;cases e
   | some c=>
    cases c with
    | lst j=>
     rw [q]at e
     cases e
     obtain⟨_,vs,f,b⟩:=k.cell r _ q
     exact⟨_,vs,g,.inl f,b⟩
    | ip i=>rw [q]at e;cases e
    | obj c fs=>rw [q]at e;cases e
    | iK i=>rw [q]at e;cases e
    | aG i=>rw [q]at e;cases e
  | _=>cases e
 | own j=>cases e;obtain⟨a,vs,g,_,_,f,b⟩:=z;exact⟨a,vs,g,.inl f,b⟩
 | bor j=>cases e;obtain⟨a,vs,g,_,f,b⟩:=z;exact⟨a,vs,g,f,b⟩
theorem ai.seq (j:ah Y G h H)(z:ai Y G H w v) (e:w.seq? h=k0 xs): ∃a vs,v= .ref a/\(bz Y.K H a vs\/cx Y.K H a vs)/\aa Y G H xs vs:=by
 have b:w.cE h=k0 xs-> ∃a vs,v= .ref a/\(bz Y.K H a vs\/cx Y.K H a vs)/\aa Y G H xs vs:=λe=>by
  obtain⟨a,vs,g,f,c⟩:=z.lst j e
  exact⟨a,vs,g,.inl f,c⟩
 cases w with
 | v d=>
  cases d with
  | tup i=>cases e;obtain⟨a,vs,g,f,c⟩:=z;exact⟨a,vs,g,.inr f.sq,c⟩
  | lst i=>exact b e
  | ref r=>exact b e
  | ak=>cases e
  | bl _=>cases e
  | int _=>cases e
  | str _=>cases e
  | exc _ _=>cases e
  | err _ _ _=>cases e
 | own i=>exact b e
 | bor i=>exact b e
def D6 (I:Inv X k8 U H s)(r:Rd H a (.lst vs)):vs.length<=sizeLine/\ ∃ j n,Vals vs j/\vs.length=j.length/\s.heap.get? a=k0 { cls:= .type "list",data:= .seq j.toArray n }:=by
 obtain⟨z,j,n,r,e⟩:=r.ok I.bf
 exact⟨z,j,n,r,r.length,e⟩
def Xi:M.ba<=sizeLine:=by rw [M.Gg];decide
def CO (K:Aa6):R2:=λx y H Q=> ∃l b xs zs,x= .ref l/\y= .ref b/\bz K H l xs/\bz K H b zs/\xs.length+zs.length<=sizeLine/\ ∀p,H p=y0->Q (.ref p) (aR H p (.lst (xs++zs)))
def Fb:bK X (binaryOp .Add) (CO X.K):=by
 intro o s U H x y v u Q I w D h
 obtain⟨l,b,N,O,rfl,rfl,C,z,M,q⟩:=h
 cases w
 cases D
 obtain⟨c,r,E,_⟩:=I.list C
 obtain⟨a,m,G,_⟩:=I.list z
 have L:=r.length
 have l2:=m.length
 have A:c.toArray++a.toArray=(c++a).toArray:=by simp
 obtain⟨⟨K,dd,k,sl⟩,p,J,n,B⟩:=id E.isList
 obtain⟨⟨t,e,i,g⟩,d,f,F,j⟩:=id G.isList
 subst J B f j
 refine concat_meets ⟨_,p,rfl⟩ ⟨_,d,rfl⟩ noFill_list_add seq_list_add PySem.F.slot_list_add PySem.F.entry_list_add (PySem.F.args_list_add_2 _ _) (list_addW l b c.toArray a.toArray n F dd e sl g (by simp_all)) ⟨p,d,?_⟩
 rw [A]
 exact⟨.ref _,_,I.kR (r.append m) (by simp_all),rfl,q _ I.fresh⟩
def Ls:R2:=λx y H Q=> ∃l k xs,x= .ref l/\y= .int k/\Rd H l (.lst xs)/\ -(2 ^ 63)<=k/\k<2 ^ 63/\xs.length*k.toNat<=sizeLine ∧
 ∀p,H p=y0->Q (.ref p) (aR H p (.lst (Aa2 k.toNat xs).flatten))
def Ct:bK X (binaryOp .Mult) Ls:=by
 intro o s U H x y v u Q I p E h
 obtain⟨l,k,M,rfl,rfl,D,B,K,j,q⟩:=h
 cases p
 obtain⟨t,rfl⟩:=E
 obtain⟨z,b,n,r,C,e⟩:=D6 I D
 have d:b.toArray.size*k.toNat<=sizeLine:=by rw [Ac0,←C];exact j
 have f: ¬b.toArray.size*k.toNat>(2 ^ 63-1) / 8:=by
  have: sizeLine<=(2 ^ 63-1) / 8:=by decide
  lia
 have g: ¬(!Builtin.List.listFitsIndex k)=true:=by
  rw [fitsIndex_both B K]
  exact Ab2
 have c: ¬Builtin.List.listTooLong (b.toArray.size*k.toNat)=true:=by
  rw [um d]
  exact Ab2
 have i:List.foldl (λA w=>A++w) #[] (Aa2 (if b.toArray.isEmpty=u0 then 0 else k.toNat) b.toArray)=(Aa2 k.toNat b).flatten.toArray:=by
  have J:=λm=>by
   have:=wT b m []
   rw [Ae5]at this
   exact this
  rw [J]
  cases b with
  | nil=>simp
  | cons a L=>rw [if_neg (by simp)]
 refine wpAny_binaryOp_repeat_ref rfl ⟨_,e,rfl⟩ (λG=>typeIs_int G k t) noFill_list_mul F.fills_int_mul F.slot_int_rmul repeat_list F.slot_int_index.lookup
  (call_meets F.slot_int_rmul (typeIs_int s k t) F.entry_int_rmul (F.args_int_rmul_2 _ _) (int___rmul___int_list k t l b.toArray n)
    ⟨e,rfl,⟨_,e,rfl⟩,call_meets F.slot_list_mul ⟨_,e,rfl⟩ F.entry_list_mul (F.args_list_mul_2 _ _) (AutoListH.list___mul___list_int_3 l b.toArray n k t g f c) ⟨e,?_⟩⟩)
 rw [i]
 exact⟨.ref _,_,I.kR (r.rep k.toNat) (by rw [H9,Ak7];exact j),rfl,q _ I.fresh⟩
theorem aa.rep (z:aa Y G H ds vs): ∀k:Nat,aa Y G H (Aa2 k ds).flatten (Aa2 k vs).flatten
 | 0=>rfl
 | k+1=>by
  exact z.append (aa.rep z k)
def Qd (a b:Nat):Builtin.bitAnd (a:Int) (b:Int)=((a &&& b:Nat):Int):=by
 rfl
def KI (a:Nat) (j) (b: ¬0<=j):Builtin.bitAnd (a:Int) j=((a-(a &&& (-j-1).toNat):Nat):Int):=by
 have e:(Builtin.bitNot j).toNat=(-j-1).toNat:=by unfold Builtin.bitNot;lia
 unfold Builtin.bitAnd
 rw [decide_eq_true (Int.natCast_nonneg a),decide_eq_false b]
 show a-((a &&& (Builtin.bitNot j).toNat:Nat):Int)=_
 rw [e]
 have:= @Nat.and_le_left a (-j-1).toNat
 omega
def Xn (a b:Nat):Builtin.bitOr (a:Int) (b:Int)=((a ||| b:Nat):Int):=by
 have c: ¬ 0<=Builtin.bitNot a:=by unfold Builtin.bitNot;lia
 have d: ¬ 0<=Builtin.bitNot b:=by unfold Builtin.bitNot;lia
 have e1:(Builtin.bitNot (Builtin.bitNot a)).toNat=a:=by unfold Builtin.bitNot;lia
 have e2:(Builtin.bitNot (Builtin.bitNot b)).toNat=b:=by unfold Builtin.bitNot;lia
 unfold Builtin.bitOr Builtin.bitAnd
 rw [decide_eq_false c,decide_eq_false d]
 show Builtin.bitNot (Builtin.bitNot _)=_
 rw [e1,e2]
 unfold Builtin.bitNot
 lia
def Bx (h:M.Kd i j=k0 k):Builtin.bitAnd i j=k:=by
 unfold M.Kd at h
 split at h
 ·rename_i d
  obtain⟨a,rfl⟩:=Af2 d
  split at h
  ·rename_i c
   obtain⟨b,rfl⟩:=Af2 c
   cases h
   exact Qd a b
  ·rename_i c
   cases h
   exact KI a j c
 ·cases h
def CQ (h:M.kg i j=k0 k):Builtin.bitOr i j=k:=by
 unfold M.kg at h
 split at h
 ·rename_i c
  obtain⟨a,rfl⟩:=Af2 c.1
  obtain⟨b,rfl⟩:=Af2 c.2
  cases h
  exact Xn a b
 ·cases h
def EN: ∀a b:Nat,(a ||| b)=(a ^^^ b)+(a &&& b):=by
 intro a
 induction a using Nat.strongRecOn with
 | ind a j=>
  intro b
  by_cases h:a=0
  ·subst h;simp
  ·have i:=j (a / 2) (by lia) (b / 2)
   have k:= @Nat.or_div_two_pow a b 1
   have c:= @Nat.xor_div_two_pow a b 1
   have d:= @Nat.and_div_two_pow a b 1
   have f:= @Nat.or_mod_two_pow a b 1
   have g:= @Nat.xor_mod_two_pow a b 1
   have l:= @Nat.and_mod_two_pow a b 1
   rw [← k,←c,←d]at i
   have e:(a ||| b) % 2=(a ^^^ b) % 2+(a &&& b) % 2:=by
    rw [f,g,l]
    rcases Nat.mod_two_eq_zero_or_one a with u | u<;>rcases Nat.mod_two_eq_zero_or_one b with v | v<;>rw [u,v]<;>rfl
   lia
def IA (h:M.Kt i j=k0 k):Builtin.bitXor i j=k:=by
 unfold M.Kt at h
 split at h
 ·rename_i c
  obtain⟨a,rfl⟩:=Af2 c.1
  obtain⟨b,rfl⟩:=Af2 c.2
  cases h
  show Builtin.bitOr a b-Builtin.bitAnd a b=((a ^^^ b))
  rw [Xn,Qd,EN]
  lia
 ·cases h
noncomputable def my:M.Op->Operator
 | .add=> .Add | .sub=> .Sub | .mul=> .Mult | .fdiv=> .FloorDiv | .mod=> .Mod | .pow=> .Pow | .shl=> .LShift | .shr=> .RShift | .band=> .BitAnd | .bor=> .BitOr | .bxor=> .BitXor
def DO (Y:Ge) (E:XK) (o:M.Op):R2:=λx y H Q=> ∃G h a b,ah Y G h H/\ai Y G H a x/\ai Y G H b y/\az Y E G H (M.GM o a b h) Q
def Bn (s t):aB s++aB t=aB (s++t):=by
 show Str.mk _=Str.mk _
 simp [aB]
def Zd (s):(aB s).length=s.length:=by
 show s.toArray.size=s.length
 simp
def lK:M.Op->Bool
 | _=>u0
def BH (d:lK o=u0)(e:M.Gj o i j=k0 k)(I:Inv X k8 U H s) (a:RelV (.int i) v) (b:RelV (.int j) u) (q:Q (.int k) H):
 wpAny (model X.prog X.w) X.A (binaryOp (my o) v u) (EP X k8 U Q) X.xe s:=by
 cases o with
 | add=>cases e;exact En k8 s U H _ _ v u Q I a b ⟨i,j,rfl,rfl,q⟩
 | sub=>cases e;exact Au k8 s U H _ _ v u Q I a b ⟨i,j,rfl,rfl,q⟩
 | mul=>
  simp only [M.Gj,M.GU,M.GE]at e
  split at e
  ·rename_i c;cases e;exact A8 k8 s U H _ _ v u Q I a b ⟨i,j,rfl,rfl,c,q⟩
  ·cases e
 | fdiv=>
  simp only [M.Gj,M.GS,M.GE]at e
  split at e
  ·rename_i c;cases e;exact II k8 s U H _ _ v u Q I a b ⟨i,j,rfl,rfl,c,q⟩
  ·cases e
 | mod=>
  simp only [M.Gj,M.GE]at e
  split at e
  ·rename_i c;cases e;exact CS k8 s U H _ _ v u Q I a b ⟨i,j,rfl,rfl,c,q⟩
  ·cases e
 | pow=>
  simp only [M.Gj,M.G6,M.GE]at e
  split at e
  ·rename_i c;cases e;exact y6 k8 s U H _ _ v u Q I a b ⟨i,j,rfl,rfl,c,q⟩
  ·cases e
 | shl=>
  simp only [M.Gj,M.G6,M.GE]at e
  split at e
  ·rename_i c;cases e;exact Er k8 s U H _ _ v u Q I a b ⟨i,j,rfl,rfl,c,q⟩
  ·cases e
 | shr=>
  simp only [M.Gj,M.GE]at e
  split at e
  ·rename_i c;cases e;exact IZ k8 s U H _ _ v u Q I a b ⟨i,j,rfl,rfl,c,q⟩
  ·cases e
 | band=>exact BV k8 s U H _ _ v u Q I a b ⟨i,j,rfl,rfl,by dsimp only;rw [Bx e];exact q⟩
 | bor=>exact D9 k8 s U H _ _ v u Q I a b ⟨i,j,rfl,rfl,by dsimp only;rw [CQ e];exact q⟩
 | bxor=>exact By k8 s U H _ _ v u Q I a b ⟨i,j,rfl,rfl,by dsimp only;rw [IA e];exact q⟩
theorem ai.int (z:ai Y G H w v) (e:w.int? =k0 i):v= .int i:=by
 cases w with
 | v d=>
  cases d with
  | int j=>cases e;exact z
  | _=>cases e
 | _=>cases e
theorem ai.str (z:ai Y G H w v) (e:w.bJ =k0 i):v= .str (aB i):=by
 cases w with
 | v d=>
  cases d with
  | str j=>cases e;exact z
  | _=>cases e
 | _=>cases e
theorem ai.tup (z:ai Y G H w v) (e:w.eX =k0 xs): ∃a vs,v= .ref a/\eQ Y G H a vs/\aa Y G H xs vs:=by
 cases w with
 | v d=>
  cases d with
  | tup j=>cases e;exact z
  | _=>cases e
 | _=>cases e
def Ha (o) (N:lK o=u0) (w:X.K=Y.K):bK X (binaryOp (my o)) (DO Y E o):=by
 intro d s U H x y v u Q I m q ⟨G,h,P,R,f,r,A,p⟩
 have O:=Xi
 unfold M.GM at p
 split at p
 ·rename_i i j e1 e2
  obtain⟨k,e,p⟩:=p.of
  cases r.int e1
  cases A.int e2
  exact BH N e I m q (p.v f rfl)
 ·split at p
  · -- add
    unfold M.Ky at p
    split at p
    ·rename_i a b e1 e2
     cases r.str e1
     cases A.str e2
     split at p
     ·rename_i c
      exact HA d s U H _ _ v u Q I m q ⟨_,_,rfl,rfl,by rw [Zd,Zd];lia,by rw [Bn];exact p.v f rfl⟩
     ·exact p.elim
    ·split at p
     ·rename_i K L e1 e2
      obtain⟨a,n,rfl,l,g⟩:=r.tup e1
      obtain⟨b,D,rfl,B,t⟩:=A.tup e2
      split at p
      ·rename_i c
       have J:=g.length
       have l2:=t.length
       by_cases ex:n= []
       ·subst ex
        have:K= []:=Ai3 J
        subst this
        exact A3 d s U H _ _ v u Q I m q ⟨a,b,D,rfl,rfl,w▸l.sq,w▸B.sq,p.v f ⟨b,D,rfl,B,t⟩⟩
       refine EU d s U H _ _ v u Q I m q ⟨a,b,n,D,rfl,rfl,w▸l.sq,w▸B.sq,ex,by lia,λe=> ?_,λe F C=>p.tup f (g.append t) F C⟩
       ·subst e
        have:L= []:=Ai3 l2
        subst this
        rw [Ag0]at p
        exact p.v f ⟨a,n,rfl,l,g⟩
      ·exact p.elim
     ·split at p
      ·rename_i K L e1 e2
       obtain⟨a,n,rfl,l,g⟩:=r.lst f e1
       obtain⟨b,D,rfl,B,t⟩:=A.lst f e2
       unfold M.Kz at p
       split at p
       ·have J:=g.length
        have l2:=t.length
        exact Fb d s U H _ _ v u Q I m q ⟨a,b,n,D,rfl,rfl,w▸l,w▸B,by lia,λF C=>p.own f (g.append t) F C⟩
       ·exact p.elim
      ·exact p.elim
  · -- mul
    unfold M.Kx at p
    split at p
    ·rename_i z j e1 e2
     cases r.str e1
     cases A.int e2
     split at p
     ·rename_i c
      rw [M.Gg]at c
      refine Hn d s U H _ _ v u Q I m q ⟨_,j,rfl,rfl,c.1,c.2.1,by rw [Zd];exact c.2.2,?_⟩
      have e:g0 (aB z) j.toNat=aB (Aa2 j.toNat z).flatten:=by
       apply rC
       rw [jI]
       rfl
      rw [e]
      exact p.v f rfl
     ·exact p.elim
    split at p
    ·rename_i K j e1 e2
     obtain⟨a,n,rfl,l,g⟩:=r.oH f e1
     cases A.int e2
     unfold M.Kq at p
     split at p
     ·rename_i c
      have J:=g.length
      exact Ct d s U H _ _ v u Q I m q ⟨a,j,n,rfl,rfl,l,by lia,by lia,by rw [← J];lia,λF C=>p.own f (g.rep j.toNat) F C⟩
     ·exact p.elim
    ·exact p.elim
  ·exact p.elim
noncomputable def fk:M.Cp->CmpOp
 | .eq=> .Eq | .ne=> .NotEq | .lt=> .Lt | .le=> .LtE | .gt=> .Gt | .ge=> .GtE | .mem=> .In | .eV=> .NotIn | .cH=> .Is
def iJ (Y:Ge) (o:M.Cp):R2:=λx y H Q=> ∃G h a c b,ah Y G h H/\ai Y G H a x/\ai Y G H c y/\M.Gs o a c h=k0 b/\Q (.bl b) H
def xK:M.Cp->Bool
 | .mem=>u0
 | .eV=>u0
 | _=>u0
def Df (e:M.Ks o i j=k0 b)(I:Inv X k8 U H s) (a:RelV (.int i) v) (c:RelV (.int j) u) (q:Q (.bl b) H):
 wpAny (model X.prog X.w) X.A (compareOp (fk o) v u) (EP X k8 U Q) X.xe s:=by
 cases o with
 | lt=>cases e;exact Di k8 s U H _ _ v u Q I a c ⟨i,j,rfl,rfl,q⟩
 | le=>cases e;exact Ed k8 s U H _ _ v u Q I a c ⟨i,j,rfl,rfl,q⟩
 | gt=>cases e;exact yp k8 s U H _ _ v u Q I a c ⟨i,j,rfl,rfl,q⟩
 | ge=>cases e;exact Ho k8 s U H _ _ v u Q I a c ⟨i,j,rfl,rfl,q⟩
 | _=>cases e
def E6 (g:X.K=Y.K)(j:bj k X.A):bK X (compareOp .Eq) (iJ Y .eq):=by
 intro d s U H x y v u Q I i m ⟨G,h,o,p,b,f,l,n,e,q⟩
 simp only [M.Gs]at e
 split at e
 ·rename_i c
  cases e
  have a:=by simpa [M.Kg]using c
  exact(m1 150 _ _ X.A v u (by lia) (by have:=j.un;lia) (l.rv I g f i a.1.1) (n.rv I g f m a.1.2)).rc _ _ _ _ ⟨.bl _,H,I,rfl,q⟩
 ·cases e
def Cu (g:X.K=Y.K)(j:bj k X.A):bK X (compareOp .NotEq) (iJ Y .ne):=by
 intro d s U H x y v u Q I i m ⟨G,h,o,p,b,f,l,n,e,q⟩
 simp only [M.Gs]at e
 split at e
 ·rename_i c
  cases e
  have a:=by simpa [M.Kg]using c
  exact(m1 150 _ _ X.A v u (by lia) (by have:=j.un;lia) (l.rv I g f i a.1.1) (n.rv I g f m a.1.2)).ne _ _ _ _ ⟨.bl _,H,I,rfl,q⟩
 ·cases e
end
def PE.imp (h:PE X e t) (k: ∀U H Q,t' U H Q->t U H Q):PE X e t':=λa s U H Q I q=>h a s U H Q I (k _ _ _ q)
def PT.imp (h:PT X e t) (k: ∀U H Q,t' U H Q->t U H Q):PT X e t':=λa s U H Q I q=>h a s U H Q I (k _ _ _ q)
def PA.imp (h:PA X e t) (k: ∀U H Q,t' U H Q->t U H Q):PA X e t':=λb a s U H Q I q=>h b a s U H Q I (k _ _ _ q)
section
variable {X:Cx}{Y:Ge}{G:Gh}{H:Hp}{h:M.AH}{k8:List (Addr×Obj)}{U:St}{s:Shared}{Q:VK}{E:XK}
def bg.one (z:bg Y G H [w] vs): ∃v,vs= [v]/\ai Y G H w v:=by
 obtain⟨v,r,rfl,b,a⟩:=z
 cases (show r= []from a)
 exact⟨v,rfl,b⟩
def bg.two (z:bg Y G H [w,w'] vs): ∃v v',vs= [v,v']/\ai Y G H w v/\ai Y G H w' v':=by
 obtain⟨v,r,rfl,c,b⟩:=z
 obtain⟨v',rfl,a⟩:=b.one
 exact⟨v,v',rfl,c,a⟩
def n7 (Y:Ge) (E:XK) (b:M.Bi):List V->Hp->VK->Prop:=λxs H Q=> ∃G h a,ah Y G h H/\bg Y G H a xs/\az Y E G H (M.dA b a h) Q
def lO {K:Aa6}(h:bz K H a vs\/cx K H a vs):bz K H a vs\/cx K H a vs:=h
noncomputable def lL:M.Bi->Bool
 | .len=>u0 | .int=>u0 | .list=>u0 | .tuple=>u0 | .divmod=>u0 | .sum=>u0 | .all=>u0 | .any=>u0 | .sorted=>u0
 | _=>k9
noncomputable def pM:M.Bi->Value
 | .len=> .builtin "len" | .int=> .type "int" | .list=> .type "list" | .tuple=> .type "tuple" | .sum=> .builtin "sum" | .all=> .builtin "all" | .any=> .builtin "any"
 | .sorted=> .builtin "sorted" | .divmod=> .builtin "divmod" | .str=> .type "str" | .min=> .builtin "min" | .max=> .builtin "max" | .abs=> .builtin "abs"
def az.of2 {f:α->β->M.AH->M.R M.W}(p:az Y E G H ((M.R.of h o).bind λa h=>(M.R.of h o').bind λb h=>f a b h) Q): ∃a b,o=k0 a/\o'=k0 b/\az Y E G H (f a b h) Q:=by
 obtain⟨a,e,p⟩:=p.of
 obtain⟨b,c,p⟩:=p.of
 exact⟨a,b,e,c,p⟩
theorem X5 : ∀ {xs}{vs}{bs},M.Kh xs=k0 bs->aa Y G H xs vs->vs=bs.map V.bl
 | [],_,_,e,z=>by cases e;exact z
 | x::xs,_,bs,e,⟨v,r,d,c,a⟩=>by
  subst d
  cases x with
  | bl b=>
   obtain⟨f,e1,rfl⟩:=Af8.mp (e)
   cases (c)
   rw [X5 e1 a];rfl
  | _=>cases e
theorem pF : ∀ {xs}{vs}{n},M.Ka xs=k0 n->aa Y G H xs vs-> ∃ns:List Int,vs=ns.map V.int/\n=f5 ns
 | [],_,_,e,z=>by cases e;exact⟨[],z,rfl⟩
 | x::xs,_,n,e,⟨v,r,c,a,d⟩=>by
  subst c
  cases x with
  | int i=>
   have e:=e
   obtain⟨k,e1,rfl⟩:=Af8.mp e
   obtain⟨ns,b,f⟩:=pF e1 d
   cases (a)
   exact⟨i::ns,by rw [b];rfl,by rw [f];rfl⟩
  | _=>cases e
theorem ZU : ∀ {xs}{vs}{ns},M.GQ xs=k0 ns->aa Y G H xs vs->vs=ns.map V.int
 | [],_,_,e,z=>by cases e;exact z
 | x::xs,_,ns,e,⟨v,r,d,c,a⟩=>by
  subst d
  cases x with
  | int b=>
   obtain⟨f,e1,rfl⟩:=Af8.mp (e)
   cases (c)
   rw [ZU e1 a];rfl
  | _=>cases e
theorem XS : ∀ {xs}{vs}{ns},M.GR xs=k0 ns->aa Y G H xs vs->vs=(ns.map aB).map V.str
 | [],_,_,e,z=>by cases e;exact z
 | x::xs,_,ns,e,⟨v,r,d,c,a⟩=>by
  subst d
  cases x with
  | str b=>
   obtain⟨f,e1,rfl⟩:=Af8.mp (e)
   cases (show v= .str (aB b)from c)
   rw [XS e1 a];rfl
  | _=>cases e
theorem WS : ∀(a:List M.Tx),aa Y G H (a.map .str) ((a.map aB).map V.str)
 | []=>rfl
 | t::a=>⟨_,_,rfl,rfl,WS a⟩
theorem pq (x): ∀ {ys},ys.Pairwise (λa b=> ¬b<a)->(M.GY x ys).Pairwise (λa b=> ¬b<a)
 | [],_=>List.pairwise_singleton _ _
 | y::ys,h=>by
  have e:=Aj9.mp h
  unfold M.GY
  split
  ·rename_i q
   refine Aj9.mpr ⟨λz d=> ?_,pq x e.2⟩
   have:z=x\/z∈ys:=by
    have f: ∀ {x}{ys},z∈M.GY x ys->z=x\/z∈ys:=by
     intro x ys
     induction ys with
     | nil=>intro h;simp [M.GY]at h;exact .inl h
     | cons y ys g=>
      intro h
      unfold M.GY at h
      split at h
      ·rcases Ac1.mp h with h | h
       ·exact .inr (h▸Aa7)
       ·exact(g h).imp id (Aa4 _)
      ·rcases Ac1.mp h with h | h
       ·exact .inl h
       ·exact .inr h
    exact f d
   rcases this with rfl | d
   ·exact λc=>List.lt_irrefl _ (List.lt_trans c q)
   ·exact e.1 z d
  ·rename_i q
   refine Aj9.mpr ⟨λz d=> ?_,h⟩
   rcases Ac1.mp d with rfl | d
   ·exact q
   ·exact List.le_trans q (e.1 z d)
theorem r4: ∀xs:List M.Tx,(M.GB xs).Pairwise (λa b=> ¬b<a)
 | []=> .nil
 | x::xs=>pq x (r4 xs)
theorem qr (x): ∀ys:List M.Tx,(M.GY x ys).Perm (x::ys)
 | []=> .refl _
 | y::ys=>by
  unfold M.GY
  by_cases q:y<x
  ·rw [if_pos q]
   exact((qr x ys).cons y).trans (.swap x y ys)
  ·rw [if_neg q]
theorem qj: ∀xs:List M.Tx,(M.GB xs).Perm xs
 | []=> .refl _
 | x::xs=>(qr x (M.GB xs)).trans ((qj xs).cons x)
theorem vM: ∀ {l}{p},risingS p l=u0->(p::l).Pairwise (λa b=> ¬b.cps.toList<a.cps.toList)
 | [],p,_=>List.pairwise_singleton _ _
 | x::r,p,h=>by
  have h:(!ltCps x.cps.toList p.cps.toList&&risingS x r)=true:=h
  rw [Aa0,ltCps_eq]at h
  have d:=by simpa using h.1
  have e:=vM h.2
  refine Aj9.mpr ⟨λz c=> ?_,e⟩
  rcases Ac1.mp c with rfl | c
  ·exact d
  ·exact List.le_trans d ((Aj9.mp e).1 z c)
def yQ (s):aB s.cps.toList=s:=by cases s;simp [aB]
def yc (d:ss.Perm (ts.map aB)) (h:sortedS ss=u0):ss=(M.GB ts).map aB:=by
 have c:=by
  have:=d.map (λs=>s.cps.toList)
  rw [Ad1]at this
  have e:((λs:Str=>s.cps.toList)∘aB)=id:=by funext t;simp [aB]
  rw [e,List.map_id]at this
  exact this
 have g:(ss.map λs=>s.cps.toList).Pairwise (λa b=> ¬b<a):=by
  rw [List.pairwise_map]
  cases ss with
  | nil=>exact .nil
  | cons p l=>exact vM h
 have f:=List.Perm.eq_of_pairwise (λa b _ _ x y=>List.le_antisymm x y) g (r4 ts) (c.trans (qj ts).symm)
 rw [← f,Ad1]
 have e:(aB∘λs:Str=>s.cps.toList)=id:=by funext t;exact yQ t
 rw [e,List.map_id]
def C1 (b) (B:lL b=u0) (A:X.K=Y.K) (K:X.calm=u0):zt X (pM b) (n7 Y E b):=by
 intro f s U H W x Q I r ⟨G,h,ws,g,D,p⟩
 have V:=Xi
 unfold M.dA at p
 split at p
 ·rename_i w
  obtain⟨v,rfl,z⟩:=D.one
  cases b with
  | len=>
   simp only [M.oj]at p
   split at p
   ·rename_i y e
    cases z.str e
    split at p
    ·exact ZV f s U H _ x Q I r ⟨_,rfl,by rw [Zd];lia,by rw [Zd];exact p.v g rfl⟩
    ·exact p.elim
   ·obtain⟨C,e,p⟩:=p.of
    obtain⟨a,t,rfl,m,o⟩:=z.seq g e
    refine wV f s U H _ x Q I r ⟨a,t,rfl,A▸lO m,?_⟩
    rw [← o.length]
    exact p.v g rfl
  | int=>
   simp [M.oj]at p
   split at p
   ·cases (z)
    exact XT f s U H _ x Q I r (.inl ⟨_,rfl,p.v g rfl⟩)
   ·rename_i k
    cases (z)
    refine XT f s U H _ x Q I r (.inr ⟨_,rfl,?_⟩)
    have:=p.v g rfl
    cases k<;>exact this
   ·exact p.elim
  | list=>
   obtain⟨C,e,p⟩:=p.of
   obtain⟨a,t,rfl,m,o⟩:=z.seq g e
   exact qW f s U H _ x Q I r ⟨a,t,rfl,A▸lO m,λl u=>p.own g o l u⟩
  | tuple=>
   obtain⟨C,e,F⟩:=p.of
   clear p
   cases w with
   | v d=>
    cases d with
    | tup J=>
     cases e
     obtain⟨a,t,rfl,m,o⟩:=z
     exact Qf f s U H _ x Q I r ⟨a,t,rfl,.inr ⟨A▸m.sq,F.v g ⟨a,t,rfl,m,o⟩⟩⟩
    | lst J=>
     obtain⟨a,t,rfl,m,o⟩:=ai.lst g z e
     exact Qf f s U H _ x Q I r ⟨a,t,rfl,.inl ⟨A▸m,λl u=>F.tup g o l u⟩⟩
    | ref q=>
     obtain⟨a,t,rfl,m,o⟩:=ai.lst g z e
     exact Qf f s U H _ x Q I r ⟨a,t,rfl,.inl ⟨A▸m,λl u=>F.tup g o l u⟩⟩
    | ak=>cases e
    | bl _=>cases e
    | int _=>cases e
    | str _=>cases e
    | exc _ _=>cases e
    | err _ _ _=>cases e
   | own J=>
    obtain⟨a,t,rfl,m,o⟩:=ai.lst g z e
    exact Qf f s U H _ x Q I r ⟨a,t,rfl,.inl ⟨A▸m,λl u=>F.tup g o l u⟩⟩
   | bor J=>
    obtain⟨a,t,rfl,m,o⟩:=ai.lst g z e
    exact Qf f s U H _ x Q I r ⟨a,t,rfl,.inl ⟨A▸m,λl u=>F.tup g o l u⟩⟩
  | divmod=>exact p.elim
  | min=>cases B
  | max=>cases B
  | sum=>
   obtain⟨n,e,p⟩:=p.of
   obtain⟨C,e1,e2⟩:=Ah8.mp e
   split at e2
   rotate_left
   ·cases e2
   obtain⟨a,t,rfl,m,o⟩:=ai.lst g z e1
   obtain⟨R,rfl,rfl⟩:=pF e2 o
   exact HE K f s U H _ x Q I r ⟨a,R,rfl,A▸m,p.v g rfl⟩
  | all=>
   obtain⟨bs,e,p⟩:=p.of
   obtain⟨C,e1,e2⟩:=Ah8.mp e
   obtain⟨a,t,rfl,m,o⟩:=ai.lst g z e1
   cases X5 e2 o
   exact vU K f s U H _ x Q I r ⟨a,bs,rfl,A▸m,p.v g rfl⟩
  | any=>
   obtain⟨bs,e,p⟩:=p.of
   obtain⟨C,e1,e2⟩:=Ah8.mp e
   obtain⟨a,t,rfl,m,o⟩:=ai.lst g z e1
   cases X5 e2 o
   exact Fi K f s U H _ x Q I r ⟨a,bs,rfl,A▸m,p.v g rfl⟩
  | sorted=>
   obtain⟨L,e,p⟩:=p.of
   obtain⟨C,e1,e2⟩:=Ah8.mp e
   obtain⟨a,t,rfl,m,o⟩:=ai.lst g z e1
   cases XS e2 o
   split at p
   ·rename_i u
    refine J0 f s U H _ x Q I r ⟨a,L.map aB,rfl,A▸m,by rw [Aa];exact u,λN S O l u=> ?_⟩
    rw [yc S O]
    exact p.own g (WS _) l u
   ·exact p.elim
  | str=>cases B
  | abs=>cases B
 ·rename_i w Z
  obtain⟨v,v',rfl,z,T⟩:=D.two
  obtain⟨i,j,e,P,p⟩:=p.of2
  cases z.int e
  cases T.int P
  cases b with
  | divmod=>
   simp [M.vT,M.GS]at p
   split at p
   ·rename_i c
    exact Z8 f s U H _ x Q I r ⟨i,j,rfl,c,λl u=>p.tup g ⟨_,_,rfl,rfl,_,_,rfl,rfl,rfl⟩ l u⟩
   ·exact p.elim
  | min=>cases B
  | max=>cases B
  | len=>exact p.elim
  | int=>exact p.elim
  | list=>exact p.elim
  | tuple=>exact p.elim
  | sum=>exact p.elim
  | all=>exact p.elim
  | any=>exact p.elim
  | sorted=>exact p.elim
  | str=>cases B
  | abs=>cases B
 ·exact p.elim
noncomputable def cL:M.Ty->String
 | .ak=> "NoneType" | .bool=> "bool" | .int=> "int" | .str=> "str" | .list=> "list" | .tuple=> "tuple"
def xx (K): ∀ u t,t≠ .ak->PySem.W.kitOne K (.type (cL u)) (.type (cL t))=k0 (M.Ty.le u t):=by
 intro u t a
 cases u<;>cases t<;>first | exact absurd rfl a | kernel_rfl
def D0 (Y:Ge):List V->Hp->VK->Prop:=λxs H Q=> ∃G h w x t b,xs= [x,.ty (cL t)]/\t≠ .ak/\ah Y G h H/\ai Y G H w x/\M.cq t w=k0 b/\Q (.bl b) H
def yr (E:X.K=Y.K):zt X (.builtin "isinstance") (D0 Y):=by
 intro k s U H P T Q I r ⟨G,h,w,x,t,b,F,j,R,z,e,q⟩
 subst F
 obtain⟨u,S,rfl,g,N⟩:=uX r
 cases N
 have fin: ∀p,EP X k U Q _ { s with toks:=p }:=λp=>⟨.bl b,H,I.tok p,rfl,q⟩
 have lst: ∀ {a}{m},x= .ref a->Rd H a (.lst m)->M.Ty.le .list t=b->wpAny (model X.prog X.w) X.A (call (.builtin "isinstance") [u,.type (cL t)]) (EP X k U Q) X.xe s:=by
  intro a m ex rd J
  subst ex J
  obtain rd | ⟨o,rd⟩:=rd
  ·exact zk I g (.lst rd) (xx _ .list t j) fin
  ·exact zk I g (.d9 rd) (xx _ .list t j) fin
 cases w with
 | v d=>
  cases d with
  | ak=>cases e;cases (z);exact zk I g .ak (xx _ .ak t j) fin
  | bl c=>cases e;cases (z);exact zk I g (.bl c) (xx _ .bool t j) fin
  | int i=>cases e;cases (z);exact zk I g (.int i) (xx _ .int t j) fin
  | str y=>cases e;cases (z);exact zk I g (.str _) (xx _ .str t j) fin
  | tup D=>
   cases e
   obtain⟨a,m,rfl,f,L⟩:=z
   obtain⟨_,f⟩ | ⟨o,B,n,A,C,K,_⟩:=f
   ·exact zk I g (.tup f) (xx _ .tuple t j) fin
   ·cases g
    exact Ae9 PySem.W.kitx_tuple I.cb ⟨o,I.cb a o (E▸A),C⟩ (xx _ .tuple t j) (λz=>nomatch z) fin
  | lst D=>
   cases e
   obtain⟨a,m,l,f,L⟩:=z
   obtain f | ⟨o,B,n,A,C,K,_⟩:=f
   ·exact lst l f.2 rfl
   ·subst l
    cases g
    exact Ae9 Ao0 I.cb ⟨o,I.cb a o (E▸A),C⟩ (xx _ .list t j) (λz=>nomatch z) fin
  | ref O=>cases e
  | exc c fs=>cases e
  | err _ _ _=>cases e
 | own D=>cases e;obtain⟨a,m,l,_,_,f,_⟩:=z;exact lst l (.inl f) rfl
 | bor D=>cases e;obtain⟨a,m,l,_,f,_⟩:=z;exact lst l f rfl
def mG (m:X.K=Y.K) (p:ah Y G h H)(z:ai Y G H w x) (e:M.GX h w=k0 b):hO X.K x H b:=by
 have lst: ∀ {a}{f}{g},x= .ref a->bz X.K H a f->aa Y G H g f->(!g.isEmpty)=b->hO X.K x H b:=by
  intro a f g ex rd j n
  subst ex n
  refine .inl ⟨f,rd,?_⟩
  cases g with
  | nil=>cases (show f= []from j);rfl
  | cons _ _=>obtain⟨_,_,rfl,_⟩:=j;rfl
 cases w with
 | v d=>
  cases d with
  | ak=>cases e;cases (z);exact rfl
  | bl _=>cases e;cases (z);exact rfl
  | int _=>cases e;cases (z);exact rfl
  | str y=>
   cases (z)
   have e:(if y.length<=M.ba then k0 (!y.isEmpty)else y0)=k0 b:=e
   split at e
   ·rename_i c
    cases e
    refine⟨by rw [Zd];have:=Xi;lia,?_⟩
    rw [Zd]
    cases y with
    | nil=>rfl
    | cons a r=>
     have:((((a::r).length:Nat):Int) != 0)=true:=by
      rw [Ab,bne_iff_ne];lia
     rw [this];rfl
   ·cases e
  | tup g=>
   cases e
   obtain⟨a,f,rfl,i,j⟩:=z
   refine .inr (.inl ⟨f,m▸i.sq,?_⟩)
   cases g with
   | nil=>cases (show f= []from j);rfl
   | cons _ _=>obtain⟨_,_,rfl,_⟩:=j;rfl
  | lst g=>cases e;obtain⟨a,f,k,i,l⟩:=z;exact lst k (m▸i.sq) l rfl
  | ref o=>cases e
  | exc c fs=>cases e
  | err _ _ _=>cases e
 | own g=>cases e;obtain⟨a,f,k,_,_,i,l⟩:=z;exact lst k (bz.of i) l rfl
 | bor g=>cases e;obtain⟨a,f,k,_,i,l⟩:=z;exact lst k (.inl i) l rfl
end
abbrev jg (x:String):Str:=Str.ofString x
example:("len" :Str)=jg "len" :=rfl
structure gj where
 fl:List (String×String)
 mt:List (String×String×String)
 eN:List (String×String)
 ms:List String
 er:List (String×String)
structure Cf where
 sc:Scope
 N:List Str
 fns:List String
 own:List String
 d6:List String
 d0:List String
 ob:gj
noncomputable def qK (sc:Scope) (x:Str):Bool:=match sc.names.lookup x with
 | some .local=>u0
 | some .cell=>u0
 | some .free=>u0
 | _=>k9
def kD (sc:Scope) (x:Str):Bool:=match sc.names.lookup x with
 | some .globalImplicit=>u0
 | _=>k9
def iF (sc:Scope) (x:Str):Bool:=match sc.names.lookup x with
 | some .local=>u0
 | some .cell=>u0
 | _=>k9
def bx (x:Str):Bool:= !(x==("__debug__" :Str))&& !(x==("__classdict__" :Str))
noncomputable def mO:M.Bi->String
 | .len=> "len" | .int=> "int" | .list=> "list" | .tuple=> "tuple" | .sum=> "sum" | .all=> "all" | .any=> "any" | .sorted=> "sorted" | .divmod=> "divmod" | .str=> "str" | .min=> "min" | .max=> "max" | .abs=> "abs"
noncomputable def c6:List String:= ["len", "int", "list", "tuple", "sum", "all", "any", "sorted", "divmod", "str", "min", "max", "abs", "isinstance", "bool", "range", "reversed", "zip", "enumerate", "set", "dict", "ValueError"]
def nO:Expr->Str->Bool
 | .Name y _,x=>y==x
 | _,_=>k9
def cX (sc:Scope) (x:String) (e:Expr):Bool:=nO e (jg x)&&kD sc (jg x)&&bx (jg x)
def sk:M.Mt->String
 | .index=> "index" | .count=> "count" | .bG=> "index"
def r6:M.Mt->Bool
 | .index=>u0 | .count=>u0 | .bG=>u0
def o4:Expr->Bool
 | .Call _ [] _ _=>k9
 | _=>u0
noncomputable def Wm (a:Cf):List Nat->List Expr->Bool
 | [],[]=>u0
 | i::is,.Name x _::es=>y9 (a.N[i]? =k0 x)&&iF a.sc x&&Wm a is es
 | _,_=>k9
def Xe (b:Cf) (a:List Nat) (one:Bool) (e:Expr):Bool:=match one,e with
 | true,.Name x p=>(match a with | [_]=>u0 | _=>k9)&&Wm b a [.Name x p]
 | false,.Tuple es _ _=>Wm b a es
 | _,_=>k9
def Zb:Expr->Bool
 | .Starred .. =>k9
 | _=>u0
def jc:Expr->Bool
 | .Slice .. =>k9
 | _=>u0
def xg:Expr->Bool
 | .Set .. =>k9
 | _=>u0
noncomputable def zG (a:Cf):List Nat->List Str->Bool
 | [],[]=>u0
 | j::b,x::xs=>y9 (a.N[j]? =k0 x)&&y9 (a.sc.names.lookup x=k0 .cell\/a.sc.names.lookup x=k0 .free)&&zG a b xs
 | _,_=>k9
def j8 (b:Cf) (a:Scope) (N:List Str) (k:Nat) (aC:List Nat):Bool:=
 y9 (a.kind= .function)&&y9 (a.names.map Prod.fst).Nodup&&a.names.all (λy=>y9 (y.2= .local->a.names.lookup y.1=k0 .local))&&
 a.names.all (λy=>y9 (y.2= .free->b.sc.names.lookup y.1=k0 .cell\/b.sc.names.lookup y.1=k0 .free))&&(N.drop k).all (λx=>y9 (a.names.lookup x=k0 .free))&&
 zG b aC (N.drop k)&&y9 (k<=N.length)&&decide N.Nodup&&decide aC.Nodup
def BG:Expr->List Str
 | .Name x _=> [x]
 | .Tuple es _ _=>es.filterMap λ| .Name x _=>k0 x | _=>y0
 | _=> []
def ww (a:Cf) (t:Expr) (aC:List Nat):List Str:=BG t++aC.filterMap λj=>a.N[j]?
def fN:M.E->Bool
 | .share _=>k9
 | .not a=>fN a
 | .and a b=>fN a&&fN b
 | .or a b=>fN a&&fN b
 | _=>u0
def l6 (neg:Bool):CmpOp:=if neg then .NotIn else .In
def cn {P:Prop}(h:k9=u0):P:=nomatch h
set_option backward.match.sparseCases false
def lC {a:Type}(l:List a) (f:a->List a->Bool):Bool:=match l with
 | x::r=>f x r
 | _=>k9
def oS {a:Type}(l:Option a) (f:a->Bool):Bool:=match l with
 | some x=>f x
 | _=>k9
@[elab_as_elim] theorem kC {P:List α->Prop}(k: ∀x r,f x r=u0->P (x::r)): ∀l,lC l f=u0->P l:=by rintro (_|_)<;>first | exact cn | exact k _ _
@[elab_as_elim] theorem kS {P:Option α->Prop}(k: ∀x,f x=u0->P (k0 x)): ∀l,oS l f=u0->P l:=by rintro (_|_)<;>first | exact cn | exact k _
def wq (e:Expr) (f:Str->Bool):Bool:=match e with
 | .Name x _=>f x
 | _=>k9
@[elab_as_elim] theorem Qo {P:Expr->Prop}(k: ∀x p,f x=u0->P (.Name x p)): ∀e,wq e f=u0->P e:=by rintro (_|_)<;>first | exact cn | exact k _ _
def Xx (e:Expr) (f:Const->Bool):Bool:=match e with
 | .Constant x _ _=>f x
 | _=>k9
@[elab_as_elim] theorem jD {P:Expr->Prop}(k: ∀x n p,f x=u0->P (.Constant x n p)): ∀e,Xx e f=u0->P e:=by rintro (_|_)<;>first | exact cn | exact k _ _ _
def kF (e:Expr) (f:List Expr->Bool):Bool:=match e with
 | .Tuple x _ _=>f x
 | _=>k9
@[elab_as_elim] theorem mN {P:Expr->Prop}(k: ∀x n p,f x=u0->P (.Tuple x n p)): ∀e,kF e f=u0->P e:=by rintro (_|_)<;>first | exact cn | exact k _ _ _
def uv (e:Expr) (f:List Expr->Bool):Bool:=match e with
 | .List x _=>f x
 | _=>k9
@[elab_as_elim] theorem IF {P:Expr->Prop}(k: ∀x p,f x=u0->P (.List x p)): ∀e,uv e f=u0->P e:=by rintro (_|_)<;>first | exact cn | exact k _ _
def vr (e:Expr) (f:Expr->Operator->Expr->Bool):Bool:=match e with
 | .BinOp x o y _=>f x o y
 | _=>k9
@[elab_as_elim] theorem KZ {P:Expr->Prop}(k: ∀x o y p,f x o y=u0->P (.BinOp x o y p)): ∀e,vr e f=u0->P e:=by rintro (_|_)<;>first | exact cn | exact k _ _ _ _
def kM (e:Expr) (f:Expr->List CmpOp->List Expr->Bool):Bool:=match e with
 | .Compare x o y _=>f x o y
 | _=>k9
@[elab_as_elim] theorem lT {P:Expr->Prop}(k: ∀x o y p,f x o y=u0->P (.Compare x o y p)): ∀e,kM e f=u0->P e:=by rintro (_|_)<;>first | exact cn | exact k _ _ _ _
def mL (e:Expr) (f:UnaryOp->Expr->Bool):Bool:=match e with
 | .UnaryOp o x _=>f o x
 | _=>k9
@[elab_as_elim] theorem oh {P:Expr->Prop}(k: ∀o x p,f o x=u0->P (.UnaryOp o x p)): ∀e,mL e f=u0->P e:=by rintro (_|_)<;>first | exact cn | exact k _ _ _
def nv (e:Expr) (f:BoolOp->List Expr->Pos->Bool):Bool:=match e with
 | .BoolOp o x p=>f o x p
 | _=>k9
@[elab_as_elim] theorem sH {P:Expr->Prop}(k: ∀o x p,f o x p=u0->P (.BoolOp o x p)): ∀e,nv e f=u0->P e:=by rintro (_|_)<;>first | exact cn | exact k _ _ _
def Zv (e:Expr) (f:Expr->List Expr->List Keyword->Pos->Bool):Bool:=match e with
 | .Call g x l p=>f g x l p
 | _=>k9
@[elab_as_elim] theorem Jp {P:Expr->Prop}(k: ∀g x l p,f g x l p=u0->P (.Call g x l p)): ∀e,Zv e f=u0->P e:=by rintro (_|_)<;>first | exact cn | exact k _ _ _ _
def fj (e:Expr) (f:Expr->Expr->Bool):Bool:=match e with
 | .Subscript x y _=>f x y
 | _=>k9
@[elab_as_elim] theorem fU {P:Expr->Prop}(k: ∀x y p,f x y=u0->P (.Subscript x y p)): ∀e,fj e f=u0->P e:=by rintro (_|_)<;>first | exact cn | exact k _ _ _
def lI (e:Expr) (f:Option Expr->Option Expr->Option Expr->Bool):Bool:=match e with
 | .Slice x y z _=>f x y z
 | _=>k9
@[elab_as_elim] theorem nP {P:Expr->Prop}(k: ∀x y z p,f x y z=u0->P (.Slice x y z p)): ∀e,lI e f=u0->P e:=by rintro (_|_)<;>first | exact cn | exact k _ _ _ _
def ug (e:Expr) (f:Expr->List Comprehension->Scope->Bool):Bool:=match e with
 | .ListComp y g s _=>f y g s
 | _=>k9
@[elab_as_elim] theorem sS {P:Expr->Prop}(k: ∀y g s p,f y g s=u0->P (.ListComp y g s p)): ∀e,ug e f=u0->P e:=by rintro (_|_)<;>first | exact cn | exact k _ _ _ _
def QV (e:Expr) (f:Expr->Str->Pos->Bool):Bool:=match e with
 | .Attribute x n p=>f x n p
 | _=>k9
@[elab_as_elim] theorem Z5 {P:Expr->Prop}(k: ∀x n p,f x n p=u0->P (.Attribute x n p)): ∀e,QV e f=u0->P e:=by rintro (_|_)<;>first | exact cn | exact k _ _ _
def n8 (e:Expr) (f:List (Option Expr)->List Expr->Bool):Bool:=match e with
 | .Dict x y _=>f x y
 | _=>k9
@[elab_as_elim] theorem sf {P:Expr->Prop}(k: ∀x y p,f x y=u0->P (.Dict x y p)): ∀e,n8 e f=u0->P e:=by rintro (_|_)<;>first | exact cn | exact k _ _ _
def e6 (e:Stmt) (f:List Expr->Expr->Bool):Bool:=match e with
 | .Assign t v _=>f t v
 | _=>k9
@[elab_as_elim] theorem fL {P:Stmt->Prop}(k: ∀t v p,f t v=u0->P (.Assign t v p)): ∀e,e6 e f=u0->P e:=by rintro (_|_)<;>first | exact cn | exact k _ _ _
def mu (e:Stmt) (f:Expr->Bool):Bool:=match e with
 | .Expr v _=>f v
 | _=>k9
@[elab_as_elim] theorem nE {P:Stmt->Prop}(k: ∀v p,f v=u0->P (.Expr v p)): ∀e,mu e f=u0->P e:=by rintro (_|_)<;>first | exact cn | exact k _ _
def tT (e:Stmt) (f:Option Expr->Bool):Bool:=match e with
 | .Return v _=>f v
 | _=>k9
@[elab_as_elim] theorem FU {P:Stmt->Prop}(k: ∀v p,f v=u0->P (.Return v p)): ∀e,tT e f=u0->P e:=by rintro (_|_)<;>first | exact cn | exact k _ _
def pw (e:Stmt) (f:Expr->List Stmt->List Stmt->Bool):Bool:=match e with
 | .If x y z _=>f x y z
 | _=>k9
@[elab_as_elim] theorem DI {P:Stmt->Prop}(k: ∀x y z p,f x y z=u0->P (.If x y z p)): ∀e,pw e f=u0->P e:=by rintro (_|_)<;>first | exact cn | exact k _ _ _ _
def u5 (e:Stmt) (f:Expr->List Stmt->List Stmt->Bool):Bool:=match e with
 | .While x y z _=>f x y z
 | _=>k9
@[elab_as_elim] theorem Lu {P:Stmt->Prop}(k: ∀x y z p,f x y z=u0->P (.While x y z p)): ∀e,u5 e f=u0->P e:=by rintro (_|_)<;>first | exact cn | exact k _ _ _ _
def pS (e:Stmt) (f:Expr->Expr->List Stmt->List Stmt->Bool):Bool:=match e with
 | .For t i y z _=>f t i y z
 | _=>k9
@[elab_as_elim] theorem IH {P:Stmt->Prop}(k: ∀t i y z p,f t i y z=u0->P (.For t i y z p)): ∀e,pS e f=u0->P e:=by rintro (_|_)<;>first | exact cn | exact k _ _ _ _ _
set_option backward.match.sparseCases true
def vB (a:Cf) (i:Nat) (x:Str):Bool:=y9 (a.N[i]? =k0 x)&&qK a.sc x&&bx x
def kZ {a:Type}(l:List a) (b:Bool):Bool:=l.isEmpty&&b
def hI (t:M.Tx) (e:Option Expr):Bool:=oS e λe=>Xx e λc=>y9 (c= .str (aB t))
def oA (h:hI t e=u0): ∃j p,e=k0 (.Constant (.str (aB t)) j p):=by
 refine kS (λe h=> ?_) e h
 refine jD (λc n p h=> ?_) e h
 cases of_decide_eq_true h
 exact⟨_,_,rfl⟩
mutual
noncomputable def Wb (cf:Cf):M.E->Expr->Bool
 | .var i,e=>wq e (vB cf i)
 | .con c,e=>cX cf.sc c e
 | .int i,e=>Xx e λj=>y9 (j= .int i)
 | .bl i,e=>Xx e λj=>y9 (j= .bool i)
 | .ak,e=>Xx e λj=>y9 (j= .none)
 | .str i,e=>Xx e λj=>y9 (j= .str (aB i))
 | .tup es,e=>kF e λxs=>y9 (xs.length<=1000)&&bW cf es xs
 | .lst es,e=>uv e λxs=>y9 (xs.length<=1000)&&bW cf es xs
 | .bin o a b,e=>vr e λx p y=>y9 (p=my o)&&lK o&&Wb cf a x&&Wb cf b y
 | .cmp o a b,e=>kM e λx p y=>lC y λy r=>y9 (p= [fk o]/\r= [])&&xK o&&xg y&&Wb cf a x&&Wb cf b y
 | .chain o q a b c,e=>kM e λx p y=>lC y λy r=>lC r λz r=>y9 (p= [fk o,fk q]/\r= [])&&xK o&&xK q&&xg z&&Wb cf a x&&Wb cf b y&&Wb cf c z
 | .fv neg a,e=>kM e λx p y=>lC y λy r=>Xx y λj=>y9 (p= [if neg then .IsNot else .Is]/\r= [])&&y9 (j= .none)&&Wb cf a x
 | .neg a,e=>mL e λo x=>y9 (o= .USub)&&Wb cf a x
 | .inv a,e=>mL e λo x=>y9 (o= .Invert)&&Wb cf a x
 | .not a,e=>mL e λo x=>y9 (o= .Not)&&Wb cf a x
 | .and a b,e=>nv e λo x p=>lC x λx r=>lC r λy r=>y9 (o= .And)&&Wb cf a x&&bif r.isEmpty then Wb cf b y else Wb cf b (.BoolOp .And (y::r) p)
 | .or a b,e=>nv e λo x p=>lC x λx r=>lC r λy r=>y9 (o= .Or)&&Wb cf a x&&bif r.isEmpty then Wb cf b y else Wb cf b (.BoolOp .Or (y::r) p)
 | .call f es,e=>Zv e λg xs l _=>kZ l (cX cf.sc f g&&cf.fns.contains f&&bW cf es xs)
 | .bi b es,e=>Zv e λg xs l _=>kZ l (lC xs λx r=>cX cf.sc (mO b) g&&lL b&&bW cf es (x::r))
 | .cq a t,e=>Zv e λg xs l _=>kZ l (lC xs λx r=>lC r λy r=>kZ r (cX cf.sc "isinstance" g&&cX cf.sc (cL t) y&&decide (t≠ .ak)&&Zb x&&Wb cf a x))
 | .ix a b,e=>fj e λx y=>jc y&&Wb cf a x&&Wb cf b y
 | .sl a lo hi,e=>fj e λx y=>lI y λl u z=>oS l λl=>oS u λu=>z.isNone&&Wb cf a x&&Wb cf lo l&&Wb cf hi u
 | .dH a lo,e=>fj e λx y=>lI y λl u z=>oS l λl=>u.isNone&&z.isNone&&Wb cf a x&&Wb cf lo l
 | .di a hi,e=>fj e λx y=>lI y λl u z=>oS u λu=>l.isNone&&z.isNone&&Wb cf a x&&Wb cf hi u
 | .comp tg one k aC it u7 c elt,e=>ug e λy g scope=>lC g λg r=>
  y9 (g.is_async=0/\r= [])&&j8 cf scope (ww cf g.target aC) k aC&&tg.all (λi=>y9 (i<k))&&Xe { cf with sc:=scope,N:=ww cf g.target aC } tg one g.target&&c4 cf it g.iter&&Wb { cf with sc:=scope,N:=ww cf g.target aC } elt y&&
   bif u7 then(lC g.ifs λz r=>kZ r (fN c&&Wb { cf with sc:=scope,N:=ww cf g.target aC } c z))else g.ifs.isEmpty
 | .cZ,e=>n8 e λx y=>x.isEmpty&&y.isEmpty
 | .ea i a,e=>fj e λg y=>wq g λx=>vB cf i x&&jc y&&Wb cf a y
 | .cg neg a i,e=>kM e λx p y=>lC y λy r=>wq y λy=>y9 (p= [l6 neg]/\r= [])&&vB cf i y&&Wb cf a x
 | .fA k1 a k2 b k3 c i,e=>fj e λd y=>n8 d λks vs=>wq y λx=>lC ks λq1 ks=>lC ks λq2 ks=>lC ks λq3 ks=>kZ ks (lC vs λv1 vs=>lC vs λv2 vs=>lC vs λv3 vs=>kZ vs ((vB cf i x&&hI k1 q1&&hI k2 q2&&hI k3 q3)&&(decide [k1,k2,k3].Nodup&&Wb cf a v1&&Wb cf b v2&&Wb cf c v3)))
 | .eg i,e=>Zv e λg xs l _=>kZ l (lC xs λx r=>kZ r (cX cf.sc "dict" g&&wq x (vB cf i)))
 | .share a,e=>Wb cf a e
 | .fD s ts,e=>Zv e λg xs l q=>kZ l (lC xs λx r=>kZ r (QV g λo n p=>Xx o λc=>Xx x λc2=>decide (n=jg "split")&&decide (c= .str (aB s))&&decide (c2= .str bV)&&(p.endLine==q.line)&&mf (aB s) (ts.map aB)))
 | .dj m a es,e=>Zv e λg xs l q=>kZ l (lC xs λx r=>kZ r (QV g λo n p=>y9 (n=jg (sk m))&&r6 m&&(p.endLine==q.line)&&o4 o&&Wb cf a o&&bW cf es [x]))
 | .fld i c f,e=>QV e λx n _=>wq x λx=>vB cf i x&&y9 (n=jg f)&&cf.ob.fl.contains (c,f)
 | .bw i c m q es,e=>Zv e λg ys l s=>kZ l (QV g λx n p=>wq x λx=>vB cf i x&&y9 (n=jg m)&&cf.ob.mt.contains (c,m,q)&&(p.endLine==s.line)&&y9 (ys.length<=20)&&bW cf es ys)
 | .make c q es,e=>Zv e λg ys l _=>kZ l (lC ys λx r=>cX cf.sc c g&&cf.ob.eN.contains (c,q)&&bW cf es (x::r))
noncomputable def bW (cf:Cf):M.Es->List Expr->Bool
 | .nil,xs=>xs.isEmpty
 | .cons e es,xs=>lC xs λx xs=>Zb x&&Wb cf e x&&bW cf es xs
noncomputable def c4 (cf:Cf):M.It->Expr->Bool
 | .seq a,e=>xg e&&Wb cf a e
 | .ao a,e=>Zv e λg xs l _=>kZ l (lC xs λx r=>kZ r (cX cf.sc "range" g&&Zb x&&Wb cf a x))
 | .bY a b,e=>Zv e λg xs l _=>kZ l (lC xs λx r=>lC r λy r=>kZ r (cX cf.sc "range" g&&Zb x&&Zb y&&Wb cf a x&&Wb cf b y))
 | .rev a,e=>Zv e λg xs l _=>kZ l (lC xs λx r=>kZ r (cX cf.sc "reversed" g&&Zb x&&Wb cf a x))
end
def xj:Expr->Bool
 | .ListComp .. =>k9
 | .SetComp .. =>k9
 | .DictComp .. =>k9
 | _=>u0
def Xf:Expr->Bool
 | .Tuple .. =>k9
 | _=>u0
def jE (a:Cf) (i:Nat) (x:Str):Bool:=y9 (a.N[i]? =k0 x)&&iF a.sc x
def xU (b:Cf) (i:Nat) (m:Str) (e:Expr) (a:Pos):Bool:=QV e λx n p=>wq x λx=>vB b i x&&y9 (n=m)&&(p.endLine==a.line)
def nU (c:Cf):M.It->Expr->Bool
 | .seq a,e=>xg e&&Wb c a e
 | .ao a,e=>c4 c (.ao a) e
 | .bY a b,e=>c4 c (.bY a b) e
 | .rev a,e=>c4 c (.rev a) e
def ox:M.It->Expr->Bool
 | _,_=>u0
def mT:M.S->Bool
 | .freeze _=>u0
 | _=>k9
mutual
noncomputable def nG (cf:Cf):M.S->Stmt->Bool
 | .set i e,st=>e6 st λts v=>lC ts λt r=>wq t λx=>kZ r (jE cf i x&&Wb cf e v)
 | .ag i e,st=>e6 st λts v=>lC ts λt r=>wq t λx=>kZ r (jE cf i x&&Wb cf e v)
 | .fB is e,st=>e6 st λts v=>lC ts λt r=>kF t λts=>kZ r (Wm cf is ts&&Xf v&&Wb cf e v)
 | .eI i kx e,st=>e6 st λts v=>lC ts λt r=>fj t λx y=>wq x λx=>kZ r (vB cf i x&&jc y&&Xf v&&xj v&&Wb cf kx y&&Wb cf e v)
 | .fH o kx j e,st=>e6 st λts v=>lC ts λt r=>kZ r (kF t λts=>lC ts λt1 r=>lC r λt2 r=>kZ r (fj t1 λx y=>wq t2 λa=>jc y&&Xf v&&jE cf j a&&Wb cf o x&&(Wb cf kx y&&Wb cf e v)))
 | .bS o kx e,st=>e6 st λts v=>lC ts λt r=>fj t λx y=>kZ r (jc y&&Xf v&&xj v&&Wb cf o x&&Wb cf kx y&&Wb cf e v)
 | .app i e,st=>mu st λc=>Zv c λf xs l p=>kZ l (lC xs λv r=>kZ r (xU cf i "append" f p&&Zb v&&Wb cf e v))
 | .ext i e,st=>mu st λc=>Zv c λf xs l p=>kZ l (lC xs λv r=>kZ r (xU cf i "extend" f p&&Zb v&&Wb cf e v))
 | .b4 i c f e,st=>e6 st λts v=>lC ts λt r=>QV t λx n _=>wq x λx=>kZ r (vB cf i x&&(y9 (n=jg f)&&cf.ob.fl.contains (c,f)&&xj v&&Wb cf e v))
 | .d4 i kx e,st=>e6 st λts v=>lC ts λt r=>fj t λx y=>wq x λx=>kZ r (vB cf i x&&jc y&&Wb cf kx y&&Wb cf e v)
 | .fM is e,st=>e6 st λts v=>lC ts λt r=>kF t λes=>kZ r (Wm cf is es&&Xf v&&Wb cf e v)
 | .b9 i kx e,st=>e6 st λts v=>lC ts λt r=>fj t λx y=>wq x λx=>kZ r (vB cf i x&&jc y&&Wb cf kx y&&Wb cf e v)
 | .freeze _,_=>k9
 | .ex e,st=>mu st λv=>xj v&&Wb cf e v
 | .ret e,st=>tT st λv=>oS v λv=>Wb cf e v
 | .iff c a b,st=>pw st λx ys zs=>fN c&&Wb cf c x&&bX cf a ys&&bX cf b zs
 | .iX _ c b,st=>u5 st λx ys zs=>kZ zs (fN c&&Wb cf c x&&bX cf b ys)
 | .for tg one it b,st=>pS st λt iter ys zs=>kZ zs (ox it t&&Xe cf tg one t&&nU cf it iter&&bX cf b ys)
 | .bR i c f e,st=>e6 st λts v=>lC ts λt r=>QV t λx n _=>wq x λx=>kZ r (vB cf i x&&y9 (n=jg f)&&cf.ob.fl.contains (c,f)&&Xf v&&xj v&&Wb cf e v)
 | .eW,_=>u0
noncomputable def bX (cf:Cf):M.Ss->List Stmt->Bool
 | .nil,sts=>sts.isEmpty
 | .cons s ss,sts=>bif mT s then bX cf ss sts else lC sts λst sts=>nG cf s st&&bX cf ss sts
end
structure C6 (X:Cx) (k:Nat) (x:Str) (ps:List Str) (sp:Sp):Prop where
 ex: ∃f fd,bA X.prog X.w X.K X.mg X.base (eA X.prog X.w) k f fd ps sp/\Binds X.K fd ps []/\Ag9 X.K (.ref f)=u0/\X.mg x=k0 (.ref f)
def l7:M.W->Bool
 | .own _=>k9
 | _=>u0
def gy (Y:Ge) (m:List M.W->M.AH->M.R M.W):Sp:=λb H Q E=> ∃G h a,ah Y G h H/\bg Y G H a b/\(∀ w∈a,l7 w=u0)/\az Y E G H (m a h) Q
structure Go (Y:Ge) (F:M.Fx) (X:Cx) (E:XK) (k:Nat) (cf:Cf):Prop where
 N:X.N=cf.N
 K:X.K=Y.K
 cl:F.cl=Y.cl
 ow:cf.own=Y.own
 nd:cf.N.Nodup
 gu: ∀x,qK cf.sc x=u0->lu X.env.scope x
 rN: ∀x,cf.sc.names.lookup x=k0 .local->X.env.scope.names.lookup x=k0 .local
 hZ: ∀x,iF cf.sc x=u0->iN X.env.scope x/\(X.fn x=u0\/X.env.scope.names.lookup x=k0 .local)
 mx: ∀x,(cf.sc.names.lookup x=k0 .cell\/cf.sc.names.lookup x=k0 .free)->X.env.kindOf x=k0 .cell\/X.env.kindOf x=k0 .free
 gl: ∀x,kD cf.sc x=u0->Gl X x
 calm:X.calm=u0
 room:bj k X.A
 eB:bj (k+1) X.A
 pass:Jw (eA X.prog X.w) X E
 blt: ∀x,x∈c6->X.mg (jg x)=y0
 con: ∀x d,F.con.lookup x=k0 d-> ∃u v,X.mg (jg x)=k0 u/\RelV v u/\ ∀G H,aA Y G H d v
 fn: ∀f,cf.fns.contains f=u0-> ∃ps,C6 X k (jg f) ps (gy Y (F.call f))
 cls: ∀c,cf.own.contains c=u0->X.mg (jg c)=k0 (.ref (Y.ca c))
 fld: ∀c f,cf.ob.fl.contains (c,f)=u0->dN X.K (Y.ca c)/\b0 X.K (Y.ca c) (jg f)
 hB: ∀c m q,cf.ob.mt.contains (c,m,q)=u0->dN X.K (Y.ca c)/\ ∃fa fd ps,kU X.K (Y.ca c) (jg m) fa/\bA X.prog X.w X.K X.mg X.base (eA X.prog X.w) k fa fd ps (gy Y (F.call q))/\Binds X.K fd ps []
 eN: ∀c q,cf.ob.eN.contains (c,q)=u0->X.mg (jg c)=k0 (.ref (Y.ca c))/\ ∃fa fd ps,Mk X.K (Y.ca c) fa/\bA X.prog X.w X.K X.mg X.base (eA X.prog X.w) k fa fd ps (gy Y (F.call q))/\Binds X.K fd ps []
@[elab_as_elim] theorem kE {P:List α->Prop}(k:b=u0->P []): ∀l,kZ l b=u0->P l:=by rintro (_|_)<;>first | exact cn | exact k
def a2 (h:(a&&b)=u0):a=u0/\b=true:=Bool.and_eq_true_iff.mp h
def a3 (h:(a&&b&&c)=u0):a=u0/\b=u0/\c=true:=⟨(a2 (a2 h).1).1,(a2 (a2 h).1).2,(a2 h).2⟩
def a4 (h:(a&&b&&c&&d)=u0):a=u0/\b=u0/\c=u0/\d=true:=⟨(a3 (a2 h).1).1,(a3 (a2 h).1).2.1,(a3 (a2 h).1).2.2,(a2 h).2⟩
def a5 (h:(a&&b&&c&&d&&e)=u0):a=u0/\b=u0/\c=u0/\d=u0/\e=true:=⟨(a2 (a4 h).1).1,(a2 (a4 h).1).2,(a4 h).2⟩
def a6 (h:(a&&b&&c&&d&&e&&f)=u0):a=u0/\b=u0/\c=u0/\d=u0/\e=u0/\f=true:=⟨(a2 (a5 h).1).1,(a2 (a5 h).1).2,(a5 h).2⟩
def a7 (h:(a&&b&&c&&d&&e&&f&&g)=u0):a=u0/\b=u0/\c=u0/\d=u0/\e=u0/\f=u0/\g=true:=⟨(a2 (a6 h).1).1,(a2 (a6 h).1).2,(a6 h).2⟩
def nn (h:o.isNone=u0):o=none:=Ah.mp h
def eD (h:vB cf i x=u0):cf.N[i]? =k0 x/\qK cf.sc x=u0/\bx x=true:=⟨of_decide_eq_true (a3 h).1,(a3 h).2⟩
def ze (h:cX sc x e=true): ∃p,e= .Name (jg x) p/\kD sc (jg x)=true/\(jg x==("__debug__" :Str))=false:=by
 unfold cX at h
 rw [Aa0,Aa0]at h
 obtain⟨⟨b,c⟩,a⟩:=h
 unfold bx at a
 rw [Aa0]at a
 cases e with
 | Name y p=>
  have:y=jg x:=by simpa [nO]using b
  subst this
  exact⟨p,rfl,c,by simpa using a.1⟩
 | _=>simp [nO]at b
def wE (h:x∈c6):jg x≠("__name__" :Str):=by
 have:(c6.all λx=>decide (jg x≠ "__name__"))=true:=by decide +kernel
 exact of_decide_eq_true (Al1.mp this x h)
section
variable {Y:Ge}{F:M.Fx}{X:Cx}{E:XK}{k:Nat}{cf:Cf}
section
variable {G:Gh}{H:Hp}{h:M.AH}{τ:M.Sl}{U:St}{Q:VK}
def au.val (p:au Y E G0 H0 (.ok w h) λw _ G' H'=> ∀v,ai Y G' H' w v->aJ τ U H0 w v->Q v H') (e:Ext G0 H0 G H) (a:ah Y G h H) (z:ai Y G H w v) (f:aJ τ U H0 w v):Q v H:=
 p G H e a v z f
end
def Dz (c:Go Y F X E k cf)(g:cf.N[i]? =k0 x) (u:qK cf.sc x=u0) (b:bx x=u0):PE X (.Name x pos) (tD Y E (M.eval F (.var i))):=by
 unfold bx at b
 rw [Aa0]at b
 refine PE.imp (XD (by rw [c.N];exact g) (c.gu x u) (by simpa using b.1) (by simpa using b.2)) λU H Q f=> ?_
 obtain⟨G,y,h,s,p⟩:=f
 rw [M.eval]at p
 cases q:M.Gp y i with
 | none=>simp [M.Gk,q]at p;exact p.elim
 | some w=>
  obtain⟨v,e,r⟩:=s.slot i w q
  refine⟨v,e,?_⟩
  cases w with
  | v d=>
   rw [M.Kn q]at p
   exact au.val p Ext.refl s.heap r trivial
  | own j=>
   rw [M.G7 q]at p
   obtain⟨a,m,l,z,o,n,t⟩:=r
   exact au.val p Ext.refl s.heap ⟨a,m,l,o,.inl n,t⟩ ⟨i,_,q,rfl,e⟩
  | bor j=>
   rw [M.G8 q]at p
   exact au.val p Ext.refl s.heap r ⟨i,_,q,rfl,e⟩
def IS (f:Go Y F X E k cf)(j:cX cf.sc c e=u0):PE X e (tD Y E (M.eval F (.con c))):=by
 obtain⟨p,rfl,m,l⟩:=ze j
 cases q:F.con.lookup c with
 | none=>
  intro g s U H Q I ⟨G,n,h,b,a⟩
  rw [M.eval,q]at a
  exact a.elim
 | some d=>
  obtain⟨u,v,o,rv,rd⟩:=f.con c d q
  refine PE.imp (C9 (f.gl _ m) o rv l) λU H Q i=> ?_
  obtain⟨G,n,h,b,a⟩:=i
  rw [M.eval,q]at a
  exact au.val a Ext.refl b.heap (rd G H) trivial
def HL :PE X (.Constant (.int i) j pos) (tD Y E (M.eval F (.int i))):=PE.imp F5 λU H Q ⟨G,a,h,s,p⟩=>au.val p Ext.refl s.heap rfl trivial
def Aq :PE X (.Constant (.bool i) j pos) (tD Y E (M.eval F (.bl i))):=PE.imp DT λU H Q ⟨G,a,h,s,p⟩=>au.val p Ext.refl s.heap rfl trivial
def KW :PE X (.Constant .none j pos) (tD Y E (M.eval F .ak)):=PE.imp yM λU H Q ⟨G,a,h,s,p⟩=>au.val p Ext.refl s.heap rfl trivial
def yI :PE X (.Constant (.str (aB i)) j pos) (tD Y E (M.eval F (.str i))):=PE.imp oN λU H Q ⟨G,a,h,s,p⟩=>au.val p Ext.refl s.heap rfl trivial
section
variable {a b c:M.E}{x y z:Expr}{pos:Pos}
def Lf (l:Go Y F X E k cf)(q:lK o=u0) (g:PE X x (tD Y E (M.eval F a))) (j:PE X y (tD Y E (M.eval F b))):PE X (.BinOp x (my o) y pos) (tD Y E (M.eval F (.bin o a b))):=by
 refine PE.imp (Cj (Ha (E:=E) o q l.K) g j) λU H Q e=> ?_
 obtain⟨G,K,h,s,p⟩:=e
 refine Xa s.heap Ext.refl s p λi v1 D C I e1 m d t A u=> ?_
 refine Xa s.heap e1 d u λr v2 w n J e2 c f z B v=> ?_
 exact⟨n,w,i,r,f.heap,t.ext c d.heap,z,az.mk v e2 s.heap⟩
def W5 (z:aA Y G H d v) (f:M.GI d=u0):QK v=true:=by
 cases d with
 | ak=>cases (z);rfl
 | bl _=>cases (z);rfl
 | int _=>cases (z);rfl
 | str _=>cases (z);rfl
 | _=>exact absurd (f) Ab2
theorem QQ : ∀ {ds}{vs},aa Y G H ds vs->ds.all M.GI=u0->vs.all QK=u0
 | [],_,rfl,_=>rfl
 | d::ds,_,⟨v,r,rfl,b,a⟩,f=>by
  rw [Ag1,Aa0]at f ⊢
  exact⟨W5 b f.1,QQ a f.2⟩
def HB (z:aA Y G H d v) (y:aA Y G H e u) (f:M.GI d=u0) (c:M.GI e=u0):gr v u=M.bL d e:=by
 cases d with
 | ak=>
  cases (z)
  cases e with
  | ak=>cases (y);rfl
  | bl _=>cases (y);rfl
  | int _=>cases (y);rfl
  | str _=>cases (y);rfl
  | _=>exact absurd (c) Ab2
 | bl a=>
  cases (z)
  cases e with
  | ak=>cases (y);rfl
  | bl _=>cases (y);rfl
  | int j=>cases (y);show(_==j)=(a.toNat==j);rw [ly]
  | str _=>cases (y);rfl
  | _=>exact absurd (c) Ab2
 | int i=>
  cases (z)
  cases e with
  | ak=>cases (y);rfl
  | bl b=>cases (y);show(i==(if b then(1:Int)else 0))=(i== b.toNat);rw [ly]
  | int _=>cases (y);rfl
  | str _=>cases (y);rfl
  | _=>exact absurd (c) Ab2
 | str i=>
  cases (z)
  cases e with
  | ak=>cases (y);rfl
  | bl _=>cases (y);rfl
  | int _=>cases (y);rfl
  | str j=>cases (y);exact uD i j
  | _=>exact absurd (c) Ab2
 | _=>exact absurd (f) Ab2
theorem tq (z:aA Y G H d v) (a:M.GI d=u0): ∀ {ds}{vs},aa Y G H ds vs->ds.all M.GI=u0->lD v vs=M.inD d ds
 | [],_,rfl,_=>rfl
 | e::ds,_,⟨u,r,rfl,g,c⟩,f=>by
  rw [Ag1,Aa0]at f
  have b:=tq z a c f.2
  unfold lD M.inD at b ⊢
  rw [Ae8,Ae8,b,HB g z f.1 a]
def ai.kz (z:ai Y G H w v) (e:w.d=k0 d) (f:M.GI d=u0):aA Y G H d v:=by
 cases w with
 | v b=>cases e;exact z
 | own a=>cases e;exact absurd (f) Ab2
 | bor a=>cases e
theorem rW (a: ∀c y,RV hp c y->ee y=M.bL c d): ∀ {ys}{j},b7 hp ys j->j.any ee=M.inD d ys
 | [],_,rfl=>rfl
 | c::ys,_,⟨u,r,rfl,f,e⟩=>by
  have b:=rW a e
  unfold M.inD at b ⊢
  rw [Ae8,Ae8,b,a c u f]
def tR (f:bj k X.A)(p:M.GD ys<140) (o:RV s.heap d v) (l:b7 s.heap ys its): ∃J:Value->Bool,(∀ c y,RV s.heap c y->J y=M.bL c d)/\ ∀y,y∈its.toArray->SeqAt.EqAt X.A.in1 s y v (J y):=by
 have e: ∃J:Value->Bool,∀c y,RV s.heap c y->J y=M.bL c d:=⟨λy=> @y9 (∃ a,RV s.heap a y/\M.bL a d=u0) (Al7 _),λc y z=>by
  cases q:M.bL c d with
  | true=>exact @decide_eq_true _ (Al7 _) ⟨c,z,q⟩
  | false=>exact @decide_eq_false _ (Al7 _) λ⟨d,i,g⟩=>by rw [RV.inj i z,q]at g;cases g⟩
 obtain⟨J,h⟩:=e
 refine⟨J,h,λy m=> ?_⟩
 obtain⟨j,n⟩:=List.getElem?_of_mem (List.mem_toArray.mp m)
 obtain⟨a,b,rd⟩:=l.get n
 rw [h a y rd]
 exact(m1 140 a _ X.A.in1 y v (by have:=ZF b;lia) (by have:=f.un;lia) rd o).eq
def Ib (r:X.K=Y.K)(g:bj k X.A) (neg:Bool){x y:V}(I:Inv X k8 U H s) (t:RelV x v) (z:RelV y u){b:Bool}(o:ah Y G h H)
 (w:ai Y G H w1 x) (D:ai Y G H w2 y) (e:M.Kr w1 w2 h=k0 b) (q:Q (.bl (if neg then !b else b)) H):wpAny (model X.prog X.w) X.A (compareOp (if neg then .NotIn else .In) v u) (EP X k8 U Q) X.xe s:=by
 unfold M.Kr at e
 split at e
 ·rename_i A e2
  split at e
  ·rename_i c
   cases e
   have m:=by simpa using c
   have B:=w.rv I r o t m.1.1
   have p:=D.rv I r o z (by simp_all)
   rw [e2]at p
   obtain⟨a,d,rfl,n,j⟩:=p
   obtain⟨f,C,i⟩:=tR g m.2 B j
   have l:d.toArray.any f=M.inD (w1.dd h) A:=by rw [List.any_toArray];exact rW C j
   cases neg with
   | true=>exact SeqAt.notIn_listAt f n i ⟨.bl _,H,I,rfl,by rw [l];exact q⟩
   | false=>exact SeqAt.in_listAt f n i ⟨.bl _,H,I,rfl,by rw [l];exact q⟩
  ·cases e
 ·cases e
def uW (o:X.K=Y.K)(n:bj k X.A) (neg:Bool){x y:V}(I:Inv X k8 U H s) (f:RelV x v) (g:RelV y u){b:Bool}(w:ah Y G h H)
 (m:ai Y G H w1 x) (p:ai Y G H w2 y) (e:M.Kb w1 w2 h=k0 b) (q:Q (.bl (if neg then !b else b)) H):wpAny (model X.prog X.w) X.A (compareOp (if neg then .NotIn else .In) v u) (EP X k8 U Q) X.xe s:=by
 unfold M.Kb at e
 split at e
 ·rename_i i j e1 e2
  split at e
  ·rename_i c
   cases e
   cases m.str e1
   cases p.str e2
   have r:(!(Builtin.Str.occurrences (aB j) (aB [c]) 0 (aB j).length 1).isEmpty)=j.contains c:=by
    have:=PySem.StrLaws.found_one (aB j) c
    refine this.trans ?_
    rw [An1,decide_eq_true_eq,List.contains_iff_mem]
    simp [aB]
   cases neg with
   | true=>exact xY k8 s U H _ _ v u Q I f g ⟨_,_,rfl,rfl,by rw [r];exact q⟩
   | false=>exact HU k8 s U H _ _ v u Q I f g ⟨_,_,rfl,rfl,by rw [r];exact q⟩
  ·cases e
 ·split at e
  ·rename_i d B e1 e2
   split at e
   ·rename_i c
    rw [Aa0]at c
    cases e
    have z:=m.kz e1 c.1
    obtain⟨a,A,rfl,t,l⟩:=p.seq w e2
    rw [← tq z c.1 l c.2]at q
    cases neg with
    | true=>exact WX k8 s U H _ _ v u Q I f g ⟨a,A,rfl,o▸lO t,W5 z c.1,QQ l c.2,q⟩
    | false=>exact DZ k8 s U H _ _ v u Q I f g ⟨a,A,rfl,o▸lO t,W5 z c.1,QQ l c.2,q⟩
   ·exact Ib o n neg I f g w m p e q
  ·cases e
def Ia:bK X (compareOp .GtE) (λx y H Q=> ∃i j,x= .str i/\y= .str j/\Q (.bl (!y9 (i.cps.toList<j.cps.toList))) H):=by
 intro a s U H x y v u Q I b c ⟨i,j,ex,d,q⟩
 subst ex d
 obtain⟨t,rfl⟩:=b
 obtain⟨e,rfl⟩:=c
 exact PySem.P.ge_str (wY I q rfl)
def jM (r:Go Y F X E k cf) (o) (B:xK o=u0):bK X (compareOp (fk o)) (iJ Y o):=by
 have g: ∀ {o},(∀ a d h b,M.Gs o a d h=k0 b->(∃ i j,M.W.int? a=k0 i/\M.W.int? d=k0 j/\M.Ks o i j=k0 b)\/(∃ i j,M.W.bJ a=k0 i/\M.W.bJ d=k0 j/\M.Kv o i j=k0 b))->bK X (compareOp (fk o)) (iJ Y o):=by
  intro o A f s U H x y v u Q I l m ⟨G,h,a,d,b,w,n,p,e,q⟩
  obtain⟨i,j,e1,e2,z⟩ | ⟨i,j,e1,e2,z⟩:=A a d h b e
  ·cases n.int e1
   cases p.int e2
   exact Df z I l m q
  ·cases n.str e1
   cases p.str e2
   cases o with
   | lt=>
    cases z
    refine HW f s U H _ _ v u Q I l m ⟨_,_,rfl,rfl,?_⟩
    have:y9 ((aB i).cps.toList<(aB j).cps.toList)=y9 (i<j):=decide_eq_decide.mpr (by simp [aB])
    exact q
   | ge=>
    cases z
    have:y9 ((aB i).cps.toList<(aB j).cps.toList)=y9 (i<j):=decide_eq_decide.mpr (by simp [aB])
    exact Ia f s U H _ _ v u Q I l m ⟨_,_,rfl,rfl,q⟩
   | _=>cases z
 have mk: ∀ {o}{a d}{h:M.AH}{b},(match M.W.int? a,M.W.int? d with
  | some i,k0 j=>M.Ks o i j
  | _,_=>match M.W.bJ a,M.W.bJ d with
   | some s,k0 t=>M.Kv o s t
   | _,_=>y0)=k0 b->(∃ i j,M.W.int? a=k0 i/\M.W.int? d=k0 j/\M.Ks o i j=k0 b)\/(∃ i j,M.W.bJ a=k0 i/\M.W.bJ d=k0 j/\M.Kv o i j=k0 b):=by
  intro o a d h b e
  split at e
  ·rename_i i j e1 e2;exact .inl ⟨i,j,e1,e2,e⟩
  ·split at e
   ·rename_i i j e1 e2;exact .inr ⟨i,j,e1,e2,e⟩
   ·cases e
 cases o with
 | eq=>exact E6 r.K r.room
 | ne=>exact Cu r.K r.room
 | lt=>exact g λa d h b e=>mk (h:=h) e
 | le=>exact g λa d h b e=>mk (h:=h) e
 | gt=>exact g λa d h b e=>mk (h:=h) e
 | ge=>exact g λa d h b e=>mk (h:=h) e
 | mem=>
  intro f s U H x y v u Q I l m ⟨G,h,a,d,b,w,n,p,e,q⟩
  exact uW r.K r.room k9 I l m w n p e q
 | eV=>
  intro f s U H x y v u Q I l m ⟨G,h,a,d,b,w,n,p,e,q⟩
  have e:(M.Kb a d h).map (!·)=k0 b:=e
  cases e2:M.Kb a d h with
  | none=>rw [e2]at e;cases e
  | some c=>
   rw [e2]at e
   cases e
   exact uW r.K r.room u0 I l m w n p e2 q
 | cH=>
  intro f s U H x y v u Q I l m ⟨G,h,a,d,b,w,n,p,e,q⟩
  have e:M.Ku a d=k0 b:=e
  unfold M.Ku at e
  split at e
  ·cases e
   cases n
   cases p
   cases l
   obtain⟨t,rfl⟩:=m
   exact wpAny_is_plain rfl (wY I q rfl)
  ·cases e
   cases n
   cases p
   obtain⟨t,rfl⟩:=l
   obtain⟨C,rfl⟩:=m
   exact PyProof.Rows.is_bool (wY I q rfl)
  ·cases e
def Wq (h:xg e=u0):behindInMarks o e=false:=by
 cases e<;>first | rfl | (simp [xg]at h)
def ux (C:Go Y F X E k cf)(s:ar Y G τ h U H)
 (p:au Y E G H ((M.eval F a τ h).bind λx h=>(M.eval F b τ h).bind λy h=>(M.R.of h (M.Gs o x y h)).bind λc h=> .ok c h) λc _ _ H'=>R (.bl c) H'):
 lj (iJ Y o) (tD Y E (M.eval F a)) (tD Y E (M.eval F b)) U H R:=by
 refine Xa s.heap Ext.refl s p λi v1 A z B e1 l g q v r=> ?_
 refine Xa s.heap e1 g r λn v2 t m D e2 e f u w d=> ?_
 obtain⟨c,j,d⟩:=d.of
 exact⟨m,t,i,n,c,f.heap,q.ext e g.heap,u,j,d.at e2 f.heap⟩
def au.map {f:α->β}(p:au Y E G H (r.bind λa h=> .ok (f a) h) P):au Y E G H r λa h G' H'=>P (f a) h G' H':=by
 cases r with
 | ok a h=>exact p
 | exc d h=>exact p
 | fail=>exact p
def Xg (r:M.R α) (f) (g:β->M.AH->M.R γ):(r.bind f).bind g=r.bind λa h=>(f a h).bind g:=by cases r<;>rfl
def Ej (l:Go Y F X E k cf)(z:xK o=u0) (A:xg y=u0) (n:PE X x (tD Y E (M.eval F a))) (t:PE X y (tD Y E (M.eval F b))):PE X (.Compare x [fk o] [y] pos) (tD Y E (M.eval F (.cmp o a b))):=by
 refine PE.imp (ua (jM l o z) n t (Wq A)) λU H Q m=> ?_
 obtain⟨G,g,h,s,p⟩:=m
 rw [M.eval]at p
 refine ux l s ?_
 have B:au Y E G H (((M.eval F a g h).bind λx h=>(M.eval F b g h).bind λy h=>(M.R.of h (M.Gs o x y h)).bind λc h=> .ok c h).bind λc h=> .ok (M.W.v (.bl c)) h) λw _ j i=> ∀v,ai Y j i w v->aJ g U H w v->Q v i:=by
  simpa only [Xg,M.R.ab]using p
 have f:=B.map
 cases q:(M.eval F a g h).bind λx h=>(M.eval F b g h).bind λy h=>(M.R.of h _).bind λc h=> .ok c h with
 | ok c r=>rw [q]at f;exact λj i e u=>f j i e u _ rfl trivial
 | exc d r=>rw [q]at f;exact f
 | fail=>rw [q]at f;exact f
def Ck (g:Go Y F X E k cf)(u:xK o=u0) (v:xg y=u0) (l:PE X x (tD Y E (M.eval F a))) (r:PE X y (tD Y E (M.eval F b))):PT X (.Compare x [fk o] [y] pos) (cN Y E (M.Gm F (.cmp o a b))):=by
 refine PT.imp (rP (jM g o u) l r (Wq v)) λU H Q j=> ?_
 obtain⟨G,i,h,s,p⟩:=j
 unfold M.Gm at p
 rw [M.eval]at p
 refine ux g s ?_
 have f:=by
  simpa only [Xg,M.R.ab,M.GP,M.R.aj]using p
 cases q:(M.eval F a i h).bind λx h=>(M.eval F b i h).bind λy h=>(M.R.of h _).bind λc h=> .ok c h with
 | ok c n=>rw [q]at f;exact λm w e t=>⟨c,rfl,f m w e t⟩
 | exc d n=>rw [q]at f;exact f
 | fail=>rw [q]at f;exact f
end
end
section
variable {Y:Ge}{F:M.Fx}{X:Cx}{E:XK}{k:Nat}{cf:Cf}{a b c:M.E}{x y z:Expr}{pos:Pos}
def WE (r:M.R α):(r.bind λw h=> .ok w h)=r:=by cases r<;>rfl
def Cc (m:Go Y F X E k cf) (e:PE X x (tD Y E (M.eval F a))) (r: ∀j,isTrue x X.env j=(do let v ←j;standAt x.pos;holding [v] (truthy v))):PT X x (cN Y E (M.Gm F a)):=by
 refine PT.imp (F6 e r) λU H Q d=> ?_
 obtain⟨G,w,h,s,p⟩:=d
 refine Xa s.heap Ext.refl s p λi v1 g f l e1 n c o u b=> ?_
 cases q:M.GX g i with
 | none=>rw [q]at b;exact b.elim
 | some t=>
  rw [q]at b
  exact⟨t,mG m.K c.heap o q,b f l e1 c.heap⟩
def Dg (d:PE X x ta):PE X (.UnaryOp .Not x pos) (λU H Q=>ta U H λv H1=> ∃t,hO X.K v H1 t/\Q (.bl (!t)) H1):=by
 intro a s U H Q I h
 refine UnaryOp_ (aP (d a s U H _ I h) ?_)
 rintro v i ⟨x,H1,k,f,t,b,e⟩
 exact not_of (aP (lE a i U H1 x v (λc g=>Q (.bl (!c)) g) k f ⟨t,b,e⟩) λc m ⟨j,l,q⟩=>⟨.bl (!c),j,l,rfl,q⟩)
def Hr (f:Go Y F X E k cf) (e:PE X x (tD Y E (M.eval F a))):PE X (.UnaryOp .Not x pos) (tD Y E (M.eval F (.not a))):=by
 refine PE.imp (Dg e) λU H Q d=> ?_
 obtain⟨G,r,h,s,p⟩:=d
 refine Xa s.heap Ext.refl s p λn v1 m l o e1 g c i j b=> ?_
 obtain⟨t,q,b⟩:=b.of
 exact⟨t,mG f.K c.heap i q,au.val b e1 c.heap rfl trivial⟩
def IM (g:PT X x (cN Y E (M.Gm F a))):PT X (.UnaryOp .Not x pos) (cN Y E (M.Gm F (.not a))):=by
 refine PT.imp (CM g) λU H Q e=> ?_
 obtain⟨G,c,h,s,p⟩:=e
 unfold M.Gm at p
 rw [M.eval]at p
 have d:au Y E G H ((M.Gm F a c h).bind λt h=> .ok (!t) h) λb _ _ f=>Q b f:=by
  unfold M.Gm
  simpa only [Xg,M.R.ab,M.GP,M.R.aj]using p
 exact⟨G,c,h,s,d.map⟩
def K4 {qt:List Expr}(k:PE X x ta) (m:PE X (.BoolOp .And (y::qt) pos) tb):PE X (.BoolOp .And (x::y::qt) pos) (λU H Q=>ta U H λv H1=> ∃t,hO X.K v H1 t/\if t=u0 then tb U H1 Q else Q v H1):=by
 intro a s U H Q I h
 refine BoolOp_and (aP (k a s U H _ I h) ?_)
 rintro v n ⟨x,H1,o,b,t,i,l⟩
 refine aP (lE a n U H1 x v (λc d=>if c=u0 then tb U d Q else Q x d) o b ⟨t,i,l⟩) λc j g=> ?_
 obtain⟨e,f,q⟩:=g
 cases c with
 | true=>exact m a j U e Q f q
 | false=>exact⟨x,e,f,b,q⟩
def AA {qt:List Expr}(k:PE X x ta) (m:PE X (.BoolOp .Or (y::qt) pos) tb):PE X (.BoolOp .Or (x::y::qt) pos) (λU H Q=>ta U H λv H1=> ∃t,hO X.K v H1 t/\if t=u0 then Q v H1 else tb U H1 Q):=by
 intro a s U H Q I h
 refine BoolOp_or (aP (k a s U H _ I h) ?_)
 rintro v n ⟨x,H1,o,b,t,i,l⟩
 refine aP (lE a n U H1 x v (λc d=>if c=u0 then Q x d else tb U d Q) o b ⟨t,i,l⟩) λc j g=> ?_
 obtain⟨e,f,q⟩:=g
 cases c with
 | false=>exact m a j U e Q f q
 | true=>exact⟨x,e,f,b,q⟩
def u2 (n:Go Y F X E k cf){qt:List Expr}(l:PE X x (tD Y E (M.eval F a))) (m:PE X (.BoolOp .And (y::qt) pos) (tD Y E (M.eval F b))):PE X (.BoolOp .And (x::y::qt) pos) (tD Y E (M.eval F (.and a b))):=by
 refine PE.imp (K4 l m) λU H Q g=> ?_
 obtain⟨G,K,h,s,p⟩:=g
 refine Xa s.heap Ext.refl s p λA v1 z w B e1 o d e f c=> ?_
 obtain⟨t,q,c⟩:=c.of
 refine⟨t,mG n.K d.heap e q,?_⟩
 cases t with
 | true=>
  exact Xa s.heap e1 d (by rw [WE];exact c) λD v2 J C I e2 u i v j r=>au.val r e2 i.heap v (j.back e1 s.heap)
 | false=>
  exact au.val c e1 d.heap e f
def rB (n:Go Y F X E k cf){qt:List Expr}(l:PE X x (tD Y E (M.eval F a))) (m:PE X (.BoolOp .Or (y::qt) pos) (tD Y E (M.eval F b))):PE X (.BoolOp .Or (x::y::qt) pos) (tD Y E (M.eval F (.or a b))):=by
 refine PE.imp (AA l m) λU H Q g=> ?_
 obtain⟨G,K,h,s,p⟩:=g
 refine Xa s.heap Ext.refl s p λA v1 z w B e1 o d e f c=> ?_
 obtain⟨t,q,c⟩:=c.of
 refine⟨t,mG n.K d.heap e q,?_⟩
 cases t with
 | false=>
  exact Xa s.heap e1 d (by rw [WE];exact c) λD v2 J C I e2 u i v j r=>au.val r e2 i.heap v (j.back e1 s.heap)
 | true=>
  exact au.val c e1 d.heap e f
def Du :M.Gm F (.and a b) τ h=(M.Gm F a τ h).bind λt h=>match t with
 | true=>M.Gm F b τ h
 | false=> .ok k9 h:=by
 unfold M.Gm
 rw [M.eval]
 simp only [Xg]
 congr 1
 funext w h1
 cases q:M.GX h1 w with
 | none=>rfl
 | some t=>
  cases t with
  | true=>rfl
  | false=>simp [q]
def BE :M.Gm F (.or a b) τ h=(M.Gm F a τ h).bind λt h=>match t with
 | true=> .ok u0 h
 | false=>M.Gm F b τ h:=by
 unfold M.Gm
 rw [M.eval]
 simp only [Xg]
 congr 1
 funext w h1
 cases q:M.GX h1 w with
 | none=>rfl
 | some t=>
  cases t with
  | false=>rfl
  | true=>simp [q]
def pN {qt:List Expr}(i:PT X x (cN Y E (M.Gm F a))) (l:PW X (.BoolOp .And (y::qt) pos) (cN Y E (M.Gm F b))):PW X (.BoolOp .And (x::y::qt) pos) (cN Y E (M.Gm F (.and a b))):=by
 intro v c m U H Q I ⟨G,C,h,s,p⟩
 refine HI i l v c m U H Q I ?_
 rw [Du]at p
 refine xO s.heap Ext.refl s p λt z j k e1 n d e=> ?_
 cases t with
 | true=>
  exact xO s.heap e1 d (f:=λw h=> .ok w h) (by rw [WE];exact e) λA B o q e2 u g r=>r o q e2 g.heap
 | false=>
  exact e j k e1 d.heap
def tN {qt:List Expr}(i:PT X x (cN Y E (M.Gm F a))) (l:PW X (.BoolOp .Or (y::qt) pos) (cN Y E (M.Gm F b))):PW X (.BoolOp .Or (x::y::qt) pos) (cN Y E (M.Gm F (.or a b))):=by
 intro v c m U H Q I ⟨G,C,h,s,p⟩
 refine K1 i l v c m U H Q I ?_
 rw [BE]at p
 refine xO s.heap Ext.refl s p λt z j k e1 n d e=> ?_
 cases t with
 | false=>
  exact xO s.heap e1 d (f:=λw h=> .ok w h) (by rw [WE];exact e) λA B o q e2 u g r=>r o q e2 g.heap
 | true=>
  exact e j k e1 d.heap
def Ec (d:PE X x (tD Y E (M.eval F a))):PE X (.UnaryOp .USub x pos) (tD Y E (M.eval F (.neg a))):=by
 refine PE.imp (rR BU d) λU H Q c=> ?_
 obtain⟨G,n,h,s,p⟩:=c
 refine Xa s.heap Ext.refl s p λl v1 k j m e1 e g f i b=> ?_
 obtain⟨t,q,b⟩:=b.of
 exact⟨t,f.int q,au.val b e1 g.heap rfl trivial⟩
def HZ (d:PE X x (tD Y E (M.eval F a))):PE X (.UnaryOp .Invert x pos) (tD Y E (M.eval F (.inv a))):=by
 refine PE.imp (rR Bp d) λU H Q c=> ?_
 obtain⟨G,o,h,s,p⟩:=c
 refine Xa s.heap Ext.refl s p λm v1 l k n e1 f i g j b=> ?_
 obtain⟨t,q,b⟩:=b.of
 refine⟨t,g.int q,?_⟩
 have e:Builtin.bitNot t= -t-1:=by unfold Builtin.bitNot;lia
 exact au.val b e1 i.heap rfl trivial
def p9 (r:ai Y G H w v):(v= .ak)↔w= .v .ak:=by
 constructor
 ·intro e
  subst e
  cases w with
  | v d=>
   cases d with
   | ak=>rfl
   | bl _=>cases (r)
   | int _=>cases (r)
   | str _=>cases (r)
   | tup _=>obtain⟨_,_,e,_⟩:=r;cases e
   | lst _=>obtain⟨_,_,e,_⟩:=r;cases e
   | ref _=>obtain⟨_,e⟩:=r;cases e
   | exc _ _=>rcases r with⟨_,_,e,_⟩ | ⟨_,_,e,_⟩<;>cases e
   | err _ _ _=>obtain⟨_,_,_,e,_⟩:=r;cases e
  | own _=>obtain⟨_,_,e,_⟩:=r;cases e
  | bor _=>obtain⟨_,_,e,_⟩:=r;cases e
 ·intro e
  subst e
  exact r
def mW (neg:Bool):M.W->Bool
 | .v .ak=> !neg
 | _=>neg
def s9 :M.eval F (.fv neg a) τ h=(M.eval F a τ h).bind λw h=>M.aD (.bl (mW neg w)) h:=by
 rw [M.eval]
 congr 1
 funext w h1
 cases w with
 | v d=>cases d<;>rfl
 | own _=>rfl
 | bor _=>rfl
def vg (r:ai Y G H w v) (neg:Bool):(if neg then !y9 (v= .ak)else y9 (v= .ak))=mW neg w:=by
 by_cases a:v= .ak
 ·have b:=(p9 r).mp a
  subst b a
  cases neg<;>rfl
 ·have b:=λe=>a ((p9 r).mpr e)
  have e1:=decide_eq_false a
  rw [e1]
  have e2:mW neg w=neg:=by
   cases w with
   | v d=>cases d<;>first | rfl | exact absurd rfl b
   | own _=>rfl
   | bor _=>rfl
  rw [e2]
  cases neg<;>rfl
def HD (c:PE X x (tD Y E (M.eval F a))):PE X (.Compare x [if neg then .IsNot else .Is] [.Constant .none j pos'] pos) (tD Y E (M.eval F (.fv neg a))):=by
 have b: ∀U H Q,tD Y E (M.eval F (.fv neg a)) U H Q->tD Y E _ U H λv d=>Q (.bl (if neg then !y9 (v= .ak)else decide _)) d:=λU H Q e=>by
  obtain⟨G,q,h,s,p⟩:=e
  rw [s9]at p
  refine Xa s.heap Ext.refl s p λo v1 n m d e1 f i g l k=> ?_
  rw [vg g neg]
  exact au.val k e1 i.heap rfl trivial
 cases neg with
 | true=>exact PE.imp (pb (tx c)) b
 | false=>exact PE.imp (pb (uz c)) b
def AM (k:PE X x (tD Y E (M.eval F a))):PT X (.Compare x [if neg then .IsNot else .Is] [.Constant .none j pos'] pos) (cN Y E (M.Gm F (.fv neg a))):=by
 have g: ∀U H Q,cN Y E (M.Gm F (.fv neg a)) U H Q->tD Y E _ U H λv b=>Q (if neg then !y9 (v= .ak)else decide _) b:=λU H Q l=>by
  obtain⟨G,i,h,s,p⟩:=l
  unfold M.Gm at p
  rw [s9,Xg]at p
  refine Xa s.heap Ext.refl s p λJ v1 I n b e1 y B z D C=> ?_
  rw [vg z neg]
  exact C n b e1 B.heap
 have fin: ∀U H Q,cN Y E _ U H Q->tD Y E (M.eval F a) U H λv b=> ∃c,V.bl _= .bl c/\Q c b:=λU H Q t=>by
  obtain⟨G,i,h,s,p⟩:=g U H Q t
  refine⟨G,i,h,s,?_⟩
  cases q:M.eval F a i h with
  | ok w o=>rw [q]at p;exact λm A e u v r f=>⟨_,rfl,p m A e u v r f⟩
  | exc d o=>rw [q]at p;exact p
  | fail=>rw [q]at p;exact p
 cases neg with
 | true=>exact PT.imp (uT (tx k)) fin
 | false=>exact PT.imp (uT (uz k)) fin
def ra (h:xg e'=u0):lastMarks [o,o'] [e,e']=false:=Wq h
def uh (S:Go Y F X E k cf)(s:ar Y G τ h U H)
 (l: ∀b h' G' H',P (.v (.bl b)) h' G' H'->R (.bl b) H') (p:au Y E G H (M.eval F (.chain o o' a b c) τ h) P):
 om (iJ Y o) (iJ Y o') (tD Y E (M.eval F a)) (tD Y E (M.eval F b)) (tD Y E (M.eval F c)) U H R:=by
 refine Xa s.heap Ext.refl s p λx v1 O N Q e1 y q B J C=> ?_
 refine Xa s.heap e1 q C λm v2 D z T e2 j d r L e=> ?_
 obtain⟨t,i,e⟩:=e.of
 refine⟨z,D,x,m,t,d.heap,B.ext j q.heap,r,i,t,rfl,?_⟩
 cases t with
 | true=>
  refine Xa s.heap e2 d e λw v3 A u K I g n v V f=> ?_
  obtain⟨t,i,f⟩:=f.of
  exact⟨u,A,m,w,t,n.heap,r.ext g d.heap,v,i,l _ _ _ _ (f.at I n.heap)⟩
 | false=>
  exact l _ _ _ _ (e.at e2 d.heap)
def FR (d:Go Y F X E k cf)(j:xK o=u0) (e:xK o'=u0) (g:xg z=u0) (f:PE X x (tD Y E (M.eval F a))) (i:PE X y (tD Y E (M.eval F b))) (l:PE X z (tD Y E (M.eval F c))):
 PE X (.Compare x [fk o,fk o'] [y,z] pos) (tD Y E (M.eval F (.chain o o' a b c))):=
 PE.imp (yo (jM d o j) (jM d o' e) f i l (ra g)) λU H Q ⟨G,t,h,s,p⟩=>uh d s (λb n m r q=>q _ rfl trivial) p
def E3 (g:Go Y F X E k cf)(A:xK o=u0) (i:xK o'=u0) (r:xg z=u0) (t:PE X x (tD Y E (M.eval F a))) (u:PE X y (tD Y E (M.eval F b))) (B:PE X z (tD Y E (M.eval F c))):
 PT X (.Compare x [fk o,fk o'] [y,z] pos) (cN Y E (M.Gm F (.chain o o' a b c))):=by
 refine PT.imp (D8 (jM g o A) (jM g o' i) t u B (ra r)) λU H Q m=> ?_
 obtain⟨G,C,h,s,p⟩:=m
 refine uh g s (P:=λw _ _ f=> ∀b,w= .v (.bl b)->Q b f) (λb l j f q=>⟨b,rfl,q b rfl⟩) ?_
 unfold M.Gm at p
 cases q:M.eval F _ C h with
 | ok w l=>rw [q]at p;exact λj f e v b n=>by subst n;exact p j f e v
 | exc d l=>rw [q]at p;exact p
 | fail=>rw [q]at p;exact p
end
def Wa (h:Zb e=u0):starEach (e::es) env=(k9,eval e env)::starEach es env:=by
 cases e<;>first | rfl | (simp [Zb]at h)
def xo (h: ∀e∈es,Zb e=u0):(backTo pos (starEach es env)).any (·.1)=false:=by
 induction es with
 | nil=>rfl
 | cons e r c=>
  rw [Wa (h e Aa7)]
  show(k9||(backTo pos _).any _)=k9
  rw [c λb a=>h b (Aa4 _ a)]
  rfl
section
variable {Y:Ge}{F:M.Fx}{X:Cx}{E:XK}{k:Nat}{cf:Cf}{a b c:M.E}{x y z:Expr}{pos:Pos}{es:M.Es}{xs:List Expr}
def Em:PA X [] (ir Y E (M.Gu F .nil)):=PA.imp Jn λU H Q ⟨G,a,h,s,p⟩=>p G H Ext.refl s.heap [] rfl
def Hm (j:Zb x=u0) (n:PE X x (tD Y E (M.eval F a))) (r:PA X xs (ir Y E (M.Gu F es))):PA X (x::xs) (ir Y E (M.Gu F (.cons a es))):=by
 refine PA.imp (qg n r (Wa j)) λU H Q k=> ?_
 obtain⟨G,K,h,s,p⟩:=k
 refine Xa s.heap Ext.refl s p λC v1 B A D e1 t w u g c=> ?_
 obtain⟨d,q,c⟩:=c.of
 obtain⟨I,e2,e,rd,_⟩:=nB e1 w s u g q
 refine w5 s.heap e2 e c λz f J m i y b v o l=> ?_
 exact l m i y v.heap (v1::f) ⟨v1,f,rfl,rd.ext b e.heap,o⟩
def DJ:PA X [] (fW Y E (M.Gi F .nil)):=PA.imp Jn λU H Q ⟨G,a,h,s,p⟩=>p G H Ext.refl s.heap [] rfl
def C4 (f:Zb x=u0) (k:PE X x (tD Y E (M.eval F a))) (m:PA X xs (fW Y E (M.Gi F es))):PA X (x::xs) (fW Y E (M.Gi F (.cons a es))):=by
 refine PA.imp (qg k m (Wa f)) λU H Q g=> ?_
 obtain⟨G,C,h,s,p⟩:=g
 refine Xa s.heap Ext.refl s p λz v1 y w A e1 n d o u r=> ?_
 refine zq s.heap e1 d r λv c B j e t b q l i=> ?_
 exact i j e t q.heap (v1::c) ⟨v1,c,rfl,o.ext b d.heap,l⟩
def Hq (C:xs.length<=1000) (a: ∀τ h ds h',M.Gu F es τ h= .ok ds h'->ds.length=xs.length) (r:PA X xs (ir Y E (M.Gu F es))):PE X (.Tuple xs n pos) (tD Y E (M.eval F (.tup es))):=by
 refine PE.imp (ID r) λU H Q m=> ?_
 obtain⟨G,τ,h,s,p⟩:=m
 rw [M.eval]at p
 cases q:M.Gu F es τ h with
 | ok e i=>
  have o:=a _ _ _ _ q
  refine w5 s.heap Ext.refl s (f:=λds h=>if ds.length=xs.length then M.aD (.tup ds) h else .fail) (P:=λw h' t k=> ∀v,ai Y t k w v->aJ τ U H w v->Q v k) ?_ λds D z A B e1 u x j b=> ?_
  ·rw [q]at p ⊢
   show au Y E G H (if e.length=xs.length then M.aD _ i else .fail) _
   rw [if_pos o]
   exact p
  ·by_cases g:ds.length=xs.length
   ·rw [if_pos g]at b
    have y:=j.length
    exact⟨Ag (zr (by lia)),λl c=>az.tup (az.mk b e1 s.heap) x.heap j l c⟩
   ·rw [if_neg g]at b;exact b.elim
 | exc d i=>rw [q]at p;exact⟨G,τ,h,s,by rw [q];exact p⟩
 | fail=>rw [q]at p;exact p.elim
def DY (B:xs.length<=1000) (a: ∀τ h ds h',M.Gu F es τ h= .ok ds h'->ds.length=xs.length) (o:PA X xs (ir Y E (M.Gu F es))):PE X (.List xs pos) (tD Y E (M.eval F (.lst es))):=by
 refine PE.imp (Bh o) λU H Q m=> ?_
 obtain⟨G,τ,h,s,p⟩:=m
 rw [M.eval]at p
 cases q:M.Gu F es τ h with
 | ok e i=>
  have n:=a _ _ _ _ q
  refine w5 s.heap Ext.refl s (f:=λds h=>if ds.length=xs.length then .ok (.own ds) h else .fail) (P:=λw h' r k=> ∀v,ai Y r k w v->aJ τ U H w v->Q v k) ?_ λds C y z A e1 t u j b=> ?_
  ·rw [q]at p ⊢
   show au Y E G H (if e.length=xs.length then .ok _ i else .fail) _
   rw [if_pos n]
   exact p
  ·by_cases g:ds.length=xs.length
   ·rw [if_pos g]at b
    have x:=j.length
    exact⟨Ag (zr (by lia)),λl c=>az.own (az.mk b e1 s.heap) u.heap j l c⟩
   ·rw [if_neg g]at b;exact b.elim
 | exc d i=>rw [q]at p;exact⟨G,τ,h,s,by rw [q];exact p⟩
 | fail=>rw [q]at p;exact p.elim
def yV (r:ai Y G H w v):ai Y G H w.arg v:=by
 cases w with
 | v d=>exact r
 | own f=>obtain⟨a,h,g,_,c,b,e⟩:=r;exact⟨a,h,g,c,.inl b,e⟩
 | bor f=>exact r
theorem Zx : ∀ {ws}{vs},bg Y G H ws vs->bg Y G H (ws.map M.W.arg) vs
 | [],_,z=>z
 | _::_,_,⟨v,r,c,b,a⟩=>⟨v,r,c,yV b,Zx a⟩
def Ww (ws:List M.W): ∀w∈ws.map M.W.arg,l7 w=true:=λw a=>by
 obtain⟨u,_,rfl⟩:=Ab8.mp a
 cases u<;>rfl
def Dd (a:Go Y F X E k cf)(q:cX cf.sc f g=u0) (y:cf.fns.contains f=u0) (c: ∀e∈x::xs,Zb e=u0) (j:PA X (x::xs) (fW Y E (M.Gi F es))):PE X (.Call g (x::xs) [] pos) (tD Y E (M.eval F (.call f es))):=by
 obtain⟨p,rfl,A,t⟩:=ze q
 obtain⟨r,D,K,b,n,i,C⟩:=(a.fn f y).imp λr h=>h.ex
 refine PE.imp (Fw b a.room (a.gl _ A) C i n .nil a.pass j t (Wa (c _ Aa7)) (xo λe B=>c e (Aa4 _ B))) λU H Q d=> ?_
 obtain⟨G,L,h,s,p⟩:=d
 refine zq s.heap Ext.refl s p λz J m l I e1 o v u w=> ?_
 rw [Ag0]
 exact⟨l,m,_,v.heap,Zx u,Ww z,az.mk w e1 s.heap⟩
def CZ (a:Go Y F X E k cf)(i:cX cf.sc f g=u0) (m:cf.fns.contains f=u0):PE X (.Call g [] [] pos) (tD Y E (M.eval F (.call f .nil))):=by
 obtain⟨p,rfl,n,l⟩:=ze i
 obtain⟨j,q,r,b,e,d,o⟩:=(a.fn f m).imp λj h=>h.ex
 refine PE.imp (Lw b a.room (a.gl _ n) o d e .nil a.pass l) λU H Q c=> ?_
 obtain⟨G,t,h,s,p⟩:=c
 have p:=p
 exact⟨G,h,_,s.heap,Zx (ws:= []) rfl,Ww [],az.mk p Ext.refl s.heap⟩
def Ht (b:M.Bi) (a:lL b=u0):bootBuiltins (jg (mO b))=k0 (pM b):=by
 cases b<;>first | (exact absurd (show k9=u0 from a) Ab2) | decide +kernel
def pz (b):mO b∈c6:=by cases b<;>decide
def BB (c:Go Y F X E k cf){b:M.Bi}(q:lL b=u0) (y:cX cf.sc (mO b) g=u0) (r: ∀e∈x::xs,Zb e=u0) (f:PA X (x::xs) (fW Y E (M.Gi F es))):PE X (.Call g (x::xs) [] pos) (tD Y E (M.eval F (.bi b es))):=by
 obtain⟨p,rfl,n,j⟩:=ze y
 have o:=c.blt _ (pz b)
 have l:=wE (pz b)
 have bt:=Ht b q
 have m:zt X _ (n7 Y E b):=C1 b q c.K c.calm
 have a: ∀U H Q,tD Y E (M.eval F (.bi b es)) U H Q->mU (n7 Y E b) (fW Y E _) U H Q:=λU H Q t=>by
  obtain⟨G,J,h,s,p⟩:=t
  refine zq s.heap Ext.refl s p λB I v u D e1 w d z A=> ?_
  exact⟨u,v,B,d.heap,z,az.mk A e1 s.heap⟩
 have d:=Wa (env:=X.env) (es:=xs) (r _ Aa7)
 have i:=xo (env:=X.env) (pos:=pos) λe C=>r e (Aa4 _ C)
 cases b with
 | len=>exact PE.imp (Jm m (c.gl _ n) o bt f l j d i) a
 | divmod=>exact PE.imp (Jm m (c.gl _ n) o bt f l j d i) a
 | min=>cases q
 | max=>cases q
 | int=>exact PE.imp (Wy m (c.gl _ n) o bt f l j d i) a
 | list=>exact PE.imp (Wy m (c.gl _ n) o bt f l j d i) a
 | tuple=>exact PE.imp (Wy m (c.gl _ n) o bt f l j d i) a
 | sum=>exact PE.imp (Jm m (c.gl _ n) o bt f l j d i) a
 | all=>exact PE.imp (Jm m (c.gl _ n) o bt f l j d i) a
 | any=>exact PE.imp (Jm m (c.gl _ n) o bt f l j d i) a
 | sorted=>exact PE.imp (Jm m (c.gl _ n) o bt f l j d i) a
 | str=>cases q
 | abs=>cases q
def b5 (h:o4 o=u0) (w):attributeBase o n env w=w:=by
 cases o with
 | Call f a b p=>
  cases a with
  | nil=>exact absurd (h) Ab2
  | cons x a=>cases f<;>rfl
 | _=>rfl
theorem uH (t): ∀ {ts}{n},M.Kc t ts=k0 n->iP (aB t) (ts.map aB)=k0 n
 | [],_,e=>by cases e
 | y::ys,n,e=>by
  unfold M.Kc at e
  rw [Ab0,iP]
  split at e
  ·rename_i q
   cases e
   rw [if_pos (by rw [q])]
  ·rename_i q
   obtain⟨k,e1,rfl⟩:=Af8.mp e
   rw [if_neg (λc=>q (by
    have:=congrArg (λs:Str=>s.cps.toList) c
    simpa [aB]using this)),uH t e1]
   rfl
theorem sW {a:Value->Bool}(b: ∀c y,RV hp c y->a y=M.bL c d): ∀ {ys}{J}{j},b7 hp ys J->M.Ke d ys=k0 j-> ∃y,J[j]? =k0 y/\a y=u0/\ ∀m z,m<j->J[m]? =k0 z->a z=k9
 | [],_,_,rfl,h=>by cases h
 | c::ys,_,j,⟨u,r,rfl,g,l⟩,h=>by
  rw [M.Ke]at h
  by_cases q:M.bL c d=u0
  ·rw [if_pos q]at h
   cases h
   exact⟨u,rfl,by rw [b c u g];exact q,λm z k=>absurd k (Ai8 m)⟩
  ·rw [if_neg q]at h
   obtain⟨i,e,rfl⟩:=Af8.mp h
   obtain⟨y,n,p,o⟩:=sW b l e
   refine⟨y,n,p,λm z k f=> ?_⟩
   cases m with
   | zero=>cases f;rw [b c u g];simpa using q
   | succ m=>exact o m z (by omega) f
def EF (Y:Ge):V->List V->Hp->VK->Prop:=λx c H Q=> ∃G h a b y j,c= [y]/\ah Y G h H/\ai Y G H a x/\ai Y G H b y/\M.Ki b a h=k0 j/\Q (.int (j:Nat)) H
def BN (B:X.K=Y.K)(i:bj k X.A):hV X "list.index" (EF Y):=by
 intro t s U H x vs v us Q I E rv ⟨G,h,w1,w2,y,j,C,r,O,W,e,q⟩
 subst C
 obtain⟨u,rfl,T⟩:=rv.one
 unfold M.Ki at e
 split at e
 ·rename_i ys e2
  split at e
  ·rename_i c
   have p:=by simpa using c
   have P:=W.rv I B r T p.1.1.1
   have A:=O.rv I B r E (by simp_all)
   rw [e2]at A
   obtain⟨a,f,rfl,J,d⟩:=A
   obtain⟨L,S,D⟩:=tR i p.1.2 P d
   obtain⟨z,F,h2,N⟩:=sW S d e
   obtain⟨⟨V,dd,l,sl⟩,w,R,k,K⟩:=id J
   subst R K
   have n:=d.length
   obtain⟨hj,Z⟩:=Aa1.mp F
   have hL:=M.Gg
   refine call_meets PySem.F.slot_list_index ⟨_,w,rfl⟩ PySem.F.entry_list_index (PySem.F.args_list_index_2 _ _) (PySem.SeqAt.list_indexAt a f.toArray k dd sl u L j (by simp_all) (by lia) (by simp_all) (λm hm g=> ?_)) ⟨w,D,?_⟩
   ·exact N m _ g (by simp)
   ·exact⟨.int j,H,I.kept λb o e=>e,⟨_,rfl⟩,q⟩
  ·cases e
 ·cases e
def EV (j:Go Y F X E k cf)(hm:r6 m=u0) (P:(apos.endLine==y7.line)=u0) (hc:o4 o=u0) (r:Zb x=u0) (L:PE X o (tD Y E (M.eval F a))) (J:PA X [x] (fW Y E (M.Gi F es))):
 PE X (.Call (.Attribute o (jg (sk m)) apos) [x] [] y7) (tD Y E (M.eval F (.dj m a es))):=by
 cases m with
 | index=>
  refine PE.imp (mF PySem.F.plainAttrs_tuple PySem.F.slot_tuple_index PySem.F.type_tuple_index Ar y4 L J (b5 hc _) (by rw [Wa r];rfl) P (Wa r) rfl) λU H Q y=> ?_
  obtain⟨G,τ,h,s,p⟩:=y
  refine Xa s.heap Ext.refl s p λO v1 h1 G1 H1 e1 B f l f1 d=> ?_
  split at d
  ·rename_i z
   obtain⟨xs,ex⟩:=Ah2.mp (z)
   obtain⟨b,A,rfl,q,T⟩:=l.tup ex
   refine⟨⟨b,rfl,j.K▸q.pl⟩,?_⟩
   refine zq s.heap e1 f d λC us h2 V H2 e2 e g I c=> ?_
   obtain⟨b',N,K,S,W⟩:=ai.ext (w:= .v (.tup xs)) e f.heap ⟨b,A,rfl,q,T⟩
   cases K
   cases C with
   | nil=>exact c.elim
   | cons w wr=>
    cases wr with
    | cons _ _=>exact c.elim
    | nil=>
     obtain⟨u,rfl,D⟩:=I.one
     have c:=c
     obtain⟨ts,v,c⟩:=c.of
     obtain⟨t,R,c⟩:=c.of
     obtain⟨n,Z,c⟩:=c.of
     cases D.str R
     rw [ex,Ah9]at v
     cases XS v W
     split at c
     ·exact⟨b,aB t,n,ts.map aB,rfl,rfl,j.K▸eQ.sq S,uH t Z,(az.mk c e2 s.heap).v g.heap rfl⟩
     ·exact c.elim
  ·exact d.elim
 | bG=>
  refine PE.imp (mF PySem.F.plainAttrs_list PySem.F.slot_list_index PySem.F.type_list_index vP (BN j.K j.room) L J (b5 hc _) (by rw [Wa r];rfl) P (Wa r) rfl) λU H Q y=> ?_
  obtain⟨G,τ,h,s,p⟩:=y
  refine Xa s.heap Ext.refl s p λO v1 h1 G1 H1 e1 B f l f1 d=> ?_
  split at d
  ·rename_i z
   obtain⟨ys,ey⟩:=Ah2.mp (z)
   obtain⟨b,A,rfl,q,T⟩:=ai.lst f.heap l ey
   refine⟨⟨b,A,rfl,j.K▸q⟩,?_⟩
   refine zq s.heap e1 f d λC us h2 V H2 e2 e g I c=> ?_
   cases C with
   | nil=>exact c.elim
   | cons w wr=>
    cases wr with
    | cons _ _=>exact c.elim
    | nil=>
     obtain⟨u,rfl,D⟩:=I.one
     have c:=c
     obtain⟨n,v,c⟩:=c.of
     exact⟨V,h2,O,w,u,n,rfl,g.heap,l.ext e f.heap,D,v,(az.mk c e2 s.heap).v g.heap rfl⟩
  ·exact d.elim
 | count=>
  refine PE.imp (mF PySem.F.plainAttrs_list PySem.F.slot_list_count PySem.F.type_list_count vP AE L J (b5 hc _) (by rw [Wa r];rfl) P (Wa r) rfl) λU H Q y=> ?_
  obtain⟨G,τ,h,s,p⟩:=y
  refine Xa s.heap Ext.refl s p λO v1 h1 G1 H1 e1 B f l f1 d=> ?_
  split at d
  ·rename_i z
   obtain⟨ys,ey⟩:=Ah2.mp (z)
   obtain⟨b,A,rfl,q,T⟩:=ai.lst f.heap l ey
   refine⟨⟨b,A,rfl,j.K▸q⟩,?_⟩
   refine zq s.heap e1 f d λC us h2 V H2 e2 e g I c=> ?_
   cases C with
   | nil=>exact c.elim
   | cons w wr=>
    cases wr with
    | cons _ _=>exact c.elim
    | nil=>
     obtain⟨u,rfl,D⟩:=I.one
     have c:=c
     obtain⟨is,v,c⟩:=c.of
     obtain⟨i,R,c⟩:=c.of
     obtain⟨ys2,Z,q4⟩:=Ah8.mp v
     obtain⟨b',N,K,y2,y3⟩:=ai.lst g.heap (l.ext e f.heap) Z
     cases K
     cases ZU q4 y3
     cases D.int R
     split at c
     ·exact⟨b,i,is,rfl,rfl,j.K▸y2,(az.mk c e2 s.heap).v g.heap rfl⟩
     ·exact c.elim
  ·exact d.elim
def Dp (q:Go Y F X E k cf){s:M.Tx}{d:List M.Tx}{g m:Nat}{n o c b:Pos}(j:(c.endLine==b.line)=u0) (l:mf (aB s) (d.map aB)=u0):
 PE X (.Call (.Attribute (.Constant (.str (aB s)) g n) (jg "split") c) [.Constant (.str bV) m o] [] b) (tD Y E (M.eval F (.fD s d))):=by
 refine PE.imp (mF PySem.F.plainAttrs_str PySem.F.slot_str_split PySem.F.type_str_split IK EG oN (qg oN Jn rfl) rfl rfl j rfl rfl) λU H Q f=> ?_
 obtain⟨G,r,h,e,p⟩:=f
 rw [M.eval]at p
 exact⟨⟨_,rfl⟩,aB s,d.map aB,rfl,rfl,l,λa i=>az.own (az.mk p Ext.refl e.heap) e.heap (WS _) a i⟩
def Ic (b:Go Y F X E k cf)(e:t≠ .ak) (C:cX cf.sc "isinstance" g=true) (I:cX cf.sc (cL t) y=true) (j:Zb x=true) (o:PE X x (tD Y E (M.eval F a))):PE X (.Call g [x,y] [] pos) (tD Y E (M.eval F (.cq a t))):=by
 obtain⟨p,rfl,K,D⟩:=ze C
 obtain⟨q,rfl,r,n⟩:=ze I
 have dU:cL t∈c6:=by cases t<;>first | exact absurd rfl e | decide
 have bt:bootBuiltins (jg (cL t))=k0 (.type (cL t)):=by cases t<;>first | exact absurd rfl e | decide +kernel
 have bi:bootBuiltins _=k0 _:=boot_isinstance
 have d: "isinstance" ∈c6:=by decide
 have i:PE X (.Name (jg (cL t)) q) (tC (.ty (cL t))):=K9 (b.gl _ r) (b.blt _ dU) bt rfl (wE dU) n
 refine PE.imp (Jm (yr b.K) (b.gl _ K) (b.blt _ d) bi (qg o (qg i Jn) (Wa j)) (wE d) D (Wa j) rfl) λU H Q m=> ?_
 obtain⟨G,O,h,s,p⟩:=m
 rw [M.eval]at p
 refine Xa s.heap Ext.refl s p λz v1 w u N e1 B l J L f=> ?_
 obtain⟨c,A,f⟩:=f.of
 exact⟨u,w,z,v1,t,c,rfl,e,l.heap,J,A,au.val f e1 l.heap (v:= .bl c) rfl trivial⟩
def LD (xs:List α) (i):M.aW xs i=L2.aW xs i:=rfl
theorem aa.aW (z:aa Y G H ds vs) (e:M.aW ds i=k0 d): ∃v,L2.aW vs i=k0 v/\aA Y G H d v:=by
 unfold M.aW at e
 unfold L2.aW
 rw [z.length]at e
 cases q:M.dC vs.length i with
 | none=>rw [q]at e;cases e
 | some j=>
  rw [q]at e
  obtain⟨v,a,b⟩:=z.get (e)
  refine⟨v,?_,b⟩
  have c:L2.dC vs.length i=k0 j:=q
  rw [c]
  exact a
def jR (a:jc y=u0):uY y:=by
 intro o i
 cases y<;>first | rfl | (simp [jc]at a)
def DF (r:Go Y F X E k cf) (L:jc y=u0) (A:PE X x (tD Y E (M.eval F a))) (D:PE X y (tD Y E (M.eval F b))):PE X (.Subscript x y pos) (tD Y E (M.eval F (.ix a b))):=by
 refine PE.imp (oe KQ A D (jR L)) λU H Q z=> ?_
 obtain⟨G,τ,h,s,p⟩:=z
 refine Xa s.heap Ext.refl s p λC v1 Z W H1 e1 J u j S N=> ?_
 refine Xa s.heap e1 u N λw2 v2 O G2 H2 e2 o n R V m=> ?_
 obtain⟨d,q,m⟩:=m.of
 have j:=j.ext o u.heap
 unfold M.dz at q
 split at q
 ·rename_i i I
  cases R.int I
  split at q
  ·rename_i g B
   cases j.str B
   split at q
   ·rename_i hl
    cases c:M.aW g i with
    | none=>rw [c]at q;cases q
    | some P=>
     rw [c]at q
     cases q
     refine .inr (.inr ⟨aB g,i,P,rfl,rfl,by rw [Zd];have:=Xi;lia,?_,au.val m e2 n.heap rfl trivial⟩)
     have:(aB g).cps.toList=g:=by simp [aB]
     exact c
   ·cases q
  ·cases c:C.seq? O with
   | none=>rw [c]at q;cases q
   | some T=>
    rw [c]at q
    obtain⟨l,t,rfl,f,K⟩:=j.seq n.heap c
    obtain⟨v,e,rd⟩:=K.aW (q)
    have w:=au.val m e2 n.heap rd trivial
    obtain f | f:=f
    ·exact .inl ⟨l,t,i,v,rfl,rfl,r.K▸f,e,w⟩
    ·exact .inr (.inl ⟨l,t,i,v,rfl,rfl,r.K▸f,e,w⟩)
 ·cases q
end
section
variable {Y:Ge}{F:M.Fx}{X:Cx}{E:XK}{k:Nat}{cf:Cf}{a b c:M.E}{x y z:Expr}{pos p2:Pos}
def n3 (xs:List α) (lo hi):M.cut xs lo hi=(xs.drop (HT.aX xs.length 0 lo)).take (HT.aX xs.length xs.length hi-HT.aX xs.length 0 lo):=by
 unfold M.cut
 have e: ∀d o,M.aX xs.length d o=HT.aX xs.length d o:=λd o=>by cases o<;>rfl
 rw [e,e]
theorem aa.cut (z:aa Y G H ds vs) (lo hi):aa Y G H (M.cut ds lo hi) (kH vs lo hi):=by
 rw [n3]
 rw [z.length]
 exact(z.drop _).take _
def nJ {d b:Option Int}(n:ah Y G0 h0 H0) (e:Ext G0 H0 G H) (j:ah Y G h H) (r:ai Y G H w v)
 (p:au Y E G0 H0 (M.eb w d b h) λw _ G' H'=> ∀v,ai Y G' H' w v->aJ τ U H0 w v->Q v H'):((nh Y.K v d b H Q\/n5 Y.K v d b H Q)\/oi Y.K v d b H Q)\/oB v d b H Q:=by
 unfold M.eb at p
 split at p
 ·rename_i z q
  cases r.str q
  split at p
  ·rename_i c
   have o:=Xi
   refine .inr ⟨_,rfl,by rw [Zd];lia,?_⟩
   have e1:iZ (aB z) d b=aB (M.cut z d b):=by
    unfold iZ
    rw [Zd,n3]
    simp [aB]
   exact az.v (az.mk p e n) j rfl
  ·exact p.elim
 ·split at p
  ·rename_i k q
   obtain⟨l,f,rfl,i,g⟩:=r.tup q
   by_cases c:HT.aX f.length 0 d=0/\HT.aX f.length f.length b=f.length
   ·have e2:M.cut k d b=k:=by
     rw [n3,g.length,c.1,c.2,List.drop_zero,Nat.sub_zero,←g.length,Ao8]
    rw [e2]at p
    exact .inl (.inr ⟨l,f,rfl,i.sq,c.1,c.2,p G H e j _ ⟨l,f,rfl,i,g⟩ trivial⟩)
   ·exact .inl (.inl (.inr ⟨l,f,rfl,i.sq,c,λa m=>az.tup (az.mk p e n) j (g.cut d b) a m⟩))
  ·split at p
   ·rename_i k q
    obtain⟨l,f,rfl,i,g⟩:=r.lst j q
    exact .inl <| .inl <| .inl ⟨l,f,rfl,i,λa m=>az.own (az.mk p e n) j (g.cut d b) a m⟩
   ·exact p.elim
def yw (K:Aa6):V->Option Int->Option Int->Hp->VK->Prop:=λx lo hi H Q=>((nh K x lo hi H Q\/n5 K x lo hi H Q)\/oi K x lo hi H Q)\/oB x lo hi H Q
def oz:gb X (yw X.K):=((gF.or Ay).or yj).or oX
def Ii (t:Go Y F X E k cf){g f:M.E}(q:PE X x (tD Y E (M.eval F a))) (r:PE X l (tD Y E (M.eval F g))) (z:PE X u (tD Y E (M.eval F f))):PE X (.Subscript x (.Slice (k0 l) (k0 u) y0 p2) pos) (tD Y E (M.eval F (.sl a g f))):=by
 refine PE.imp (QO oz q (QS r) (QS z)) λU H Q n=> ?_
 obtain⟨G,τ,h,s,p⟩:=n
 refine Xa s.heap Ext.refl s p λS v1 P O T e1 v m y J C=> ?_
 refine Xa s.heap e1 m C λZ v2 h2 V H2 e2 d e I N p2=> ?_
 obtain⟨i,w,p2⟩:=p2.of
 refine⟨i,I.int w,?_⟩
 refine Xa s.heap e2 e p2 λR v3 W L K D c B o f3 b=> ?_
 obtain⟨j,A,b⟩:=b.of
 exact⟨j,o.int A,t.K▸nJ s.heap D B.heap ((y.ext d m.heap).ext c e.heap) b⟩
def Fd (m:Go Y F X E k cf){c:M.E}(g:PE X x (tD Y E (M.eval F a))) (j:PE X l (tD Y E (M.eval F c))):PE X (.Subscript x (.Slice (k0 l) y0 y0 p2) pos) (tD Y E (M.eval F (.dH a c))):=by
 refine PE.imp (QO oz g (QS j) tF) λU H Q e=> ?_
 obtain⟨G,J,h,s,p⟩:=e
 refine Xa s.heap Ext.refl s p λz v1 y w A e1 n d q u r=> ?_
 refine Xa s.heap e1 d r λC v2 I B D e2 b f t v p2=> ?_
 obtain⟨i,o,p2⟩:=p2.of
 exact⟨i,t.int o,m.K▸nJ s.heap e2 f.heap (q.ext b d.heap) p2⟩
def Ld (g:Go Y F X E k cf)(f:PE X x (tD Y E (M.eval F a))) (n:PE X u (tD Y E (M.eval F hi))):PE X (.Subscript x (.Slice y0 (k0 u) y0 p2) pos) (tD Y E (M.eval F (.di a hi))):=by
 refine PE.imp (QO oz f tF (QS n)) λU H Q d=> ?_
 obtain⟨G,I,h,s,p⟩:=d
 refine Xa s.heap Ext.refl s p λy v1 w v z e1 j c m r o=> ?_
 refine Xa s.heap e1 c o λB v2 D A C e2 b e q t p2=> ?_
 obtain⟨i,l,p2⟩:=p2.of
 exact⟨i,q.int l,g.K▸nJ s.heap e2 e.heap (m.ext b c.heap) p2⟩
def Gh.cell (G:Gh) (a:Addr):Gh:= { G with aO:=λr=>if r=G.n then a else G.aO r,n:=G.n+1 }
def pe (a):Mon G H (G.cell a) H:=⟨λ_ _ _ z=>z,Aj8 _,λr b=>by show(if r=G.n then a else G.aO r)=_;rw [if_neg (by lia)],λ_ z=>z⟩
def ZE {a:Addr}{c:M.Cell}(d:ah Y G h H) (n: ¬G.fz a) (m:dD G a) (z:bC Y G H a c):ah Y (G.cell a) (h++ [c]) H where
 len:=by rw [Ab1,d.len];rfl
 any:=λr g q=>by
  show ¬G.fz (if r=G.n then a else G.aO r)/\bC Y (G.cell a) H (if r=G.n then a else G.aO r) g
  by_cases i:r=G.n
  ·rw [if_pos i]
   rw [i,←d.len,Ad6 (Aa8 _),Ao6]at q
   cases q
   exact⟨n,z.mon (pe a) λ_ e=>e⟩
  ·rw [if_neg i]
   have j:r<G.n:=by
    have:=(Aa1.mp q).1
    rw [Ab1,d.len]at this
    simp at this
    omega
   rw [Ac9 (by rw [d.len];exact j)]at q
   exact⟨(d.any r g q).1,(d.any r g q).2.mon (pe a) λ_ e=>e⟩
 inj:=λr s k l e=>by
  have k:r<G.n+1:=k
  have l:s<G.n+1:=l
  have e:(if r=G.n then a else G.aO r)=(if s=G.n then a else G.aO s):=e
  by_cases f:r=G.n
  ·by_cases b:s=G.n
   ·omega
   ·rw [if_pos f,if_neg b]at e
    exact absurd e.symm (m s (by omega))
  ·by_cases b:s=G.n
   ·rw [if_neg f,if_pos b]at e
    exact absurd e (m r (by omega))
   ·rw [if_neg f,if_neg b]at e
    exact d.inj r s (by omega) (by omega) e
 live:=d.live
def wX {a:Addr}(d:ah Y G h H) (b: ¬G.fz a) (f:dD G a) (e:H a=k0 (.lst vs)) (z:aa Y G H xs vs) (c:M.Gf xs=u0):ah Y (G.cell a) (h++ [.lst xs]) H:=ZE d b f ⟨c,vs,e,z⟩
def FY {a:Addr}(c:ah Y G h H) (b: ¬G.fz a) (d:dD G a)(e:H a=k0 (.ins (Y.ca c0) dx0 [])):ah Y (G.cell a) (h++ [.obj c0 []]) H:=ZE c b d ⟨rfl,dx0,[],e,rfl⟩
def xz {a:Addr}(e:Ext G0 H0 G H) (g:H0 a=y0):Ext G0 H0 (G.cell a) H where
 keep:=e.keep
 le:=Ab9 e.le (Aj8 _)
 aO:=λr f=>by show(if r=G.n then a else G.aO r)=_;rw [if_neg (by have:=e.le;omega)];exact e.aO r f
 new:=λr d c=>by
  have c:r<G.n+1:=c
  show H0 (if r=G.n then a else G.aO r)=y0
  by_cases b:r=G.n
  ·rw [if_pos b];exact g
  ·rw [if_neg b];exact e.new r d (by omega)
 fz:=e.fz
 old:=e.old
 cells:=e.cells
def DB:PE X (.Dict [] [] pos) (tD Y E (M.eval F .cZ)):=by
 refine PE.imp Dj λU H Q d=> ?_
 obtain⟨G,e,h,s,p⟩:=d
 intro a b
 have p:=p
 have e1:Ext G H G (aR H a (dS [])):=Zp _ b
 have c:=s.heap.new (dS []) b
 refine au.val p (xz e1 b) (ZE c (λz=>by obtain⟨o,q⟩:=s.heap.live a z;rw [b]at q;cases q) (s.heap.fX b) ⟨rfl,[],qd,rfl⟩) ?_ trivial
 show h.length<G.n+1/\V.ref a= .ref (if h.length=G.n then a else G.aO h.length)
 rw [s.heap.len,if_pos rfl]
 exact⟨Af5 _,rfl⟩
abbrev dv (a:List (M.Tx×M.D)) (b:List V):List (Str×V):=(a.map λp=>aB p.1).zip b
def JR (e:M.GT h o=k0 (r,ks)):o=k0 (.v (.ref r))/\h[r]? =k0 (.aG ks):=by
 unfold M.GT at e
 split at e
 ·split at e
  ·rename_i q
   cases e
   exact⟨rfl,q⟩
  ·cases e
 ·cases e
def Qn (s:ar Y G τ h U H)(e:M.GT h (M.Gp τ i)=k0 (r,ks)):U[i]? =k0 (k0 (.ref (G.aO r)))/\M.Gf (ks.map (·.2))=u0/\ ∃j,H (G.aO r)=k0 (dS (dv ks j))/\aa Y G H (ks.map (·.2)) j:=by
 obtain⟨e1,e2⟩:=JR e
 obtain⟨v,c,b⟩:=s.slot i _ e1
 obtain⟨d,a⟩:=(b)
 subst a
 exact⟨c,(s.heap.any r _ e2).2⟩
def o7 (a b):(aB a==aB b)=(a==b):=by
 cases q:a==b with
 | true=>rw [eq_of_beq q];exact beq_self_eq_true _
 | false=>exact beq_eq_false_iff_ne.mpr λz=>(beq_eq_false_iff_ne.mp q) (zC z)
section
variable {G:Gh}{H:Hp}
theorem vL {k:M.Tx}: ∀ {ks}{j},aa Y G H (ks.map (·.2)) j->ks.lookup k=k0 d-> ∃v,(dv ks j).lookup (aB k)=k0 v/\aA Y G H d v
 | [],_,_,e=>by cases e
 | (g,x)::fs,_,⟨v,r,rfl,b,a⟩,e=>by
  rw [Ab5]at e
  show ∃w,((aB g,v)::dv fs r).lookup (aB k)=k0 w/\_
  rw [Ab5,o7]
  cases q:k==g with
  | true=>rw [q]at e;cases e;exact⟨v,rfl,b⟩
  | false=>rw [q]at e;exact vL a e
theorem mS {k:M.Tx}: ∀ {ks}{j},aa Y G H (ks.map (·.2)) j->((dv ks j).lookup (aB k)).isSome=(ks.lookup k).isSome
 | [],_,_=>rfl
 | (g,x)::fs,_,⟨v,r,rfl,b,a⟩=>by
  show(((aB g,v)::dv fs r).lookup (aB k)).isSome=_
  rw [Ab5,Ab5,o7]
  cases q:k==g with
  | true=>rfl
  | false=>exact mS a
theorem tr {k:M.Tx}: ∀ {ks}{j},aa Y G H (ks.map (·.2)) j->((dv ks j).any λp=>y9 (p.1=aB k))=ks.any λp=>y9 (p.1=k)
 | [],_,_=>rfl
 | (g,x)::fs,_,⟨v,r,rfl,b,a⟩=>by
  show(y9 (aB g=aB k)||(dv fs r).any λp=>y9 (p.1=aB k))=(y9 (g=k)||fs.any λp=>y9 (p.1=k))
  rw [tr a]
  congr 1
  exact decide_eq_decide.mpr ⟨zC,congrArg aB⟩
theorem tw {k:M.Tx}(rv:aA Y G H d v): ∀ {ks}{J},aa Y G H (ks.map (·.2)) J-> ∃j,aa Y G H ((ks.map λp=>if p.1=k then(p.1,d)else p).map (·.2)) j/\((dv ks J).map λp=>if p.1=aB k then(p.1,v)else p)=dv (ks.map λp=>if p.1=k then(p.1,d)else p) j
 | [],_,rfl=>⟨[],rfl,rfl⟩
 | (g,x)::fs,_,⟨u,r,rfl,f,c⟩=>by
  obtain⟨j,a,b⟩:=tw rv c
  by_cases q:g=k
  ·refine⟨v::j,?_,?_⟩
   ·simp only [Ab0,q,if_true]
    exact⟨v,j,rfl,rv,a⟩
   ·show(if aB g=aB k then(aB g,v)else(aB g,u))::(dv fs r).map _=dv ((if g=k then(g,d)else(g,x))::fs.map _) (v::j)
    rw [b,if_pos (congrArg aB q),if_pos q]
    rfl
  ·have e:=λz=>q (zC z)
   refine⟨u::j,?_,?_⟩
   ·simp only [Ab0,q,if_false]
    exact⟨u,j,rfl,f,a⟩
   ·show(if aB g=aB k then(aB g,v)else(aB g,u))::(dv fs r).map _=dv ((if g=k then(g,d)else(g,x))::fs.map _) (u::j)
    rw [b,if_neg e,if_neg q]
    rfl
theorem wS {k:M.Tx}(rv:aA Y G H d v): ∀ {ks}{j},aa Y G H (ks.map (·.2)) j->aa Y G H ((ks++ [(k,d)]).map (·.2)) (j++ [v])/\dv ks j++ [(aB k,v)]=dv (ks++ [(k,d)]) (j++ [v])
 | [],_,rfl=>⟨⟨v,[],rfl,rv,rfl⟩,rfl⟩
 | (g,x)::fs,_,⟨u,r,rfl,b,a⟩=>⟨⟨u,_,rfl,b,(wS rv a).1⟩,congrArg ((aB g,u):: ·) (wS rv a).2⟩
def Ce {k:M.Tx}(rv:aA Y G H d v)(z:aa Y G H (ks.map (·.2)) us): ∃j,aa Y G H ((M.GG ks k d).map (·.2)) j/\gS (dv ks us) (aB k) v=dv (M.GG ks k d) j:=by
 unfold M.GG gS
 rw [tr z]
 by_cases c:(ks.any λp=>y9 (p.1=k))=u0
 ·rw [if_pos c,if_pos c];exact tw rv z
 ·rw [if_neg c,if_neg c];exact⟨_,wS rv z⟩
end
theorem QL: ∀ {ds},M.Gf ds=u0↔ ∀d∈ds,M.Gc d=u0
 | []=>⟨λ_ _ h=>absurd h Ai2,λ_=>rfl⟩
 | d::ds=>by
  rw [Aa0,QL,List.forall_mem_cons]
def Ea {k:M.Tx}(b:M.Gc d=u0)(z:M.Gf (ks.map (·.2))=u0):M.Gf ((M.GG ks k d).map (·.2))=true:=by
 rw [QL]at z ⊢
 unfold M.GG
 split
 ·intro y a
  rw [Ad1,Ab8]at a
  obtain⟨p,c,rfl⟩:=a
  dsimp only [Function.comp]
  split
  ·exact b
  ·exact z _ (List.mem_map_of_mem c)
 ·intro y a
  rw [Ae6,Ad8]at a
  obtain a | a:=a
  ·exact z y a
  ·cases Ah0.mp a;exact b
def Ij (z:aa Y G H (ks.map (·.2)) us):(dv ks us).length=ks.length:=by
 have:=z.length
 rw [Aa]at this
 rw [Al3,Aa];lia
def BC:R2:=λx y H Q=> ∃k a kvs v,y= .str k/\x= .ref a/\H a=k0 (dS kvs)/\kvs.lookup k=k0 v/\Q v H
def tZ:f9 X BC:=by
 intro b c f o U H x y v u Q I g i ⟨k,a,n,d,m,ex,e,j,q⟩ h
 subst ex m
 cases g
 obtain⟨_,_,_,_,dd⟩:=Q3 I e
 exact tail_any dd.mapOf.typeIs slot_dict_getitem.lookup (FH I e i j λp s l r=>⟨_,H,l,r,q⟩) h
def Fm (neg:Bool):R2:=λx y H Q=> ∃k a kvs,x= .str k/\y= .ref a/\H a=k0 (dS kvs)/\Q (.bl (if neg then !(kvs.lookup k).isSome else(kvs.lookup k).isSome)) H
def tG (neg):bK X (compareOp (l6 neg)) (Fm neg):=by
 intro e j U H x y v u Q I c f ⟨k,a,i,ex,h,d,q⟩
 subst ex h
 cases f
 cases neg with
 | false=>exact FA I d c λg b=>⟨.bl _,H,b,rfl,q⟩
 | true=>exact AK I d c λg b=>⟨.bl _,H,b,rfl,q⟩
def Ff:V->V->V->Hp->(Hp->Prop)->Prop:=λo i v H Q=> ∃k a kvs,i= .str k/\o= .ref a/\H a=k0 (dS kvs)/\kvs.length<sizeLine/\Q (aR H a (dS (gS kvs k v)))
def Lo:ny X Ff:=by
 intro b p U H o i v m n u Q I d c rv ⟨k,a,l,f,h,g,e,q⟩
 subst f h
 cases d
 exact Lm I g c rv e λr j=>⟨_,j,q⟩
def DE:List V->Hp->VK->Prop:=λb H Q=> ∃a kvs,b= [.ref a]/\H a=k0 (dS kvs)/\ ∀p,H p=y0->Q (.ref p) (aR H p (dS kvs))
def Cm:zt X (.type "dict") DE:=by
 intro b j U H k l Q I rv ⟨a,h,f,c,q⟩
 subst f
 cases rv with
 | cons e i=>
  cases i
  cases e
  exact AV I c λp m d g=>⟨.ref p,_,g,rfl,q p d⟩
def E2 (n:PE X x (tD Y E (M.eval F a))):PE X x (tD Y E (M.eval F (.share a))):=by
 refine PE.imp n λU H Q m=> ?_
 obtain⟨G,D,h,s,p⟩:=m
 refine Xa s.heap Ext.refl s p λo v1 c f B e1 r i y j b=> ?_
 cases o with
 | own e=>
  obtain⟨l,C,rfl,k,u,t,w⟩:=y
  obtain⟨A,z,q⟩:=j
  cases z
  have b:au Y E G H (if M.Gf e=u0 then M.aD _ (c++ [.lst e])else .fail) _:=b
  by_cases g:M.Gf e=u0
  rotate_left
  ·rw [if_neg g]at b;exact b.elim
  rw [if_pos g]at b
  refine au.val b (xz e1 q) (wX i.heap k u t w g) ?_ trivial
  show c.length<f.n+1/\V.ref l= .ref (if c.length=f.n then l else f.aO c.length)
  rw [i.heap.len,if_pos rfl]
  exact⟨Af5 _,rfl⟩
 | v d=>exact b.elim
 | bor e=>exact b.elim
end
structure Qy (Y:Ge) (J:It) (ds:List M.D) (C:Gh->Hp->Prop):Prop where
 go: ∀i G H,C G H->i<ds.length->J.go i H
 fg: ∀i G H x H',C G H->i<ds.length->J.fg i H x H'-> ∃G',Ext G H G' H'/\(∀ h,ah Y G h H->ah Y G' h H')/\ ∃d,ds[i]? =k0 d/\aA Y G' H' d x
 stop: ∀i G H,C G H->ds.length<=i->i<=ds.length->J.stop i H
 keep: ∀G H G' H' h,C G H->Ext G H G' H'->ah Y G h H->C G' H'
noncomputable def qk (τ:M.Sl) (U:St) (H:Hp):Hp:=λa=>open Classical in if ∃(i:Nat) (xs:List M.D),M.Gp τ i=k0 (.own xs)/\U[i]? =k0 (k0 (.ref a))then y0 else H a
def fK (Y:Ge) (E:XK) (a:Bool) (m:M.Sl->M.AH->M.R (List M.D)):TI:=λU H R=> ∃G τ h,ar Y G τ h U H/\au Y E G H (m τ h) λds _ G' H'=> ∀J C,Qy Y J ds C->C G' H'->(a=u0->C G' (qk τ U H'))->R J H'
def PI.imp (h:PI X tg e t) (k: ∀U H R,t' U H R->t U H R):PI X tg e t':=λa s U H R I q=>h a s U H R I (k _ _ _ q)
section
variable {Y:Ge}{F:M.Fx}{X:Cx}{E:XK}{k:Nat}{cf:Cf}{a b c:M.E}{x y z tg:Expr}{pos p2:Pos}{lp:Bool}
def iR (Y:Ge) (G:Gh) (H:Hp) (l:Addr) (vs:List V):Prop:=(Rd H l (.lst vs)/\dD G l)\/uy Y l vs
def CL (Y:Ge) (ds:List M.D) (l:Addr) (vs:List V) (G:Gh) (H:Hp):Prop:=iR Y G H l vs/\aa Y G H ds vs
def iR.sq (z:iR Y G H l vs):bz Y.K H l vs:=z.elim (λz=> .inl z.1) .inr
def iB.lU (z:iB Y G H l vs) (a:ah Y G h H):iR Y G H l vs:=z.elim (λz=> .inl ⟨z.2,a.off z.1⟩) .inr
def CL.keep (z:CL Y ds l vs G H) (e:Ext G H G' H') (d:ah Y G h H):CL Y ds l vs G' H':=by
 obtain⟨a,c⟩:=z
 refine⟨?_,c.ext e d⟩
 obtain⟨a,b⟩ | a:=a
 ·refine .inl ⟨e.rd a b,?_⟩
  obtain a | ⟨o,a⟩:=a
  ·exact e.off a b
  ·exact e.off a b
 ·exact .inr a
def CL.walk {K:Aa6}(d:K=Y.K):Qy Y (mh K l) ds (CL Y ds l vs) where
 go:=by
  rintro i G H ⟨b,c⟩ a
  obtain⟨v,e,_⟩:=c.get (Aa3 a)
  exact⟨vs,v,d▸b.sq,e⟩
 fg:=by
  rintro i G H x g ⟨b,c⟩ a ⟨e,y⟩
  subst e
  obtain⟨v,e,rd⟩:=c.get (Aa3 a)
  have:=y vs (d▸b.sq)
  rw [e]at this
  cases this
  exact⟨G,Ext.refl,λ_ q=>q,_,Aa3 a,rd⟩
 stop:=λi G H ⟨b,c⟩ a _=>⟨vs,d▸b.sq,by rw [← c.length];exact a⟩
 keep:=λG H j g h z e f=>z.keep e f
def CT (Y:Ge) (ds:List M.D) (l:Addr) (vs:List V) (G:Gh) (H:Hp):Prop:=eQ Y G H l vs/\aa Y G H ds vs
def eQ.mon (z:eQ Y G H l vs) (e:Mon G H G' H'):eQ Y G' H' l vs:=z.elim (λz=> .inl ⟨e.fz l z.1,e.keep l _ z.1 z.2⟩) λz=> .inr z
def CT.walk {K:Aa6}(d:K=Y.K):Qy Y (ke K l) ds (CT Y ds l vs) where
 go:=by
  rintro i G H ⟨b,c⟩ a
  obtain⟨v,e,_⟩:=c.get (Aa3 a)
  exact⟨vs,v,d▸b.sq,e⟩
 fg:=by
  rintro i G H x g ⟨b,c⟩ a ⟨e,y⟩
  subst e
  obtain⟨v,e,rd⟩:=c.get (Aa3 a)
  have:=y vs (d▸b.sq)
  rw [e]at this
  cases this
  exact⟨G,Ext.refl,λ_ q=>q,_,Aa3 a,rd⟩
 stop:=λi G H ⟨b,c⟩ a _=>⟨vs,d▸b.sq,by rw [← c.length];exact a⟩
 keep:=λG H j g h z e f=>⟨z.1.mon (e.mon f),z.2.ext e f⟩
def CL.fR {K:Aa6}(d:K=Y.K):Qy Y (lq K l vs.length) ds.reverse (CL Y ds l vs) where
 go:=λi G H ⟨c,b⟩ a=>⟨vs,d▸c.sq,rfl,by rw [← b.length];simpa using a⟩
 fg:=by
  rintro i G H x j ⟨c,b⟩ a ⟨e,y⟩
  subst e
  obtain⟨v,e,rd⟩:=b.reverse.get (Aa3 a)
  have:=y vs (d▸c.sq)
  have f:i<vs.length:=by rw [← b.length];simpa using a
  rw [List.getElem?_reverse f,this]at e
  cases e
  exact⟨G,Ext.refl,λ_ q=>q,_,Aa3 a,rd⟩
 stop:=by
  rintro i G H ⟨c,b⟩ a k
  have m:=b.length
  rw [List.length_reverse]at a k
  show i=vs.length
  omega
 keep:=λG H n j h z e g=>z.keep e g
def WN {b:Int}:Qy Y (kY b n) ((Aa5 n).map λ(i:Nat)=>M.D.int (b+(i:Int))) (λ_ _=>True) where
 go:=λi G H _ a=>show i<n by simpa using a
 fg:=λi G H x d _ a c=>by
  obtain⟨e,y⟩:=c
  subst e y
  have a:=by simpa using a
  exact⟨G,Ext.refl,λ_ q=>q,.int (b+i),by simp [a],rfl⟩
 stop:=λi G H _ a _=>show n<=i by simpa using a
 keep:=λ_ _ _ _ _ _ _ _=>trivial
def QH {z:M.Tx}:Qy Y (hQ (aB z)) (M.g7 z) (λ_ _=>True) where
 go:=λi G H _ a=>by
  have a:=by simpa [M.g7]using a
  exact⟨z[i],by simp [aB,a]⟩
 fg:=λi G H x g _ a d=>by
  obtain⟨e,c,b,f⟩:=d
  subst e f
  have a:=by simpa [M.g7]using a
  have b:=by simpa [aB]using b
  exact⟨G,Ext.refl,λ_ q=>q,.str [c],by simp [M.g7,b],rfl⟩
 stop:=λi G H _ a _=>by
  have a:=by simpa [M.g7]using a
  show(aB z).cps[i]? =y0
  simp [aB,a]
 keep:=λ_ _ _ _ _ _ _ _=>trivial
def Wj (a: ¬ ∃ i xs,M.Gp τ i=k0 (.own xs)/\U[i]? =k0 (k0 (.ref l))):qk τ U H l=H l:=by
 unfold qk
 rw [if_neg a]
def Zm (s:ar Y G τ h U H)(e:M.Gp τ i=k0 (.own xs)) (k:U[i]? =k0 (k0 (.ref l))): ¬G.fz l/\dD G l/\ ∃vs,H l=k0 (.lst vs)/\aa Y G H xs vs:=by
 obtain⟨v,b,a,vs,f,c,d,g,j⟩:=s.slot i _ e
 rw [k]at b
 cases b
 cases f
 exact⟨c,d,vs,g,j⟩
def qz (s:ar Y G τ h U H):Mon G H G (qk τ U H):=by
 refine⟨λa o z e=> ?_,Aa8 _,λ_ _=>rfl,λ_ z=>z⟩
 rw [Wj λ⟨i,d,c,b⟩=>(Zm s c b).1 z]
 exact e
def B3 (q:Go Y F X E k cf) (B:PE X x (tD Y E (M.eval F a))):PI X tg x (fK Y E k9 (M.Gn F (.seq a))):=by
 refine PI.imp (nD B) λU H R A=> ?_
 obtain⟨G,L,h,s,p⟩:=A
 refine Xa s.heap Ext.refl s p λI v1 D m e e1 K r o N c=> ?_
 have lst: ∀ {f},au Y E G H (.ok f D) (λf x y w=> ∀J C,Qy Y J f C->C y w->(k9=u0->C y (qk L U w))->R J w)->(∃ l b,v1= .ref l/\iR Y m e l b/\aa Y m e f b) →
  (∃ a,v1= .ref a/\(∃ t,bz X.K e a t)/\R _ e)\/(∃ a,v1= .ref a/\(∃ t,cx X.K e a t)/\R (ke X.K a) e)\/ ∃z,v1= .str z/\R (hQ z) e:=λ{f} p ⟨l,b,i,g,n⟩=>
  .inl ⟨l,i,⟨b,q.K▸g.sq⟩,p m e e1 r.heap _ _ (CL.walk q.K) ⟨g,n⟩ λz=>absurd z Ab2⟩
 cases I with
 | v d=>
  cases d with
  | tup f=>
   obtain⟨l,b,rfl,g,j⟩:=o
   exact .inr (.inl ⟨l,rfl,⟨b,q.K▸g.sq⟩,c m e e1 r.heap _ _ (CT.walk q.K) ⟨g,j⟩ λz=>absurd z Ab2⟩)
  | lst f=>obtain⟨l,b,i,g,j⟩:=o;exact lst c ⟨l,b,i,g.lU r.heap,j⟩
  | ak=>exact c.elim
  | bl _=>exact c.elim
  | int _=>exact c.elim
  | str z=>
   cases (show v1= .str (aB z)from o)
   exact .inr (.inr ⟨_,rfl,c m e e1 r.heap _ _ QH trivial λz=>absurd z Ab2⟩)
  | ref _=>exact c.elim
  | exc _ _=>exact c.elim
  | err _ _ _=>exact c.elim
 | own f=>obtain⟨l,b,i,_,j,n,u⟩:=o;exact lst c ⟨l,b,i,.inl ⟨.inl n,j⟩,u⟩
 | bor f=>obtain⟨l,b,i,j,n,u⟩:=o;exact lst c ⟨l,b,i,.inl ⟨n,j⟩,u⟩
def ER (n:Int):((Aa5 n.toNat).map λ(i:Nat)=>M.D.int (i:Int))=(Aa5 n.toNat).map λ(i:Nat)=>M.D.int (0+(i:Int)):=by
 congr 1;funext i;rw [Int.zero_add]
def sE: "range" ∈c6:=by decide
def ZG (e:Go Y F X E k cf)(o:cX cf.sc "range" g=true) (d:Zb x=true) (i:PE X x (tD Y E (M.eval F a))):PI X tg (.Call g [x] [] pos) (fK Y E lp (M.Gn F (.ao a))):=by
 obtain⟨p,rfl,u,z⟩:=ze o
 refine PI.imp (Ee (e.gl _ u) (e.blt _ sE) (qg i Jn (Wa d)) (Wa d)) λU H R f=> ?_
 obtain⟨G,A,h,s,p⟩:=f
 refine Xa s.heap Ext.refl s p λy v1 w j l e1 m t r v b=> ?_
 obtain⟨n,q,b⟩:=b.of
 split at b
 ·rename_i c
  rw [M.GO]at c
  cases r.int q
  rw [ER]at b
  exact⟨n,rfl,c.1,c.2,b j l e1 t.heap _ _ WN trivial λ_=>trivial⟩
 ·exact b.elim
def XJ (j:Go Y F X E k cf)(z:cX cf.sc "range" g=true) (i:Zb x=true) (e:Zb y=true) (t:PE X x (tD Y E (M.eval F a))) (v:PE X y (tD Y E (M.eval F b))):PI X tg (.Call g [x,y] [] pos) (fK Y E lp (M.Gn F (.bY a b))):=by
 obtain⟨p,rfl,l,S⟩:=ze z
 refine PI.imp (IT (j.gl _ l) (j.blt _ sE) (qg t (qg v Jn (Wa e)) (Wa i)) (by rw [Wa i,Wa e];rfl) (Wa e)) λU H R o=> ?_
 obtain⟨G,V,h,s,p⟩:=o
 refine Xa s.heap Ext.refl s p λP v1 O N Q e1 w C B K f=> ?_
 obtain⟨n,q,f⟩:=f.of
 refine Xa s.heap e1 C f λT v2 l A D e2 I r J L d=> ?_
 obtain⟨m,u,d⟩:=d.of
 split at d
 ·rename_i c
  rw [M.GO]at c
  cases B.int q
  cases J.int u
  exact⟨n,m,rfl,⟨c.1.1,c.1.2,c.2.1,c.2.2⟩,d A D e2 r.heap _ _ WN trivial λ_=>trivial⟩
 ·exact d.elim
def m7: "reversed" ∈c6:=by decide
def yl (o:Go Y F X E k cf)(O:cX cf.sc "reversed" g=true) (w:Zb x=true) (D:PE X x (tD Y E (M.eval F a))):PI X tg (.Call g [x] [] pos) (fK Y E false (M.Gn F (.rev a))):=by
 obtain⟨p,rfl,P,T⟩:=ze O
 refine PI.imp (nL (o.gl _ P) (o.blt _ m7) (qg D Jn (Wa w)) (Wa w)) λU H R B=> ?_
 obtain⟨G,Q,h,s,p⟩:=B
 refine Xa s.heap Ext.refl s p λK v1 I q i e1 N A t S b=> ?_
 have lst: ∀ {e},au Y E G H (.ok e.reverse I) (λe x y u=> ∀J C,Qy Y J e C->C y u->(k9=u0->C y (qk Q U u))->R J u)->(∃ l c,v1= .ref l/\iR Y q i l c/\aa Y q i e c) →
  ∃a L,[v1]= [.ref a]/\bz X.K i a L/\R _ i:=λ{e} p ⟨l,c,f,n,j⟩=>
  ⟨l,c,by rw [f],o.K▸n.sq,p q i e1 A.heap _ _ (CL.fR o.K) ⟨n,j⟩ λz=>absurd z Ab2⟩
 cases K with
 | v d=>
  cases d with
  | lst e=>obtain⟨l,c,f,n,m⟩:=t;exact lst b ⟨l,c,f,n.lU A.heap,m⟩
  | tup _=>exact b.elim
  | ak=>exact b.elim
  | bl _=>exact b.elim
  | int _=>exact b.elim
  | str _=>exact b.elim
  | ref _=>exact b.elim
  | exc _ _=>exact b.elim
  | err _ _ _=>exact b.elim
 | own e=>obtain⟨l,c,f,_,m,j,r⟩:=t;exact lst b ⟨l,c,f,.inl ⟨.inl j,m⟩,r⟩
 | bor e=>obtain⟨l,c,f,m,j,r⟩:=t;exact lst b ⟨l,c,f,.inl ⟨j,m⟩,r⟩
end
section
variable {Y:Ge}{F:M.Fx}{X:Cx}{E:XK}{k:Nat}{cf:Cf}
theorem Je: ∀(τ) (i j) (w),M.Gp (M.GC τ i w) j=if j=i/\i<τ.length then k0 w else M.Gp τ j
 | [],i,j,w=>by simp
 | x::r,0,0,w=>by simp
 | x::r,0,j+1,w=>by simp
 | x::r,i+1,0,w=>by simp
 | x::r,i+1,j+1,w=>by
  have:=Je r i j w
  simp only [M.GC,M.Gp,this,Ab]
  by_cases h:j=i/\i<r.length
  ·rw [if_pos h,if_pos (by omega)]
  ·rw [if_neg h,if_neg (by omega)]
theorem Qm: ∀(τ) (i) (w),(M.GC τ i w).length=τ.length
 | [],_,_=>rfl
 | _::_,0,_=>rfl
 | _::r,i+1,w=>by simp [Qm r i w]
theorem qo: ∀ {τ}{i}{w},M.Gp τ i=k0 w->i<τ.length
 | [],_,_,e=>by simp at e
 | _::_,0,_,_=>by simp
 | _::r,i+1,w,e=>by
  have:=qo (by simpa using e)
  simp;omega
theorem ar.set (s:ar Y G τ h U H)(r:ai Y G H w v)
 (m:gi w=u0-> ∀ j J,j≠i->M.Gp τ j=k0 J->gi J=u0-> ∀a,v= .ref a->U[j]? ≠k0 (k0 (.ref a))):ar Y G (M.GC τ i w) h (U.set i (k0 v)) H where
 len:=by rw [Qm,Ad2];exact s.len
 slot:=λj J e=>by
  rw [Je]at e
  by_cases c:j=i/\i<τ.length
  ·rw [if_pos c]at e
   cases e
   obtain⟨rfl,c⟩:=c
   exact⟨v,Ab4 (by rw [← s.len];exact c),r⟩
  ·rw [if_neg c]at e
   have x:=λz=>c ⟨z,by subst z;exact qo e⟩
   obtain⟨y,u,o⟩:=s.slot j J e
   exact⟨y,by rw [Ae (Ne.symm x)];exact u,o⟩
 apart:=λp q t J a b e1 e2 k g=>by
  rw [Je]at e1 e2
  by_cases f:p=i/\i<τ.length
  ·rw [if_pos f]at e1
   cases e1
   obtain⟨rfl,f⟩:=f
   rw [if_neg (λz=>b z.1.symm)]at e2
   rw [Ab4 (by rw [← s.len];exact f)]at g
   cases g
   rw [Ae b]
   exact m rfl q J (Ne.symm b) e2 k a rfl
  ·rw [if_neg f]at e1
   have l:=λz=>f ⟨z,by subst z;exact qo e1⟩
   rw [Ae (Ne.symm l)]at g
   by_cases d:q=i/\i<τ.length
   ·rw [if_pos d]at e2
    cases e2
    obtain⟨rfl,d⟩:=d
    rw [Ab4 (by rw [← s.len];exact d)]
    intro z
    cases z
    exact m k p _ l e1 rfl a rfl g
   ·rw [if_neg d]at e2
    have n:=λz=>d ⟨z,by subst z;exact qo e2⟩
    rw [Ae (Ne.symm n)]
    exact s.apart p q t J a b e1 e2 k g
 heap:=s.heap
def ar.ez (s:ar Y G τ h U H)(r:aA Y G H d v):ar Y G (M.GC τ i (.v d)) h (U.set i (k0 v)) H:=s.set r λz=>by cases z
def gd:List Nat->List V->St->St
 | i::is,v::a,U=>gd is a (U.set i (k0 v))
 | _,_,U=>U
theorem qM : ∀ {is}{ds}{vs}{τ j}{U},M.aL is ds τ=k0 j->aa Y G H ds vs->ar Y G τ h U H->ar Y G j h (gd is vs U) H/\is.length=vs.length
 | [],[],_,_,_,_,e,rfl,s=>by cases e;exact⟨s,rfl⟩
 | [],_::_,_,_,_,_,e,_,_=>by simp [M.aL]at e
 | _::_,[],_,_,_,_,e,_,_=>by simp [M.aL]at e
 | i::is,d::ds,_,_,_,_,e,⟨v,r,rfl,f,c⟩,s=>by
  obtain⟨a,b⟩:=qM (by simpa [M.aL]using e) c (s.ez f)
  exact⟨a,congrArg (· +1) b⟩
def gM (Y:Ge) (c:List Nat) (one:Bool):TG:=λv U H Q=>match one with
 | true=> ∃i,c= [i]/\Q (U.set i (k0 v)) H
 | false=> ∃G ds b a,v= .ref a/\eQ Y G H a b/\aa Y G H ds b/\c.length=b.length/\Q (gd c b U) H
theorem jJ (b:Go Y F X E k cf): ∀ {is}{es},Wm cf is es=u0->kj X es (λvs U H Q=>vs.length=is.length/\Q (gd is vs U) H)
 | [],[],_=>λa s U H vs f Q I r h=>by
  have c:=Ai3 h.1
  subst c
  exact sJ a s U H [] f Q I r ⟨rfl,h.2⟩
 | [],_::_,h=>by simp [Wm]at h
 | _::_,[],h=>by simp [Wm]at h
 | i::is,e::es,h=>by
  cases e with
  | Name x p=>
   simp only [Wm,Aa0,decide_eq_true_eq]at h
   obtain⟨⟨g,m⟩,j⟩:=h
   have l:=jJ b j
   have c:=b.hZ x m
   have d:=qS (X6 (pos:=p) (by rw [b.N];exact b.nd) (by rw [b.N];exact g) c.1 c.2) l
   intro a s U H vs f Q I r q
   refine d a s U H vs f Q I r ?_
   cases vs with
   | nil=>simp at q
   | cons v vs=>
    refine⟨v,vs,rfl,?_⟩
    exact⟨by simpa using q.1,q.2⟩
  | _=>simp [Wm]at h
theorem J5 : ∀ {is}{es},Wm cf is es=u0->(assignEach es env).length=is.length/\(assignEach es env).findIdx? (·.1)=y0
 | [],[],_=>⟨rfl,rfl⟩
 | [],_::_,h=>by simp [Wm]at h
 | _::_,[],h=>by simp [Wm]at h
 | i::is,e::es,h=>by
  cases e with
  | Name x p=>
   simp only [Wm,Aa0]at h
   obtain⟨a,b⟩:=J5 h.2
   have e1:assignEach (.Name x p::es) env=(k9,assign (.Name x p) env)::assignEach es env:=rfl
   rw [e1]
   refine⟨congrArg (· +1) a,?_⟩
   rw [List.findIdx?_cons]
   simp [b]
  | _=>simp [Wm]at h
def Jx (c:Go Y F X E k cf)(h:Xe cf tg one e=u0):PG X e (gM Y tg one):=by
 cases one with
 | true=>
  cases e with
  | Name x p=>
   simp [Xe,Aa0]at h
   cases tg with
   | nil=>simp at h
   | cons i r=>
    cases r with
    | cons _ _=>simp at h
    | nil=>
     simp only [Wm,Aa0,decide_eq_true_eq]at h
     obtain⟨_,⟨m,y⟩,_⟩:=h
     have g:=c.hZ x y
     have d:=X6 (pos:=p) (by rw [c.N];exact c.nd) (by rw [c.N];exact m) g.1 g.2
     intro b s U H v u Q I r q
     obtain⟨j,e,q⟩:=q
     cases e
     exact d b s U H v u Q I r q
  | _=>simp [Xe]at h
 | false=>
  cases e with
  | Tuple B n p=>
   have h:=h
   obtain⟨w,f⟩:=J5 h
   have d:=uk (k:=n) (pos:=p) c.calm (jJ c h) w f
   intro b s U H v u Q I r q
   obtain⟨G,A,t,a,rfl,o,z,l,q⟩:=q
   exact d b s U H _ u Q I r ⟨a,t,rfl,c.K▸o.sq,l.symm,l.symm,q⟩
  | _=>simp [Xe]at h
def Ie (Y:Ge) (c:List Nat):TG:=λv U H Q=> ∃a b,v= .ref a/\bz Y.K H a b/\c.length=b.length/\Q (gd c b U) H
def yn (c:Go Y F X E k cf)(h:Wm cf tg es=u0):PG X (.Tuple es n p) (Ie Y tg):=by
 obtain⟨j,e⟩:=J5 h
 have d:=Eu (k:=n) (pos:=p) c.calm (jJ c h) j e
 intro b s U H v u Q I r q
 obtain⟨a,i,rfl,g,f,q⟩:=q
 exact d b s U H _ u Q I r ⟨a,i,rfl,c.K▸g,f.symm,f.symm,q⟩
def Xl (k) (l): ∀ i,M.Gp (Aa2 k y0++l) (k+i)=M.Gp l i:=by
 induction k with
 | zero=>intro i;simp
 | succ k a=>intro i;rw [Ae4,show k+1+i=(k+i)+1 by lia];exact a i
def Qt (k) (l): ∀ {i},i<k->M.Gp (Aa2 k y0++l) i=none:=by
 induction k with
 | zero=>intro i h;lia
 | succ k a=>
  intro i h
  cases i with
  | zero=>rfl
  | succ i=>rw [Ae4];exact a (by lia)
theorem xF: ∀(l) (i),M.Gp l i=(l[i]?).join
 | [],_=>by simp
 | _::_,0=>by simp
 | _::r,i+1=>by simpa using xF r i
def ZM (s:ar Y G τ h U H)(e:M.Gk τ j=k0 w): ∃v,U[j]? =k0 (k0 v)/\ai Y G H w v/\(gi w=u0-> ∃J,M.Gp τ j=k0 J/\gi J=u0)/\l7 w=true:=by
 unfold M.Gk at e
 cases q:M.Gp τ j with
 | none=>rw [q]at e;cases e
 | some J=>
  obtain⟨v,c,b⟩:=s.slot j J q
  rw [q]at e
  cases J with
  | v d=>cases e;exact⟨v,c,b,λz=>(by cases z),rfl⟩
  | own i=>cases e;obtain⟨a,l,m,n,f,k,g⟩:=b;exact⟨v,c,⟨a,l,m,f,.inl k,g⟩,λ_=>⟨_,rfl,rfl⟩,rfl⟩
  | bor i=>cases e;exact⟨v,c,b,λ_=>⟨_,rfl,rfl⟩,rfl⟩
def hJ (k:Nat) (aC:List Nat) (τ:M.Sl):M.Sl:=Aa2 k y0++aC.map λj=>M.Gk τ j
def FN (s:ar Y G τ h U H) (kk) (aC)(b:Ub.length=kk+aC.length) (d: ∀i,i<aC.length->Ub[kk+i]? =k0 ((U[aC.getD i 0]?).join)):
 ar Y G (hJ kk aC τ) h Ub H where
 len:=by unfold hJ;rw [Ab1,Ad,Aa,b]
 slot:=λi w e=>by
  unfold hJ at e
  by_cases f:i<kk
  ·rw [Qt kk _ f]at e;cases e
  ·obtain⟨j,rfl⟩: ∃j,i=kk+j:=⟨i-kk,by omega⟩
   rw [Xl,xF,Ac2]at e
   cases q:aC[j]? with
   | none=>rw [q]at e;cases e
   | some c=>
    rw [q]at e
    have e:=e
    obtain⟨v,l,g,_⟩:=ZM s e
    have n:=(Aa1.mp q).1
    refine⟨v,?_,g⟩
    rw [d j n,Ac5,q]
    show k0 ((U[c]?).join)=_
    rw [l]
    rfl
 apart:=λi j p w a k e1 e2 o r=>by
  exfalso
  unfold hJ at e1
  by_cases f:i<kk
  ·rw [Qt kk _ f]at e1;cases e1
  ·obtain⟨m,rfl⟩: ∃j,i=kk+j:=⟨i-kk,by omega⟩
   rw [Xl,xF,Ac2]at e1
   cases q:aC[m]? with
   | none=>rw [q]at e1;cases e1
   | some c=>
    rw [q]at e1
    have e1:=e1
    obtain⟨_,_,_,_,z⟩:=ZM s e1
    cases z
 heap:=s.heap
end
theorem we {env:Env}{d:NameKind}(g:d≠ .free): ∀ {a:List (Str×NameKind)}{x},a.lookup x=k0 d →
 (a.map λ(n,k)=>if(k==NameKind.free&&env.scope.kind== .function&&env.kindOf n==k0 .cell)then(n,NameKind.cell)else(n,k)).lookup x=k0 d
 | [],_,h=>by simp at h
 | (n,k)::r,x,h=>by
  have i:= @we env d g r x
  rw [Ab0]
  rw [Ab5]at h
  cases c:x==n with
  | true=>
   rw [c]at h
   have e:=by simpa using h
   subst e
   have j:(k==NameKind.free)=false:=by simpa using g
   simp only [j,Af0,Ak0,if_false,Ab5,c]
  | false=>
   rw [c]at h
   have q:=i h
   by_cases b:(k==NameKind.free&&env.scope.kind== .function&&env.kindOf n==k0 .cell)=u0
   ·simp only [b,if_true,Ab5,c]
    exact q
   ·have f:=Ah6.mpr b
    simp only [f,Ak0,if_false,Ab5,c]
    exact q
section
variable {Y:Ge}{F:M.Fx}{X:Cx}{E:XK}{k:Nat}{cf:Cf}
structure kl (cf:Cf) (scope:Scope) (N:List Str) (k:Nat) (aC:List Nat):Prop where
 kind:scope.kind= .function
 Fq:(scope.names.map Prod.fst).Nodup
 names: ∀y∈scope.names,y.2= .local->scope.names.lookup y.1=k0 .local
 free: ∀y∈scope.names,y.2= .free->cf.sc.names.lookup y.1=k0 .cell\/cf.sc.names.lookup y.1=k0 .free
 gC: ∀x∈N.drop k,scope.names.lookup x=k0 .free
 aC:zG cf aC (N.drop k)=u0
 le:k<=N.length
 nd:N.Nodup
def JH (h:j8 cf scope N kk aC=u0):kl cf scope N kk aC:=by
 simp only [j8,Aa0,decide_eq_true_eq,Al1]at h
 obtain⟨⟨⟨⟨⟨⟨⟨⟨d,g⟩,e⟩,c⟩,i⟩,j⟩,b⟩,k⟩,l⟩:=h
 exact⟨d,g,λy a=>e y a,λy a=>c y a,λx f=>i x f,j,b,k⟩
theorem xV (a:Go Y F X E k cf): ∀ {aC}{xs},zG cf aC xs=u0->cv X aC xs
 | [],[],_=>trivial
 | [],_::_,h=>by simp [zG]at h
 | _::_,[],h=>by simp [zG]at h
 | j::e,x::xs,h=>by
  simp only [zG,Aa0,decide_eq_true_eq]at h
  obtain⟨⟨b,d⟩,c⟩:=h
  exact⟨by rw [a.N];exact b,a.mx x d,xV a c⟩
def XZ (a:Go Y F X E k cf)(h:kl cf scope N kk aC):ZZ X scope N kk aC:=
 ⟨h.kind,h.Fq,h.names,λy b c=>a.mx y.1 (h.free y b c),h.gC,xV a h.aC,h.le⟩
def rO (h:qK sc x=u0):sc.names.lookup x=k0 .local\/sc.names.lookup x=k0 .cell\/sc.names.lookup x=k0 .free:=by
 unfold qK at h
 split at h
 ·rename_i q;exact .inl q
 ·rename_i q;exact .inr (.inl q)
 ·rename_i q;exact .inr (.inr q)
 ·cases h
def tp (h:iF sc x=u0):sc.names.lookup x=k0 .local\/sc.names.lookup x=k0 .cell:=by
 unfold iF at h
 split at h
 ·rename_i q;exact .inl q
 ·rename_i q;exact .inr q
 ·cases h
def pB (h:kD sc x=u0):sc.names.lookup x=k0 .globalImplicit:=by
 unfold kD at h
 split at h
 ·rename_i q;exact q
 ·cases h
def XA (a:Go Y F X E k cf)(h:kl cf scope N kk aC) (C:Addr) (m:List Addr) (s:Shared) (H:Hp):Go Y F (Wd X N scope C m s H) E0 k { cf with sc:=scope,N:=N } where
 N:=rfl
 K:=a.K
 cl:=a.cl
 ow:=a.ow
 nd:=h.nd
 gu:=λx b=>by
  rcases rO b with q | q | q
  ·exact .inl (we (by decide) q)
  ·exact .inr (.inl (we (by decide) q))
  ·exact .inr (Ji q)
 rN:=λx b=>we (by decide) b
 hZ:=λx b=>by
  rcases tp b with q | q
  ·exact⟨.inl (we (by decide) q),.inr (we (by decide) q)⟩
  ·exact⟨.inr (we (by decide) q),.inl (decide_eq_true q)⟩
 mx:=λx b=>by
  rcases b with q | q
  ·exact .inl (we (by decide) q)
  ·exact Ji q
 gl:=λx b=>we (by decide) (pB b)
 calm:=a.calm
 room:=a.room
 eB:=a.eB
 pass:=λc U w y e p _ g=>by
  obtain⟨x,A,t,B,z,_,_,_,_,_,_,_,_,_,_,n⟩:=g
  exact n.elim
 blt:=a.blt
 con:=a.con
 fn:=λf r=>by
  obtain⟨d,i,v,l,u,o,j⟩:=(a.fn f r).imp λd h=>h.ex
  exact⟨d,⟨i,v,l,u,o,j⟩⟩
 cls:=a.cls
 fld:=a.fld
 hB:=a.hB
 eN:=a.eN
theorem rp: ∀(is) (vs) (U) (j),j∉is->(gd is vs U)[j]? =U[j]?
 | [],_,_,_,_=>rfl
 | _::_,[],_,_,_=>rfl
 | i::is,v::vs,U,j,h=>by
  show(gd is vs (U.set i (k0 v)))[j]? =U[j]?
  rw [rp is vs _ j λz=>h (Aa4 _ z),Ae (λz:i=j=>h (by rw [z];exact Aa7))]
theorem wI: ∀(is) (vs) (U),(gd is vs U).length=U.length
 | [],_,_=>rfl
 | _::_,[],_=>rfl
 | i::is,v::vs,U=>by
  show(gd is vs (U.set i (k0 v))).length=U.length
  rw [wI is vs,Ad2]
def ab (e:M.Gv tg one d τ=k0 τ') (r:aA Y G H d x) (s:ar Y G τ h U H)
 (f: ∀J,ar Y G τ' h J H->(∀ j,j∉tg->J[j]? =U[j]?)->J.length=U.length->Q J H):gM Y tg one x U H Q:=by
 cases one with
 | true=>
  cases tg with
  | nil=>cases e
  | cons i k=>
   cases k with
   | cons _ _=>cases e
   | nil=>
    cases e
    exact⟨i,rfl,f _ (s.ez r) (λj c=>Ae λz=>c (by simp [z])) (Ad2 ..)⟩
 | false=>
  cases d with
  | tup m=>
   obtain⟨a,b,rfl,l,g⟩:=r
   obtain⟨o,n⟩:=qM (e) g s
   exact⟨G,m,b,a,rfl,l,g,n,f _ o (λj c=>rp tg b U j c) (wI tg b U)⟩
  | _=>cases e
def XV {step:M.D->M.AH->M.R (Option M.D)}: ∀ {ds}{h}{d}{h'},M.Gy step ds h≠ .exc d h'
 | [],_,_,_=>λe=>by cases e
 | x::ds,h,d,h'=>λe=>by
  rw [M.Gy]at e
  split at e
  ·split at e<;>cases e
  ·cases e
def Z6 {step:M.D->M.AH->M.R (Option M.D)}(e:M.Gy step (x::ds) h= .ok ys hf): ∃o h1 r,step x h= .ok o h1/\M.Gy step ds h1= .ok r hf/\ys=(match o with | some y=>y::r | none=>r):=by
 rw [M.Gy]at e
 split at e
 ·rename_i o h1 e1
  split at e
  ·rename_i r a e2
   cases e
   exact⟨o,h1,r,e1,e2,rfl⟩
  ·cases e
 ·cases e
def mR (F:M.Fx) (g:List Nat) (one:Bool) (f:M.Sl) (a:Bool) (c elt:M.E):M.D->M.AH->M.R (Option M.D):=λd h=>match M.Gv g one d f with
 | none=> .fail
 | some e=>(if a then(M.eval F c e h).bind λx h=>M.R.of h (M.GX h x)else .ok u0 h).bind λb h=>match b with
  | true=>(M.eval F elt e h).bind λy h=>(M.R.of h y.d).bind λy h=> .ok (k0 y) h
  | false=> .ok y0 h
def Hg :M.eval F (.comp tg one kk aC it u7 c elt) τ h=(M.Gn F it τ h).bind λds h=>
 if ds.length<=M.ba then(M.Gy (mR F tg one (hJ kk aC τ) u7 c elt) ds h).bind λys h=> .ok (.own ys) h else .fail:=by
 rw [M.eval];rfl
noncomputable def iO (F:M.Fx) (a:Bool) (c:M.E):M.Sl->M.AH->M.R Bool:=λτ h=>if a then M.Gm F c τ h else .ok u0 h
def Zg {r:M.R α}(e:r.bind f= .ok b h): ∃a h1,r= .ok a h1/\f a h1= .ok b h:=by
 cases r with
 | ok a h1=>exact⟨a,h1,rfl,e⟩
 | exc d h1=>cases e
 | fail=>cases e
def J2 (a:xg iter=u0): ∀v,foldedSetIterable iter env v=pure v:=λv=>by cases iter<;>first | rfl | (simp [xg]at a)
def pd (htk: ∀i∈tg,i<kk)(h0:tD Y E (M.eval F (.comp tg one kk aC it u7 c elt)) U H Q):
 lV kk aC (fK Y E k9 (M.Gn F it)) (λ_ _ _ _=>gM Y tg one) (λ_ _ _ _=>cN Y E0 (iO F u7 c)) (λ_ _ _ _=>tD Y E0 (M.eval F elt)) U H Q:=by
 obtain⟨G,W,h,s,p⟩:=h0
 rw [Hg]at p
 refine⟨G,W,h,s,?_⟩
 cases qi:M.Gn F it W h with
 | exc d l=>rw [qi]at p;exact p
 | fail=>rw [qi]at p;exact p
 | ok f h1=>
  rw [qi]at p
  intro G1 H1 e1 y J C N c0 _ Ca fp st
  have p:au Y E G H (if f.length<=M.ba then(M.Gy _ f h1).bind λys h=> .ok _ h else .fail) λw l q n=> ∀v,ai Y q n w v->aJ W U H w v->Q v n:=p
  by_cases hL:f.length<=M.ba
  rotate_left
  ·rw [if_neg hL]at p;exact p.elim
  rw [if_pos hL]at p
  cases qc:M.Gy (mR F tg one _ u7 c elt) f h1 with
  | exc d l=>exact absurd qc XV
  | fail=>rw [qc]at p;exact p.elim
  | ok ys hf=>
   rw [qc]at p
   have p:=p
   have hLs:=Xi
   refine⟨λi m yv Ub n=> ∃q l done qt,(m=f.length-i/\i<=f.length/\done.length<=i)/\Ext G1 H1 q n/\ah Y q l n/\C q n/\aa Y q n done yv ∧
    M.Gy (mR F tg one (hJ kk aC W) u7 c elt) (f.drop i) l= .ok qt hf/\ys=done++qt/\Ub.length=kk+aC.length/\ ∀j,j<aC.length->Ub[kk+j]? =k0 ((U[aC.getD j 0]?).join),⟨f.length,?_⟩,?_⟩
   ·refine⟨G1,h1,[],ys,⟨by simp,Ac8 _,Aa8 _⟩,Ext.refl,y,c0,rfl,qc,rfl,?_,λj hj=> ?_⟩
    ·unfold mJ;rw [Ab1,Ad,Aa]
    ·unfold mJ
     rw [Ad6 (by simp),Ad,Am3,Ac2,Aa3 hj,Ac5,Aa3 hj]
     rfl
   ·rintro i m yv Ub n ⟨q,l,done,qt,⟨rfl,hi',hd⟩,e2,e,B,rd,X,u,g,A⟩
    have ldone:=rd.length
    by_cases t:i<f.length
    ·refine .inr ⟨N.go i q n B t,by lia,_,λyv' Ub' O w=>⟨f.length-(i+1),by lia,w⟩,λx O hy=> ?_⟩
     obtain⟨G4,x4,hx4,d,ed,rdx⟩:=N.fg i q n x O B t hy
     have B:=N.keep _ _ _ _ l B x4 e
     have rd:=rd.ext x4 e
     have e2:=e2.trans y x4
     have e:=hx4 _ e
     have edr:f.drop i=d::f.drop (i+1):=by
      rw [Aj4 t]
      rw [Aa3 t]at ed
      cases ed
      rfl
     rw [edr]at X
     obtain⟨o,h2,r,S,P,er⟩:=Z6 X
     unfold mR at S
     cases qb:M.Gv tg one d (hJ kk aC W)with
     | none=>rw [qb]at S;cases S
     | some I=>
      rw [qb]at S
      have so:=s.ext (e1.trans s.heap e2) e
      have sb:=FN so kk aC g A
      refine ab qb rdx sb λU2 s2 same V=> ?_
      have k: ∀j,j<aC.length->U2[kk+j]? =k0 _:=λj hj=>by
       rw [same _ λz=>by have:=htk _ z;lia];exact A j hj
      obtain⟨b,h3,K,a⟩:=Zg (show (iO F u7 c I l).bind _=_ from S)
      refine⟨G4,I,l,s2,?_⟩
      rw [K]
      intro G3 H3 R T
      have s3:=s2.ext R T
      cases b with
      | false=>
       refine mZ ?_
       have a:=a
       cases a
       exact⟨G3,_,done,r,⟨rfl,by lia,by lia⟩,e2.trans y R,T,N.keep _ _ _ _ l B R e,rd.ext R e,P,by rw [u,er],by rw [V];exact g,k⟩
      | true=>
       refine m6 ?_
       obtain⟨w,h4,qe,a⟩:=Zg (a)
       refine⟨G3,I,h3,s3,?_⟩
       rw [qe]
       intro G4 H4 e4 hr4 v rw' fw
       obtain⟨dd,h5,Z,a⟩:=Zg (a)
       cases qw:w.d with
       | none=>rw [qw]at Z;cases Z
       | some d'=>
        rw [qw]at Z
        cases Z
        cases (a)
        have s4:=s3.ext e4 hr4
        obtain⟨G5,e5,s5,rdv,m5⟩:=nB e4 s4 s3 rw' fw qw
        have L:=R.trans e e5
        refine⟨G5,_,done++ [dd],r,⟨rfl,by lia,by rw [Ab1,List.length_singleton];lia⟩,e2.trans y L,s5.heap,N.keep _ _ _ _ l B L e,(rd.ext L e).append ⟨v,[],rfl,rdv,rfl⟩,P,?_,by rw [V];exact g,k⟩
        rw [u,er]
        simp
    ·have ei:i=f.length:=by lia
     subst ei
     rw [List.drop_length]at X
     cases (X)
     rw [Ag0]at u
     subst u
     exact .inl ⟨N.stop _ q n B (Aa8 _) (Aa8 _),by lia,λD hD=>az.own (az.mk p (e1.trans s.heap e2) s.heap) e rd D hD⟩
def Fo (e:Go Y F X E k cf)(a:kl cf scope N kk aC)
 (l:aC.length=(N.drop kk).length) (f:Xe { cf with sc:=scope,N:=N } tg one t=u0) (d: ∀i∈tg,i<kk) (b:xg iter=u0)
 (h:PI X t iter (fK Y E k9 (M.Gn F it)))
 (j: ∀C fp s H,PE (Wd X N scope C fp s H) y (tD Y E0 (M.eval F elt)))
 (m: ∀C fp s H,gA (Wd X N scope C fp s H) ifs (cN Y E0 (iO F u7 c))):
 PE X (.ListComp y [⟨t,iter,ifs,0⟩] scope pos) (tD Y E (M.eval F (.comp tg one kk aC it u7 c elt))):=
 PE.imp (Ir (XZ e a) h (λC fp s H=>Jx (XA e a C fp s H) f) m j e.calm (J2 b)) λU H Q g=>pd d g
def w6 (a:Go Y F X E k cf)(o:cf.N[i]? =k0 x) (m:iF cf.sc x=u0)(j:swapsWith (.ListComp y [⟨t,iter,ifs,0⟩] scope p0) (k0 (.Name x pos2)) pos.line X.env=pure u0) (b:kl cf scope N kk aC)
 (r:aC.length=(N.drop kk).length) (h:Xe { cf with sc:=scope,N:=N } tg one t=u0) (f: ∀i∈tg,i<kk) (e:xg iter=u0)
 (p:PI X t iter (fK Y E k9 (M.Gn F it)))
 (u: ∀C fp s H,PE (Wd X N scope C fp s H) y (tD Y E0 (M.eval F elt)))
 (n: ∀C fp s H,gA (Wd X N scope C fp s H) ifs (cN Y E0 (iO F u7 c))):
 PS X (.Assign [.Name x pos2] (.ListComp y [⟨t,iter,ifs,0⟩] scope p0) pos) (gK (tD Y E (M.eval F (.comp tg one kk aC it u7 c elt))) (JT i)):=by
 have l:=a.hZ x m
 have g:=IJ (by rw [a.N];exact a.nd) (by rw [a.N];exact o) l.1 (XZ a b) p (λC fp s H=>Jx (XA a b C fp s H) h) n u j a.calm (J2 e) l.2
 exact λd s U H D I q=>g d s U H D I (pd f q)
def Zj (b:Go Y F X E k cf)(h1:cf.N[i]? =k0 x) (c:qK cf.sc x=u0) (a:bx x=u0):PE X (.Name x p) (md i):=by
 unfold bx at a
 rw [Aa0]at a
 exact XD (by rw [b.N];exact h1) (b.gu x c) (by simpa using a.1) (by simpa using a.2)
def rr: "dict" ∈c6:=by decide
def Hd (l:Go Y F X E k cf)(h1:cf.N[i]? =k0 y) (v:qK cf.sc y=u0) (t:bx y=u0) (e:PE X x (tD Y E (M.eval F a))):PE X (.Compare x [l6 neg] [.Name y j] pos) (tD Y E (M.eval F (.cg neg a i))):=by
 refine PE.imp (ua (tG neg) e (Zj l h1 v t) (Wq rfl)) λU H Q c=> ?_
 obtain⟨G,I,h,s,p⟩:=c
 refine Xa s.heap Ext.refl s p λB v1 h1 f C e1 n b u w j=> ?_
 unfold M.cg at j
 split at j
 ·rename_i d r A g
  cases u
  obtain⟨m,z,D,q,o⟩:=Qn b g
  exact⟨_,m,aB d,_,_,rfl,rfl,q,by rw [mS o];exact j f _ e1 b.heap _ rfl trivial⟩
 ·exact j.elim
def DG (l:Go Y F X E k cf)(h1:cf.N[i]? =k0 y) (v:qK cf.sc y=u0) (t:bx y=u0) (e:PE X x (tD Y E (M.eval F a))):PT X (.Compare x [l6 neg] [.Name y j] pos) (cN Y E (M.Gm F (.cg neg a i))):=by
 refine PT.imp (rP (tG neg) e (Zj l h1 v t) (Wq rfl)) λU H Q c=> ?_
 obtain⟨G,I,h,s,p⟩:=c
 unfold M.Gm at p
 rw [M.eval,Xg]at p
 refine Xa s.heap Ext.refl s p λB v1 h1 f C e1 n b u w j=> ?_
 unfold M.cg at j
 split at j
 ·rename_i d r A g
  cases u
  obtain⟨m,z,D,q,o⟩:=Qn b g
  exact⟨_,m,aB d,_,_,rfl,rfl,q,_,rfl,by rw [mS o];exact j f _ e1 b.heap⟩
 ·exact j.elim
def Eh (t:Go Y F X E k cf)(h1:cf.N[i]? =k0 y) (D:qK cf.sc y=u0) (A:bx y=u0) (m:jc x=u0) (n:PE X x (tD Y E (M.eval F a))):PE X (.Subscript (.Name y j) x pos) (tD Y E (M.eval F (.ea i a))):=by
 refine PE.imp (oe tZ (Zj t h1 D A) n (jR m)) λU H Q g=> ?_
 obtain⟨G,J,h,s,p⟩:=g
 rw [M.eval]at p
 cases q:M.GT h (M.Gp J i)with
 | none=>rw [q]at p;exact p.elim
 | some f=>
  obtain⟨T,K⟩:=f
  rw [q]at p
  have sl:=(Qn s q).1
  refine⟨_,sl,?_⟩
  refine Xa s.heap Ext.refl s p λR v1 h1 P S e1 u e B L j=> ?_
  unfold M.ea at j
  split at j
  ·rename_i l r O o
   cases B
   obtain⟨c,N,V,z,w⟩:=Qn e o
   have b:=by rw [sl]at c;exact Ad5.inj (Ad5.inj c)
   split at j
   ·rename_i d I
    obtain⟨v,C,rv⟩:=vL w I
    exact⟨aB l,_,_,v,rfl,b,z,C,(az.mk j e1 s.heap).v e.heap rv⟩
   ·exact j.elim
  ·exact j.elim
def AX (c:Go Y F X E k cf)(u:cX cf.sc "dict" g=true) (h1:cf.N[i]? =some y) (B:qK cf.sc y=true) (x:bx y=true):PE X (.Call g [.Name y p1] [] pos) (tD Y E (M.eval F (.eg i))):=by
 obtain⟨p,rfl,n,A⟩:=ze u
 refine PE.imp (Wy Cm (c.gl _ n) (c.blt _ rr) (by decide +kernel) (qg (Zj c h1 B x) Jn rfl) (wE rr) A rfl rfl) λU H Q m=> ?_
 obtain⟨G,C,h,s,p⟩:=m
 rw [M.eval]at p
 cases q:M.GT h (M.Gp C i)with
 | none=>rw [q]at p;exact p.elim
 | some l=>
  obtain⟨r,f⟩:=l
  rw [q]at p
  obtain⟨t,j,d,v,w⟩:=Qn s q
  refine⟨_,t,_,_,rfl,v,λa b=> ?_⟩
  have p:=p
  have e1:Ext G H G (aR H a (dS (dv f d))):=Zp _ b
  have e:=s.heap.new (dS (dv f d)) b
  refine au.val p (xz e1 b) (ZE e (λz=>by obtain⟨o,q⟩:=s.heap.live a z;rw [b]at q;cases q) (s.heap.fX b) ⟨j,d,qd,w.ext e1 s.heap⟩) ?_ trivial
  show h.length<G.n+1/\V.ref a= .ref (if h.length=G.n then a else G.aO h.length)
  rw [s.heap.len,if_pos rfl]
  exact⟨Af5 _,rfl⟩
def CG (a:M.GI d=u0) (z:aA Y G H d v):aA Y G' H' d v:=by
 cases d<;>first | exact z | exact absurd a (by simp)
def FI (e:Ext G H G1 H1) (d:H a=y0):Ext G H G1 (aR H1 a o):=
 ⟨λb u z c=>by rw [Ja (λq:b=a=>by rw [q,d]at z;cases z)];exact e.keep b u z c,e.le,e.aO,e.new,e.fz,e.old,λr g z=>by
   obtain⟨u,z⟩:=z
   obtain⟨h,f⟩:=e.cells r g ⟨u,z⟩
   exact⟨h,by rw [Ja (λq:G.aO r=a=>by rw [q,d]at z;cases z)];exact f⟩⟩
def IV (d:ah Y G h H) (f: ¬G.fz a) (of:dD G a):ah Y G h (aR H a o):=by
 have mon:Mon G H G (aR H a o):=⟨λb u z q=>by rw [Ja (λe:b=a=>f (e▸z))];exact q,Aa8 _,λ_ _=>rfl,λ_ z=>z⟩
 refine⟨d.len,λq c e=>⟨(d.any q c e).1,(d.any q c e).2.mon mon λu z=>by rw [Ja (of q (d.lt e))];exact z⟩,d.inj,λb z=> ?_⟩
 obtain⟨u,q⟩:=d.live b z
 exact⟨u,by rw [Ja (λe:b=a=>f (e▸z))];exact q⟩
def gx (G:Gh) (H:Hp) (a:Addr) (o:HO):Prop:=H a=k0 o/\ ¬G.fz a/\dD G a
def gx.ext (l:gx G H a o) (e:Ext G H G1 H1):gx G1 H1 a o:=
 ⟨e.keep a o l.1 l.2.2,λz=>(e.old a z).elim l.2.1 (λq=>by rw [l.1]at q;cases q),e.off l.1 l.2.2⟩
def KR {a b c k:M.Tx}(h:ai Y G H w1 v1) (i:ai Y G H w2 v2) (j:ai Y G H w3 v3) (e: [(a,w1),(b,w2),(c,w3)].lookup k=k0 w): ∃v,[(aB a,v1),(aB b,v2),(aB c,v3)].lookup (aB k)=k0 v/\ai Y G H w v:=by
 simp [Ab5,List.lookup_nil]at e ⊢
 simp [o7]
 cases g:k==a with
 | true=>rw [g]at e;cases e;exact⟨v1,rfl,h⟩
 | false=>
  rw [g]at e
  cases f:k==b with
  | true=>rw [f]at e;cases e;exact⟨v2,rfl,i⟩
  | false=>
   rw [f]at e
   cases d:k==c with
   | true=>rw [d]at e;cases e;exact⟨v3,rfl,j⟩
   | false=>rw [d]at e;cases e
def KA (go:Go Y F X E k cf)(h1:cf.N[i]? =k0 x) (K:qK cf.sc x=u0) (I:bx x=u0) (r:hI k1 q1=u0) (y:hI k2 q2=u0) (w:hI k3 q3=u0) (hn: [k1,k2,k3].Nodup)
 (V:PE X y1 (tD Y E (M.eval F a))) (P:PE X y2 (tD Y E (M.eval F b))) (hc:PE X y3 (tD Y E (M.eval F c))):PE X (.Subscript (.Dict [q1,q2,q3] [y1,y2,y3] J) (.Name x p2) pos) (tD Y E (M.eval F (.fA k1 a k2 b k3 c i))):=by
 obtain⟨j1,o1,rfl⟩:=oA r
 obtain⟨j2,L,rfl⟩:=oA y
 obtain⟨j3,R,rfl⟩:=oA w
 have ok:kL X [aB k1,aB k2,aB k3] [tD Y E _,tD Y E _,tD Y E _] [k0 (.Constant (.str (aB k1)) j1 o1),k0 (.Constant (.str (aB k2)) j2 L),k0 (.Constant (.str (aB k3)) j3 R)] [y1,y2,y3]:=
  ⟨_,_,_,_,_,_,_,rfl,rfl,rfl,V,_,_,_,_,_,_,_,rfl,rfl,rfl,P,_,_,_,_,_,_,_,rfl,rfl,rfl,hc,rfl,rfl,rfl⟩
 refine PE.imp (oe tZ (DX ok (by simp) (show 3<=15 by decide) (Ao2.map (l:= [k1,k2,k3]) aB (λa b z q=>z (zC q)) hn)) (Zj go h1 K I) (jR rfl)) λU H Q qq=> ?_
 obtain⟨G,τ,h,s,p⟩:=qq
 rw [M.eval]at p
 intro t e
 have D:Ext G H G (aR H t (dS [])):=Zp _ e
 have Z:ar Y G τ h U _:=s.ext D (s.heap.new _ e)
 have N:gx G (aR H t (dS [])) t _:=⟨qd,s.heap.hX e,s.heap.fX e⟩
 refine Xa s.heap D Z p λw1 v1 h1 G1 H1 e1 n C r1 f1 J=> ?_
 refine Xa s.heap e1 C J λw2 v2 K G2 H2 e2 j m r2 f2 p2=> ?_
 refine Xa s.heap e2 m p2 λw3 v3 I O H3 e3 g B W f3 f=> ?_
 have o:=((N.ext n).ext j).ext g
 refine⟨o.1,?_⟩
 unfold M.fA at f
 split at f
 ·rename_i A T
  obtain⟨v,ev,rv⟩:=B.slot i _ T
  cases (show v= .str (aB A)from rv)
  split at f
  ·rename_i d S
   split at f
   ·rename_i hf
    obtain⟨u,eu,ru⟩:=KR ((r1.ext j C.heap).ext g m.heap) (r2.ext g m.heap) W S
    exact⟨_,ev,aB A,_,_,u,rfl,rfl,qd,eu,au.val f (FI e3 e) (IV B.heap o.2.1 o.2.2) (v:=u) (show aA Y O _ d u from CG hf ru) trivial⟩
   ·exact f.elim
  ·exact f.elim
 ·exact f.elim
def sU (h:Str.ofString a=Str.ofString b):a=b:=by
 rw [Str.ofString_eq_toList,Str.ofString_eq_toList]at h
 have e:=by
  have:=congrArg (λs:Str=>s.cps.toList) h
  simpa using this
 have inj: ∀(l m:List Char),l.map Char.toNat=m.map Char.toNat->l=m:=by
  intro l
  induction l with
  | nil=>intro m q;cases m with | nil=>rfl | cons _ _=>cases q
  | cons c l f=>
   intro m q
   cases m with
   | nil=>cases q
   | cons d m=>
    simp [List.cons.injEq]at q
    rw [Char.toNat_inj.mp q.1,f m q.2]
 exact String.toList_inj.mp (inj _ _ e)
def wB (e:M.GV h o=k0 (r,c,fs)):o=k0 (.v (.ref r))/\h[r]? =k0 (.obj c fs):=by
 unfold M.GV at e
 split at e
 ·split at e
  ·rename_i q
   cases e
   exact⟨rfl,q⟩
  ·cases e
 ·cases e
def Wv (s:ar Y G τ h U H)(e:M.GV h (M.Gp τ i)=k0 (r,c,fs)):U[i]? =k0 (k0 (.ref (G.aO r))):=by
 obtain⟨e1,e2⟩:=wB e
 obtain⟨v,d,b⟩:=s.slot i _ e1
 obtain⟨_,a⟩:=(show r<G.n/\v= .ref (G.aO r)from b)
 rw [d,a]
abbrev gv (fs:List (String×M.D)):List Str:=fs.map λp=>Str.ofString p.1
section
variable {G:Gh}{H:Hp}
def ui (a b):(jg a==Str.ofString b)=(a==b):=by
 cases q:a==b with
 | true=>rw [eq_of_beq q];exact beq_self_eq_true _
 | false=>exact beq_eq_false_iff_ne.mpr λz=>(beq_eq_false_iff_ne.mp q) (sU z)
theorem sN : ∀ {fs}{j},aa Y G H (fs.map (·.2)) j->fs.lookup f=k0 d-> ∃v,((gv fs).zip j).lookup (jg f)=k0 v/\aA Y G H d v
 | [],_,_,e=>by cases e
 | (g,x)::fs,_,⟨v,r,rfl,b,a⟩,e=>by
  rw [Ab5]at e
  show ∃w,(((Str.ofString g),v)::(gv fs).zip r).lookup (jg f)=k0 w/\_
  rw [Ab5,ui]
  cases q:f==g with
  | true=>rw [q]at e;cases e;exact⟨v,rfl,b⟩
  | false=>rw [q]at e;exact sN a e
theorem qH : ∀ {fs}{a:List V},fs.lookup f=y0->((gv fs).zip a).lookup (jg f)=y0
 | [],_,_=>rfl
 | (g,x)::fs,[],_=>rfl
 | (g,x)::fs,v::r,e=>by
  rw [Ab5]at e
  show(((Str.ofString g),v)::(gv fs).zip r).lookup (jg f)=y0
  rw [Ab5,ui]
  cases q:f==g with
  | true=>rw [q]at e;cases e
  | false=>rw [q]at e;exact qH e
theorem xS (rv:aA Y G H d v): ∀ {fs}{J},aa Y G H (fs.map (·.2)) J-> ∃j,aa Y G H ((M.aQ f d fs).map (·.2)) j/\L2.aQ (jg f) v ((gv fs).zip J)=(gv (M.aQ f d fs)).zip j
 | [],_,z=>by cases z;exact⟨[v],⟨v,[],rfl,rv,rfl⟩,rfl⟩
 | (g,x)::fs,_,⟨u,r,rfl,e,c⟩=>by
  show ∃j,aa Y G H ((if g=f then(g,d)::fs else(g,x)::M.aQ f d fs).map (·.2)) j/\(if Str.ofString g=jg f then(Str.ofString g,v)::(gv fs).zip r else(Str.ofString g,u)::L2.aQ (jg f) v ((gv fs).zip r))=(gv (if g=f then(g,d)::fs else(g,x)::M.aQ f d fs)).zip j
  by_cases q:g=f
  ·rw [if_pos q,if_pos (congrArg Str.ofString q)]
   exact⟨v::r,⟨v,r,rfl,rv,c⟩,rfl⟩
  ·rw [if_neg q,if_neg λz=>q (sU z)]
   obtain⟨j,a,b⟩:=xS rv c
   exact⟨u::j,⟨u,j,rfl,e,a⟩,by rw [b];rfl⟩
theorem X2 (a:M.Gc d=u0): ∀ {fs},M.Gf (fs.map (·.2))=u0->M.Gf ((M.aQ f d fs).map (·.2))=u0
 | [],_=>by show(M.Gc d&&u0)=u0;rw [a];rfl
 | (g,x)::fs,z=>by
  have z:(M.Gc x&&M.Gf (fs.map (·.2)))=true:=z
  rw [Aa0]at z
  show M.Gf ((if g=f then(g,d)::fs else(g,x)::M.aQ f d fs).map (·.2))=u0
  by_cases q:g=f
  ·rw [if_pos q];show(M.Gc d&&M.Gf (fs.map (·.2)))=u0;rw [a,z.2];rfl
  ·rw [if_neg q];show(M.Gc x&&M.Gf ((M.aQ f d fs).map (·.2)))=u0;rw [z.1,X2 a z.2];rfl
end
def B9 (a:Go Y F X E k cf)(h1:cf.N[i]? =k0 x) (t:qK cf.sc x=u0) (l:bx x=u0) (b:cf.ob.fl.contains (c,f)=u0):PE X (.Attribute (.Name x p1) (jg f) pos) (tD Y E (M.eval F (.fld i c f))):=by
 refine PE.imp (KP (Zj a h1 t l) rfl) λU H Q e=> ?_
 obtain⟨G,z,h,s,p⟩:=e
 rw [M.eval]at p
 cases q:M.GV h (M.Gp z i)with
 | none=>rw [q]at p;exact p.elim
 | some o=>
  obtain⟨r,g,fs⟩:=o
  rw [q]at p
  dsimp only at p
  split at p
  ·rename_i u
   subst u
   obtain⟨d,y,p⟩:=p.of
   obtain⟨e1,e2⟩:=wB q
   obtain⟨B,_,j,A,n,w⟩:=s.heap.obj r _ fs e2
   obtain⟨v,m,rv⟩:=sN w y
   exact⟨_,Wv s q,G.aO r,Y.ca g,j,_,v,rfl,n,(a.fld _ _ b).1,(a.fld _ _ b).2,m,au.val p Ext.refl s.heap rv trivial⟩
  ·exact p.elim
def pV (e:Ext G H G1 H1) (a:r<G.n):ai Y G1 H1 (.v (.ref r)) (.ref (G.aO r)):=⟨Ab3 a e.le,by rw [e.aO r a]⟩
def ud (b:attributeBase o name env (eval o env)=eval o env) (c:methodCallForm args.length (backTo pos (starEach args env)) (backToKw pos (keywordEach [] env))=u0) (a:(apos.endLine==pos.line)=u0):
 eval (.Call (.Attribute o name apos) args [] pos) env=(do
  let j ←eval o env
  standAt apos.atName
  let (f,first) ←holding [j] (getMethod j name (do return (← importBound o env).getD u0))
  callWith pos f first (backTo pos (starEach args env)) (backToKw pos (keywordEach [] env))):=by
 have e1:methodCallForm (args.length+([]:List Keyword).length) _ _=true:=c
 have e2:methodCallPos u0 o env apos pos=pure pos:=by unfold methodCallPos;simp [a]
 rw [arm_eval_Call,b]
 unfold methodCall
 rw [e1]
 simp only [e2,calleeOf,if_true,pure_bind]
def Hk (h: ∀e∈args,Zb e=u0) (b:args.length<29):methodCallForm args.length (backTo pos (starEach args env)) (backToKw pos (keywordEach [] env))=true:=by
 unfold methodCallForm
 have e1:(backTo pos (starEach args env)).all (λx=> !x.1)=true:=by
  have:=xo (env:=env) (pos:=pos) h
  rw [Al1]
  intro x a
  rw [Aj0]at this
  simpa using this x a
 rw [e1]
 have e2:(backToKw pos (keywordEach [] env))= []:=rfl
 rw [e2]
 simp
 lia
def CI (a:Go Y F X E k cf)(h1:cf.N[i]? =k0 x) (P:qK cf.sc x=u0) (I:bx x=u0) (V:cf.ob.mt.contains (c,m,q0)=u0) (B:(apos.endLine==pos.line)=u0) (l:ys.length<20) (f: ∀e∈y::ys,Zb e=u0) (v:PA X (y::ys) (fW Y E (M.Gi F es))):
 PE X (.Call (.Attribute (.Name x J) (jg m) apos) (y::ys) [] pos) (tD Y E (M.eval F (.bw i c m q0 es))):=by
 obtain⟨u,W,fd,ps,L,b,C⟩:=a.hB c m q0 V
 refine PE.imp (yt (Zj a h1 P I) u L b a.room C .nil a.pass v (Wa (f _ Aa7)) (xo λe S=>f e (Aa4 _ S)) (ud rfl (Hk f (by simp;lia)) B)) λU H Q t=> ?_
 obtain⟨G,T,h,s,p⟩:=t
 rw [M.eval]at p
 cases q:M.GV h (M.Gp T i)with
 | none=>rw [q]at p;exact p.elim
 | some o=>
  obtain⟨r,Z,fs⟩:=o
  rw [q]at p
  dsimp only at p
  split at p
  ·rename_i R
   obtain⟨rfl,l⟩:=R
   obtain⟨e1,e2⟩:=wB q
   obtain⟨nf,_,z,us,O,ru⟩:=s.heap.obj r _ fs e2
   have g:r<G.n:=by rw [← s.heap.len];exact(Aa1.mp e2).1
   refine⟨_,Wv s q,G.aO r,z,_,rfl,O,qH (Ah.mp l),?_⟩
   refine zq s.heap Ext.refl s p λn D h1 A H1 e1 j N K J=> ?_
   rw [Ag0]
   refine⟨A,h1,.v _::n.map M.W.arg,N.heap,⟨.ref _,D,rfl,pV j g,Zx K⟩,λw d=> ?_,az.mk J e1 s.heap⟩
   obtain rfl | d:=Ac1.mp d
   ·rfl
   ·exact Ww n w d
  ·exact p.elim
def Hc (a:Go Y F X E k cf)(h1:cf.N[i]? =k0 x) (y:qK cf.sc x=u0) (t:bx x=u0) (B:cf.ob.mt.contains (c,m,q0)=u0) (l:(apos.endLine==pos.line)=u0):
 PE X (.Call (.Attribute (.Name x p1) (jg m) apos) [] [] pos) (tD Y E (M.eval F (.bw i c m q0 .nil))):=by
 obtain⟨g,C,L,I,J,b,n⟩:=a.hB c m q0 B
 refine PE.imp (Ci (Zj a h1 y t) g J b a.room n .nil a.pass (ud rfl rfl l)) λU H Q f=> ?_
 obtain⟨G,A,h,s,p⟩:=f
 rw [M.eval]at p
 cases q:M.GV h (M.Gp A i)with
 | none=>rw [q]at p;exact p.elim
 | some o=>
  obtain⟨r,D,fs⟩:=o
  rw [q]at p
  dsimp only at p
  split at p
  ·rename_i z
   obtain⟨rfl,u⟩:=z
   obtain⟨e1,e2⟩:=wB q
   obtain⟨O,_,j,K,v,N⟩:=s.heap.obj r _ fs e2
   have d:r<G.n:=by rw [← s.heap.len];exact(Aa1.mp e2).1
   refine⟨_,Wv s q,G.aO r,j,_,rfl,v,qH (Ah.mp u),?_⟩
   have p:=p
   refine⟨G,h,[.v _],s.heap,⟨.ref _,[],rfl,pV Ext.refl d,rfl⟩,λw e=> ?_,az.mk p Ext.refl s.heap⟩
   cases Ah0.mp e
   rfl
  ·exact p.elim
def IY (o:Go Y F X E k cf)(hg:cX cf.sc c g=u0) (hm:cf.ob.eN.contains (c,q0)=u0) (I: ∀e∈y::ys,Zb e=u0) (W:PA X (y::ys) (fW Y E (M.Gi F es))):
 PE X (.Call g (y::ys) [] pos) (tD Y E (M.eval F (.make c q0 es))):=by
 obtain⟨p0,rfl,T,g3⟩:=ze hg
 obtain⟨B,fa,fd,ps,mk,r,bd⟩:=o.eN c q0 hm
 refine PE.imp (D7 mk r o.eB (o.gl _ T) B bd .nil o.pass W g3 (Wa (I _ Aa7)) (xo λe he=>I e (Aa4 _ he))) λU H Q P=> ?_
 obtain⟨G,τ,h,s,p⟩:=P
 refine zq s.heap Ext.refl s p λL vs j f x e1 e1' l r1 b=> ?_
 intro a n q N ne
 rw [Ag0]
 have K:aR x n (.own a) a=none:=by rw [Ja (Ne.symm ne)];exact q
 have S:Ext f x f (aR x n (.own a)):=Zp _ N
 have r2:=l.heap.new (.own a) N
 have O:Ext f _ f (aR _ a (.ins (Y.ca c) n [])):=Zp _ K
 have Z:=r2.new (.ins (Y.ca c) n []) K
 have kG:=l.heap.hX q
 have R:=FY Z kG (l.heap.fX q) qd
 have z:=xz (S.trans l.heap O) q
 have D:=by
  show j.length<f.n+1/\V.ref a= .ref (if j.length=f.n then a else f.aO j.length)
  rw [l.heap.len,if_pos rfl]
  exact⟨Af5 _,rfl⟩
 refine⟨f.cell a,j++ [.obj c []],.v (.ref j.length)::L.map M.W.arg,R,⟨.ref a,vs,rfl,D,bg.ext z l.heap (Zx r1)⟩,λw t=> ?_,?_⟩
 ·obtain rfl | t:=Ac1.mp t
  ·rfl
  ·exact Ww L w t
 ·cases A:F.call q0 _ (j++ [.obj c []])with
  | fail=>rw [A]at b;exact b.elim
  | exc d h'=>
   rw [A]at b
   exact λu C m i=>b u C ((e1.trans s.heap z).trans s.heap m) i
  | ok w h'=>
   rw [A]at b
   intro u C m i v rv _
   cases w with
   | own _=>exact b.elim
   | bor _=>exact b.elim
   | v d=>
    cases d with
    | ak=>
     refine⟨rv,?_⟩
     have b:=b
     have J:=D.1
     exact b u C ((e1.trans s.heap z).trans s.heap m) i _ ⟨Ab3 J m.le,by rw [m.aO _ J];exact D.2⟩ trivial
    | _=>exact b.elim
end
def PW.eF (h:PT X (.BoolOp op vs pos) t):PW X (.BoolOp op vs pos) t:=λb a s U H Q I q=>by
 have:=h a s U H Q I q
 exact this
theorem QB : ∀ {es}{xs}{τ}{h}{ds}{h'},bW cf es xs=u0->M.Gu F es τ h= .ok ds h'->ds.length=xs.length
 | .nil,xs,_,_,_,_,c,e=>by
  cases Af4.mp c
  rw [M.Gu]at e;cases e;rfl
 | .cons a es,xs,τ,h,ds,h',c,e=>by
  refine kC (λx r c=> ?_) xs c
  obtain⟨w,f,e1,e⟩:=Zg e
  obtain⟨d,i,e2,e⟩:=Zg e
  obtain⟨r,g,b,e⟩:=Zg e
  cases e
  rw [Ab,Ab,QB (a2 c).2 b]
theorem Wg : ∀ {es}{xs},bW cf es xs=u0-> ∀e∈xs,Zb e=u0
 | .nil,xs,c=>by
  cases Af4.mp c
  intro e b;cases b
 | .cons a es,xs,c=>by
  refine kC (λx r c=> ?_) xs c
  intro e b
  rcases Ac1.mp b with rfl | b
  ·exact(a3 c).1
  ·exact Wg (a2 c).2 e b
theorem QJ : ∀ {aC}{xs},zG cf aC xs=u0->aC.length=xs.length
 | [],[],_=>rfl
 | [],_::_,h=>by simp [zG]at h
 | _::_,[],h=>by simp [zG]at h
 | j::a,x::xs,h=>by
  simp only [zG,Aa0]at h
  exact congrArg (· +1) (QJ h.2)
def zR (h:Zv e f=u0):xg e=true:=by
 refine Jp (λg x l p h=> ?_) e h
 rfl
def WV (h:c4 cf it e=u0):xg e=true:=by
 cases it with
 | seq a=>exact(a2 h).1
 | ao a=>exact zR h
 | bY a b=>exact zR h
 | rev a=>exact zR h
section
variable {Y:Ge}{F:M.Fx}{k:Nat}
def bo (b:Go Y F X E k cf) (r:PE X x (tD Y E (M.eval F m))) (a: ∀j,isTrue x X.env j=(do let v ←j;standAt x.pos;holding [v] (truthy v))):PE X x (tD Y E (M.eval F m))/\(fN m=u0->PT X x (cN Y E (M.Gm F m))):=⟨r,λ_=>Cc b r a⟩
mutual
theorem xc: ∀(m:M.E){X:Cx}{E:XK}{cf:Cf}{e:Expr},Go Y F X E k cf->Wb cf m e=u0->PE X e (tD Y E (M.eval F m))/\(fN m=u0->PT X e (cN Y E (M.Gm F m)))
 | .var i,X,E,cf,e,go,h=>by
  refine Qo (λx p h=> ?_) e h
  obtain⟨h1,h2,h3⟩:=eD h
  exact bo go (Dz go h1 h2 h3) λ_=>rfl
 | .con c,X,E,cf,e,go,h=>by
  have r:=IS go h
  obtain⟨p,rfl,_,_⟩:=ze h
  exact bo go r λ_=>rfl
 | .int i,X,E,cf,e,go,h=>by
  refine jD (λx n p h=> ?_) e h
  cases of_decide_eq_true h;exact bo go HL λ_=>rfl
 | .bl i,X,E,cf,e,go,h=>by
  refine jD (λx n p h=> ?_) e h
  cases of_decide_eq_true h;exact bo go Aq λ_=>rfl
 | .ak,X,E,cf,e,go,h=>by
  refine jD (λx n p h=> ?_) e h
  cases of_decide_eq_true h;exact bo go KW λ_=>rfl
 | .str i,X,E,cf,e,go,h=>by
  refine jD (λx n p h=> ?_) e h
  cases of_decide_eq_true h;exact bo go yI λ_=>rfl
 | .tup es,X,E,cf,e,go,h=>by
  refine mN (λx n p h=> ?_) e h
  obtain⟨h1,h2⟩:=a2 h
  exact bo go (Hq (of_decide_eq_true h1) (λτ hh ds h' q=>QB h2 q) (ib es go h2)) λ_=>rfl
 | .lst es,X,E,cf,e,go,h=>by
  refine IF (λx p h=> ?_) e h
  obtain⟨h1,h2⟩:=a2 h
  exact bo go (DY (of_decide_eq_true h1) (λτ hh ds h' q=>QB h2 q) (ib es go h2)) λ_=>rfl
 | .bin o a b,X,E,cf,e,go,h=>by
  refine KZ (λx o y p h=> ?_) e h
  obtain⟨h0,ho,h1,h2⟩:=a4 h
  cases of_decide_eq_true h0
  exact bo go (Lf go ho (xc a go h1).1 (xc b go h2).1) λ_=>rfl
 | .cmp o a b,X,E,cf,e,go,h=>by
  refine lT (λx o y p h=> ?_) e h
  refine kC (λy r h=> ?_) y h
  obtain⟨h0,ho,hs,h1,h2⟩:=a5 h
  obtain⟨rfl,rfl⟩:=of_decide_eq_true h0
  exact⟨Ej go ho hs (xc a go h1).1 (xc b go h2).1,λ_=>Ck go ho hs (xc a go h1).1 (xc b go h2).1⟩
 | .chain o q a b c,X,E,cf,e,go,h=>by
  refine lT (λx o y p h=> ?_) e h
  refine kC (λy r h=> ?_) y h
  refine kC (λz r h=> ?_) r h
  obtain⟨h0,ho,hq,hs,h1,h2,h3⟩:=a7 h
  obtain⟨rfl,rfl⟩:=of_decide_eq_true h0
  exact⟨FR go ho hq hs (xc a go h1).1 (xc b go h2).1 (xc c go h3).1,λ_=>E3 go ho hq hs (xc a go h1).1 (xc b go h2).1 (xc c go h3).1⟩
 | .fv neg a,X,E,cf,e,go,h=>by
  refine lT (λx o y p h=> ?_) e h
  refine kC (λy r h=> ?_) y h
  refine jD (λj n p h=> ?_) y h
  obtain⟨h0,h1,h2⟩:=a3 h
  obtain⟨rfl,rfl⟩:=of_decide_eq_true h0
  cases of_decide_eq_true h1
  exact⟨HD (xc a go h2).1,λ_=>AM (xc a go h2).1⟩
 | .neg a,X,E,cf,e,go,h=>by
  refine oh (λo x p h=> ?_) e h
  cases of_decide_eq_true (a2 h).1
  exact bo go (Ec (xc a go (a2 h).2).1) λ_=>rfl
 | .inv a,X,E,cf,e,go,h=>by
  refine oh (λo x p h=> ?_) e h
  cases of_decide_eq_true (a2 h).1
  exact bo go (HZ (xc a go (a2 h).2).1) λ_=>rfl
 | .not a,X,E,cf,e,go,h=>by
  refine oh (λo x p h=> ?_) e h
  cases of_decide_eq_true (a2 h).1
  exact⟨Hr go (xc a go (a2 h).2).1,λt=>IM ((xc a go (a2 h).2).2 t)⟩
 | .and a b,X,E,cf,e,go,h=>by
  refine sH (λo x p h=> ?_) e h
  refine kC (λx r h=> ?_) x h
  refine kC (λy r h=> ?_) r h
  obtain⟨h0,h1,h2⟩:=a3 h
  cases of_decide_eq_true h0
  cases r with
  | nil=>exact⟨u2 go (xc a go h1).1 (vJ (xc b go h2).1),λt=>(pN ((xc a go h1).2 (a2 t).1) (EK ((xc b go h2).2 (a2 t).2))).pt⟩
  | cons z r=>exact⟨u2 go (xc a go h1).1 (xc b go h2).1,λt=>(pN ((xc a go h1).2 (a2 t).1) (PW.eF ((xc b go h2).2 (a2 t).2))).pt⟩
 | .or a b,X,E,cf,e,go,h=>by
  refine sH (λo x p h=> ?_) e h
  refine kC (λx r h=> ?_) x h
  refine kC (λy r h=> ?_) r h
  obtain⟨h0,h1,h2⟩:=a3 h
  cases of_decide_eq_true h0
  cases r with
  | nil=>exact⟨rB go (xc a go h1).1 (vJ (xc b go h2).1),λt=>(tN ((xc a go h1).2 (a2 t).1) (DL ((xc b go h2).2 (a2 t).2))).pt⟩
  | cons z r=>exact⟨rB go (xc a go h1).1 (xc b go h2).1,λt=>(tN ((xc a go h1).2 (a2 t).1) (PW.eF ((xc b go h2).2 (a2 t).2))).pt⟩
 | .call f es,X,E,cf,e,go,h=>by
  refine Jp (λg x l p h=> ?_) e h
  refine kE (λh=> ?_) l h
  obtain⟨h1,h2,h3⟩:=a3 h
  cases x with
  | nil=>
   cases es with
   | cons _ _=>exact cn h3
   | nil=>
    have r:=CZ (pos:=p) go h1 h2
    obtain⟨p,rfl,_,_⟩:=ze h1
    exact bo go r λ_=>rfl
  | cons x r=>
   have r:=Dd (pos:=p) go h1 h2 (Wg h3) (dw es go h3)
   obtain⟨p,rfl,_,_⟩:=ze h1
   exact bo go r λ_=>rfl
 | .bi b es,X,E,cf,e,go,h=>by
  refine Jp (λg x l p h=> ?_) e h
  refine kE (λh=> ?_) l h
  refine kC (λx r h=> ?_) x h
  obtain⟨h1,h2,h3⟩:=a3 h
  have r:=BB (pos:=p) go h2 h1 (Wg h3) (dw es go h3)
  obtain⟨p,rfl,_,_⟩:=ze h1
  exact bo go r λ_=>rfl
 | .cq a t,X,E,cf,e,go,h=>by
  refine Jp (λg x l p h=> ?_) e h
  refine kE (λh=> ?_) l h
  refine kC (λx r h=> ?_) x h
  refine kC (λy r h=> ?_) r h
  refine kE (λh=> ?_) r h
  obtain⟨h1,h2,h3,h4,h5⟩:=a5 h
  have r:=Ic (pos:=p) go (of_decide_eq_true h3) h1 h2 h4 (xc a go h5).1
  obtain⟨p,rfl,_,_⟩:=ze h1
  exact bo go r λ_=>rfl
 | .ix a b,X,E,cf,e,go,h=>by
  refine fU (λx y p h=> ?_) e h
  obtain⟨h1,h2,h3⟩:=a3 h
  exact bo go (DF go h1 (xc a go h2).1 (xc b go h3).1) λ_=>rfl
 | .sl a lo hi,X,E,cf,e,go,h=>by
  refine fU (λx y p h=> ?_) e h
  refine nP (λl u z p2 h=> ?_) y h
  refine kS (λl h=> ?_) l h
  refine kS (λu h=> ?_) u h
  obtain⟨h0,h1,h2,h3⟩:=a4 h
  cases nn h0
  exact bo go (Ii go (xc a go h1).1 (xc lo go h2).1 (xc hi go h3).1) λ_=>rfl
 | .dH a lo,X,E,cf,e,go,h=>by
  refine fU (λx y p h=> ?_) e h
  refine nP (λl u z p2 h=> ?_) y h
  refine kS (λl h=> ?_) l h
  obtain⟨h0,h1,h2,h3⟩:=a4 h
  cases nn h0;cases nn h1
  exact bo go (Fd go (xc a go h2).1 (xc lo go h3).1) λ_=>rfl
 | .di a hi,X,E,cf,e,go,h=>by
  refine fU (λx y p h=> ?_) e h
  refine nP (λl u z p2 h=> ?_) y h
  refine kS (λu h=> ?_) u h
  obtain⟨h0,h1,h2,h3⟩:=a4 h
  cases nn h0;cases nn h1
  exact bo go (Ld go (xc a go h2).1 (xc hi go h3).1) λ_=>rfl
 | .comp tg one kk aC it u7 c elt,X,E,cf,e,go,h=>by
  refine sS (λy g s p h=> ?_) e h
  refine kC (λg r h=> ?_) g h
  obtain⟨t,iter,ifs,z⟩:=g
  obtain⟨h0,h1,h2,h3,h4,h5,h6⟩:=a7 h
  obtain⟨rfl,rfl⟩:=of_decide_eq_true h0
  simp only [Al1,decide_eq_true_eq]at h2
  have sc:=JH h1
  have ht: ∀C fp w H,gA (Wd X (ww cf t aC) s C fp w H) ifs (cN Y E0 (iO F u7 c)):=λC fp w H=>by
   have gc:=XA go sc C fp w H
   cases u7 with
   | true=>
    refine kC (λz r h=> ?_) ifs h6
    refine kE (λh=> ?_) r h
    exact rl ((xc c gc (a2 h).2).2 (a2 h).1)
   | false=>
    cases Af4.mp h6
    intro k8 s1 U H1 Q I ⟨G,τ,h,st,p⟩
    exact vE k8 s1 U H1 Q I (p G H1 Ext.refl st.heap)
  exact bo go (Fo go sc (QJ sc.aC) h3 h2 (WV h4) (kK it go h4) (λC fp s H=>(xc elt (XA go sc C fp s H) h5).1) ht) λ_=>rfl
 | .cZ,X,E,cf,e,go,h=>by
  refine sf (λx y p h=> ?_) e h
  cases Af4.mp (a2 h).1
  cases Af4.mp (a2 h).2
  exact bo go DB λ_=>rfl
 | .ea i a,X,E,cf,e,go,h=>by
  refine fU (λg y p h=> ?_) e h
  refine Qo (λx p1 h=> ?_) g h
  obtain⟨h0,h4,h5⟩:=a3 h
  obtain⟨h1,h2,h3⟩:=eD h0
  exact bo go (Eh go h1 h2 h3 h4 (xc a go h5).1) λ_=>rfl
 | .cg neg a i,X,E,cf,e,go,h=>by
  refine lT (λx o y p h=> ?_) e h
  refine kC (λy r h=> ?_) y h
  refine Qo (λy p1 h=> ?_) y h
  obtain⟨h0,h1,h4⟩:=a3 h
  obtain⟨rfl,rfl⟩:=of_decide_eq_true h0
  obtain⟨h1,h2,h3⟩:=eD h1
  exact⟨Hd go h1 h2 h3 (xc a go h4).1,λ_=>DG go h1 h2 h3 (xc a go h4).1⟩
 | .fA k1 a k2 b k3 c i,X,E,cf,e,go,h=>by
  refine fU (λd y p h=> ?_) e h
  refine sf (λks vs p0 h=> ?_) d h
  refine Qo (λx p1 h=> ?_) y h
  refine kC (λq1 ks h=> ?_) ks h
  refine kC (λq2 ks h=> ?_) ks h
  refine kC (λq3 ks h=> ?_) ks h
  refine kE (λh=> ?_) ks h
  refine kC (λv1 vs h=> ?_) vs h
  refine kC (λv2 vs h=> ?_) vs h
  refine kC (λv3 vs h=> ?_) vs h
  refine kE (λh=> ?_) vs h
  obtain⟨g1,g2⟩:=a2 h
  obtain⟨h0,h4,h5,h6⟩:=a4 g1
  obtain⟨h7,h8,h9,h10⟩:=a4 g2
  obtain⟨h1,h2,h3⟩:=eD h0
  exact bo go (KA go h1 h2 h3 h4 h5 h6 (of_decide_eq_true h7) (xc a go h8).1 (xc b go h9).1 (xc c go h10).1) λ_=>rfl
 | .eg i,X,E,cf,e,go,h=>by
  refine Jp (λg x l p h=> ?_) e h
  refine kE (λh=> ?_) l h
  refine kC (λx r h=> ?_) x h
  refine kE (λh=> ?_) r h
  obtain⟨h0,h1⟩:=a2 h
  refine Qo (λx p1 h=> ?_) x h1
  obtain⟨h1,h2,h3⟩:=eD h
  exact bo go (AX go h0 h1 h2 h3) λ_=>rfl
 | .share a,X,E,cf,e,go,h=>⟨E2 (xc a go h).1,λt=>cn t⟩
 | .fD s ts,X,E,cf,e,go,h=>by
  refine Jp (λg x l p h=> ?_) e h
  refine kE (λh=> ?_) l h
  refine kC (λx r h=> ?_) x h
  refine kE (λh=> ?_) r h
  refine Z5 (λo n q h=> ?_) g h
  refine jD (λc k1 p1 h=> ?_) o h
  refine jD (λc2 k2 p2 h=> ?_) x h
  obtain⟨h1,h2,h3,h4,h5⟩:=a5 h
  cases of_decide_eq_true h1
  cases of_decide_eq_true h2
  cases of_decide_eq_true h3
  exact bo go (Dp go h4 h5) λ_=>rfl
 | .fld i c f,X,E,cf,e,go,h=>by
  refine Z5 (λx n q h=> ?_) e h
  refine Qo (λx p h=> ?_) x h
  obtain⟨h,h0,h4⟩:=a3 h
  obtain⟨h1,h2,h3⟩:=eD h
  cases of_decide_eq_true h0
  exact bo go (B9 go h1 h2 h3 h4) λ_=>rfl
 | .bw i c m q es,X,E,cf,e,go,h=>by
  refine Jp (λg ys l p h=> ?_) e h
  refine kE (λh=> ?_) l h
  refine Z5 (λx n p2 h=> ?_) g h
  refine Qo (λx p1 h=> ?_) x h
  obtain⟨h,h0,h4,h6,h7,h5⟩:=a6 h
  obtain⟨h1,h2,h3⟩:=eD h
  cases of_decide_eq_true h0
  cases ys with
  | cons y ys=>exact bo go (CI go h1 h2 h3 h4 h6 (of_decide_eq_true h7) (Wg h5) (dw es go h5)) λ_=>rfl
  | nil=>
   cases es with
   | cons _ _=>exact cn h5
   | nil=>exact bo go (Hc go h1 h2 h3 h4 h6) λ_=>rfl
 | .make c q es,X,E,cf,e,go,h=>by
  refine Jp (λg x l p h=> ?_) e h
  refine kE (λh=> ?_) l h
  refine kC (λx r h=> ?_) x h
  obtain⟨h1,h2,h3⟩:=a3 h
  exact bo go (IY go h1 h2 (Wg h3) (dw es go h3)) λ_=>rfl
 | .dj m a es,X,E,cf,e,go,h=>by
  refine Jp (λg x l p h=> ?_) e h
  refine kE (λh=> ?_) l h
  refine kC (λx r h=> ?_) x h
  refine kE (λh=> ?_) r h
  refine Z5 (λo n q h=> ?_) g h
  obtain⟨h1,h2,h3,h4,h5,h6⟩:=a6 h
  cases of_decide_eq_true h1
  exact bo go (EV go h2 h3 h4 (Wg h6 _ Aa7) (xc a go h5).1 (dw es go h6)) λ_=>rfl
theorem ib: ∀(es:M.Es){X:Cx}{E:XK}{cf:Cf}{xs:List Expr},Go Y F X E k cf->bW cf es xs=u0->PA X xs (ir Y E (M.Gu F es))
 | .nil,X,E,cf,xs,go,h=>by
  cases Af4.mp h
  exact Em
 | .cons a es,X,E,cf,xs,go,h=>by
  refine kC (λx r h=> ?_) xs h
  obtain⟨h1,h2,h3⟩:=a3 h
  exact Hm h1 (xc a go h2).1 (ib es go h3)
theorem dw: ∀(es:M.Es){X:Cx}{E:XK}{cf:Cf}{xs:List Expr},Go Y F X E k cf->bW cf es xs=u0->PA X xs (fW Y E (M.Gi F es))
 | .nil,X,E,cf,xs,go,h=>by
  cases Af4.mp h
  exact DJ
 | .cons a es,X,E,cf,xs,go,h=>by
  refine kC (λx r h=> ?_) xs h
  obtain⟨h1,h2,h3⟩:=a3 h
  exact C4 h1 (xc a go h2).1 (dw es go h3)
theorem kK: ∀(it:M.It){X:Cx}{E:XK}{cf:Cf}{tg e:Expr},Go Y F X E k cf->c4 cf it e=u0->PI X tg e (fK Y E k9 (M.Gn F it))
 | .seq a,X,E,cf,tg,e,go,h=>B3 go (xc a go (a2 h).2).1
 | .ao a,X,E,cf,tg,e,go,h=>by
  refine Jp (λg x l p h=> ?_) e h
  refine kE (λh=> ?_) l h
  refine kC (λx r h=> ?_) x h
  refine kE (λh=> ?_) r h
  obtain⟨h1,h2,h3⟩:=a3 h
  exact ZG go h1 h2 (xc a go h3).1
 | .bY a b,X,E,cf,tg,e,go,h=>by
  refine Jp (λg x l p h=> ?_) e h
  refine kE (λh=> ?_) l h
  refine kC (λx r h=> ?_) x h
  refine kC (λy r h=> ?_) r h
  refine kE (λh=> ?_) r h
  obtain⟨h1,h2,h3,h4,h5⟩:=a5 h
  exact XJ go h1 h2 h3 (xc a go h4).1 (xc b go h5).1
 | .rev a,X,E,cf,tg,e,go,h=>by
  refine Jp (λg x l p h=> ?_) e h
  refine kE (λh=> ?_) l h
  refine kC (λx r h=> ?_) x h
  refine kE (λh=> ?_) r h
  obtain⟨h1,h2,h3⟩:=a3 h
  exact yl go h1 h2 (xc a go h3).1
end
end
structure Bs where
 G:Gh
 H:Hp
 h:M.AH
structure bp (Y:Ge) (B:Bs) (G:Gh) (τ:M.Sl) (h:M.AH) (U:St) (H:Hp):Prop where
 st:ar Y G τ h U H
 ext:Ext B.G B.H G H
 hr:ah Y B.G B.h B.H
 own: ∀i xs a,M.Gp τ i=k0 (.own xs)->U[i]? =k0 (k0 (.ref a))->B.H a=y0
def bc (Y:Ge) (E:XK) (B:Bs) (o:M.O) (D:iw):Prop:=match o with
 | .next τ h=> ∀G U H,bp Y B G τ h U H->D.nx U H
 | .ret w h=> ∀G v H,Ext B.G B.H G H->ah Y G h H->ai Y G H w v->aJ [] [] B.H w v->D.rt v H
 | .brk τ h=> ∀G U H,bp Y B G τ h U H->D.bk U H
 | .cont τ h=> ∀G U H,bp Y B G τ h U H->D.ct U H
 | .exc d h=> ∀G H,Ext B.G B.H G H->ah Y G h H->rY Y E d G H
 | .fail=>False
def cm (Y:Ge) (E:XK) (m:M.Sl->M.AH->M.O):TS:=λD U H=> ∃B G τ h,bp Y B G τ h U H/\bc Y E B (m τ h) D
def PS.imp {st:Stmt}(h:PS X st t) (k: ∀D U H,t' D U H->t D U H):PS X st t':=λa s U H D I q=>h a s U H D I (k _ _ _ q)
def cQ.imp {st:List Stmt}(h:cQ X st t) (k: ∀D U H,t' D U H->t D U H):cQ X st t':=λa s U H D I q=>h a s U H D I (k _ _ _ q)
section
variable {Y:Ge}{E:XK}{B:Bs}{G G1:Gh}{τ:M.Sl}{h h1:M.AH}{U:St}{H H1:Hp}{D:iw}
def bp.on (s:bp Y B G τ h U H) (e:Ext G H G1 H1) (a:ah Y G1 h1 H1):bp Y B G1 τ h1 U H1:=⟨s.st.ext e a,s.ext.trans s.hr e,s.hr,s.own⟩
theorem bc.exc (s:bp Y B G τ h U H) (p:bc Y E B (.exc d h1) D):au Y E G H (.exc d h1) P:=λa c e b=>p a c (s.ext.trans s.hr e) b
def Zc (s:bp Y B G τ h U H) (p:bc Y E B ((m τ h).cF f) D)
 (k: ∀w v h1 G1 H1,Ext G H G1 H1->bp Y B G1 τ h1 U H1->ai Y G1 H1 w v->aJ τ U H w v->bc Y E B (f w h1) D->Q v H1):tD Y E m U H Q:=by
 refine⟨G,τ,h,s.st,?_⟩
 cases q:m τ h with
 | ok w h1=>rw [q]at p;exact λG1 H1 e b v c a=>k w v h1 G1 H1 e (s.on e b) c a p
 | exc d h1=>rw [q]at p;exact bc.exc s p
 | fail=>rw [q]at p;exact p
def pG (s:bp Y B G τ h U H) (p:bc Y E B ((m τ h).cF f) D)
 (k: ∀b h1 G1 H1,Ext G H G1 H1->bp Y B G1 τ h1 U H1->bc Y E B (f b h1) D->Q b H1):cN Y E m U H Q:=by
 refine⟨G,τ,h,s.st,?_⟩
 cases q:m τ h with
 | ok w h1=>rw [q]at p;exact λG1 H1 e a=>k w h1 G1 H1 e (s.on e a) p
 | exc d h1=>rw [q]at p;exact bc.exc s p
 | fail=>rw [q]at p;exact p
theorem bp.set (l:bp Y B G τ h U H) (e:Ext G H G1 H1) (s:bp Y B G1 τ h1 U H1) (r:ai Y G1 H1 w v) (f:aJ τ U H w v) (u: ∀xs,w≠ .bor xs):bp Y B G1 (M.GC τ i w) h1 (U.set i (k0 v)) H1:=by
 refine⟨s.st.set r λq j x n e1 k a t z=> ?_,s.ext,s.hr,λj xs a e1 e2=> ?_⟩
 ·cases w with
  | v d=>cases q
  | bor xs=>exact u xs rfl
  | own xs=>
   obtain⟨b,g,m⟩:=f
   subst t
   cases g
   obtain⟨o,p⟩:=l.st.cJ e1 k z
   rw [m]at p;cases p
 ·rw [Je]at e1
  by_cases c:j=i/\i<τ.length
  ·rw [if_pos c]at e1
   cases e1
   obtain⟨rfl,c⟩:=c
   rw [Ab4 (by rw [← s.st.len];exact c)]at e2
   cases e2
   obtain⟨b,g,m⟩:=f
   cases g
   exact l.ext.none l.hr m
  ·rw [if_neg c]at e1
   have n:=λz=>c ⟨z,by subst z;exact qo e1⟩
   rw [Ae (Ne.symm n)]at e2
   exact s.own j xs a e1 e2
def bp.fz (a:bp Y B G τ h U H) (e:Ext G H G1 H1) (s:bp Y B G1 τ h1 U H1) (r:ai Y G1 H1 w v) (f:aJ τ U H w v) (b:w.d=k0 d): ∃G2,Ext G H G2 H1/\bp Y B G2 τ h1 U H1/\aA Y G2 H1 d v:=by
 obtain⟨G2,e2,c,rd,_⟩:=nB e s.st a.st r f b
 exact⟨G2,e2,⟨c,a.ext.trans a.hr e2,s.hr,s.own⟩,rd⟩
def bp.ez (s:bp Y B G τ h U H) (r:aA Y G H d v):bp Y B G (M.GC τ i (.v d)) h (U.set i (k0 v)) H:=bp.set s Ext.refl s r trivial λa z=>by cases z
theorem bp.aL: ∀ {is}{ds}{vs}{τ j}{U},M.aL is ds τ=k0 j->aa Y G H ds vs->bp Y B G τ h U H->bp Y B G j h (gd is vs U) H/\is.length=vs.length
 | [],[],_,_,_,_,e,rfl,s=>by cases e;exact⟨s,rfl⟩
 | [],_::_,_,_,_,_,e,_,_=>by simp [M.aL]at e
 | _::_,[],_,_,_,_,e,_,_=>by simp [M.aL]at e
 | i::is,d::ds,_,_,_,_,e,⟨v,r,rfl,f,c⟩,s=>by
  obtain⟨a,b⟩:=bp.aL (by simpa [M.aL]using e) c (s.ez f)
  exact⟨a,congrArg (· +1) b⟩
def sQ (e:M.Gv tg one d τ=k0 τ') (r:aA Y G H d x) (s:bp Y B G τ h U H) (c: ∀j,bp Y B G τ' h j H->Q j H):gM Y tg one x U H Q:=by
 cases one with
 | true=>
  cases tg with
  | nil=>cases e
  | cons i f=>
   cases f with
   | cons _ _=>cases e
   | nil=>
    cases e
    exact⟨i,rfl,c _ (s.ez r)⟩
 | false=>
  cases d with
  | tup l=>
   obtain⟨a,m,rfl,g,b⟩:=r
   obtain⟨n,k⟩:=bp.aL (e) b s
   exact⟨G,l,m,a,rfl,g,b,k,c _ n⟩
  | _=>cases e
def bp.write (s:bp Y B G τ h U H) (m:M.Gp τ i=k0 (.own xs)) (n:U[i]? =k0 (k0 (.ref a))) (r:aa Y G H ys us):bp Y B G (M.GC τ i (.own ys)) h U (aR H a (.lst us)):=by
 obtain⟨O,of,vs,Z,_⟩:=Zm s.st m n
 have P:=s.own i xs a m n
 have mon:Mon G H G (aR H a (.lst us)):=⟨λb o z q=>by rw [Ja (λe:b=a=>O (e▸z))];exact q,Aa8 _,λ_ _=>rfl,λ_ z=>z⟩
 have X:=qo m
 have I:ah Y G h (aR H a (.lst us)):=by
  refine⟨s.st.heap.len,λq c e=>⟨(s.st.heap.any q c e).1,(s.st.heap.any q c e).2.mon mon λo z=>by rw [Ja (of q (s.st.heap.lt e))];exact z⟩,s.st.heap.inj,λb z=> ?_⟩
  obtain⟨o,q⟩:=s.st.heap.live b z
  exact⟨o,by rw [Ja (λe:b=a=>O (e▸z))];exact q⟩
 refine⟨⟨by rw [Qm];exact s.st.len,λj w e=> ?_,λp q F w b L f g S T=> ?_,I⟩,⟨λb o q J=> ?_,s.ext.le,s.ext.aO,s.ext.new,s.ext.fz,s.ext.old,λq x z=> ?_⟩,s.hr,λj F b f g=> ?_⟩
 ·rw [Je]at e
  by_cases c:j=i/\i<τ.length
  ·rw [if_pos c]at e
   cases e
   obtain⟨rfl,_⟩:=c
   exact⟨.ref a,n,a,us,rfl,O,of,qd,r.mon mon⟩
  ·rw [if_neg c]at e
   have Q:=λz=>c ⟨z,by subst z;exact qo e⟩
   obtain⟨v,E,A⟩:=s.st.slot j w e
   refine⟨v,E,?_⟩
   cases w with
   | v d=>exact aA.mon mon A
   | own V=>
    obtain⟨b,bs,rfl,R,N,k,K⟩:=A
    have t:b≠a:=λz=>s.st.apart i j xs _ a (Ne.symm Q) m e rfl n (z▸E)
    exact⟨b,bs,rfl,R,N,by rw [Ja t];exact k,K.mon mon⟩
   | bor V=>
    obtain⟨b,bs,rfl,N,k,K⟩:=A
    have t:b≠a:=λz=>s.st.apart i j xs _ a (Ne.symm Q) m e rfl n (z▸E)
    refine⟨b,bs,rfl,N,?_,K.mon mon⟩
    obtain k | ⟨o,k⟩:=k
    ·exact .inl (by rw [Ja t];exact k)
    ·exact .inr ⟨o,by rw [Ja t];exact k⟩
 ·rw [Je]at f g
  have y: ∃l,M.Gp τ p=k0 (.own l):=by
   by_cases c:p=i/\i<τ.length
   ·exact⟨xs,by rw [c.1];exact m⟩
   ·rw [if_neg c]at f;exact⟨F,f⟩
  have D: ∃u,M.Gp τ q=k0 u/\gi u=true:=by
   by_cases c:q=i/\i<τ.length
   ·exact⟨.own xs,by rw [c.1];exact m,rfl⟩
   ·rw [if_neg c]at g;exact⟨w,g,S⟩
  obtain⟨l,y⟩:=y
  obtain⟨u,D,C⟩:=D
  exact s.st.apart p q l u b L y D C T
 ·rw [Ja (λe:b=a=>by rw [e,P]at q;cases q)]
  exact s.ext.keep b o q J
 ·obtain⟨o,W⟩:=s.ext.cells q x z
  have:B.G.aO q≠a:=λe=>by
   have:=of q (Ab3 x s.ext.le)
   rw [s.ext.aO q x]at this
   exact this e
  exact⟨o,by rw [Ja this];exact W⟩
 ·rw [Je]at f
  by_cases c:j=i/\i<τ.length
  ·obtain⟨rfl,_⟩:=c
   rw [n]at g
   cases g
   exact P
  ·rw [if_neg c]at f;exact s.own j F b f g
theorem WA: ∀(xs) (n){d},M.Gf xs=u0->M.Gc d=u0->M.Gf (xs.set n d)=u0
 | [],_,_,_,_=>rfl
 | x::xs,0,d,h,a=>by
  have h:=h
  rw [Aa0]at h
  show(M.Gc d&&M.Gf xs)=u0
  rw [a,h.2];rfl
 | x::xs,n+1,d,h,a=>by
  have h:=h
  rw [Aa0]at h
  show(M.Gc x&&M.Gf (xs.set n d))=u0
  rw [h.1,WA xs n h.2 a];rfl
def bp.fG (s:bp Y B G τ h U H) (p:h[r]? =k0 c0) (z:bC Y G (aR H (G.aO r) o1) (G.aO r) c1):bp Y B G τ (h.set r c1) U (aR H (G.aO r) o1):=by
 have y:=(Aa1.mp p).1
 have f:=s.st.heap.lt p
 have n:=s.st.heap.kG f
 have mon:Mon G H G (aR H _ o1):=⟨λb o w q=>by rw [Ja (λe:b=G.aO r=>n (e▸w))];exact q,Aa8 _,λ_ _=>rfl,λ_ w=>w⟩
 have l:ah Y G (h.set r c1) (aR H (G.aO r) o1):=by
  refine⟨by rw [Ad2];exact s.st.heap.len,λq c e=> ?_,s.st.heap.inj,λb w=> ?_⟩
  ·by_cases c:q=r
   ·subst c
    rw [Ab4 y]at e
    cases e
    exact⟨n,z⟩
   ·rw [Ae (Ne.symm c)]at e
    exact⟨(s.st.heap.any q _ e).1,(s.st.heap.any q _ e).2.mon mon λo w=>by rw [Ja λx=>c (s.st.heap.inj q r (s.st.heap.lt e) f x)];exact w⟩
  ·obtain⟨o,q⟩:=s.st.heap.live b w
   exact⟨o,by rw [Ja (λe:b=G.aO r=>n (e▸w))];exact q⟩
 refine⟨⟨s.st.len,λj w e=> ?_,s.st.apart,l⟩,⟨λb o q i=> ?_,s.ext.le,s.ext.aO,s.ext.new,s.ext.fz,s.ext.old,λq t w=> ?_⟩,s.hr,s.own⟩
 ·obtain⟨v,C,k⟩:=s.st.slot j w e
  refine⟨v,C,?_⟩
  cases w with
  | v d=>exact aA.mon mon k
  | own E=>
   obtain⟨b,bs,rfl,u,g,a,m⟩:=k
   exact⟨b,bs,rfl,u,g,by rw [Ja (Ne.symm (g r f))];exact a,m.mon mon⟩
  | bor E=>
   obtain⟨b,bs,rfl,g,a,m⟩:=k
   refine⟨b,bs,rfl,g,?_,m.mon mon⟩
   obtain a | ⟨o,a⟩:=a
   ·exact .inl (by rw [Ja (Ne.symm (g r f))];exact a)
   ·exact .inr ⟨o,by rw [Ja (Ne.symm (g r f))];exact a⟩
 ·have A:b≠G.aO r:=λe=>by
   by_cases c:r<B.G.n
   ·exact i r c (by rw [← s.ext.aO r c];exact e.symm)
   ·have:=s.ext.new r (Nat.not_lt.mp c) f
    rw [← e,q]at this
    cases this
  rw [Ja A]
  exact s.ext.keep b o q i
 ·by_cases c:B.G.aO q=G.aO r
  ·exact⟨_,by rw [c];exact qd⟩
  ·obtain⟨o,D⟩:=s.ext.cells q t w
   exact⟨o,by rw [Ja c];exact D⟩
def ZP (c:ah Y G h H) (a:r<G.n) (o):Mon G H G (aR H (G.aO r) o):=⟨λb o w q=>by rw [Ja (λe:b=G.aO r=>c.kG a (e▸w))];exact q,Aa8 _,λ_ _=>rfl,λ_ w=>w⟩
def bp.cell (s:bp Y B G τ h U H) (a:h[r]? =k0 (.lst xs)) (b:M.Gf ys=u0) (z:aa Y G H ys us):bp Y B G τ (h.set r (.lst ys)) U (aR H (G.aO r) (.lst us)):=
 s.fG a ⟨b,us,qd,z.mon (ZP s.st.heap (s.st.heap.lt a) _)⟩
def bp.gX (s:bp Y B G τ h U H) (a:h[r]? =k0 (.obj c0 xs)) (b:M.Gf (ys.map (·.2))=u0) (z:aa Y G H (ys.map (·.2)) us):bp Y B G τ (h.set r (.obj c0 ys)) U (aR H (G.aO r) (.ins (Y.ca c0) dx0 ((ys.map λp=>Str.ofString p.1).zip us))):=
 s.fG a ⟨b,dx0,us,qd,z.mon (ZP s.st.heap (s.st.heap.lt a) _)⟩
def bp.freeze (s:bp Y B G τ h U H) (m:M.Gp τ i=k0 (.own xs)): ∃G',bp Y B G' (M.GC τ i (.v (.lst xs))) h U H:=by
 obtain⟨v,e2,a,y,rfl,E,of,n,u⟩:=s.st.slot i _ m
 have x:=s.own i xs a m e2
 refine⟨G.more a,⟨⟨by rw [Qm];exact s.st.len,λj w e=> ?_,λp q k w b l d f g D=> ?_,s.st.heap.more of ⟨_,n⟩⟩,s.ext.more x,s.hr,λj k b d f=> ?_⟩⟩
 ·rw [Je]at e
  by_cases c:j=i/\i<τ.length
  ·rw [if_pos c]at e
   cases e
   obtain⟨rfl,_⟩:=c
   exact⟨.ref a,e2,a,y,rfl,.inl ⟨.inr rfl,.inl n⟩,u.mon (Xm a)⟩
  ·rw [if_neg c]at e
   have C:=λz=>c ⟨z,by subst z;exact qo e⟩
   obtain⟨v,r,t⟩:=s.st.slot j w e
   exact⟨v,r,t.more λg A=>s.st.apart i j xs w a (Ne.symm C) m e g e2 (A▸r)⟩
 ·rw [Je]at d f
  by_cases c:p=i/\i<τ.length
  ·rw [if_pos c]at d;cases d
  ·rw [if_neg c]at d
   by_cases o:q=i/\i<τ.length
   ·rw [if_pos o]at f;cases f;cases g
   ·rw [if_neg o]at f;exact s.st.apart p q k w b l d f g D
 ·rw [Je]at d
  by_cases c:j=i/\i<τ.length
  ·rw [if_pos c]at d;cases d
  ·rw [if_neg c]at d;exact s.own j k b d f
end
structure lr (Y:Ge) (F:M.Fx) (X:Cx) (E:XK) (k:Nat) (cf:Cf):Prop extends Go Y F X E k cf where
 hM:PassesOwn (model X.prog X.w) X.A X.env X.xe
 lF:X.stack=X.env::X.outer
 CW:X.env.frame=k0 X.env.locals
 ex:X.ex= []
section
variable {Y:Ge}{F:M.Fx}{X:Cx}{E:XK}{k:Nat}{cf:Cf}
def qJ (h:jE cf i x=u0):cf.N[i]? =k0 x/\iF cf.sc x=true:=by
 simpa [jE]using h
def yX (u:tD Y E (M.eval F (.share a)) U H Q):tD Y E (M.eval F a) U H Q:=by
 obtain⟨G,B,h,s,p⟩:=u
 refine Xa s.heap Ext.refl s p λm v1 c f z e1 o i w j b=> ?_
 cases m with
 | own e=>
  obtain⟨l,A,rfl,k,r,q,t⟩:=w
  obtain⟨y,x,n⟩:=j
  cases x
  have b:au Y E G H (if M.Gf e=u0 then M.aD _ (c++ [.lst e])else .fail) _:=b
  by_cases g:M.Gf e=u0
  rotate_left
  ·rw [if_neg g]at b;exact b.elim
  rw [if_pos g]at b
  refine au.val b (xz e1 n) (wX i.heap k r q t g) ?_ trivial
  show c.length<f.n+1/\V.ref l= .ref (if c.length=f.n then l else f.aO c.length)
  rw [i.heap.len,if_pos rfl]
  exact⟨Af5 _,rfl⟩
 | v d=>exact b.elim
 | bor e=>exact b.elim
def Qg (h:xj v=u0):swapsWith v t l env=pure false:=by
 cases v<;>first | rfl | (simp [xj]at h)
def Z0 (b:Go Y F X E k cf)(a:jE cf i x=u0) (c:PE X v (tD Y E (M.eval F m))) (e:swapsWith v (k0 (.Name x p)) pos.line X.env=pure k9):
 PS X (.Assign [.Name x p] v pos) (gK (tD Y E (M.eval F m)) (JT i)):=by
 obtain⟨d,f⟩:=qJ a
 have a:=b.hZ x f
 exact BF (by rw [b.N];exact b.nd) (by rw [b.N];exact d) a.1 c e a.2
def uw:M.E->Bool
 | .share _=>u0
 | .comp .. =>u0
 | _=>k9
def Fh (h:Wb cf m v=u0) (a:uw m=k9):xj v=true:=by
 cases v with
 | ListComp _ _ _ _=>cases m<;>first | exact cn h | (exact absurd (a) Ap)
 | SetComp _ _ _ _=>cases m<;>first | exact cn h | (exact absurd (a) Ap)
 | DictComp _ _ _ _ _=>cases m<;>first | exact cn h | (exact absurd (a) Ap)
 | _=>rfl
def El (d:Cf) (a:Bool) (b:List Expr) (c:M.E):Bool:=bif a then(lC b λz r=>kZ r (fN c&&Wb d c z))else b.isEmpty
def yR (h:Wb cf (.comp tg one kk aC it u7 c elt) v=u0): ∃y t iter ifs scope p0,v= .ListComp y [⟨t,iter,ifs,0⟩] scope p0 ∧
 kl cf scope (ww cf t aC) kk aC/\(∀ i∈tg,i<kk)/\Xe { cf with sc:=scope,N:=ww cf t aC } tg one t=u0/\c4 cf it iter=u0/\Wb { cf with sc:=scope,N:=ww cf t aC } elt y=u0 ∧
 El { cf with sc:=scope,N:=ww cf t aC } u7 ifs c=true:=by
 refine sS (λy g s p h=> ?_) v h
 refine kC (λg r h=> ?_) g h
 obtain⟨t,iter,ifs,z⟩:=g
 obtain⟨k,f,a,j,e,b,d⟩:=a7 h
 obtain⟨rfl,rfl⟩:=of_decide_eq_true k
 simp [decide_eq_true_eq]at a
 exact⟨y,t,iter,ifs,s,p,rfl,JH f,a,j,e,b,d⟩
def Dw (e:Go Y F X E k cf)(q:jE cf i x=u0)(h:Wb cf (.comp tg one kk aC it u7 c elt) v=u0):
 PS X (.Assign [.Name x p] v pos) (gK (tD Y E (M.eval F (.comp tg one kk aC it u7 c elt))) (JT i)):=by
 have O:=(xc _ e h).1
 obtain⟨y,t,j,d,a,K,rfl,l,P,J,n,w,m⟩:=yR h
 obtain⟨b,u⟩: ∃b,swapsWith (.ListComp y [⟨t,j,d,0⟩] a K) (k0 (.Name x p)) pos.line X.env=pure b:=⟨_,rfl⟩
 cases b with
 | false=>exact Z0 e q O u
 | true=>
  obtain⟨R,A⟩:=qJ q
  have B: ∀C f s H,gA (Wd X _ a C f s H) d (cN Y E0 (iO F u7 c)):=λC f s H=>by
   have L:=XA e l C f s H
   cases u7 with
   | true=>
    refine kC (λz r h=> ?_) d m
    refine kE (λh=> ?_) r h
    exact rl ((xc c L (a2 h).2).2 (a2 h).1)
   | false=>
    cases Af4.mp m
    intro g N U o Q I ⟨G,S,h,D,p⟩
    exact vE g N U o Q I (p G o Ext.refl D.heap)
  exact w6 e R A u l (QJ l.aC) J P (WV n) (kK it e n) (λC f s H=>(xc elt (XA e l C f s H) w).1) B
def Xb (a:Go Y F X E k cf)(b:jE cf i x=u0)(h:Wb cf m v=u0) (c:uw m=k9):PS X (.Assign [.Name x p] v pos) (gK (tD Y E (M.eval F m)) (JT i)):=
 Z0 a b (xc m a h).1 (Qg (Fh h c))
theorem oo (c:Go Y F X E k cf)(b:jE cf i x=u0): ∀ m,Wb cf m v=u0->PS X (.Assign [.Name x p] v pos) (gK (tD Y E (M.eval F m)) (JT i))
 | .share a,h=>PS.imp (oo c b a h) λD U H q=>yX q
 | .comp ..,h=>Dw c b h
 | .cZ,h=>Xb c b h rfl
 | .ea ..,h=>Xb c b h rfl
 | .cg ..,h=>Xb c b h rfl
 | .eg _,h=>Xb c b h rfl
 | .fA ..,h=>Xb c b h rfl
 | .var _,h=>Xb c b h rfl
 | .con _,h=>Xb c b h rfl
 | .int _,h=>Xb c b h rfl
 | .bl _,h=>Xb c b h rfl
 | .ak,h=>Xb c b h rfl
 | .str _,h=>Xb c b h rfl
 | .tup _,h=>Xb c b h rfl
 | .lst _,h=>Xb c b h rfl
 | .bin ..,h=>Xb c b h rfl
 | .cmp ..,h=>Xb c b h rfl
 | .chain ..,h=>Xb c b h rfl
 | .fv ..,h=>Xb c b h rfl
 | .neg _,h=>Xb c b h rfl
 | .inv _,h=>Xb c b h rfl
 | .not _,h=>Xb c b h rfl
 | .and ..,h=>Xb c b h rfl
 | .or ..,h=>Xb c b h rfl
 | .call ..,h=>Xb c b h rfl
 | .bi ..,h=>Xb c b h rfl
 | .cq ..,h=>Xb c b h rfl
 | .ix ..,h=>Xb c b h rfl
 | .sl ..,h=>Xb c b h rfl
 | .dH ..,h=>Xb c b h rfl
 | .di ..,h=>Xb c b h rfl
 | .fD ..,h=>Xb c b h rfl
 | .dj ..,h=>Xb c b h rfl
 | .fld ..,h=>Xb c b h rfl
 | .bw ..,h=>Xb c b h rfl
 | .make ..,h=>Xb c b h rfl
def BK (o:Go Y F X E k cf)(n:jE cf i x=u0)(h:Wb cf m v=u0):PS X (.Assign [.Name x p] v pos) (cm Y E (M.exec F (.set i m))):=by
 refine PS.imp (oo o n m h) λD U H l=> ?_
 obtain⟨B,G,t,h,s,p⟩:=l
 refine Zc s p λw v q c e e1 j g b a=> ?_
 cases w with
 | bor f=>exact a.elim
 | v d=>exact a c _ e (bp.set s e1 j g b λf z=>by cases z)
 | own r=>exact a c _ e (bp.set s e1 j g b λf z=>by cases z)
def Lp (j:Go Y F X E k cf)(g:jE cf i x=u0)(h:Wb cf m v=u0):PS X (.Assign [.Name x p] v pos) (cm Y E (M.exec F (.ag i m))):=by
 refine PS.imp (oo j g m h) λD U H c=> ?_
 obtain⟨B,G,u,h,s,p⟩:=c
 refine Zc s p λw v r t f e1 o n b a=> ?_
 cases q:w.d with
 | none=>rw [q]at a;exact a.elim
 | some d=>
  rw [q]at a
  obtain⟨l,e2,e,rd⟩:=bp.fz s e1 o n b q
  exact a l _ f (e.ez rd)
def JJ :swapsWithSole [.Tuple ts n p] v l env=pure false:=by
 cases v<;>rfl
def Zu (h:Xf v=u0):swappedStores [.Tuple ts n p] v env=pure none:=by
 cases v<;>first | rfl | (simp [Xf]at h)
def B6 (f:Go Y F X E k cf)(i:Wm cf is ts=u0) (t:Xf v=u0)(h:Wb cf m v=u0):PS X (.Assign [.Tuple ts n p] v pos) (cm Y E (M.exec F (.fB is m))):=by
 refine PS.imp (qI (xc m f h).1 (Jx f (one:=k9) i) JJ (Zu t) rfl) λD U H g=> ?_
 obtain⟨B,G,e,h,s,p⟩:=g
 refine Zc s p λw v l o r e1 y u z a=> ?_
 cases w with
 | v d=>
  cases d with
  | tup c=>
   have a:bc Y E B (match M.aL is c e with | some b=> .next b l | none=> .fail) D:=a
   cases q:M.aL is c e with
   | none=>rw [q]at a;exact a.elim
   | some b=>
    rw [q]at a
    exact sQ (show M.Gv is k9 (.tup c) e=k0 b from q) u y λj x=>a o j r x
  | _=>exact a.elim
 | own _=>exact a.elim
 | bor _=>exact a.elim
def FJ (f:Go Y F X E k cf)(j:Wm cf is ts=u0) (y:Xf v=u0)(h:Wb cf m v=u0):PS X (.Assign [.Tuple ts n p] v pos) (cm Y E (M.exec F (.fM is m))):=by
 refine PS.imp (qI (xc m f h).1 (yn f j) JJ (Zu y) rfl) λD U H i=> ?_
 obtain⟨B,G,g,h,s,p⟩:=i
 refine Zc s p λw v l o r e1 I A J b=> ?_
 cases w with
 | v d=>exact b.elim
 | bor _=>exact b.elim
 | own e=>
  have b:bc Y E B (match M.aL is e g with | some c=> .next c l | none=> .fail) D:=b
  cases q:M.aL is e g with
  | none=>rw [q]at b;exact b.elim
  | some c=>
   rw [q]at b
   obtain⟨a,u,rfl,K,L,x,z⟩:=A
   obtain⟨C,t⟩:=bp.aL q z I
   exact⟨a,u,rfl,bz.of x,t,b o _ r C⟩
def Qw :swapsWithSole [.Subscript x y p] v l env=pure false:=by
 cases v<;>rfl
def qs :swappedStores [.Subscript x y p] v env=pure none:=by
 cases v<;>rfl
def WJ (a:jc y=u0) (v):assign (.Subscript x y p) env v=(do
 let j ←holding [v] (eval x env)
 let J ←holding [v,j] (eval y env)
 standAt p
 holding [v,j,J] (setItem j J v)
 release [v,j,J] []):=by
 cases y<;>first | rfl | (simp [jc]at a)
def xE (a:M.GI d=u0) (z:aA Y G H d v):aA Y G' H' d v:=by
 cases d with
 | ak=>exact z
 | bl _=>exact z
 | int _=>exact z
 | str _=>exact z
 | _=>exact absurd (a) Ab2
def JN (a:M.GI d=u0):M.Gc d=true:=by
 cases d<;>first | rfl | exact absurd (a) Ab2
def j7 (c:Go Y F X E k cf)(J:jc y=u0)(I:Wb cf o x=u0) (K:Wb cf kx y=u0) (h:Wb cf m v=u0):PS X (.Assign [.Subscript x y p] v pos) (cm Y E (M.exec F (.bS o kx m))):=by
 refine PS.imp (qI (xc m c h).1 (xT (xc o c I).1 (xc kx c K).1 jF (WJ J)) Qw qs rfl) λD U H t=> ?_
 obtain⟨B,G,τ,h,s,p⟩:=t
 refine Zc s p λw v h1 G1 H1 e1 N L T O=> ?_
 refine Zc N O λow V h2 G2 H2 e2 f S W Q=> ?_
 refine Zc f Q λkw iv h3 g l R e z f3 a=> ?_
 unfold M.Kj at a
 split at a
 ·rename_i d r j
  split at a
  ·rename_i b q
   split at a
   ·rename_i n C
    split at a
    ·rename_i i
     obtain⟨Z,u⟩:=(ai.ext R f.st.heap S)
     subst u
     cases (z)
     have rd:aA Y g l d v:=xE i L
     obtain⟨_,A,P,rv⟩:=e.st.heap.cell r b q
     refine⟨_,A,j,n,rfl,rfl,P,by rw [← rv.length];exact C,?_⟩
     exact a g U _ (e.cell q (WA b n (e.st.heap.pure r b q) (JN i)) (aa.set rd n rv))
    ·exact a.elim
   ·exact a.elim
  ·exact a.elim
 ·exact a.elim
def E4 (h:M.fq w=k0 (a,b)):w= .v (.tup [a,b]):=by
 unfold M.fq at h
 split at h
 ·cases h;rfl
 ·cases h
def BR (f:Go Y F X E k cf)(hy:jc y=u0) (V:Xf v=u0) (hj:jE cf j a=u0)(K:Wb cf o x=u0) (N:Wb cf kx y=u0) (h:Wb cf m v=u0):PS X (.Assign [.Tuple [.Subscript x y p,.Name a pa] n pt] v pos) (cm Y E (M.exec F (.fH o kx j m))):=by
 obtain⟨j1,j2⟩:=qJ hj
 have J:=f.hZ a j2
 refine PS.imp (qI (xc m f h).1 (uk f.calm (qS (xT (xc o f K).1 (xc kx f N).1 jF (WJ hy)) (qS (X6 (by rw [f.N];exact f.nd) (by rw [f.N];exact j1) J.1 J.2) sJ))) JJ (Zu V) rfl) λD U H qq=> ?_
 obtain⟨B,G,τ,h,s,p⟩:=qq
 refine Zc s p λw v h1 G1 H1 e1 W r1 f1 l=> ?_
 cases C:M.fq w with
 | none=>rw [C]at l;exact l.elim
 | some dd=>
  obtain⟨L,d2⟩:=dd
  cases E4 C
  obtain⟨b,A,rfl,P,v1,r',rfl,z3,v2,Z,rfl,T,rfl⟩:=(r1)
  refine⟨b,[v1,v2],rfl,f.K▸P.sq,rfl,v1,[v2],rfl,?_⟩
  refine Zc W l λow ov h2 G2 H2 e2 u r2 f2 p2=> ?_
  refine Zc u p2 λR iv h3 z O e3 i Q f3 e=> ?_
  split at e
  rotate_left
  ·exact e.elim
  rename_i t
  cases c:M.Kj _ ow R τ h3 with
  | next τ' h'=>
   rw [c]at e
   unfold M.Kj at c
   split at c
   ·rename_i d r j' e1
    cases e1
    split at c
    ·rename_i g q
     split at c
     ·rename_i n S
      split at c
      ·rename_i I
       cases c
       obtain⟨h4,h5⟩:=(ai.ext e3 u.st.heap r2)
       subst h5
       cases (Q)
       have rd:aA Y z O L v1:=xE I z3
       obtain⟨_,A,hv,rv⟩:=i.st.heap.cell r g q
       refine⟨_,A,j',n,rfl,rfl,hv,by rw [← rv.length];exact S,?_⟩
       have s4:=i.cell q (WA g n (i.st.heap.pure r g q) (JN I)) (aa.set rd n rv)
       exact⟨v2,[],rfl,rfl,e z _ _ (s4.ez (xE t T))⟩
      ·cases c
     ·cases c
    ·cases c
   ·cases c
  | ret _ _=>rw [c]at e;exact e.elim
  | brk _ _=>rw [c]at e;exact e.elim
  | cont _ _=>rw [c]at e;exact e.elim
  | exc _ _=>rw [c]at e;exact e.elim
  | fail=>rw [c]at e;exact e.elim
def J9 (h:xU cf i m e y7=u0): ∃x p apos,e= .Attribute (.Name x p) m apos/\cf.N[i]? =k0 x/\qK cf.sc x=u0/\bx x=u0/\(apos.endLine==y7.line)=true:=by
 refine Z5 (λx n q h=> ?_) e h
 refine Qo (λx p h=> ?_) x h
 obtain⟨h,d,f⟩:=a3 h
 obtain⟨a,c,b⟩:=eD h
 cases of_decide_eq_true d
 exact⟨_,_,_,rfl,a,c,b,f⟩
def Li (l:Go Y F X E k cf)(R:xU cf i "append" f y7=true) (o:Zb v=true)(h:Wb cf m v=true):PS X (.Expr (.Call f [v] [] y7) pos) (cm Y E (M.exec F (.app i m))):=by
 obtain⟨x,p,z,rfl,j,S,c,I⟩:=J9 R
 unfold bx at c
 rw [Aa0]at c
 have pv:=XD (pos:=p) (by rw [l.N];exact j) (l.gu x S) (by simpa using c.1) (by simpa using c.2)
 refine PS.imp (j6 (vO PySem.F.plainAttrs_list PySem.F.slot_list_append PySem.F.type_list_append yJ pv (qg (xc m l h).1 Jn (Wa o)) rfl (by rw [Wa o];rfl) I (Wa o) rfl) (Qg rfl)) λD U H C=> ?_
 obtain⟨B,G,T,h,s,p⟩:=C
 rw [M.exec]at p
 cases q:M.Gp T i with
 | none=>rw [q]at p;exact p.elim
 | some V=>
  rw [q]at p
  cases V with
  | v d=>exact p.elim
  | bor n=>exact p.elim
  | own n=>
   obtain⟨v0,e,a,K,rfl,W,z3,L,z5⟩:=s.st.slot i _ q
   refine⟨.ref a,e,.inl ⟨rfl,K,bz.of L⟩,?_⟩
   refine Zc s p λw v j Z H1 e1 Q O A b=> ?_
   cases g:w.d with
   | none=>rw [g]at b;exact b.elim
   | some d=>
    rw [g]at b
    obtain⟨N,e2,u,rd⟩:=bp.fz s e1 Q O A g
    have b:bc Y E B (if n.length<M.ba then .next _ j else .fail) D:=b
    by_cases y:n.length<M.ba
    ·rw [if_pos y]at b
     obtain⟨nf,of,P,J,r⟩:=Zm u.st q e
     have t:=r.length
     exact⟨a,P,v,rfl,rfl,J,by have:=Xi;lia,b N U _ (u.write q e (r.append ⟨v,[],rfl,rd,rfl⟩))⟩
    ·rw [if_neg y]at b;exact b.elim
def AF (o:Go Y F X E k cf)(V:xU cf i "extend" f y7=true) (y:Zb v=true)(h:Wb cf m v=true):PS X (.Expr (.Call f [v] [] y7) pos) (cm Y E (M.exec F (.ext i m))):=by
 obtain⟨x,p,J,rfl,l,W,g,L⟩:=J9 V
 unfold bx at g
 rw [Aa0]at g
 have pv:=XD (pos:=p) (by rw [o.N];exact l) (o.gu x W) (by simpa using g.1) (by simpa using g.2)
 refine PS.imp (j6 (vO PySem.F.plainAttrs_list PySem.F.slot_list_extend PySem.F.type_list_extend yd pv (qg (xc m o h).1 Jn (Wa y)) rfl (by rw [Wa y];rfl) L (Wa y) rfl) (Qg rfl)) λD U H K=> ?_
 obtain⟨B,G,Z,h,s,p⟩:=K
 rw [M.exec]at p
 cases q:M.Gp Z i with
 | none=>rw [q]at p;exact p.elim
 | some w0=>
  rw [q]at p
  cases w0 with
  | v d=>exact p.elim
  | bor u=>exact p.elim
  | own u=>
   obtain⟨v0,j,a,Q,rfl,z2,z3,R,z5⟩:=s.st.slot i _ q
   refine⟨.ref a,j,.inl ⟨rfl,Q,bz.of R⟩,?_⟩
   refine Zc s p λw v l O H1 e1 I S f1 c=> ?_
   cases w with
   | v d=>exact c.elim
   | bor t=>exact c.elim
   | own t=>
    obtain⟨b,r,rfl,_,_,P,e⟩:=S
    have c:bc Y E B (if u.length+t.length<M.ba then .next _ l else .fail) D:=c
    by_cases C:u.length+t.length<M.ba
    ·rw [if_pos C]at c
     obtain⟨nf,of,T,N,z⟩:=Zm I.st q j
     have A:=z.length
     have n:=e.length
     exact⟨a,b,T,r,rfl,rfl,N,P,by have:=Xi;lia,c O U _ (I.write q j (z.append e))⟩
    ·rw [if_neg C]at c;exact c.elim
def W3 (a:Go Y F X E k cf)(h1:cf.N[i]? =k0 x) (L:qK cf.sc x=u0) (I:bx x=u0) (l:cf.ob.fl.contains (c,f)=u0) (K:xj v=u0) (h:Wb cf m v=u0):PS X (.Assign [.Attribute (.Name x j) (jg f) p2] v pos) (cm Y E (M.exec F (.bR i c f m))):=by
 refine PS.imp (tJ (Zj a h1 L I) (xc m a h).1 (Qg K)) λD U H t=> ?_
 obtain⟨B,G,R,h,s,p⟩:=t
 refine Zc s p λw v h1 g T e1 e J S j=> ?_
 cases w with
 | own _=>exact j.elim
 | bor _=>exact j.elim
 | v d=>
  cases q:M.GV h1 (M.Gp R i)with
  | none=>rw [q]at j;exact j.elim
  | some o=>
   obtain⟨r,u,fs⟩:=o
   rw [q]at j
   dsimp only at j
   split at j
   ·rename_i N
    obtain⟨rfl,z,V⟩:=N
    obtain⟨e2,n⟩:=wB q
    obtain⟨Z,O,y,W,A,P⟩:=e.st.heap.obj r _ fs n
    obtain⟨C,b,Q⟩:=xS (J) P
    refine⟨_,Wv e.st q,g.aO r,Y.ca u,y,_,rfl,A,(a.fld _ _ l).1,(a.fld _ _ l).2,?_,?_⟩
    ·rw [Al3,Aa];lia
    ·rw [Q]
     exact j g U _ (e.gX n (X2 z O) b)
   ·exact j.elim
def JU (a:Go Y F X E k cf)(h1:cf.N[i]? =k0 x) (P:qK cf.sc x=u0) (J:bx x=u0) (n:cf.ob.fl.contains (c,f)=u0) (O:xj v=u0) (h:Wb cf m v=u0):PS X (.Assign [.Attribute (.Name x j) (jg f) p2] v pos) (cm Y E (M.exec F (.b4 i c f m))):=by
 refine PS.imp (tJ (Zj a h1 P J) (xc m a h).1 (Qg O)) λD U H y=> ?_
 obtain⟨B,G,V,h,s,p⟩:=y
 refine Zc s p λw v h1 W Z e1 N L u j=> ?_
 cases e:w.d with
 | none=>rw [e]at j;exact j.elim
 | some d=>
  rw [e]at j
  obtain⟨l,e2,b,rd⟩:=bp.fz s e1 N L u e
  cases q:M.GV h1 (M.Gp V i)with
  | none=>rw [q]at j;exact j.elim
  | some o=>
   obtain⟨r,z,fs⟩:=o
   rw [q]at j
   dsimp only at j
   split at j
   ·rename_i Q
    obtain⟨rfl,C,hl⟩:=Q
    obtain⟨e2,t⟩:=wB q
    obtain⟨nf,R,A,us,I,S⟩:=b.st.heap.obj r _ fs t
    obtain⟨K,g,T⟩:=xS rd S
    refine⟨_,Wv b.st q,l.aO r,Y.ca z,A,_,rfl,I,(a.fld _ _ n).1,(a.fld _ _ n).2,?_,?_⟩
    ·rw [Al3,Aa];lia
    ·rw [T]
     exact j l U _ (b.gX t (X2 C R) g)
   ·exact j.elim
def F3 (j:Go Y F X E k cf)(h1:cf.N[i]? =k0 x) (z:qK cf.sc x=u0) (N:bx x=u0) (O:jc y=u0)(P:Wb cf kx y=u0) (h:Wb cf m v=u0):PS X (.Assign [.Subscript (.Name x p) y p2] v pos) (cm Y E (M.exec F (.b9 i kx m))):=by
 refine PS.imp (qI (xc m j h).1 (xT (Zj j h1 z N) (xc kx j P).1 Lo (WJ O)) Qw qs rfl) λD U H I=> ?_
 obtain⟨B,G,R,h,s,p⟩:=I
 refine Zc s p λw v h1 G1 H1 e1 n Q V e=> ?_
 cases q:M.GT h1 (M.Gp R i)with
 | none=>rw [q]at e;exact e.elim
 | some C=>
  obtain⟨r0,S⟩:=C
  rw [q]at e
  have sl:=(Qn n.st q).1
  refine⟨_,sl,?_⟩
  refine Zc n e λkw iv z L H2 e2 c T Z p2=> ?_
  split at p2
  ·rename_i d t r W g
   split at p2
   ·rename_i J
    obtain⟨o,A,us,K,u⟩:=Qn c.st g
    have f:=by rw [sl]at o;exact Ad5.inj (Ad5.inj o)
    cases T
    have rd:=(Q).ext e2 n.st.heap
    obtain⟨l,a,b⟩:=Ce rd u
    refine⟨aB t,_,_,rfl,f,K,by rw [Ij u];have:=Xi;lia,?_⟩
    rw [b]
    exact p2 L U _ (c.fG (JR g).2 ⟨Ea J.2 A,l,qd,a.mon (ZP c.st.heap (c.st.heap.lt (JR g).2) _)⟩)
   ·exact p2.elim
  ·exact p2.elim
def Ip (c:Go Y F X E k cf)(h1:cf.N[i]? =k0 x) (t:qK cf.sc x=u0) (e:bx x=u0) (C:jc y=u0)(I:Wb cf kx y=u0) (h:Wb cf m v=u0):PS X (.Assign [.Subscript (.Name x p) y p2] v pos) (cm Y E (M.exec F (.eI i kx m))):=by
 unfold bx at e
 rw [Aa0]at e
 have pv:=XD (pos:=p) (by rw [c.N];exact h1) (c.gu x t) (by simpa using e.1) (by simpa using e.2)
 refine PS.imp (qI (xc m c h).1 (xT pv (xc kx c I).1 jF (WJ C)) Qw qs rfl) λD U H u=> ?_
 obtain⟨B,G,P,h,s,p⟩:=u
 refine Zc s p λw v h1 W Z e1 r J S b=> ?_
 cases q:M.Gp P i with
 | none=>rw [q]at b;exact b.elim
 | some R=>
  rw [q]at b
  cases R with
  | v d=>exact b.elim
  | bor L=>exact b.elim
  | own L=>
   obtain⟨v0,f,a,vs,rfl,T,z3,z4,z5⟩:=r.st.slot i _ q
   refine⟨.ref a,f,?_⟩
   refine Zc r b λkw iv t o N e2 l Q V p2=> ?_
   split at p2
   ·rename_i d j
    split at p2
    ·rename_i O
     split at p2
     ·rename_i n A
      cases (Q)
      have rd:aA Y o N d v:=xE O J
      obtain⟨nf,of,K,z,g⟩:=Zm l.st q f
      refine⟨_,K,j,n,rfl,rfl,z,by rw [← g.length];exact A,?_⟩
      exact p2 o U _ (l.write q f (aa.set rd n g))
     ·exact p2.elim
    ·exact p2.elim
   ·exact p2.elim
def F2 (c:Go Y F X E k cf)(h1:cf.N[i]? =k0 x) (r:qK cf.sc x=u0) (e:bx x=u0) (C:jc y=u0)(I:Wb cf kx y=u0) (h:Wb cf m v=u0):PS X (.Assign [.Subscript (.Name x p) y p2] v pos) (cm Y E (M.exec F (.d4 i kx m))):=by
 unfold bx at e
 rw [Aa0]at e
 have pv:=XD (pos:=p) (by rw [c.N];exact h1) (c.gu x r) (by simpa using e.1) (by simpa using e.2)
 refine PS.imp (qI (xc m c h).1 (xT pv (xc kx c I).1 jF (WJ C)) Qw qs rfl) λD U H t=> ?_
 obtain⟨B,G,N,h,s,p⟩:=t
 refine Zc s p λw v h1 T V e1 g J Q b=> ?_
 cases q:M.Gp N i with
 | none=>rw [q]at b;exact b.elim
 | some P=>
  rw [q]at b
  cases P with
  | v d=>exact b.elim
  | bor L=>exact b.elim
  | own L=>
   obtain⟨v0,f,a,vs,rfl,R,z3,z4,z5⟩:=g.st.slot i _ q
   refine⟨.ref a,f,?_⟩
   refine Zc g b λZ W r A H2 e2 o O S p2=> ?_
   split at p2
   ·rename_i d j
    split at p2
    ·rename_i n z
     cases (O)
     have rd:=(J).ext e2 g.st.heap
     obtain⟨nf,of,K,u,l⟩:=Zm o.st q f
     refine⟨_,K,j,n,rfl,rfl,u,by rw [← l.length];exact z,?_⟩
     exact p2 A U _ (o.write q f (aa.set rd n l))
    ·exact p2.elim
   ·exact p2.elim
end
section
variable {Y:Ge}{E:XK}{B:Bs}{G:Gh}{τ:M.Sl}{h:M.AH}{U:St}{H:Hp}{D:iw}
def Hx (b:M.Gp τ i=k0 (.own xs)) (c:U[i]? =k0 (k0 (.ref a))):qk τ U H a=none:=by
 unfold qk
 rw [if_pos ⟨i,xs,b,c⟩]
def pf (e:qk τ U H a=k0 o):H a=k0 o:=by
 unfold qk at e
 split at e
 ·cases e
 ·exact e
def AI (s:ar Y G τ h U H):ah Y G h (qk τ U H) where
 len:=s.heap.len
 any:=λr c e=>⟨(s.heap.any r c e).1,(s.heap.any r c e).2.mon (qz s) λo z=>by rw [Wj λ⟨i,f,d,b⟩=>(Zm s d b).2.1 r (s.heap.lt e) rfl];exact z⟩
 inj:=s.heap.inj
 live:=λa z=>by
  obtain⟨o,q⟩:=s.heap.live a z
  exact⟨o,by rw [Wj λ⟨i,f,d,b⟩=>(Zm s d b).1 z];exact q⟩
def nt (G:Gh) (τ:M.Sl) (h:M.AH) (U:St) (H:Hp):Bs:=⟨G,qk τ U H,h⟩
def xJ (s:bp Y B G τ h U H):Ext B.G B.H G (qk τ U H) where
 keep:=λa o e b=>by
  rw [Wj λ⟨i,d,f,c⟩=>by rw [s.own i d a f c]at e;cases e]
  exact s.ext.keep a o e b
 le:=s.ext.le
 aO:=s.ext.aO
 new:=s.ext.new
 fz:=s.ext.fz
 old:=s.ext.old
 cells:=λr j z=>by
  obtain⟨o,q⟩:=s.ext.cells r j z
  refine⟨o,?_⟩
  rw [Wj λg=>by
   obtain⟨i,d,f,c⟩:=g
   obtain⟨u,z⟩:=z
   rw [s.own i d _ f c]at z
   cases z]
  exact q
def Cb (s:bp Y B G τ h U H):bp Y (nt G τ h U H) G τ h U H where
 st:=s.st
 ext:=⟨λa o e _=>pf e,Aa8 _,λ_ _=>rfl,λr h1 h2=>absurd h1 (Ao4.mpr h2),λ_ z=>z,λ_ z=> .inl z,λr hr ⟨o,z⟩=>⟨o,pf z⟩⟩
 hr:=AI s.st
 own:=λi xs a e1 e2=>Hx e1 e2
def ZO (s:bp Y B G τ h U H)(b:bp Y (nt G τ h U H) G2 τ2 h2 U2 H2):bp Y B G2 τ2 h2 U2 H2:=
 ⟨b.st,(xJ s).trans s.hr b.ext,s.hr,λi c a e1 e2=>(xJ s).none s.hr (b.own i c a e1 e2)⟩
def Bw (s:bp Y B G τ h U H)(p:bc Y E B o D):bc Y E (nt G τ h U H) o D:=by
 cases o with
 | next j k=>exact λb g c i=>p b g c (ZO s i)
 | brk j k=>exact λb g c i=>p b g c (ZO s i)
 | cont j k=>exact λb g c i=>p b g c (ZO s i)
 | ret w k=>
  refine λb v c e l r f=>p b v c ((xJ s).trans s.hr e) l r ?_
  cases w with
  | v d=>trivial
  | own n=>obtain⟨a,q,m⟩:=f;exact⟨a,q,(xJ s).none s.hr m⟩
  | bor n=>exact f
 | exc d k=>exact λb c e l=>p b c ((xJ s).trans s.hr e) l
 | fail=>exact p
end
section
variable {Y:Ge}{F:M.Fx}{X:Cx}{E:XK}{k:Nat}{cf:Cf}
def CL.hide (s:ar Y G τ h U H) (c:CL Y ds l vs G H) (b: ¬ ∃ i xs,M.Gp τ i=k0 (.own xs)/\U[i]? =k0 (k0 (.ref l))):CL Y ds l vs G (qk τ U H):=by
 obtain⟨a,d⟩:=c
 refine⟨?_,d.mon (qz s)⟩
 obtain⟨a,e⟩ | a:=a
 ·refine .inl ⟨?_,e⟩
  obtain a | ⟨o,a⟩:=a
  ·exact .inl (by rw [Wj b];exact a)
  ·exact .inr ⟨o,by rw [Wj b];exact a⟩
 ·exact .inr a
def CL.gY (s:ar Y G τ h U H) (a:iB Y G H l vs) (b:aa Y G H ds vs):CL Y ds l vs G (qk τ U H):=by
 refine⟨?_,b.mon (qz s)⟩
 obtain a | a:=a
 ·exact(CL.hide s ⟨.inl ⟨a.2,s.heap.off a.1⟩,b⟩ λ⟨j,e,d,c⟩=>(Zm s d c).1 a.1).1
 ·exact .inr a
def CT.hide (s:ar Y G τ h U H) (c:CT Y ds l vs G H):CT Y ds l vs G (qk τ U H):=⟨c.1.mon (qz s),c.2.mon (qz s)⟩
def zI (h:M.GF a=k0 i):a= .var i:=by
 cases a<;>first | (cases h;rfl) | cases h
def KS (h:Wb cf (.var i) e=u0): ∃x p,e= .Name x p/\cf.N[i]? =k0 x/\qK cf.sc x=u0/\bx x=true:=by
 refine Qo (λx p h=> ?_) e h
 exact⟨_,_,rfl,eD h⟩
def og (b:Go Y F X E k cf)(h:Wb cf (.var i) e=u0):PE X e (md i):=by
 obtain⟨x,p,rfl,c,d,a⟩:=KS h
 unfold bx at a
 rw [Aa0]at a
 exact XD (by rw [b.N];exact c) (b.gu x d) (by simpa using a.1) (by simpa using a.2)
def JV (s:ar Y G τ h U H)(e:M.Gp τ i=k0 w) (g:w= .v (.lst xs)\/w= .bor xs):
 ∃l vs,U[i]? =k0 (k0 (.ref l))/\CL Y xs l vs G H/\CL Y xs l vs G (qk τ U H):=by
 obtain⟨v,e2,r⟩:=s.slot i w e
 obtain rfl | rfl:=g
 ·obtain⟨l,vs,rfl,a,b⟩:=r
  exact⟨l,vs,e2,⟨a.lU s.heap,b⟩,CL.gY s a b⟩
 ·obtain⟨l,vs,rfl,a,b,m⟩:=r
  have c:CL Y xs l vs G H:=⟨.inl ⟨b,a⟩,m⟩
  refine⟨l,vs,e2,c,c.hide s λ⟨j,n,f,k⟩=> ?_⟩
  have d:j≠i:=λz=>by rw [z,e]at f;cases f
  exact s.apart j i n _ l d f e rfl k e2
def XY (k:ar Y G0 τ h0 U H0) (s:ar Y G τ h U H)(r:ai Y G H w v) (f:aJ τ U H0 w v) (d:w= .v (.lst xs)\/w= .own xs):
 ∃l vs,v= .ref l/\CL Y xs l vs G H/\CL Y xs l vs G (qk τ U H):=by
 obtain rfl | rfl:=d
 ·obtain⟨l,vs,rfl,b,a⟩:=r
  exact⟨l,vs,rfl,⟨b.lU s.heap,a⟩,CL.gY s b a⟩
 ·obtain⟨l,vs,rfl,b,a,i,n⟩:=r
  obtain⟨q,p,m⟩:=f
  cases p
  have c:CL Y xs l vs G H:=⟨.inl ⟨.inl i,a⟩,n⟩
  refine⟨l,vs,rfl,c,c.hide s λ⟨j,t,e,g⟩=> ?_⟩
  obtain⟨o,z⟩:=k.cJ e rfl g
  rw [m]at z;cases z
def Hs (g:Go Y F X E k cf)(P:Wb cf a e=u0):PI X tg e (fK Y E u0 (M.Gr F (.seq a))):=by
 cases q:M.GF a with
 | some i=>
  cases zI q
  refine PI.imp (nD (og g P)) λU H R K=> ?_
  obtain⟨G,D,h,s,p⟩:=K
  have p:au Y E G H (M.R.of h _) λu _ o j=> ∀J C,Qy Y J u C->C o j->(u0=u0->C o _)->R J j:=p
  cases x:M.Gp D i with
  | none=>rw [x]at p;exact p.elim
  | some w=>
   rw [x]at p
   have lst: ∀ {b},_->au Y E G H (.ok b h) (λu _ o j=> ∀J C,Qy Y J u C->C o j->(u0=u0->C o (qk D U j))->R J j) →
    ∃v,U[i]? =k0 (k0 v)/\((∃ a,v= .ref a/\(∃ b,bz X.K H a b)/\R (mh X.K a) H)\/(∃ a,v= .ref a/\(∃ b,cx X.K H a b)/\R (ke X.K a) H)\/ ∃z,v= .str z/\R (hQ z) H):=λ{b} I p=>by
    obtain⟨l,n,e2,y,O⟩:=JV s x I
    exact⟨_,e2,.inl ⟨l,rfl,⟨n,g.K▸y.1.sq⟩,p G H Ext.refl s.heap _ _ (CL.walk g.K) y λ_=>O⟩⟩
   cases w with
   | v d=>
    cases d with
    | lst b=>exact lst (.inl rfl) p
    | tup b=>
     obtain⟨v,e2,l,n,rfl,t,L⟩:=s.slot i _ x
     have c:CT Y b l n G H:=⟨t,L⟩
     exact⟨_,e2,.inr (.inl ⟨l,rfl,⟨n,g.K▸t.sq⟩,p G H Ext.refl s.heap _ _ (CT.walk g.K) c λ_=>c.hide s⟩)⟩
    | ak=>exact p.elim
    | bl _=>exact p.elim
    | int _=>exact p.elim
    | str z=>
     obtain⟨v,e2,r⟩:=s.slot i _ x
     cases (show v= .str (aB z)from r)
     exact⟨_,e2,.inr (.inr ⟨_,rfl,p G H Ext.refl s.heap _ _ QH trivial λ_=>trivial⟩)⟩
    | ref _=>exact p.elim
    | exc _ _=>exact p.elim
    | err _ _ _=>exact p.elim
   | bor b=>exact lst (.inr rfl) p
   | own b=>exact p.elim
 | none=>
  refine PI.imp (nD (xc a g P).1) λU H R K=> ?_
  obtain⟨G,D,h,s,p⟩:=K
  have p:=by
   unfold M.Gr at p
   dsimp only at p
   rw [q]at p
   exact p
  refine Xa s.heap Ext.refl s p λT v1 S B m e1 V A N Q f=> ?_
  have lst: ∀ {b},_->au Y E G H (.ok b S) (λu _ o j=> ∀J C,Qy Y J u C->C o j->(u0=u0->C o (qk D U j))->R J j) →
   ((∃ a,v1= .ref a/\(∃ b,bz X.K m a b)/\R _ m)\/(∃ a,v1= .ref a/\(∃ b,cx X.K m a b)/\R (ke X.K a) m)\/ ∃z,v1= .str z/\R (hQ z) m):=λ{b} I p=>by
   obtain⟨l,n,e2,y,O⟩:=XY s A N Q I
   exact .inl ⟨l,e2,⟨n,g.K▸y.1.sq⟩,p B m e1 A.heap _ _ (CL.walk g.K) y λ_=>O⟩
  cases T with
  | v d=>
   cases d with
   | lst b=>exact lst (.inl rfl) f
   | tup b=>
    obtain⟨l,n,rfl,t,L⟩:=N
    have c:CT Y b l n B m:=⟨t,L⟩
    exact .inr (.inl ⟨l,rfl,⟨n,g.K▸t.sq⟩,f B m e1 A.heap _ _ (CT.walk g.K) c λ_=>c.hide A⟩)
   | ak=>exact f.elim
   | bl _=>exact f.elim
   | int _=>exact f.elim
   | str z=>
    cases (show v1= .str (aB z)from N)
    exact .inr (.inr ⟨_,rfl,f B m e1 A.heap _ _ QH trivial λ_=>trivial⟩)
   | ref _=>exact f.elim
   | exc _ _=>exact f.elim
   | err _ _ _=>exact f.elim
  | own b=>exact lst (.inr rfl) f
  | bor b=>exact f.elim
def A5 (e:Go Y F X E k cf)(S:cX cf.sc "reversed" g=true) (o:Zb x=true) (K:Wb cf a x=true):PI X tg (.Call g [x] [] pos) (fK Y E true (M.Gr F (.rev a))):=by
 obtain⟨W,rfl,L,V⟩:=ze S
 cases q:M.GF a with
 | some i=>
  cases zI q
  refine PI.imp (nL (e.gl _ L) (e.blt _ m7) (qg (og e K) Jn (Wa o)) (Wa o)) λU H R u=> ?_
  obtain⟨G,r,h,s,p⟩:=u
  have p:au Y E G H (M.R.of h _) λm _ j f=> ∀J C,Qy Y J m C->C j f->(u0=u0->C j _)->R J f:=p
  cases y:M.Gp r i with
  | none=>rw [y]at p;exact p.elim
  | some w=>
   rw [y]at p
   have lst: ∀ {b},(w= .v _\/w= .bor b)->au Y E G H (.ok b.reverse h) (λm _ j f=> ∀J C,Qy Y J m C->C j f->(u0=u0->C j (qk r U f))->R J f) →
    ∃v,U[i]? =k0 (k0 v)/\ ∃a b,[v]= [.ref a]/\bz X.K H a b/\R (lq X.K a b.length) H:=λ{b} t p=>by
    obtain⟨l,B,e2,n,D⟩:=JV s y t
    exact⟨_,e2,l,B,rfl,e.K▸n.1.sq,p G H Ext.refl s.heap _ _ (CL.fR e.K) n λ_=>D⟩
   cases w with
   | v d=>
    cases d with
    | lst b=>exact lst (.inl rfl) p
    | tup _=>exact p.elim
    | ak=>exact p.elim
    | bl _=>exact p.elim
    | int _=>exact p.elim
    | str _=>exact p.elim
    | ref _=>exact p.elim
    | exc _ _=>exact p.elim
    | err _ _ _=>exact p.elim
   | bor b=>exact lst (.inr rfl) p
   | own b=>exact p.elim
 | none=>
  refine PI.imp (nL (e.gl _ L) (e.blt _ m7) (qg (xc a e K).1 Jn (Wa o)) (Wa o)) λU H R u=> ?_
  obtain⟨G,r,h,s,p⟩:=u
  have p:=by
   unfold M.Gr at p
   dsimp only at p
   rw [q]at p
   exact p
  refine Xa s.heap Ext.refl s p λz v1 P O A e1 Q I T N c=> ?_
  have lst: ∀ {b},(z= .v _\/z= .own b)->au Y E G H (.ok b.reverse P) (λm _ j f=> ∀J C,Qy Y J m C->C j f->(u0=u0->C j (qk r U f))->R J f) →
   ∃a b,[v1]= [.ref a]/\bz X.K A a b/\R _ A:=λ{b} t p=>by
   obtain⟨l,B,e2,n,D⟩:=XY s I T N t
   exact⟨l,B,by rw [e2],e.K▸n.1.sq,p O A e1 I.heap _ _ (CL.fR e.K) n λ_=>D⟩
  cases z with
  | v d=>
   cases d with
   | lst b=>exact lst (.inl rfl) c
   | tup _=>exact c.elim
   | ak=>exact c.elim
   | bl _=>exact c.elim
   | int _=>exact c.elim
   | str _=>exact c.elim
   | ref _=>exact c.elim
   | exc _ _=>exact c.elim
   | err _ _ _=>exact c.elim
  | own b=>exact lst (.inr rfl) c
  | bor b=>exact c.elim
def AR (c:Go Y F X E k cf)(n:ox it tg=u0) (h:nU cf it e=u0):PI X tg e (fK Y E u0 (M.Gr F it))/\xg e=true:=by
 cases it with
 | seq a=>exact⟨Hs c (a2 h).2,(a2 h).1⟩
 | ao a=>
  refine Jp (λg x l p h=> ?_) e h
  refine kE (λh=> ?_) l h
  refine kC (λx r h=> ?_) x h
  refine kE (λh=> ?_) r h
  obtain⟨d,i,f⟩:=a3 h
  exact⟨ZG c d i (xc a c f).1,rfl⟩
 | bY a b=>
  refine Jp (λg x l p h=> ?_) e h
  refine kE (λh=> ?_) l h
  refine kC (λx r h=> ?_) x h
  refine kC (λy r h=> ?_) r h
  refine kE (λh=> ?_) r h
  obtain⟨d,i,f,j,m⟩:=a5 h
  exact⟨XJ c d i f (xc a c j).1 (xc b c m).1,rfl⟩
 | rev a=>
  refine Jp (λg x l p h=> ?_) e h
  refine kE (λh=> ?_) l h
  refine kC (λx r h=> ?_) x h
  refine kE (λh=> ?_) r h
  obtain⟨d,i,f⟩:=a3 h
  exact⟨A5 c d i f,rfl⟩
end
section
variable {Y:Ge}{G G0:Gh}{H H0:Hp}{h:M.AH}
def Gh.cut (G:Gh) (n:Nat):Gh:= { G with n:=n }
mutual
theorem aA.cut (n:Nat): ∀ {d:M.D}{v:V},M.Gc d=u0->aA Y G H d v->aA Y (G.cut n) H d v
 | .ak,_,_,z=>z
 | .bl _,_,_,z=>z
 | .int _,_,_,z=>z
 | .str _,_,_,z=>z
 | .tup _,_,q,⟨a,vs,z1,z2,z3⟩=>⟨a,vs,z1,z2,aa.et n (by simpa [M.Gc]using q) z3⟩
 | .lst _,_,q,⟨a,vs,z1,z2,z3⟩=>⟨a,vs,z1,z2,aa.et n (by simpa [M.Gc]using q) z3⟩
 | .ref r,_,q,_=>by simp [M.Gc]at q
 | .exc c fs,_,q,z=>by simp [M.Gc]at q
 | .err c f d,_,q,z=>by simp [M.Gc]at q
theorem aa.et (n:Nat): ∀ {ds:List M.D}{vs:List V},M.Gf ds=u0->aa Y G H ds vs->aa Y (G.cut n) H ds vs
 | [],_,_,z=>z
 | d::ds,_,q,⟨v,r,z1,z2,z3⟩=>by
  have q':M.Gc d=u0/\M.Gf ds=true:=by simpa [M.Gf]using q
  exact⟨v,r,z1,aA.cut n q'.1 z2,aa.et n q'.2 z3⟩
end
theorem zP: ∀l:List Int,M.Gf (l.map M.D.int)=u0
 | []=>rfl
 | _::l=>zP l
def Bv (k):M.Gc (se k)=true:=by
 show(u0&&(M.Gf _&&(M.Gf _&&u0)))=u0
 rw [zP,zP];rfl
theorem ah.cut (r:ah Y G h H)(g:n<=G.n):ah Y (G.cut n) (h.take n) H where
 len:=by rw [Af,r.len];exact Ak1 g
 any:=λi c e=>by
  have s:i<n:=by
   have:=(Aa1.mp e).1
   rw [Af]at this
   omega
  rw [Am0 s]at e
  obtain⟨t,f⟩:=r.any i c e
  refine⟨t,?_⟩
  cases c with
  | lst m=>obtain⟨a,u,b,d⟩:=f;exact⟨a,u,b,aa.et n a d⟩
  | ip l=>obtain⟨m,b,d,v⟩:=f;exact⟨m,b,d,λx o=>aA.cut n (Bv x.1) (v x o)⟩
  | iK l=>exact f
  | aG l=>obtain⟨a,k,b,d⟩:=f;exact⟨a,k,b,aa.et n a d⟩
  | obj c fs=>obtain⟨a,p,k,b,d⟩:=f;exact⟨a,p,k,b,aa.et n a d⟩
 inj:=λi j q w e=>r.inj i j (Ab3 q g) (Ab3 w g) e
 live:=r.live
theorem Ext.cut (e:Ext G0 H0 G H):Ext G0 H0 (G.cut G0.n) H:=⟨e.keep,Aa8 _,e.aO,λr b a=>absurd b (Ao4.mpr a),e.fz,e.old,e.cells⟩
theorem ai.cut (n) (e:n<=G.n)(q:w.keep=u0) (h: ∀xs,w≠ .bor xs) (z:ai Y G H w v):ai Y (G.cut n) H w v:=by
 cases w with
 | v d=>exact aA.cut n q z
 | own xs=>
  obtain⟨a,k,j,f,c,b,g⟩:=z
  exact⟨a,k,j,f,λr i=>c r (Ab3 i e),b,aa.et n q g⟩
 | bor xs=>exact absurd rfl (h xs)
end
section
variable {Y:Ge}{F:M.Fx}{X:Cx}{E:XK}{k:Nat}{cf:Cf}
def Lg (d:Go Y F X E k cf)(e:xj v=u0)(h:Wb cf m v=u0):PS X (.Expr v pos) (cm Y E (M.exec F (.ex m))):=by
 refine PS.imp (j6 (xc m d h).1 (Qg e)) λD U H a=> ?_
 obtain⟨B,G,n,h,s,p⟩:=a
 exact Zc s p λw v j b c e1 f l i g=>g b U c f
def Dk (s:bp Y B G τ h U H)(f:aJ τ U H w v) (c: ∀xs,w≠ .bor xs):aJ [] [] B.H w v:=by
 cases w with
 | v d=>trivial
 | own xs=>obtain⟨a,e,b⟩:=f;exact⟨a,e,s.ext.none s.hr b⟩
 | bor xs=>exact absurd rfl (c xs)
def E7 (o:Go Y F X E k cf)(h:Wb cf m v=u0):PS X (.Return (k0 v) pos) (cm Y E (M.exec F (.ret m))):=by
 cases q:M.GF m with
 | some i=>
  cases zI q
  refine PS.imp (u1 (og o h)) λD U H f=> ?_
  obtain⟨B,G,j,h,s,p⟩:=f
  rw [M.exec,q]at p
  dsimp only at p
  cases c:M.Gp j i with
  | none=>rw [c]at p;exact p.elim
  | some w=>
   rw [c]at p
   obtain⟨v,e2,r⟩:=s.st.slot i w c
   refine⟨v,e2,?_⟩
   cases w with
   | bor b=>exact p.elim
   | v d=>exact p G v H s.ext s.st.heap r trivial
   | own b=>
    have u:=r
    obtain⟨a,A,rfl,_⟩:=u
    exact p G _ H s.ext s.st.heap r ⟨a,rfl,s.own i b a c e2⟩
 | none=>
  refine PS.imp (u1 (xc m o h).1) λD U H f=> ?_
  obtain⟨B,G,j,h,s,p⟩:=f
  have p:bc Y E B ((M.eval F m j h).cF λw h=>match w with
   | .bor _=> .fail
   | w=> .ret w h) D:=by
   rw [M.exec,q]at p;exact p
  refine Zc s p λw v y l n e1 e t x g=> ?_
  cases w with
  | bor b=>exact g.elim
  | v d=>exact g l v n e.ext e.st.heap t trivial
  | own b=>exact g l v n e.ext e.st.heap t (Dk s x λb z=>by cases z)
def Be (m:PT X x (cN Y E (M.Gm F c))) (k:cQ X ys (cm Y E (M.execs F a))) (l:cQ X zs (cm Y E (M.execs F b))):PS X (.If x ys zs pos) (cm Y E (M.exec F (.iff c a b))):=by
 refine PS.imp (yg m k l) λD U H j=> ?_
 obtain⟨B,G,i,h,s,p⟩:=j
 refine pG s p λt e d n e1 f g=> ?_
 cases t with
 | true=>exact m6 ⟨B,d,i,e,f,g⟩
 | false=>exact mZ ⟨B,d,i,e,f,g⟩
def DA {st:Stmt}(h1:PS X st (cm Y E (M.exec F s))) (j:cQ X sts (cm Y E (M.execs F ss))):cQ X (st::sts) (cm Y E (M.execs F (.cons s ss))):=by
 refine cQ.imp (He h1 j) λD U H e=> ?_
 obtain⟨B,G,c,h,i,p⟩:=e
 rw [M.execs]at p
 refine⟨B,G,c,h,i,?_⟩
 cases q:M.exec F s c h with
 | next a b=>rw [q]at p;exact λg k l f=>⟨B,g,a,b,f,p⟩
 | ret w b=>rw [q]at p;exact p
 | brk a b=>rw [q]at p;exact p
 | cont a b=>rw [q]at p;exact p
 | exc d b=>rw [q]at p;exact p
 | fail=>rw [q]at p;exact p
def Bu:cQ X [] (cm Y E (M.execs F .nil)):=cQ.imp BY λD U H ⟨B,G,a,h,s,p⟩=>p G U H s
def JZ (c:cQ X sts (cm Y E (M.execs F ss))):cQ X sts (cm Y E (M.execs F (.cons (.freeze i) ss))):=by
 refine cQ.imp c λD U H e=> ?_
 obtain⟨B,G,a,h,s,p⟩:=e
 rw [M.execs,M.exec]at p
 cases q:M.Gp a i with
 | none=>rw [q]at p;exact⟨B,G,a,h,s,p⟩
 | some w=>
  rw [q]at p
  cases w with
  | v d=>exact⟨B,G,a,h,s,p⟩
  | bor f=>exact⟨B,G,a,h,s,p⟩
  | own f=>
   obtain⟨b,g⟩:=s.freeze q
   exact⟨B,b,_,h,g,p⟩
def yF (K:lr Y F X E k cf)(L:PT X x (cN Y E (M.Gm F c))) (J:cQ X ys (cm Y E (M.execs F b))):PS X (.While x ys [] pos) (cm Y E (M.exec F (.iX n c b))):=by
 refine PS.imp (K6 K.hM L J) λD U H C=> ?_
 obtain⟨B,G,a,h,s,p⟩:=C
 refine⟨λm U H=> ∃G a h,bp Y B G a h U H/\bc Y E B (M.GL (λa h=>M.Gm F c a h) (λa h=>M.execs F b a h) m a h) D,⟨n,G,a,h,s,p⟩,?_⟩
 rintro m U H ⟨G,a,h,s,p⟩
 cases m with
 | zero=>exact p.elim
 | succ m=>
  refine pG s p λt u y I e1 A e=> ?_
  cases t with
  | false=>exact mZ (e y U I A)
  | true=>
   refine m6 ⟨_,λv z w=>⟨m,Af5 _,w⟩,B,y,a,u,A,?_⟩
   have e:bc Y E B (match M.execs F b a u with
    | .next f j=>M.GL (λa h=>M.Gm F c a h) (λa h=>M.execs F b a h) m f j
    | .cont f j=>M.GL (λa h=>M.Gm F c a h) (λa h=>M.execs F b a h) m f j
    | .brk f j=> .next f j
    | o=>o) D:=e
   cases q:M.execs F b a u with
   | next g i=>rw [q]at e;exact λr v z l=>⟨r,g,i,l,e⟩
   | cont g i=>rw [q]at e;exact λr v z l=>⟨r,g,i,l,e⟩
   | ret w i=>rw [q]at e;exact e
   | brk g i=>rw [q]at e;exact e
   | exc d i=>rw [q]at e;exact e
   | fail=>rw [q]at e;exact e
def FZ (I:lr Y F X E k cf)(he:ox it t=u0) (ht:Xe cf tg one t=u0) (hi:nU cf it iter=u0) (hb:cQ X ys (cm Y E (M.execs F b))):
 PS X (.For t iter ys [] pos) (cm Y E (M.exec F (.for tg one it b))):=by
 obtain⟨li,ls⟩:=AR I.toGo he hi
 refine PS.imp (I1 I.hM I.calm li (Jx I.toGo ht) hb (J2 ls)) λD U H qq=> ?_
 obtain⟨B,G,l,h,s,p⟩:=qq
 rw [M.exec]at p
 refine⟨G,l,h,s.st,?_⟩
 cases q:M.Gr F it l h with
 | exc d W=>rw [q]at p;exact bc.exc s p
 | fail=>rw [q]at p;exact p
 | ok g W=>
  rw [q]at p
  intro G1 H1 e hr J C A c0 S
  have Z:=s.on e hr
  have p1:=Bw Z p
  have cB:=S rfl
  have s2:=Cb Z
  refine⟨λi m O z=> ∃v n y,(m=g.length-i/\i<=g.length)/\bp Y _ v n y O z/\bc Y E _ (M.Gw _ (λl h=>M.execs F b l h) (g.drop i) n y) D,
   ⟨g.length,G1,l,W,⟨by simp,Ac8 _⟩,s2,p1⟩,?_⟩
  rintro i m O z ⟨v,n,y,⟨rfl,hi'⟩,r,c⟩
  have N:=A.keep _ _ _ _ _ cB r.ext r.hr
  by_cases j:i<g.length
  ·refine .inr ⟨A.go i v z N j,_,λU2 H2 w=>⟨g.length-(i+1),by omega,w⟩,λx T hy=> ?_⟩
   obtain⟨G4,x4,R,d,ed,K⟩:=A.fg i v z x T N j hy
   have r:=r.on x4 (R _ r.st.heap)
   have Q:g.drop i=d::g.drop (i+1):=by
    rw [Aj4 j]
    rw [Aa3 j]at ed
    cases ed
    rfl
   rw [Q,M.Gw]at c
   cases V:M.Gv tg one d n with
   | none=>rw [V]at c;exact c.elim
   | some u=>
    rw [V]at c
    refine sQ V K r λU2 s3=>⟨_,G4,u,y,s3,?_⟩
    have c:bc Y E _ (match M.execs F b u y with
     | .next a f=>M.Gw _ (λl h=>M.execs F b l h) _ a f
     | .cont a f=>M.Gw _ (λl h=>M.execs F b l h) _ a f
     | .brk a f=> .next a f
     | o=>o) D:=c
    cases q:M.execs F b u y with
    | next a f=>rw [q]at c;exact λL U3 H3 P=>⟨L,a,f,⟨rfl,by omega⟩,P,c⟩
    | cont a f=>rw [q]at c;exact λL U3 H3 P=>⟨L,a,f,⟨rfl,by omega⟩,P,c⟩
    | ret w f=>rw [q]at c;exact c
    | brk a f=>rw [q]at c;exact c
    | exc d f=>rw [q]at c;exact c
    | fail=>rw [q]at c;exact c
  ·have ei:i=g.length:=by lia
   subst ei
   rw [List.drop_length]at c
   exact .inl ⟨A.stop _ v z N (Aa8 _) (Aa8 _),c v O z r⟩
end
section
variable {Y:Ge}{F:M.Fx}{k:Nat}{X:Cx}{E:XK}{cf:Cf}
mutual
theorem Dv (go:lr Y F X E k cf): ∀(m:M.S){st:Stmt},nG cf m st=u0->PS X st (cm Y E (M.exec F m))
 | .set i e,st,h=>by
  refine fL (λts v p h=> ?_) st h
  refine kC (λt r h=> ?_) ts h
  refine Qo (λx p1 h=> ?_) t h
  refine kE (λh=> ?_) r h
  exact BK go.toGo (a2 h).1 (a2 h).2
 | .ag i e,st,h=>by
  refine fL (λts v p h=> ?_) st h
  refine kC (λt r h=> ?_) ts h
  refine Qo (λx p1 h=> ?_) t h
  refine kE (λh=> ?_) r h
  exact Lp go.toGo (a2 h).1 (a2 h).2
 | .fB is e,st,h=>by
  refine fL (λts v p h=> ?_) st h
  refine kC (λt r h=> ?_) ts h
  refine mN (λx n p1 h=> ?_) t h
  refine kE (λh=> ?_) r h
  obtain⟨h1,h2,h3⟩:=a3 h
  exact B6 go.toGo h1 h2 h3
 | .eI i kx e,st,h=>by
  refine fL (λts v p h=> ?_) st h
  refine kC (λt r h=> ?_) ts h
  refine fU (λx y p1 h=> ?_) t h
  refine Qo (λx p2 h=> ?_) x h
  refine kE (λh=> ?_) r h
  obtain⟨h0,h4,_,h5,h6,h7⟩:=a6 h
  obtain⟨h1,h2,h3⟩:=eD h0
  exact Ip go.toGo h1 h2 h3 h4 h6 h7
 | .b4 i c f e,st,h=>by
  refine fL (λts v p h=> ?_) st h
  refine kC (λt r h=> ?_) ts h
  refine Z5 (λx n p1 h=> ?_) t h
  refine Qo (λx p2 h=> ?_) x h
  refine kE (λh=> ?_) r h
  obtain⟨h0,h⟩:=a2 h
  obtain⟨hn,h4,h5,h6⟩:=a4 h
  obtain⟨h1,h2,h3⟩:=eD h0
  cases of_decide_eq_true hn
  exact JU go.toGo h1 h2 h3 h4 h5 h6
 | .d4 i kx e,st,h=>by
  refine fL (λts v p h=> ?_) st h
  refine kC (λt r h=> ?_) ts h
  refine fU (λx y p1 h=> ?_) t h
  refine Qo (λx p2 h=> ?_) x h
  refine kE (λh=> ?_) r h
  obtain⟨h0,h4,h6,h7⟩:=a4 h
  obtain⟨h1,h2,h3⟩:=eD h0
  exact F2 go.toGo h1 h2 h3 h4 h6 h7
 | .fM is e,st,h=>by
  refine fL (λts v p h=> ?_) st h
  refine kC (λt r h=> ?_) ts h
  refine mN (λx n p1 h=> ?_) t h
  refine kE (λh=> ?_) r h
  obtain⟨h1,h2,h3⟩:=a3 h
  exact FJ go.toGo h1 h2 h3
 | .b9 i kx e,st,h=>by
  refine fL (λts v p h=> ?_) st h
  refine kC (λt r h=> ?_) ts h
  refine fU (λx y p1 h=> ?_) t h
  refine Qo (λx p2 h=> ?_) x h
  refine kE (λh=> ?_) r h
  obtain⟨h0,h4,h6,h7⟩:=a4 h
  obtain⟨h1,h2,h3⟩:=eD h0
  exact F3 go.toGo h1 h2 h3 h4 h6 h7
 | .fH o kx j e,st,h=>by
  refine fL (λts v p h=> ?_) st h
  refine kC (λt r h=> ?_) ts h
  refine kE (λh=> ?_) r h
  refine mN (λts n p h=> ?_) t h
  refine kC (λt1 r h=> ?_) ts h
  refine kC (λt2 r h=> ?_) r h
  refine kE (λh=> ?_) r h
  refine fU (λx y p1 h=> ?_) t1 h
  refine Qo (λa p2 h=> ?_) t2 h
  obtain⟨h1,h2,h3,h4,h5⟩:=a5 h
  obtain⟨h5,h6⟩:=a2 h5
  exact BR go.toGo h1 h2 h3 h4 h5 h6
 | .bS o kx e,st,h=>by
  refine fL (λts v p h=> ?_) st h
  refine kC (λt r h=> ?_) ts h
  refine fU (λx y p1 h=> ?_) t h
  refine kE (λh=> ?_) r h
  obtain⟨h1,_,_,h4,h5,h6⟩:=a6 h
  exact j7 go.toGo h1 h4 h5 h6
 | .app i e,st,h=>by
  refine nE (λc p h=> ?_) st h
  refine Jp (λf x l q h=> ?_) c h
  refine kE (λh=> ?_) l h
  refine kC (λv r h=> ?_) x h
  refine kE (λh=> ?_) r h
  obtain⟨h1,h2,h3⟩:=a3 h
  exact Li go.toGo h1 h2 h3
 | .ext i e,st,h=>by
  refine nE (λc p h=> ?_) st h
  refine Jp (λf x l q h=> ?_) c h
  refine kE (λh=> ?_) l h
  refine kC (λv r h=> ?_) x h
  refine kE (λh=> ?_) r h
  obtain⟨h1,h2,h3⟩:=a3 h
  exact AF go.toGo h1 h2 h3
 | .bR i c f e,st,h=>by
  refine fL (λts v p h=> ?_) st h
  refine kC (λt r h=> ?_) ts h
  refine Z5 (λx n p1 h=> ?_) t h
  refine Qo (λx p2 h=> ?_) x h
  refine kE (λh=> ?_) r h
  obtain⟨h0,hn,h4,_,h5,h6⟩:=a6 h
  obtain⟨h1,h2,h3⟩:=eD h0
  cases of_decide_eq_true hn
  exact W3 go.toGo h1 h2 h3 h4 h5 h6
 | .eW,st,h=>λk8 s U H D I ⟨B,G,τ,h,s',p⟩=>p.elim
 | .freeze _,st,h=>cn h
 | .ex e,st,h=>by
  refine nE (λv p h=> ?_) st h
  exact Lg go.toGo (a2 h).1 (a2 h).2
 | .ret e,st,h=>by
  refine FU (λv p h=> ?_) st h
  refine kS (λv h=> ?_) v h
  exact E7 go.toGo h
 | .iff c a b,st,h=>by
  refine DI (λx y z p h=> ?_) st h
  obtain⟨h0,h1,h2,h3⟩:=a4 h
  exact Be ((xc c go.toGo h1).2 h0) (c3 go a h2) (c3 go b h3)
 | .iX n c b,st,h=>by
  refine Lu (λx y z p h=> ?_) st h
  refine kE (λh=> ?_) z h
  obtain⟨h0,h1,h2⟩:=a3 h
  exact yF go ((xc c go.toGo h1).2 h0) (c3 go b h2)
 | .for tg one it b,st,h=>by
  refine IH (λt i y z p h=> ?_) st h
  refine kE (λh=> ?_) z h
  obtain⟨h1,h2,h3,h4⟩:=a4 h
  exact FZ go h1 h2 h3 (c3 go b h4)
theorem c3 (go:lr Y F X E k cf): ∀(m:M.Ss){sts:List Stmt},bX cf m sts=u0->cQ X sts (cm Y E (M.execs F m))
 | .nil,sts,h=>by
  cases Af4.mp h
  exact Bu
 | .cons s ss,sts,h=>by
  cases q:mT s with
  | true=>
   cases s with
   | freeze i=>exact JZ (c3 go ss h)
   | _=>cases q
  | false=>
   have h:(bif mT s then bX cf ss sts else lC sts λst sts=>nG cf s st&&bX cf ss sts)=true:=h
   rw [q]at h
   refine kC (λst r h=> ?_) sts h
   exact DA (Dv go s (a2 h).1) (c3 go ss (a2 h).2)
end
end
section
variable {P:Program}{w:World}{K:Aa6}{mg:Str->Option Value}{base:Heap}{N:List Str}{u8:Str}{scope:Scope}{f:Addr}{cd:Value}{A:Around}{outer:List Env}{s:Shared}{H:Hp}{E:XK}
def Cy:Jw (eA P w) (g9 (eA P w) P w K mg base N u8 scope f cd A outer s H E) E:=by
 intro k8 U H1 s1 ev s' I hq
 obtain⟨x,C,t,B,H',od,rfl,os,bare,fl,un,bf,comp,new,hd,hE⟩:=hq
 have I':=HN I os bare un bf comp fl λb o z _=>⟨o.slots,z⟩
 have ff:=fl.2.2.1
 refine wpAny_mono (Fp (DC _ _) (wpAny_leaves_onW (Q:=λ_ s2=> ∃h2,s2= { s' with heap:=h2 }/\Heap.FlyingW B outer x _ _ h2/\s'.heap.UpToSlots h2) (E:=λ_ _=>False) I.ok.frames rfl fl λh2 x1 x4=>⟨h2,rfl,x1,x4⟩)) (λ_ s2 z=> ?_) λ_ _ z=>z.1.elim
 obtain⟨⟨h2,rfl,x1,x4⟩,dk⟩:=z
 have free:=I'.cU
 have slotH: ∀b o,b∈cV _->s'.heap.get? b=k0 o-> ∃sl,h2.get? b=k0 { o with slots:=sl }:=λb o hb z=>by
  obtain⟨_,o',z',nf⟩:=ff.mem hb
  rw [z]at z'
  cases z'
  exact x4 b o z nf
 have toH:=λb o z c n=>x1.1 b o (comp b o z c n)
 have cut: ∀b,b∉cV outer->b≠s.heap.objs.size->b∉cV (envOfC u8 scope s.heap.objs.size f cd::outer):=λb n1 n2 hb=>by
  rcases Ac1.mp (hb)with z | z
  ·exact n2 z
  ·exact n1 z
 have old: ∀b o,s.heap.get? b=k0 o->b≠s.heap.objs.size:=λb o z=>Ac7 (Ac z)
 have gI: ∀b u,H' b=k0 u->b∉cV _:=λb u z hb=>by rw [free b hb]at z;cases z
 have in1:=λb o z=>I.base.there b o z (by show b∉ [];simp)
 refine⟨x,C,t,B,H',od,rfl,os.trans I.os,bare,x1,⟨λb o z n hb hx=> ?_,λb o z n hb hx=> ?_,I'.base.free,λb o z hx=> ?_,I'.base.dM,I'.base.dt,I'.base.dF⟩,λb u z=> ?_,λb o z hc hb=> ?_,?_,λdx z=> ?_,hE⟩
 ·exact toH b o (I'.base.keep b o z n hb hx) (.inr (in1 b o z)) (cut b hb (old b o z))
 ·obtain⟨sl,z1⟩:=I'.base.slot b o z n hb hx
  obtain⟨sl2,z2⟩:=slotH b _ (Aa4 _ hb) z1
  exact⟨sl2,z2⟩
 ·obtain⟨o',z1⟩:=I'.base.there b o z hx
  by_cases hb:b∈cV (envOfC u8 scope s.heap.objs.size f cd::outer)
  ·obtain⟨sl,z2⟩:=slotH b o' hb z1
   exact⟨_,z2⟩
  ·exact⟨o',toH b o' z1 (.inr (in1 b o z)) hb⟩
 ·refine(bf b u z).dW (λc v hc z1=> ?_) (λ_ z1=>z1) λ_ _ z1=>z1
  obtain rfl | hc:=hc
  ·exact toH c v z1 (.inl ⟨u,z⟩) (gI c u z)
  ·exact toH c v z1 (.inl ⟨_,hc⟩) (gI c _ hc)
 ·have two: ∃o2,s'.heap.get? b=k0 o2/\((∃ u,H' b=k0 u)\/ ∃u,s1.heap.get? b=k0 u)/\b∉cV (envOfC u8 scope s.heap.objs.size f cd::outer):=by
   obtain⟨u,hu⟩ | ⟨u,hu⟩:=hc
   ·obtain⟨o2,z2⟩:=(bf b u hu).there
    exact⟨o2,z2,.inl ⟨u,hu⟩,gI b u hu⟩
   ·obtain⟨o2,z2⟩:=I'.base.there b u hu (by show b∉ [];simp)
    exact⟨o2,z2,.inr (in1 b u hu),cut b hb (old b u hu)⟩
  obtain⟨o2,z2,c2,nb⟩:=two
  have z3:=toH b o2 z2 c2 nb
  rw [show h2.get? b=k0 o from z]at z3
  cases z3
  exact comp b _ z2 c2 nb
 ·cases z:s.heap.get? x with
  | none=>rfl
  | some u=>
   obtain⟨o2,z2⟩:=in1 x u z
   rw [new]at z2
   cases z2
 ·obtain⟨o,e1,e2⟩:=hd dx z
  obtain⟨o',e3,e4⟩:=dk x o e1
  exact⟨o',e3,e4.trans e2⟩
end
structure Txt (K:Aa6) (mg:Str->Option Value) (f:String) where
 st:Stmt
 fa:Addr
 fd:FuncData
 N:List Str
 ps:List Str
structure mj {K:Aa6}{mg:Str->Option Value}{f:String}(t:Txt K mg f) (d:M.Fn) (fns own d6 d0:List String) (ob:gj):Prop where
 fn: ∃x u8,iL K x u8 t.st t.fa t.fd
 bd:Binds K t.fd t.ps []
 sc:QA t.N t.ps (Jk t.st)
 n:t.N.length=d.n
 p:t.ps.length=d.ps
 le:d.ps<=d.n
 AJ:bX ⟨Jk t.st,t.N,fns,own,d6,d0,ob⟩ d.body (JG t.st)=u0
structure oY (Y:Ge) (p:M.Prog) (mg:Str->Option Value) (own d6 d0:List String) (ob:gj):Prop where
 cl:p.cl=Y.cl
 ow:own=Y.own
 blt: ∀x,x∈c6->mg (jg x)=y0
 con: ∀x d,p.con.lookup x=k0 d-> ∃u v,mg (jg x)=k0 u/\RelV v u/\ ∀G H,aA Y G H d v
 cls: ∀c,own.contains c=u0->mg (jg c)=k0 (.ref (Y.ca c))
 fld: ∀c f,ob.fl.contains (c,f)=u0->dN Y.K (Y.ca c)/\b0 Y.K (Y.ca c) (jg f)
 hB: ∀c m q,ob.mt.contains (c,m,q)=u0->dN Y.K (Y.ca c)/\ob.ms.contains q=u0/\kU Y.K (Y.ca c) (jg m) (Y.ma q)
 eN: ∀c q,ob.eN.contains (c,q)=u0->mg (jg c)=k0 (.ref (Y.ca c))/\ob.ms.contains q=u0/\Mk Y.K (Y.ca c) (Y.ma q)
section
variable {P:Program}{w:World}{Y:Ge}{mg:Str->Option Value}{base:Heap}{p:M.Prog}{own d6 d0 fns:List String}{ob:gj}
def IB (k:ah Y G h H) (r:bg Y G H ws vs) (no: ∀w∈ws,l7 w=u0) (t:N.length=n):bp Y ⟨G,H,h⟩ G (ws.map k0++Aa2 (n-ws.length) y0) h (start N vs) H:=by
 have p:=r.length
 have get: ∀ {i}{w},M.Gp (ws.map k0++Aa2 (n-ws.length) y0) i=k0 w->ws[i]? =k0 w:=λ{i w} e=>by
  rw [xF]at e
  by_cases f:i<ws.length
  ·rw [Ac9 (by simpa using f),Ac2]at e
   cases q:ws[i]? with
   | none=>rw [q]at e;cases e
   | some z=>rw [q]at e;exact e
  ·rw [Ad6 (by simpa using f),Ai0]at e
   split at e<;>cases e
 have g: ∀ {ws}{vs}{i:Nat}{w},bg Y G H ws vs->ws[i]? =k0 w-> ∃v,vs[i]? =k0 v/\ai Y G H w v:=by
  intro ws
  induction ws with
  | nil=>intro vs i w _ e;simp at e
  | cons a r u=>
   intro vs i w ⟨v,A,e1,s,l⟩ e
   subst e1
   cases i with
   | zero=>simp at e;subst e;exact⟨v,rfl,s⟩
   | succ i=>
    obtain⟨y,o,x⟩:=u l (by assumption)
    exact⟨y,by simpa using o,x⟩
 have b: ∀ {i}{c},M.Gp _ i≠k0 (.own c):=λ{i c} e=>by
  have:=no _ (Ad4 (get e))
  cases this
 refine⟨⟨?_,λi w e=> ?_,λi j c w a m e1=>absurd e1 b,k⟩,Ext.refl,k,λi c a e1=>absurd e1 b⟩
 ·unfold start
  rw [Ab1,Ab1,Aa,Aa,Ad,Ad,t,p]
 ·obtain⟨v,e2,d⟩:=g r (get e)
  refine⟨v,?_,d⟩
  unfold start
  have f:=(Aa1.mp e2).1
  rw [Ac9 (by simp_all),Ac2,e2]
  rfl
def EX (n:ah Y G h H) (p:az Y E G H (M.Gq h.length o) Q):bc Y E ⟨G,H,h⟩ o { nx:=λ_ H'=>Q .ak H',rt:=Q }:=by
 have g: ∀ {w}{c}{b}{H'}{v},_->az Y E G H (M.fin h.length w c) Q->Ext G H b H'->ah Y b c H'->ai Y b H' w v->aJ [] [] H w v->Q v H':=λ{w c b H' v} m p e a r f=>by
  unfold M.fin at p
  split at p
  ·exact p b H' e a v r f
  ·split at p
   ·rename_i q
    have l:=e.cut
    rw [n.len]at p
    exact p _ H' l (a.cut e.le) v (r.cut G.n e.le q m) f
   ·exact p b H' e a v r f
 cases o with
 | next k c=>exact λb s H' j=>g (λi z=>by cases z) p j.ext j.st.heap rfl trivial
 | ret w c=>
  cases w with
  | bor i=>exact p.elim
  | v d=>exact λb v H' e a r f=>g (λi z=>by cases z) p e a r f
  | own i=>exact λb v H' e a r f=>g (λi z=>by cases z) p e a r f
 | exc d c=>exact p
 | brk k c=>exact p.elim
 | cont k c=>exact p.elim
 | fail=>exact p.elim
end
section
variable {P:Program}{w:World}{Y:Ge}{mg:Str->Option Value}{base:Heap}{p:M.Prog}{own d6 d0 fns:List String}{ob:gj}
def px (P:Program) (w:World) (Y:Ge) (b:Str->Option Value) (base:Heap) (p:M.Prog) (k:Nat) (f:String):Prop:=
 ∃ps a fd,bA P w Y.K b base (eA P w) (2*k+1) a fd ps (gy Y (M.call p k f))/\Binds Y.K fd ps []/\Ag9 Y.K (.ref a)=u0/\b (jg f)=k0 (.ref a)
def vq (P:Program) (w:World) (Y:Ge) (a:Str->Option Value) (base:Heap) (p:M.Prog) (k:Nat) (q:String):Prop:=
 ∃ps fd,bA P w Y.K a base (eA P w) (2*k+1) (Y.ma q) fd ps (gy Y (M.call p k q))/\Binds Y.K fd ps []
def o6 (l:oY Y p mg own d6 d0 ob){t:Txt Y.K mg f}(ok:mj t d fns own d6 d0 ob) (R:p.fns.lookup f=k0 d) (k) (Z: ∀g,fns.contains g=u0->px P w Y mg base p k g) (S: ∀q,ob.ms.contains q=u0->vq P w Y mg base p k q):
 bA P w Y.K mg base (eA P w) (2*(k+1)+1) t.fa t.fd t.ps (gy Y (M.call p (k+1) f)):=by
 have a: ∀ {e}{h},e.length≠d.ps->M.call p (k+1) f e h= .fail:=λ{e h} D=>by
  rw [M.call,R]
  simp [M.run,D]
 have j:=λ{e h} D=>M.Gb R k e h D
 obtain⟨x,O,F⟩:=ok.fn
 refine iL.FX F ok.sc (λU H Q E ⟨G,h,e,z,y,no,q⟩=> ?_) λcdv A I s H U Q E b ⟨G,h,e,z,y,no,q⟩=> ?_
 ·by_cases n:e.length=d.ps
  ·rw [← y.length,n,ok.p]
  ·rw [a n]at q;exact q.elim
 ·by_cases n:e.length=d.ps
  rotate_left
  ·rw [a n]at q;exact q.elim
  rw [j n]at q
  refine⟨cm Y E (M.execs ⟨M.call p k,p.cl,p.con⟩ d.body),c3 (k:=2*k+1) ?_ d.body ok.AJ,?_⟩
  ·refine { N:=rfl,K:=rfl,cl:=l.cl,ow:=l.ow,nd:=ok.sc.nd,gu:=λx i=>rO i,rN:=λx i=>i,hZ:=λx i=>⟨tp i,.inl rfl⟩,mx:=λx i=>i,gl:=λx i=>pB i,calm:=rfl,room:=b.mono (by lia),eB:=b,pass:=Cy,blt:=l.blt,con:=l.con,fn:=λg W=> ?_,cls:=l.cls,fld:=l.fld,hB:=λc m q u=> ?_,eN:=λc q u=> ?_,hM:=Hy,lF:=rfl,CW:=rfl,ex:=rfl }
   ·obtain⟨J,V,L,o,r,X,T⟩:=Z g W
    exact⟨J,⟨V,L,o,r,X,T⟩⟩
   ·obtain⟨B,v,C⟩:=l.hB c m q u
    obtain⟨J,L,o,r⟩:=S q v
    exact⟨B,_,L,J,C,o,r⟩
   ·obtain⟨B,v,C⟩:=l.eN c q u
    obtain⟨J,L,o,r⟩:=S q v
    exact⟨B,_,L,J,C,o,r⟩
  ·refine⟨⟨G,H,h⟩,G,e.map k0++Aa2 _ y0,h,?_,EX z q⟩
   have:=IB z y no ok.n
   rw [n]at this
   exact this
def uf (f) (fa) (fd) (ps):bA P w Y.K mg base (eA P w) (2*0+1) fa fd ps (gy Y (M.call p 0 f)):=
 ⟨λg H Q E ⟨G,h,c,e,d,no,q⟩=>q.elim,λA a s H b i g Q E _ _ _ _ ⟨G,h,c,e,d,no,q⟩=>q.elim⟩
def C3 (j:oY Y p mg own d6 d0 ob) (all: ∀f,fns.contains f=u0-> ∃d,p.fns.lookup f=k0 d/\ ∃t:Txt Y.K mg f,mj t d fns own d6 d0 ob/\Ag9 Y.K (.ref t.fa)=u0/\mg (jg f)=k0 (.ref t.fa))
 (a: ∀q,ob.ms.contains q=u0-> ∃d,p.fns.lookup q=k0 d/\ ∃t:Txt Y.K mg q,mj t d fns own d6 d0 ob/\t.fa=Y.ma q): ∀k,(∀ f,fns.contains f=u0->px P w Y mg base p k f)/\ ∀q,ob.ms.contains q=u0->vq P w Y mg base p k q:=by
 intro k
 induction k with
 | zero=>
  refine⟨λf i=> ?_,λq e=> ?_⟩
  ·obtain⟨d,b,t,ok,g,h⟩:=all f i
   exact⟨t.ps,t.fa,t.fd,uf f _ _ _,ok.bd,g,h⟩
  ·obtain⟨d,b,t,ok,l⟩:=a q e
   exact⟨t.ps,t.fd,uf q _ _ _,ok.bd⟩
 | succ k c=>
  refine⟨λf i=> ?_,λq e=> ?_⟩
  ·obtain⟨d,b,t,ok,g,h⟩:=all f i
   exact⟨t.ps,t.fa,t.fd,o6 j ok b k c.1 c.2,ok.bd,g,h⟩
  ·obtain⟨d,b,t,ok,l⟩:=a q e
   exact⟨t.ps,t.fd,l▸o6 j ok b k c.1 c.2,ok.bd⟩
def nK (K:Aa6):Sp:=λb H Q _=> ∃(a:Addr) (ns:List Int),b= [.ref a]/\bz K H a (ns.map V.int)/\ns.length<=63/\ ∀H',Q (.bl u0) H'
theorem rL : ∀(ns:List Int),aa Y G H (ns.map M.D.int) (ns.map V.int)
 | []=>rfl
 | n::ns=>⟨_,_,rfl,rfl,rL ns⟩
def C5 (F:bA P w Y.K mg base (eA P w) n fa fd ps (gy Y (M.call p k "law"))) (fJ: ∀ns:List Int,ns.length<=63-> ∃h',M.call p k "law" [.v (.lst (ns.map .int))] []= .ok (.v (.bl true)) h'):
 bA P w Y.K mg base kO n fa fd ps (nK Y.K):=by
 refine bA.calm F ?_
 rintro y H Q E ⟨a,ns,t,d,l,q⟩
 subst t
 obtain⟨h',u⟩:=fJ ns l
 have fin: ∀G:Gh,ah Y G [] H->iB Y G H a _->gy Y (M.call p k "law") [.ref a] H Q (fun _ _ _=>False):=fun G j i=>by
  refine⟨G,[],[.v (.lst _)],j,⟨.ref a,[],rfl,⟨a,ns.map V.int,rfl,i,rL ns⟩,rfl⟩,λw h=> ?_,?_⟩
  ·cases Ah0.mp h;rfl
  ·rw [u]
   intro x m _ _ v r _
   cases (r)
   exact q m
 obtain d | d:=d
 ·refine fin ⟨λb=>b=a,λ_=>0,0⟩ ⟨rfl,λr c e=>by simp at e,λr s f=>absurd f (Ai8 _),λb g=> ?_⟩ (.inl ⟨rfl,d⟩)
  subst g
  obtain z | ⟨o,z⟩:=d
  ·exact⟨_,z⟩
  ·exact⟨_,z⟩
 ·exact fin ⟨λ_=>False,λ_=>0,0⟩ ⟨rfl,λr c e=>by simp at e,λr s f=>absurd f (Ai8 _),λb g=>g.elim⟩ (.inr d)
def walk {l:PySem.W.OpenLaw}{K:Params->Aa6}(k) (m:bj k callerA) (i:l.most=k0 63) (b:d.params.defaults= [])
 (n: ∀ w h,YP w h->(K w.params).In h)
 (F: ∀ w mg j h,(K w.params).In h->h.Ns mainGlobals mg->mg d.name=k0 (.ref j) →
   ∃fd:FuncData,(∀ s u,BindsTo s fd ⟨[u],[]⟩ [(x,u)])/\ ∀base:Heap,(K w.params).In base->base.Ns mainGlobals mg->bA l.prog w (K w.params) mg base kO k j fd [x] (nK (K w.params))):
 PySem.W.WalkO q loose XP YP l.row.toRowW d [] (λf vs=>PySem.call f vs):=
 L2.gB i (by decide) b m n F (λ_ _ a c e _ g=>⟨a,c,rfl,g,e,λ_=>rfl⟩) λ_ _ _ _ _ z=>z
end
open PySem PySem.W PyProof.Rows KTD
theorem p8 {f g:Str->Option (Str×Value)}: ∀ {l:List Str},(∀ n∈l,f n=g n)->l.filterMap f=l.filterMap g
 | [],_=>rfl
 | a::l,h=>by rw [Aj6,Aj6,h a Aa7,p8 λn b=>h n (Aa4 _ b)]
theorem rn: ∀ {ps:List Str}{a:List Value},ps.Nodup->a.length=ps.length->ps.filterMap (λn=>((ps.zip a).lookup n).map (n, ·))=ps.zip a
 | [],a,_,_=>rfl
 | p::ps,[],_,h=>by cases h
 | p::ps,u::a,d,h=>by
  have b:=Ag4.mp d
  rw [List.zip_cons_cons,List.filterMap_cons_some (by rw [List.lookup_cons_self];rfl)]
  congr 1
  refine(p8 λn c=> ?_).trans (rn b.2 (Nat.succ.inj h))
  rw [Ab5,beq_eq_false_iff_ne.mpr (λe=>b.1 (e▸c):n≠p)]
def DS {ps:List Str}{a:List Value}(h:a.length=ps.length)(b:n∈ps):((ps.zip a).lookup n).isSome=true:=by
 induction ps generalizing a with
 | nil=>cases b
 | cons p ps c=>
  cases a with
  | nil=>cases h
  | cons u a=>
   rw [List.zip_cons_cons,Ab5]
   cases e:n==p with
   | true=>rfl
   | false=>exact c (Nat.succ.inj h) ((Ac1.mp b).resolve_left (beq_eq_false_iff_ne.mp e))
abbrev d7 (a:FuncData):List Str:=a.params.args.map (·.arg)
def Cv (h1:fd.params.posonlyargs= []) (h2:fd.params.vararg=y0) (h3:fd.params.kwonlyargs= []) (h4:fd.params.kwarg=y0) (h5:fd.defaults= .none) (nd:(d7 fd).Nodup)(hl:us.length=(d7 fd).length):bindArgs fd ⟨us,[]⟩=pure ((d7 fd).zip us):=by
 have e: ∀k,((d7 fd).take k).filter (λn=>(((d7 fd).zip us).lookup n).isNone)= []:=λk=>List.filter_eq_nil_iff.mpr λn hn=>by
  have:=DS hl (An5 hn)
  cases q:((d7 fd).zip us).lookup n with
  | none=>rw [q]at this;cases this
  | some _=>simp
 have f:=rn nd hl
 obtain⟨n,q,⟨po,as,va,ko,kd,ka,df⟩,b,sc,g,cl,d,kV,doc,pm,an,cd,ct,bi⟩:=fd
 cases h1
 cases h2
 cases h3
 cases h4
 cases h5
 refine(if_neg ?_).trans ((if_neg ?_).trans ?_)
 ·simpa using Ak8 hl
 ·exact λz=>by
   have z':=(congrArg (λl:List Str=> !l.isEmpty) (e _)).symm.trans z
   cases z'
 ·refine Eq.trans ?_ (congrArg pure f)
  rw [show ∀k,List.drop k (none.getD #[]).toList= []from λk=>List.drop_nil,List.zip_nil_right]
  exact congrArg (λl:List Str=>(pure _:Sem _)) (Ag0 _)
noncomputable def lR (K:Frag) (a:Addr) (f:FuncData->List Stmt->Bool):Bool:=match K.lookup a with
 | some ⟨_,_,.func fd,_⟩=>(match fd.body with
  | .stmts b=>f fd b
  | _=>k9)
 | _=>k9
def vh {K:Frag}(h:lR K a f=u0): ∃j od fd sl b,K.lookup a=k0 ⟨j,od,.func fd,sl⟩/\fd.body= .stmts b/\f fd b=true:=by
 unfold lR at h
 split at h
 ·rename_i e
  split at h
  ·rename_i e2
   exact⟨_,_,_,_,_,e,e2,h⟩
  ·cases h
 ·cases h
def lM (K:Frag) (a:Addr) (b:FuncData) (N:List Str):Prop:=
 (b.globals=mainGlobals/\b.builtins=builtinsNs/\b.closure= []/\b.defaults= .none)/\codeIn K b.code b.qualname=u0/\keepIn K (.ref a)=u0 ∧
 (b.params.posonlyargs.isEmpty=u0/\b.params.vararg.isNone=u0/\b.params.kwonlyargs.isEmpty=u0/\b.params.kwarg.isNone=u0) ∧
 b.scope.kind= .function/\b.scope.isCoroutine=k9/\b.scope.isGenerator=k9/\N.Nodup/\N.take (d7 b).length=d7 b/\(∀ x∈d7 b,b.scope.names.lookup x=k0 .local\/b.scope.names.lookup x=k0 .cell)/\ ∀y∈b.scope.names,y.2≠ .free
instance {K:Frag}{a:Addr}{fd:FuncData}{N:List Str}:Decidable (lM K a fd N):=by unfold lM;infer_instance
def CB {K:Frag}(l:K.lookup a=k0 ⟨oc,od,.func fd,sl⟩) (n:fd.body= .stmts b) (p:lM K a fd N):
 ∃st x q,JG st=b/\Jk st=fd.scope/\iL K x q st a fd/\QA N (d7 fd) fd.scope/\ ∀j:List Value,j.length=(d7 fd).length->bindArgs fd ⟨j,[]⟩=pure ((d7 fd).zip j):=by
 obtain⟨⟨g,bi,i,d⟩,u,h,⟨o,a2,a3,a4⟩,s,k,r,c,e,t,f⟩:=p
 refine⟨.FunctionDef fd.name fd.params b [] y0 [] fd.scope y0 fd.name ⟨0,0,0,0⟩,fd.name,fd.qualname,rfl,rfl,⟨⟨oc,od,fd.kwdefaults,fd.doc,fd.pyModule,fd.annotations,fd.code,fd.closureTuple,sl,?_,l,u⟩,h⟩,⟨s,k,r,c,e,t,f⟩,λj m=>Cv (Af4.mp o) (Ah.mp a2) (Af4.mp a3) (Ah.mp a4) d (e▸(List.take_sublist _ _).nodup c) m⟩
 cases fd
 cases n
 cases g
 cases bi
 cases i
 cases d
 rfl
def nj:Option (Option Value)->Addr
 | some (k0 (.ref a))=>a
 | _=>0
abbrev el (K:Frag) (c:String):Addr:=nj (nsIn K mainGlobals (jg c))
abbrev nM (K:Frag) (c:String):Prop:=nsIn K mainGlobals (jg c)=k0 (k0 (.ref (el K c)))
noncomputable def gN (K:Frag) (a:gj) (q:String):Addr:=match a.mt.find? (·.2.2==q)with
 | some (c,m,_)=>nj (findIn K (.ref (el K c)) (jg m))
 | none=>match a.eN.find? (·.2==q)with
  | some (c,_)=>nj (findIn K (.ref (el K c)) "__init__")
  | none=>0
def DR (sc:Scope):List Str:=sc.names.filterMap λy=>if y.2= .local\/y.2= .cell then k0 y.1 else y0
def oI (K:Frag) (p:M.Prog) (c own g e:List String) (i:gj) (h:List (String×List String)) (a:Addr) (f:String):Bool:=lR K a λfd b=>match p.fns.lookup f with
 | some d=>(λN=>y9 (lM K a fd N/\N.length=d.n/\(d7 fd).length=d.ps/\d.ps<=d.n)&&bX ⟨fd.scope,N,c,own,g,e,i⟩ d.body b) (((h.lookup f).map λl=>l.map jg).getD (DR fd.scope))
 | none=>k9
def nr {K:Frag}(mg) (h:oI K p fns own d6 d0 ob nm a f=u0):
 ∃d,p.fns.lookup f=k0 d/\ ∃t:Txt K mg f,mj t d fns own d6 d0 ob/\t.fa=a/\keepIn K (.ref a)=u0/\ ∃j od sl,K.lookup a=k0 ⟨j,od,.func t.fd,sl⟩/\t.ps=d7 t.fd/\ ∀J:List Value,J.length=t.ps.length->bindArgs t.fd ⟨J,[]⟩=pure (t.ps.zip J):=by
 obtain⟨j,od,L,sl,b,l,r,h⟩:=vh h
 cases e:p.fns.lookup f with
 | none=>rw [e]at h;cases h
 | some d=>
  rw [e]at h
  generalize ((nm.lookup f).map λl=>l.map jg).getD _=N at h
  obtain⟨o,i⟩:=(Aa0 _ _).mp h
  obtain⟨q,v,m,k⟩:=of_decide_eq_true o
  obtain⟨s,x,u,rfl,n,F,g,c⟩:=CB l r q
  rw [← n]at g i
  exact⟨d,rfl,⟨s,a,L,_,d7 L⟩,⟨⟨x,u,F⟩,.all c,g,v,m,k,i⟩,rfl,F.kp,j,od,sl,l,rfl,c⟩
noncomputable def nY (K:Frag) (a:Addr) (f:List Value->Bool):Bool:=match K.lookup a with
 | some o=>(match o.data with
  | .seq b _=>y9 (o.cls= .type "tuple" /\o.dict=none/\b.size<=100)&&f b.toList
  | _=>k9)
 | none=>k9
def E1 (h:nY Y.K a f=u0): ∃j,f j=u0/\ ∀vs,Vals vs j-> ∀G H,eQ Y G H a vs:=by
 unfold nY at h
 split at h
 ·rename_i o e
  split at h
  ·rename_i b n e2
   obtain⟨d,g⟩:=(Aa0 _ _).mp h
   obtain⟨i,k,c⟩:=of_decide_eq_true d
   exact⟨_,g,λvs r G H=> .inr ⟨o,b,n,e,i,k,e2,Ab9 c (by rw [sizeLine_eq];decide),r⟩⟩
  ·cases h
 ·cases h
mutual
noncomputable def oQ (K:Frag):M.D->Value->Bool
 | .int i,.int j _=>y9 (i=j)
 | .str s,.str t _=>y9 (aB s=t)
 | .exc _ fs,.ref a=> !fs.isEmpty&&tabLook flatLooks (λb=>K.lookup b) a (vw fs)
 | .tup ds,.ref a=>nY K a λus=>fF K ds us
 | _,_=>k9
noncomputable def fF (K:Frag):List M.D->List Value->Bool
 | [],[]=>u0
 | d::ds,u::us=>oQ K d u&&fF K ds us
 | _,_=>k9
end
def tY (K:Frag) (x:String) (d:M.D):Bool:=match nsIn K mainGlobals (jg x)with
 | some (k0 u)=>oQ K d u
 | _=>k9
mutual
theorem tj {Y:Ge}: ∀ {d:M.D}{u:Value},oQ Y.K d u=u0-> ∃v,RelV v u/\ ∀G H,aA Y G H d v
 | .int _,.int _ _,h=>by cases of_decide_eq_true h;exact⟨.int _,⟨_,rfl⟩,λ_ _=>rfl⟩
 | .str _,.str _ _,h=>by cases of_decide_eq_true h;exact⟨.str _,⟨_,rfl⟩,λ_ _=>rfl⟩
 | .exc _ fs,.ref a,h=>by
  obtain⟨h1,h2⟩:=(Aa0 _ _).mp h
  exact⟨.ref _,rfl,λ_ _=> .inr ⟨λe=>(by rw [e]at h1;cases h1),_,rfl,h2⟩⟩
 | .tup ds,.ref a,h=>by
  obtain⟨us,h1,h2⟩:=E1 h
  obtain⟨vs,r,h3⟩:=eL h1
  exact⟨.ref a,rfl,λG H=>⟨a,vs,rfl,h2 vs r G H,h3 G H⟩⟩
theorem eL {Y:Ge}: ∀ {ds:List M.D}{us:List Value},fF Y.K ds us=u0-> ∃vs,Vals vs us/\ ∀G H,aa Y G H ds vs
 | [],[],_=>⟨[],.nil,λ_ _=>rfl⟩
 | d::ds,u::us,h=>by
  obtain⟨h1,h2⟩:=(Aa0 _ _).mp h
  obtain⟨v,r1,h3⟩:=tj h1
  obtain⟨vs,r2,h4⟩:=eL h2
  exact⟨v::vs,.cons r1 r2,λG H=>⟨v,vs,rfl,h3 G H,h4 G H⟩⟩
end
theorem u4 : ∀ {l:List (String×α)}{x}{d},l.lookup x=k0 d->(x,d)∈l
 | (k,v)::l,x,d,h=>by
  rw [Ab5]at h
  by_cases q:(x==k)=u0
  ·rw [q]at h;cases h;rw [eq_of_beq q];exact Aa7
  ·rw [eq_false_of_ne_true q]at h;exact Aa4 _ (u4 h)
abbrev sC (K:Frag) (C:Addr):Prop:=plainGet K C Str.empty=true/\hasDictIn K C=true/\plainOver K C=true/\findIn K (.ref C) "__setattr__" =some (some (.builtin "object.__setattr__"))
def oM (K:Frag) (p:M.Prog) (b own e d:List String) (a:gj) (g:List (String×List String)):Prop:=
 (∀ x∈c6,nsIn K mainGlobals (jg x)=k0 y0)/\(∀ x∈p.con,tY K x.1 x.2=u0)/\(∀ c∈own,nM K c) ∧
 (∀ c∈a.fl,sC K (el K c.1)/\findIn K (.ref (el K c.1)) (jg c.2)=k0 y0) ∧
 (∀ c∈a.mt,sC K (el K c.1)/\a.ms.contains c.2.2=u0/\findIn K (.ref (el K c.1)) (jg c.2.1)=k0 (k0 (.ref (gN K a c.2.2)))/\isFn K (.ref (gN K a c.2.2))=u0/\keepIn K (.ref (gN K a c.2.2))=u0) ∧
 (∀ c∈a.eN,nM K c.1/\a.ms.contains c.2=true/\makesIn K (el K c.1)=true/\findIn K (.ref (el K c.1)) "__init__" =some (some (.ref (gN K a c.2)))/\isFn K (.ref (gN K a c.2))=true/\keepIn K (.ref (el K c.1))=true) ∧
 (∀ f∈b,nM K f/\oI K p b own e d a g (el K f) f=true)/\(∀ q∈a.ms,oI K p b own e d a g (gN K a q) q=true)/\b.contains "law" =true/\lR K (el K "law") (fun fd _=>decide (d7 fd= [("_law_script" :Str)]))=true
set_option synthInstance.maxSize 1000 in
instance {K:Frag}{p:M.Prog}{fns own d6 d0:List String}{ob:gj}{nm:List (String×List String)}:Decidable (oM K p fns own d6 d0 ob nm):=by unfold oM;infer_instance
def qZ  [BEq α] [LawfulBEq α] {l:List α}(h:l.contains x=u0):x∈l:=List.contains_iff_mem.mp h
def ik {l:OpenLaw}{K:Frag}(p) (fns own d6 d0) (ob) (nm) (k) (X:K.In h) (G:h.Ns mainGlobals mg) (D:mg "law" =some (.ref fa)) (T:decide (oM K p fns own d6 d0 ob nm)=true)
 (fJ: ∀ns:List Int,ns.length<=63-> ∃h',M.call p (k+1) "law" [.v (.lst (ns.map .int))] []= .ok (.v (.bl true)) h'):
 ∃fd:FuncData,(∀ s v,BindsTo s fd ⟨[v],[]⟩ [("_law_script",v)])/\ ∀base:Heap,K.In base->base.Ns mainGlobals mg->bA l.prog w K mg base kO (2*(k+1)+1) fa fd ["_law_script"] (nK K):=by
 obtain⟨O,t0,W,t6,S,t8,E,H,j,F⟩:=of_decide_eq_true T
 have J:oY ⟨K,el K,p.cl,own,gN K ob⟩ p mg own d6 d0 ob:=by
  refine⟨rfl,rfl,λx Q=>mg_none_of X G (O x Q),λx d a=> ?_,λc b=>mg_of X G (W c (qZ b)),λc f b=> ?_,λc m q b=> ?_,λc q b=> ?_⟩
  ·have z:=t0 _ (u4 a)
   unfold tY at z
   split at z
   ·rename_i u e
    obtain⟨v,r⟩:=tj (Y:=⟨K,el K,p.cl,own,gN K ob⟩) z
    exact⟨u,v,mg_of X G e,r⟩
   ·cases z
  ·obtain⟨⟨e1,e2,A,o⟩,n⟩:=t6 _ (qZ b)
   exact⟨⟨e1,e2,A,o⟩,n⟩
  ·obtain⟨⟨e1,e2,A,o⟩,n,C,V,Z⟩:=S (c,m,q) (qZ b)
   exact⟨⟨e1,e2,A,o⟩,n,C,V,Z⟩
  ·obtain⟨e1,e2,A,o,n,C⟩:=t8 (c,q) (qZ b)
   exact⟨mg_of X G e1,e2,A,o,n,C⟩
 have y:=λf B=>mg_of X G (E f (qZ B)).1
 have e:el K "law" =fa:=by
  have:=(y "law" j).symm.trans D
  cases this
  rfl
 obtain⟨d,a,t,ok,g,I,oc,od,sl,R,ep,U⟩:=nr mg (E "law" (qZ j)).2
 obtain⟨_,_,fd,_,_,i,_,z⟩:=vh F
 rw [R]at i
 cases i
 have z:=ep.trans (of_decide_eq_true z)
 refine⟨t.fd,λs v=> .of_eq ((U [v] (by rw [z];rfl)).trans (by rw [z];rfl)),λbase _ _=> ?_⟩
 have L:=C3 (P:=l.prog) (w:=w) (base:=base) J (λf B=>by
  obtain⟨d,a,t,ok,g,I,_⟩:=nr mg (E f (qZ B)).2
  exact⟨d,a,t,ok,g▸I,g▸y f B⟩) (λq N=>by
  obtain⟨d,a,t,ok,g,_⟩:=nr mg (H q (qZ N))
  exact⟨d,a,t,ok,g⟩) k
 have:=C5 (o6 J ok a k L.1 L.2) fJ
 rw [g,e,z]at this
 exact this
end L2.MS
namespace Wf
def gm (t k):t / 2 ^ k % 2=(t.testBit k).toNat:=(Nat.toNat_testBit t k).symm
theorem zN: ∀(n a b:Nat),a<=n->(a ||| b)+(a &&& b)=a+b
 | 0,a,b,h=>by
  have:a=0:=by omega
  subst this;simp
 | n+1,a,b,h=>by
  by_cases c:a=0
  ·subst c;simp
  have i:=zN n (a / 2) (b / 2) (by omega)
  have e1:=Al5 (a ||| b) 2
  have e2:=Al5 (a &&& b) 2
  rw [Nat.or_div_two]at e1
  rw [Nat.and_div_two]at e2
  have d:(a ||| b) % 2=1↔a % 2=1\/b % 2=1:=Nat.or_mod_two_eq_one
  have f:(a &&& b) % 2=1↔a % 2=1/\b % 2=1:=Nat.and_mod_two_eq_one
  have k:=Al5 a 2
  have l:=Al5 b 2
  have j:(a ||| b) % 2<2:=Aj2 _ (by decide)
  have g:(a &&& b) % 2<2:=Aj2 _ (by decide)
  generalize (a ||| b) % 2=p at*
  generalize (a &&& b) % 2=q at*
  by_cases c:a % 2=1<;>by_cases e:b % 2=1
  ·have:p=1:=d.mpr (.inl c)
   have:q=1:=f.mpr ⟨c,e⟩
   omega
  ·have:p=1:=d.mpr (.inl c)
   have: ¬q=1:=λh=>e (f.mp h).2
   omega
  ·have:p=1:=d.mpr (.inr e)
   have: ¬q=1:=λh=>c (f.mp h).1
   omega
  ·have: ¬p=1:=λh=>(d.mp h).elim c e
   have: ¬q=1:=λh=>c (f.mp h).1
   omega
def Hu (a b:Nat):a-(a &&& b)=a ^^^ (a &&& b):=by
 have h:=zN _ (a ^^^ (a &&& b)) (a &&& b) (Aa8 _)
 have e1:(a ^^^ (a &&& b)) ||| (a &&& b)=a:=Aj3 λk=>by
  simp [Ah7]
  cases a.testBit k<;>cases b.testBit k<;>rfl
 have e2:(a ^^^ (a &&& b)) &&& (a &&& b)=0:=Aj3 λk=>by
  simp only [Nat.testBit_xor,Ah7,Af9]
  cases a.testBit k<;>cases b.testBit k<;>rfl
 lia
def bu (a b k:Nat):(a-(a &&& b)).testBit k=(a.testBit k&& !b.testBit k):=by
 rw [Hu]
 simp [Ah7]
 cases a.testBit k<;>cases b.testBit k<;>rfl
def av (n t:Nat):List (Nat×Nat):=((Aa5 (n*n)).filter t.testBit).map λk=>(k / n,k % n)
def cK (n:Nat) (ps:List (Nat×Nat)):Nat:=ps.foldl (λt p=>t ||| 2 ^ (p.1*n+p.2)) 0
def gg (n:Nat) (ps:List (Nat×Nat)):Prop:= ∀p∈ps,p.1<n/\p.2<n
def place_lt {n a b:Nat}(c:a<n) (d:b<n):a*n+b<n*n:=by
 have:a*n+n<=n*n:=by
  have:=An7 n (Nat.succ_le_of_lt c)
  rwa [Nat.succ_mul]at this
 omega
def aE {n a b:Nat}(c:b<n):(a*n+b) / n=a:=by
 rw [Ak7,Nat.mul_add_div (by lia),Nat.div_eq_of_lt c,Nat.add_zero]
def aI {n a b:Nat}(c:b<n):(a*n+b) % n=b:=by
 rw [Ak7,Nat.mul_add_mod,Nat.mod_eq_of_lt c]
def bh {n k:Nat}(h:k<n*n):k / n<n:=Nat.div_lt_of_lt_mul h
def a8 {n k:Nat}(h:k<n*n):k % n<n:=Aj2 _ (by
 cases n with
 | zero=>simp at h
 | succ m=>lia)
def bB (n k:Nat):k / n*n+k % n=k:=by rw [Ak7];exact Al5 k n
theorem rJ (n): ∀(ps:List (Nat×Nat)) (t k:Nat),(ps.foldl (λt p=>t ||| 2 ^ (p.1*n+p.2)) t).testBit k=(t.testBit k||ps.any λp=>y9 (p.1*n+p.2=k))
 | [],t,k=>by simp
 | p::r,t,k=>by
  rw [Ak,rJ n r,Af6,Ad3,Ae8,Bool.or_assoc]
def cy (n) (ps) (k):(cK n ps).testBit k=ps.any λp=>y9 (p.1*n+p.2=k):=by
 unfold cK;rw [rJ];simp
def cT (h:gg n ps):cK n ps<2 ^ (n*n):=by
 refine Nat.lt_pow_two_of_testBit _ λi b=> ?_
 rw [cy,Aj0]
 intro p a
 have:=h p a
 have:=place_lt this.1 this.2
 simp;omega
def bF :p∈av n t↔ ∃k,k<n*n/\t.testBit k=u0/\p=(k / n,k % n):=by
 unfold av
 simp [Ab7]
 constructor
 ·rintro ⟨k,⟨b,a⟩,rfl⟩;exact⟨k,b,a,rfl⟩
 ·rintro ⟨k,b,a,rfl⟩;exact⟨k,⟨b,a⟩,rfl⟩
def bQ (n t):gg n (av n t):=λp b=>by
 obtain⟨k,a,c,rfl⟩:=bF.mp b
 exact⟨bh a,a8 a⟩
def la (ps:List (Nat×Nat)):List (Nat×Nat):=ps.map λp=>(p.2,p.1)
def eC (h:gg n ps):gg n (la ps):=λp b=>by
 obtain⟨q,a,rfl⟩:=Ab8.mp b
 exact⟨(h q a).2,(h q a).1⟩
def bI (n t:Nat):Nat:=cK n (la (av n t))
def fE (n t):bI n t<2 ^ (n*n):=cT (eC (bQ n t))
def eO (f:k<n*n):(bI n t).testBit k=t.testBit (k % n*n+k / n):=by
 unfold bI
 rw [cy]
 have c:=bh f
 have m:=a8 f
 by_cases h:t.testBit (k % n*n+k / n)=u0
 ·rw [h,Ad0]
  refine⟨(k / n,k % n),?_,?_⟩
  ·refine Ab8.mpr ⟨(k % n,k / n),bF.mpr ⟨k % n*n+k / n,place_lt m c,h,?_⟩,rfl⟩
   rw [aE c,aI c]
  ·simp [decide_eq_true_eq];exact bB n k
 ·have d:=by simpa using h
  rw [d,Aj0]
  intro p i
  obtain⟨q,l,rfl⟩:=Ab8.mp i
  obtain⟨j,a,b,rfl⟩:=bF.mp l
  simp [decide_eq_true_eq]
  intro e
  subst e
  have g:=bh a
  have a2:=a8 a
  rw [aE g,aI g,bB]at d
  rw [d]at b
  cases b
def bD (n:Nat):Nat:=cK n ((Aa5 n).map λa=>(a,a))
def dR (n):gg n ((Aa5 n).map λa=>(a,a)):=λp c=>by
 obtain⟨a,b,rfl⟩:=Ab8.mp c
 exact⟨Ab7.mp b,Ab7.mp b⟩
def KG (c:k<n*n):(bD n).testBit k=y9 (k / n=k % n):=by
 unfold bD
 rw [cy]
 have d:=bh c
 have g:=a8 c
 by_cases h:k / n=k % n
 ·rw [decide_eq_true h,Ad0]
  refine⟨_,Ab8.mpr ⟨k / n,Ab7.mpr d,rfl⟩,?_⟩
  simp [decide_eq_true_eq]
  have:=bB n k
  rw [← h]at this
  exact this
 ·rw [decide_eq_false h,Aj0]
  intro p f
  obtain⟨a,b,rfl⟩:=Ab8.mp f
  simp [decide_eq_true_eq]
  intro e
  subst e
  have b:=Ab7.mp b
  exact h (by rw [aE b,aI b])
def b8 (n p b:Nat):Nat:=p / 2 ^ (b*n) % 2 ^ n
def joinM (n o p:Nat):Nat:=(av n o).foldl (λt q=>t ||| b8 n p q.2*2 ^ (q.1*n)) 0
def cW (n p b):b8 n p b<2 ^ n:=Aj2 _ (Nat.pow_pos (by decide))
def rf (a:c<n):(b8 n p b).testBit c=p.testBit (b*n+c):=by
 unfold b8
 rw [Ag2,decide_eq_true a,Ad9,Ag3,Ao7]
def Dh (d:x<2 ^ n) (c:0<n):(x*2 ^ (a*n)).testBit k=(y9 (k / n=a)&&x.testBit (k % n)):=by
 rw [Nat.testBit_mul_two_pow]
 have e:=bB n k
 by_cases h:k / n=a
 ·subst h
  rw [decide_eq_true rfl,Ad9]
  have:k / n*n<=k:=by lia
  rw [decide_eq_true (this),Ad9]
  rw [show k-k / n*n=k % n by lia]
 ·rw [decide_eq_false h,Af0]
  by_cases b:k>=a*n
  ·rw [decide_eq_true b,Ad9]
   refine Ai4 (Ab3 d (Ae0 (by decide) ?_))
   have f:a<k / n:=by
    have:a<=k / n:=(Nat.le_div_iff_mul_le c).mpr b
    lia
   have g:=An7 n f
   lia
  ·rw [decide_eq_false b,Af0]
theorem uo (n p) (a:0<n): ∀(ps:List (Nat×Nat)) t k,(ps.foldl (λt q=>t ||| b8 n p q.2*2 ^ (q.1*n)) t).testBit k=(t.testBit k||ps.any λq=>y9 (k / n=q.1)&&(b8 n p q.2).testBit (k % n))
 | [],t,k=>by simp
 | q::r,t,k=>by
  rw [Ak,uo n p a r,Af6,Dh (cW n p q.2) a,Ae8,Bool.or_assoc]
def D1 (h:k<n*n):0<n:=by
 cases n with
 | zero=>simp at h
 | succ m=>omega
def JB (n o p k:Nat):Bool:=(Aa5 n).any λb=>o.testBit (k / n*n+b)&&p.testBit (b*n+k % n)
def b3 (d:k<n*n):(joinM n o p).testBit k=JB n o p k:=by
 have m:=D1 d
 have i:=bh d
 have h:=a8 d
 unfold joinM JB
 rw [uo n p m]
 simp [Bool.false_or]
 rw [An1,Ad0,Ad0]
 constructor
 ·rintro ⟨q,l,a⟩
  obtain⟨j,c,g,rfl⟩:=bF.mp l
  rw [Aa0,decide_eq_true_eq]at a
  obtain⟨e,a⟩:=a
  refine⟨j % n,Ab7.mpr (a8 c),?_⟩
  rw [rf h]at a
  have e:=e
  rw [e,bB,g,a];rfl
 ·rintro ⟨b,a,f⟩
  have a:=Ab7.mp a
  rw [Aa0]at f
  refine⟨_,bF.mpr ⟨k / n*n+b,place_lt i a,f.1,by rw [aE a,aI a]⟩,?_⟩
  rw [rf h,f.2]
  simp
def c8 (n o p):joinM n o p<2 ^ (n*n):=by
 have c: ∀(a:List (Nat×Nat)) t,(∀ q∈a,q.1<n)->t<2 ^ (n*n)->a.foldl (λt q=>t ||| b8 n p q.2*2 ^ (q.1*n)) t<2 ^ (n*n):=by
  intro a
  induction a with
  | nil=>intro t _ h;exact h
  | cons q r g=>
   intro t d f
   refine g _ (λz i=>d z (Aa4 _ i)) (Am2 f ?_)
   have b:=d q Aa7
   have:=cW n p q.2
   have e:2 ^ n*2 ^ (q.1*n)<=2 ^ (n*n):=by
    rw [← Nat.pow_add]
    refine Ae0 (by decide) ?_
    have:=An7 n (Nat.succ_le_of_lt b)
    lia
   exact Ab3 (Nat.mul_lt_mul_of_pos_right this (Nat.pow_pos (by decide))) e
 exact c _ _ (λq b=>(bQ n o q b).1) (Nat.pow_pos (by decide))
def ec (b:s<2 ^ n) (c:t<2 ^ n) (h: ∀k,k<n->s.testBit k=t.testBit k):s=t:=
 Aj3 λk=>by
  by_cases a:k<n
  ·exact h k a
  ·rw [Ai4 (Ab3 b (Ae0 (by decide) (by lia))),Ai4 (Ab3 c (Ae0 (by decide) (by lia)))]
def ej (d:a<n) (c:b<n):(bD n).testBit (a*n+b)=y9 (a=b):=by
 rw [KG (place_lt d c),aE c,aI c]
def fy (n):bD n<2 ^ (n*n):=cT (dR n)
inductive TC (n t a:Nat):Nat->Prop
 | step {b:Nat}:a<n->b<n->t.testBit (a*n+b)=u0->TC n t a b
 | more {b c:Nat}:TC n t a b->b<n->c<n->t.testBit (b*n+c)=u0->TC n t a c
def TC.trans (h1:TC n t a b) (d:TC n t b c):TC n t a c:=by
 induction d with
 | step x y z=>exact .more h1 x y z
 | more _ x y z e=>exact .more e x y z
structure eY (n t r:Nat):Prop where
 lt:r<2 ^ (n*n)
 bit: ∀a b,a<n->b<n->(r.testBit (a*n+b)=u0↔TC n t a b)
structure ft (n t r:Nat):Prop where
 lt:r<2 ^ (n*n)
 sub: ∀a b,a<n->b<n->r.testBit (a*n+b)=u0->TC n t a b
 sup: ∀k,t.testBit k=u0->r.testBit k=u0
def ft.start (h:t<2 ^ (n*n)):ft n t t:=⟨h,λ_ _ b a h=> .step b a h,λ_ h=>h⟩
def cu (d:c<n):JB n o p (a*n+c)=(Aa5 n).any λb=>o.testBit (a*n+b)&&p.testBit (b*n+c):=by
 unfold JB
 rw [aE d,aI d]
def ft.next (h:ft n t r):ft n t (r ||| joinM n r r):=by
 refine⟨Am2 h.lt (c8 _ _ _),λa b g f d=> ?_,λk i=> ?_⟩
 ·rw [Af6,Ae7]at d
  obtain d | d:=d
  ·exact h.sub a b g f d
  ·rw [b3 (place_lt g f),cu f,Ad0]at d
   obtain⟨c,e,d⟩:=d
   have e:=Ab7.mp e
   rw [Aa0]at d
   exact(h.sub a c g e d.1).trans (h.sub c b e f d.2)
 ·rw [Af6,h.sup k i,Al8]
def Hw {a b:Nat}(h:a ||| b=a) (k) (c:b.testBit k=u0):a.testBit k=true:=by
 rw [← h,Af6,c,Bool.or_true]
def ft.done (h:ft n t r) (e:r ||| joinM n r r=r):eY n t r:=by
 refine⟨h.lt,λa b j k=>⟨h.sub a b j k,λi=> ?_⟩⟩
 induction i with
 | step c d f=>exact h.sup _ f
 | more i c d f g=>
  have g:=g c
  refine Hw e _ ?_
  rw [b3 (place_lt j d),cu d,Ad0]
  exact⟨_,Ab7.mpr c,by rw [g,h.sup _ f];rfl⟩
def ft.grow (h:ft n t r) (ne:r ||| joinM n r r≠r):r<r ||| joinM n r r:=by
 have:= @Nat.left_le_or r (joinM n r r)
 lia
structure LG (n t a:Nat) (re wa:List Nat):Prop where
 an:a<n
 nd:re.Nodup
 tc: ∀x∈re,TC n t a x
 wl: ∀x∈wa,x<n/\(x=a\/x∈re)
 cl: ∀x,(x=a\/x∈re)->x∉wa-> ∀b,b<n->t.testBit (x*n+b)=u0->b∈re
structure Lk (n t a:Nat) (re wa:List Nat) (h b:Nat):Prop where
 an:a<n
 nd:re.Nodup
 tc: ∀x∈re,TC n t a x
 wl: ∀x∈wa,x<n/\(x=a\/x∈re)
 cl: ∀x,(x=a\/x∈re)->x∉wa->x≠h-> ∀b,b<n->t.testBit (x*n+b)=u0->b∈re
 hn:h<n
 hr:h=a\/h∈re
 hb: ∀b',b'<b->t.testBit (h*n+b')=u0->b'∈re
end Wf
namespace M
noncomputable abbrev sL:Tx:=[115,111,109,101,32,110,111,32,108,101,97,115,116,32,109,111,115,116,32,101,97,99,104,32,105,110,32,97,110,100,32,111,114,32,110,111,116,32,115,97,109,101,32,97,108,108,32,110,111,110,101,32,107,105,110,100,32,116,105,101,32,115,97,121]
abbrev fV:Tx:=[98,114,111,107,101,110]
abbrev fu:Tx:=[108,101,97,115,116]
abbrev vD:Tx:=[97,98,99,100,101,102,103,104,105,106,107,108,109,110,111,112,113,114,115,116,117,118,119,120,121,122]
abbrev f7:Tx:=[110,111,110,101]
abbrev f6:Tx:=[115,111,109,101]
abbrev gG:Tx:=[109,111,115,116]
abbrev lB:Tx:=[101,97,99,104,108,101,97,115,116]
abbrev hC:Tx:=[115,112,108,105,116]
abbrev ic:Tx:=[101,113,117,97,108]
abbrev gq:Tx:=[110,111,116]
abbrev iu:Tx:=[115,97,109,101]
abbrev fY:Tx:=[105,110]
abbrev n9:Tx:=[106,111,105,110,101,100]
abbrev nT:Tx:=[116,117,114,110,101,100]
abbrev lx:Tx:=[115,112,108,105,116,115]
abbrev iC:Tx:=[97,108,108]
abbrev uA:Tx:=[101,97,99,104,109,111,115,116]
abbrev gw:Tx:=[111,114]
abbrev mM:Tx:=[108,101,115,115]
abbrev km:Tx:=[97,110,100]
abbrev gW:Tx:=[110,111]
abbrev uQ:Tx:=[99,108,111,115,101,100]
abbrev nN:Tx:=[112,108,117,115]
abbrev oD:Tx:=[98,111,116,104]
abbrev oG:Tx:=[110,97,109,101]
abbrev S.r (c x:E):S:= .iff c (.cons (.ret x) .nil) .nil
abbrev E.v0:E:= .var 0
abbrev E.v1:E:= .var 1
abbrev E.v2:E:= .var 2
abbrev E.v3:E:= .var 3
abbrev E.v4:E:= .var 4
abbrev E.v5:E:= .var 5
abbrev E.v6:E:= .var 6
abbrev E.v7:E:= .var 7
abbrev E.v8:E:= .var 8
abbrev E.v9:E:= .var 9
abbrev E.i0:E:= .int 0
abbrev E.i1:E:= .int 1
abbrev E.i2:E:= .int 2
abbrev E.i3:E:= .int 3
abbrev E.i4:E:= .int 4
abbrev Es.a (x:E):Es:= .cons x .nil
abbrev Es.b (x y:E):Es:= .cons x (.cons y .nil)
abbrev Es.c (x y z:E):Es:= .cons x (.cons y (.cons z .nil))
abbrev Es.d (x y z u:E):Es:= .cons x (.cons y (.cons z (.cons u .nil)))
abbrev Es.f (x y z u v:E):Es:= .cons x (.cons y (.cons z (.cons u (.cons v .nil))))
abbrev Es.g (x y z u v w:E):Es:= .cons x (.cons y (.cons z (.cons u (.cons v (.cons w .nil)))))
abbrev Ss.a (x:S):Ss:= .cons x .nil
def Cs:Fn:=⟨1,1,.cons (.ret (.and (.cq .v0 .int) (.not (.cq .v0 .bool)))) .nil⟩
def ZA:Fn:=⟨2,2,.cons (.ret (.and (.call "is_whole" (.a .v0)) (.chain .le .lt .i0 .v0 .v1))) .nil⟩
noncomputable def ZD:E:= .comp [0] u0 1 [1,0] (.ao (.bin .mul .v0 .v0)) u0 (.bin .band (.bin .shr .v1 .v0) .i1) (.bi .divmod (.b .v0 .v2))
def QN:Fn:=⟨2,2,.cons (.ret ZD) .nil⟩
def Qh:Ss:= .cons (.ag 2 (.bin .bor .v2 (.bin .shl .i1 (.bin .add (.bin .mul .v3 .v0) .v4)))) .nil
def QM:Fn:=⟨2,5,.cons (.ag 2 .i0) (.cons (.for [3,4] k9 (.seq .v1) Qh) (.a (.ret .v2)))⟩
def vR:Fn:=⟨2,2,.cons (.ret (.bin .band .v0 .v1)) .nil⟩
def rQ:Fn:=⟨2,2,.cons (.ret (.bin .bor .v0 .v1)) .nil⟩
def QT:Fn:=⟨2,2,.cons (.ret (.bin .band .v0 (.inv .v1))) .nil⟩
def Jz:E:= .comp [0,1] false 2 [] (.seq (.call "pairs_of" (.b .v0 .v1))) false (.bl true) (.tup (.b .v1 .v0))
def rh:Fn:=⟨2,2,.cons (.ret (.call "gathered" (.b .v0 Jz))) .nil⟩
noncomputable def Xr:Ss:= .cons (.ag 7 (.bin .band (.bin .shr .v2 (.bin .mul .v6 .v0)) .v3)) (.a (.ag 4 (.bin .bor .v4 (.bin .shl .v7 (.bin .mul .v5 .v0)))))
def tU:Fn:=⟨3,8,.cons (.ag 3 (.bin .sub (.bin .shl .i1 .v0) .i1)) (.cons (.ag 4 .i0) (.cons (.for [5,6] k9 (.seq (.call "pairs_of" (.b .v0 .v1))) Xr) (.a (.ret .v4))))⟩
def Xs:E:= .cmp .ne .v3 .v2
def Jr:Ss:= .cons (.ag 2 .v3) (.a (.ag 3 (.call "either" (.b .v2 (.call "joined" (.c .v0 .v2 .v2))))))
def tI:Fn:=⟨2,4,.cons (.ag 2 .v1) (.cons (.ag 3 (.call "either" (.b .v2 (.call "joined" (.c .v0 .v2 .v2))))) (.cons (.iX 100000 Xs Jr) (.a (.ret .v2))))⟩
def jP:E:= .comp [0] u0 1 [] (.ao .v0) k9 (.bl u0) (.tup (.b .v0 .v0))
def uu:Fn:=⟨1,1,.cons (.ret (.call "gathered" (.b .v0 jP))) .nil⟩
def sx:Fn:=⟨1,1,.cons (.ret (.bin .sub (.bin .shl .i1 (.bin .mul .v0 .v0)) .i1)) .nil⟩
def Jg:E:= .comp [0] u0 1 [4] (.ao .v3) u0 (.bin .band (.bin .shr .v1 .v0) .i1) (.tup (.b .v0 .v0))
def Zo:Fn:=⟨3,5,.cons (.r (.cmp .mem .v2 (.ix .v0 .i1)) (.ix (.ix .v1 .i2) (.dj .index (.ix .v0 .i1) (.a .v2)))) (.cons (.ag 3 (.ix .v1 .i0)) (.cons (.ag 4 (.ix (.ix .v1 .i1) (.dj .index (.ix .v0 .i0) (.a .v2)))) (.a (.ret (.call "gathered" (.b .v3 Jg))))))⟩
def Zy:Fn:=⟨3,3,.cons (.r (.cmp .eq .v1 (.str iu)) (.call "same" (.a .v0))) (.cons (.r (.cmp .eq .v1 (.str iC)) (.call "every" (.a .v0))) (.cons (.r (.cmp .eq .v1 (.str f7)) .i0) (.cons (.r (.cmp .eq .v1 (.str nN)) (.call "either" (.b (.ix .v2 .i0) (.ix .v2 .i1)))) (.cons (.r (.cmp .eq .v1 (.str mM)) (.call "without" (.b (.ix .v2 .i0) (.ix .v2 .i1)))) (.cons (.r (.cmp .eq .v1 (.str oD)) (.call "common" (.b (.ix .v2 .i0) (.ix .v2 .i1)))) (.cons (.r (.cmp .eq .v1 (.str n9)) (.call "joined" (.c .v0 (.ix .v2 .i0) (.ix .v2 .i1)))) (.cons (.r (.cmp .eq .v1 (.str nT)) (.call "turned" (.b .v0 (.ix .v2 .i0)))) (.a (.ret (.call "closed" (.b .v0 (.ix .v2 .i0))))))))))))⟩
def qC:E:= .comp [0] u0 1 [4] (.ao .v0) k9 (.bl u0) (.dj .count .v1 (.a .v0))
def JA:E:= .comp [0,1] k9 2 [] (.seq .v3) k9 (.bl u0) .v0
def pE:Fn:=⟨3,5,.cons (.ag 3 (.call "pairs_of" (.b .v0 .v2))) (.cons (.r (.cmp .mem .v1 (.tup (.b (.str fu) (.str gG)))) (.lst (.a (.bi .len (.a .v3))))) (.cons (.ag 4 JA) (.a (.ret qC))))⟩
def wC:E:= .comp [0,1] k9 2 [] (.seq .v5) k9 (.bl u0) .v1
def WB:E:= .comp [0,1] k9 2 [] (.seq .v5) k9 (.bl u0) .v0
def Ws:E:= .comp [0] u0 1 [0,1] (.seq (.dH .v2 .i1)) k9 (.bl u0) (.call "bounds" (.c .v1 .v2 .v0))
def bE:Fn:=⟨3,9,.cons (.ag 3 (.ix .v2 .i0)) (.cons (.iff (.cmp .eq .v3 (.str oG)) (.cons (.ag 4 (.ix .v2 .i1)) (.a (.ret (.tup (.b (.call "value_of_name" (.c .v0 (.ix .v1 .i0) .v4)) (.call "value_of_name" (.c .v0 (.ix .v1 .i1) .v4))))))) .nil) (.cons (.ag 5 Ws) (.cons (.ag 6 WB) (.cons (.ag 7 wC) (.cons (.r (.cmp .eq .v3 (.str mM)) (.tup (.b (.call "without" (.b (.ix .v6 .i0) (.ix .v7 .i1))) (.call "without" (.b (.ix .v7 .i0) (.ix .v6 .i1)))))) (.cons (.ag 8 (.ix (.ix .v1 .i0) .i0)) (.a (.ret (.tup (.b (.call "made" (.c .v8 .v3 .v6)) (.call "made" (.c .v8 .v3 .v7))))))))))))⟩
def XX:Fn:=⟨2,2,.cons (.r .v0 (.bl u0)) (.cons (.r .v1 (.bl k9)) (.a (.ret .ak)))⟩
def qL:Fn:=⟨1,1,.cons (.ret (.call "settled" (.b (.cmp .cH .v0 (.bl false)) (.cmp .cH .v0 (.bl true))))) .nil⟩
def XN:Fn:=⟨2,2,.cons (.ret (.call "settled" (.b (.and (.cmp .cH .v0 (.bl true)) (.cmp .cH .v1 (.bl true))) (.or (.cmp .cH .v0 (.bl false)) (.cmp .cH .v1 (.bl false)))))) .nil⟩
def QX:Fn:=⟨2,2,.cons (.ret (.call "settled" (.b (.or (.cmp .cH .v0 (.bl true)) (.cmp .cH .v1 (.bl true))) (.and (.cmp .cH .v0 (.bl false)) (.cmp .cH .v1 (.bl false)))))) .nil⟩
def ZY:Fn:=⟨2,2,.cons (.ret (.call "settled" (.b (.cmp .eq (.call "without" (.b (.ix .v0 .i1) (.ix .v1 .i0))) .i0) (.cmp .ne (.call "without" (.b (.ix .v0 .i0) (.ix .v1 .i1))) .i0)))) .nil⟩
def Jt:E:= .comp [0] u0 1 [2] (.seq .v5) k9 (.bl u0) (.cmp .le .v0 .v1)
def zu:E:= .comp [0] u0 1 [2] (.seq .v4) k9 (.bl u0) (.cmp .gt .v0 .v1)
def Xt:E:= .comp [0] u0 1 [2] (.seq .v4) k9 (.bl u0) (.cmp .ge .v0 .v1)
def xt:E:= .comp [0] u0 1 [2] (.seq .v5) k9 (.bl u0) (.cmp .lt .v0 .v1)
def JD:Fn:=⟨4,6,.cons (.ag 4 (.call "counts" (.c .v0 .v1 (.ix .v3 .i0)))) (.cons (.ag 5 (.call "counts" (.c .v0 .v1 (.ix .v3 .i1)))) (.cons (.r (.cmp .mem .v1 (.tup (.b (.str fu) (.str lB)))) (.call "settled" (.b (.bi .all (.a Xt)) (.bi .any (.a xt))))) (.a (.ret (.call "settled" (.b (.bi .all (.a Jt)) (.bi .any (.a zu))))))))⟩
def cj:Fn:=⟨3,4,.cons (.ag 3 (.ix .v2 .i0)) (.cons (.r (.cmp .eq .v3 (.str gq)) (.call "not_told" (.a (.call "told" (.c .v0 .v1 (.ix .v2 .i1)))))) (.cons (.r (.cmp .eq .v3 (.str km)) (.call "and_told" (.b (.call "told" (.c .v0 .v1 (.ix .v2 .i1))) (.call "told" (.c .v0 .v1 (.ix .v2 .i2)))))) (.cons (.r (.cmp .eq .v3 (.str gw)) (.call "or_told" (.b (.call "told" (.c .v0 .v1 (.ix .v2 .i1))) (.call "told" (.c .v0 .v1 (.ix .v2 .i2)))))) (.a (.ret (.call "fact_told" (.c .v0 .v1 .v2)))))))⟩
def aS:Fn:=⟨3,7,.cons (.ag 3 (.ix .v2 .i0)) (.cons (.ag 4 (.ix (.ix .v1 .i0) .i0)) (.cons (.ag 5 (.call "bounds" (.c .v0 .v1 (.ix .v2 (.neg .i1))))) (.cons (.r (.cmp .eq .v3 (.str f6)) (.call "count_told" (.d .v4 (.str fu) .i1 .v5))) (.cons (.r (.cmp .eq .v3 (.str gW)) (.call "count_told" (.d .v4 (.str gG) .i0 .v5))) (.cons (.r (.cmp .eq .v3 (.str fY)) (.call "in_told" (.b (.call "bounds" (.c .v0 .v1 (.ix .v2 .i1))) .v5))) (.cons (.iff (.cmp .eq .v3 (.str ic)) (.cons (.ag 6 (.call "bounds" (.c .v0 .v1 (.ix .v2 .i1)))) (.a (.ret (.call "and_told" (.b (.call "in_told" (.b .v6 .v5)) (.call "in_told" (.b .v5 .v6))))))) .nil) (.a (.ret (.call "count_told" (.d .v4 .v3 (.ix .v2 .i1) .v5))))))))))⟩
def wZ:Fn:=⟨1,1,.cons (.ret (.call "is_below" (.b .v0 (.bin .add (.con "GREATEST_SIZE") .i1)))) .nil⟩
noncomputable def pO:Fn:=⟨2,2,.cons (.ret (.bin .add (.bin .mul (.lst (.a .v1)) (.bi .len (.a (.ix .v0 .i0)))) (.bin .mul (.lst (.a (.bin .mul .v1 .v1))) (.bi .len (.a (.ix .v0 .i1)))))) .nil⟩
def rD:Fn:=⟨2,2,.cons (.ret (.bi .sum (.a (.call "widths" (.b .v0 .v1))))) .nil⟩
def XC:Fn:=⟨1,1,.cons (.iff (.not (.call "is_size" (.a .v0))) (.cons .eW .nil) .nil) .nil⟩
def jr:Fn:=⟨3,4,.cons (.ex (.call "check_size" (.a .v1))) (.cons (.ag 3 (.call "bits" (.b .v0 .v1))) (.a (.iff (.cmp .gt .v3 .v2) (.cons .eW .nil) .nil)))⟩
def Qq:Ss:= .cons (.app 3 (.bin .band .v4 (.bin .sub (.bin .shl .i1 .v5) .i1))) (.a (.ag 4 (.bin .shr .v4 .v5)))
def qO:Fn:=⟨3,7,.cons (.ex (.call "check_size" (.a .v1))) (.cons (.iff (.not (.call "is_below" (.b .v2 (.bin .shl .i1 (.call "bits" (.b .v0 .v1)))))) (.cons .eW .nil) .nil) (.cons (.set 3 (.lst .nil)) (.cons (.ag 4 .v2) (.cons (.for [5] true (.seq (.call "widths" (.b .v0 .v1))) Qq) (.cons (.ag 6 (.bi .len (.a (.ix .v0 .i0)))) (.a (.ret (.tup (.c .v1 (.bi .tuple (.a (.di .v3 .v6))) (.bi .tuple (.a (.dH .v3 .v6))))))))))))⟩
def xn:E:= .comp [0,1] false 2 [3] (.seq (.call "pairs_of" (.b .v1 (.call "every" (.a .v1))))) false (.bl true) (.tup (.c .v2 .v0 .v1))
def jy:Ss:= .cons (.ext 2 xn) .nil
def zm:E:= .comp [0] u0 1 [3] (.ao .v1) k9 (.bl u0) (.tup (.c .v1 .v0 .v0))
def Zz:Ss:= .cons (.ext 2 zm) .nil
noncomputable def Qv:Fn:=⟨2,4,.cons (.set 2 (.lst .nil)) (.cons (.for [3] u0 (.seq (.ix .v0 .i0)) Zz) (.cons (.for [3] u0 (.seq (.ix .v0 .i1)) jy) (.a (.ret .v2))))⟩
noncomputable def zy:Fn:=⟨3,3,.cons (.r (.or (.not (.cq .v0 .tuple)) (.cmp .ne (.bi .len (.a .v0)) .v2)) (.bl k9)) (.a (.ret (.and (.cq (.ix .v0 .i0) .str) (.cmp .eq (.ix .v0 .i0) .v1))))⟩
def Jh:Fn:=⟨3,3,.cons (.bR 0 "Cases" "words" (.ix .v1 .i0)) (.cons (.bR 0 "Cases" "sayings" (.ix .v1 .i1)) (.cons (.bR 0 "Cases" "size" .v2) (.cons (.b4 0 "Cases" "places" (.call "places_of" (.b (.ix .v1 .i0) .v2))) (.a (.bR 0 "Cases" "whole" (.bin .sub (.bin .shl .i1 (.bi .len (.a (.fld 0 "Cases" "places")))) .i1))))))⟩
def wh:Fn:=⟨2,2,.cons (.ret (.call "world_of" (.c (.fld 0 "Cases" "words") (.fld 0 "Cases" "size") .v1))) .nil⟩
def xw:Fn:=⟨4,5,.cons (.ag 4 (.tup (.b (.bw 0 "Cases" "world_of_code" "Cases.world_of_code" (.a .v2)) (.bw 0 "Cases" "world_of_code" "Cases.world_of_code" (.a .v3))))) (.a (.ret (.call "told" (.c (.fld 0 "Cases" "words") .v4 (.ix (.fld 0 "Cases" "sayings") .v1)))))⟩
def Wt:Fn:=⟨4,4,.cons (.r (.or (.not (.cq .v1 .str)) (.or (.not (.call "is_whole" (.a .v2))) (.not (.call "is_whole" (.a .v3))))) .i0) (.cons (.r (.cmp .eV (.tup (.c .v1 .v2 .v3)) (.fld 0 "Cases" "places")) .i0) (.a (.ret (.bin .shl .i1 (.dj .bG (.fld 0 "Cases" "places") (.a (.tup (.c .v1 .v2 .v3))))))))⟩
def Xc:Fn:=⟨4,6,.cons (.iff (.call "is_tuple_of" (.c .v1 (.str fV) .i2)) (.cons (.ag 4 (.ix .v1 .i1)) (.a (.ret (.and (.call "is_below" (.b .v4 (.bi .len (.a (.fld 0 "Cases" "sayings"))))) (.cmp .cH (.bw 0 "Cases" "truth" "Cases.truth" (.c .v4 .v2 .v3)) (.bl false)))))) .nil) (.cons (.r (.not (.call "is_tuple_of" (.c .v1 (.str hC) (.int 6)))) (.bl false)) (.cons (.ag 5 (.bw 0 "Cases" "bit_of" "Cases.bit_of" (.c (.ix .v1 .i1) (.ix .v1 .i2) (.ix .v1 .i3)))) (.cons (.r (.cmp .eq (.bin .band (.bin .band .v5 .v3) (.inv .v2)) .i0) (.bl false)) (.a (.ret (.and (.bw 0 "Cases" "is_shown" "Cases.is_shown" (.c (.ix .v1 .i4) (.bin .bor .v2 .v5) .v3)) (.bw 0 "Cases" "is_shown" "Cases.is_shown" (.c (.ix .v1 (.int 5)) .v2 (.bin .band .v3 (.inv .v5))))))))))⟩
def Z4:Fn:=⟨3,4,.cons (.ex (.call "check_bits" (.c (.ix .v0 .i0) .v1 (.con "MOST_BITS")))) (.cons (.ag 3 (.make "Cases" "Cases.__init__" (.b .v0 .v1))) (.a (.ret (.bw 3 "Cases" "is_shown" "Cases.is_shown" (.c .v2 .i0 (.fld 3 "Cases" "whole"))))))⟩
def zH:Fn:=⟨1,1,.cons (.ret (.lst (.c .v0 .i0 (.bi .sum (.a (.di .v0 .i1)))))) .nil⟩
noncomputable def JL:Fn:=⟨1,1,.cons (.bS .v0 .i1 (.bin .add (.ix .v0 .i1) .i1)) (.cons (.bS .v0 .i2 (.bin .mod (.bin .add (.bin .mul (.int 7) (.ix .v0 .i1)) (.bi .sum (.a (.di (.ix .v0 .i0) (.int 9))))) (.int 16777213))) (.a (.iff (.cmp .lt (.ix .v0 .i1) (.bi .len (.a (.ix .v0 .i0)))) (.a (.bS .v0 .i2 (.ix (.ix .v0 .i0) (.ix .v0 .i1)))) .nil)))⟩
noncomputable def zB:Fn:=⟨2,3,.cons (.iff (.not (.chain .le .lt .i0 (.ix .v0 .i2) (.bin .pow (.int 10) (.int 18)))) (.cons (.fH .v0 .i2 2 (.bi .divmod (.b (.ix .v0 .i2) .v1))) (.a (.ret .v2))) .nil) (.cons (.bS .v0 .i2 (.bin .mod (.bin .add (.bin .add (.bin .mul (.ix .v0 .i2) (.int 742939)) (.bin .mul (.ix .v0 .i1) (.int 65063))) (.int 40503)) (.int 16777213))) (.a (.ret (.bin .mod (.bin .fdiv (.bin .mul (.ix .v0 .i2) (.bin .add (.bin .mod (.ix .v0 .i2) (.int 4093)) (.int 7))) (.int 64)) .v1))))⟩
def ji:Ss:= .cons (.ag 8 (.bin .add (.bin .add (.di .v4 .v6) (.ix .v2 (.bin .mod (.bin .add .v3 (.bin .mul (.int 5) .v5)) (.int 26)))) (.dH .v4 .v6))) (.cons (.iff (.cmp .mem .v8 (.fD sL [f6,gW,fu,gG,[101,97,99,104],fY,km,gw,gq,iu,iC,f7,[107,105,110,100],[116,105,101],[115,97,121]])) (.a (.ag 8 (.bin .add .v8 (.str [113])))) .nil) (.a (.app 7 .v8)))
def jn:Ss:= .cons (.ag 4 (.bin .add .v4 (.ix .v2 (.call "_law_draw" (.b .v0 (.int 26)))))) .nil
def qy:E:= .comp [0] u0 1 [2,3] (.ao .v1) k9 (.bl u0) (.bin .mul (.ix .v1 .v2) (.bin .add .v0 .i1))
def QG:Fn:=⟨2,9,.cons (.ag 2 (.str vD)) (.cons (.ag 3 (.call "_law_draw" (.b .v0 (.int 26)))) (.cons (.r (.cmp .eq (.call "_law_draw" (.b .v0 .i3)) .i0) qy) (.cons (.ag 4 (.str [])) (.cons (.for [5] true (.ao (.call "_law_draw" (.b .v0 (.int 6)))) jn) (.cons (.ag 6 (.call "_law_draw" (.b .v0 (.bin .add (.bi .len (.a .v4)) .i1)))) (.cons (.set 7 (.lst .nil)) (.cons (.for [5] true (.ao .v1) ji) (.a (.ret .v7)))))))))⟩
def ZJ:Fn:=⟨1,6,.cons (.ag 1 (.lst (.cons (.tup (.c .i0 .i1 .i2)) (.cons (.tup (.c .i1 .i1 .i2)) (.cons (.tup (.c .i0 .i1 .i2)) (.g (.tup (.c .i1 .i1 .i2)) (.tup (.c .i1 .i0 .i3)) (.tup (.c .i2 .i0 .i3)) (.tup (.c .i0 .i1 .i1)) (.tup (.c .i3 .i2 .i1)) (.tup (.c .i1 .i0 .i4)))))))) (.cons (.ag 1 (.bin .add .v1 (.lst (.c (.tup (.c .i0 .i1 .i2)) (.tup (.c .i1 .i1 .i0)) (.tup (.c .i1 .i1 .i1)))))) (.cons (.fB [2,3,4] (.ix .v1 (.call "_law_draw" (.b .v0 (.bi .len (.a .v1)))))) (.cons (.ag 5 (.call "_law_names" (.b .v0 (.bin .add .v2 .v3)))) (.a (.ret (.tup (.b .v4 (.tup (.b (.bi .tuple (.a (.bi .sorted (.a (.di .v5 .v2))))) (.bi .tuple (.a (.bi .sorted (.a (.dH .v5 .v2))))))))))))))⟩
def Xd:E:= .comp [0] u0 1 [] (.seq .v1) k9 (.bl u0) (.tup (.b (.str oG) .v0))
def We:Fn:=⟨3,7,.cons (.ag 3 (.call "_law_draw" (.b .v0 (.int 10)))) (.cons (.iff (.or (.cmp .eq .v2 .i0) (.cmp .lt .v3 .i3)) (.cons (.ag 4 (.bin .add (.bin .mul Xd .i2) (.lst (.c (.tup (.a (.str iu))) (.tup (.a (.str iC))) (.tup (.a (.str f7))))))) (.a (.ret (.ix .v4 (.call "_law_draw" (.b .v0 (.bi .len (.a .v4)))))))) .nil) (.cons (.ag 5 (.call "_law_expression" (.c .v0 .v1 (.bin .sub .v2 .i1)))) (.cons (.r (.cmp .lt .v3 (.int 5)) (.tup (.b (.ix (.lst (.b (.str nT) (.str uQ))) (.bin .sub .v3 .i3)) .v5))) (.cons (.ag 6 (.call "_law_expression" (.c .v0 .v1 (.bin .sub .v2 .i1)))) (.a (.ret (.tup (.c (.ix (.lst (.f (.str nN) (.str mM) (.str oD) (.str n9) (.str n9))) (.bin .sub .v3 (.int 5))) .v5 .v6))))))))⟩
def aT:Fn:=⟨3,6,.cons (.ag 3 (.call "_law_draw" (.b .v0 (.int 11)))) (.cons (.iff (.and (.cmp .gt .v2 .i0) (.cmp .gt .v3 (.int 7))) (.cons (.ag 4 (.call "_law_saying" (.c .v0 .v1 (.bin .sub .v2 .i1)))) (.cons (.r (.cmp .eq .v3 (.int 8)) (.tup (.b (.str gq) .v4))) (.a (.ret (.tup (.c (.ix (.lst (.b (.str km) (.str gw))) (.bin .sub .v3 (.int 9))) .v4 (.call "_law_saying" (.c .v0 .v1 (.bin .sub .v2 .i1))))))))) .nil) (.cons (.ag 5 (.ix (.lst (.cons (.str fY) (.cons (.str ic) (.g (.str f6) (.str gW) (.str fu) (.str gG) (.str lB) (.str uA))))) (.bin .mod .v3 (.int 8)))) (.cons (.ag 4 (.call "_law_expression" (.c .v0 .v1 .i2))) (.cons (.r (.or (.cmp .eq .v5 (.str fY)) (.cmp .eq .v5 (.str ic))) (.tup (.c .v5 .v4 (.call "_law_expression" (.c .v0 .v1 .i1))))) (.cons (.r (.or (.cmp .eq .v5 (.str f6)) (.cmp .eq .v5 (.str gW))) (.tup (.b .v5 .v4))) (.a (.ret (.tup (.c .v5 (.ix (.lst (.cons .i0 (.cons .i1 (.g .i1 .i2 .i2 .i3 .i4 (.bin .add (.int 10) (.call "_law_draw" (.b .v0 (.int 90)))))))) (.call "_law_draw" (.b .v0 (.int 8)))) .v4)))))))))⟩
def qh:Ss:= .cons (.ex (.call "_law_turn" (.a .v0))) (.cons (.app 4 (.call "_law_saying" (.c .v0 .v3 (.bin .add .i1 (.bi .int (.a (.chain .le .lt .i0 (.ix .v0 .i2) (.bin .pow (.int 10) (.int 18))))))))) (.a (.iff (.and (.cmp .gt .v5 .i0) (.cmp .eq (.call "_law_draw" (.b .v0 (.int 9))) .i0)) (.cons (.d4 4 (.neg .i1) (.tup (.b (.str gq) (.ix .v4 (.call "_law_draw" (.b .v0 .v5)))))) .nil) .nil)))
def Wp:Fn:=⟨3,6,.cons (.ag 3 (.bi .list (.a (.bin .add (.ix .v1 .i0) (.ix .v1 .i1))))) (.cons (.set 4 (.lst .nil)) (.cons (.for [5] u0 (.ao (.call "_law_draw" (.b .v0 (.bin .add .v2 .i1)))) qh) (.a (.ret (.tup (.b .v1 (.bi .tuple (.a .v4))))))))⟩
noncomputable def xh:Ss:= .cons (.iff (.cmp .eq (.bin .band (.bin .shr .v1 (.bin .add (.bin .mul .v4 .v0) .v5)) .i1) .i1) (.cons (.ag 6 (.bin .band (.bin .shr .v2 (.bin .mul .v5 .v0)) (.bin .sub (.bin .shl .i1 .v0) .i1))) (.a (.ag 3 (.bin .bor .v3 (.bin .shl .v6 (.bin .mul .v4 .v0)))))) .nil) .nil
def Zt:Ss:= .cons (.for [5] u0 (.ao .v0) xh) .nil
def zD:Fn:=⟨3,7,.cons (.ag 3 .i0) (.cons (.for [4] u0 (.ao .v0) Zt) (.a (.ret .v3)))⟩
noncomputable def ql:Ss:= .cons (.iff (.cmp .eq (.bin .band (.bin .shr .v1 (.bin .add (.bin .mul .v3 .v0) .v4)) .i1) .i1) (.a (.ag 2 (.bin .bor .v2 (.bin .shl .i1 (.bin .add (.bin .mul .v4 .v0) .v3))))) .nil) .nil
def jt:Ss:= .cons (.for [4] u0 (.ao .v0) ql) .nil
def jp:Fn:=⟨2,5,.cons (.ag 2 .i0) (.cons (.for [3] u0 (.ao .v0) jt) (.a (.ret .v2)))⟩
def jl:Ss:= .cons (.ag 2 (.bin .bor .v2 (.call "_law_joined" (.c .v0 .v2 .v1)))) .nil
def JC:Fn:=⟨2,4,.cons (.ag 2 .v1) (.cons (.for [3] u0 (.ao .v0) jl) (.a (.ret .v2)))⟩
def jo:E:= .comp [0] u0 1 [0] (.ao .v0) k9 (.bl u0) (.bin .shl .i1 (.bin .add (.bin .mul .v0 .v1) .v0))
def WL:Fn:=⟨1,1,.cons (.ret (.bi .sum (.a jo))) .nil⟩
def jY:Fn:=⟨4,4,.cons (.r (.cmp .eq .v0 (.str nN)) (.bin .bor .v2 .v3)) (.cons (.r (.cmp .eq .v0 (.str oD)) (.bin .band .v2 .v3)) (.a (.ret (.call "_law_joined" (.c .v1 .v2 .v3)))))⟩
def aw:Fn:=⟨3,10,.cons (.ag 3 (.ix .v2 .i0)) (.cons (.ag 4 (.bin .sub (.bin .shl .i1 (.bin .mul .v0 .v0)) .i1)) (.cons (.r (.cmp .eq .v3 (.str oG)) (.ea 1 (.ix .v2 .i1))) (.cons (.iff (.cmp .mem .v3 (.lst (.c (.str iu) (.str iC) (.str f7)))) (.cons (.ag 5 (.fA iu (.call "_law_same" (.a .v0)) iC .v4 f7 .i0 3)) (.a (.ret (.tup (.b .v5 .v5))))) .nil) (.cons (.fB [6,7] (.call "_law_bounds" (.c .v0 .v1 (.ix .v2 .i1)))) (.cons (.r (.cmp .eq .v3 (.str nT)) (.tup (.b (.call "_law_turned" (.b .v0 .v6)) (.call "_law_turned" (.b .v0 .v7))))) (.cons (.r (.cmp .eq .v3 (.str uQ)) (.tup (.b (.call "_law_closed" (.b .v0 .v6)) (.call "_law_closed" (.b .v0 .v7))))) (.cons (.fB [8,9] (.call "_law_bounds" (.c .v0 .v1 (.ix .v2 .i2)))) (.cons (.r (.cmp .eq .v3 (.str mM)) (.tup (.b (.bin .band .v6 (.bin .bxor .v4 .v9)) (.bin .band .v7 (.bin .bxor .v4 .v8))))) (.a (.ret (.tup (.b (.call "_law_two" (.d .v3 .v0 .v6 .v8)) (.call "_law_two" (.d .v3 .v0 .v7 .v9))))))))))))))⟩
def Qk:E:= .cmp .gt .v0 .i0
def Zk:Ss:= .cons (.ag 1 (.bin .add .v1 (.bin .mod .v0 .i2))) (.a (.ag 0 (.bin .fdiv .v0 .i2)))
def xN:Fn:=⟨1,2,.cons (.ag 1 .i0) (.cons (.iX 100000 Qk Zk) (.a (.ret .v1)))⟩
def Wx:E:= .comp [0,1] k9 2 [1] (.seq .v2) k9 (.bl u0) (.cmp .gt .v0 .v2)
def wx:E:= .comp [0,1] k9 2 [1] (.seq .v2) k9 (.bl u0) (.cmp .le .v1 .v2)
def wy:E:= .comp [0,1] k9 2 [1] (.seq .v2) k9 (.bl u0) (.cmp .lt .v1 .v2)
def zz:E:= .comp [0,1] k9 2 [1] (.seq .v2) k9 (.bl u0) (.cmp .ge .v0 .v2)
noncomputable def qv:Fn:=⟨3,3,.cons (.iff .v0 (.cons (.r (.bi .all (.a zz)) (.bl u0)) (.a (.ret (.ix (.lst (.b .ak (.bl k9))) (.bi .int (.a (.bi .any (.a wy)))))))) .nil) (.cons (.r (.bi .all (.a wx)) (.bl u0)) (.a (.ret (.ix (.lst (.b .ak (.bl k9))) (.bi .int (.a (.bi .any (.a Wx))))))))⟩
noncomputable def WD:Fn:=⟨2,2,.cons (.r (.cmp .eq (.bin .band (.ix .v0 .i1) (.ix .v1 .i0)) (.ix .v0 .i1)) (.bl u0)) (.a (.ret (.ix (.lst (.b .ak (.bl k9))) (.bi .int (.a (.cmp .ne (.bin .band (.ix .v0 .i0) (.ix .v1 .i1)) (.ix .v0 .i0)))))))⟩
def Xp:E:= .comp [0] u0 1 [4,0,6,5] (.ao .v0) k9 (.bl u0) (.tup (.b (.call "_law_many" (.a (.bin .band (.bin .shr .v1 (.bin .mul .v0 .v2)) .v3))) (.call "_law_many" (.a (.bin .band (.bin .shr .v4 (.bin .mul .v0 .v2)) .v3)))))
def bq:Fn:=⟨3,8,.cons (.ag 3 (.ix .v2 .i0)) (.cons (.iff (.or (.cmp .eq .v3 (.str f6)) (.cmp .eq .v3 (.str gW))) (.cons (.ag 2 (.tup (.c (.ix (.lst (.b (.str gG) (.str fu))) (.bi .int (.a (.cmp .eq .v3 (.str f6))))) (.bi .int (.a (.cmp .eq .v3 (.str f6)))) (.ix .v2 .i1)))) (.a (.ag 3 (.ix .v2 .i0)))) .nil) (.cons (.fB [4,5] (.call "_law_bounds" (.c .v0 .v1 (.ix .v2 .i2)))) (.cons (.r (.or (.cmp .eq .v3 (.str fu)) (.cmp .eq .v3 (.str gG))) (.call "_law_ruled" (.c (.cmp .eq .v3 (.str fu)) (.ix .v2 .i1) (.lst (.a (.tup (.b (.call "_law_many" (.a .v4)) (.call "_law_many" (.a .v5))))))))) (.cons (.ag 6 (.bin .sub (.bin .shl .i1 .v0) .i1)) (.cons (.ag 7 Xp) (.a (.ret (.call "_law_ruled" (.c (.cmp .eq .v3 (.str lB)) (.ix .v2 .i1) .v7)))))))))⟩
def xq:E:= .comp [0] u0 1 [0,1] (.seq .v5) k9 (.bl u0) (.call "_law_told" (.c .v1 .v2 .v0))
def a9:Fn:=⟨3,7,.cons (.ag 3 (.ix .v2 .i0)) (.cons (.iff (.cmp .eq .v3 (.str gq)) (.cons (.ag 4 (.call "_law_told" (.c .v0 .v1 (.ix .v2 .i1)))) (.cons (.r (.fv false .v4) .ak) (.a (.ret (.not .v4))))) .nil) (.cons (.iff (.cmp .mem .v3 (.lst (.c (.str km) (.str gw) (.str ic)))) (.cons (.ag 5 (.lst (.b (.ix .v2 .i1) (.ix .v2 .i2)))) (.cons (.iff (.cmp .eq .v3 (.str ic)) (.a (.ag 5 (.lst (.b (.tup (.c (.str fY) (.ix .v2 .i1) (.ix .v2 .i2))) (.tup (.c (.str fY) (.ix .v2 .i2) (.ix .v2 .i1))))))) .nil) (.cons (.ag 6 xq) (.cons (.r (.cmp .mem (.cmp .eq .v3 (.str gw)) .v6) (.cmp .eq .v3 (.str gw))) (.cons (.r (.cmp .mem .ak .v6) .ak) (.a (.ret (.cmp .ne .v3 (.str gw))))))))) .nil) (.cons (.r (.cmp .eq .v3 (.str fY)) (.call "_law_within" (.b (.call "_law_bounds" (.c .v0 .v1 (.ix .v2 .i1))) (.call "_law_bounds" (.c .v0 .v1 (.ix .v2 .i2)))))) (.a (.ret (.call "_law_fact" (.c .v0 .v1 .v2)))))))⟩
def j9:Fn:=⟨1,1,.cons (.ret (.and (.cq .v0 .int) (.not (.cq .v0 .bool)))) .nil⟩
noncomputable def zl:E:= .comp [0] u0 1 [1,0] (.ao .v0) k9 (.bl u0) (.bin .shl (.bin .band (.bin .shr .v1 .v0) .i1) (.bin .add (.bin .mul .v0 .v2) .v0))
def Jo:Fn:=⟨2,2,.cons (.ret (.bi .sum (.a zl))) .nil⟩
def Zq:Ss:= .cons (.b9 3 (.ix (.ix .v0 .i1) .v4) (.tup (.b (.ix (.ix .v1 .i2) .v4) (.ix (.ix .v1 .i2) .v4)))) .nil
def Xo:Ss:= .cons (.ag 5 (.call "_law_spread" (.b .v2 (.ix (.ix .v1 .i1) .v4)))) (.cons (.b9 3 (.ix (.ix .v0 .i0) .v4) (.tup (.b .v5 .v5))) .nil)
def jC:Fn:=⟨2,6,.cons (.ag 2 (.ix .v1 .i0)) (.cons (.set 3 .cZ) (.cons (.for [4] u0 (.ao (.bi .len (.a (.ix .v0 .i0)))) Xo) (.cons (.for [4] u0 (.ao (.bi .len (.a (.ix .v0 .i1)))) Zq) (.a (.ret .v3)))))⟩
def zw:E:= .comp [0] true 1 [1,2] (.seq (.ix .v0 .i1)) false (.bl true) (.cmp .cH (.call "_law_told" (.c (.ix .v1 .i0) .v2 .v0)) (.bl true))
def xu:Fn:=⟨2,3,.cons (.ag 2 (.call "_law_seen" (.b (.ix .v0 .i0) .v1))) (.a (.ret (.bi .all (.a zw))))⟩
def zo:Ss:= .cons (.b9 2 .v3 (.tup (.b .i0 (.bin .sub (.bin .shl .i1 (.bin .mul .v1 .v1)) .i1)))) .nil
def Qp:Ss:= .cons (.b9 2 .v3 (.tup (.b .i0 (.call "_law_same" (.a .v1))))) .nil
noncomputable def Xz:Fn:=⟨2,4,.cons (.set 2 .cZ) (.cons (.for [3] u0 (.seq (.ix .v0 .i0)) Qp) (.cons (.for [3] u0 (.seq (.ix .v0 .i1)) zo) (.a (.ret .v2))))⟩
def br:Fn:=⟨3,11,.cons (.fB [3,4,5] .v2) (.cons (.r (.or (.not (.cq .v3 .str)) (.or (.cg u0 .v3 1) (.or (.not (.call "_law_whole" (.a .v4))) (.not (.call "_law_whole" (.a .v5)))))) .ak) (.cons (.r (.or (.not (.chain .le .lt .i0 .v4 .v0)) (.not (.chain .le .lt .i0 .v5 .v0))) .ak) (.cons (.fB [6,7] (.ea 1 .v3)) (.cons (.ag 8 (.bin .shl .i1 (.bin .add (.bin .mul .v4 .v0) .v5))) (.cons (.r (.or (.cmp .ne (.bin .band .v6 .v8) .i0) (.cmp .eq (.bin .band .v7 .v8) .i0)) .ak) (.cons (.set 9 (.eg 1)) (.cons (.b9 9 .v3 (.tup (.b (.bin .bor .v6 .v8) .v7))) (.cons (.set 10 (.eg 1)) (.cons (.b9 10 .v3 (.tup (.b .v6 (.bin .sub .v7 .v8)))) (.a (.ret (.lst (.b .v9 (.var 10))))))))))))))⟩
def jf:Fn:=⟨4,5,.cons (.r (.or (.not (.cq .v3 .tuple)) (.cmp .eq (.bi .len (.a .v3)) .i0)) (.bl false)) (.cons (.iff (.and (.cmp .eq (.ix .v3 .i0) (.str fV)) (.cmp .eq (.bi .len (.a .v3)) .i2)) (.cons (.r (.or (.not (.call "_law_whole" (.a (.ix .v3 .i1)))) (.not (.chain .le .lt .i0 (.ix .v3 .i1) (.bi .len (.a (.ix .v0 .i1)))))) (.bl false)) (.a (.ret (.cmp .cH (.call "_law_told" (.c .v1 .v2 (.ix (.ix .v0 .i1) (.ix .v3 .i1)))) (.bl false))))) .nil) (.cons (.r (.or (.cmp .ne (.ix .v3 .i0) (.str hC)) (.cmp .ne (.bi .len (.a .v3)) (.int 6))) (.bl false)) (.cons (.ag 4 (.call "_law_split" (.c .v1 .v2 (.sl .v3 .i1 .i4)))) (.cons (.r (.fv false .v4) (.bl false)) (.a (.ret (.and (.call "_law_walks" (.d .v0 .v1 (.ix .v4 .i0) (.ix .v3 .i4))) (.call "_law_walks" (.d .v0 .v1 (.ix .v4 .i1) (.ix .v3 (.int 5)))))))))))⟩
noncomputable def wm:Ss:= .cons (.app 5 (.bin .mod .v2 (.bin .shl .i1 (.bin .mul .v1 .v1)))) (.a (.ag 2 (.bin .shr .v2 (.bin .mul .v1 .v1))))
def jm:Ss:= .cons (.app 3 (.bin .mod .v2 (.bin .shl .i1 .v1))) (.a (.ag 2 (.bin .shr .v2 .v1)))
def xv:Fn:=⟨3,6,.cons (.set 3 (.lst .nil)) (.cons (.for [4] u0 (.seq (.ix .v0 .i0)) jm) (.cons (.set 5 (.lst .nil)) (.cons (.for [4] u0 (.seq (.ix .v0 .i1)) wm) (.a (.ret (.tup (.c .v1 (.bi .tuple (.a .v3)) (.bi .tuple (.a .v5)))))))))⟩
def jz:E:= .comp [0] u0 1 [4,5] (.ao .v2) k9 (.bl u0) (.tup (.c .v1 .v2 .v0))
def Zn:Ss:= .cons (.ag 3 (.bin .add .v3 jz)) .nil
def wn:Ss:= .cons (.for [5] u0 (.ao .v2) Zn) .nil
def wz:E:= .comp [0] u0 1 [4] (.ao .v2) k9 (.bl u0) (.tup (.c .v1 .v0 .v0))
def zn:Ss:= .cons (.ag 3 (.bin .add .v3 wz)) .nil
def Jv:Fn:=⟨3,7,.cons (.ag 3 (.lst .nil)) (.cons (.for [4] u0 (.seq (.ix .v1 .i0)) zn) (.cons (.for [4] u0 (.seq (.ix .v1 .i1)) wn) (.cons (.ag 6 (.call "_law_draw" (.b .v0 (.bin .add (.bi .len (.a .v3)) .i1)))) (.a (.ret (.bin .add (.dH .v3 .v6) (.di .v3 .v6)))))))⟩
def Xq:E:= .comp [0] u0 1 [1,2] (.seq (.ix .v0 .i1)) k9 (.bl u0) (.call "_law_told" (.c .v1 .v2 .v0))
def bb:Fn:=⟨5,9,.cons (.ag 5 Xq) (.cons (.r (.cmp .mem (.bl k9) .v5) (.tup (.b (.str fV) (.dj .bG .v5 (.a (.bl k9)))))) (.cons (.r (.cmp .eq .v3 (.lst .nil)) (.tup (.b (.str fV) .v4))) (.cons (.fM [6,7] (.call "_law_split" (.c .v1 .v2 (.ix .v3 .i0)))) (.cons (.ag 8 (.call "_law_tree" (.f .v0 .v1 .v6 (.dH .v3 .i1) .v4))) (.a (.ret (.bin .add (.bin .add (.tup (.a (.str hC))) (.ix .v3 .i0)) (.tup (.b .v8 (.call "_law_tree" (.f .v0 .v1 .v7 (.dH .v3 .i1) .v4)))))))))))⟩
def ax:Fn:=⟨2,6,.cons (.iff (.and (.cmp .eq (.ix .v1 .i0) (.str hC)) (.cmp .gt (.call "_law_draw" (.b .v0 .i3)) .i0)) (.cons (.ag 2 (.bin .add .i4 (.call "_law_draw" (.b .v0 .i2)))) (.a (.ret (.bin .add (.bin .add (.di .v1 .v2) (.tup (.a (.call "_law_spoilt" (.b .v0 (.ix .v1 .v2)))))) (.dH .v1 (.bin .add .v2 .i1)))))) .nil) (.cons (.ag 3 (.lst (.cons .ak (.cons (.lst .nil) (.g (.str fV) (.tup (.a (.str fV))) (.tup (.c (.str fV) .i0 .i0)) (.int 7) (.lst (.b (.str fV) .i0)) (.tup .nil)))))) (.cons (.ag 3 (.bin .add .v3 (.lst (.b (.tup (.d (.str hC) (.str [114]) .i0 .i0)) (.tup (.b (.str f7) .i1)))))) (.cons (.ag 4 (.call "_law_draw" (.b .v0 (.int 8)))) (.cons (.r (.cmp .eq .v4 .i0) (.ix .v3 (.call "_law_draw" (.b .v0 (.bi .len (.a .v3)))))) (.cons (.r (.cmp .eq (.ix .v1 .i0) (.str fV)) (.tup (.b (.str fV) (.ix (.lst (.cons .i0 (.cons .i1 (.cons .i2 (.cons .i3 (.cons (.bin .sub .i0 .i1) (.cons .i4 (.cons (.int 99) (.g (.bl true) (.bl false) .ak (.str [48]) (.tup (.a .i0)) (.lst (.a .i0))))))))))) (.call "_law_draw" (.b .v0 (.int 13))))))) (.cons (.r (.cmp .eq .v4 .i1) (.bin .add (.di .v1 .i4) (.tup (.b (.ix .v1 (.int 5)) (.ix .v1 .i4))))) (.cons (.iff (.cmp .eq .v4 .i2) (.cons (.ag 5 (.lst (.cons (.str []) (.cons (.str [114]) (.g .ak (.int 5) (.tup (.a (.str [114]))) (.lst .nil) (.lst (.a (.str [114]))) (.bin .add (.ix .v1 .i1) (.str [120]))))))) (.a (.ret (.bin .add (.bin .add (.di .v1 .i1) (.tup (.a (.ix .v5 (.call "_law_draw" (.b .v0 (.int 8))))))) (.dH .v1 .i2))))) .nil) (.cons (.r (.cmp .eq .v4 .i3) (.bin .add (.bin .add (.di .v1 .i2) (.tup (.a (.ix (.lst (.cons .i0 (.cons .i1 (.cons .i2 (.g .i4 (.bin .sub .i0 .i1) (.bl true) (.str [48]) .ak (.lst .nil)))))) (.call "_law_draw" (.b .v0 (.int 9))))))) (.dH .v1 .i3))) (.cons (.r (.cmp .eq .v4 .i4) (.bin .add (.bin .add (.di .v1 .i3) (.tup (.a (.ix (.lst (.cons .i0 (.cons .i1 (.g .i2 .i3 (.bin .sub .i0 .i1) (.bl true) .ak (.lst (.a .i0)))))) (.call "_law_draw" (.b .v0 (.int 8))))))) (.dH .v1 .i4))) (.cons (.r (.cmp .eq .v4 (.int 5)) (.bin .add (.di .v1 .i4) (.tup (.b .v1 (.ix .v1 (.int 5)))))) (.cons (.r (.cmp .eq .v4 (.int 6)) (.bin .add (.tup (.a (.ix (.lst (.f (.str fV) (.str f7) (.str lx) .ak (.str []))) (.call "_law_draw" (.b .v0 (.int 5)))))) (.dH .v1 .i1))) (.a (.ret (.ix (.lst (.c (.bin .add .v1 (.tup (.a .i0))) (.di .v1 (.int 5)) (.bi .list (.a .v1)))) (.call "_law_draw" (.b .v0 .i3))))))))))))))))⟩
def w4:E:= .comp [0] u0 1 [4] (.seq (.var 15)) k9 (.bl u0) (.call "_law_keeps" (.b .v1 .v0))
def xP:E:= .comp [0] u0 1 [3,2] (.ao (.var 14)) k9 (.bl u0) (.call "_law_world" (.c .v1 .v2 .v0))
def Z1:Ss:= .cons (.ag 13 (.call "holds" (.c .v4 .v2 (.var 11)))) (.a (.r (.or (.not (.cq (.var 13) .bool)) (.cmp .ne (.var 13) (.var 12))) (.bl false)))
def d5:Fn:=⟨1,16,.cons (.set 1 (.share (.call "_law_start" (.a .v0)))) (.cons (.fB [2,3] (.call "_law_words" (.a .v1))) (.cons (.ag 4 (.call "_law_theory" (.c .v1 .v3 .i4))) (.cons (.ex (.call "_law_turn" (.a .v1))) (.cons (.iff (.and (.cmp .ne (.ix .v4 .i1) (.tup .nil)) (.cmp .gt (.call "_law_draw" (.b .v1 .i3)) .i0)) (.cons (.ag 5 (.tup (.b (.str gq) (.ix (.ix .v4 .i1) (.call "_law_draw" (.b .v1 (.bi .len (.a (.ix .v4 .i1))))))))) (.a (.ag 4 (.tup (.b .v3 (.bin .add (.ix .v4 .i1) (.tup (.a .v5)))))))) .nil) (.cons (.ag 6 (.call "_law_open" (.b .v3 .v2))) (.cons (.ex (.call "_law_turn" (.a .v1))) (.cons (.ag 7 (.call "_law_tree" (.f .v4 .v2 .v6 (.call "_law_spots" (.c .v1 .v3 .v2)) (.call "_law_draw" (.b .v1 (.int 5)))))) (.cons (.ex (.call "_law_turn" (.a .v1))) (.cons (.ag 8 (.call "_law_spoilt" (.b .v1 .v7))) (.cons (.ag 9 (.call "_law_walks" (.d .v4 .v2 .v6 .v7))) (.cons (.ag 10 (.call "_law_walks" (.d .v4 .v2 .v6 .v8))) (.cons (.for [11,12] false (.seq (.lst (.c (.tup (.b .v7 .v9)) (.tup (.b .v8 (.var 10))) (.tup (.b .v7 .v9))))) Z1) (.cons (.ag 14 (.bin .shl .i1 (.bin .add (.bin .mul .v2 (.bi .len (.a (.ix .v3 .i0)))) (.bin .mul (.bin .mul .v2 .v2) (.bi .len (.a (.ix .v3 .i1))))))) (.cons (.ag 15 xP) (.a (.ret (.or (.not .v9) (.not (.bi .any (.a w4))))))))))))))))))))⟩
def prog:Prog:=⟨[("is_whole",Cs),("is_below",ZA),("pairs_of",QN),("gathered",QM),("common",vR),("either",rQ),("without",QT),("turned",rh),("joined",tU),("closed",tI),("same",uu),("every",sx),("value_of_name",Zo),("made",Zy),("counts",pE),("bounds",bE),("settled",XX),("not_told",qL),("and_told",XN),("or_told",QX),("in_told",ZY),("count_told",JD),("told",cj),("fact_told",aS),("is_size",wZ),("widths",pO),("bits",rD),("check_size",XC),("check_bits",jr),("world_of",qO),("places_of",Qv),("is_tuple_of",zy),("Cases.__init__",Jh),("Cases.world_of_code",wh),("Cases.truth",xw),("Cases.bit_of",Wt),("Cases.is_shown",Xc),("holds",Z4),("_law_start",zH),("_law_turn",JL),("_law_draw",zB),("_law_names",QG),("_law_words",ZJ),("_law_expression",We),("_law_saying",aT),("_law_theory",Wp),("_law_joined",zD),("_law_turned",jp),("_law_closed",JC),("_law_same",WL),("_law_two",jY),("_law_bounds",aw),("_law_many",xN),("_law_ruled",qv),("_law_within",WD),("_law_fact",bq),("_law_told",a9),("_law_whole",j9),("_law_spread",Jo),("_law_seen",jC),("_law_keeps",xu),("_law_open",Xz),("_law_split",br),("_law_walks",jf),("_law_world",xv),("_law_spots",Jv),("_law_tree",bb),("_law_spoilt",ax),("law",d5)],[("WorldError", "ValueError"),("NoSize", "WorldError"),("NoCode", "WorldError"),("TooBig", "WorldError")],[("GREATEST_SIZE",.int 4),("MOST_BITS",.int 16)]⟩
abbrev u9 (m:Nat):Fx:=⟨call prog m,prog.cl,prog.con⟩
theorem jB (f): ∀ ds,(∀ d∈ds,step d h= .ok (f d) h)->Gy step ds h= .ok (ds.filterMap f) h
 | [],_=>rfl
 | d::ds,a=>by
  have b:=jB f ds λd c=>a d (Aa4 _ c)
  rw [Gy,a d Aa7]
  simp only [b]
  cases q:f d<;>simp [q]
def uV (f) (m:Gn F it τ h= .ok ds h) (l:ds.length<=ba)
 (n: ∀d∈ds,∃J b,Gv tg one d (Aa2 k y0++aC.map λj=>Gk τ j)=k0 J/\Gm F c J h= .ok b h/\(if b=u0 then ∃w y,eval F elt J h= .ok w h/\w.d=k0 y/\f d=k0 y else f d=y0)):
 eval F (.comp tg one k aC it u0 c elt) τ h= .ok (.own (ds.filterMap f)) h:=by
 rw [eval,m,R.ab,if_pos l,jB f]
 ·rfl
 intro d o
 obtain⟨J,b,g,i,a⟩:=n d o
 rw [g]
 show((Gm F c J h).bind _)=_
 rw [i]
 cases b with
 | true=>
  obtain⟨w,y,e1,e2,e⟩:=a
  simp [e1,e2,e]
 | false=>
  rw [if_neg (by simp)]at a
  simp [a]
def Xj (f) (e:Gn F it τ h= .ok ds h) (b:ds.length<=ba)
 (g: ∀d∈ds,∃J,Gv tg one d (Aa2 k y0++aC.map λj=>Gk τ j)=k0 J/\ ∃w,eval F elt J h= .ok w h/\w.d=k0 (f d)):
 eval F (.comp tg one k aC it k9 c elt) τ h= .ok (.own (ds.map f)) h:=by
 rw [eval,e,R.ab,if_pos b,jB (λd=>k0 (f d))]
 ·simp [List.filterMap_eq_map']
 intro d i
 obtain⟨J,a,w,e1,e2⟩:=g d i
 rw [a]
 simp [e1,e2]
def yP (bnd) (body) (d) (ds) (τ) (h):Gw bnd body (d::ds) τ h=match bnd d τ with
 | none=> .fail
 | some c=>match body c h with
  | .next a b=>Gw bnd body ds a b
  | .cont a b=>Gw bnd body ds a b
  | .brk a b=> .next a b
  | o=>o:=rfl
@[simp] theorem qG (bnd) (body) (τ) (h):Gw bnd body [] τ h= .next τ h:=rfl
def xb (a:bnd d τ=k0 τ1) (b:body τ1 h= .next τ2 h2):Gw bnd body (d::ds) τ h=Gw bnd body ds τ2 h2:=by
 rw [yP,a];simp [b]
@[simp] theorem Gz (i) (d) (τ):Gv [i] u0 d τ=k0 (GC τ i (.v d)):=rfl
@[simp] theorem GZ (tg) (ds) (τ):Gv tg k9 (.tup ds) τ=aL tg ds τ:=rfl
def Qd (a b:Nat):Kd (a:Int) (b:Int)=k0 ((a &&& b:Nat):Int):=by simp [Kd]
def Xn (a b:Nat):kg (a:Int) (b:Int)=k0 ((a ||| b:Nat):Int):=by simp [kg]
@[simp] theorem EO (i j):Gj .mod i j=if 0<j then k0 (i % j)else none:=rfl
@[simp] theorem KH (i j):Gj .fdiv i j=if 0<j/\j<kc then k0 (i / j)else none:=rfl
@[simp] theorem zd (i j):Gj .band i j=Kd i j:=rfl
@[simp] theorem Jq (i j):Gj .bor i j=kg i j:=rfl
def Jc (a b:Nat) (h:a<2 ^ 64):Gj .mul (a:Int) (b:Int)=k0 ((a*b:Nat):Int):=by
 have c:(-dZ< a/\ a<dZ)\/(-dZ< b/\ b<dZ):=by rw [GU];omega
 show(if _ then _ else _)=_
 rw [if_pos c,Int.natCast_mul]
def zT (k:Nat) (h:k<=1000000):Gj .shl 1 (k:Int)=k0 ((2 ^ k:Nat):Int):=by
 have a: 0<=(k:Int)/\ k<=BP/\(1:Int).natAbs<kb:=by rw [G6,GE];exact⟨by lia,by lia,by decide⟩
 show(if _ then _ else _)=_
 rw [if_pos a,Int.one_mul,Ad7]
 simp
def jj (t k:Nat):Gj .shr (t:Int) (k:Int)=k0 ((t / 2 ^ k:Nat):Int):=by
 simp [Gj,Int.natCast_pow]
def JP (t k):(t / 2 ^ k &&& 1)=(t.testBit k).toNat:=by
 have:=Af3 (t / 2 ^ k) 1
 rw [this]
 exact Wf.gm t k
def pD (p:Nat×Nat):D:= .tup [.int (p.1:Nat),.int (p.2:Nat)]
def Ez (n t:Nat) (m):(((Aa5 m).map λ(i:Nat)=>D.int (i:Int)).filterMap λd=>match d with
 | .int i=>if t.testBit i.toNat then k0 (.tup [.int (i / (n:Int)),.int (i % (n:Int))])else y0
 | _=>y0)=(((Aa5 m).filter t.testBit).map λk=>(k / n,k % n)).map pD:=by
 induction Aa5 m with
 | nil=>rfl
 | cons x c b=>
  by_cases a:t.testBit x=u0
  ·simp [a,pD,b]
  ·simp [a,b]
def g8 (m)(a:d∈(Aa5 m).map λ(i:Nat)=>D.int (i:Int)): ∃i:Nat,i<m/\d= .int (i:Int):=by
 obtain⟨i,b,rfl⟩:=Ab8.mp a
 exact⟨i,Ab7.mp b,rfl⟩
def zh (a:n<=20):n*n<=400:=Ab9 (Ae2 a a) (by decide)
def p5 (a:n<=20):n*n<=ba:=Ab9 (zh a) (by rw [Gg];decide)
def Js {m:Nat}(e:eval F a τ h= .ok (.v (.int (m:Int))) h) (c:m<=1000000):Gn F (.ao a) τ h= .ok ((Aa5 m).map λ(i:Nat)=> .int (i:Int)) h:=by
 have b: -eS<= m/\ m<eS:=by rw [GO];lia
 rw [Gn,e,R.ab,int?_int,R.aj,R.ab,if_pos b,Ad7]
def KN {n i j:Nat}(b:n<=20) (e:Gk τ i=k0 (.v (.int (n:Int)))/\Gk τ j=k0 (.v (.int (n:Int)))):Gn F (.ao (.bin .mul (.var i) (.var j))) τ h= .ok ((Aa5 (n*n)).map λ(i:Nat)=> .int (i:Int)) h:=by
 have c:=zh b
 refine Js ?_ (by lia)
 have a:=Jc n n (by lia)
 simp [e.1,e.2,a]
def Qs (k n t:Nat) (h) (c:n<=20):call prog (k+1) "pairs_of" [.v (.int (n:Int)),.v (.int (t:Int))] h= .ok (.own ((Wf.av n t).map pD)) h:=by
 rw [Gb rfl _ _ _ rfl]
 simp only [QN,execs,exec,ZD,GF]
 rw [uV (λd=>match d with
  | .int i=>if t.testBit i.toNat then k0 (.tup [.int _,.int (i % n)])else y0
  | _=>y0) (KN c (by simp [Gk])) (by simpa using p5 c)]
 ·rw [Ez]
  simp [Wf.av]
 ·intro d j
  obtain⟨i,f,rfl⟩:=g8 _ j
  have a:0<n:=by cases n with
   | zero=>simp at f
   | succ m=>lia
  have b:0< n/\ n<kc:=by rw [GS];lia
  have g:Kd ((t / 2 ^ i:Nat)) 1=k0 (((t.testBit i).toNat:Nat):Int):=by
   rw [show 1=((1:Nat):Int)from rfl,Qd,JP]
  refine⟨_,t.testBit i,rfl,?_,?_⟩
  ·unfold Gm
   simp only [eval,Gk,Ae4,List.replicate_zero,Ab0,Al0,Ae5,GC,Gp,R.ab,GH,jj,zd,g,R.aj,tW]
   cases t.testBit i<;>rfl
  ·by_cases e:t.testBit i=u0
   ·simp [e,Gk,b,a]
   ·simp [e]
end M
local macro_rules | `(tactic| simp_all [$xs,*]) => `(tactic| simp only [M.exec, M.execs, M.Gm, M.eval, M.Gi, M.Gu, M.Gn, M.Gr, M.GF, M.Gk, M.Gp, M.GC, M.aL, M.R.ab, M.R.ay, M.R.aj, M.O.cA, M.O.cY, M.O.gJ, M.W.iQ, M.W.gZ, M.W.bO, M.W.eJ, M.W.gs, Ab0, Ae3, Al0, Ae5, Nat.reduceSub, Ae4, List.replicate_zero, M.GP, Bool.not_true, An8, M.GH, Ah9, M.Kk, M.Kl, M.Kp, M.G9, M.Km, M.Ko, M.int?_int, M.Ga, M.Gx, M.Kf, M.GA, M.Gz, M.GZ, $xs,*])
namespace M
def Co (d:n<=20){t:Nat}{a b:Nat}(i:a<n) (g:b<n) (h):
 execs F Qh [k0 (.v (.int (n:Int))),k0 l,k0 (.v (.int (t:Int))),k0 (.v (.int (a:Int))),k0 (.v (.int (b:Int)))] h=
  .next [k0 (.v (.int (n:Int))),k0 l,k0 (.v (.int ((t ||| 2 ^ (a*n+b):Nat):Int))),k0 (.v (.int (a:Int))),k0 (.v (.int (b:Int)))] h:=by
 have f:=Jc a n (by lia)
 have c:Gj .shl 1 _=k0 ((2 ^ (a*n+b):Nat):Int):=zT _ (by
  have:=Wf.place_lt i g
  have:=zh d
  lia)
 have e:=Xn t (2 ^ (a*n+b))
 rw [Int.natCast_add]at c
 simp only [Qh,execs,exec,eval,Gk,Gp,R.ab,R.aj,R.ay,O.cA,GH,f,zc,c,Jq,e,W.iQ,GC]
theorem uE (b:n<=20)(h): ∀ ps (t:Nat) r x y,Wf.gg n ps-> ∃j J,
 Gw (Gv [3,4] k9) (λτ h=>execs F Qh τ h) (ps.map pD++r) [k0 (.v (.int (n:Int))),k0 l,k0 (.v (.int (t:Int))),x,y] h=
  Gw (Gv [3,4] k9) (λτ h=>execs F Qh τ h) r [k0 (.v (.int (n:Int))),k0 l,k0 (.v (.int ((ps.foldl (λt p=>t ||| 2 ^ (p.1*n+p.2)) t:Nat):Int))),j,J] h
 | [],t,r,x,y,_=>⟨x,y,rfl⟩
 | p::ps,t,r,x,y,c=>by
  have a:=c p Aa7
  obtain⟨j,J,e⟩:=uE b h ps (t ||| 2 ^ (p.1*n+p.2)) r (k0 (.v (.int p.1))) (k0 (.v (.int p.2))) λq d=>c q (Aa4 _ d)
  refine⟨j,J,?_⟩
  rw [Ab0,Al0,xb rfl (Co b a.1 a.2 h),e]
  rfl
def Fu (k n) (ps) (l) (c:kv l=k0 (ps.map pD)) (h) (b:n<=20) (a:Wf.gg n ps):call prog (k+1) "gathered" [.v (.int (n:Int)),l] h= .ok (.v (.int ((Wf.cK n ps:Nat):Int))) h:=by
 rw [Gb rfl _ _ _ rfl]
 obtain⟨d,f,e⟩:=uE b h ps 0 [] y0 y0 a
 rw [Ag0,qG]at e
 simp [QM,c,R.aj]
 rw [show (0)=((0:Nat):Int)from rfl,e]
 simp [Wf.cK]
def ZI (k n) (ps) (h) (a:n<=20) (b:Wf.gg n ps):call prog (k+3) "gathered" [.v (.int (n:Int)),.bor (ps.map pD)] h= .ok (.v (.int ((Wf.cK n ps:Nat):Int))) h:=Fu _ n ps _ rfl h a b
def qP (k s t:Nat) (h):call prog (k+1) "either" [.v (.int (s:Int)),.v (.int (t:Int))] h= .ok (.v (.int ((s ||| t:Nat):Int))) h:=by
 rw [Gb rfl _ _ _ rfl]
 simp_all [rQ,Jq,Xn]
def HV (k s t:Nat) (h):call prog (k+1) "common" [.v (.int (s:Int)),.v (.int (t:Int))] h= .ok (.v (.int ((s &&& t:Nat):Int))) h:=by
 rw [Gb rfl _ _ _ rfl]
 simp_all [vR,zd,Qd]
def J4 (s t:Nat):Kd (s:Int) (-(t:Int)-1)=k0 ((s-(s &&& t):Nat):Int):=by
 have a: ¬(0<= -(t:Int)-1):=by lia
 have c: 0<=(s:Int):=by lia
 have b:(-(-(t:Int)-1)-1).toNat=t:=by lia
 rw [Kd,if_pos c,if_neg a,b,Ad7]
def qx (k s t:Nat) (h):call prog (k+1) "without" [.v (.int (s:Int)),.v (.int (t:Int))] h= .ok (.v (.int ((s-(s &&& t):Nat):Int))) h:=by
 rw [Gb rfl _ _ _ rfl]
 simp_all [QT,zd,J4]
def Hz (q:eval F e τ h= .ok (.own xs) h):Gn F (.seq e) τ h= .ok xs h:=by
 rw [Gn,q];rfl
def yY (q:eval F e τ h= .ok (.v (.tup xs)) h):Gn F (.seq e) τ h= .ok xs h:=by
 rw [Gn,q];rfl
def WG (n t) (a:n<=20):((Wf.av n t).map pD).length<=ba:=by
 refine Ab9 ?_ (p5 a)
 simp only [Wf.av,Aa]
 exact Ab9 (Ak6 _ _) (by simp)
def B5 (k n t:Nat) (h) (a:n<=20):call prog (k+4) "turned" [.v (.int (n:Int)),.v (.int (t:Int))] h= .ok (.v (.int ((Wf.bI n t:Nat):Int))) h:=by
 rw [Gb rfl _ _ _ rfl]
 have b: ∀h,eval (u9 (k+3)) Jz [k0 (.v (.int n)),k0 (.v (.int t))] h= .ok (.own ((Wf.la (Wf.av n t)).map pD)) h:=by
  intro h
  rw [Jz,Xj (λd=>match d with | .tup [x,y]=> .tup [y,x] | d=>d) (Hz ?_) (WG n t a)]
  ·simp [Wf.la,pD,Function.comp_def]
  ·intro d c
   obtain⟨p,e,rfl⟩:=Ab8.mp c
   exact⟨_,rfl,_,rfl,rfl⟩
  ·simp_all [Qs _ n t h a]
 simp_all [rh,b,ZI k n _ h a (Wf.eC (Wf.bQ n t))]
 rfl
def yq (k n:Nat) (h) (b:n<=20):call prog (k+4) "same" [.v (.int (n:Int))] h= .ok (.v (.int ((Wf.bD n:Nat):Int))) h:=by
 rw [Gb rfl _ _ _ rfl]
 have c: ∀h,eval (u9 (k+3)) jP [k0 (.v (.int n))] h= .ok (.own (((Aa5 n).map λa=>(a,a)).map pD)) h:=by
  intro h
  rw [jP,Xj (λd=> .tup [d,d]) (Js (m:=n) (by simp_all []) (by lia)) (by simp;rw [Gg];lia)]
  ·simp [pD,Function.comp_def]
  ·intro d e
   exact⟨_,rfl,_,rfl,rfl⟩
 simp_all [uu,c,ZI k n _ h b (Wf.dR n)]
 rfl
def tP (k n:Nat) (h) (b:n<=20):call prog (k+1) "every" [.v (.int (n:Int))] h= .ok (.v (.int ((2 ^ (n*n)-1:Nat):Int))) h:=by
 rw [Gb rfl _ _ _ rfl]
 have d:=Jc n n (by lia)
 have c:=zT (n*n) (by have:=zh b;lia)
 have a:((2 ^ (n*n):Nat))-1=((2 ^ (n*n)-1:Nat):Int):=by
  have:=Ac6 (n*n)
  omega
 simp_all [sx,d,c,zf,a]
def Q8 (x k:Nat) (b:x<2 ^ 64) (h:k<=1000000):Gj .shl (x:Int) (k:Int)=k0 ((x*2 ^ k:Nat):Int):=by
 have a: 0<=(k:Int)/\ k<=BP/\(x:Int).natAbs<kb:=by rw [G6,GE];exact⟨by lia,by lia,by simpa using b⟩
 show(if _ then _ else _)=_
 rw [if_pos a,Ad7,Int.natCast_mul,Int.natCast_pow]
 rfl
def B2 {n o p t a b:Nat}(d:n<=20) (j:a<n) (k:b<n)(h):
 execs F Xr [k0 (.v (.int (n:Int))),k0 (.v (.int (o:Int))),k0 (.v (.int (p:Int))),k0 (.v (.int ((2 ^ n-1:Nat):Int))),k0 (.v (.int (t:Int))),k0 (.v (.int (a:Int))),k0 (.v (.int (b:Int))),x7] h=
  .next [k0 (.v (.int (n:Int))),k0 (.v (.int (o:Int))),k0 (.v (.int (p:Int))),k0 (.v (.int ((2 ^ n-1:Nat):Int))),k0 (.v (.int ((t ||| Wf.b8 n p b*2 ^ (a*n):Nat):Int))),k0 (.v (.int (a:Int))),k0 (.v (.int (b:Int))),k0 (.v (.int ((Wf.b8 n p b:Nat):Int)))] h:=by
 have f:=Jc a n (by lia)
 have c:=Jc b n (by lia)
 have i:(p / 2 ^ (b*n) &&& (2 ^ n-1))=Wf.b8 n p b:=by rw [Af3];rfl
 have e:=Ab9 (Ae2 (Ag j) (Aa8 n)) (zh d)
 have g:=Q8 _ (a*n) (Ab3 (Wf.cW n p b) (Ab9 (Ae0 (by decide) d) (by decide))) (by lia)
 simp_all [Xr,f,c,jj,zd,Qd,i,g,Jq,Xn]
theorem vb {n o p:Nat}(c:n<=20) (h): ∀ ps (t:Nat) x y z,Wf.gg n ps-> ∃J j L,
 Gw (Gv [5,6] k9) (λτ h=>execs F Xr τ h) (ps.map pD) [k0 (.v (.int (n:Int))),k0 (.v (.int (o:Int))),k0 (.v (.int (p:Int))),k0 (.v (.int ((2 ^ n-1:Nat):Int))),k0 (.v (.int (t:Int))),x,y,z] h=
  .next [k0 (.v (.int (n:Int))),k0 (.v (.int (o:Int))),k0 (.v (.int (p:Int))),k0 (.v (.int ((2 ^ n-1:Nat):Int))),k0 (.v (.int ((ps.foldl (λt q=>t ||| Wf.b8 n p q.2*2 ^ (q.1*n)) t:Nat):Int))),J,j,L] h
 | [],t,x,y,z,_=>⟨x,y,z,rfl⟩
 | q::ps,t,x,y,z,b=>by
  have a:=b q Aa7
  obtain⟨J,j,L,e⟩:=vb c h ps (t ||| Wf.b8 n p q.2*2 ^ (q.1*n)) (k0 (.v (.int q.1))) (k0 (.v (.int q.2))) (k0 (.v (.int ((Wf.b8 n p q.2:Nat))))) λq d=>b q (Aa4 _ d)
  refine⟨J,j,L,?_⟩
  rw [Ab0,xb rfl (B2 c a.1 a.2 h),e]
  rfl
def qQ (k n o p:Nat) (h) (a:n<=20):call prog (k+2) "joined" [.v (.int (n:Int)),.v (.int (o:Int)),.v (.int (p:Int))] h= .ok (.v (.int ((Wf.joinM n o p:Nat):Int))) h:=by
 rw [Gb rfl _ _ _ rfl]
 have c:=zT n (by lia)
 have b:((2 ^ n:Nat))-1=((2 ^ n-1:Nat):Int):=by
  have:=Ac6 n
  lia
 obtain⟨d,f,g,e⟩:=vb a h _ 0 y0 y0 y0 (Wf.bQ n o)
 simp_all [tU,c,zf,b,Qs k n o h a]
 rw [show (0)=((0:Nat):Int)from rfl,e]
 simp_all []
 rfl
theorem xX (d:n<=20) (h): ∀ f r,2 ^ (n*n)-r<f->Wf.ft n t r-> ∃r',Wf.eY n t r' ∧
 GL (λτ h=>Gm (u9 (k+2)) Xs τ h) (λτ h=>execs (u9 (k+2)) Jr τ h) f [k0 (.v (.int (n:Int))),k0 (.v (.int (t:Int))),k0 (.v (.int (r:Int))),k0 (.v (.int ((r ||| Wf.joinM n r r:Nat):Int)))] h=
  .next [k0 (.v (.int (n:Int))),k0 (.v (.int (t:Int))),k0 (.v (.int (r':Int))),k0 (.v (.int (r':Int)))] h
 | 0,r,g,_=>absurd g (Ai8 _)
 | f+1,r,g,c=>by
  have i: ∀(a b:Nat),Gm (u9 (k+2)) Xs [k0 (.v (.int n)),k0 (.v (.int t)),k0 (.v (.int a)),k0 (.v (.int b))] h= .ok (!y9 (b=a)) h:=by
   intro a b
   simp [Gm,Xs,Gk,Kg]
   by_cases q:b=a
   ·simp [q]
   ·have: ¬(b=(a:Int)):=by omega
    simp [q,this]
  rw [GL,i,R.ay]
  by_cases e:r ||| Wf.joinM n r r=r
  ·refine⟨r,c.done e,?_⟩
   simp only [e,decide_true,Bool.not_true]
  ·have p:=c.grow e
   have m:=c.next.lt
   obtain⟨r',j,o⟩:=xX d h f (r ||| Wf.joinM n r r) (by omega) c.next
   refine⟨r',j,?_⟩
   simp only [e,decide_false,An8]
   have l:execs (u9 (k+2)) Jr [k0 (.v (.int n)),k0 (.v (.int t)),k0 (.v (.int r)),k0 (.v (.int ((r ||| Wf.joinM n r r:Nat))))] h=
    .next [k0 (.v (.int n)),k0 (.v (.int t)),k0 (.v (.int ((r ||| Wf.joinM n r r:Nat)))),k0 (.v (.int (((r ||| Wf.joinM n r r) ||| Wf.joinM n (r ||| Wf.joinM n r r) (r ||| Wf.joinM n r r):Nat))))] h:=by
    simp_all [Jr,qQ k n _ _ h d,qP (k+1) _ _ h]
   simp only [l]
   exact o
def Ef (k n t) (h) (a:n<=4) (e:t<2 ^ (n*n)): ∃r,Wf.eY n t r/\call prog (k+3) "closed" [.v (.int (n:Int)),.v (.int (t:Int))] h= .ok (.v (.int (r:Int))) h:=by
 rw [Gb rfl _ _ _ rfl]
 have c:2 ^ (n*n)-t<100000:=by
  have:n*n<=16:=Ae2 a a
  have:2 ^ _<=2 ^ 16:=Ae0 (by decide) this
  lia
 obtain⟨r,d,b⟩:=xX (by lia) h 100000 t c (Wf.ft.start e)
 refine⟨r,d,?_⟩
 simp [Gm]at b
 simp_all [tI,qQ k n _ _ h (by lia),qP _ _ _ h]
 rw [b]
 simp_all []
def za (e:exec F s τ h= .next τ1 h1):execs F (.cons s ss) τ h=execs F ss τ1 h1:=by rw [execs,e,O.cA]
def qa (e:exec F s τ h= .ret w h1):execs F (.cons s ss) τ h= .ret w h1:=by rw [execs,e,O.cY]
def Qr (e:Gm F c τ h= .ok u0 h1):exec F (.iff c a b) τ h=execs F a τ h1:=by rw [exec,e,R.ay]
def iU (e:Gm F c τ h= .ok k9 h1):exec F (.iff c a b) τ h=execs F b τ h1:=by rw [exec,e,R.ay]
def zA (a:GF e=y0) (q:eval F e τ h= .ok (.own xs) h1):exec F (.ret e) τ h= .ret (.own xs) h1:=by
 rw [exec,a];simp [q,R.ay]
def Qa (a:GF e=y0) (q:eval F e τ h= .ok (.v d) h1):exec F (.ret e) τ h= .ret (.v d) h1:=by
 rw [exec,a];simp [q,R.ay]
def jq (e:h[r]? =k0 (.lst xs)) (i):dz (.v (.ref r)) (.v (.int i)) h=aW xs i:=by
 simp [dz,W.bJ,W.seq?,e]
def mD (x y z:D):aW [x,y,z] 0=k0 x:=rfl
def Q0 (x y z:D):aW [x,y,z] 1=k0 y:=rfl
def Q4 (x y z:D):aW [x,y,z] 2=k0 z:=rfl
def EH:dC 3 2=k0 2:=rfl
def zx (b:eval F e τ h= .ok (.v d) h) (c:Gk τ i=k0 (.v (.ref r))) (f:h[r]? =k0 (.lst xs)) (k:dC xs.length j=k0 n) (g:GI d=u0) (a:h2=h.set r (.lst (xs.set n d))):
 exec F (.bS (.var i) (.int j) e) τ h= .next τ h2:=by
 subst a
 simp only [exec,b,R.ay,eval,c,Kj,f,k,g,if_true]
def w9 (a b) (h: -(2:Int) ^ 64<b/\b<2 ^ 64):Gj .mul a b=k0 (a*b):=by
 have c:(-dZ<a/\a<dZ)\/(-dZ<b/\b<dZ):=by rw [GU];exact .inr h
 show(if _ then _ else _)=_
 rw [if_pos c]
def Cz (a b) (h: -(2:Int) ^ 64<a/\a<2 ^ 64):Gj .mul a b=k0 (a*b):=by
 have c:(-dZ<a/\a<dZ)\/(-dZ<b/\b<dZ):=by rw [GU];exact .inl h
 show(if _ then _ else _)=_
 rw [if_pos c]
def ZH (a b) (h:0<b):Gj .mod a b=k0 (a % b):=by
 rw [EO,if_pos h]
def Q9 (a b) (h:0<b) (c:b<1073741824):Gj .fdiv a b=k0 (a / b):=by
 rw [KH,if_pos ⟨h,by rw [GS];exact c⟩]
def CN (i j) (h):Gs .eq (.v (.int i)) (.v (.int j)) h=k0 (y9 (i=j)):=by
 rfl
theorem XW: ∀xs:List Int,Ka (xs.map .int)=k0 xs.sum
 | []=>rfl
 | x::xs=>by simp [Ka,XW xs]
def Ds (f:α->β) (xs) (lo hi):cut (xs.map f) lo hi=(cut xs lo hi).map f:=by
 simp [cut,Ao1]
def yB (xs:List α) (lo hi):(cut xs lo hi).length<=xs.length:=by
 simp [cut,Af7]
 lia
abbrev k6:Tx:= vD
noncomputable def Ik:List Tx:= [f6,gW,fu,gG,[101,97,99,104],fY,km,gw,gq,iu,iC,f7,[107,105,110,100],[116,105,101],[115,97,121]]
structure Ih (t:Tx):Prop where
 lo:1<=t.length
 hi:t.length<=8
 Cn: ∀c∈t,97<=c/\c<=122
 free:t∉Ik
def De (i:Nat) (h:i<26):aW k6 (i:Int)=k0 (97+i):=by
 have: ∀i:Nat,i<26->aW k6 i=k0 (97+i):=by decide
 exact this i h
def wW (xs:List α) (n:Nat):cut xs y0 (k0 (n:Int))=xs.take n:=by
 have a: ¬((n:Int)<0):=by lia
 simp only [cut,aX,a,if_false,Ad7,List.drop_zero,Nat.sub_zero]
 by_cases q:n<=xs.length
 ·rw [Ak1 q]
 ·rw [Nat.min_eq_right (by lia),Ag5 (Aa8 _),Ag5 (by lia)]
def XF (xs:List α) (n:Nat):cut xs (k0 (n:Int)) y0=xs.drop n:=by
 have a: ¬((n:Int)<0):=by lia
 simp [cut,aX,a,Ad7]
 by_cases q:n<=xs.length
 ·rw [Ak1 q,Ag5 (by simp)]
 ·rw [Nat.min_eq_right (by lia),List.drop_of_length_le (Aa8 _),List.drop_of_length_le (by lia),List.take_nil]
def oX (s) (lo hi) (h) (a:s.length<=ba):eb (.v (.str s)) lo hi h= .ok (.v (.str (cut s lo hi))) h:=by
 show(if s.length<=ba then _ else _)=_
 rw [if_pos a]
def mul_str (s) (n:Nat) (h) (b:n<=1000) (a:s.length*n<=1000000):GM .mul (.v (.str s)) (.v (.int (n:Int))) h= .ok (.v (.str (Aa2 n s).flatten)) h:=by
 show(if 0<=(n:Int)/\(n:Int)<=1000/\s.length*(n:Int).toNat<=ba then _ else _)=_
 rw [if_pos ⟨by lia,by lia,by rw [Gg,Ad7];exact a⟩,Ad7]
def add_str (s u) (h) (a:s.length+u.length<=1000000):GM .add (.v (.str s)) (.v (.str u)) h= .ok (.v (.str (s++u))) h:=by
 rw [AL,if_pos (by rw [Gg];exact a)]
def wA (i:Nat) (a:i<26) (h):dz (.v (.str k6)) (.v (.int (i:Int))) h=k0 (.str [97+i]):=by
 rw [ng,if_pos (by rw [Gg];decide),De i a]
 rfl
def uR (f:Nat->α) (m) (h:m<=8) (g: ∀i,i<8-> ∀j,j<8->i≠j->f i≠f j):((Aa5 m).map f).Nodup:=by
 rw [List.Nodup,List.pairwise_map]
 refine Ao2.imp_of_mem ?_ (List.nodup_range)
 intro a b d e c
 exact g a (by have:=Ab7.mp d;lia) b (by have:=Ab7.mp e;lia) c
def kJ (a b:Nat) (c:0<b):Gj .mod (a:Int) (b:Int)=k0 ((a % b:Nat):Int):=by
 rw [ZH _ _ (by lia)];rfl
def K5 (a b:Nat) (d:0<b) (c:b<1073741824):Gj .fdiv (a:Int) (b:Int)=k0 ((a / b:Nat):Int):=by
 rw [Q9 _ _ (by lia) (by lia)];rfl
def F0 (a b:Nat):Gj .add (a:Int) (b:Int)=k0 ((a+b:Nat):Int):=rfl
def zg (xs:List α) (i) (h:i<xs.length):aW xs (i:Int)=xs[i]? :=by
 have:(i)< xs.length:=by omega
 simp [aW,dC,this]
def zi (i j:Nat) (h):Gs .eq (.v (.int (i:Int))) (.v (.int (j:Int))) h=k0 (y9 (i=j)):=by
 rw [CN]
 congr 1
 exact decide_eq_decide.mpr (by lia)
theorem XB: ∀j:List Tx,GR (j.map .str)=k0 j
 | []=>rfl
 | t::j=>by simp [GR,XB j]
theorem vp (s): ∀j:List Tx,inD (.str s) (j.map .str)=y9 (s∈j)
 | []=>rfl
 | t::j=>by
  have a:=vp s j
  simp only [inD]at a
  by_cases q:t=s
  ·subst q
   simp [inD]
  ·have b: ¬s=t:=λe=>q e.symm
   simp only [inD,Ab0,Ae8,a,Ac1,b,false_or]
   simp [q]
def B0 (a:List Tx):(a.map D.str).all GI=true:=by simp
def JF (s) (a:List Tx) (w) (h) (c:w.seq? h=k0 (a.map .str)) (b:w.bJ =y0):Kb (.v (.str s)) w h=k0 (y9 (s∈a)):=by
 unfold Kb
 rw [b]
 simp only [W.bJ,W.iQ,c,B0,Ad9,if_true,vp]
structure Nm (ts:List Tx):Prop where
 nd:ts.Nodup
 good: ∀t∈ts,Ih t
def qf (x) (r:List α):aW (x::r) 0=k0 x:=by
 have: 0< (x::r).length:=by simp
 simp [aW,dC,this]
def HM (xs) (n:Nat) (h) (b:n<=1000) (a:xs.length*n<=1000000):GM .mul (.own xs) (.v (.int (n:Int))) h= .ok (.own (Aa2 n xs).flatten) h:=by
 show Kq xs n h=_
 rw [Kq,if_pos ⟨by lia,by lia,by rw [Ad7,Gg];exact a⟩,Ad7]
def kr (a:Gc d=u0) (b:n<=h.length): ∃h',Gq n (.ret (.v d) h)= .ok (.v d) h'/\h'=h.take n:=by
 by_cases q:h.length=n
 ·exact⟨h,by simp [Gq,fin,q],by rw [← q,Ao8]⟩
 ·exact⟨h.take n,by simp [Gq,fin,q,W.keep,a],rfl⟩
theorem zv: ∀j:List Tx,Gf (j.map .str)=u0
 | []=>rfl
 | t::j=>by simp [zv j]
def Bb (a:Gi F es τ h= .ok ws h) (b:F.call f (ws.map W.arg) h= .ok (.own xs) h) (c:Gf xs=u0):eval F (.share (.call f es)) τ h= .ok (.v (.ref h.length)) (h++ [.lst xs]):=by
 simp only [eval,a,R.ab,b,c,if_true]
theorem qr (x): ∀ys:List Tx,(GY x ys).Perm (x::ys)
 | []=> .refl _
 | y::ys=>by
  unfold GY
  by_cases q:y<x
  ·rw [if_pos q]
   exact((qr x ys).cons y).trans (.swap x y ys)
  ·rw [if_neg q]
theorem qj: ∀xs:List Tx,(GB xs).Perm xs
 | []=> .refl _
 | x::xs=>(qr x (GB xs)).trans ((qj xs).cons x)
abbrev g4 (a:List Tx):D:= .tup (a.map .str)
abbrev wD (K T:List Tx):D:= .tup [g4 K,g4 T]
def ZL (ts) (h) (a:ts.length<64):dA .sorted [.own (ts.map .str)] h= .ok (.own ((GB ts).map .str)) h:=by
 show(R.of h ((k0 _).bind GR)).bind _=_
 rw [Ah9,XB,R.aj,R.ab,if_pos a]
abbrev aK (l:List Nat):List D:=l.map λ(x:Nat)=> .int (x:Int)
abbrev hR (n:Nat) (a b:List Nat):D:= .tup [.int (n:Int),.tup (aK a),.tup (aK b)]
structure DM (n K T:Nat) (ks ts:List Nat):Prop where
 n4:n<=4
 lk:ks.length=K
 lt:ts.length=T
 bk: ∀x∈ks,x<2 ^ n
 bt: ∀x∈ts,x<2 ^ (n*n)
inductive Ex where
 | name (t:Tx)
 | same
 | all
 | none
 | turned (a:Ex)
 | closed (a:Ex)
 | plus (a b:Ex)
 | less (a b:Ex)
 | both (a b:Ex)
 | joined (a b:Ex)
abbrev wg:Tx:= [110,97,109,101]
abbrev xf:Tx:= [115,97,109,101]
abbrev Jl:Tx:= [97,108,108]
abbrev Ze:Tx:= [110,111,110,101]
abbrev WH:Tx:= [112,108,117,115]
abbrev zp:Tx:= [108,101,115,115]
abbrev WC:Tx:= [98,111,116,104]
abbrev jh:Tx:= [106,111,105,110,101,100]
abbrev xi:Tx:= [116,117,114,110,101,100]
abbrev Qi:Tx:= [99,108,111,115,101,100]
noncomputable def aU:Ex->D
 | .name t=> .tup [.str wg,.str t]
 | .same=> .tup [.str xf]
 | .all=> .tup [.str Jl]
 | .none=> .tup [.str Ze]
 | .turned a=> .tup [.str xi,aU a]
 | .closed a=> .tup [.str Qi,aU a]
 | .plus a b=> .tup [.str WH,aU a,aU b]
 | .less a b=> .tup [.str zp,aU a,aU b]
 | .both a b=> .tup [.str WC,aU a,aU b]
 | .joined a b=> .tup [.str jh,aU a,aU b]
def Ex.wf (N:List Tx):Ex->Prop
 | .name t=>t∈N
 | .turned a=>a.wf N
 | .closed a=>a.wf N
 | .plus a b=>a.wf N/\b.wf N
 | .less a b=>a.wf N/\b.wf N
 | .both a b=>a.wf N/\b.wf N
 | .joined a b=>a.wf N/\b.wf N
 | _=>True
noncomputable def Ex.dp:Ex->Nat
 | .turned a=>a.dp+1
 | .closed a=>a.dp+1
 | .plus a b=>max a.dp b.dp+1
 | .less a b=>max a.dp b.dp+1
 | .both a b=>max a.dp b.dp+1
 | .joined a b=>max a.dp b.dp+1
 | _=>0
end M
namespace Wf
def wr (g:Nat->Nat->Bool):Nat->Nat->Nat->Bool
 | 0,a,b=>g a b
 | k+1,a,b=>wr g k a b||(wr g k a k&&wr g k k b)
theorem J8 : ∀k,g a b=u0->wr g k a b=u0
 | 0,h=>h
 | k+1,h=>by rw [wr,J8 k h,Al8]
theorem sV : ∀ k m,m<k-> ∀a b,wr g k a m=u0->wr g k m b=u0->wr g k a b=u0
 | 0,m,f=>absurd f (Ai8 _)
 | k+1,m,f=>λa b c d=>by
  rw [wr,Ae7,Aa0]at c d
  rw [wr,Ae7,Aa0]
  by_cases q:m=k
  ·subst q
   have c:=c.elim id And.left
   have d:=d.elim id And.right
   exact .inr ⟨c,d⟩
  ·have h:m<k:=by omega
   have e:=sV (g:=g) k m h
   rcases c with c | c<;>rcases d with d | d
   ·exact .inl (e a b c d)
   ·exact .inr ⟨e a k c d.1,d.2⟩
   ·exact .inr ⟨c.1,e k b c.2 d⟩
   ·exact .inr ⟨c.1,d.2⟩
theorem qF (e: ∀a b,a<n->b<n->(g a b=u0↔t.testBit (a*n+b)=u0)): ∀k,k<=n-> ∀a b,a<n->b<n->wr g k a b=u0->TC n t a b
 | 0,_,a,b,d,c,h=> .step d c ((e a b d c).mp h)
 | k+1,f,a,b,d,c,h=>by
  rw [wr,Ae7,Aa0]at h
  rcases h with h | h
  ·exact qF e k (by omega) a b d c h
  ·exact(qF e k (by omega) a k d (by omega) h.1).trans (qF e k (by omega) k b (by omega) c h.2)
def C8 (f: ∀a b,a<n->b<n->(g a b=u0↔t.testBit (a*n+b)=u0))(h:TC n t a b):wr g n a b=true:=by
 induction h with
 | step c d e=>exact J8 n ((f _ _ c d).mpr e)
 | more j c d e i=>exact sV n _ c _ _ i (J8 n ((f _ _ c d).mpr e))
def ia (c: ∀a b,a<n->b<n->(g a b=u0↔t.testBit (a*n+b)=u0))(e:a<n) (d:b<n):wr g n a b=u0↔TC n t a b:=⟨qF c n (Aa8 n) a b e d,C8 c⟩
end Wf
namespace M
def c5 (t:Tx) (a:List Tx):Nat:=(Kc t a).getD 0
theorem xk : ∀ {j},t∈j->Kc t j=k0 (c5 t j)/\c5 t j<j.length
 | y::b,h=>by
  unfold c5
  by_cases q:y=t
  ·simp [Kc,q]
  ·have a:t∈b:=by
    rcases Ac1.mp h with e | e
    ·exact absurd e.symm q
    ·exact e
   obtain⟨e,l⟩:=xk a
   simp only [Kc,q,if_false,e,Option.map_some,Ak5,Ab]at l ⊢
   exact⟨trivial,by omega⟩
structure Wo where
 n:Nat
 K:List Tx
 T:List Tx
 ks:List Nat
 ts:List Nat
structure Wo.Ok (w:Wo):Prop where
 hK:w.K.length<=4
 hT:w.T.length<=4
 nd:(w.K++w.T).Nodup
 wl:DM w.n w.K.length w.T.length w.ks w.ts
def Wo.at (w:Wo) (t:Tx) (a b:Nat):Prop:=if t∈w.T then(w.ts.getD (c5 t w.T) 0).testBit (a*w.n+b)=u0 else a=b/\(w.ks.getD (c5 t w.K) 0).testBit a=u0
def fe (w:Wo):Ex->Nat->Nat->Prop
 | .name t,a,b=>w.at t a b
 | .same,a,b=>a=b
 | .all,_,_=>True
 | .none,_,_=>False
 | .turned e,a,b=>fe w e b a
 | .closed e,a,b=> ∃t,t<2 ^ (w.n*w.n)/\(∀ x y,x<w.n->y<w.n->(t.testBit (x*w.n+y)=u0↔fe w e x y))/\Wf.TC w.n t a b
 | .plus e f,a,b=>fe w e a b\/fe w f a b
 | .less e f,a,b=>fe w e a b/\ ¬fe w f a b
 | .both e f,a,b=>fe w e a b/\fe w f a b
 | .joined e f,a,b=> ∃c,c<w.n/\fe w e a c/\fe w f c b
def Is (w:Wo) (e:Ex) (v:Nat):Prop:=v<2 ^ (w.n*w.n)/\ ∀a b,a<w.n->b<w.n->(v.testBit (a*w.n+b)=u0↔fe w e a b)
def oF (a:s<2 ^ n) (b:t<2 ^ n):s ||| t<2 ^ n:=Am2 a b
def Wo.words (w:Wo):D:=wD w.K w.T
def Wo.aN (w:Wo):D:=hR w.n w.ks w.ts
def ml (l) (i:Nat) (h:i<l.length):aW (aK l) (i:Int)=k0 (.int ((l.getD i 0:Nat):Int)):=by
 rw [zg _ _ (by simp_all),Ac2,Aa3 h,Ac5,Aa3 h]
 rfl
def zZ (a) (t) (h) (b:t∈a) (c:a.length<=1000):kP .index (.v (g4 a)) [.v (.str t)] h= .ok (.v (.int ((c5 t a:Nat):Int))) h:=by
 show(R.of h ((k0 _).bind GR)).bind _=_
 rw [Ah9,XB,R.aj,R.ab]
 show(R.of h (k0 t)).bind _=_
 rw [R.aj,R.ab,(xk b).1,R.aj,R.ab,if_pos (by rw [Gg];lia)]
def jk (x y:D):aW [x,y] 0=k0 x:=rfl
def Qe (x y:D):aW [x,y] 1=k0 y:=rfl
def yG (x:D):aW [x] 0=k0 x:=rfl
def Q1 (n x:Nat):List (Nat×Nat):=((Aa5 n).filter x.testBit).map λa=>(a,a)
def QP (n x):Wf.gg n (Q1 n x):=λp b=>by
 obtain⟨a,c,rfl⟩:=Ab8.mp b
 have:=Ab7.mp (Ai6.mp c).1
 exact⟨this,this⟩
def uF (j:a<n) (g:b<n):(Wf.cK n (Q1 n x)).testBit (a*n+b)=u0↔a=b/\x.testBit a=true:=by
 rw [Wf.cy,Ad0]
 refine⟨λ⟨p,h,e⟩=> ?_,λ⟨e,i⟩=> ?_⟩
 ·obtain⟨c,d,rfl⟩:=Ab8.mp h
  have f:=Ai6.mp d
  have d:=Ab7.mp f.1
  have e:=of_decide_eq_true e
  have e1:=congrArg (· / n) e
  have e2:=congrArg (· % n) e
  simp [Wf.aE d,Wf.aE g,Wf.aI d,Wf.aI g]at e1 e2
  subst e1
  exact⟨e2,f.2⟩
 ·subst e
  exact⟨_,Ab8.mpr ⟨a,Ai6.mpr ⟨Ab7.mpr j,i⟩,rfl⟩,decide_eq_true rfl⟩
def E9 (n x:Nat) (k:n<=4) (h):eval F Jg [a,b,c,k0 (.v (.int (n:Int))),k0 (.v (.int (x:Int)))] h= .ok (.own ((Q1 n x).map pD)) h:=by
 rw [Jg,uV (λd=>match d with
  | .int i=>if x.testBit i.toNat then k0 (.tup [.int i,.int i])else y0
  | _=>y0) (Js (m:=n) (by simp_all []) (by lia)) (by simp;rw [Gg];lia)]
 ·congr 2
  rw [List.filterMap_map,Q1,Ad1]
  induction Aa5 n with
  | nil=>rfl
  | cons y o f=>
   by_cases e:x.testBit y=u0
   ·simp [e,pD,f]
   ·simp [e,f]
 ·intro d j
  obtain⟨i,l,rfl⟩:=g8 _ j
  have g:Kd ((x / 2 ^ i:Nat)) 1=k0 (((x.testBit i).toNat:Nat):Int):=by
   rw [show 1=((1:Nat):Int)from rfl,Qd,JP]
  refine⟨[k0 _,k0 _],x.testBit i,rfl,?_,?_⟩
  ·unfold Gm
   simp only [eval,Gk,Gp,R.ab,GH,jj,zd,g,R.aj,tW]
   cases x.testBit i<;>rfl
  ·by_cases e:x.testBit i=u0
   ·simp [e,Gk]
   ·simp [e]
def vQ (t) (ts) (h):Gs .mem (.v (.str t)) (.v (g4 ts)) h=k0 (y9 (t∈ts)):=JF t ts (.v (g4 ts)) h rfl rfl
def Wn (k)(ok:w.Ok) (t) (g:t∈w.K++w.T) (h): ∃v,Is w (.name t) v/\call prog (k+4) "value_of_name" [.v w.words,.v w.aN,.v (.str t)] h= .ok (.v (.int (v:Int))) h:=by
 rw [Gb rfl _ _ _ rfl]
 simp only [Zo]
 show ∃v,_/\Gq _ (execs _ _ [k0 (.v (wD w.K w.T)),k0 (.v (hR w.n w.ks w.ts)),k0 _,y0,y0] h)=_
 have j:=ok.hK
 have i:=ok.hT
 by_cases q:t∈w.T
 ·have c:=(xk q).2
  refine⟨w.ts.getD (c5 t w.T) 0,⟨?_,λa b f e=> ?_⟩,?_⟩
  ·rw [Ac5,Aa3 (by rw [ok.wl.lt];exact c)]
   exact ok.wl.bt _ (Ak9 _)
  ·show _↔w.at t a b
   rw [Wo.at,if_pos q]
  ·rw [qa,Ga _ _ _ rfl]
   rw [Qr (h1:=h) (by simp_all [ae,Qe,vQ,decide_eq_true q])]
   exact qa (Qa rfl (by simp only [eval,Gi,Gk,Gp,R.ab,ae,Qe,Q4,R.aj,tO,if_true,zZ w.T t h q (by omega)];rw [ml _ _ (by rw [ok.wl.lt];exact c)];rfl))
 ·have d:=(Ad8.mp g).resolve_right q
  have c:=(xk d).2
  have n4:=ok.wl.n4
  refine⟨Wf.cK w.n (Q1 w.n (w.ks.getD (c5 t w.K) 0)),⟨Wf.cT (QP _ _),λa b f e=> ?_⟩,?_⟩
  ·show _↔w.at t a b
   rw [Wo.at,if_neg q]
   exact uF f e
  ·rw [za (τ1:= [k0 (.v (wD w.K w.T)),k0 (.v (hR w.n w.ks w.ts)),k0 (.v (.str t)),y0,y0]) (h1:=h) (by simp_all [ae,Qe,vQ,decide_eq_false q])]
   rw [za (τ1:= [k0 _,k0 _,k0 _,k0 _,y0]) rfl]
   rw [za (τ1:= [k0 _,k0 _,k0 _,k0 _,k0 _]) (by simp only [exec,eval,Gi,Gk,Gp,R.ab,ae,jk,Q0,R.aj,tO,if_true,zZ w.K t h d (by omega)];rw [ml _ _ (by rw [ok.wl.lk];exact c)];rfl)]
   rw [qa (Qa rfl ?_),Ga _ _ _ rfl]
   simp only [eval,Gi,Gk,Gp,R.ab,E9 w.n _ n4 h,Ab0,Ae3,W.bO,W.eJ,ZI k w.n _ h (by omega) (QP _ _)]
def Wc (s t) (h):Gs .eq (.v (.str s)) (.v (.str t)) h=k0 (s==t):=by simp [Kg]
def ja (e:Gm F c τ h= .ok k9 h):execs F (.cons (.iff c a .nil) ss) τ h=execs F ss τ h:=za (iU e)
def Qc (e:Gm F c τ h= .ok u0 h) (r:exec F s τ h= .ret w h):execs F (.cons (.iff c (.cons s .nil) .nil) ss) τ h= .ret w h:=qa ((Qr e).trans (qa r))
def wb (s X) (h):Gm F (.cmp .eq .v1 (.str X)) [a,k0 (.v (.str s)),c] h= .ok (s==X) h:=by
 simp only [Gm,eval,Gk,Gp,R.ab,Wc,R.aj,GP]
abbrev iM (n:Nat) (s:Tx) (l:List D):Sl:= [k0 (.v (.int (n:Int))),k0 (.v (.str s)),k0 (.v (.lst l))]
def AQ (k n:Nat) (l) (h) (a:n<=4):call prog (k+5) "made" [.v (.int (n:Int)),.v (.str xf),.v (.lst l)] h= .ok (.v (.int ((Wf.bD n:Nat):Int))) h:=by
 rw [Gb rfl _ _ _ rfl]
 simp only [Zy]
 show Gq _ (execs _ _ (iM n xf l) h)=_
 rw [Qc (wb _ _ _) (Qa rfl (by simp only [eval,Gi,Gk,Gp,R.ab,Ab0,Ae3,W.bO,yq k n h (by lia)];rfl)),Ga _ _ _ rfl]
def B7 (k n:Nat) (l) (h) (a:n<=4):call prog (k+5) "made" [.v (.int (n:Int)),.v (.str Jl),.v (.lst l)] h= .ok (.v (.int ((2 ^ (n*n)-1:Nat):Int))) h:=by
 rw [Gb rfl _ _ _ rfl]
 simp only [Zy]
 show Gq _ (execs _ _ (iM n Jl l) h)=_
 rw [ja (wb _ _ _),Qc (wb _ _ _) (Qa rfl (by simp only [eval,Gi,Gk,Gp,R.ab,Ab0,Ae3,W.bO,tP _ n h (by lia)];rfl)),Ga _ _ _ rfl]
def D2 (k n:Nat) (l) (h):call prog (k+5) "made" [.v (.int (n:Int)),.v (.str Ze),.v (.lst l)] h= .ok (.v (.int ((0:Nat):Int))) h:=by
 rw [Gb rfl _ _ _ rfl]
 simp only [Zy]
 rw [ja (wb _ _ _),ja (wb _ _ _),Qc (wb _ _ _) _,Ga _ _ _ rfl]
 rfl
abbrev l2 (s t:Nat):List D:= [.int (s:Int),.int (t:Int)]
def ZT (k n s t:Nat) (h):call prog (k+5) "made" [.v (.int (n:Int)),.v (.str WH),.v (.lst (l2 s t))] h= .ok (.v (.int ((s ||| t:Nat):Int))) h:=by
 rw [Gb rfl _ _ _ rfl]
 simp only [Zy]
 show Gq _ (execs _ _ (iM n WH _) h)=_
 rw [ja (wb _ _ _),ja (wb _ _ _),ja (wb _ _ _),Qc (wb _ _ _) (Qa rfl (by simp only [eval,Gi,Gk,Gp,R.ab,xr,jk,Qe,R.aj,Ab0,Ae3,W.bO,qP _ s t h];rfl)),Ga _ _ _ rfl]
def WY (k n s t:Nat) (h):call prog (k+5) "made" [.v (.int (n:Int)),.v (.str WC),.v (.lst (l2 s t))] h= .ok (.v (.int ((s &&& t:Nat):Int))) h:=by
 rw [Gb rfl _ _ _ rfl]
 simp only [Zy]
 show Gq _ (execs _ _ (iM n WC _) h)=_
 rw [ja (wb _ _ _),ja (wb _ _ _),ja (wb _ _ _),ja (wb _ _ _),ja (wb _ _ _),Qc (wb _ _ _) (Qa rfl (by simp only [eval,Gi,Gk,Gp,R.ab,xr,jk,Qe,R.aj,Ab0,Ae3,W.bO,HV _ s t h];rfl)),Ga _ _ _ rfl]
def zK (k n s t:Nat) (h) (a:n<=4):call prog (k+5) "made" [.v (.int (n:Int)),.v (.str jh),.v (.lst (l2 s t))] h= .ok (.v (.int ((Wf.joinM n s t:Nat):Int))) h:=by
 rw [Gb rfl _ _ _ rfl]
 simp only [Zy]
 show Gq _ (execs _ _ (iM n jh _) h)=_
 rw [ja (wb _ _ _),ja (wb _ _ _),ja (wb _ _ _),ja (wb _ _ _),ja (wb _ _ _),ja (wb _ _ _),Qc (wb _ _ _) (Qa rfl (by simp only [eval,Gi,Gk,Gp,R.ab,xr,jk,Qe,R.aj,Ab0,Ae3,W.bO,qQ _ n s t h (by lia)];rfl)),Ga _ _ _ rfl]
def xI (k n s:Nat) (h) (a:n<=4):call prog (k+5) "made" [.v (.int (n:Int)),.v (.str xi),.v (.lst [.int (s:Int)])] h= .ok (.v (.int ((Wf.bI n s:Nat):Int))) h:=by
 rw [Gb rfl _ _ _ rfl]
 simp only [Zy]
 show Gq _ (execs _ _ (iM n xi [.int s]) h)=_
 rw [ja (wb _ _ _),ja (wb _ _ _),ja (wb _ _ _),ja (wb _ _ _),ja (wb _ _ _),ja (wb _ _ _),ja (wb _ _ _),Qc (wb _ _ _) (Qa rfl (by simp only [eval,Gi,Gk,Gp,R.ab,xr,yG,R.aj,Ab0,Ae3,W.bO,B5 k n s h (by lia)];rfl)),Ga _ _ _ rfl]
def jG (k n s) (h) (a:n<=4) (b:s<2 ^ (n*n)): ∃r,Wf.eY n s r/\call prog (k+5) "made" [.v (.int (n:Int)),.v (.str Qi),.v (.lst [.int (s:Int)])] h= .ok (.v (.int (r:Int))) h:=by
 obtain⟨r,c,e⟩:=Ef _ n s h a b
 refine⟨r,c,?_⟩
 rw [Gb rfl _ _ _ rfl]
 simp only [Zy]
 rw [ja (wb _ _ _),ja (wb _ _ _),ja (wb _ _ _),ja (wb _ _ _),ja (wb _ _ _),ja (wb _ _ _),ja (wb _ _ _),ja (wb _ _ _),qa (Qa rfl (by assumption)),Ga _ _ _ rfl]
def IC (a:Gn F it τ h= .ok [] h):eval F (.comp tg one k aC it k9 c elt) τ h= .ok (.own []) h:=by
 rw [eval,a,R.ab,if_pos (show [].length<=ba from Ac8 _)]
 rfl
def vo (b:Gn F it τ h= .ok [d] h) (e:eval F elt (GC (Aa2 k y0++aC.map λj=>Gk τ j) 0 (.v d)) h= .ok (.v y) h):eval F (.comp [0] u0 k aC it k9 c elt) τ h= .ok (.own [y]) h:=by
 have a: [d].length<=ba:=by rw [Gg];simp
 rw [eval,b,R.ab,if_pos a]
 simp [Gy,e,R.aj]
def zW (e:Gn F it τ h= .ok [d1,d2] h) (b:eval F elt (GC (Aa2 k y0++aC.map λj=>Gk τ j) 0 (.v d1)) h= .ok (.v y1) h) (d:eval F elt (GC (Aa2 k y0++aC.map λj=>Gk τ j) 0 (.v d2)) h= .ok (.v y2) h):eval F (.comp [0] u0 k aC it k9 c elt) τ h= .ok (.own [y1,y2]) h:=by
 have a: [d1,d2].length<=ba:=by rw [Gg];simp
 rw [eval,e,R.ab,if_pos a]
 simp [Gy,b,d,R.aj]
def Zi {n:Nat}(f) (c:eval F e τ h= .ok (.v (.int (n:Int))) h) (m:n<=1000)
 (k: ∀i,i<n-> ∃w,eval F elt (k0 (.v (.int (i:Int)))::aC.map λj=>Gk τ j) h= .ok w h/\w.d=k0 (f i)):eval F (.comp [0] u0 1 aC (.ao e) k9 (.bl u0) elt) τ h= .ok (.own ((Aa5 n).map f)) h:=by
 rw [Xj (λd=>match d with | .int i=>f i.toNat | d=>d) (Js c (by lia)) (by simp;rw [Gg];lia)]
 ·simp [Function.comp_def]
 ·intro d l
  obtain⟨i,g,rfl⟩:=g8 _ l
  obtain⟨w,a,b⟩:=k i g
  exact⟨_,rfl,w,a,by simpa using b⟩
def xl (x y) (r:List D):aW (x::y::r) 1=k0 y:=by
 have:=zg (x::y::r) 1 (by simp)
 exact this
abbrev tb (n v:Nat) (a b:Nat):Bool:=v.testBit (a*n+b)
def jX (n:Nat) (g:Nat->Nat->Bool) (a:Nat):Nat:=((Aa5 n).map λb=>(g a b).toNat).sum
theorem Zr (g): ∀l:List Nat,(l.filter g).length=(l.map λb=>(g b).toNat).sum
 | []=>rfl
 | x::l=>by
  have a:=Zr g l
  by_cases q:g x=u0
  ·rw [List.filter_cons_of_pos q,Ab,Ab0,Al2,a,q];simp;omega
  ·have c:=by simpa using q
   rw [List.filter_cons_of_neg q,Ab0,Al2,a,c];simp
def ZC (m n):Aa5 ((m+1)*n)=Aa5 (m*n)++(Aa5 n).map (m*n+ ·):=by
 rw [Nat.succ_mul,List.range_add]
def Bj {b:Nat}(a:b<n):(m*n+b) / n=m:=Wf.aE a
theorem tL (n v) (a): ∀m,((((Aa5 (m*n)).filter v.testBit).map (· / n)).count a)=if a<m then jX n (tb n v) a else 0
 | 0=>by simp
 | m+1=>by
  have h:=tL n v a m
  rw [ZC,List.filter_append,Ae6,List.count_append,h,Am9,Ad1]
  have e:((Aa5 n).filter (v.testBit∘(m*n+ ·))).map ((· / n)∘(m*n+ ·))=Aa2 ((Aa5 n).filter (v.testBit∘(m*n+ ·))).length m:=by
   rw [List.eq_replicate_iff]
   refine⟨by simp,λx d=> ?_⟩
   obtain⟨b,g,rfl⟩:=Ab8.mp d
   exact Bj (Ab7.mp (Ai6.mp g).1)
  rw [e,List.count_replicate,Zr]
  by_cases q:a=m
  ·subst q
   simp [jX,tb]
  ·have f: ¬(m==a)=true:=by simp;exact λe=>q e.symm
   rw [if_neg f]
   by_cases c:a<m
   ·rw [if_pos c,if_pos (by omega)];omega
   ·rw [if_neg c,if_neg (by omega)]
def yE (b:a<n):((Wf.av n v).map (·.1)).count a=jX n (tb n v) a:=by
 have:=tL n v a n
 rw [if_pos b]at this
 rw [← this,Wf.av,Ad1]
 rfl
theorem wF (n v): ∀m,((Aa5 (m*n)).filter v.testBit).length=((Aa5 m).map (jX n (tb n v))).sum
 | 0=>by simp
 | m+1=>by
  have a:=wF n v m
  rw [ZC,List.filter_append,Ab1,a,Am9,Aa,Zr,List.range_succ,Ae6,List.sum_append]
  simp [jX,tb]
def AY (n v):(Wf.av n v).length=((Aa5 n).map (jX n (tb n v))).sum:=by
 rw [Wf.av,Aa,wF]
abbrev Za:Tx:= [108,101,97,115,116]
abbrev Jb:Tx:= [109,111,115,116]
abbrev jb:Tx:= [101,97,99,104,108,101,97,115,116]
abbrev Xh:Tx:= [101,97,99,104,109,111,115,116]
abbrev QF:Tx:= [105,110]
abbrev zb:Tx:= [101,113,117,97,108]
abbrev Jf:Tx:= [115,111,109,101]
abbrev jN:Tx:= [110,111]
def wQ (s a b) (h):Gs .mem (.v (.str s)) (.v (.tup [.str a,.str b])) h=k0 (y9 (s∈ [a,b])):=JF s [a,b] (.v (.tup [.str a,.str b])) h rfl rfl
def Qx (n v:Nat):List Nat:=(Aa5 n).map (jX n (tb n v))
def Zh (n v:Nat) (s:Tx):List Nat:=if s∈ [Za,Jb]then [(Qx n v).sum]else Qx n v
theorem pk: ∀l:List Nat,GQ (aK l)=k0 (l.map λ(x:Nat)=>(x:Int))
 | []=>rfl
 | x::l=>by
  have:=pk l
  simp only [Ab0,GQ]at this ⊢
  rw [this];rfl
def F7 (l:List Nat) (a:Nat):(l.map λ(x:Nat)=>(x:Int)).count (a:Int)=l.count a:=by
 induction l with
 | nil=>rfl
 | cons x l b=>
  rw [Ab0,List.count_cons,List.count_cons,b]
  by_cases q:x=a
  ·simp [q]
  ·have: ¬(x=(a:Int)):=by lia
   simp [q,this]
def rK (k n v:Nat) (s) (i:n<=4) (h):call prog (k+2) "counts" [.v (.int (n:Int)),.v (.str s),.v (.int (v:Int))] h= .ok (.own (aK (Zh n v s))) h:=by
 rw [Gb rfl _ _ _ rfl]
 simp only [pE]
 show Gq _ (execs _ _ [k0 _,k0 _,k0 _,y0,y0] h)=_
 rw [za (τ1:= [k0 (.v (.int (n:Int))),k0 (.v (.str s)),k0 (.v (.int (v:Int))),k0 (.v (.lst ((Wf.av n v).map pD))),y0]) (h1:=h) (by simp_all [Qs k n v h (by omega)])]
 by_cases q:s∈ [Za,Jb]
 ·rw [qa,Gx _ _ _ rfl]
  rw [Qr (h1:=h) (by simp_all [wQ,decide_eq_true q])]
  refine qa (zA rfl ?_)
  simp only [eval,Gu,Gi,Gk,Gp,R.ab,wv,W.iQ,R.aj,Aa,AY]
  rw [Zh,if_pos q]
  rfl
 ·rw [za (τ1:= [k0 (.v (.int (n:Int))),k0 (.v (.str s)),k0 (.v (.int (v:Int))),k0 (.v (.lst ((Wf.av n v).map pD))),y0]) (h1:=h) (by simp_all [wQ,decide_eq_false q])]
  have e2:eval (u9 (k+1)) JA [k0 (.v (.int (n:Int))),k0 (.v (.str s)),k0 (.v (.int (v:Int))),k0 (.v (.lst ((Wf.av n v).map pD))),y0] h= .ok (.own (aK ((Wf.av n v).map (·.1)))) h:=by
   rw [JA,Xj (h:=h) (ds:=(Wf.av n v).map pD) (λd=>match d with | .tup [x,_]=>x | d=>d) (by simp_all []) (WG n v (by omega))]
   ·simp [pD,aK,Function.comp_def]
   ·intro d f
    obtain⟨p,_,rfl⟩:=Ab8.mp f
    exact⟨_,rfl,_,rfl,rfl⟩
  have e1:eval (u9 (k+1)) qC [k0 (.v (.int (n:Int))),k0 (.v (.str s)),k0 (.v (.int (v:Int))),k0 (.v (.lst ((Wf.av n v).map pD))),k0 (.v (.lst (aK ((Wf.av n v).map (·.1)))))] h= .ok (.own (aK (Qx n v))) h:=by
   rw [qC,Zi (n:=n) (λa=> .int ((jX n (tb n v) a:Nat):Int)) rfl (by omega) λa g=>⟨.v _,?_,rfl⟩]
   ·rw [aK,Qx,Ad1];rfl
   ·have c:((((Wf.av n v).map (·.1)).map λ(x:Nat)=>(x:Int))).length<=ba:=by
     have:=WG n v (show n<=20 by omega)
     simpa using this
    have b:kP .count (.v (.lst (aK ((Wf.av n v).map (·.1))))) [.v (.int (a:Int))] h= .ok (.v (.int ((jX n (tb n v) a:Nat):Int))) h:=by
     show(R.of h ((k0 (aK ((Wf.av n v).map (·.1)))).bind GQ)).bind _=_
     rw [Ah9,pk,R.aj,R.ab]
     show(R.of h (k0 (a:Int))).bind _=_
     rw [R.aj,R.ab,if_pos c,F7,yE g]
    have e:k5 .count (.v (.lst (aK ((Wf.av n v).map (·.1))))) h=true:=rfl
    simp only [eval,Gi,Gk,Gp,Ab0,Ae3,R.ab,e,if_true,b]
  rw [za (τ1:= [k0 (.v (.int (n:Int))),k0 (.v (.str s)),k0 (.v (.int (v:Int))),k0 (.v (.lst ((Wf.av n v).map pD))),k0 (.v (.lst (aK ((Wf.av n v).map (·.1)))))]) (h1:=h) (by rw [exec,e2];rfl)]
  rw [qa (zA rfl e1),Gx _ _ _ rfl,Zh,if_neg q]
inductive Fc where
 | eG (a b:Ex)
 | fc (a b:Ex)
 | fh (a:Ex)
 | ak (a:Ex)
 | cnt (s:Tx) (k:Nat) (a:Ex)
def de:Fc->D
 | .eG a b=> .tup [.str QF,aU a,aU b]
 | .fc a b=> .tup [.str zb,aU a,aU b]
 | .fh a=> .tup [.str Jf,aU a]
 | .ak a=> .tup [.str jN,aU a]
 | .cnt s k a=> .tup [.str s,.int (k:Int),aU a]
def Fc.wf (N:List Tx):Fc->Prop
 | .eG a b=>a.wf N/\b.wf N
 | .fc a b=>a.wf N/\b.wf N
 | .fh a=>a.wf N
 | .ak a=>a.wf N
 | .cnt s _ a=>s∈ [Za,Jb,jb,Xh]/\a.wf N
def Fc.dp:Fc->Nat
 | .eG a b=>max a.dp b.dp
 | .fc a b=>max a.dp b.dp
 | .fh a=>a.dp
 | .ak a=>a.dp
 | .cnt _ _ a=>a.dp
theorem nS: ∀bs:List Bool,Kh (bs.map .bl)=k0 bs
 | []=>rfl
 | b::bs=>by simp [Kh,nS bs]
def jx {bs:List Bool}(q:eval F e τ h= .ok (.own (bs.map .bl)) h):eval F (.bi .all (.cons e .nil)) τ h= .ok (.v (.bl (bs.all id))) h:=by
 rw [eval,Gi,q]
 simp [nS,R.aj]
def oZ (p) (l:List α):(l.map p).all id=l.all p:=by
 rw [An];rfl
theorem WP: ∀l:List Nat,Ka (aK l)=k0 ((l.sum:Nat):Int)
 | []=>rfl
 | x::l=>by
  have:=WP l
  simp only [Ab0,Ka]at this ⊢
  rw [this,Al2]
  simp
def Lz :eval F (.neg (.int 1)) τ h= .ok (.v (.int (-1))) h:=rfl
def sy (x y:D):aW [x,y] (-1)=k0 y:=rfl
def ZS (x y z:D):aW [x,y,z] (-1)=k0 z:=rfl
def xD (x y z:D):aW [x,y,z] 2=k0 z:=rfl
def zj (X)(e:Gp τ i=k0 (.v (.str s))):Gm F (.cmp .eq (.var i) (.str X)) τ h= .ok (s==X) h:=by
 simp only [Gm,eval,Gk,e,R.ab,Wc,R.aj,GP]
structure V (n v:Nat) (g:Nat->Nat->Bool):Prop where
 lt:v<2 ^ (n*n)
 bit: ∀a b,a<n->b<n->(v.testBit (a*n+b)=u0↔g a b=u0)
section
variable {n s t:Nat}{g f:Nat->Nat->Bool}
def V.plus (h:V n s g) (q:V n t f):V n (s ||| t) λa b=>g a b||f a b:=⟨oF h.1 q.1,λa b d c=>by
 rw [Af6,Ae7,h.2 a b d c,q.2 a b d c,Ae7]⟩
def V.both (h:V n s g) (q:V n t f):V n (s &&& t) λa b=>g a b&&f a b:=⟨Nat.and_lt_two_pow s q.1,λa b d c=>by
 rw [Ah7,Aa0,h.2 a b d c,q.2 a b d c,Aa0]⟩
def V.less (h:V n s g) (q:V n t f):V n (s-(s &&& t)) λa b=>g a b&& !f a b:=⟨Ai5 (Nat.sub_le _ _) h.1,λa b d c=>by
 have e:=An1.mpr (q.2 a b d c)
 rw [Wf.bu,Aa0,h.2 a b d c,e,Aa0]⟩
def V.turned (h:V n s g):V n (Wf.bI n s) λa b=>g b a:=⟨Wf.fE _ _,λa b d c=>by
 rw [Wf.eO (Wf.place_lt d c),Wf.aE c,Wf.aI c,h.2 b a c d]⟩
def V.joined (h:V n s g) (q:V n t f):V n (Wf.joinM n s t) λa b=>(Aa5 n).any λc=>g a c&&f c b:=⟨Wf.c8 _ _ _,λa b j i=>by
 rw [Wf.b3 (Wf.place_lt j i),Wf.cu i,Ad0,Ad0]
 constructor
 ·rintro ⟨c,e,z⟩
  have d:=Ab7.mp e
  rw [Aa0]at z
  exact⟨c,e,by rw [Aa0];exact⟨(h.2 a c j d).mp z.1,(q.2 c b d i).mp z.2⟩⟩
 ·rintro ⟨c,e,z⟩
  have d:=Ab7.mp e
  rw [Aa0]at z
  exact⟨c,e,by rw [Aa0];exact⟨(h.2 a c j d).mpr z.1,(q.2 c b d i).mpr z.2⟩⟩⟩
def V.closed (h:V n s g)(q:Wf.eY n s r):V n r (Wf.wr g n):=⟨q.lt,λa b d c=>(q.bit a b d c).trans (Wf.ia (λx y e f=>(h.2 x y e f).symm) d c).symm⟩
end
abbrev JW (s:Tx):Nat->Nat->Bool:=λa b=>(s==Jl)||((s==xf)&&y9 (a=b))
abbrev bM (a b:Wo):D:= .tup [a.aN,b.aN]
structure Pt (a b:Wo):Prop where
 nR:a.Ok
 Bg:b.Ok
 en:b.n=a.n
 eK:b.K=a.K
 eT:b.T=a.T
def Pt.ew (p:Pt a b):b.words=a.words:=by rw [Wo.words,Wo.words,p.eK,p.eT]
noncomputable abbrev ef (a b:Wo) (d:D) (s:Tx) (c e f h g:Option W):Sl:= [k0 (.v a.words),k0 (.v (bM a b)),k0 (.v d),k0 (.v (.str s)),c,e,f,h,g]
abbrev aY (v u:Nat):D:= .tup [.int (v:Int),.int (u:Int)]
section
variable {m:Nat}{a b:Wo}{h:AH}
def J1 :Gn F (.seq (.dH .v2 (.int 1))) (ef a b (.tup (s::ds)) z x4 x5 x6 x7 x8) h= .ok ds h:=by
 have e:cut (s::ds) (k0 1) y0=ds:=XF (s::ds) 1
 refine yY ?_
 show(if aX (s::ds).length 0 (k0 1)=0/\aX (s::ds).length (s::ds).length y0=(s::ds).length then R.fail else R.ok _ h)=_
 rw [if_neg (λc=>by have:=c.1;simp [aX]at this),e]
def ju (q:call prog m "bounds" [.v a.words,.v (bM a b),.v d] h= .ok (.v y) h):eval (u9 m) (.call "bounds" (.c .v1 .v2 .v0)) (GC (List.replicate 1 none++ [0,1].map fun j=>Gk (ef a b v z x4 x5 x6 x7 x8) j) 0 (.v d)) h= .ok (.v y) h:=by simp_all
def pL {s:Tx}{ds:List D}{x:W}(g:(s==wg)=k9){ps:List (Nat×Nat)}(i:ps.length<=2)
 (h1:eval (u9 m) Ws (ef a b (.tup (.str s::ds)) s y0 y0 y0 y0 y0) h= .ok (.own (ps.map pD)) h){d:D}
 (q:execs (u9 m) (match bE.body with | .cons _ (.cons _ (.cons _ (.cons _ (.cons _ r))))=>r | r=>r) (ef a b (.tup (.str s::ds)) s y0 (k0 (.v (.lst (ps.map pD)))) (k0 (.v (.lst (aK (ps.map (·.1)))))) (k0 (.v (.lst (aK (ps.map (·.2)))))) y0) h= .ret (.v d) h):
 call prog (m+1) "bounds" [.v a.words,.v (bM a b),.v (.tup (.str s::ds))] h= .ok (.v d) h:=by
 rw [Gb (d:=bE) rfl _ _ _ rfl]
 simp only [bE]at q ⊢
 show Gq _ (execs _ _ [k0 _,k0 _,k0 _,y0,y0,y0,y0,y0,y0] h)=_
 rw [za (τ1:=ef a b (.tup (.str s::ds)) s y0 y0 y0 y0 y0) (h1:=h) (by simp_all [ae,qf])]
 rw [ja (by simp_all [Wc,g])]
 have e:(ps.map pD).length<=ba:=by rw [Gg];simp;omega
 rw [za (τ1:=ef a b _ s y0 _ y0 y0 y0) (h1:=h) (by rw [exec,h1];rfl)]
 have e2:eval (u9 m) WB (ef a b (.tup (.str s::ds)) s y0 (k0 (.v (.lst (ps.map pD)))) y0 y0 y0) h= .ok (.own (aK (ps.map (·.1)))) h:=by
  rw [WB,Xj (h:=h) (ds:=ps.map pD) (λd=>match d with | .tup [x,_]=>x | d=>d) (by simp_all []) e]
  ·simp [pD,aK,Function.comp_def]
  ·intro d c
   obtain⟨p,_,rfl⟩:=Ab8.mp c
   exact⟨_,rfl,_,rfl,rfl⟩
 rw [za (τ1:=ef a b _ s y0 _ _ y0 y0) (h1:=h) (by rw [exec,e2];rfl)]
 have f:eval (u9 m) wC (ef a b (.tup (.str s::ds)) s y0 (k0 (.v (.lst (ps.map pD)))) (k0 (.v (.lst (aK (ps.map (·.1)))))) y0 y0) h= .ok (.own (aK (ps.map (·.2)))) h:=by
  rw [wC,Xj (h:=h) (ds:=ps.map pD) (λd=>match d with | .tup [_,x]=>x | d=>d) (by simp_all []) e]
  ·simp [pD,aK,Function.comp_def]
  ·intro d c
   obtain⟨p,_,rfl⟩:=Ab8.mp c
   exact⟨_,rfl,_,rfl,rfl⟩
 rw [za (τ1:=ef a b _ s y0 _ _ _ y0) (h1:=h) (by rw [exec,f];rfl)]
 rw [q,Ga _ _ _ rfl]
def jA {s:Tx}{ds:List D}(i:(s==wg)=k9) (c:(s==zp)=k9){ps:List (Nat×Nat)}(f:ps.length<=2){v u:Nat}
 (h1:eval (u9 m) Ws (ef a b (.tup (.str s::ds)) s y0 y0 y0 y0 y0) h= .ok (.own (ps.map pD)) h)
 (e:call prog m "made" [.v (.int (a.n:Int)),.v (.str s),.v (.lst (aK (ps.map (·.1))))] h= .ok (.v (.int (v:Int))) h) (g:call prog m "made" [.v (.int (a.n:Int)),.v (.str s),.v (.lst (aK (ps.map (·.2))))] h= .ok (.v (.int (u:Int))) h):
 call prog (m+1) "bounds" [.v a.words,.v (bM a b),.v (.tup (.str s::ds))] h= .ok (.v (aY v u)) h:=by
 refine pL (x:= .v .ak) i f h1 ?_
 simp only [bE]
 rw [ja (by simp_all [Wc,c])]
 have d:dz (.v (bM a b)) (.v (.int 0)) h=k0 a.aN:=rfl
 have e1:dz (.v a.aN) (.v (.int 0)) h=k0 _:=rfl
 rw [za (τ1:=ef a b (.tup (.str s::ds)) s y0 (k0 (.v (.lst (ps.map pD)))) (k0 (.v (.lst (aK (ps.map (·.1)))))) (k0 (.v (.lst (aK (ps.map (·.2)))))) (k0 (.v (.int a.n)))) (h1:=h) (by simp_all [d,e1])]
 rw [qa (Qa rfl (by simp_all [e,g];rfl))]
def Fl 
 (h1:eval (u9 (k+1)) Ws (ef a b (.tup (.str zp::ds)) zp y0 y0 y0 y0 y0) h= .ok (.own ([(s,s'),(t,t')].map pD)) h):
 call prog (k+2) "bounds" [.v a.words,.v (bM a b),.v (.tup (.str zp::ds))] h= .ok (.v (aY (s-(s &&& t')) (s'-(s' &&& t)))) h:=by
 refine pL (x:= .v .ak) rfl (by simp) h1 ?_
 refine qa ((Qr (h1:=h) ?_).trans (qa (Qa rfl ?_)))
 ·simp_all [Wc];rfl
 ·simp_all [xr,jk,Qe,qx k s t' h,qx k s' t h]
end
abbrev xA:Tx:= [110,111,116]
abbrev wu:Tx:= [97,110,100]
abbrev xy:Tx:= [111,114]
inductive Sy where
 | fact (f:Fc)
 | neg (a:Sy)
 | du (a b:Sy)
 | dh (a b:Sy)
def aM:Sy->D
 | .fact f=>de f
 | .neg a=> .tup [.str xA,aM a]
 | .du a b=> .tup [.str wu,aM a,aM b]
 | .dh a b=> .tup [.str xy,aM a,aM b]
def Sy.wf (N:List Tx):Sy->Prop
 | .fact f=>f.wf N
 | .neg a=>a.wf N
 | .du a b=>a.wf N/\b.wf N
 | .dh a b=>a.wf N/\b.wf N
def Sy.dp:Sy->Nat
 | .fact f=>f.dp
 | .neg a=>a.dp+1
 | .du a b=>max a.dp b.dp+1
 | .dh a b=>max a.dp b.dp+1
def Lh (f) (wf:f.wf N): ∃s ds,de f= .tup (.str s::ds)/\(s==xA)=k9/\(s==wu)=k9/\(s==xy)=false:=by
 cases f with
 | eG a b=>exact⟨QF,_,rfl,rfl,rfl,rfl⟩
 | fc a b=>exact⟨zb,_,rfl,rfl,rfl,rfl⟩
 | fh a=>exact⟨Jf,_,rfl,rfl,rfl,rfl⟩
 | ak a=>exact⟨jN,_,rfl,rfl,rfl,rfl⟩
 | cnt s j a=>
  have: ∀s∈ [Za,Jb,jb,Xh],(s==xA)=k9/\(s==wu)=k9/\(s==xy)=false:=by decide
  exact⟨s,_,rfl,this s wf.1⟩
def aH:Option Bool->D
 | none=> .ak
 | some b=> .bl b
def qT (a b:Bool):Option Bool:=if a then k0 u0 else if b then k0 k9 else y0
def W9 (r q:Option Bool):Option Bool:=qT (r==k0 u0&&q==k0 u0) (r==k0 k9||q==k0 k9)
def fQ (r q:Option Bool):Option Bool:=qT (r==k0 u0||q==k0 u0) (r==k0 k9&&q==k0 k9)
def Ql (k) (a b) (h):call prog (k+1) "settled" [.v (.bl a),.v (.bl b)] h= .ok (.v (aH (qT a b))) h:=by
 rw [Gb rfl _ _ _ rfl]
 simp only [XX]
 show Gq _ (execs _ _ [k0 _,k0 _] h)=_
 cases a
 ·cases b
  ·simp_all []
   rfl
  ·simp_all []
   rfl
 ·simp_all []
  rfl
def DN (r) (b):Ku (.v (aH r)) (.v (.bl b))=k0 (r==k0 b):=by
 cases r with
 | none=>rfl
 | some c=>cases c<;>cases b<;>rfl
def ku (r) (b) (h):Gs .cH (.v (aH r)) (.v (.bl b)) h=k0 (r==k0 b):=DN r b
section
variable {k:Nat}{r q:Option Bool}{h:AH}
def AS:call prog (k+2) "not_told" [.v (aH r)] h= .ok (.v (aH (r.map (!·)))) h:=by
 rw [Gb rfl _ _ _ rfl]
 simp only [qL]
 show Gq _ (execs _ _ [k0 _] h)=_
 rw [qa (Qa (d:=aH (qT (r==k0 k9) (r==k0 u0))) (h1:=h) rfl (by simp_all [ku,Ql])),Ga _ _ _ rfl]
 cases r with
 | none=>rfl
 | some c=>cases c<;>rfl
def xR (h1:eval F e τ h= .ok (.v (.bl a)) h) (c:eval F f τ h= .ok (.v (.bl b)) h):eval F (.or e f) τ h= .ok (.v (.bl (a||b))) h:=by
 rw [eval,h1]
 cases a
 ·simp [c,Bool.false_or]
 ·simp [Al8]
def wt (h1:eval F e τ h= .ok (.v (.bl a)) h) (c:eval F f τ h= .ok (.v (.bl b)) h):eval F (.and e f) τ h= .ok (.v (.bl (a&&b))) h:=by
 rw [eval,h1]
 cases a
 ·simp [Af0]
 ·simp [c,Ad9]
def QC (b) (e:Gk τ i=k0 (.v (aH r))):eval F (.cmp .cH (.var i) (.bl b)) τ h= .ok (.v (.bl (r==k0 b))) h:=by
 simp [e,ku,R.aj]
def wM:call prog (k+2) "and_told" [.v (aH r),.v (aH q)] h= .ok (.v (aH (W9 r q))) h:=by
 rw [Gb rfl _ _ _ rfl]
 simp only [XN]
 show Gq _ (execs _ _ [k0 _,k0 _] h)=_
 have e1:=wt (F:=(u9 (k+1))) (QC (h:=h) (τ:= [k0 (.v (aH r)),k0 (.v (aH q))]) (i:=0) u0 rfl) (QC (i:=1) u0 rfl)
 have e2:=xR (F:=(u9 (k+1))) (QC (h:=h) (τ:= [k0 (.v (aH r)),k0 (.v (aH q))]) (i:=0) k9 rfl) (QC (i:=1) k9 rfl)
 rw [qa (Qa (d:=aH (W9 r q)) rfl (by
  rw [eval,Gi,e1,R.ab,Gi,e2]
  simp only [R.ab,Gi,Ab0,Ae3,W.bO,Ql]
  rfl)),Ga _ _ _ rfl]
def BS:call prog (k+2) "or_told" [.v (aH r),.v (aH q)] h= .ok (.v (aH (fQ r q))) h:=by
 rw [Gb rfl _ _ _ rfl]
 simp only [QX]
 show Gq _ (execs _ _ [k0 _,k0 _] h)=_
 have e1:=xR (F:=(u9 (k+1))) (QC (h:=h) (τ:= [k0 (.v (aH r)),k0 (.v (aH q))]) (i:=0) u0 rfl) (QC (i:=1) u0 rfl)
 have e2:=wt (F:=(u9 (k+1))) (QC (h:=h) (τ:= [k0 (.v (aH r)),k0 (.v (aH q))]) (i:=0) k9 rfl) (QC (i:=1) k9 rfl)
 rw [qa (Qa (d:=aH (fQ r q)) rfl (by
  rw [eval,Gi,e1,R.ab,Gi,e2]
  simp only [R.ab,Gi,Ab0,Ae3,W.bO,Ql]
  rfl)),Ga _ _ _ rfl]
end
def Xw {bs:List Bool}(q:eval F e τ h= .ok (.own (bs.map .bl)) h):eval F (.bi .any (.cons e .nil)) τ h= .ok (.v (.bl (bs.any id))) h:=by
 rw [eval,Gi,q]
 simp [nS,R.aj]
def oR (p) (l:List α):(l.map p).any id=l.any p:=by
 rw [Ao5];rfl
def rE (n:Nat) (h):Gs .ne (.v (.int (n:Int))) (.v (.int 0)) h=k0 (!y9 (n=0)):=by
 have this:Gs .eq _ (.v (.int 0)) h=k0 _:=zi n 0 h
 rw [nu]at this
 rw [oP]
 split at this
 ·rename_i c
  rw [if_pos c]
  have:=Ad5.inj this
  rw [← this]
 ·cases this
def jQ (n:Nat) (h):Gs .eq (.v (.int (n:Int))) (.v (.int 0)) h=k0 (y9 (n=0)):=zi n 0 h
def dU (v u b a:Nat):Option Bool:=qT (y9 (u-(u &&& b)=0)) (!y9 (v-(v &&& a)=0))
def jV (k v u v' u') (h):call prog (k+2) "in_told" [.v (aY v u),.v (aY v' u')] h= .ok (.v (aH (dU v u v' u'))) h:=by
 rw [Gb rfl _ _ _ rfl]
 simp only [ZY]
 show Gq _ (execs _ _ [k0 _,k0 _] h)=_
 rw [qa (Qa (d:=aH (dU v u v' u')) rfl (by simp_all [ae,jk,Qe,qx k u v' h,qx k v u' h,jQ,rE,Ql];rfl)),Ga _ _ _ rfl]
noncomputable def wK (s:Tx) (j:Nat) (l u:List Nat):Option Bool:=if s∈ [Za,jb]then qT (l.all λx=>y9 (j<=x)) (u.any λx=>y9 (x<j))else qT (u.all λx=>y9 (x<=j)) (l.any λx=>y9 (j<x))
def lN (p) (k:l.length<=4) (g:Gk τ i=k0 (.v (.lst (aK l)))) (e:Gk τ c=k0 (.v (.int (j:Int)))) (b: ∀x:Nat,Gs o (.v (.int (x:Int))) (.v (.int (j:Int))) h=k0 (p x)):
 eval F (.comp [0] u0 1 [c] (.seq (.var i)) k9 (.bl u0) (.cmp o .v0 .v1)) τ h= .ok (.own ((l.map p).map .bl)) h:=by
 have f:Gn F (.seq (.var i)) τ h= .ok (aK l) h:=by
  simp [g,R.ab]
 rw [Xj (λd=>match d with | .int x=> .bl (p x.toNat) | d=>d) f (by rw [Gg,aK,Aa];lia)]
 ·simp [Function.comp_def]
 ·intro m a
  obtain⟨x,_,rfl⟩:=Ab8.mp a
  refine⟨[k0 _,k0 _],by simp only [Ab0,e];rfl,.v (.bl (p x)),?_,by simp⟩
  simp_all [b]
def sT (j x:Nat) (h):Gs .le (.v (.int (x:Int))) (.v (.int (j:Int))) h=k0 (y9 (x<=j)):=by
 rw [qu];congr 1;exact decide_eq_decide.mpr (by lia)
def rF (j x:Nat) (h):Gs .ge (.v (.int (x:Int))) (.v (.int (j:Int))) h=k0 (y9 (j<=x)):=by
 rw [D3];congr 1;exact decide_eq_decide.mpr (by lia)
def l3 (j x:Nat) (h):Gs .lt (.v (.int (x:Int))) (.v (.int (j:Int))) h=k0 (y9 (x<j)):=by
 rw [Xv];congr 1;exact decide_eq_decide.mpr (by omega)
def gf (j x:Nat) (h):Gs .gt (.v (.int (x:Int))) (.v (.int (j:Int))) h=k0 (y9 (j<x)):=by
 rw [yK];congr 1;exact decide_eq_decide.mpr (by omega)
def sr (n v) (s) (a:n<=4):(Zh n v s).length<=4:=by
 rw [Zh]
 split
 ·simp
 ·simp [Qx];omega
noncomputable abbrev iz (n:Nat) (s:Tx) (j v u:Nat) (a b:Option W):Sl:= [k0 (.v (.int (n:Int))),k0 (.v (.str s)),k0 (.v (.int (j:Int))),k0 (.v (aY v u)),a,b]
def xp (k n:Nat) (s) (j v u:Nat) (a:n<=4) (h):call prog (k+3) "count_told" [.v (.int (n:Int)),.v (.str s),.v (.int (j:Int)),.v (aY v u)] h= .ok (.v (aH (wK s j (Zh n v s) (Zh n u s)))) h:=by
 rw [Gb rfl _ _ _ rfl]
 simp only [JD]
 show Gq _ (execs _ _ (iz n s j v u y0 y0) h)=_
 rw [za (τ1:=iz n s j v u (k0 (.v (.lst (aK (Zh n v s))))) y0) (h1:=h) (by simp_all [ae,jk,rK k n v s a h])]
 rw [za (τ1:=iz n s j v u (k0 (.v (.lst (aK (Zh n v s))))) (k0 (.v (.lst (aK (Zh n u s)))))) (h1:=h) (by simp_all [ae,Qe,rK k n u s a h])]
 have b:=sr n v s a
 have e:=sr n u s a
 rw [wK]
 by_cases q:s∈ [Za,jb]
 ·have e1:=lN (F:=(u9 (k+2))) (τ:=iz n s j v u (k0 (.v (.lst (aK (Zh n v s))))) (k0 (.v (.lst (aK (Zh n u s)))))) (i:=4) (c:=2) (o:= .ge) (h:=h) _ b rfl rfl λx=>rF j x h
  have e2:=lN (F:=(u9 (k+2))) (τ:=iz n s j v u (k0 (.v (.lst (aK (Zh n v s))))) (k0 (.v (.lst (aK (Zh n u s)))))) (i:=5) (c:=2) (o:= .lt) (h:=h) _ e rfl rfl λx=>l3 j x h
  rw [if_pos q,Qc (by simp_all [wQ,decide_eq_true q]) (Qa (d:=aH (qT ((Zh n v s).all λx=>y9 (j<=x)) ((Zh n u s).any λx=>y9 (x<j)))) rfl (by
   rw [eval,Gi,Xt,jx e1,R.ab,Gi,xt,Xw e2,oZ,oR]
   simp only [R.ab,Gi,Ab0,Ae3,W.bO,Ql])),Ga _ _ _ rfl]
 ·have e1:=lN (F:=(u9 (k+2))) (τ:=iz n s j v u (k0 (.v (.lst (aK (Zh n v s))))) (k0 (.v (.lst (aK (Zh n u s)))))) (i:=5) (c:=2) (o:= .le) (h:=h) _ e rfl rfl λx=>sT j x h
  have e2:=lN (F:=(u9 (k+2))) (τ:=iz n s j v u (k0 (.v (.lst (aK (Zh n v s))))) (k0 (.v (.lst (aK (Zh n u s)))))) (i:=4) (c:=2) (o:= .gt) (h:=h) _ b rfl rfl λx=>gf j x h
  rw [if_neg q,ja (by simp_all [wQ,decide_eq_false q]),qa (Qa (d:=aH (qT ((Zh n u s).all λx=>y9 (x<=j)) ((Zh n v s).any λx=>y9 (j<x)))) (h1:=h) rfl (by
   rw [eval,Gi,Jt,jx e1,R.ab,Gi,zu,Xw e2,oZ,oR]
   simp only [R.ab,Gi,Ab0,Ae3,W.bO,Ql])),Ga _ _ _ rfl]
noncomputable abbrev nW (a b:Wo) (d:D) (s:Tx) (v u:Nat) (c:Option W):Sl:= [k0 (.v a.words),k0 (.v (bM a b)),k0 (.v d),k0 (.v (.str s)),k0 (.v (.int (a.n:Int))),k0 (.v (aY v u)),c]
section
variable {k m:Nat}{a b:Wo}{h:AH}{v u v' u':Nat}{e e':Ex}
def jw (f:aW (.str s::ds) (-1)=k0 (aU e)) (c:call prog m "bounds" [.v a.words,.v (bM a b),.v (aU e)] h= .ok (.v (aY v u)) h)
 (q:execs (u9 m) (match aS.body with | .cons _ (.cons _ (.cons _ r))=>r | r=>r) (nW a b (.tup (.str s::ds)) s v u y0) h= .ret (.v d) h):call prog (m+1) "fact_told" [.v a.words,.v (bM a b),.v (.tup (.str s::ds))] h= .ok (.v d) h:=by
 rw [Gb rfl _ _ _ rfl]
 simp only [aS]at q ⊢
 show Gq _ (execs _ _ [k0 _,k0 _,k0 _,y0,y0,y0,y0] h)=_
 have i0:dz (.v (bM a b)) (.v (.int 0)) h=k0 a.aN:=rfl
 have i1:dz (.v a.aN) (.v (.int 0)) h=k0 _:=rfl
 rw [za (τ1:= [k0 (.v a.words),k0 (.v (bM a b)),k0 (.v (.tup (.str s::ds))),k0 (.v (.str s)),y0,y0,y0]) (h1:=h) (by simp_all [ae,qf])]
 rw [za (τ1:= [k0 (.v a.words),k0 (.v (bM a b)),k0 (.v (.tup (.str s::ds))),k0 (.v (.str s)),k0 (.v (.int a.n)),y0,y0]) (h1:=h) (by simp_all [i0,i1])]
 rw [za (τ1:=nW a b (.tup (.str s::ds)) s v u y0) (h1:=h) (by simp_all [ae,f,c]),q,Ga _ _ _ rfl]
variable (n4:a.n<=4) (e1:call prog (k+3) "bounds" [.v a.words,.v (bM a b),.v (aU e)] h= .ok (.v (aY v u)) h) (e2:call prog (k+3) "bounds" [.v a.words,.v (bM a b),.v (aU e')] h= .ok (.v (aY v' u')) h)
include n4 e1
def Dt:call prog (k+4) "fact_told" [.v a.words,.v (bM a b),.v (de (.fh e))] h= .ok (.v (aH (wK Za 1 (Zh a.n v Za) (Zh a.n u Za)))) h:=by
 refine jw (sy _ _) e1 ?_
 have c:=xp k a.n Za 1 v u n4 h
 have c:=c
 simp only [aS]
 rw [Qc (zj (s:=Jf) _ rfl) (Qa rfl (by assumption))]
def Fe:call prog (k+4) "fact_told" [.v a.words,.v (bM a b),.v (de (.ak e))] h= .ok (.v (aH (wK Jb 0 (Zh a.n v Jb) (Zh a.n u Jb)))) h:=by
 refine jw (sy _ _) e1 ?_
 have c:=xp k a.n Jb 0 v u n4 h
 have c:=c
 simp only [aS]
 rw [ja (zj (s:=jN) _ rfl),Qc (zj (s:=jN) _ rfl) (Qa rfl (by assumption))]
def D5 (d:s∈ [Za,Jb,jb,Xh]):call prog (k+4) "fact_told" [.v a.words,.v (bM a b),.v (de (.cnt s j e))] h= .ok (.v (aH (wK s j (Zh a.n v s) (Zh a.n u s)))) h:=by
 refine jw (ZS _ _ _) e1 ?_
 have c:=xp k a.n s j v u n4 h
 have ne:=by
  have: ∀s∈ [Za,Jb,jb,Xh],(s==Jf)=k9/\(s==jN)=k9/\(s==QF)=k9/\(s==zb)=false:=by decide
  exact this s d
 simp only [aS]
 rw [ja ((zj _ rfl).trans (by rw [ne.1])),ja ((zj _ rfl).trans (by rw [ne.2.1])),ja ((zj _ rfl).trans (by rw [ne.2.2.1])),ja ((zj _ rfl).trans (by rw [ne.2.2.2])),qa (Qa rfl (by assumption))]
include e2
theorem Lc:call prog (k+4) "fact_told" [.v a.words,.v (bM a b),.v (de (.eG e' e))] h= .ok (.v (aH (dU v' u' v u))) h:=by
 refine jw (ZS _ _ _) e1 ?_
 simp only [aS]
 rw [ja (zj (s:=QF) _ rfl),ja (zj (s:=QF) _ rfl),Qc (zj (s:=QF) _ rfl) (Qa rfl (by simp_all [ae,xl,e2,jV];rfl))]
theorem CJ:call prog (k+4) "fact_told" [.v a.words,.v (bM a b),.v (de (.fc e' e))] h= .ok (.v (aH (W9 (dU v' u' v u) (dU v u v' u')))) h:=by
 refine jw (ZS _ _ _) e1 ?_
 simp only [aS]
 rw [ja (zj (s:=zb) _ rfl),ja (zj (s:=zb) _ rfl),ja (zj (s:=zb) _ rfl)]
 refine qa ((Qr (zj (s:=zb) _ rfl)).trans ?_)
 rw [za (τ1:=nW a b (.tup [.str zb,aU e',aU e]) zb v u (k0 (.v (aY v' u')))) (h1:=h) (by simp_all [ae,xl,e2])]
 exact qa (Qa rfl (by simp_all [jV,wM]))
end
def V.leaf :V n (Wf.bD n) (JW xf)/\V n (2 ^ (n*n)-1) (JW Jl)/\V n 0 (JW Ze):=by
 refine⟨⟨Wf.fy _,λa b c d=> ?_⟩,⟨Nat.sub_lt (Ac6 _) (by decide),λa b c d=> ?_⟩,⟨Ac6 _,λa b c d=> ?_⟩⟩
 ·rw [Wf.ej c d,decide_eq_true_eq]
  show _↔(k9||(u0&&decide _))=u0
  simp
 ·rw [Ae1,decide_eq_true (Wf.place_lt c d)]
  show _↔(u0||(k9&&decide _))=u0
  simp
 ·rw [Af9]
  show _↔(k9||(k9&&decide _))=u0
  simp
noncomputable def bx (w:Wo) (t:Tx) (x y:Nat):Bool:=if t∈w.T then(w.ts.getD (c5 t w.T) 0).testBit (x*w.n+y)else y9 (x=y)&&(w.ks.getD (c5 t w.K) 0).testBit x
def tu (w) (t) (x y):bx w t x y=u0↔fe w (.name t) x y:=by
 show _↔w.at t x y
 unfold bx Wo.at
 split
 ·exact Iff.rfl
 ·rw [Aa0,decide_eq_true_eq]
def bt (a b:Wo):Bool->Ex->Nat->Nat->Bool
 | false,.name t=>bx a t
 | true,.name t=>bx b t
 | _,.same=>JW xf
 | _,.all=>JW Jl
 | _,.none=>JW Ze
 | p,.turned e=>λx y=>bt a b p e y x
 | p,.closed e=>Wf.wr (bt a b p e) a.n
 | p,.plus e f=>λx y=>bt a b p e x y||bt a b p f x y
 | p,.less e f=>λx y=>bt a b p e x y&& !bt a b (!p) f x y
 | p,.both e f=>λx y=>bt a b p e x y&&bt a b p f x y
 | p,.joined e f=>λx y=>(Aa5 a.n).any λc=>bt a b p e x c&&bt a b p f c y
def Iu (w): ∀ e p,bt w w p e=bt w w u0 e:=by
 intro e
 induction e with
 | name t=>intro p;cases p<;>rfl
 | turned e b=>intro p;simp [bt,b p]
 | closed e b=>intro p;simp [bt,b p]
 | plus e f b a=>intro p;simp [bt,b p,a p]
 | less e f b a=>intro p;simp [bt,b p,a _]
 | both e f b a=>intro p;simp [bt,b p,a p]
 | joined e f b a=>intro p;simp [bt,b p,a p]
 | _=>intro p;cases p<;>rfl
structure Le (a c:Wo):Prop where
 en:c.n=a.n
 nm: ∀t x y,bx a t x y=u0->bx c t x y=u0
def Le.refl (a):Le a a:=⟨rfl,λ_ _ _ h=>h⟩
theorem lh (h: ∀x y,g x y=u0->g' x y=u0): ∀k x y,Wf.wr g k x y=u0->Wf.wr g' k x y=u0
 | 0,x,y,z=>h x y z
 | k+1,x,y,z=>by
  rw [Wf.wr,Ae7,Aa0]at z ⊢
  exact z.elim (λz=> .inl (lh h k x y z)) λz=> .inr ⟨lh h k _ _ z.1,lh h k _ _ z.2⟩
def t5 (h: ∀c,f c=u0->g c=u0) (l:List Nat) (z:l.any f=u0):l.any g=true:=by
 rw [Ad0]at z ⊢
 exact let ⟨c,a,b⟩:=z; ⟨c,a,h c b⟩
def wP (L:Le a a') (h:Le b' b): ∀ e x y,(bt a b k9 e x y=u0->bt a' b' k9 e x y=u0)/\(bt a' b' u0 e x y=u0->bt a b u0 e x y=u0):=by
 intro e
 induction e with
 | name t=>exact λx y=>⟨L.nm t x y,h.nm t x y⟩
 | same=>exact λx y=>⟨id,id⟩
 | all=>exact λx y=>⟨id,id⟩
 | none=>exact λx y=>⟨id,id⟩
 | turned e g=>exact λx y=>g y x
 | closed e g=>
  intro x y
  simp [bt,L.en]
  exact⟨lh (λx y=>(g x y).1) _ x y,lh (λx y=>(g x y).2) _ x y⟩
 | plus e f g d=>
  intro x y
  simp [bt,Ae7]
  exact⟨λz=>z.elim (λz=> .inl ((g x y).1 z)) λz=> .inr ((d x y).1 z),λz=>z.elim (λz=> .inl ((g x y).2 z)) λz=> .inr ((d x y).2 z)⟩
 | less e f g d=>
  intro x y
  simp only [bt,Aa0,Ah5,←Ao9]
  exact⟨λz=>⟨(g x y).1 z.1,λq=>z.2 ((d x y).2 q)⟩,λz=>⟨(g x y).2 z.1,λq=>z.2 ((d x y).1 q)⟩⟩
 | both e f g d=>
  intro x y
  simp only [bt,Aa0]
  exact⟨λz=>⟨(g x y).1 z.1,(d x y).1 z.2⟩,λz=>⟨(g x y).2 z.1,(d x y).2 z.2⟩⟩
 | joined e f g d=>
  intro x y
  simp only [bt,L.en]
  exact⟨t5 (λc z=>by rw [Aa0]at z ⊢;exact⟨(g x c).1 z.1,(d c y).1 z.2⟩) _,t5 (λc z=>by rw [Aa0]at z ⊢;exact⟨(g x c).2 z.1,(d c y).2 z.2⟩) _⟩
def Sub (v w:Nat):Prop:= ∀k,v.testBit k=u0->w.testBit k=u0
def V.sub (h:V n v g) (q:V n w f) (d: ∀x y,g x y=u0->f x y=u0):Sub v w:=λk z=>by
 by_cases a:k<n*n
 ·have b:=h.2 _ _ (Wf.bh a) (Wf.a8 a)
  have c:=q.2 _ _ (Wf.bh a) (Wf.a8 a)
  rw [Wf.bB]at b c
  exact c.mpr (d _ _ (b.mp z))
 ·rw [Ai4 (Ab3 h.1 (Ae0 (by decide) (Nat.not_lt.mp a)))]at z
  cases z
def Sub.and (h:Sub v w):v &&& w=v:=Aj3 λk=>by
 rw [Ah7]
 cases q:v.testBit k with
 | false=>rfl
 | true=>rw [h k q];rfl
def sub_zero :v-(v &&& w)=0↔Sub v w:=by
 refine⟨λh k z=> ?_,λh=>by rw [h.and,Ao6]⟩
 have e:=congrArg (·.testBit k) h
 simp [Wf.bu,z,Ad9]at e
 simpa using e
structure B (a b:Wo) (e:Ex) (v u:Nat):Prop where
 lo:V a.n v (bt a b k9 e)
 hi:V a.n u (bt a b u0 e)
section
variable {a b a' b':Wo}{e:Ex}{v u w z:Nat}
def B.mono (h:B a b e v u) (q:B a' b' e w z) (L:Le a a') (c:Le b' b):Sub v w/\Sub z u:=
 ⟨V.sub h.lo (L.en▸q.lo) λx y=>(wP L c e x y).1,V.sub (L.en▸q.hi) h.hi λx y=>(wP L c e x y).2⟩
def B.in (h:B a b e v u) (L:Le a b):Sub v u:=V.sub h.lo h.hi λx y q=>(wP (Le.refl a) L e x y).2 (Iu a e k9▸(wP (Le.refl a) L e x y).1 q)
end
def QI (h:a=u0->a'=u0) (q:b=u0->b'=u0) (n:a'=u0->b'=u0->False) (e:qT a b=k0 x):qT a' b'=k0 x:=by
 cases a with
 | true=>rw [h rfl];exact e
 | false=>
  cases b with
  | false=>cases e
  | true=>
   rw [q rfl]
   cases a' with
   | true=>exact(n rfl (q rfl)).elim
   | false=>exact e
def xQ (h:Sub v w/\Sub z u) (q:Sub v' w'/\Sub z' u') (h1:Sub w z) (c:Sub w' z') (e:dU v u v' u'=k0 x):dU w z w' z'=k0 x:=by
 refine QI (λk=> ?_) (λk=> ?_) (λk b=> ?_) e
 ·rw [decide_eq_true_eq,sub_zero]at k ⊢
  exact λi a=>q.1 i (k i (h.2 i a))
 ·rw [Ah5,decide_eq_false_iff_not,sub_zero]at k ⊢
  exact λl=>k λi a=>q.2 i (l i (h.1 i a))
 ·rw [decide_eq_true_eq,sub_zero]at k
  rw [Ah5,decide_eq_false_iff_not,sub_zero]at b
  exact b λi a=>c i (k i (h1 i a))
def dm:List Nat->List Nat->Prop
 | [],[]=>True
 | x::xs,y::ys=>x<=y/\dm xs ys
 | _,_=>False
theorem dm.map (h: ∀x,f x<=g x): ∀l:List Nat,dm (l.map f) (l.map g)
 | []=>trivial
 | x::l=>⟨h x,dm.map h l⟩
theorem dm.sum: ∀ {l m},dm l m->l.sum<=m.sum
 | [],[],_=>Aa8 _
 | x::b,y::a,h=>by
  exact Nat.add_le_add h.1 (dm.sum h.2)
 | [],_::_,h=>h.elim
 | _::_,[],h=>h.elim
theorem dm.all (a: ∀x y,x<=y->p x=u0->q y=u0): ∀ {l m},dm l m->l.all p=u0->m.all q=u0
 | [],[],_,_=>rfl
 | x::c,y::b,h,z=>by
  rw [Ag1,Aa0]at z ⊢
  exact⟨a x y h.1 z.1,dm.all a h.2 z.2⟩
 | [],_::_,h,_=>h.elim
 | _::_,[],h,_=>h.elim
theorem dm.dn (a: ∀x y,x<=y->p y=u0->q x=u0): ∀ {l m},dm l m->m.all p=u0->l.all q=u0
 | [],[],_,_=>rfl
 | x::c,y::b,h,z=>by
  rw [Ag1,Aa0]at z ⊢
  exact⟨a x y h.1 z.1,dm.dn a h.2 z.2⟩
 | [],_::_,h,_=>h.elim
 | _::_,[],h,_=>h.elim
def rH (p q) (h: ∀x,p x= !q x) (l:List Nat):l.any p= !l.all q:=by
 induction l with
 | nil=>rfl
 | cons x l a=>rw [Ae8,Ag1,a,h x,Bool.not_and]
def su (j x:Nat):y9 (x<j)= !y9 (j<=x):=by grind
def FV (s) (j) (l u):wK s j l u=if s∈ [Za,jb]then qT (l.all λx=>y9 (j<=x)) (!u.all λx=>y9 (j<=x))else qT (u.all λx=>y9 (x<=j)) (!l.all λx=>y9 (x<=j)):=by
 rw [wK,rH _ (λx=>decide _) (λx=>su j x),rH (λx=>decide _) (λx=>decide _) (λx=>su x j)]
def yy (h:dm l l') (q:dm u' u) (n:dm l' u') (e:wK s j l u=k0 x):wK s j l' u'=k0 x:=by
 have b: ∀x y:Nat,x<=y->y9 (j<=x)=u0->y9 (j<=y)=true:=λx y h k=>by
  rw [decide_eq_true_eq]at k ⊢;lia
 have dn: ∀x y:Nat,x<=y->y9 (y<=j)=u0->y9 (x<=j)=true:=λx y h k=>by
  rw [decide_eq_true_eq]at k ⊢;lia
 rw [FV]at e ⊢
 split at e
 ·rename_i c
  rw [if_pos c]
  refine QI (λk=>h.all b k) (λk=> ?_) (λk a=> ?_) e
  ·rw [Ah5,←Ao9]at k ⊢
   exact λl=>k (q.all b l)
  ·rw [n.all b k]at a;cases a
 ·rename_i c
  rw [if_neg c]
  refine QI (λk=>q.dn dn k) (λk=> ?_) (λk a=> ?_) e
  ·rw [Ah5,←Ao9]at k ⊢
   exact λl=>k (h.dn dn l)
  ·rw [n.dn dn k]at a;cases a
def X8 (s) (h:Sub v w):dm (Zh n v s) (Zh n w s):=by
 have r:dm (Qx n v) (Qx n w):=dm.map (λa=>dm.sum (dm.map (λb=>by
  unfold tb
  cases q:v.testBit (a*n+b)with
  | false=>exact Ac8 _
  | true=>rw [h _ q];exact Aa8 _) _)) _
 unfold Zh
 split
 ·exact⟨r.sum,trivial⟩
 ·exact r
def gk (a b:Wo):Fc->Option Bool->Prop
 | .eG x y,r=> ∃v u v' u',B a b x v u/\B a b y v' u'/\r=dU v u v' u'
 | .fc x y,r=> ∃v u v' u',B a b x v u/\B a b y v' u'/\r=W9 (dU v u v' u') (dU v' u' v u)
 | .fh x,r=> ∃v u,B a b x v u/\r=wK Za 1 (Zh a.n v Za) (Zh a.n u Za)
 | .ak x,r=> ∃v u,B a b x v u/\r=wK Jb 0 (Zh a.n v Jb) (Zh a.n u Jb)
 | .cnt s j x,r=> ∃v u,B a b x v u/\r=wK s j (Zh a.n v s) (Zh a.n u s)
def Td (a b:Wo):Sy->Option Bool->Prop
 | .fact f,r=>gk a b f r
 | .neg s,r=> ∃q,Td a b s q/\r=q.map (!·)
 | .du s t,r=> ∃p q,Td a b s p/\Td a b t q/\r=W9 p q
 | .dh s t,r=> ∃p q,Td a b s p/\Td a b t q/\r=fQ p q
def QY (h: ∀x,p=k0 x->p'=k0 x) (k: ∀x,q=k0 x->q'=k0 x) (e:W9 p q=k0 x):W9 p' q'=k0 x:=by
 rcases p with _ | _ | _<;>rcases q with _ | _ | _<;>cases e<;>(first | rw [h _ rfl] | skip)<;>(first | rw [k _ rfl] | skip)<;>first | rfl | (rcases p' with _ | _ | _<;>rfl) | (rcases q' with _ | _ | _)
def DD (h: ∀x,p=k0 x->p'=k0 x) (k: ∀x,q=k0 x->q'=k0 x) (e:fQ p q=k0 x):fQ p' q'=k0 x:=by
 rcases p with _ | _ | _<;>rcases q with _ | _ | _<;>cases e<;>(first | rw [h _ rfl] | skip)<;>(first | rw [k _ rfl] | skip)<;>first | rfl | (rcases p' with _ | _ | _<;>rfl) | (rcases q' with _ | _ | _)
theorem gk.mono (L:Le a a') (g:Le b' b) (k:Le a' b')(h:gk a b f r) (q:gk a' b' f r') (e:r=k0 x):r'=k0 x:=by
 have cnt: ∀ {y}{v u o l}{s}{j},B a b y v u->B a' b' y o l->wK s j _ _=k0 x->wK s j (Zh a'.n o s) (Zh a'.n l s)=k0 x:=λd c e=>by
  have m:=d.mono c L g
  rw [L.en]
  exact yy (X8 _ m.1) (X8 _ m.2) (X8 _ (c.in k)) e
 cases f with
 | eG y z=>
  obtain⟨v,u,o,l,d,n,rfl⟩:=h
  obtain⟨w,t,p,A,c,i,rfl⟩:=q
  exact xQ (d.mono c L g) (n.mono i L g) (c.in k) (i.in k) e
 | fc y z=>
  obtain⟨v,u,o,l,d,n,rfl⟩:=h
  obtain⟨w,t,p,A,c,i,rfl⟩:=q
  exact QY (λx=>xQ (d.mono c L g) (n.mono i L g) (c.in k) (i.in k)) (λx=>xQ (n.mono i L g) (d.mono c L g) (i.in k) (c.in k)) e
 | fh y=>
  obtain⟨v,u,d,rfl⟩:=h
  obtain⟨w,t,c,rfl⟩:=q
  exact cnt d c e
 | ak y=>
  obtain⟨v,u,d,rfl⟩:=h
  obtain⟨w,t,c,rfl⟩:=q
  exact cnt d c e
 | cnt s j y=>
  obtain⟨v,u,d,rfl⟩:=h
  obtain⟨w,t,c,rfl⟩:=q
  exact cnt d c e
theorem Td.mono (L:Le a a') (d:Le b' b) (g:Le a' b'): ∀ s r r' x,Td a b s r->Td a' b' s r'->r=k0 x->r'=k0 x
 | .fact f,r,r',x,h,q,e=>gk.mono L d g h q e
 | .neg s,r,r',x,⟨p,h,i⟩,⟨w,q,c⟩,e=>by
  rw [c] ;rw [i]at e
  cases p with
  | none=>cases e
  | some y=>rw [Td.mono L d g s _ _ y h q rfl];exact e
 | .du s t,r,r',x,⟨u,v,k,m,i⟩,⟨n,o,j,l,c⟩,e=>by
  rw [c];rw [i]at e
  exact QY (λy z=>Td.mono L d g s _ _ y k j z) (λy z=>Td.mono L d g t _ _ y m l z) e
 | .dh s t,r,r',x,⟨u,v,k,m,i⟩,⟨n,o,j,l,c⟩,e=>by
  rw [c];rw [i]at e
  exact DD (λy z=>Td.mono L d g s _ _ y k j z) (λy z=>Td.mono L d g t _ _ y m l z) e
def qm (P:Pt a b) (h): ∀ e m,e.dp+7<=m->e.wf (a.K++a.T)-> ∃v u,B a b e v u/\call prog m "bounds" [.v a.words,.v (bM a b),.v (aU e)] h= .ok (.v (aY v u)) h:=by
 have n4:=P.nR.wl.n4
 have ew:=P.ew
 have leaf: ∀ e s k v,aU e= .tup [.str s]->(s==wg)=k9->(s==zp)=k9->V a.n v (bt a b k9 e)->V a.n v (bt a b u0 e)->(∀ l,call prog (k+5) "made" [.v (.int (a.n:Int)),.v (.str s),.v (.lst l)] h= .ok (.v (.int (v:Int))) h)-> ∃v u,B a b e v u/\call prog (k+6) "bounds" [.v a.words,.v (bM a b),.v (aU e)] h= .ok (.v (aY v u)) h:=by
  intro e s k v O z N C A f
  rw [O]
  exact⟨v,v,⟨C,A⟩,jA (ps:= []) z N (by simp) (IC J1) (f _) (f _)⟩
 intro e
 induction e with
 | name t=>
  intro m f wf
  obtain⟨k,rfl⟩: ∃k,m=k+6:=⟨m-6,by simp [Ex.dp]at f;omega⟩
  have E:t∈b.K++b.T:=by rw [P.eK,P.eT];exact wf
  obtain⟨v,C,e1⟩:=Wn (k+1) P.nR t wf h
  obtain⟨u,A,e2⟩:=Wn (k+1) P.Bg t E h
  have K:V a.n v _:=⟨C.1,λx y D H=>(C.2 x y D H).trans (tu a t x y).symm⟩
  have J:V b.n u _:=⟨A.1,λx y D H=>(A.2 x y D H).trans (tu b t x y).symm⟩
  rw [P.en]at J
  rw [ew]at e2
  refine⟨v,u,⟨K,J⟩,?_⟩
  rw [Gb (d:=bE) rfl _ _ _ rfl]
  simp only [bE,aU]
  show Gq _ (execs _ _ [k0 (.v a.words),k0 (.v (bM a b)),k0 (.v (.tup [.str wg,.str t])),y0,y0,y0,y0,y0,y0] h)=_
  have i0:dz (.v (bM a b)) (.v (.int 0)) h=k0 a.aN:=rfl
  have i1:dz (.v (bM a b)) (.v (.int 1)) h=k0 b.aN:=rfl
  rw [za (τ1:=ef a b (.tup [.str wg,.str t]) wg y0 y0 y0 y0 y0) (h1:=h) (by simp_all [ae,qf])]
  rw [qa (w:= .v (aY v u)) (h1:=h) ((Qr (h1:=h) (zj (s:=wg) _ rfl)).trans ?_),Ga _ _ _ rfl]
  rw [za (τ1:=ef a b (.tup [.str wg,.str t]) wg (k0 (.v (.str t))) y0 y0 y0 y0) (h1:=h) (by simp_all [ae,Qe])]
  exact qa (Qa rfl (by simp_all [i0,i1,e1,e2]))
 | same=>
  intro m f wf
  obtain⟨k,rfl⟩: ∃k,m=k+6:=⟨m-6,by simp [Ex.dp]at f;omega⟩
  exact leaf .same xf k _ rfl rfl rfl V.leaf.1 V.leaf.1 λl=>AQ k a.n l h n4
 | all=>
  intro m f wf
  obtain⟨k,rfl⟩: ∃k,m=k+6:=⟨m-6,by simp [Ex.dp]at f;omega⟩
  exact leaf .all Jl k _ rfl rfl rfl V.leaf.2.1 V.leaf.2.1 λl=>B7 k a.n l h n4
 | none=>
  intro m f wf
  obtain⟨k,rfl⟩: ∃k,m=k+6:=⟨m-6,by simp [Ex.dp]at f;omega⟩
  exact leaf .none Ze k _ rfl rfl rfl V.leaf.2.2 V.leaf.2.2 λl=>D2 k a.n l h
 | turned c I=>
  intro m f wf
  simp only [Ex.dp]at f
  obtain⟨k,rfl⟩: ∃k,m=k+6:=⟨m-6,by omega⟩
  obtain⟨v,u,q,e1⟩:=I (k+5) (by omega) wf
  exact⟨_,_,⟨q.lo.turned,q.hi.turned⟩,jA (ps:= [(v,u)]) rfl rfl (by simp) (vo J1 (ju e1)) (xI k a.n v h n4) (xI k a.n u h n4)⟩
 | closed c I=>
  intro m f wf
  simp only [Ex.dp]at f
  obtain⟨k,rfl⟩: ∃k,m=k+6:=⟨m-6,by omega⟩
  obtain⟨v,u,q,e1⟩:=I (k+5) (by omega) wf
  obtain⟨r,M,L⟩:=jG k a.n v h n4 q.lo.1
  obtain⟨Q,G,F⟩:=jG k a.n u h n4 q.hi.1
  exact⟨_,_,⟨q.lo.closed M,q.hi.closed G⟩,jA (ps:= [(v,u)]) rfl rfl (by simp) (vo J1 (ju e1)) L F⟩
 | plus c d g j=>
  intro m f wf
  simp only [Ex.dp]at f
  obtain⟨k,rfl⟩: ∃k,m=k+6:=⟨m-6,by omega⟩
  obtain⟨v,u,q,e1⟩:=g (k+5) (by omega) wf.1
  obtain⟨p,o,n,i⟩:=j (k+5) (by omega) wf.2
  exact⟨_,_,⟨q.lo.plus n.lo,q.hi.plus n.hi⟩,jA (ps:= [(v,u),(p,o)]) rfl rfl (by simp) (zW J1 (ju e1) (ju i)) (ZT k a.n v p h) (ZT k a.n u o h)⟩
 | less c d g j=>
  intro m f wf
  simp only [Ex.dp]at f
  obtain⟨k,rfl⟩: ∃k,m=k+6:=⟨m-6,by omega⟩
  obtain⟨v,u,q,e1⟩:=g (k+5) (by omega) wf.1
  obtain⟨p,o,n,i⟩:=j (k+5) (by omega) wf.2
  exact⟨_,_,⟨q.lo.less n.hi,q.hi.less n.lo⟩,Fl (zW J1 (ju e1) (ju i))⟩
 | both c d g j=>
  intro m f wf
  simp only [Ex.dp]at f
  obtain⟨k,rfl⟩: ∃k,m=k+6:=⟨m-6,by omega⟩
  obtain⟨v,u,q,e1⟩:=g (k+5) (by omega) wf.1
  obtain⟨p,o,n,i⟩:=j (k+5) (by omega) wf.2
  exact⟨_,_,⟨q.lo.both n.lo,q.hi.both n.hi⟩,jA (ps:= [(v,u),(p,o)]) rfl rfl (by simp) (zW J1 (ju e1) (ju i)) (WY k a.n v p h) (WY k a.n u o h)⟩
 | joined c d g j=>
  intro m f wf
  simp only [Ex.dp]at f
  obtain⟨k,rfl⟩: ∃k,m=k+6:=⟨m-6,by omega⟩
  obtain⟨v,u,q,e1⟩:=g (k+5) (by omega) wf.1
  obtain⟨p,o,n,i⟩:=j (k+5) (by omega) wf.2
  exact⟨_,_,⟨q.lo.joined n.lo,q.hi.joined n.hi⟩,jA (ps:= [(v,u),(p,o)]) rfl rfl (by simp) (zW J1 (ju e1) (ju i)) (zK k a.n v p h n4) (zK k a.n u o h n4)⟩
def X4 (P:Pt a b) (h) (f) (m) (c:f.dp+7<=m) (wf:f.wf (a.K++a.T)): ∃r,gk a b f r/\call prog (m+1) "fact_told" [.v a.words,.v (bM a b),.v (de f)] h= .ok (.v (aH r)) h:=by
 have n4:=P.nR.wl.n4
 obtain⟨k,rfl⟩: ∃k,m=k+3:=⟨m-3,by lia⟩
 cases f with
 | eG x y=>
  simp [Fc.dp]at c
  obtain⟨l,i,g,d⟩:=qm P h x (k+3) (by lia) wf.1
  obtain⟨v,u,q,e⟩:=qm P h y (k+3) (by lia) wf.2
  exact⟨_,⟨l,i,v,u,g,q,rfl⟩,Lc n4 e d⟩
 | fc x y=>
  simp [Fc.dp]at c
  obtain⟨l,i,g,d⟩:=qm P h x (k+3) (by lia) wf.1
  obtain⟨v,u,q,e⟩:=qm P h y (k+3) (by lia) wf.2
  exact⟨_,⟨l,i,v,u,g,q,rfl⟩,CJ n4 e d⟩
 | fh x=>
  obtain⟨v,u,q,e⟩:=qm P h x _ c wf
  exact⟨_,⟨v,u,q,rfl⟩,Dt n4 e⟩
 | ak x=>
  obtain⟨v,u,q,e⟩:=qm P h x _ c wf
  exact⟨_,⟨v,u,q,rfl⟩,Fe n4 e⟩
 | cnt s j x=>
  obtain⟨v,u,q,e⟩:=qm P h x _ c wf.2
  exact⟨_,⟨v,u,q,rfl⟩,D5 n4 e wf.1⟩
abbrev pI (a b:Wo) (d:D) (s:Tx):Sl:= [k0 (.v a.words),k0 (.v (bM a b)),k0 (.v d),k0 (.v (.str s))]
section
variable {m k:Nat}{a b:Wo}{h:AH}{x y:D}{r q:Option Bool}
def JE (z:execs (u9 m) (match cj.body with | .cons _ r=>r | r=>r) (pI a b (.tup (.str s::ds)) s) h= .ret (.v d) h):call prog (m+1) "told" [.v a.words,.v (bM a b),.v (.tup (.str s::ds))] h= .ok (.v d) h:=by
 rw [Gb rfl _ _ _ rfl]
 simp only [cj]at z ⊢
 show Gq _ (execs _ _ [k0 _,k0 _,k0 _,y0] h)=_
 rw [za (τ1:=pI a b (.tup (.str s::ds)) s) (h1:=h) (by simp_all [ae,qf]),z,Ga _ _ _ rfl]
def Dn (c:call prog (k+2) "told" [.v a.words,.v (bM a b),.v x] h= .ok (.v (aH r)) h):call prog (k+3) "told" [.v a.words,.v (bM a b),.v (.tup [.str xA,x])] h= .ok (.v (aH (r.map (!·)))) h:=by
 refine JE ?_
 simp only [cj]
 rw [Qc (zj (s:=xA) _ rfl) (Qa rfl (by simp_all [ae,xl,c,AS];rfl))]
def Bq (c:call prog (k+2) "told" [.v a.words,.v (bM a b),.v x] h= .ok (.v (aH r)) h) (d:call prog (k+2) "told" [.v a.words,.v (bM a b),.v y] h= .ok (.v (aH q)) h):call prog (k+3) "told" [.v a.words,.v (bM a b),.v (.tup [.str wu,x,y])] h= .ok (.v (aH (W9 r q))) h:=by
 refine JE ?_
 simp only [cj]
 rw [ja (zj (s:=wu) _ rfl),Qc (zj (s:=wu) _ rfl) (Qa rfl (by simp_all [ae,xl,xD,c,d,wM];rfl))]
def Iw (c:call prog (k+2) "told" [.v a.words,.v (bM a b),.v x] h= .ok (.v (aH r)) h) (d:call prog (k+2) "told" [.v a.words,.v (bM a b),.v y] h= .ok (.v (aH q)) h):call prog (k+3) "told" [.v a.words,.v (bM a b),.v (.tup [.str xy,x,y])] h= .ok (.v (aH (fQ r q))) h:=by
 refine JE ?_
 simp only [cj]
 rw [ja (zj (s:=xy) _ rfl),ja (zj (s:=xy) _ rfl),Qc (zj (s:=xy) _ rfl) (Qa rfl (by simp_all [ae,xl,xD,c,d,BS];rfl))]
def Lj (wf:f.wf N) (e:call prog m "fact_told" [.v a.words,.v (bM a b),.v (de f)] h= .ok (.v (aH r)) h):call prog (m+1) "told" [.v a.words,.v (bM a b),.v (de f)] h= .ok (.v (aH r)) h:=by
 obtain⟨s,j,c,d,i,g⟩:=Lh f wf
 rw [c]at e ⊢
 refine JE ?_
 simp only [cj]
 rw [ja ((zj _ rfl).trans (by rw [d])),ja ((zj _ rfl).trans (by rw [i])),ja ((zj _ rfl).trans (by rw [g])),qa (Qa rfl (by assumption))]
end
def BJ (P:Pt a b) (h): ∀ s m,s.dp+9<=m->s.wf (a.K++a.T)-> ∃r,Td a b s r/\call prog m "told" [.v a.words,.v (bM a b),.v (aM s)] h= .ok (.v (aH r)) h:=by
 intro s
 induction s with
 | fact f=>
  intro m g wf
  simp [Sy.dp]at g
  obtain⟨k,rfl⟩: ∃k,m=k+2:=⟨m-2,by lia⟩
  obtain⟨r,t,e⟩:=X4 P h f k (by lia) wf
  exact⟨r,t,Lj wf e⟩
 | neg x l=>
  intro m g wf
  simp [Sy.dp]at g
  obtain⟨k,rfl⟩: ∃k,m=k+3:=⟨m-3,by lia⟩
  obtain⟨r,t,e⟩:=l (k+2) (by lia) wf
  exact⟨_,⟨r,t,rfl⟩,Dn e⟩
 | du x y c d=>
  intro m g wf
  simp [Sy.dp]at g
  obtain⟨k,rfl⟩: ∃k,m=k+3:=⟨m-3,by lia⟩
  obtain⟨r,t,e⟩:=c (k+2) (by lia) wf.1
  obtain⟨q,j,i⟩:=d (k+2) (by lia) wf.2
  exact⟨_,⟨r,q,t,j,rfl⟩,Bq e i⟩
 | dh x y c d=>
  intro m g wf
  simp [Sy.dp]at g
  obtain⟨k,rfl⟩: ∃k,m=k+3:=⟨m-3,by lia⟩
  obtain⟨r,t,e⟩:=c (k+2) (by lia) wf.1
  obtain⟨q,j,i⟩:=d (k+2) (by lia) wf.2
  exact⟨_,⟨r,q,t,j,rfl⟩,Iw e i⟩
mutual
theorem HG: ∀ {d:D},Gc d=u0->bL d d=u0
 | .ak,_=>rfl
 | .bl b,_=>by simp
 | .int i,_=>by simp
 | .str s,_=>by simp
 | .tup xs,h=>by
  rw [bL];exact GJ (by simpa [Gc]using h)
 | .lst xs,h=>by
  rw [bL];exact GJ (by simpa [Gc]using h)
 | .ref _,h=>by simp at h
 | .exc _ _,h=>by simp at h
theorem GJ: ∀ {xs:List D},Gf xs=u0->GK xs xs=u0
 | [],_=>rfl
 | x::xs,h=>by
  have h':Gc x=u0/\Gf xs=true:=by simpa [Gf]using h
  rw [GK,HG h'.1,GJ h'.2];rfl
end
mutual
theorem WF {h:AH}: ∀ {d:D},Gc d=u0->res h d=d
 | .ak,_=>rfl
 | .bl b,_=>rfl
 | .int i,_=>rfl
 | .str s,_=>rfl
 | .tup xs,q=>by
  rw [res,GN (by simpa [Gc]using q)]
 | .lst xs,q=>by
  rw [res,GN (by simpa [Gc]using q)]
 | .ref _,q=>by simp at q
 | .exc _ _,q=>by simp at q
theorem GN {h:AH}: ∀ {xs:List D},Gf xs=u0->GW h xs=xs
 | [],_=>rfl
 | x::xs,q=>by
  have h':Gc x=u0/\Gf xs=true:=by simpa [Gf]using q
  rw [GW,WF h'.1,GN h'.2]
end
theorem js (f) (a: ∀x,Gc (f x)=u0): ∀l:List α,Gf (l.map f)=u0
 | []=>rfl
 | x::l=>by simp [a x,js f a l]
theorem vi (f) (k) (a: ∀x,dep (f x)<=k): ∀l:List α,GD (l.map f)<=k
 | []=>Ac8 _
 | x::l=>by
  have b:=a x
  have c:=vi f k a l
  exact Nat.max_le.mpr ⟨b,c⟩
def Qj:D->Bool
 | .int _=>u0
 | _=>k9
def Jd (d:D) (e:Int):Bool:=match d with
 | .int i=>y9 (0<=i)&&y9 (i<e)
 | _=>k9
def xB (k) (d) (h) (a:Gc d=u0):call prog (k+1) "is_whole" [.v d] h= .ok (.v (.bl (Qj d))) h:=by
 cases d<;>first | exact Ga _ _ _ rfl | cases a
def qB (k) (d) (e) (h) (a:Gc d=u0):call prog (k+2) "is_below" [.v d,.v (.int e)] h= .ok (.v (.bl (Jd d e))) h:=by
 rw [Gb rfl _ _ _ rfl]
 have b:=xB k d h a
 cases d with
 | int i=>
  simp [b,ZA,Qj,Jd,Gk]
  by_cases c:0<=i<;>simp [c]
 | _=>first | (simp [b,ZA,Qj,Jd,Gk]) | (simp at a)
def FE (k) (d) (h) (a:Gc d=u0):call prog (k+3) "is_size" [.v d] h= .ok (.v (.bl (Jd d 5))) h:=by
 rw [Gb rfl _ _ _ rfl]
 have e:=qB k d 5 h a
 have b:prog.con.lookup "GREATEST_SIZE" =some _:=rfl
 have c:(4:Int)+1=5:=rfl
 simp only [wZ]
 simp_all [b,zc,c,e]
def vt (k) (d) (h) (b:Gc d=u0) (c:Jd d 5=u0):call prog (k+4) "check_size" [.v d] h= .ok (.v .ak) h:=by
 rw [Gb rfl _ _ _ rfl]
 have a:=FE k d h b
 rw [c]at a
 simp only [XC]
 rw [ja (by simp_all [a])]
 simp_all []
def cd:List (Nat×Nat)->Nat
 | []=>0
 | q::r=>q.2+2 ^ q.1*cd r
def dg:List Nat->Nat->List Nat
 | [],_=> []
 | w::a,c=>c % 2 ^ w::dg a (c / 2 ^ w)
def cw (n K T:Nat):List Nat:=Aa2 K n++Aa2 T (n*n)
structure Wl (n:Nat) (ks ts:List Nat):Prop where
 n4:n<=4
 k4:ks.length<=4
 t4:ts.length<=4
 bk: ∀x∈ks,x<2 ^ n
 bt: ∀x∈ts,x<2 ^ (n*n)
def l4 (n K T):(cw n K T).length=K+T:=by simp [cw]
abbrev gP (A B:List D):D:= .tup [.tup A,.tup B]
def yb (n K T):aK (cw n K T)=Aa2 K (.int (n:Int))++Aa2 T (.int ((n*n:Nat):Int)):=by simp [cw]
theorem Qu (x): ∀m,(Aa2 m x).sum=m*x
 | 0=>by simp
 | m+1=>by rw [Ae4,Al2,Qu x m,Nat.succ_mul,Ao7]
def nA (n K T):(cw n K T).sum=K*n+T*(n*n):=by rw [cw,List.sum_append,Qu,Qu]
theorem uU (h): ∀ ws (c:Nat) j J,(∀ w∈ws,w<=16)->j.length+ws.length<=1000-> ∃L M,
 Gw (Gv [5] u0) (λτ h=>execs F Qq τ h) (aK ws) [x0,x1,x2,k0 (.own (aK j)),k0 (.v (.int (c:Int))),J,x6] h= .next [x0,x1,x2,k0 (.own (aK (j++dg ws c))),L,M,x6] h
 | [],c,j,J,_,_=>⟨k0 (.v (.int c)),J,by simp [dg]⟩
 | w::ws,c,j,J,a,k=>by
  rw [Ab]at k
  have l:=a w Aa7
  obtain⟨L,M,e⟩:=uU h ws (c / 2 ^ w) (j++ [c % 2 ^ w]) (k0 (.v (.int w))) (λx f=>a x (Aa4 _ f)) (by simp;omega)
  refine⟨L,M,?_⟩
  have d:=zT w (by omega)
  have o:0<2 ^ w:=Nat.pow_pos (by decide)
  have m:((2 ^ w:Nat))-1=((2 ^ w-1:Nat):Int):=by omega
  have b:=Qd c (2 ^ w-1)
  rw [Af3]at b
  have n:=jj c w
  have i:(aK j).length<ba:=by rw [Gg,Aa];omega
  have g:aK (j++ [c % 2 ^ w])=aK j++ [.int ((c % 2 ^ w:Nat))]:=by simp
  rw [show aK (w::ws)= .int w::aK ws from rfl,xb rfl ?_,e,Af1]
  ·rfl
  ·rw [g]
   simp_all [Qq,d,zf,m,zd,b,i,if_true,n]
def vc (x) (m:Nat) (a:m<=1000) (h):GM .mul (.own [x]) (.v (.int (m:Int))) h= .ok (.own (Aa2 m x)) h:=by
 show Kq [x] m h=_
 have c: -1000<=(m:Int)/\(m:Int)<=1000/\ [x].length*(m:Int).toNat<=ba:=by rw [Gg,Ad7];simp;lia
 rw [Kq,if_pos c,Ad7,show(Aa2 m [x]).flatten=Aa2 m x by simp]
def u3 (k n:Nat) (A B) (h) (e:n<=4) (f:A.length<=4) (g:B.length<=4):call prog (k+1) "widths" [.v (gP A B),.v (.int (n:Int))] h= .ok (.own (aK (cw n A.length B.length))) h:=by
 rw [Gb rfl _ _ _ rfl]
 have d:=Jc n n (by lia)
 have b:=vc (.int n) A.length (by lia) h
 have c:=vc (.int (n*n:Nat)) B.length (by lia) h
 have a:(Aa2 A.length (D.int n)).length+(Aa2 B.length (D.int (n*n:Nat))).length<=ba:=by rw [Gg];simp;lia
 rw [yb]
 simp only [pO]
 simp_all [ae,jk,Qe,Wh,b,d,c,vI,a,if_true]
def sR (k n:Nat) (A B) (h) (c:n<=4) (d:A.length<=4) (e:B.length<=4):call prog (k+2) "bits" [.v (gP A B),.v (.int (n:Int))] h= .ok (.v (.int (((cw n A.length B.length).sum:Nat):Int))) h:=by
 rw [Gb rfl _ _ _ rfl]
 have b:=u3 k n A B h c d e
 have a:(aK (cw n A.length B.length)).length<=ba:=by rw [Gg,Aa,l4];lia
 simp only [rD]
 simp_all [b,rk,a,if_true,WP]
theorem uI (n): ∀m,Aa5 (m*n)=(Aa5 m).flatMap λa=>(Aa5 n).map (a*n+ ·)
 | 0=>by simp
 | m+1=>by rw [ZC,uI n m,List.range_succ,List.flatMap_append];simp
def JM (n t):Wf.av n t=(Aa5 n).flatMap λa=>((Aa5 n).filter λb=>t.testBit (a*n+b)).map λb=>(a,b):=by
 unfold Wf.av
 rw [uI n n,List.filter_flatMap,List.map_flatMap]
 rw [Am5,Am5]
 congr 1
 refine Ai λa d=> ?_
 rw [Am9,Ad1]
 refine Ai λb c=> ?_
 have c:=Ab7.mp (Ai6.mp c).1
 show(_ / n,_ % n)=_
 rw [Wf.aE c,Wf.aI c]
def WU (n t) (f) (z:α):(Wf.av n t).foldl f z=(Aa5 n).foldl (λz a=>(Aa5 n).foldl (λz b=>if t.testBit (a*n+b)then f z (a,b)else z) z) z:=by
 rw [JM,List.foldl_flatMap]
 congr 1
 funext z a
 rw [List.foldl_map,List.foldl_filter]
def i9 {n i:Nat}(e:Gk τ i=k0 (.v (.int (n:Int)))) (a:n<=1000000):Gr F (.ao (.var i)) τ h= .ok ((Aa5 n).map λ(i:Nat)=> .int (i:Int)) h:=Js (by rw [eval,e]) a
def uq {st:Nat->Option W->Option W->Option W->Sl}{n:Nat}{f:Nat->Nat->Nat->Nat}(w:n<=1000)
 (k:b2= .cons (.for [j] u0 (.ao .v0) b1) .nil) (v: ∀t x y z,Gk (st t x y z) 0=k0 (.v (.int (n:Int))))
 (u: ∀d t x y z,GC (st t x y z) i (.v d)=st t (k0 (.v d)) y z) (A: ∀d t x y z,GC (st t x y z) j (.v d)=st t x (k0 (.v d)) z)
 (q: ∀a b t z,a<n->b<n-> ∃J,execs F b1 (st t (k0 (.v (.int (a:Int)))) (k0 (.v (.int (b:Int)))) z) h= .next (st (f a b t) (k0 (.v (.int (a:Int)))) (k0 (.v (.int (b:Int)))) J) h):
 ∀(l:List Nat) t x y z,(∀ a∈l,a<n)-> ∃M L J,Gw (Gv [i] u0) (λτ h=>execs F b2 τ h) (l.map λ(a:Nat)=>D.int (a:Int)) (st t x y z) h= .next (st (l.foldl (λt a=>(Aa5 n).foldl (λt b=>f a b t) t) t) M L J) h:=by
 have eG: ∀ a,a<n-> ∀(l:List Nat) t y z,(∀ b∈l,b<n)-> ∃L J,Gw (Gv [j] u0) (λτ h=>execs F b1 τ h) (l.map λ(b:Nat)=>D.int b) (st t (k0 (.v (.int a))) y z) h= .next (st (l.foldl (λt b=>f a b t) t) (k0 (.v (.int a))) L J) h:=by
  intro a s l
  induction l with
  | nil=>exact λt y z _=>⟨y,z,rfl⟩
  | cons b l o=>
   intro t y z g
   obtain⟨m,e1⟩:=q a b t z s (g b Aa7)
   obtain⟨L,J,e⟩:=o _ _ m λc p=>g c (Aa4 _ p)
   refine⟨L,J,?_⟩
   rw [Ab0,xb (by simp_all) e1,e]
   rfl
 intro l
 induction l with
 | nil=>exact λt x y z _=>⟨x,y,z,rfl⟩
 | cons a l o=>
  intro t x y z g
  obtain⟨r,m,e1⟩:=eG a (g a Aa7) _ t y z λb k=>Ab7.mp k
  obtain⟨M,L,J,e⟩:=o _ _ r m λc p=>g c (Aa4 _ p)
  refine⟨M,L,J,?_⟩
  rw [Ab0,xb (by rw [Gz,u]) (by
   rw [k,execs,exec]
   rw [i9 (v _ _ _ _) (by lia),R.ay,e1,O.cA,execs]),e]
  rfl
def oT (o c):Gj .band ((o / 2 ^ c:Nat):Int) 1=k0 ((((o.testBit c).toNat:Nat)):Int):=by
 rw [zd,show 1=((1:Nat):Int)from rfl,Qd,JP]
def uB (x) (h):Gs .eq (.v (.int ((x.toNat:Nat):Int))) (.v (.int 1)) h=k0 x:=by
 cases x<;>rfl
noncomputable abbrev kq (n o p t:Nat) (x y z:Option W):Sl:= [k0 (.v (.int (n:Int))),k0 (.v (.int (o:Int))),k0 (.v (.int (p:Int))),k0 (.v (.int (t:Int))),x,y,z]
def jW (k n o p:Nat) (h) (j:n<=20):call prog (k+1) "_law_joined" [.v (.int (n:Int)),.v (.int (o:Int)),.v (.int (p:Int))] h= .ok (.v (.int ((Wf.joinM n o p:Nat):Int))) h:=by
 rw [Gb rfl _ _ _ rfl]
 have step: ∀a b t z,a<n->b<n-> ∃d,execs (u9 k) xh (kq n o p t (k0 (.v (.int (a:Int)))) (k0 (.v (.int (b:Int)))) z) h= .next (kq n o p (if o.testBit (a*n+b)then t ||| Wf.b8 n p b*2 ^ (a*n)else t) (k0 (.v (.int (a:Int)))) (k0 (.v (.int (b:Int)))) d) h:=by
  intro a b t z c A
  have l:Gj .mul (a:Int) (n:Int)=k0 _:=Jc a n (by omega)
  have f:Gj .mul (b:Int) (n:Int)=k0 _:=Jc b n (by omega)
  have u:(p / 2 ^ (b*n) &&& (2 ^ n-1))=Wf.b8 n p b:=by rw [Af3];rfl
  have y:a*n<=400:=Ab9 (Ae2 (Ag c) (Aa8 n)) (zh j)
  have m:=Q8 _ (a*n) (Ab3 (Wf.cW n p b) (Ab9 (Ae0 (by decide) j) (by decide))) (by omega)
  have w:=zT n (by omega)
  have r:((2 ^ n:Nat):Int)-1=((2 ^ n-1:Nat):Int):=by
   have:=Ac6 n
   omega
  have g:Gm (u9 k) (.cmp .eq (.bin .band (.bin .shr .v1 (.bin .add (.bin .mul .v4 .v0) .v5)) (.int 1)) (.int 1)) (kq n o p t (k0 (.v (.int (a:Int)))) (k0 (.v (.int (b:Int)))) z) h= .ok (o.testBit (a*n+b)) h:=by
   have s:(((a*n:Nat):Int)+(b:Int))=((a*n+b:Nat):Int):=rfl
   simp_all [l,zc,s,jj,oT,uB]
  cases q:o.testBit (a*n+b)with
  | false=>
   refine⟨z,?_⟩
   unfold xh
   rw [ja (by rw [g,q]),execs]
   rfl
  | true=>
   refine⟨k0 (.v (.int ((Wf.b8 n p b:Nat):Int))),?_⟩
   unfold xh
   rw [execs,Qr (by rw [g,q])]
   simp_all [l,f,jj,w,zf,r,zd,Qd,u,m,Jq,Xn,if_true]
 obtain⟨x,v,d,e⟩:=uq (i:=4) (b2:=Zt) (by omega) rfl (λ_ _ _ _=>rfl) (λ_ _ _ _ _=>rfl) (λ_ _ _ _ _=>rfl) step _ 0 y0 y0 y0 λa c=>Ab7.mp c
 show Gq _ _=_
 simp only [zD]
 rw [za (τ1:=kq n o p 0 y0 y0 y0) rfl]
 rw [za (τ1:=kq n o p (Wf.joinM n o p) x v d) (by
  rw [exec,i9 rfl (by omega),R.ay,e]
  rw [Wf.joinM,WU])]
 rw [qa rfl,Ga _ _ _ rfl]
abbrev ki (n o t:Nat) (x y:Option W):Sl:= [k0 (.v (.int (n:Int))),k0 (.v (.int (o:Int))),k0 (.v (.int (t:Int))),x,y]
def uN (k n o:Nat) (h) (r:n<=20):call prog (k+1) "_law_turned" [.v (.int (n:Int)),.v (.int (o:Int))] h= .ok (.v (.int ((Wf.bI n o:Nat):Int))) h:=by
 rw [Gb (d:=jp) rfl _ _ _ rfl]
 have step: ∀a b t (z:Option W),a<n->b<n-> ∃A:Option W,execs (u9 k) ql (ki n o t (k0 (.v (.int (a:Int)))) (k0 (.v (.int (b:Int))))) h= .next (ki n o (if o.testBit (a*n+b)then t ||| 2 ^ (b*n+a)else t) (k0 (.v (.int (a:Int)))) (k0 (.v (.int (b:Int))))) h:=by
  intro a b t z c m
  refine⟨y0,?_⟩
  have C:Gj .mul (a:Int) (n:Int)=k0 _:=Jc a n (by omega)
  have f:Gj .mul (b:Int) (n:Int)=k0 _:=Jc b n (by omega)
  have B:b*n+a<=400:=Ab9 (Ag (Wf.place_lt m c)) (zh r)
  have u:=zT (b*n+a) (by omega)
  have l:(((b*n:Nat):Int)+(a:Int))=((b*n+a:Nat):Int):=rfl
  have g:Gm (u9 k) (.cmp .eq (.bin .band (.bin .shr .v1 (.bin .add (.bin .mul .v3 .v0) .v4)) (.int 1)) (.int 1)) (ki n o t (k0 (.v (.int (a:Int)))) (k0 (.v (.int (b:Int))))) h= .ok (o.testBit (a*n+b)) h:=by
   have p:(((a*n:Nat):Int)+(b:Int))=((a*n+b:Nat):Int):=rfl
   simp_all [C,zc,p,jj,oT,uB]
  unfold ql
  cases q:o.testBit (a*n+b)with
  | false=>
   rw [ja (by rw [g,q]),execs]
   rfl
  | true=>
   rw [execs,Qr (h1:=h) (by rw [g,q])]
   simp_all [f,zc,l,u,Jq,Xn,if_true]
 obtain⟨v,s,A,e⟩:=uq (st:=λt x y _=>ki n o t x y) (i:=3) (j:=4) (b2:=jt) (by omega) rfl (λ_ _ _ _=>rfl) (λ_ _ _ _ _=>rfl) (λ_ _ _ _ _=>rfl) step _ 0 y0 y0 y0 λa c=>Ab7.mp c
 show Gq _ _=_
 simp only [jp]
 rw [za (τ1:=ki n o 0 y0 y0) (h1:=h) rfl]
 rw [za (τ1:=ki n o (Wf.bI n o) v s) (h1:=h) (by
  rw [exec,i9 (n:=n) rfl (by omega),R.ay,e]
  rw [Wf.bI,Wf.cK,Wf.la,List.foldl_map,WU])]
 rw [qa (w:= .v (.int ((Wf.bI n o:Nat):Int))) (h1:=h) rfl,Ga _ _ _ rfl]
def cG (n t:Nat):Nat->Nat
 | 0=>t
 | i+1=>cG n t i ||| Wf.joinM n (cG n t i) t
theorem vf : ∀ {l:List Nat},(∀ x∈l,p x=u0->q x=u0)->(∃ x∈l,q x=u0/\p x=k9)->(l.filter p).length<(l.filter q).length
 | [],_,h=>by obtain⟨x,a,_⟩:=h;cases a
 | y::l,h,j=>by
  have le: ∀l:List Nat,(∀ x∈l,p x=u0->q x=u0)->(l.filter p).length<=(l.filter q).length:=by
   intro l
   induction l with
   | nil=>exact λ_=>Aa8 _
   | cons z l b=>
    intro d
    have f:=b λx a=>d x (Aa4 _ a)
    have g:=d z Aa7
    rw [Al,Al]
    cases e1:p z with
    | true=>rw [g e1,if_pos rfl,if_pos rfl,Ab,Ab];omega
    | false=>
     rw [if_neg Ab2]
     cases q z with
     | true=>rw [if_pos rfl,Ab];omega
     | false=>rw [if_neg Ab2];exact f
  have k:=le l λx a=>h x (Aa4 _ a)
  have i:=h y Aa7
  obtain⟨x,a,c,e⟩:=j
  rw [Al,Al]
  rcases Ac1.mp a with rfl | a
  ·rw [c,e,if_pos rfl,if_neg Ab2,Ab];omega
  ·have b:=vf (λx a=>h x (Aa4 _ a)) ⟨x,a,c,e⟩
   cases e1:p y with
   | true=>rw [i e1,if_pos rfl,if_pos rfl,Ab,Ab];omega
   | false=>
    rw [if_neg Ab2]
    cases q y with
    | true=>rw [if_pos rfl,Ab];omega
    | false=>rw [if_neg Ab2];exact b
section
variable {n t:Nat}
def Wr (e:a<n) (d:b<n):(cG n t (i+1)).testBit (a*n+b)=((cG n t i).testBit (a*n+b)||(Aa5 n).any λc=>(cG n t i).testBit (a*n+c)&&t.testBit (c*n+b)):=by
 rw [cG,Af6,Wf.b3 (Wf.place_lt e d),Wf.cu d]
def i7 (n t i a:Nat):Prop:= ∀b,b<n->(cG n t (i+1)).testBit (a*n+b)=(cG n t i).testBit (a*n+b)
def wU (f:a<n) (h:i7 n t i a):i7 n t (i+1) a:=λb e=>by
 rw [Wr f e]
 cases q:(Aa5 n).any λc=>(cG n t _).testBit _&&t.testBit (c*n+b)with
 | false=>rw [Bool.or_false]
 | true=>
  rw [Bool.or_true,Wr f e,Ao.mpr (.inr ?_)]
  rw [Ad0]at q ⊢
  obtain⟨c,d,z⟩:=q
  rw [h c (Ab7.mp d)]at z
  exact⟨c,d,z⟩
abbrev mE (n t i a:Nat):Nat:=((Aa5 n).filter λb=>(cG n t i).testBit (a*n+b)).length
def rj (d:a<n) (h: ¬i7 n t i a):mE n t i a<mE n t (i+1) a:=by
 have h: ∃b,b<n/\(cG n t _).testBit _≠(cG n t i).testBit _:=Ag8 λz=>h λb c=>Ag8 λq=>z ⟨b,c,q⟩
 obtain⟨b,c,ne⟩:=h
 refine vf (λx e z=>by rw [Wr d (Ab7.mp e),z,Al8]) ⟨b,Ab7.mpr c,?_⟩
 cases q:(cG n t i).testBit (a*n+b)with
 | false=>rw [q]at ne;exact⟨by simpa using ne,rfl⟩
 | true=>exact absurd (by rw [Wr d c,q,Al8]) ne
theorem rS (b:a<n): ∀i,i7 n t i a\/i<=mE n t i a
 | 0=> .inr (Ac8 _)
 | i+1=>(rS b i).elim (λz=> .inl (wU b z)) λz=>by
  by_cases q:i7 n t i a
  ·exact .inl (wU b q)
  ·have:=rj b q
   exact .inr (by omega)
def E8 (b:a<n):i7 n t n a:=(rS b n).elim id λz=>Ag8 λq=>by
 have c:=rj b q
 have d:mE n t (n+1) a<=n:=Ab9 (Ak6 _ _) (by simp)
 omega
theorem Z3: ∀(i a b),a<n->b<n->(cG n t i).testBit (a*n+b)=u0->Wf.TC n t a b
 | 0,a,b,e,d,z=> .step e d z
 | i+1,a,b,e,d,z=>by
  rw [Wr e d,Ae7,Ad0]at z
  rcases z with z | ⟨c,f,z⟩
  ·exact Z3 i a b e d z
  ·rw [Aa0]at z
   have f:=Ab7.mp f
   exact .more (Z3 i a c e f z.1) f d z.2
theorem uc: ∀(i k),t.testBit k=u0->(cG n t i).testBit k=u0
 | 0,_,z=>z
 | i+1,k,z=>by rw [cG,Af6,uc i k z,Al8]
theorem pR (a:t<2 ^ (n*n)): ∀i,cG n t i<2 ^ (n*n)
 | 0=>a
 | i+1=>Am2 (pR a i) (Wf.c8 _ _ _)
def rb (j:t<2 ^ (n*n)):Wf.eY n t (cG n t n):=⟨pR j n,λa b f h=>⟨Z3 n a b f h,λg=>by
 induction g with
 | step c d e=>exact uc n _ e
 | more g c d e i=>
  rw [← E8 f _ d,Wr f d,Ao,Ad0]
  exact .inr ⟨_,Ab7.mpr c,by rw [i c,e];rfl⟩⟩⟩
end
abbrev mP (n t r:Nat) (x:Option W):Sl:= [k0 (.v (.int (n:Int))),k0 (.v (.int (t:Int))),k0 (.v (.int (r:Int))),x]
theorem xL (k n t) (a:n<=20) (h): ∀ m i x,∃J,Gw (Gv [3] u0) (λτ h=>execs (u9 (k+1)) jl τ h) ((Aa5 m).map λj=>D.int ((i+j:Nat):Int)) (mP n t (cG n t i) x) h= .next (mP n t (cG n t (i+m)) J) h
 | 0,i,x=>⟨x,rfl⟩
 | m+1,i,x=>by
  obtain⟨J,e⟩:=xL k n t a h m (i+1) (k0 (.v (.int (i:Nat))))
  refine⟨J,?_⟩
  rw [Ag6,Ab0,Ad1,xb (τ1:=mP n t (cG n t i) (k0 (.v (.int (i:Nat))))) rfl (by
   unfold jl
   rw [za (τ1:=mP n t (cG n t (i+1)) (k0 (.v (.int (i:Nat))))) (by simp_all [jW k n (cG n t i) t h a,Xn];rfl),execs])]
  have:((λj=>D.int (i+j:Nat))∘Nat.succ)=λj=>D.int (i+1+j:Nat):=by
   funext j
   show D.int (i+(j+1):Nat)=_
   rw [show i+(j+1)=i+1+j by omega]
  rw [this,e,show i+1+m=i+(m+1)by omega]
def pT (k n t:Nat) (h) (a:n<=20):call prog (k+2) "_law_closed" [.v (.int (n:Int)),.v (.int (t:Int))] h= .ok (.v (.int ((cG n t n:Nat):Int))) h:=by
 obtain⟨b,e⟩:=xL k n t a h n 0 y0
 simp [Nat.zero_add]at e
 show Gq _ _=_
 simp only [JC]
 rw [za rfl]
 rw [za (by rw [exec,i9 rfl (by lia),R.ay];exact e)]
 rw [qa rfl,Ga _ _ _ rfl]
def vZ (a b:Nat):Kt (a:Int) (b:Int)=k0 ((a ^^^ b:Nat):Int):=rfl
def pj (k n:Nat) (h) (l:n<=4):call prog (k+1) "_law_same" [.v (.int (n:Int))] h= .ok (.v (.int ((Wf.bD n:Nat):Int))) h:=by
 rw [Gb rfl _ _ _ rfl]
 have e:eval (u9 k) jo [k0 (.v (.int n))] h= .ok (.own (aK ((Aa5 n).map λa=>2 ^ (a*n+a)))) h:=by
  unfold jo
  rw [Zi (λa=> .int _) rfl (by omega) λa c=>⟨.v _,?_,rfl⟩]
  ·rw [aK,Ad1];rfl
  ·have f:=Jc a n (by omega)
   have d:=zT (a*n+a) (by have:=Wf.place_lt c c;have:=zh (show n<=20 by omega);omega)
   have g:((a*n:Nat)+ a)=((a*n+a:Nat):Int):=rfl
   simp_all [f,zc,g,d]
 have i:((Aa5 n).map λa=>2 ^ (a*n+a)).sum=Wf.bD n:=by
  have:n=0\/n=1\/n=2\/n=3\/n=4:=by omega
  rcases this with rfl | rfl | rfl | rfl | rfl<;>decide +kernel
 have j:dA .sum [.own (aK ((Aa5 n).map λa=>2 ^ (a*n+a)))] h= .ok (.v (.int ((Wf.bD n:Nat):Int))) h:=by
  show(R.of h ((k0 (aK ((Aa5 n).map λa=>2 ^ (a*n+a)))).bind λb=>if b.length<=ba then Ka b else y0)).bind _=_
  rw [Ah9,if_pos (by rw [Gg,aK,Aa,Aa,Aj];omega),WP,i]
  rfl
 show Gq _ _=_
 simp only [WL]
 rw [qa (w:= .v (.int ((Wf.bD n:Nat):Int))) (h1:=h) (Qa rfl (by simp_all [e,j])),Ga _ _ _ rfl]
def qN (k n s t:Nat) (h) (a:n<=20):(call prog (k+2) "_law_two" [.v (.str WH),.v (.int (n:Int)),.v (.int (s:Int)),.v (.int (t:Int))] h= .ok (.v (.int ((s ||| t:Nat):Int))) h ∧
 call prog (k+2) "_law_two" [.v (.str WC),.v (.int (n:Int)),.v (.int (s:Int)),.v (.int (t:Int))] h= .ok (.v (.int ((s &&& t:Nat):Int))) h) ∧
 call prog (k+2) "_law_two" [.v (.str jh),.v (.int (n:Int)),.v (.int (s:Int)),.v (.int (t:Int))] h= .ok (.v (.int ((Wf.joinM n s t:Nat):Int))) h:=by
 refine⟨⟨?_,?_⟩,?_⟩
 all_goals
  rw [Gb rfl _ _ _ rfl]
  simp only [jY]
 ·show Gq _ (execs _ _ [k0 _,k0 _,k0 _,k0 _] h)=_
  rw [Qc (w:= .v (.int ((s ||| t:Nat):Int))) (zj (s:=WH) _ rfl) (Qa rfl (by simp_all [Jq,Xn])),Ga _ _ _ rfl]
 ·show Gq _ (execs _ _ [k0 _,k0 _,k0 _,k0 _] h)=_
  rw [ja (zj (s:=WC) _ rfl),Qc (w:= .v (.int ((s &&& t:Nat):Int))) (zj (s:=WC) _ rfl) (Qa rfl (by simp_all [zd,Qd])),Ga _ _ _ rfl]
 ·show Gq _ (execs _ _ [k0 _,k0 _,k0 _,k0 _] h)=_
  rw [ja (zj (s:=jh) _ rfl),ja (zj (s:=jh) _ rfl),qa (w:= .v (.int ((Wf.joinM n s t:Nat):Int))) (h1:=h) (Qa rfl (by simp_all [jW k n s t h a])),Ga _ _ _ rfl]
def V.gU (h:V n s g) (q:V n t f):V n (s &&& ((2 ^ (n*n)-1) ^^^ t)) λa b=>g a b&& !f a b:=⟨Ai5 Nat.and_le_left h.1,λa b j d=>by
 have l:=h.2 a b j d
 have k:=q.2 a b j d
 rw [Ah7,Nat.testBit_xor,Ae1,decide_eq_true (Wf.place_lt j d),Bool.true_xor,Aa0,Aa0,l]
 constructor
 ·rintro ⟨i,c⟩
  refine⟨i,?_⟩
  cases e:f a b with
  | false=>rfl
  | true=>rw [k.mpr e]at c;cases c
 ·rintro ⟨i,c⟩
  refine⟨i,?_⟩
  cases e:t.testBit (a*n+b)with
  | false=>rfl
  | true=>rw [k.mp e]at c;cases c⟩
def aF (N:List Tx) (f:Tx->Nat×Nat):List (Tx×D):=N.map λt=>(t,aY (f t).1 (f t).2)
theorem mQ : ∀ {N},t∈N->(aF N f).lookup t=k0 (aY (f t).1 (f t).2)
 | y::N,h=>by
  show Ai7 t ((y,_)::aF N f)=_
  rw [Ab5]
  by_cases e:t=y
  ·subst e;rw [beq_self_eq_true]
  ·rw [beq_eq_false_iff_ne.mpr e]
   exact mQ ((Ac1.mp h).resolve_left e)
structure Dc (a b:Wo) (f:Tx->Nat×Nat) (r:Nat) (h:AH):Prop where
 ad:h[r]? =k0 (.aG (aF (a.K++a.T) f))
 n4:a.n<=4
 lo: ∀t∈a.K++a.T,V a.n (f t).1 (bx a t)
 hi: ∀t∈a.K++a.T,V a.n (f t).2 (bx b t)
noncomputable abbrev g5 (n r:Nat) (d:D) (s:Tx) (a b f c e:Option W):Sl:= [k0 (.v (.int (n:Int))),k0 (.v (.ref r)),k0 (.v d),k0 (.v (.str s)),k0 (.v (.int ((2 ^ (n*n)-1:Nat):Int))),a,b,f,c,e]
def jS (s) (a:List Tx) (h):Gs .mem (.v (.str s)) (.own (a.map .str)) h=k0 (y9 (s∈a)):=JF s a (.own _) h rfl rfl
section
variable {m n r:Nat}{h:AH}
def zQ (e:n<=4) (z:execs (u9 m) (match aw.body with | .cons _ (.cons _ r)=>r | r=>r) (g5 n r (.tup (.str s::ds)) s y0 y0 y0 y0 y0) h= .ret w h) (b:Gq h.length (.ret w h)= .ok w h):call prog (m+1) "_law_bounds" [.v (.int (n:Int)),.v (.ref r),.v (.tup (.str s::ds))] h= .ok w h:=by
 rw [Gb rfl _ _ _ rfl]
 simp only [aw]at z ⊢
 have d:=Jc n n (by omega)
 have c:=zT (n*n) (by have:=zh (show n<=20 by omega);omega)
 have a:((2 ^ (n*n):Nat))-1=((2 ^ (n*n)-1:Nat):Int):=by
  have:=Ac6 (n*n)
  omega
 show Gq _ (execs _ _ [k0 _,k0 _,k0 _,y0,y0,y0,y0,y0,y0,y0] h)=_
 rw [za (τ1:= [k0 (.v (.int (n:Int))),k0 (.v (.ref r)),k0 (.v (.tup (.str s::ds))),k0 (.v (.str s)),y0,y0,y0,y0,y0,y0]) (h1:=h) (by simp_all [ae,qf])]
 rw [za (τ1:=g5 n r (.tup (.str s::ds)) s y0 y0 y0 y0 y0) (h1:=h) (by simp_all [d,c,zf,a]),z]
 exact b
def KL (a:n<=4) (e:h[r]? =k0 (.aG kvs)) (l:kvs.lookup t=k0 d):call prog (m+1) "_law_bounds" [.v (.int (n:Int)),.v (.ref r),.v (.tup [.str wg,.str t])] h= .ok (.v d) h:=by
 refine zQ a ?_ (Ga _ _ _ rfl)
 simp only [aw]
 have dd:GT h (k0 (.v (.ref r)))=k0 (r,kvs):=by unfold GT;simp [e]
 have dg:ea (.v (.str t)) (k0 (r,kvs)) h=aD d h:=by unfold ea;simp [l]
 rw [Qc (w:= .v d) (zj (s:=wg) _ rfl) (Qa rfl (by simp_all [dd,ae,Qe,dg]))]
def W6 (c:n<=4) (i:(s==wg)=k9) (g:s∈ [xf,Jl,Ze]) (a:List.lookup s [(xf,Wf.bD n),(Jl,2 ^ (n*n)-1),(Ze,0)]=k0 v):call prog (m+2) "_law_bounds" [.v (.int (n:Int)),.v (.ref r),.v (.tup [.str s])] h= .ok (.v (aY v v)) h:=by
 refine zQ c ?_ (Ga _ _ _ rfl)
 simp only [aw]
 have j:Gm (u9 (m+1)) (.cmp .mem .v3 (.lst (.c (.str xf) (.str Jl) (.str Ze)))) (g5 n r (.tup [.str s]) s y0 y0 y0 y0 y0) h= .ok u0 h:=by
  have:=jS s [xf,Jl,Ze] h
  simp only [Ab0,Ae3]at this
  simp_all [this,decide_eq_true g]
 have f:fA [(xf,.v (.int ((Wf.bD n)))),(Jl,.v (.int ((2 ^ (n*n)-1:Nat)))),(Ze,.v (.int 0))] (k0 (.v (.str s))) h= .ok (.v (.int v)) h:=by
  unfold fA
  simp only [Ab5,List.lookup_nil]at a ⊢
  cases e:s==xf with
  | true=>rw [e]at a;cases a;rfl
  | false=>
   rw [e]at a
   cases d:s==Jl with
   | true=>rw [d]at a;cases a;rfl
   | false=>
    rw [d]at a
    cases b:s==Ze with
    | true=>rw [b]at a;cases a;rfl
    | false=>rw [b]at a;cases a
 rw [ja ((zj _ rfl).trans (by rw [i]))]
 rw [qa]
 refine(Qr j).trans ?_
 rw [za (τ1:=g5 n r (.tup [.str s]) s (k0 (.v (.int v))) y0 y0 y0 y0) (h1:=h) (by simp_all [pj m n h c,f])]
 rw [qa (w:= .v (aY v v)) (h1:=h) (Qa rfl (by simp_all []))]
def sD (a:aW (.str s::ds) i=k0 d) (e:call prog m "_law_bounds" [.v (.int (n:Int)),.v (.ref r),.v d] h= .ok (.v (aY v u)) h):eval (u9 m) (.call "_law_bounds" (.c .v0 .v1 (.ix .v2 (.int i)))) (g5 n r (.tup (.str s::ds)) s x5 x6 x7 x8 x9) h= .ok (.v (aY v u)) h:=by
 simp_all [ae,a,e]
def m8 (b:n<=4) (f:(s==wg)=k9) (c:s∉ [xf,Jl,Ze]) (e:call prog m "_law_bounds" [.v (.int (n:Int)),.v (.ref r),.v d] h= .ok (.v (aY v u)) h)
 (z:execs (u9 m) (match aw.body with | .cons _ (.cons _ (.cons _ (.cons _ (.cons _ r))))=>r | r=>r) (g5 n r (.tup (.str s::d::ds)) s y0 (k0 (.v (.int (v:Int)))) (k0 (.v (.int (u:Int)))) y0 y0) h= .ret w h) (a:Gq h.length (.ret w h)= .ok w h):call prog (m+1) "_law_bounds" [.v (.int (n:Int)),.v (.ref r),.v (.tup (.str s::d::ds))] h= .ok w h:=by
 refine zQ b ?_ a
 simp only [aw]at z ⊢
 have g:Gm (u9 m) (.cmp .mem .v3 (.lst (.c (.str xf) (.str Jl) (.str Ze)))) (g5 n r (.tup (.str s::d::ds)) s y0 y0 y0 y0 y0) h= .ok k9 h:=by
  have:=jS s [xf,Jl,Ze] h
  simp only [Ab0,Ae3]at this
  simp_all [this,decide_eq_false c]
 rw [ja ((zj _ rfl).trans (by rw [f])),ja g]
 rw [za (by rw [exec,sD (xl _ _ _) e,R.ay];rfl)]
 exact z
def Ek (a:n<=4) (e:call prog (m+1) "_law_bounds" [.v (.int (n:Int)),.v (.ref r),.v d] h= .ok (.v (aY v u)) h):call prog (m+2) "_law_bounds" [.v (.int (n:Int)),.v (.ref r),.v (.tup [.str xi,d])] h= .ok (.v (aY (Wf.bI n v) (Wf.bI n u))) h:=by
 refine m8 a rfl (by decide) e ?_ (Ga _ _ _ rfl)
 simp only [aw]
 rw [Qc (w:= .v (aY (Wf.bI n v) (Wf.bI n u))) (zj (s:=xi) _ rfl) (Qa rfl (by simp_all [uN m n v h (by lia),uN m n u h (by lia)]))]
def Ei (a:n<=4) (e:call prog (m+2) "_law_bounds" [.v (.int (n:Int)),.v (.ref r),.v d] h= .ok (.v (aY v u)) h):call prog (m+3) "_law_bounds" [.v (.int (n:Int)),.v (.ref r),.v (.tup [.str Qi,d])] h= .ok (.v (aY (cG n v n) (cG n u n))) h:=by
 refine m8 a rfl (by decide) e ?_ (Ga _ _ _ rfl)
 simp only [aw]
 rw [ja (zj (s:=Qi) _ rfl),Qc (w:= .v (aY (cG n v n) (cG n u n))) (zj (s:=Qi) _ rfl) (Qa rfl (by simp_all [pT m n v h (by lia),pT m n u h (by lia)]))]
def sM (b:n<=4) (g:(s==wg)=k9) (f:s∉ [xf,Jl,Ze]) (h1:(s==xi)=k9) (c:(s==Qi)=k9) (e:call prog m "_law_bounds" [.v (.int (n:Int)),.v (.ref r),.v d] h= .ok (.v (aY v u)) h) (i:call prog m "_law_bounds" [.v (.int (n:Int)),.v (.ref r),.v d'] h= .ok (.v (aY j k)) h)
 (z:execs (u9 m) (match aw.body with | .cons _ (.cons _ (.cons _ (.cons _ (.cons _ (.cons _ (.cons _ (.cons _ r)))))))=>r | r=>r) (g5 n r (.tup [.str s,d,d']) s y0 (k0 (.v (.int (v:Int)))) (k0 (.v (.int (u:Int)))) (k0 (.v (.int (j:Int)))) (k0 (.v (.int (k:Int))))) h= .ret w h) (a:Gq h.length (.ret w h)= .ok w h):call prog (m+1) "_law_bounds" [.v (.int (n:Int)),.v (.ref r),.v (.tup [.str s,d,d'])] h= .ok w h:=by
 refine m8 b g f e ?_ a
 simp only [aw]at z ⊢
 rw [ja ((zj _ rfl).trans (by rw [h1])),ja ((zj _ rfl).trans (by rw [c]))]
 rw [za (by rw [exec,sD (xD _ _ _) i,R.ay];rfl)]
 exact z
def yN (a:n<=4) (e:call prog m "_law_bounds" [.v (.int (n:Int)),.v (.ref r),.v d] h= .ok (.v (aY v u)) h) (c:call prog m "_law_bounds" [.v (.int (n:Int)),.v (.ref r),.v d'] h= .ok (.v (aY v' u')) h):call prog (m+1) "_law_bounds" [.v (.int (n:Int)),.v (.ref r),.v (.tup [.str zp,d,d'])] h= .ok (.v (aY (v &&& ((2 ^ (n*n)-1) ^^^ u')) (u &&& ((2 ^ (n*n)-1) ^^^ v')))) h:=by
 refine sM a rfl (by decide) rfl rfl e c ?_ (Ga _ _ _ rfl)
 simp only [aw]
 have b: ∀i j:Int,Gj .bxor i j=Kt i j:=λ_ _=>rfl
 rw [Qc (w:= .v (aY (v &&& ((2 ^ (n*n)-1) ^^^ u')) (u &&& ((2 ^ (n*n)-1) ^^^ v')))) (zj (s:=zp) _ rfl) (Qa rfl (by simp_all [b,vZ,zd,Qd]))]
def nV {v u a b x y:Nat}(c:n<=4) (j:(s==wg)=k9) (i:s∉ [xf,Jl,Ze]) (h1:(s==xi)=k9) (f:(s==Qi)=k9) (g:(s==zp)=k9) (e:call prog m "_law_bounds" [.v (.int (n:Int)),.v (.ref r),.v d] h= .ok (.v (aY v u)) h) (k:call prog m "_law_bounds" [.v (.int (n:Int)),.v (.ref r),.v d'] h= .ok (.v (aY a b)) h)
 (l:call prog m "_law_two" [.v (.str s),.v (.int (n:Int)),.v (.int (v:Int)),.v (.int (a:Int))] h= .ok (.v (.int (x:Int))) h) (o:call prog m "_law_two" [.v (.str s),.v (.int (n:Int)),.v (.int (u:Int)),.v (.int (b:Int))] h= .ok (.v (.int (y:Int))) h):call prog (m+1) "_law_bounds" [.v (.int (n:Int)),.v (.ref r),.v (.tup [.str s,d,d'])] h= .ok (.v (aY x y)) h:=by
 refine sM c j i h1 f e k ?_ (Ga _ _ _ rfl)
 simp only [aw]
 rw [ja ((zj _ rfl).trans (by rw [g])),qa (w:= .v (aY x y)) (h1:=h) (Qa rfl (by simp_all [l,o]))]
end
def Jj (P:Dc a b f r h): ∀ e m,e.dp+4<=m->e.wf (a.K++a.T)-> ∃v u,B a b e v u/\call prog m "_law_bounds" [.v (.int (a.n:Int)),.v (.ref r),.v (aU e)] h= .ok (.v (aY v u)) h:=by
 have n4:=P.n4
 intro e
 induction e with
 | name t=>
  intro m l wf
  obtain⟨k,rfl⟩: ∃k,m=k+1:=⟨m-1,by omega⟩
  exact⟨_,_,⟨P.lo t wf,P.hi t wf⟩,KL n4 P.ad (mQ wf)⟩
 | same=>
  intro m l wf
  obtain⟨k,rfl⟩: ∃k,m=k+2:=⟨m-2,by omega⟩
  exact⟨_,_,⟨V.leaf.1,V.leaf.1⟩,W6 n4 rfl (by decide) rfl⟩
 | all=>
  intro m l wf
  obtain⟨k,rfl⟩: ∃k,m=k+2:=⟨m-2,by omega⟩
  exact⟨_,_,⟨V.leaf.2.1,V.leaf.2.1⟩,W6 n4 rfl (by decide) rfl⟩
 | none=>
  intro m l wf
  obtain⟨k,rfl⟩: ∃k,m=k+2:=⟨m-2,by omega⟩
  exact⟨_,_,⟨V.leaf.2.2,V.leaf.2.2⟩,W6 n4 rfl (by decide) rfl⟩
 | turned c s=>
  intro m l wf
  simp only [Ex.dp]at l
  obtain⟨k,rfl⟩: ∃k,m=k+2:=⟨m-2,by omega⟩
  obtain⟨v,u,q,e1⟩:=s (k+1) (by omega) wf
  exact⟨_,_,⟨q.lo.turned,q.hi.turned⟩,Ek n4 e1⟩
 | closed c s=>
  intro m l wf
  simp only [Ex.dp]at l
  obtain⟨k,rfl⟩: ∃k,m=k+3:=⟨m-3,by omega⟩
  obtain⟨v,u,q,e1⟩:=s (k+2) (by omega) wf
  exact⟨_,_,⟨q.lo.closed (rb q.lo.1),q.hi.closed (rb q.hi.1)⟩,Ei n4 e1⟩
 | plus c d g j=>
  intro m l wf
  simp only [Ex.dp]at l
  obtain⟨k,rfl⟩: ∃k,m=k+3:=⟨m-3,by omega⟩
  obtain⟨v,u,q,e1⟩:=g (k+2) (by omega) wf.1
  obtain⟨p,o,n,i⟩:=j (k+2) (by omega) wf.2
  exact⟨_,_,⟨q.lo.plus n.lo,q.hi.plus n.hi⟩,nV n4 rfl (by decide) rfl rfl rfl e1 i (qN k a.n v p h (by omega)).1.1 (qN k a.n u o h (by omega)).1.1⟩
 | less c d g j=>
  intro m l wf
  simp only [Ex.dp]at l
  obtain⟨k,rfl⟩: ∃k,m=k+3:=⟨m-3,by omega⟩
  obtain⟨v,u,q,e1⟩:=g (k+2) (by omega) wf.1
  obtain⟨p,o,n,i⟩:=j (k+2) (by omega) wf.2
  exact⟨_,_,⟨q.lo.gU n.hi,q.hi.gU n.lo⟩,yN n4 e1 i⟩
 | both c d g j=>
  intro m l wf
  simp only [Ex.dp]at l
  obtain⟨k,rfl⟩: ∃k,m=k+3:=⟨m-3,by omega⟩
  obtain⟨v,u,q,e1⟩:=g (k+2) (by omega) wf.1
  obtain⟨p,o,n,i⟩:=j (k+2) (by omega) wf.2
  exact⟨_,_,⟨q.lo.both n.lo,q.hi.both n.hi⟩,nV n4 rfl (by decide) rfl rfl rfl e1 i (qN k a.n v p h (by omega)).1.2 (qN k a.n u o h (by omega)).1.2⟩
 | joined c d g j=>
  intro m l wf
  simp only [Ex.dp]at l
  obtain⟨k,rfl⟩: ∃k,m=k+3:=⟨m-3,by omega⟩
  obtain⟨v,u,q,e1⟩:=g (k+2) (by omega) wf.1
  obtain⟨p,o,n,i⟩:=j (k+2) (by omega) wf.2
  exact⟨_,_,⟨q.lo.joined n.lo,q.hi.joined n.hi⟩,nV n4 rfl (by decide) rfl rfl rfl e1 i (qN k a.n v p h (by omega)).2 (qN k a.n u o h (by omega)).2⟩
def iT:Nat->Nat->Nat
 | 0,_=>0
 | L+1,v=>v % 2+iT L (v / 2)
theorem nk: ∀(L v),iT L v=((Aa5 L).filter v.testBit).length
 | 0,_=>rfl
 | L+1,v=>by
  rw [iT,nk L,Ag6,Al,Am9]
  have e:(v.testBit∘Nat.succ)=(v / 2).testBit:=by
   funext i
   exact Nat.testBit_succ v i
  rw [e]
  by_cases q:v % 2=1
  ·rw [if_pos (by rw [Nat.testBit_zero,decide_eq_true q]),Ab,Aa,q];omega
  ·rw [if_neg (by rw [Nat.testBit_zero,decide_eq_false q];exact Ab2),Aa];omega
abbrev kN (v a:Nat):Sl:= [k0 (.v (.int (v:Int))),k0 (.v (.int (a:Int)))]
theorem rz (h): ∀ L f v a,v<2 ^ L->L<f->GL (λτ h=>Gm F Qk τ h) (λτ h=>execs F Zk τ h) f (kN v a) h= .next (kN 0 (a+iT L v)) h
 | L,0,v,a,_,c=>absurd c (Ai8 _)
 | L,f+1,v,a,b,c=>by
  have g:Gm F Qk (kN v a) h= .ok (y9 (0<v)) h:=by
   have:Gs .gt (.v (.int v)) (.v (.int 0)) h=k0 (y9 (0<v)):=by
    show k0 (y9 (0<(v:Int)))=_
    congr 1
    exact decide_eq_decide.mpr (by omega)
   unfold Qk
   simp_all [this]
  rw [GL,g,R.ay]
  by_cases q:0<v
  ·cases L with
   | zero=>simp at b;omega
   | succ L=>
    have d:execs F Zk (kN v a) h= .next (kN (v / 2) (a+v % 2)) h:=by
     have e:Gj .mod v 2=k0 ((v % 2:Nat):Int):=kJ v 2 (by decide)
     have i:Gj .fdiv v 2=k0 ((v / 2:Nat):Int):=K5 v 2 (by decide) (by decide)
     unfold Zk
     simp_all [e,i,F0]
    rw [decide_eq_true q]
    simp only [d]
    rw [rz h L f (v / 2) (a+v % 2) (by rw [Nat.pow_succ]at b;omega) (by omega),iT,Nat.add_assoc]
  ·have v0:v=0:=by omega
   subst v0
   have z:iT L 0=0:=by rw [nk];simp
   rw [decide_eq_false q,z]
   rfl
def QR (k L v:Nat) (h) (b:L<=16) (a:v<2 ^ L):call prog (k+1) "_law_many" [.v (.int (v:Int))] h= .ok (.v (.int ((((List.range L).filter v.testBit).length:Nat):Int))) h:=by
 show Gq _ _=_
 simp only [xN]
 rw [za rfl]
 rw [za (by rw [exec];exact rz h L 100000 v 0 a (by lia))]
 rw [qa rfl,Ga _ _ _ rfl,Nat.zero_add,nk]
def j5 {F:Fx}{e:E}{τ:Sl}{h:AH}{b:Bool}(q:eval F e τ h= .ok (.v (.bl b)) h):eval F (.ix (.lst (.b .ak (.bl k9))) (.bi .int (.cons e .nil))) τ h= .ok (.v (aH (qT k9 b))) h:=by
 have e1:eval F (.bi .int (.cons e .nil)) τ h= .ok (.v (.int b.toNat)) h:=by
  rw [eval,Gi,q];rfl
 rw [eval,show eval F _ τ h= .ok _ h from rfl,R.ab,e1,R.ab,WM]
 cases b<;>rfl
def mn {F:Fx}{τ:Sl}{i j:Nat}{ps:List (Nat×Nat)}{h:AH}{o:Cp}(p:Nat->Bool) (k:ps.length<=4) (c:Gn F (.seq .v2) τ h= .ok (ps.map pD) h) (f:Gk τ 1=k0 (.v (.int (j:Int)))) (b:i=0\/i=1) (a: ∀x:Nat,Gs o (.v (.int (x:Int))) (.v (.int (j:Int))) h=k0 (p x)):
 eval F (.comp [0,1] k9 2 [1] (.seq .v2) k9 (.bl u0) (.cmp o (.var i) .v2)) τ h= .ok (.own ((ps.map λq=>p (if i=0 then q.1 else q.2)).map .bl)) h:=by
 rw [Xj (h:=h) (ds:=ps.map pD) (λd=>match d with | .tup [.int x,.int y]=> .bl (p (if i=0 then x.toNat else y.toNat)) | d=>d) c (by rw [Gg,Aa];lia)]
 ·simp [Function.comp_def,pD]
 ·intro g e
  obtain⟨q,_,rfl⟩:=Ab8.mp e
  refine⟨[k0 (.v (.int (q.1:Nat))),k0 (.v (.int (q.2:Nat))),k0 (.v (.int j))],?_,?_⟩
  ·rw [Ab0,Ae3,f];rfl
  ·obtain rfl | rfl:=b
   ·exact⟨.v (.bl (p q.1)),by simp_all [a],by simp [pD]⟩
   ·exact⟨.v (.bl (p q.2)),by simp_all [a],by simp [pD]⟩
def o5 {F:Fx}{e:E}{a:Ss}{b:Ss}{τ:Sl}{h:AH}{x y:Bool}(c:eval F e τ h= .ok (.v (.bl x)) h) (z:execs F b τ h= .ret (.v (aH (qT k9 y))) h):execs F (.cons (.r e (.bl u0)) b) τ h= .ret (.v (aH (qT x y))) h:=by
 have t:Gm F e τ h= .ok x h:=by rw [Gm,c,R.ab];rfl
 cases x with
 | true=>exact qa ((Qr t).trans (qa rfl))
 | false=>rw [ja t];exact z
def Av (k j:Nat) (c:Bool){w:W}{ps:List (Nat×Nat)}(h:AH) (f:ps.length<=4) (e: ∀a b:Option W,Gn (u9 k) (.seq .v2) [a,b,k0 w] h= .ok (ps.map pD) h):
 call prog (k+1) "_law_ruled" [.v (.bl c),.v (.int (j:Int)),w] h= .ok (.v (aH (if c then qT ((ps.map (·.1)).all fun x=>decide (j<=x)) ((ps.map (·.2)).any fun x=>decide (x<j))else qT ((ps.map (·.2)).all fun x=>decide (x<=j)) ((ps.map (·.1)).any fun x=>decide (j<x))))) h:=by
 rw [Gb (d:=qv) rfl _ _ _ rfl]
 show Gq _ (execs _ _ [k0 _,k0 _,k0 w] h)=_
 simp only [qv,Wx,wx,wy,zz]
 have l:=jx (mn (F:=(u9 k)) (τ:= [k0 (.v (.bl c)),k0 (.v (.int (j:Int))),k0 w]) (i:=0) (λx=>decide _) f (e _ _) rfl (.inl rfl) (λx=>rF j x h))
 have g:=Xw (mn (F:=(u9 k)) (τ:= [k0 (.v (.bl c)),k0 (.v (.int (j:Int))),k0 w]) (i:=1) (λx=>decide _) f (e _ _) rfl (.inr rfl) (λx=>l3 j x h))
 have e2:=jx (mn (F:=(u9 k)) (τ:= [k0 (.v (.bl c)),k0 (.v (.int (j:Int))),k0 w]) (i:=1) (λx=>y9 (x<=j)) f (e _ _) rfl (.inr rfl) (λx=>sT j x h))
 have e1:=Xw (mn (F:=(u9 k)) (τ:= [k0 (.v (.bl c)),k0 (.v (.int (j:Int))),k0 w]) (i:=0) (λx=>y9 (j<x)) f (e _ _) rfl (.inl rfl) (λx=>gf j x h))
 rw [oZ]at l e2
 rw [oR]at g e1
 rw [An,Ao5,An,Ao5]
 cases c with
 | true=>
  rw [qa (w:= .v _) (h1:=h) ((Qr (h1:=h) rfl).trans (o5 (a:= .nil) l (qa (Qa rfl (j5 g))))),Ga _ _ _ rfl]
  rfl
 | false=>
  rw [ja rfl,o5 (a:= .nil) e2 (qa (Qa rfl (j5 e1))),Ga _ _ _ rfl]
  rfl
def tS (u v):y9 (u &&& v=u)=y9 (u-(u &&& v)=0):=by
 have:= @Nat.and_le_left u v
 exact decide_eq_decide.mpr (by lia)
def X1 (i j:Nat) (h):Gs .ne (.v (.int (i:Int))) (.v (.int (j:Int))) h=k0 (!y9 (i=j)):=by
 have this:=zi i j h
 exact congrArg (Option.map (!·)) this
def ED (k v u v' u') (h):call prog (k+1) "_law_within" [.v (aY v u),.v (aY v' u')] h= .ok (.v (aH (dU v u v' u'))) h:=by
 show Gq _ (execs _ _ [k0 _,k0 _] h)=_
 simp only [WD]
 rw [o5 (a:= .nil) (x:=y9 (u &&& v'=u)) (y:= !y9 (v &&& u'=v)) (by simp_all [ae,jk,Qe,zd,Qd,zi]) (qa (Qa rfl (j5 (by simp_all [ae,jk,Qe,zd,Qd,X1])))),Ga _ _ _ rfl,dU,tS,tS]
noncomputable abbrev fx (n r:Nat) (d:D) (s:Tx) (a b c e:Option W):Sl:= [k0 (.v (.int (n:Int))),k0 (.v (.ref r)),k0 (.v d),k0 (.v (.str s)),a,b,c,e]
def rT (n v a):((Aa5 n).filter (v / 2 ^ (a*n) &&& (2 ^ n-1)).testBit).length=jX n (tb n v) a:=by
 rw [Zr,jX]
 congr 1
 refine Ai λb c=> ?_
 have c:=Ab7.mp c
 rw [Af3,Ag2,decide_eq_true c,Ad9,Ag3,Ao7]
section
variable {m n r:Nat}{h:AH}
def m2 {s:Tx}{j v u:Nat}{x:D}(C:n<=4) (K:s∈ [Za,Jb,jb,Xh]) (H:v<2 ^ (n*n)) (F:u<2 ^ (n*n)) (e:call prog (m+1) "_law_bounds" [.v (.int (n:Int)),.v (.ref r),.v x] h= .ok (.v (aY v u)) h):
 execs (u9 (m+1)) (match bq.body with | .cons _ (.cons _ r)=>r | r=>r) (fx n r (.tup [.str s,.int (j:Int),x]) s y0 y0 y0 y0) h= .ret (.v (aH (wK s j (Zh n v s) (Zh n u s)))) h:=by
 have g:n*n<=16:=Ae2 C C
 simp only [bq]
 rw [za (τ1:=fx n r (.tup [.str s,.int (j:Int),x]) s (k0 (.v (.int (v:Int)))) (k0 (.v (.int (u:Int)))) y0 y0) (h1:=h) (by rw [exec];simp_all [ae,xD,e])]
 have y:Gm (u9 (m+1)) (.or (.cmp .eq .v3 (.str Za)) (.cmp .eq .v3 (.str Jb))) (fx n r (.tup [.str s,.int (j:Int),x]) s (k0 (.v (.int (v:Int)))) (k0 (.v (.int (u:Int)))) y0 y0) h= .ok (s==Za||s==Jb) h:=by
  rw [Gm,xR (a:=s==Za) (b:=s==Jb) (by simp_all [Wc]) (by simp_all [Wc]),R.ab];rfl
 have i: ∀(w:W) (p:List (Nat×Nat)) (X:Tx),p.length<=4->(∀ a b:Option W,Gn (u9 m) (.seq .v2) [a,b,k0 w] h= .ok (p.map pD) h)->call prog _ "_law_ruled" [.v _,.v _,w] h= .ok _ h:=fun w p X d I=>Av m j (s==X) h d I
 have B:(s∈ [Za,jb])↔(s==Za)=u0\/(s==jb)=true:=by simp
 by_cases c:(s==Za||s==Jb)=u0
 ·have f:s∈ [Za,Jb]:=by simpa using c
  have ne:(s==jb)=false:=by
   have: ∀s∈ [Za,Jb],(s==jb)=false:=by decide
   exact this s f
  have k:=i (.bor [aY (Qx n v).sum (Qx n u).sum]) [((Qx n v).sum,(Qx n u).sum)] Za (by simp) (λa b=>rfl)
  have o:call prog (m+1) "_law_many" [.v (.int (v:Int))] h= .ok (.v (.int (((Qx n v).sum:Nat):Int))) h:=by rw [QR m _ v h g H,wF n v n,Qx]
  have t:call prog (m+1) "_law_many" [.v (.int (u:Int))] h= .ok (.v (.int (((Qx n u).sum:Nat):Int))) h:=by rw [QR m _ u h g F,wF n u n,Qx]
  rw [qa (w:= .v (aH (wK s j (Zh n v s) (Zh n u s)))) (h1:=h)]
  refine(Qr (h1:=h) (by rw [y,c])).trans (qa (Qa rfl ?_))
  rw [wK,Zh,Zh,if_pos f,if_pos f]
  simp_all [Wc,ae,xl,o,t,k]
  have iff:(s∈ [Za,jb])↔(s==Za)=true:=B.trans (by rw [ne];simp)
  by_cases q:s∈ [Za,jb]
  ·rw [if_pos q,if_pos (iff.mp q)]
  ·rw [if_neg q,if_neg λz=>q (iff.mpr z)]
 ·have l:(s==Za||s==Jb)=false:=by simpa using c
  have f:s∉ [Za,Jb]:=by simpa using c
  have ne:(s==Za)=false:=by
   rw [Bool.or_eq_false_iff]at l
   exact l.1
  rw [ja (by rw [y,l])]
  have G:=zT n (by omega)
  have d:((2 ^ n:Nat):Int)-1=((2 ^ n-1:Nat):Int):=by
   have:=Ac6 n
   omega
  rw [za (τ1:=fx n r (.tup [.str s,.int (j:Int),x]) s (k0 (.v (.int (v:Int)))) (k0 (.v (.int (u:Int)))) (k0 (.v (.int ((2 ^ n-1:Nat):Int)))) y0) (h1:=h) (by simp_all [G,zf,d])]
  have E:eval (u9 (m+1)) Xp (fx n r (.tup [.str s,.int (j:Int),x]) s (k0 (.v (.int (v:Int)))) (k0 (.v (.int (u:Int)))) (k0 (.v (.int ((2 ^ n-1:Nat):Int)))) y0) h= .ok (.own (((Qx n v).zip (Qx n u)).map pD)) h:=by
   unfold Xp
   rw [Zi (n:=n) (λa=>aY (jX n (tb n v) a) (jX n (tb n u) a)) rfl (by omega) λa L=>⟨.v (aY (jX n (tb n v) a) (jX n (tb n u) a)),?_,rfl⟩]
   ·rw [Qx,Qx,List.zip_map',Ad1];rfl
   ·have J:Gj .mul (a:Int) (n:Int)=k0 ((a*n:Nat):Int):=Jc a n (by omega)
    have lt: ∀w:Nat,(w / 2 ^ (a*n) &&& (2 ^ n-1))<2 ^ n:=λw=>by rw [Af3];exact Aj2 _ (Ac6 n)
    have o:call prog (m+1) "_law_many" [.v (.int ((v / 2 ^ (a*n) &&& (2 ^ n-1):Nat):Int))] h= .ok (.v (.int ((jX n (tb n v) a:Nat):Int))) h:=by rw [QR m n _ h (by omega) (lt v),rT]
    have t:call prog (m+1) "_law_many" [.v (.int ((u / 2 ^ (a*n) &&& (2 ^ n-1):Nat):Int))] h= .ok (.v (.int ((jX n (tb n u) a:Nat):Int))) h:=by rw [QR m n _ h (by omega) (lt u),rT]
    simp_all [J,jj,zd,Qd,o,t]
  have A:(Qx n v).length=(Qx n u).length:=by simp [Qx]
  have k:=i (.v (.lst (((Qx n v).zip (Qx n u)).map pD))) ((Qx n v).zip (Qx n u)) jb (by rw [Al3];simp [Qx];omega) (λa b=>rfl)
  rw [List.map_fst_zip (Ak8 A),List.map_snd_zip (Ak8 A.symm)]at k
  rw [za (τ1:=fx n r (.tup [.str s,.int (j:Int),x]) s (k0 (.v (.int (v:Int)))) (k0 (.v (.int (u:Int)))) (k0 (.v (.int ((2 ^ n-1:Nat):Int)))) (k0 (.v (.lst (((Qx n v).zip (Qx n u)).map pD))))) (h1:=h) (by rw [exec,E];rfl)]
  rw [qa (w:= .v (aH (wK s j (Zh n v s) (Zh n u s)))) (h1:=h)]
  refine Qa rfl ?_
  rw [wK,Zh,Zh,if_neg f,if_neg f]
  simp_all [Wc,ae,xl,k]
  have iff:(s∈ [Za,jb])↔(s==jb)=true:=B.trans (by rw [ne];simp)
  by_cases q:s∈ [Za,jb]
  ·rw [if_pos q,if_pos (iff.mp q)]
  ·rw [if_neg q,if_neg λz=>q (iff.mpr z)]
def CU {j v u:Nat}(g:n<=4) (d:s∈ [Za,Jb,jb,Xh]) (f:v<2 ^ (n*n)) (i:u<2 ^ (n*n)) (e:call prog (m+1) "_law_bounds" [.v (.int (n:Int)),.v (.ref r),.v x] h= .ok (.v (aY v u)) h):call prog (m+2) "_law_fact" [.v (.int (n:Int)),.v (.ref r),.v (.tup [.str s,.int (j:Int),x])] h= .ok (.v (aH (wK s j (Zh n v s) (Zh n u s)))) h:=by
 have z:=m2 (j:=j) g d f i e
 rw [Gb rfl _ _ _ rfl]
 simp only [bq]at z ⊢
 show Gq _ (execs _ _ [k0 _,k0 _,k0 _,y0,y0,y0,y0,y0] h)=_
 have c:=by
  have: ∀s∈ [Za,Jb,jb,Xh],(s==Jf)=k9/\(s==jN)=false:=by decide
  exact this s d
 rw [za (τ1:=fx n r (.tup [.str s,.int j,x]) s y0 y0 y0 y0) (h1:=h) (by simp_all [ae,qf])]
 rw [ja (by rw [Gm,xR (a:=s==Jf) (b:=s==jN) (by simp_all [Wc]) (by simp_all [Wc]),R.ab,c.1,c.2];rfl),z,Ga _ _ _ rfl]
def pP {b:Bool}(c:n<=4) (a:v<2 ^ (n*n)) (f:u<2 ^ (n*n)) (e:call prog (m+1) "_law_bounds" [.v (.int (n:Int)),.v (.ref r),.v x] h= .ok (.v (aY v u)) h):call prog (m+2) "_law_fact" [.v (.int (n:Int)),.v (.ref r),.v (.tup [.str (if b then Jf else jN),x])] h= .ok (.v (aH (wK (if b then Za else Jb) b.toNat (Zh n v (if b then Za else Jb)) (Zh n u (if b then Za else Jb))))) h:=by
 cases b with
 | true=>
  have z:=m2 (s:=Za) (j:=1) c (by decide) a f e
  rw [Gb rfl _ _ _ rfl]
  simp only [bq]at z ⊢
  show Gq _ (execs _ _ [k0 _,k0 _,k0 (.v (.tup [.str Jf,x])),y0,y0,y0,y0,y0] h)=_
  rw [za (τ1:=fx n r (.tup [.str Jf,x]) Jf y0 y0 y0 y0) (h1:=h) (by simp_all [ae,qf])]
  rw [za (τ1:=fx n r (.tup [.str Za,.int ((1:Nat):Int),x]) Za y0 y0 y0 y0) (h1:=h) rfl,z,Ga _ _ _ rfl]
  rfl
 | false=>
  have z:=m2 (s:=Jb) (j:=0) c (by decide) a f e
  rw [Gb (d:=bq) rfl _ _ _ rfl]
  simp only [bq]at z ⊢
  show Gq _ (execs _ _ [k0 _,k0 _,k0 (.v (.tup [.str jN,x])),y0,y0,y0,y0,y0] h)=_
  rw [za (τ1:=fx n r (.tup [.str jN,x]) jN y0 y0 y0 y0) (h1:=h) (by simp_all [ae,qf])]
  rw [za (τ1:=fx n r (.tup [.str Jb,.int ((0:Nat):Int),x]) Jb y0 y0 y0 y0) (h1:=h) rfl,z,Ga _ _ _ rfl]
  rfl
end
noncomputable abbrev fm (n r:Nat) (d:D) (s:Tx) (a b c:Option W):Sl:= [k0 (.v (.int (n:Int))),k0 (.v (.ref r)),k0 (.v d),k0 (.v (.str s)),a,b,c]
def ET (b) (p q) (h):Gs .mem (.v (.bl b)) (.v (.lst [aH p,aH q])) h=k0 (p==k0 b||q==k0 b):=by
 cases b<;>rcases p with _ | _ | _<;>rcases q with _ | _ | _<;>rfl
def yW (p q) (h):Gs .mem (.v .ak) (.v (.lst [aH p,aH q])) h=k0 (p==y0||q==y0):=by
 rcases p with _ | _ | _<;>rcases q with _ | _ | _<;>rfl
def IE (b) (p q:Option Bool) (c:(p==k0 b||q==k0 b)=u0):k0 b=if b then fQ p q else W9 p q:=by
 cases b<;>rcases p with _ | _ | _<;>rcases q with _ | _ | _<;>first | rfl | cases c
def Iv (b) (p q:Option Bool) (a:(p==k0 b||q==k0 b)=k9) (c:(p==y0||q==y0)=u0):y0=if b then fQ p q else W9 p q:=by
 cases b<;>rcases p with _ | _ | _<;>rcases q with _ | _ | _<;>first | rfl | exact absurd a (by decide) | exact absurd c (by decide)
def A7 (b) (p q) (a:(p==k0 b||q==k0 b)=k9) (c:(p==y0||q==y0)=k9):k0 (!b)=if b then fQ p q else W9 p q:=by
 cases b<;>rcases p with _ | _ | _<;>rcases q with _ | _ | _<;>first | rfl | exact absurd a (by decide) | exact absurd c (by decide)
section
variable {m n r:Nat}{h:AH}
def Jy (z:execs (u9 m) (match a9.body with | .cons _ r=>r | r=>r) (fm n r (.tup (.str s::ds)) s y0 y0 y0) h= .ret (.v d) h):call prog (m+1) "_law_told" [.v (.int (n:Int)),.v (.ref r),.v (.tup (.str s::ds))] h= .ok (.v d) h:=by
 rw [Gb rfl _ _ _ rfl]
 simp only [a9]at z ⊢
 show Gq _ (execs _ _ [k0 _,k0 _,k0 _,y0,y0,y0,y0] h)=_
 rw [za (τ1:=fm n r (.tup (.str s::ds)) s y0 y0 y0) (h1:=h) (by simp_all [ae,qf]),z,Ga _ _ _ rfl]
def AO (e:call prog m "_law_told" [.v (.int (n:Int)),.v (.ref r),.v x] h= .ok (.v (aH p)) h):call prog (m+1) "_law_told" [.v (.int (n:Int)),.v (.ref r),.v (.tup [.str xA,x])] h= .ok (.v (aH (p.map (!·)))) h:=by
 refine Jy ?_
 simp only [a9]
 rw [qa]
 refine(Qr (zj (s:=xA) _ rfl)).trans ?_
 rw [za (τ1:=fm n r (.tup [.str xA,x]) xA (k0 (.v (aH p))) y0 y0) (h1:=h) (by simp_all [ae,xl,e])]
 cases p with
 | none=>exact qa ((Qr rfl).trans (qa rfl))
 | some b=>
  rw [ja rfl]
  exact qa (Qa rfl (by simp_all [];rfl))
def F4 (a:call prog m "_law_told" [.v (.int (n:Int)),.v (.ref r),.v x] h= .ok (.v (aH p)) h) (b:call prog m "_law_told" [.v (.int (n:Int)),.v (.ref r),.v y] h= .ok (.v (aH q)) h):eval (u9 m) xq (fm n r d s x4 (some (.v (.lst [x,y]))) none) h= .ok (.own [aH p,aH q]) h:=by
 exact zW rfl (by assumption) (by assumption)
def vS (f:call prog m "_law_told" [.v (.int (n:Int)),.v (.ref r),.v x] h= .ok (.v (aH p)) h) (g:call prog m "_law_told" [.v (.int (n:Int)),.v (.ref r),.v y] h= .ok (.v (aH q)) h):execs (u9 m) (.cons (.ag 6 xq) (.cons (.r (.cmp .mem (.cmp .eq .v3 (.str xy)) .v6) (.cmp .eq .v3 (.str xy))) (.cons (.r (.cmp .mem .ak .v6) .ak) (.a (.ret (.cmp .ne .v3 (.str xy))))))) (fm n r d s none (some (.v (.lst [x,y]))) none) h= .ret (.v (aH (if s==xy then fQ p q else W9 p q))) h:=by
 rw [za (τ1:=fm n r d s y0 _ _) (by rw [exec,F4 f g];rfl)]
 have c:Gm (u9 m) (.cmp .mem (.cmp .eq .v3 (.str xy)) .v6) (fm n r d s y0 (k0 (.v (.lst [x,y]))) (k0 (.v (.lst [aH p,aH q])))) h= .ok (p==k0 (s==xy)||q==k0 (s==xy)) h:=by
  simp_all [Wc,ET]
 have e:Gm (u9 m) (.cmp .mem .ak .v6) (fm n r d s y0 (k0 (.v (.lst [x,y]))) (k0 (.v (.lst [aH p,aH q])))) h= .ok (p==y0||q==y0) h:=by
  simp_all [yW]
 have ne:Gs .ne (.v (.str s)) (.v (.str xy)) h=k0 (!(s==xy)):=by
  have this:=Wc s xy h
  exact congrArg (Option.map (!·)) this
 cases a:(p==k0 _||q==k0 _)with
 | true=>
  rw [Qc (w:= .v (.bl (s==xy))) (by rw [c,a]) (Qa rfl (by simp_all [Wc]))]
  rw [← IE _ p q a]
  rfl
 | false=>
  rw [ja (by rw [c,a])]
  cases b:(p==y0||q==y0)with
  | true=>
   rw [Qc (by rw [e,b]) rfl]
   rw [← Iv _ p q a b]
   rfl
  | false=>
   rw [ja (by rw [e,b]),qa (w:= .v (.bl (!(s==xy)))) (h1:=h) (Qa rfl (by simp_all [ne]))]
   rw [← A7 _ p q a b]
   rfl
def lY :Gm (u9 m) (.cmp .mem .v3 (.lst (.c (.str wu) (.str xy) (.str zb)))) (fm n r d s y0 y0 y0) h= .ok (y9 (s∈ [wu,xy,zb])) h:=by
 have:=jS s [wu,xy,zb] h
 simp only [Ab0,Ae3]at this
 simp_all [this]
def sI (b:(s==xA)=k9) (e:s∈ [wu,xy,zb]) (a:(s==zb)=k9) (c:call prog m "_law_told" [.v (.int (n:Int)),.v (.ref r),.v x] h= .ok (.v (aH p)) h) (d:call prog m "_law_told" [.v (.int (n:Int)),.v (.ref r),.v y] h= .ok (.v (aH q)) h):call prog (m+1) "_law_told" [.v (.int (n:Int)),.v (.ref r),.v (.tup [.str s,x,y])] h= .ok (.v (aH (if s==xy then fQ p q else W9 p q))) h:=by
 refine Jy ?_
 simp only [a9]
 rw [ja ((zj _ rfl).trans (by rw [b])),qa]
 refine(Qr (by rw [lY,decide_eq_true e])).trans ?_
 rw [za (τ1:=fm n r (.tup [.str s,x,y]) s y0 (k0 (.v (.lst [x,y]))) y0) (h1:=h) (by simp_all [ae,xl,xD])]
 rw [ja ((zj _ rfl).trans (by rw [a]))]
 exact vS c d
def BW (a:call prog m "_law_told" [.v (.int (n:Int)),.v (.ref r),.v (.tup [.str QF,x,y])] h= .ok (.v (aH p)) h) (b:call prog m "_law_told" [.v (.int (n:Int)),.v (.ref r),.v (.tup [.str QF,y,x])] h= .ok (.v (aH q)) h):call prog (m+1) "_law_told" [.v (.int (n:Int)),.v (.ref r),.v (.tup [.str zb,x,y])] h= .ok (.v (aH (W9 p q))) h:=by
 refine Jy ?_
 simp only [a9]
 rw [ja (zj (s:=zb) _ rfl),qa]
 refine(Qr (by rw [lY];rfl)).trans ?_
 rw [za (τ1:=fm n r (.tup [.str zb,x,y]) zb y0 (k0 (.v (.lst [x,y]))) y0) (h1:=h) (by simp_all [ae,xl,xD])]
 rw [za ((Qr (zj (s:=zb) _ rfl)).trans (by
  rw [za (τ1:=fm n r (.tup [.str zb,x,y]) zb y0 (k0 (.v (.lst [.tup [.str QF,x,y],.tup [.str QF,y,x]]))) y0) (h1:=h) (by simp_all [ae,xl,xD]),execs]))]
 exact vS a b
def nF (a:call prog (m+1) "_law_bounds" [.v (.int (n:Int)),.v (.ref r),.v x] h= .ok (.v (aY v u)) h) (b:call prog (m+1) "_law_bounds" [.v (.int (n:Int)),.v (.ref r),.v y] h= .ok (.v (aY v' u')) h):call prog (m+2) "_law_told" [.v (.int (n:Int)),.v (.ref r),.v (.tup [.str QF,x,y])] h= .ok (.v (aH (dU v u v' u'))) h:=by
 refine Jy ?_
 simp only [a9]
 rw [ja (zj (s:=QF) _ rfl),ja (by rw [lY];rfl),Qc (w:= .v (aH (dU v u v' u'))) (zj (s:=QF) _ rfl) (Qa rfl (by simp_all [ae,xl,xD,a,b,ED]))]
def Q2 (h1:(s==xA)=k9) (b:s∉ [wu,xy,zb]) (a:(s==QF)=k9) (e:call prog m "_law_fact" [.v (.int (n:Int)),.v (.ref r),.v (.tup (.str s::ds))] h= .ok (.v d) h):call prog (m+1) "_law_told" [.v (.int (n:Int)),.v (.ref r),.v (.tup (.str s::ds))] h= .ok (.v d) h:=by
 refine Jy ?_
 simp only [a9]
 rw [ja ((zj _ rfl).trans (by rw [h1])),ja (by rw [lY,decide_eq_false b]),ja ((zj _ rfl).trans (by rw [a])),qa (w:= .v d) (h1:=h) (Qa rfl (by assumption))]
end
def JO (P:Dc a b f r h): ∀ s m,s.dp+8<=m->s.wf (a.K++a.T)-> ∃q,Td a b s q/\call prog m "_law_told" [.v (.int (a.n:Int)),.v (.ref r),.v (aM s)] h= .ok (.v (aH q)) h:=by
 have n4:=P.n4
 intro s
 induction s with
 | fact f=>
  intro m c wf
  simp only [Sy.dp]at c
  cases f with
  | eG x y=>
   simp only [Fc.dp]at c
   obtain⟨k,rfl⟩: ∃k,m=k+2:=⟨m-2,by lia⟩
   obtain⟨v,u,q,e⟩:=Jj P x (k+1) (by lia) wf.1
   obtain⟨w,o,l,d⟩:=Jj P y (k+1) (by lia) wf.2
   exact⟨_,⟨v,u,w,o,q,l,rfl⟩,nF e d⟩
  | fc x y=>
   simp only [Fc.dp]at c
   obtain⟨k,rfl⟩: ∃k,m=k+3:=⟨m-3,by lia⟩
   obtain⟨v,u,q,e⟩:=Jj P x (k+1) (by lia) wf.1
   obtain⟨w,o,l,d⟩:=Jj P y (k+1) (by lia) wf.2
   exact⟨_,⟨v,u,w,o,q,l,rfl⟩,BW (nF e d) (nF d e)⟩
  | fh x=>
   simp only [Fc.dp]at c
   obtain⟨k,rfl⟩: ∃k,m=k+3:=⟨m-3,by lia⟩
   obtain⟨v,u,q,e⟩:=Jj P x (k+1) (by lia) wf
   exact⟨_,⟨v,u,q,rfl⟩,Q2 rfl (by decide) rfl (pP (b:=u0) n4 q.lo.1 q.hi.1 e)⟩
  | ak x=>
   simp only [Fc.dp]at c
   obtain⟨k,rfl⟩: ∃k,m=k+3:=⟨m-3,by lia⟩
   obtain⟨v,u,q,e⟩:=Jj P x (k+1) (by lia) wf
   exact⟨_,⟨v,u,q,rfl⟩,Q2 rfl (by decide) rfl (pP (b:=k9) n4 q.lo.1 q.hi.1 e)⟩
  | cnt s j x=>
   simp only [Fc.dp]at c
   obtain⟨k,rfl⟩: ∃k,m=k+3:=⟨m-3,by lia⟩
   obtain⟨v,u,q,e⟩:=Jj P x (k+1) (by lia) wf.2
   have z: ∀s∈ [Za,Jb,jb,Xh],(s==xA)=k9/\s∉ [wu,xy,zb]/\(s==QF)=false:=by decide
   obtain⟨A,D,B⟩:=z s wf.1
   exact⟨_,⟨v,u,q,rfl⟩,Q2 A D B (CU n4 wf.1 q.lo.1 q.hi.1 e)⟩
 | neg x C=>
  intro m c wf
  simp only [Sy.dp]at c
  obtain⟨k,rfl⟩: ∃k,m=k+1:=⟨m-1,by lia⟩
  obtain⟨q,t,e⟩:=C k (by lia) wf
  exact⟨_,⟨q,t,rfl⟩,AO e⟩
 | du x y g i=>
  intro m c wf
  simp only [Sy.dp]at c
  obtain⟨k,rfl⟩: ∃k,m=k+1:=⟨m-1,by lia⟩
  obtain⟨p,t,e⟩:=g k (by lia) wf.1
  obtain⟨q,n,d⟩:=i k (by lia) wf.2
  exact⟨_,⟨p,q,t,n,rfl⟩,sI (s:=wu) rfl (by decide) rfl e d⟩
 | dh x y g i=>
  intro m c wf
  simp only [Sy.dp]at c
  obtain⟨k,rfl⟩: ∃k,m=k+1:=⟨m-1,by lia⟩
  obtain⟨p,t,e⟩:=g k (by lia) wf.1
  obtain⟨q,n,d⟩:=i k (by lia) wf.2
  exact⟨_,⟨p,q,t,n,rfl⟩,sI (s:=xy) rfl (by decide) rfl e d⟩
abbrev af (ns:List Int) (i:Nat) (v:Int):Cell:= .lst [.lst (ns.map .int),.int (i:Int),.int v]
def uZ:Gj .pow 10 18=k0 1000000000000000000:=by
 have:(0:Int)<=18/\ 18<=BP/\(10:Int).natAbs<kb:=by rw [G6,GE];decide
 show(if _ then _ else _)=_
 rw [if_pos this]
 rfl
def Hf (v)(e:eval F (.ix .v0 (.int 2)) τ h= .ok (.v (.int v)) h):Gm F (.not (.chain .le .lt (.int 0) (.ix .v0 (.int 2)) (.bin .pow (.int 10) (.int 18)))) τ h= .ok (!(y9 (0<=v)&&y9 (v<1000000000000000000))) h:=by
 rw [Gm,eval]
 rw [show eval F _ τ h= .ok (.v (.bl (y9 (0<=v)&&y9 (v<1000000000000000000)))) h by
  rw [eval,eval,R.ab,e,R.ab]
  by_cases q: 0<=v
  ·simp_all [qu,Xv,uZ,q,decide_true,Ad9]
  ·simp_all [qu,q,decide_false,Af0]]
 simp_all []
def wd (k:Nat){ns:List Int}{i:Nat}{v:Int}{h:AH}{r m:Nat}(e:h[r]? =k0 (af ns i v)) (G:0<m) (E:m<1073741824):
 ∃(d:Nat) (o:Int),d<m/\call prog (k+1) "_law_draw" [.v (.ref r),.v (.int (m:Int))] h= .ok (.v (.int (d:Int))) (h.set r (af ns i o)):=by
 rw [Gb (d:=zB) rfl _ _ _ rfl]
 have a:(0:Int)<(m:Int):=by omega
 have s:r<h.length:=(Aa1.mp e).1
 have i2:eval (u9 k) (.ix .v0 (.int 2)) [k0 (.v (.ref r)),k0 (.v (.int (m:Int))),y0] h= .ok (.v (.int v)) h:=by simp_all [jq e,Q4]
 have j:=Hf v i2
 show ∃d o,_/\Gq _ (execs _ _ [k0 (.v (.ref r)),k0 (.v (.int (m:Int))),y0] h)=_
 simp only [zB]
 have g: ∀x:Int,∃d:Nat,d<m/\x % (m:Int)=(d:Int):=λx=>⟨(x % (m:Int)).toNat,by have:=Ao3 x a;have:=An4 x (Int.ne_of_gt a);omega,by have:=An4 x (Int.ne_of_gt a);omega⟩
 cases c:(y9 (0<=v)&&y9 (v<1000000000000000000))with
 | false=>
  obtain⟨d,b,f⟩:=g v
  refine⟨d,v / (m:Int),b,?_⟩
  have q:dA .divmod [.v (.int v),.v (.int (m:Int))] h=aD (.tup [.int (v / (m:Int)),.int (d:Int)]) h:=by
   rw [Z9,if_pos ⟨a,by rw [GS];omega⟩,f]
  rw [qa (w:= .v (.int (d:Int))) (h1:=h.set r (af ns i (v / (m:Int))))]
  ·exact Ga _ h _ (by rw [Ad2])
  refine(Qr (h1:=h) (by rw [j,c];rfl)).trans ?_
  rw [za (τ1:= [k0 (.v (.ref r)),k0 (.v (.int (m:Int))),k0 (.v (.int (d:Int)))]) (h1:=h.set r (af ns i (v / (m:Int)))) (by
   rw [exec,show eval (u9 k) (.bi .divmod (.b (.ix .v0 (.int 2)) .v1)) [k0 (.v (.ref r)),k0 (.v (.int (m:Int))),y0] h=aD (.tup [.int (v / (m:Int)),.int (d:Int)]) h by simp_all [jq e,Q4,q]]
   simp_all [aD,fq,Kj,e,EH,GI,if_true]
   rfl)]
  exact qa rfl
 | true=>
  rw [Aa0,decide_eq_true_eq,decide_eq_true_eq]at c
  have p:Gj .mul v 742939=k0 (v*742939):=w9 _ _ (by decide)
  have z:Gj .mul (i:Int) 65063=k0 ((i:Int)*65063):=w9 _ _ (by decide)
  have l:Gj .mod (v*742939+(i:Int)*65063+40503) 16777213=k0 ((v*742939+(i:Int)*65063+40503) % 16777213):=ZH _ _ (by decide)
  have t:=An4 (v*742939+(i:Int)*65063+40503) (show (16777213:Int)≠0 by decide)
  have y:=Ao3 (v*742939+(i:Int)*65063+40503) (show (0:Int)<16777213 by decide)
  generalize C:(v*742939+(i:Int)*65063+40503) % 16777213=w at l t y
  have i1:eval (u9 k) (.ix .v0 (.int 1)) [k0 (.v (.ref r)),k0 (.v (.int (m:Int))),y0] h= .ok (.v (.int (i:Int))) h:=by simp_all [jq e,Q0]
  have e2:(h.set r (af ns i w))[r]? =k0 (af ns i w):=Ab4 s
  obtain⟨d,b,f⟩:=g (w*(w % 4093+7) / 64)
  refine⟨d,w,b,?_⟩
  rw [ja (by rw [j,decide_eq_true c.1,decide_eq_true c.2];rfl)]
  rw [za (τ1:= [k0 (.v (.ref r)),k0 (.v (.int (m:Int))),y0]) (h1:=h.set r (af ns i w)) (zx (d:= .int w) (xs:= [.lst (ns.map .int),.int (i:Int),.int v]) (n:=2) (by
   simp_all [jq e,Q0,Q4,p,z,zc,l]) rfl e rfl rfl rfl)]
  have F:=An4 w (show (4093:Int)≠0 by decide)
  have D:=Ao3 w (show (0:Int)<4093 by decide)
  have u:Gj .mod w 4093=k0 (w % 4093):=ZH _ _ (by decide)
  have B:Gj .mul w (w % 4093+7)=k0 (w*(w % 4093+7)):=w9 _ _ (by omega)
  have A:Gj .fdiv (w*(w % 4093+7)) 64=k0 (w*(w % 4093+7) / 64):=Q9 _ _ (by decide) (by decide)
  have n4:Gj .mod (w*(w % 4093+7) / 64) (m:Int)=k0 ((d:Nat):Int):=by rw [ZH _ _ a,f]
  rw [qa (w:= .v (.int (d:Int))) (h1:=h.set r (af ns i w)) (Qa rfl (by simp_all [jq e2,Q4,u,zc,B,A,n4]))]
  exact Ga _ h _ (by rw [Ad2])
def vd {ns:List Int}(b:ns.length<=63) (q:eval F e τ h= .ok (.v (.lst (ns.map .int))) h): ∃s,eval F (.bi .sum (.a (.di e (.int j)))) τ h= .ok (.v (.int s)) h:=by
 have a:(cut ns y0 (k0 j)).length<=ba:=by
  have:=yB ns y0 (k0 j)
  rw [Gg];lia
 refine⟨(cut ns y0 (k0 j)).sum,?_⟩
 simp_all [q,oK,Ds,rk,XW,Aa,a,if_true]
def Cr (k) (ns:List Int) (a:ns.length<=63) (h): ∃v,call prog (k+1) "_law_start" [.v (.lst (ns.map .int))] h= .ok (.own [.lst (ns.map .int),.int ((0:Nat):Int),.int v]) h:=by
 show ∃v,Gq _ (execs _ _ [k0 _] h)=_
 obtain⟨s,e⟩:=vd (F:=(u9 k)) (e:= .var 0) (τ:= [k0 (.v (.lst (ns.map .int)))]) (h:=h) a (by simp_all [])
 refine⟨s,?_⟩
 simp only [zH]
 rw [qa (w:= .own [.lst (ns.map .int),.int (0:Nat),.int s]) (h1:=h) (zA rfl (by
  generalize E.bi .sum _=X at e ⊢
  simp_all [e]
  rfl)),Gx _ _ _ rfl]
def lX (k)(m:ns.length<=63) (e:h[r]? =k0 (af ns i v)):
 ∃v':Int,call prog (k+1) "_law_turn" [.v (.ref r)] h= .ok (.v .ak) (h.set r (af ns (i+1) v')):=by
 rw [Gb rfl _ _ _ rfl]
 have g:r<h.length:=(Aa1.mp e).1
 have e1:(h.set r (af ns (i+1) v))[r]? =k0 _:=Ab4 g
 show ∃v',Gq _ (execs _ _ [k0 _] h)=_
 simp only [JL]
 obtain⟨s,c⟩:=vd (F:=(u9 k)) (e:= .ix .v0 (.int 0)) (τ:= [k0 (.v (.ref r))]) (h:=h.set r (af ns (i+1) v)) m (by simp_all [jq e1,mD])
 have l:Gj .mul 7 _=k0 (7*((i+1:Nat):Int)):=Cz _ _ (by decide)
 have o: ∀x:Int,Gj .mod x 16777213=k0 _:=λx=>ZH _ _ (by decide)
 have a: ∀x y,(h.set r (af ns (i+1) x)).set r _=h.set r (af ns (i+1) y):=λx y=>Ac3 ..
 have i1:((i:Int)+1)=((i+1:Nat):Int):=rfl
 generalize j:(7*((i+1:Nat):Int)+s) % 16777213=w
 have e2:(h.set r (af ns (i+1) w))[r]? =k0 _:=Ab4 g
 rw [za (h1:=h.set r (af ns (i+1) v)) (zx (by simp_all [jq e,Q0,zc,i1]) rfl e rfl rfl rfl)]
 rw [za (zx (by
  generalize E.bi .sum (.a (.di (.ix .v0 (.int 0)) (.int 9)))=X at c ⊢
  simp_all [c,jq e1,Q0,l,zc,o,j]) rfl e1 rfl rfl (a v w).symm)]
 have f:Gm (u9 k) (.cmp .lt (.ix .v0 (.int 1)) (.bi .len (.a (.ix .v0 (.int 0))))) [k0 (.v (.ref r))] (h.set r (af ns (i+1) w))= .ok (y9 (i+1<ns.length)) (h.set r (af ns (i+1) w)):=by
  have:(y9 (((i+1:Nat):Int)<(ns.length:Int)))=y9 (i+1<ns.length):=decide_eq_decide.mpr (by omega)
  simp_all [jq e2,Q0,mD,wv,aD,Aa,Xv,this]
 by_cases q:i+1<ns.length
 ·refine⟨ns[i+1],?_⟩
  have b:aW (ns.map D.int) ((i+1:Nat):Int)=k0 (.int ns[i+1]):=by
   rw [zg _ _ (by rw [Aa];exact q),Ac2,Aa3 q];rfl
  rw [za ((Qr (h1:=h.set r (af ns (i+1) w)) (by rw [f,decide_eq_true q])).trans (by
   rw [za (τ1:= [k0 (.v (.ref r))]) (h1:=h.set r (af ns (i+1) ns[i+1])) (zx (d:= .int ns[i+1]) (xs:= [.lst (ns.map .int),.int ((i+1:Nat):Int),.int w]) (n:=2) (by
    simp_all [jq e2,mD,Q0,xr,b]) rfl e2 rfl rfl (a w _).symm),execs]))]
  rw [execs]
  exact GA _ h _ (by rw [Ad2])
 ·refine⟨w,?_⟩
  rw [ja (by rw [f,decide_eq_false q]),execs]
  exact GA _ h _ (by rw [Ad2])
def V.uniq (h:V n v g) (q:V n w g):v=w:=Wf.ec h.lt q.lt λk a=>by
 have b:=h.2 _ _ (Wf.bh a) (Wf.a8 a)
 have c:=q.2 _ _ (Wf.bh a) (Wf.a8 a)
 rw [Wf.bB]at b c
 rw [An1,b,c]
theorem B.uniq (h:B a b e v u) (q:B a b e v' u'):v=v'/\u=u':=⟨h.lo.uniq q.lo,h.hi.uniq q.hi⟩
theorem gk.uniq (h:gk a b f p) (k:gk a b f q):p=q:=by
 cases f with
 | eG x y=>
  obtain⟨v,u,n,m,d,g,rfl⟩:=h
  obtain⟨w,t,i,l,c,e,rfl⟩:=k
  obtain⟨rfl,rfl⟩:=d.uniq c
  obtain⟨rfl,rfl⟩:=g.uniq e
  rfl
 | fc x y=>
  obtain⟨v,u,n,m,d,g,rfl⟩:=h
  obtain⟨w,t,i,l,c,e,rfl⟩:=k
  obtain⟨rfl,rfl⟩:=d.uniq c
  obtain⟨rfl,rfl⟩:=g.uniq e
  rfl
 | fh x=>
  obtain⟨v,u,d,rfl⟩:=h
  obtain⟨w,t,c,rfl⟩:=k
  obtain⟨rfl,rfl⟩:=d.uniq c
  rfl
 | ak x=>
  obtain⟨v,u,d,rfl⟩:=h
  obtain⟨w,t,c,rfl⟩:=k
  obtain⟨rfl,rfl⟩:=d.uniq c
  rfl
 | cnt s j x=>
  obtain⟨v,u,d,rfl⟩:=h
  obtain⟨w,t,c,rfl⟩:=k
  obtain⟨rfl,rfl⟩:=d.uniq c
  rfl
theorem Td.uniq : ∀ {s}{p q},Td a b s p->Td a b s q->p=q
 | .fact _,_,_,h,k=>gk.uniq h k
 | .neg _,_,_,⟨p,h,e⟩,⟨q,k,c⟩=>by rw [e,c,Td.uniq h k]
 | .du _ _,_,_,⟨p,q,h,d,e⟩,⟨g,i,k,f,c⟩=>by rw [e,c,Td.uniq h k,Td.uniq d f]
 | .dh _ _,_,_,⟨p,q,h,d,e⟩,⟨g,i,k,f,c⟩=>by rw [e,c,Td.uniq h k,Td.uniq d f]
theorem oJ : ∀ {N},((aF N f).lookup t).isSome=y9 (t∈N)
 | []=>rfl
 | y::N=>by
  show(Ai7 t ((y,_)::aF N f)).isSome=_
  rw [Ab5]
  by_cases e:t=y
  ·subst e;rw [beq_self_eq_true,decide_eq_true Aa7];rfl
  ·rw [beq_eq_false_iff_ne.mpr e]
   rw [oJ]
   exact decide_eq_decide.mpr ⟨Aa4 _,λh=>(Ac1.mp h).resolve_left e⟩
def Qz (f:Tx->Nat×Nat) (t:Tx) (p:Nat×Nat):Tx->Nat×Nat:=λx=>if x=t then p else f x
def t9 (h:t∈N):GG (aF N f) t (aY p.1 p.2)=aF N (Qz f t p):=by
 unfold GG aF
 rw [if_pos (Ad0.mpr ⟨_,Ab8.mpr ⟨t,h,rfl⟩,by simp⟩)]
 rw [Ad1]
 refine Ai λx a=> ?_
 show(if x=t then(x,aY p.1 p.2)else(x,aY (f x).1 (f x).2))=(x,aY (Qz f t p x).1 (Qz f t p x).2)
 unfold Qz
 by_cases e:x=t
 ·rw [if_pos e,if_pos e]
 ·rw [if_neg e,if_neg e]
def Zw (k) (d) (h) (a:Gc d=u0):call prog (k+1) "_law_whole" [.v d] h= .ok (.v (.bl (Qj d))) h:=by
 cases d<;>first | exact Ga _ _ _ rfl | cases a
noncomputable abbrev eM (n r:Nat) (g dn f b:D) (c h d e a:Option W):Sl:= [k0 (.v (.int (n:Int))),k0 (.v (.ref r)),k0 (.v g),k0 (.v dn),k0 (.v f),k0 (.v b),c,h,d,e,a]
def xm (e:h[r]? =k0 (.aG ks)):GT h (k0 (.v (.ref r)))=k0 (r,ks):=by unfold GT;simp [e]
def XG (v p:Nat):Gj .band (v:Int) ((2 ^ p:Nat):Int)=k0 ((if v.testBit p then 2 ^ p else 0:Nat):Int):=by
 rw [zd,Qd]
 congr 2
 refine Aj3 λk=> ?_
 rw [Ah7,Ad3]
 by_cases e:p=k
 ·subst e
  rw [decide_eq_true rfl,Bool.and_true]
  cases v.testBit p with
  | true=>rw [if_pos rfl,Nat.testBit_two_pow_self]
  | false=>rw [if_neg Ab2,Af9]
 ·rw [decide_eq_false e,An9]
  cases v.testBit p with
  | true=>rw [if_pos rfl,Ad3,decide_eq_false e]
  | false=>rw [if_neg Ab2,Af9]
def zO (k:Nat){t:Tx}{a b:Nat}(e:h[r]? =k0 (.aG (aF N f))) (C:n<=4) (g:t∈N) (hN:N.length<=100) (l:a<n) (q:b<n) (v:(f t).1.testBit (a*n+b)=k9) (i:(f t).2.testBit (a*n+b)=u0):
 call prog (k+2) "_law_split" [.v (.int (n:Int)),.v (.ref r),.v (.tup [.str t,.int (a:Int),.int (b:Int)])] h= .ok (.own [.ref h.length,.ref (h.length+1)]) (h++ [.aG (aF N (Qz f t ((f t).1 ||| 2 ^ (a*n+b),(f t).2))),.aG (aF N (Qz f t ((f t).1,(f t).2-2 ^ (a*n+b))))]):=by
 rw [Gb (d:=br) rfl _ _ _ rfl]
 have S:r<h.length:=(Aa1.mp e).1
 have s:a*n+b<16:=by
  have:=Wf.place_lt l q
  have:n*n<=16:=Ae2 C C
  omega
 have ge:2 ^ _<=(f t).2:=Nat.ge_two_pow_of_testBit i
 generalize V:a*n+b=p at v i s ge ⊢
 have F:(aF N f).length<ba:=by rw [Gg,aF,Aa];omega
 generalize P:(f t).1=A at v ⊢
 generalize J:(f t).2=c at i ge ⊢
 have B:aF N _=GG (aF N f) t _:=(t9 (p:=(A ||| 2 ^ p,c)) g).symm
 have dB:aF N _=GG (aF N f) t _:=(t9 (p:=(A,c-2 ^ p)) g).symm
 have u:(aF N f).lookup t=k0 (aY A c):=by rw [mQ g,P,J]
 show Gq _ _=_
 simp only [br]
 have dd:=xm e
 rw [za (τ1:=eM n r (.tup [.str t,.int (a:Int),.int (b:Int)]) (.str t) (.int (a:Int)) (.int (b:Int)) y0 y0 y0 y0 y0) (h1:=h) (by simp_all [])]
 have L:cg u0 (.v (.str t)) (k0 (r,aF N f)) h= .ok (.v (.bl k9)) h:=by
  unfold cg
  simp only [oJ,decide_eq_true g,if_true]
  rfl
 have O:=Zw k (.int (a:Int)) h rfl
 have X:=Zw k (.int (b:Int)) h rfl
 have y:cq .str (.v (.str t))=k0 true:=rfl
 rw [ja (by simp_all [y,dd,L,O,X,Qj])]
 have j: ∀x:Nat,x<n->((0:Int)<=(x:Int)/\(x:Int)<(n:Int)):=λx hx=>by omega
 rw [ja (by simp_all [qu,Xv,decide_eq_true (j a l).1,decide_eq_true (j a l).2,decide_eq_true (j b q).1,decide_eq_true (j b q).2,aD])]
 have dg:ea (.v (.str t)) (k0 (r,aF N f)) h= .ok (.v (aY A c)) h:=by unfold ea;simp only [u]
 rw [za (τ1:=eM n r (.tup [.str t,.int (a:Int),.int (b:Int)]) (.str t) (.int (a:Int)) (.int (b:Int)) (k0 (.v (.int (A:Int)))) (k0 (.v (.int (c:Int)))) y0 y0 y0) (h1:=h) (by simp_all [dd,dg])]
 have Q:Gj .mul (a:Int) (n:Int)=k0 ((a*n:Nat):Int):=Jc a n (by omega)
 have R:(((a*n:Nat):Int)+(b:Int))=((p:Nat):Int):=by rw [← V];rfl
 have Z:=zT p (by omega)
 rw [za (τ1:=eM n r (.tup [.str t,.int (a:Int),.int (b:Int)]) (.str t) (.int (a:Int)) (.int (b:Int)) (k0 (.v (.int (A:Int)))) (k0 (.v (.int (c:Int)))) (k0 (.v (.int ((2 ^ p:Nat):Int)))) y0 y0) (h1:=h) (by simp_all [Q,zc,R,Z])]
 have D:=XG A p
 have E:=XG c p
 rw [v,if_neg Ab2]at D
 rw [i,if_pos rfl]at E
 have p0:0<2 ^ p:=Ac6 p
 have T:Gs .ne (.v (.int ((0:Nat):Int))) (.v (.int 0)) h=k0 false:=rfl
 have H:Gs .eq (.v (.int ((2 ^ p:Nat):Int))) (.v (.int 0)) h=k0 false:=by
  have:=zi (2 ^ p) 0 h
  rw [decide_eq_false (by omega)]at this
  exact this
 rw [ja (by simp_all [D,E,T,H])]
 have Y:((c:Int)-((2 ^ p:Nat):Int))=((c-2 ^ p:Nat):Int):=by omega
 have g1:(h++ [Cell.aG (aF N f)])[h.length]? =k0 (.aG (aF N f)):=by simp
 have o:(h++ [Cell.aG (aF N f)]).set h.length (.aG (GG (aF N f) t (aY (A ||| 2 ^ p) c)))=h++ [.aG (GG (aF N f) t (aY (A ||| 2 ^ p) c))]:=by simp
 have M:Gc (aY (A ||| 2 ^ p) c)=true:=rfl
 have z:Gc (aY A (c-2 ^ p))=true:=rfl
 rw [za (τ1:=eM n r (.tup [.str t,.int (a:Int),.int (b:Int)]) (.str t) (.int (a:Int)) (.int (b:Int)) (k0 (.v (.int (A:Int)))) (k0 (.v (.int (c:Int)))) (k0 (.v (.int ((2 ^ p:Nat):Int)))) (k0 (.v (.ref h.length))) y0) (h1:=h++ [.aG (aF N f)]) (by simp_all [dd,aD])]
 rw [za (τ1:=eM n r (.tup [.str t,.int (a:Int),.int (b:Int)]) (.str t) (.int (a:Int)) (.int (b:Int)) (k0 (.v (.int (A:Int)))) (k0 (.v (.int (c:Int)))) (k0 (.v (.int ((2 ^ p:Nat):Int)))) (k0 (.v (.ref h.length))) y0) (h1:=h++ [.aG (GG (aF N f) t (aY (A ||| 2 ^ p) c))]) (by
  simp_all [Jq,Xn,xm g1,aD]
  rw [if_pos ⟨F,M⟩,o])]
 have G:(h++ [Cell.aG (GG (aF N f) t (aY (A ||| 2 ^ p) c))])[r]? =k0 (.aG (aF N f)):=by rw [Ac9 S,e]
 generalize GG (aF N f) t (aY (A ||| 2 ^ p) c)=U at G B ⊢
 have K:(h++ [Cell.aG U]++ [Cell.aG (aF N f)])[h.length+1]? =k0 (.aG (aF N f)):=by simp
 have m:(h++ [Cell.aG U]++ [Cell.aG (aF N f)]).set (h.length+1) (.aG (GG (aF N f) t (aY A (c-2 ^ p))))=h++ [Cell.aG U,.aG (GG (aF N f) t (aY A (c-2 ^ p)))]:=by simp [List.set_append]
 have I:(h++ [Cell.aG U]).length=h.length+1:=by simp
 rw [za (τ1:=eM n r (.tup [.str t,.int (a:Int),.int (b:Int)]) (.str t) (.int (a:Int)) (.int (b:Int)) (k0 (.v (.int (A:Int)))) (k0 (.v (.int (c:Int)))) (k0 (.v (.int ((2 ^ p:Nat):Int)))) (k0 (.v (.ref h.length))) (k0 (.v (.ref (h.length+1))))) (h1:=h++ [.aG U]++ [.aG (aF N f)]) (by simp_all [xm G,aD,I])]
 rw [za (τ1:=eM n r (.tup [.str t,.int (a:Int),.int (b:Int)]) (.str t) (.int (a:Int)) (.int (b:Int)) (k0 (.v (.int (A:Int)))) (k0 (.v (.int (c:Int)))) (k0 (.v (.int ((2 ^ p:Nat):Int)))) (k0 (.v (.ref h.length))) (k0 (.v (.ref (h.length+1))))) (h1:=h++ [.aG U,.aG (GG (aF N f) t (aY A (c-2 ^ p)))]) (by
  simp_all [zf,Y,xm K,aD]
  rw [if_pos ⟨F,z⟩,m])]
 rw [qa (w:= .own [.ref h.length,.ref (h.length+1)]) (h1:=h++ [.aG U,.aG (GG (aF N f) t (aY A (c-2 ^ p)))]) (zA rfl (by simp_all [])),B,dB]
 show fin h.length (.own [.ref h.length,.ref (h.length+1)]) _=_
 unfold fin
 rw [if_neg (by simp),if_neg (by simp [W.keep])]
def ni (n:Nat) (N:List Tx) (f:Tx->Nat×Nat) (dn d c:D):Prop:= ∃t a b,dn= .str t/\d= .int ((a:Nat):Int)/\c= .int ((b:Nat):Int)/\t∈N/\a<n/\b<n/\(f t).1.testBit (a*n+b)=k9/\(f t).2.testBit (a*n+b)=u0
def W7 (k)(z:execs (u9 (k+1)) (match br.body with | .cons _ r=>r | r=>r) (eM n r (.tup [dn,da,db]) dn da db y0 y0 y0 y0 y0) h= .ret (.v .ak) h):call prog (k+2) "_law_split" [.v (.int (n:Int)),.v (.ref r),.v (.tup [dn,da,db])] h= .ok (.v .ak) h:=by
 show Gq _ (execs _ _ [k0 _,k0 _,k0 _,y0,y0,y0,y0,y0,y0,y0,y0] h)=_
 simp only [br]at z ⊢
 rw [za (τ1:=eM n r (.tup [dn,da,db]) dn da db y0 y0 y0 y0 y0) (h1:=h) (by simp_all []),z,Ga _ _ _ rfl]
def CP (k:Nat)(e:h[r]? =k0 (.aG (aF N f))) (C:n<=4) (v:Gc dn=u0) (u:Gc da=u0) (w:Gc db=u0) (M: ¬ni n N f dn da db):call prog (k+2) "_law_split" [.v (.int (n:Int)),.v (.ref r),.v (.tup [dn,da,db])] h= .ok (.v .ak) h:=by
 refine W7 k ?_
 have dd:=xm e
 have l:=Zw k da h u
 have o:=Zw k db h w
 simp only [br]
 have d:(∀ t,dn≠ .str t)->cq .str (.v dn)=k0 false:=λz=>by
  cases dn with
  | str t=>exact absurd rfl (z t)
  | ref _=>cases v
  | exc _ _=>cases v
  | err _ _ _=>cases v
  | _=>rfl
 by_cases F: ∃t,dn= .str t
 ·obtain⟨t,rfl⟩:=F
  have c:cq .str (.v (.str t))=k0 true:=rfl
  have j:cg u0 (.v (.str t)) (k0 (r,aF N f)) h= .ok (.v (.bl (!y9 (t∈N)))) h:=by
   unfold cg
   simp only [oJ,if_true]
  by_cases p:t∈N
  ·rw [decide_eq_true p]at j
   by_cases g:Qj da=u0
   ·by_cases m:Qj db=u0
    ·rw [g]at l
     rw [m]at o
     obtain⟨a,rfl⟩: ∃a,da= .int a:=by cases da<;>first | exact⟨_,rfl⟩ | cases g
     obtain⟨b,rfl⟩: ∃b,db= .int b:=by cases db<;>first | exact⟨_,rfl⟩ | cases m
     rw [ja (by simp_all [c,dd,j,l,o])]
     have H: ∀(i:Nat) (x:Int),Gk _ i=k0 (.v (.int x))->eval (u9 _) (.not (.chain .le .lt (.int 0) (.var i) .v0)) _ h= .ok (.v (.bl (!(y9 (0<=x)&&y9 (x<(n:Int)))))) h:=λi x rd=>by
      rw [eval]
      rw [show eval (u9 (k+1)) _ (eM n r (.tup [.str t,.int a,.int b]) (.str t) (.int a) (.int b) y0 y0 y0 y0 y0) h= .ok (.v (.bl (y9 (0<=x)&&y9 (x<(n:Int))))) h by
       rw [eval,eval,R.ab,eval,rd,R.ab]
       by_cases q:(0:Int)<=x
       ·simp_all [qu,Xv,aD,q,decide_true,Ad9]
       ·simp_all [qu,Xv,aD,q,decide_false,Af0]]
      simp_all []
     have A:Gm (u9 (k+1)) (.or (.not (.chain .le .lt (.int 0) .v4 .v0)) (.not (.chain .le .lt (.int 0) .v5 .v0))) (eM n r (.tup [.str t,.int a,.int b]) (.str t) (.int a) (.int b) y0 y0 y0 y0 y0) h= .ok (!(y9 (0<=a)&&y9 (a<(n:Int)))|| !(y9 (0<=b)&&y9 (b<(n:Int)))) h:=by
      rw [Gm,xR (H 4 a rfl) (H 5 b rfl),R.ab];rfl
     by_cases G:(0<=a/\a<(n:Int))/\(0<=b/\b<(n:Int))
     ·obtain⟨⟨E,Q⟩,D,P⟩:=G
      obtain⟨a,rfl⟩:=Af2 E
      obtain⟨b,rfl⟩:=Af2 D
      rw [ja (by rw [A,decide_eq_true E,decide_eq_true Q,decide_eq_true D,decide_eq_true P];rfl)]
      have dg:ea (.v (.str t)) (k0 (r,aF N f)) h= .ok (.v (aY (f t).1 (f t).2)) h:=by unfold ea;simp only [mQ p]
      rw [za (τ1:=eM n r (.tup [.str t,.int (a:Int),.int (b:Int)]) (.str t) (.int (a:Int)) (.int (b:Int)) (k0 (.v (.int ((f t).1:Int)))) (k0 (.v (.int ((f t).2:Int)))) y0 y0 y0) (h1:=h) (by simp_all [dd,dg])]
      have y:a<n:=by omega
      have B:b<n:=by omega
      have O:a*n+b<16:=by
       have:=Wf.place_lt y B
       have:n*n<=16:=Ae2 C C
       omega
      have T:Gj .mul (a:Int) (n:Int)=k0 ((a*n:Nat):Int):=Jc a n (by omega)
      have L:(((a*n:Nat):Int)+(b:Int))=((a*n+b:Nat):Int):=rfl
      have S:=zT (a*n+b) (by omega)
      rw [za (τ1:=eM n r (.tup [.str t,.int (a:Int),.int (b:Int)]) (.str t) (.int (a:Int)) (.int (b:Int)) (k0 (.v (.int ((f t).1:Int)))) (k0 (.v (.int ((f t).2:Int)))) (k0 (.v (.int ((2 ^ (a*n+b):Nat):Int)))) y0 y0) (h1:=h) (by simp_all [T,zc,L,S])]
      have J:=XG (f t).1 (a*n+b)
      have K:=XG (f t).2 (a*n+b)
      have U:0<2 ^ (a*n+b):=Ac6 _
      refine Qc ?_ rfl
      rw [Gm,xR (a:=(f t).1.testBit (a*n+b)) (b:= !(f t).2.testBit (a*n+b))
       (by
         have z:Gs .ne (.v (.int ((if (f t).1.testBit (a*n+b)=u0 then 2 ^ (a*n+b)else 0:Nat):Int))) (.v (.int 0)) h=k0 ((f t).1.testBit (a*n+b)):=by
          rw [rE]
          cases (f t).1.testBit (a*n+b)with
          | true=>rw [if_pos rfl,decide_eq_false (by omega)];rfl
          | false=>rfl
         simp_all [J,z])
       (by
         have z:Gs .eq (.v (.int ((if (f t).2.testBit (a*n+b)=u0 then 2 ^ (a*n+b)else 0:Nat):Int))) (.v (.int 0)) h=k0 (!(f t).2.testBit (a*n+b)):=by
          rw [jQ]
          cases (f t).2.testBit (a*n+b)with
          | true=>rw [if_pos rfl,decide_eq_false (by omega)];rfl
          | false=>rfl
         simp_all [K,z]),R.ab]
      have:((f t).1.testBit (a*n+b)|| !(f t).2.testBit (a*n+b))=true:=by
       cases I:(f t).1.testBit (a*n+b)with
       | true=>rfl
       | false=>
        cases l2:(f t).2.testBit (a*n+b)with
        | false=>rfl
        | true=>exact absurd ⟨t,a,b,rfl,rfl,rfl,p,y,B,I,l2⟩ M
      rw [this]
      rfl
     ·refine Qc ?_ rfl
      rw [A]
      congr 1
      refine Ag8 λz=>G ?_
      have z:=Ah6.mpr z
      rw [Bool.or_eq_false_iff]at z
      simp only [Bool.not_eq_false',Aa0,decide_eq_true_eq]at z
      exact z
    ·have m:Qj db=false:=by simpa using m
     rw [m]at o
     rw [g]at l
     exact Qc (by simp_all [c,dd,j,l,o]) rfl
   ·have g:Qj da=false:=by simpa using g
    rw [g]at l
    exact Qc (by simp_all [c,dd,j,l]) rfl
  ·rw [decide_eq_false p]at j
   exact Qc (by simp_all [c,dd,j]) rfl
 ·have s:=d λt z=>F ⟨t,z⟩
  exact Qc (by simp_all [s]) rfl
abbrev Pl:=Tx×Nat×Nat
def a0 (p:Pl):D:= .tup [.str p.1,.int ((p.2.1:Nat):Int),.int ((p.2.2:Nat):Int)]
def dr (n:Nat) (t:Tx):List Pl:=(Aa5 n).map λa=>(t,a,a)
def d8 (n:Nat) (t:Tx):List Pl:=(Wf.av n (2 ^ (n*n)-1)).map λq=>(t,q.1,q.2)
noncomputable abbrev eH (K T:List Tx) (n:Nat) (l:List Pl) (x:Option W):Sl:= [k0 (.v (wD K T)),k0 (.v (.int (n:Int))),k0 (.own (l.map a0)),x]
theorem ot (g) (c: ∀t,(g t).length<=16) (d: ∀ t l,l.length<=200->execs F b (eH K T n l (k0 (.v (.str t)))) h= .next (eH K T n (l++g t) (k0 (.v (.str t)))) h):
 ∀(a:List Tx) l x,l.length+16*a.length<=200-> ∃j,Gw (Gv [3] u0) (λτ h=>execs F b τ h) (a.map .str) (eH K T n l x) h= .next (eH K T n (l++a.flatMap g) j) h
 | [],l,x,_=>⟨x,by simp [Gw]⟩
 | t::a,l,x,f=>by
  rw [Ab]at f
  have:=c t
  obtain⟨j,e⟩:=ot g c d a (l++g t) (k0 (.v (.str t))) (by rw [Ab1];omega)
  refine⟨j,?_⟩
  rw [Ab0,xb rfl (d t l (by omega)),e,Ak4,Af1]
def CV (k n:Nat) (K T) (h) (p:n<=4) (H:K.length<=4) (G:T.length<=4):call prog (k+3) "places_of" [.v (wD K T),.v (.int (n:Int))] h= .ok (.own ((K.flatMap (dr n)++T.flatMap (d8 n)).map a0)) h:=by
 rw [Gb (d:=Qv) rfl _ _ _ rfl]
 have m:n*n<=16:=Ae2 p p
 show Gq _ _=_
 simp only [Qv]
 have i: ∀t,(dr n t).length<=16:=λt=>by simp [dr];omega
 have lt: ∀t,(d8 n t).length<=16:=λt=>by
  rw [d8,Aa,Wf.av,Aa]
  exact Ab9 (Ak6 _ _) (by rw [Aj];exact m)
 have f: ∀(c:List Tx) (g:Tx->List Pl),(∀ t,(g t).length<=16)->(c.flatMap g).length<=16*c.length:=λc g o=>by
  induction c with
  | nil=>simp
  | cons t c F=>rw [Ak4,Ab1,Ab];have:=o t;omega
 have ext: ∀ e b (g:Tx->List Pl),(∀ t,(g t).length<=16)->b= .cons (.ext 2 e) .nil->(∀ (t:Tx) (l:List Pl),eval (u9 (k+2)) e (eH K T n l (k0 (.v (.str t)))) h= .ok (.own ((g t).map a0)) h)-> ∀(t:Tx) (l:List Pl),l.length<=200->execs (u9 (k+2)) b (eH K T n l (k0 (.v (.str t)))) h= .next (eH K T n (l++g t) (k0 (.v (.str t)))) h:=λe b g o v C t l E=>by
  have u:(l.map a0).length+((g t).map a0).length<ba:=by rw [Gg,Aa,Aa];have:=o t;omega
  rw [v,za (τ1:=eH K T n (l++g t) (k0 (.v (.str t)))) (h1:=h) (by rw [exec];simp_all [C,u,if_true];rw [← Ae6]),execs]
 have z:=ext zm Zz _ i rfl λt l=>by
  unfold zm
  rw [Zi (n:=n) (λa=>a0 (t,a,a)) rfl (by omega) λa D=>⟨.v _,by simp_all [];rfl,rfl⟩]
  rw [dr,Ad1];rfl
 have B:=ext xn jy _ lt rfl λt l=>by
  unfold xn
  have r:Gn (u9 (k+2)) (.seq (.call "pairs_of" (.b .v1 (.call "every" (.a .v1))))) (eH K T n l (some (.v (.str t)))) h= .ok ((Wf.av n (2 ^ (n*n)-1)).map pD) h:=by
   simp_all [tP (k+1) n h (by omega),Qs _ n _ h (by omega)]
  rw [Xj (h:=h) (ds:=(Wf.av n (2 ^ (n*n)-1)).map pD) (λd=>match d with | .tup [x,y]=> .tup [.str t,x,y] | d=>d) r (by rw [Gg,Aa,Wf.av,Aa];have:=Ak6 (2 ^ (n*n)-1).testBit (Aa5 (n*n));rw [Aj]at this;omega)]
  ·rw [d8,Ad1,Ad1];rfl
  ·intro d A
   obtain⟨q,_,rfl⟩:=Ab8.mp A
   exact⟨[k0 _,k0 _,k0 _],rfl,.v (.tup [.str t,.int ((q.1:Nat):Int),.int ((q.2:Nat):Int)]),by simp_all [],rfl⟩
 obtain⟨j,e1⟩:=ot _ i z K [] y0 (by simp;omega)
 obtain⟨s,e2⟩:=ot _ lt B T (K.flatMap (dr n)) j (by have:=f K (dr n) i;omega)
 rw [Ae5]at e1
 rw [za (τ1:=eH K T n [] y0) (h1:=h) rfl]
 rw [za (τ1:=eH K T n (K.flatMap (dr n)) j) (h1:=h) (by
  rw [exec,show Gr (u9 (k+2)) (.seq (.ix .v0 (.int 0))) (eH K T n [] y0) h= .ok (K.map .str) h by simp_all [ae,jk],R.ay];exact e1)]
 rw [za (τ1:=eH K T n (K.flatMap (dr n)++T.flatMap (d8 n)) s) (h1:=h) (by
  rw [exec,show Gr (u9 (k+2)) (.seq (.ix .v0 (.int 1))) (eH K T n (K.flatMap (dr n)) j) h= .ok (T.map .str) h by simp_all [ae,Qe],R.ay];exact e2)]
 rw [qa (w:= .own ((K.flatMap (dr n)++T.flatMap (d8 n)).map a0)) (h1:=h) rfl,Gx _ _ _ rfl]
noncomputable abbrev kT:List Tx:= [f6,gW,fu,gG,[101,97,99,104],fY,km,gw,gq,iu,iC,f7,[107,105,110,100],[116,105,101],[115,97,121]]
def jT (st:Tx) (at' f k:Nat):Tx:=st.take at'++ [97+(f+5*k) % 26]++st.drop at'
def cI (st:Tx) (at' f k:Nat):Tx:=if jT st at' f k∈kT then jT st at' f k++ [113]else jT st at' f k
def vm (h:at'<=st.length):(cI st at' f k)[at']? =k0 (97+(f+5*k) % 26):=by
 have b:(jT st at' f k)[at']? =k0 (97+(f+5*k) % 26):=by
  unfold jT
  rw [Af1,Ad6 (by simp_all),Af,Ak1 h,Ao6]
  rfl
 unfold cI
 split
 ·rw [Ac9 (Aa1.mp b).1];exact b
 ·exact b
def BM (a:st.length<=6):(cI st at' f k).length<=8:=by
 have b:(jT st at' f k).length<=7:=by
  unfold jT
  rw [Ab1,Ab1,Af,Af7]
  simp only [Ab,Ah4]
  lia
 unfold cI
 split
 ·rw [Ab1];simp [Ah4];lia
 ·lia
def Io (st) (at' f m) (h:at'<=st.length) (a:m<=8):((Aa5 m).map (cI st at' f)).Nodup:=uR _ m a λi b j c ne z=>by
 have e1:=vm (f:=f) (k:=i) h
 have e2:=vm (f:=f) (k:=j) h
 rw [z,e2]at e1
 have:=Ad5.inj e1
 lia
noncomputable abbrev c9 (r m:Nat) (f:Nat) (b a c e d:Option W):Sl:= [k0 (.v (.ref r)),k0 (.v (.int (m:Int))),k0 (.v (.str k6)),k0 (.v (.int (f:Int))),b,a,c,e,d]
theorem vK (k): ∀(l:List Nat) h v st x,h[r]? =k0 (af ns i v)->st.length+l.length<=6-> ∃(a:Tx) (g:Int) (c:Option W),a.length<=6 ∧
 Gw (Gv [5] u0) (λτ h=>execs (u9 (k+1)) jn τ h) (l.map λ(j:Nat)=>D.int (j:Int)) (c9 r m f (k0 (.v (.str st))) x y0 y0 y0) h= .next (c9 r m f (k0 (.v (.str a))) c y0 y0 y0) (h.set r (af ns i g))
 | [],h,v,st,x,e,b=>⟨st,v,x,by simpa using b,by
  rw [show h.set r (af ns i v)=h by
   refine List.ext_getElem? λj=> ?_
   by_cases q:r=j
   ·subst q
    rw [Ab4 (Aa1.mp e).1,e]
   ·rw [Ae q]]
  rfl⟩
 | j::l,h,v,st,x,e,b=>by
  rw [Ab]at b
  obtain⟨d,v1,p,e1⟩:=wd k e (m:=26) (by decide) (by decide)
  have o:=(Aa1.mp e).1
  obtain⟨a,g,c,n,e2⟩:=vK k l (h.set r (af ns i v1)) v1 (st++ [97+d]) (k0 (.v (.int j))) (Ab4 o) (by rw [Ab1];simp;omega)
  rw [Ac3]at e2
  refine⟨a,g,c,n,?_⟩
  have e1:call prog (k+1) "_law_draw" [.v (.ref r),.v (.int 26)] h= .ok (.v (.int d)) (h.set r (af ns i v1)):=e1
  rw [Ab0,xb rfl (by
   unfold jn
   rw [za (τ1:=c9 r m f (k0 (.v (.str (st++ [97+d])))) (k0 (.v (.int j))) y0 y0 y0) (h1:=h.set r (af ns i v1)) (by simp_all [e1,wA d p,add_str st [97+d] _ (by simp;omega)]),execs]),e2]
theorem sg {r m f at':Nat}(k:st.length<=6) (h): ∀ c j L J,j+c<=100-> ∃M O,Gw (Gv [5] u0) (λτ h=>execs F ji τ h) ((Aa5 c).map λi=>D.int ((j+i:Nat):Int)) (c9 r m f (k0 (.v (.str st))) L (k0 (.v (.int (at':Int)))) (k0 (.own (((Aa5 j).map (cI st at' f)).map .str))) J) h= .next (c9 r m f (k0 (.v (.str st))) M (k0 (.v (.int (at':Int)))) (k0 (.own (((Aa5 (j+c)).map (cI st at' f)).map .str))) O) h
 | 0,j,L,J,_=>⟨L,J,rfl⟩
 | c+1,j,L,J,G=>by
  obtain⟨u,l,e⟩:=sg k h c (j+1) (k0 (.v (.int ((j:Nat):Int)))) (k0 (.v (.str (cI st at' f j)))) (by omega)
  refine⟨u,l,?_⟩
  have p:execs F ji (c9 r m f (k0 (.v (.str st))) (k0 (.v (.int ((j:Nat):Int)))) (k0 (.v (.int (at':Int)))) (k0 (.own (((Aa5 j).map (cI st at' f)).map .str))) J) h= .next (c9 r m f (k0 (.v (.str st))) (k0 (.v (.int ((j:Nat):Int)))) (k0 (.v (.int (at':Int)))) (k0 (.own (((Aa5 (j+1)).map (cI st at' f)).map .str))) (k0 (.v (.str (cI st at' f j))))) h:=by
   have B:Gj .mul 5 (j:Int)=k0 ((5*j:Nat):Int):=Jc 5 j (by decide)
   have v:((f:Int)+((5*j:Nat):Int))=((f+5*j:Nat):Int):=rfl
   have d:Gj .mod ((f+5*j:Nat):Int) 26=k0 (((f+5*j) % 26:Nat):Int):=kJ _ 26 (by decide)
   have w:=wA ((f+5*j) % 26) (Aj2 _ (by decide)) h
   have y:st.length<=ba:=by rw [Gg];omega
   have z:cut st y0 (k0 (at':Int))=st.take at':=wW st at'
   have A:cut st (k0 (at':Int)) y0=st.drop at':=XF st at'
   have C:(st.take at').length<=6:=by rw [Af];omega
   have l2:(st.drop at').length<=6:=by rw [Af7];omega
   have x:=add_str (st.take at') [97+(f+5*j) % 26] h (by simp only [Ab,Ah4];omega)
   have a2:=add_str (st.take at'++ [97+(f+5*j) % 26]) (st.drop at') h (by rw [Ab1];simp only [Ab,Ah4];omega)
   have E:(jT st at' f j).length<=13:=by
    unfold jT
    rw [Ab1,Ab1]
    simp only [Ab,Ah4]
    omega
   have a3:=add_str (jT st at' f j) [113] h (by simp only [Ab,Ah4];omega)
   have s:=jS (jT st at' f j) kT h
   have g:(((Aa5 j).map (cI st at' f)).map D.str).length<ba:=by rw [Gg,Aa,Aa,Aj];omega
   have o:((Aa5 (j+1)).map (cI st at' f)).map D.str=((Aa5 j).map (cI st at' f)).map D.str++ [.str (cI st at' f j)]:=by rw [List.range_succ];simp
   unfold ji
   rw [za (τ1:=c9 r m f (k0 (.v (.str st))) (k0 (.v (.int ((j:Nat):Int)))) (k0 (.v (.int (at':Int)))) (k0 (.own (((Aa5 j).map (cI st at' f)).map .str))) (k0 (.v (.str (jT st at' f j))))) (by
    simp_all [oX,y,z,A,B,zc,v,d,w,x,a2]
    rfl)]
   have b:Gm F (.cmp .mem .v8 (.fD sL kT)) (c9 r m f (k0 (.v (.str st))) (k0 (.v (.int ((j:Nat):Int)))) (k0 (.v (.int (at':Int)))) (k0 (.own (((Aa5 j).map (cI st at' f)).map .str))) (k0 (.v (.str (jT st at' f j))))) h= .ok (y9 (jT st at' f j∈kT)) h:=by
    rw [Gm,eval,eval]
    rw [show Gk (c9 r m f (k0 (.v (.str st))) (k0 (.v (.int ((j:Nat):Int)))) (k0 (.v (.int (at':Int)))) (k0 (.own (((Aa5 j).map (cI st at' f)).map .str))) (k0 (.v (.str (jT st at' f j))))) 8=k0 (.v (.str (jT st at' f j)))from rfl,R.ab,eval,R.ab,s]
    rfl
   have a: ∀t:Tx,t=cI st at' f j->execs F (.a (.app 7 .v8)) (c9 r m f (k0 (.v (.str st))) (k0 (.v (.int ((j:Nat):Int)))) (k0 (.v (.int (at':Int)))) (k0 (.own (((Aa5 j).map (cI st at' f)).map .str))) (k0 (.v (.str t)))) h= .next (c9 r m f (k0 (.v (.str st))) (k0 (.v (.int ((j:Nat):Int)))) (k0 (.v (.int (at':Int)))) (k0 (.own (((Aa5 (j+1)).map (cI st at' f)).map .str))) (k0 (.v (.str (cI st at' f j))))) h:=λt n=>by
    subst n
    rw [o]
    simp_all [g,if_true]
   by_cases q:jT st at' f j∈kT
   ·rw [za (τ1:=c9 r m f (k0 (.v (.str st))) (k0 (.v (.int ((j:Nat):Int)))) (k0 (.v (.int (at':Int)))) (k0 (.own (((Aa5 j).map (cI st at' f)).map .str))) (k0 (.v (.str (jT st at' f j++ [113]))))) (h1:=h) ((Qr (by rw [b,decide_eq_true q])).trans (by simp_all [a3]))]
    exact a _ (by rw [cI,if_pos q])
   ·rw [ja (by rw [b,decide_eq_false q])]
    exact a _ (by rw [cI,if_neg q])
  rw [Ag6,Ab0,Ad1,xb rfl p]
  have:((λi=>D.int ((j+i:Nat):Int))∘Nat.succ)=λi=>D.int ((j+1+i:Nat):Int):=by
   funext i
   show D.int ((j+(i+1):Nat):Int)=_
   rw [show j+(i+1)=j+1+i by omega]
  rw [this,e,show j+1+c=j+(c+1)by omega]
def yi (c k:Nat):(Aa2 k [c]).flatten=Aa2 k c:=by simp
def yD (k)(e:h[r]? =k0 (af ns i v)) (J:m<=8): ∃(N:List Tx) (I:Int),N.length=m/\N.Nodup/\(∀ t∈N,t.length<=8)/\call prog (k+2) "_law_names" [.v (.ref r),.v (.int (m:Int))] h= .ok (.own (N.map .str)) (h.set r (af ns i I)):=by
 have M:r<h.length:=(Aa1.mp e).1
 have o: ∀w,(h.set r (af ns i w))[r]? =k0 (af ns i w):=λw=>Ab4 M
 have C: ∀w,(h.set r (af ns i w)).length=h.length:=λw=>Ad2 ..
 rw [Gb rfl _ _ _ rfl]
 show ∃N I,_/\_/\_/\Gq _ (execs _ _ [k0 (.v (.ref r)),k0 (.v (.int (m:Int))),y0,y0,y0,y0,y0,y0,y0] h)=_
 simp only [QG]
 obtain⟨f,v1,T,e1⟩:=wd k e (m:=26) (by decide) (by decide)
 have e1:call prog (k+1) "_law_draw" [.v (.ref r),.v (.int 26)] h= .ok (.v (.int (f:Int))) (h.set r (af ns i v1)):=e1
 obtain⟨d,v2,U,e2⟩:=wd k (o v1) (m:=3) (by decide) (by decide)
 rw [Ac3]at e2
 have e2:call prog (k+1) "_law_draw" [.v (.ref r),.v (.int 3)] (h.set r (af ns i v1))= .ok (.v (.int (d:Int))) (h.set r (af ns i v2)):=e2
 rw [za (τ1:= [k0 (.v (.ref r)),k0 (.v (.int (m:Int))),k0 (.v (.str k6)),y0,y0,y0,y0,y0,y0]) (h1:=h) rfl]
 rw [za (τ1:=c9 r m f y0 y0 y0 y0 y0) (h1:=h.set r (af ns i v1)) (by simp_all [e1])]
 have O: ∀h,Gs .eq (.v (.int (d:Int))) (.v (.int 0)) h=k0 (y9 (d=0)):=λh=>zi d 0 h
 have A:Gm (u9 (k+1)) (.cmp .eq (.call "_law_draw" (.b .v0 (.int 3))) (.int 0)) (c9 r m f none none none none none) (h.set r (af ns i v1))= .ok (decide (d=0)) (h.set r (af ns i v2)):=by simp_all [e2,O]
 by_cases q:d=0
 ·refine⟨(Aa5 m).map λj=>Aa2 (j+1) (97+f),v2,by simp,uR _ m J (λa L b B ne z=>by have:=congrArg List.length z;simp at this;omega),λt u=> ?_,?_⟩
  ·obtain⟨j,y,rfl⟩:=Ab8.mp u
   rw [Ad]
   have:=Ab7.mp y
   omega
  ·rw [qa (w:= .own (((Aa5 m).map λj=>Aa2 (j+1) (97+f)).map .str)) (h1:=h.set r (af ns i v2)) ((Qr (h1:=h.set r (af ns i v2)) (by rw [A,decide_eq_true q])).trans (qa (zA rfl ?_)))]
   ·exact Gx _ h _ (C v2)
   ·unfold qy
    rw [Zi (n:=m) (λj=> .str (Aa2 (j+1) (97+f))) rfl (by omega) λj y=>⟨.v (.str (Aa2 (j+1) (97+f))),?_,rfl⟩]
    ·rw [Ad1];rfl
    ·have x:((j:Int)+1)=((j+1:Nat):Int):=rfl
     have H:=mul_str [97+f] (j+1) (h.set r (af ns i v2)) (by omega) (by simp;omega)
     rw [yi]at H
     simp_all [wA f T,zc,x,H]
 ·rw [za (τ1:=c9 r m f y0 y0 y0 y0 y0) (h1:=h.set r (af ns i v2)) ((iU (h1:=h.set r (af ns i v2)) (by rw [A,decide_eq_false q])).trans rfl)]
  rw [za (τ1:=c9 r m f (k0 (.v (.str []))) y0 y0 y0 y0) (h1:=h.set r (af ns i v2)) rfl]
  obtain⟨c,v3,V,s⟩:=wd k (o v2) (m:=6) (by decide) (by decide)
  rw [Ac3]at s
  have s:call prog (k+1) "_law_draw" [.v (.ref r),.v (.int 6)] (h.set r (af ns i v2))= .ok (.v (.int (c:Int))) (h.set r (af ns i v3)):=s
  obtain⟨g,v4,p,l,E⟩:=vK k (ns:=ns) (i:=i) (r:=r) (m:=m) (f:=f) (Aa5 c) (h.set r (af ns i v3)) v3 [] y0 (o v3) (by simp;omega)
  rw [Ac3]at E
  have S:Gr (u9 (k+1)) (.ao (.call "_law_draw" (.b .v0 (.int 6)))) (c9 r m f (some (.v (.str []))) none none none none) (h.set r (af ns i v2))= .ok ((List.range c).map fun(i:Nat)=> .int (i:Int)) (h.set r (af ns i v3)):=by
   have B: -eS<=(c:Int)/\(c:Int)<eS:=by rw [GO];omega
   simp_all [s]
   rw [if_pos B,Ad7]
  rw [za (τ1:=c9 r m f (k0 (.v (.str g))) p y0 y0 y0) (h1:=h.set r (af ns i v4)) (by rw [exec,S,R.ay];exact E)]
  obtain⟨a,v5,L,D⟩:=wd k (o v4) (m:=g.length+1) (by omega) (by omega)
  rw [Ac3]at D
  have Q:g.length<=ba:=by rw [Gg];omega
  have x:((g.length:Int)+1)=((g.length+1:Nat):Int):=rfl
  rw [za (τ1:=c9 r m f (k0 (.v (.str g))) p (k0 (.v (.int (a:Int)))) y0 y0) (h1:=h.set r (af ns i v5)) (by simp_all [len_str,Q,if_true,aD,zc,x,D])]
  rw [za (τ1:=c9 r m f (k0 (.v (.str g))) p (k0 (.v (.int (a:Int)))) (k0 (.own [])) y0) (h1:=h.set r (af ns i v5)) rfl]
  obtain⟨P,K,G⟩:=sg (F:=(u9 (k+1))) (r:=r) (m:=m) (f:=f) (at':=a) l (h.set r (af ns i v5)) m 0 p y0 (by omega)
  simp only [Nat.zero_add]at G
  rw [za (τ1:=c9 r m f (k0 (.v (.str g))) P (k0 (.v (.int (a:Int)))) (k0 (.own (((Aa5 m).map (cI g a f)).map .str))) K) (h1:=h.set r (af ns i v5)) (by rw [exec,i9 (n:=m) rfl (by omega),R.ay];exact G)]
  refine⟨(Aa5 m).map (cI g a f),v5,by simp,Io g a f m (by omega) J,λt u=> ?_,?_⟩
  ·obtain⟨j,y,rfl⟩:=Ab8.mp u
   exact BM l
  ·rw [qa (w:= .own (((Aa5 m).map (cI g a f)).map .str)) (h1:=h.set r (af ns i v5)) rfl]
   exact Gx _ h _ (C v5)
noncomputable abbrev bU:List (Nat×Nat×Nat):= [(0,1,2),(1,1,2),(0,1,2),(1,1,2),(1,0,3),(2,0,3),(0,1,1),(3,2,1),(1,0,4),(0,1,2),(1,1,0),(1,1,1)]
def dP (p:Nat×Nat×Nat):D:= .tup [.int ((p.1:Nat):Int),.int ((p.2.1:Nat):Int),.int ((p.2.2:Nat):Int)]
structure ck (n:Nat) (K T:List Tx):Prop where
 n4:n<=4
 k4:K.length<=4
 t4:T.length<=4
 b6:K.length*n+T.length*(n*n)<=6
 nd:(K++T).Nodup
 l8: ∀t∈K++T,t.length<=8
abbrev iW (r:Nat) (l:List D) (a b c:Option W) (x:Option W):Sl:= [k0 (.v (.ref r)),k0 (.v (.lst l)),a,b,c,x]
def Ft (k)(e:h[r]? =k0 (af ns i v)): ∃ n K T v',ck n K T/\call prog (k+3) "_law_words" [.v (.ref r)] h= .ok (.v (.tup [.int (n:Int),wD K T])) (h.set r (af ns i v')):=by
 have G:r<h.length:=(Aa1.mp e).1
 have F: ∀w,(h.set r (af ns i w))[r]? =k0 (af ns i w):=λw=>Ab4 G
 have H: ∀w,(h.set r (af ns i w)).length=h.length:=λw=>Ad2 ..
 rw [Gb rfl _ _ _ rfl]
 show ∃n K T v',_/\Gq _ (execs _ _ [k0 (.v (.ref r)),y0,y0,y0,y0,y0] h)=_
 simp only [ZJ]
 obtain⟨d,v1,x,e1⟩:=wd (k+1) e (m:=12) (by decide) (by decide)
 have e1:call prog (k+2) "_law_draw" [.v (.ref r),.v (.int 12)] h= .ok (.v (.int (d:Int))) (h.set r (af ns i v1)):=e1
 have P: ∀p∈bU,p.1+p.2.1<=8/\p.2.2<=4/\p.1<=4/\p.2.1<=4/\p.1*p.2.2+p.2.1*(p.2.2*p.2.2)<=6:=by decide
 obtain⟨⟨a,b,n⟩,y⟩: ∃p,bU[d]? =k0 p:=⟨bU[d],Aa3 x⟩
 obtain⟨l,o,g,q,J⟩:=P _ (Ad4 y)
 have l:a+b<=8:=l
 have o:n<=4:=o
 have g:a<=4:=g
 have q:b<=4:=q
 have f:aW (bU.map dP) (d:Int)=k0 (dP (a,b,n)):=by
  rw [zg _ _ (by rw [Aa];exact x),Ac2,y];rfl
 obtain⟨N,v2,R,nn,E,e2⟩:=yD k (F v1) l
 rw [Ac3]at e2
 have j:((a:Int)+(b:Int))=((a+b:Nat):Int):=rfl
 refine⟨n,GB (N.take a),GB (N.drop a),v2,?_,?_⟩
 ·have u:=qj (N.take a)
  have pt:=qj (N.drop a)
  have s:(GB (N.take a)).length=a:=by rw [u.length_eq,Af];omega
  have lt:(GB (N.drop a)).length=b:=by rw [pt.length_eq,Af7];omega
  have z:(GB (N.take a)++GB (N.drop a)).Perm N:=(u.append pt).trans (by rw [Am8])
  exact⟨o,by rw [s];exact g,by rw [lt];exact q,by rw [s,lt];exact J,z.nodup_iff.mpr nn,λt C=>E t (z.mem_iff.mp C)⟩
 ·rw [za (τ1:=iW r ((bU.take 9).map dP) y0 y0 y0 y0) rfl]
  have I:GM .add (.v (.lst ((bU.take 9).map dP))) (.own ((bU.drop 9).map dP)) h= .ok (.own (bU.map dP)) h:=by
   show(if ((bU.take 9).map dP).length+((bU.drop 9).map dP).length<=ba then _ else _)=_
   rw [if_pos (by rw [Gg];decide)]
   rfl
  rw [za (τ1:=iW r (bU.map dP) y0 y0 y0 y0) (h1:=h) (by
   rw [exec,show eval (u9 (k+2)) (.bin .add .v1 (.lst (.c (.tup (.c (.int 0) (.int 1) (.int 2))) (.tup (.c (.int 1) (.int 1) (.int 0))) (.tup (.c (.int 1) (.int 1) (.int 1)))))) (iW r ((bU.take 9).map dP) y0 y0 y0 y0) h= .ok (.own (bU.map dP)) h from I]
   rfl)]
  rw [za (τ1:=iW r (bU.map dP) (k0 (.v (.int (a:Int)))) (k0 (.v (.int (b:Int)))) (k0 (.v (.int (n:Int)))) y0) (h1:=h.set r (af ns i v1)) (by
   rw [exec,show eval (u9 (k+2)) (.ix .v1 (.call "_law_draw" (.b .v0 (.bi .len (.a .v1))))) (iW r (bU.map dP) none none none none) h= .ok (.v (dP (a,b,n))) (h.set r (af ns i v1))by
    have Q:((bU.map dP).length:Int)=12:=rfl
    have c:call prog (k+2) "_law_draw" [.v (.ref r),.v (.int ((bU.map dP).length:Int))] h= .ok (.v (.int (d:Int))) (h.set r (af ns i v1)):=e1
    generalize bU.map dP=L at f c ⊢
    simp_all [wv,aD,c,xr,f]]
   rfl)]
  rw [za (τ1:=iW r (bU.map dP) (k0 (.v (.int (a:Int)))) (k0 (.v (.int (b:Int)))) (k0 (.v (.int (n:Int)))) (k0 (.v (.lst (N.map .str))))) (h1:=h.set r (af ns i v2)) (by simp_all [zc,j,e2])]
  have O:=ZL (N.take a) (h.set r (af ns i v2)) (by rw [Af];omega)
  have B:=ZL (N.drop a) (h.set r (af ns i v2)) (by rw [Af7];omega)
  have A:cut (N.map D.str) y0 (k0 (a:Int))=(N.take a).map D.str:=by rw [wW,Ao1]
  have M:cut (N.map D.str) (k0 (a:Int)) y0=(N.drop a).map D.str:=by rw [XF,List.map_drop]
  rw [qa (w:= .v (.tup [.int (n:Int),wD (GB (N.take a)) (GB (N.drop a))])) (h1:=h.set r (af ns i v2)) (Qa rfl (by
   simp_all [oK,A,M,O,B,qU,aD]))]
  exact Ga _ h _ (H v2)
def Lb (s:Nat) (h1:3<=s) (b:s<5): ∃f:Ex->Ex,(∀ a,(f a).dp=a.dp+1)/\(∀ N a,a.wf N->(f a).wf N)/\ ∃t,aW [D.str xi,.str Qi] ((s:Int)-3)=k0 (.str t)/\ ∀a,aU (f a)= .tup [.str t,aU a]:=by
 match s,h1,b with
 | 3,_,_=>exact⟨.turned,λ_=>rfl,λ_ _ h=>h,xi,rfl,λ_=>rfl⟩
 | 4,_,_=>exact⟨.closed,λ_=>rfl,λ_ _ h=>h,Qi,rfl,λ_=>rfl⟩
 | s+5,_,h=>exact absurd h (by lia)
def DU (s:Nat) (h1:5<=s) (c:s<10): ∃f:Ex->Ex->Ex,(∀ a b,(f a b).dp=max a.dp b.dp+1)/\(∀ N a b,a.wf N->b.wf N->(f a b).wf N)/\ ∃t,aW [D.str WH,.str zp,.str WC,.str jh,.str jh] ((s:Int)-5)=k0 (.str t)/\ ∀a b,aU (f a b)= .tup [.str t,aU a,aU b]:=by
 match s,h1,c with
 | 5,_,_=>exact⟨.plus,λ_ _=>rfl,λ_ _ _ h g=>⟨h,g⟩,WH,rfl,λ_ _=>rfl⟩
 | 6,_,_=>exact⟨.less,λ_ _=>rfl,λ_ _ _ h g=>⟨h,g⟩,zp,rfl,λ_ _=>rfl⟩
 | 7,_,_=>exact⟨.both,λ_ _=>rfl,λ_ _ _ h g=>⟨h,g⟩,WC,rfl,λ_ _=>rfl⟩
 | 8,_,_=>exact⟨.joined,λ_ _=>rfl,λ_ _ _ h g=>⟨h,g⟩,jh,rfl,λ_ _=>rfl⟩
 | 9,_,_=>exact⟨.joined,λ_ _=>rfl,λ_ _ _ h g=>⟨h,g⟩,jh,rfl,λ_ _=>rfl⟩
 | s+10,_,h=>exact absurd h (by lia)
noncomputable abbrev gR (r:Nat) (N:List Tx) (g p:Nat) (a b c:Option W):Sl:= [k0 (.v (.ref r)),k0 (.v (.lst (N.map .str))),k0 (.v (.int (g:Int))),k0 (.v (.int (p:Int))),a,b,c]
def eR (N:List Tx):List Ex:=(N++N).map .name++ [.same,.all,.none]
def lQ (h:e∈eR N):e.wf N/\e.dp=0:=by
 obtain h | h:=Ad8.mp h
 ·obtain⟨t,a,rfl⟩:=Ab8.mp h
  exact⟨(Ad8.mp a).elim id id,rfl⟩
 ·have:e= .same\/e= .all\/e= .none:=by simpa using h
  rcases this with rfl | rfl | rfl<;>exact⟨trivial,rfl⟩
def vN (m)(k:N.length<=8) (e:h[r]? =some (af ns i v)): ∃ x v',x∈eR N/\execs (u9 (m+1)) (.cons (.ag 4 (.bin .add (.bin .mul Xd (.int 2)) (.lst (.c (.tup (.a (.str xf))) (.tup (.a (.str Jl))) (.tup (.a (.str Ze))))))) (.a (.ret (.ix .v4 (.call "_law_draw" (.b .v0 (.bi .len (.a .v4)))))))) (gR r N g p none none none) h= .ret (.v (aU x)) (h.set r (af ns i v')):=by
 have l:(eR N).length=2*N.length+3:=by simp [eR];omega
 obtain⟨d,v1,f,e1⟩:=wd m e (m:=(eR N).length) (by omega) (by omega)
 refine⟨(eR N)[d],v1,Ak9 f,?_⟩
 have c:eval (u9 (m+1)) Xd (gR r N g p y0 y0 y0) h= .ok (.own (N.map λt=>aU (.name t))) h:=by
  unfold Xd
  rw [Xj (ds:=N.map .str) (λd=> .tup [.str wg,d]) (by simp_all []) (by rw [Gg,Aa];omega)]
  ·rw [Ad1];rfl
  ·intro d f
   exact⟨[k0 (.v d)],rfl,.v (.tup [.str wg,d]),by simp_all [],rfl⟩
 have b:=HM (N.map λt=>aU (.name t)) 2 h (by decide) (by rw [Aa];omega)
 have j:GM .add (.own (Aa2 2 (N.map λt=>aU (.name t))).flatten) (.own [.tup [.str xf],.tup [.str Jl],.tup [.str Ze]]) h= .ok (.own ((eR N).map aU)) h:=by
  show(if ((Aa2 2 (N.map λt=>aU (.name t))).flatten).length+3<=ba then _ else _)=_
  rw [if_pos (by rw [Gg];simp;omega)]
  simp [eR,aU,Ae4,Function.comp_def]
 rw [za (τ1:=gR r N g p (k0 (.v (.lst ((eR N).map aU)))) y0 y0) (h1:=h) (by
  have b:GM .mul (.own (N.map λt=>aU (.name t))) (.v (.int 2)) h= .ok (.own (Aa2 2 (N.map λt=>aU (.name t))).flatten) h:=b
  generalize (Aa2 2 (N.map λt=>aU (.name t))).flatten=Z at b j
  simp_all [c,b,j])]
 have a:aW ((eR N).map aU) d=k0 (aU (eR N)[d]):=by
  rw [zg _ _ (by rw [Aa];exact f),Ac2,Aa3 f];rfl
 have e1:call prog (m+1) "_law_draw" [.v (.ref r),.v (.int (((eR N).map aU).length))] h= .ok (.v (.int d)) (h.set r (af ns i v1)):=by rw [List.length_map];exact e1
 generalize (eR N).map aU=L at a e1 ⊢
 exact qa (Qa rfl (by simp_all [wv,aD,e1,xr,a]))
def sY (D:N.length<=8): ∀ g k h v,h[r]? =k0 (af ns i v)-> ∃ e v',e.wf N/\e.dp<=g/\call prog (g+k+2) "_law_expression" [.v (.ref r),.v (.lst (N.map .str)),.v (.int (g:Int))] h= .ok (.v (aU e)) (h.set r (af ns i v')):=by
 intro g
 induction g with
 | zero=>
  intro k h v e
  have u:r<h.length:=(Aa1.mp e).1
  have j: ∀w,(h.set r (af ns i w))[r]? =k0 (af ns i w):=λw=>Ab4 u
  obtain⟨p,v1,F,e1⟩:=wd (0+k) e (m:=10) (by decide) (by decide)
  have e1:call prog (0+k+1) "_law_draw" [.v (.ref r),.v (.int 10)] h= .ok (.v (.int (p:Int))) (h.set r (af ns i v1)):=e1
  obtain⟨x,v2,c,e2⟩:=vN (0+k) D (j v1)
  rw [Ac3]at e2
  refine⟨x,v2,(lQ c).1,Ak8 (lQ c).2,?_⟩
  rw [Gb rfl _ _ _ rfl]
  show Gq _ (execs _ _ [k0 (.v (.ref r)),k0 (.v (.lst (N.map .str))),k0 (.v (.int ((0:Nat):Int))),y0,y0,y0,y0] h)=_
  simp only [We]
  rw [za (τ1:=gR r N 0 p y0 y0 y0) (h1:=h.set r (af ns i v1)) (by simp_all [e1])]
  rw [qa (w:= .v (aU x)) (h1:=h.set r (af ns i v2)) ((Qr (h1:=h.set r (af ns i v1)) (by
   have z:Gs .eq (.v (.int ((0:Nat):Int))) (.v (.int 0)) (h.set r (af ns i v1))=k0 true:=zi 0 0 _
   simp_all [z])).trans e2)]
  exact Ga _ h _ (Ad2 ..)
 | succ g I=>
  intro k h v e
  have u:r<h.length:=(Aa1.mp e).1
  have j: ∀w,(h.set r (af ns i w))[r]? =k0 (af ns i w):=λw=>Ab4 u
  have A: ∀w,(h.set r (af ns i w)).length=h.length:=λw=>Ad2 ..
  rw [show g+1+k+2=(g+k+2)+1 by omega]
  obtain⟨p,v1,F,e1⟩:=wd (g+k+1) e (m:=10) (by decide) (by decide)
  have e1:call prog (g+k+2) "_law_draw" [.v (.ref r),.v (.int 10)] h= .ok (.v (.int (p:Int))) (h.set r (af ns i v1)):=e1
  have E:Gm (u9 (g+k+2)) (.or (.cmp .eq .v2 (.int 0)) (.cmp .lt .v3 (.int 3))) (gR r N (g+1) p y0 y0 y0) (h.set r (af ns i v1))= .ok (y9 (p<3)) (h.set r (af ns i v1)):=by
   have z:Gs .eq (.v (.int ((g+1:Nat):Int))) (.v (.int 0)) (h.set r (af ns i v1))=k0 false:=by
    have:=zi (g+1) 0 (h.set r (af ns i v1))
    rw [decide_eq_false (by omega)]at this
    exact this
   have o:=l3 3 p (h.set r (af ns i v1))
   have o:Gs .lt (.v (.int (p:Int))) (.v (.int 3)) (h.set r (af ns i v1))=k0 (y9 (p<3)):=o
   rw [Gm,xR (a:=k9) (b:=y9 (p<3)) (by simp_all [z]) (by simp_all [o]),R.ab]
   rfl
  rw [Gb (d:=We) rfl _ _ _ rfl]
  show ∃e v',_/\_/\Gq _ (execs _ _ [k0 (.v (.ref r)),k0 (.v (.lst (N.map .str))),k0 (.v (.int ((g+1:Nat):Int))),y0,y0,y0,y0] h)=_
  simp only [We]
  rw [za (τ1:=gR r N (g+1) p y0 y0 y0) (h1:=h.set r (af ns i v1)) (by simp_all [e1])]
  by_cases q:p<3
  ·obtain⟨x,v2,c,e2⟩:=vN (g+k+1) (g:=g+1) (p:=p) D (j v1)
   rw [Ac3]at e2
   refine⟨x,v2,(lQ c).1,by rw [(lQ c).2];omega,?_⟩
   rw [qa (w:= .v (aU x)) (h1:=h.set r (af ns i v2)) ((Qr (h1:=h.set r (af ns i v1)) (by rw [E,decide_eq_true q])).trans e2)]
   exact Ga _ h _ (A v2)
  ·rw [ja (by rw [E,decide_eq_false q])]
   obtain⟨x,v2,J,M,e2⟩:=I k _ v1 (j v1)
   rw [Ac3]at e2
   have H:(((g+1:Nat):Int)-1)=((g:Nat):Int):=by omega
   rw [za (τ1:=gR r N (g+1) p y0 (k0 (.v (aU x))) y0) (h1:=h.set r (af ns i v2)) (by simp_all [zf,H,e2])]
   have G:Gs .lt (.v (.int (p:Int))) (.v (.int 5)) (h.set r (af ns i v2))=k0 (y9 (p<5)):=l3 5 p _
   by_cases C:p<5
   ·obtain⟨f,l,s,t,B,n⟩:=Lb p (by omega) C
    refine⟨f x,v2,s N x J,by rw [l];omega,?_⟩
    rw [Qc (w:= .v (aU (f x))) (by simp_all [G,decide_eq_true C]) (Qa rfl (by rw [n];simp_all [zf,WM,B]))]
    exact Ga _ h _ (A v2)
   ·rw [ja (by simp_all [G,decide_eq_false C])]
    obtain⟨y,v3,L,O,K⟩:=I k _ v2 (j v2)
    rw [Ac3]at K
    rw [za (τ1:=gR r N (g+1) p y0 (k0 (.v (aU x))) (k0 (.v (aU y)))) (h1:=h.set r (af ns i v3)) (by simp_all [zf,H,K])]
    obtain⟨f,l,s,t,B,n⟩:=DU p (by omega) F
    refine⟨f x y,v3,s N x y J L,by rw [l];omega,?_⟩
    rw [qa (w:= .v (aU (f x y))) (h1:=h.set r (af ns i v3)) (Qa rfl (by rw [n];simp_all [zf,WM,B]))]
    exact Ga _ h _ (A v3)
theorem nI: ∀(ws) (c j w),ws[j]? =k0 w->(dg ws c)[j]? =k0 (c / 2 ^ (ws.take j).sum % 2 ^ w)
 | [],_,_,_,h=>by simp at h
 | u::ws,c,0,w,h=>by
  have:u=w:=by simpa using h
  subst this
  simp [dg]
 | u::ws,c,j+1,w,h=>by
  have h:=by simpa using h
  show(dg ws (c / 2 ^ u))[j]? =_
  rw [nI ws _ j w h,List.take_succ_cons,Al2,Am6,←Nat.pow_add]
theorem JY: ∀(ws) (c),(dg ws c).length=ws.length
 | [],_=>rfl
 | w::ws,c=>by rw [dg,Ab,JY ws,Ab]
def cC (n a b c:Nat):List Nat:=(dg (cw n a b) c).take a
def cS (n a b c:Nat):List Nat:=(dg (cw n a b) c).drop a
def Fz (n a b j) (h:j<=a):((cw n a b).take j).sum=j*n:=by
 rw [cw,List.take_append_of_le_length (by simp_all),List.take_replicate,Qu,Ak1 h]
def Hj (n a b j:Nat) (h:j<=b):((cw n a b).take (a+j)).sum=a*n+j*(n*n):=by
 rw [cw,List.take_append,Ad,Ag5 (by simp),List.sum_append,List.take_replicate,Qu,Qu,Am3,Ak1 h]
def mI (h:j<a):(cC n a b c)[j]? =k0 (c / 2 ^ (j*n) % 2 ^ n):=by
 rw [cC,Am0 h,nI _ _ _ n (by rw [cw,Ac9 (by simp_all),Ai0,if_pos h]),Fz _ _ _ _ (Ag h)]
def mH (h:j<b):(cS n a b c)[j]? =k0 (c / 2 ^ (a*n+j*(n*n)) % 2 ^ (n*n)):=by
 rw [cS,List.getElem?_drop,nI _ _ _ _ (by rw [cw,Ad6 (by simp),Ad,Am3,Ai0,if_pos h]),Hj _ _ _ _ (Ag h)]
def wo (n:Nat) (K T:List Tx) (c:Nat):Wo:=⟨n,K,T,cC n K.length T.length c,cS n K.length T.length c⟩
def XQ (n a b c):(cC n a b c).length=a:=by rw [cC,Af,JY,l4];lia
def qR (n a b c):(cS n a b c).length=b:=by rw [cS,Af7,JY,l4];lia
theorem ck.wo (g:ck n K T) (c):(wo n K T c).Ok:=by
 refine⟨g.k4,g.t4,g.nd,g.n4,XQ ..,qR ..,λx b=> ?_,λx b=> ?_⟩
 ·obtain⟨j,a,e⟩:=Al4 b
  have:(cC n K.length T.length c)[j]? =k0 x:=by rw [← e];exact Aa3 a
  rw [mI (by rw [← XQ n K.length T.length c];exact a)]at this
  rw [← Ad5.inj this]
  exact Aj2 _ (Ac6 _)
 ·obtain⟨j,a,e⟩:=Al4 b
  have:(cS n K.length T.length c)[j]? =k0 x:=by rw [← e];exact Aa3 a
  rw [mH (by rw [← qR n K.length T.length c];exact a)]at this
  rw [← Ad5.inj this]
  exact Aj2 _ (Ac6 _)
def ck.pt (g:ck n K T) (c d):Pt (M.wo n K T c) (M.wo n K T d):=⟨g.wo c,g.wo d,rfl,rfl,rfl⟩
theorem qY : ∀ {J}{j},J.Nodup->J[j]? =k0 t->c5 t J=j
 | [],_,_,h=>by simp at h
 | y::c,0,_,h=>by
  have:y=t:=by simpa using h
  simp [c5,Kc,this]
 | y::c,j+1,a,h=>by
  have h:=by simpa using h
  have m:=Ad4 h
  have a:=Ag4.mp a
  have ne:y≠t:=λe=>a.1 (e▸m)
  have b:=qY a.2 h
  rw [c5]at b ⊢
  rw [Kc,if_neg ne,(xk m).1]
  rw [(xk m).1]at b
  simpa using b
theorem n0 {f e:Type}(g) (m) (a: ∀t,(g t).length=m): ∀(l:List f) i (y:e),(l.flatMap g)[i]? =k0 y-> ∃j t p,l[j]? =k0 t/\(g t)[p]? =k0 y/\p<m/\i=j*m+p
 | [],i,y,h=>by simp at h
 | t::l,i,y,h=>by
  rw [Ak4]at h
  by_cases q:i<m
  ·rw [Ac9 (by rw [a];exact q)]at h
   exact⟨0,t,i,rfl,h,q,by omega⟩
  ·rw [Ad6 (by rw [a];omega),a]at h
   obtain⟨j,u,p,b,d,c,k⟩:=n0 g m a l _ y h
   exact⟨j+1,u,p,b,d,c,by rw [Nat.add_mul];omega⟩
theorem wJ {a c:Type}(g:a->List c) (m) (b: ∀t,(g t).length=m): ∀l:List a,(l.flatMap g).length=l.length*m
 | []=>by simp
 | t::l=>by rw [Ak4,Ab1,b,wJ g m b l,Ab,Nat.add_mul];omega
def bH (n:Nat) (K T:List Tx):List Pl:=K.flatMap (dr n)++T.flatMap (d8 n)
def Wz (n):Wf.av n (2 ^ (n*n)-1)=(Aa5 (n*n)).map λk=>(k / n,k % n):=by
 rw [Wf.av,List.filter_eq_self.mpr λk a=>by rw [Ae1,decide_eq_true (Ab7.mp a)]]
def Xu (n) (t):(dr n t).length=n:=by simp [dr]
def W8 (n) (t):(d8 n t).length=n*n:=by simp [d8,Wz]
def zE (n) (K T):(bH n K T).length=K.length*n+T.length*(n*n):=by rw [bH,Ab1,wJ _ _ (Xu n),wJ _ _ (W8 n)]
def Xk (g:ck n K T)(h:(bH n K T)[i]? =k0 (t,x,y)) (c):bx (wo n K T c) t x y=c.testBit i/\t∈K++T/\x<n/\y<n:=by
 obtain⟨e,k,o⟩:=Ai9.mp g.nd
 rw [bH]at h
 by_cases q:i<K.length*n
 ·rw [Ac9 (by rw [wJ _ _ (Xu n)];exact q)]at h
  obtain⟨j,u,p,d,b,a,l⟩:=n0 _ n (Xu n) _ _ _ h
  rw [dr,Ac2,List.getElem?_range a]at b
  have b:=Ad5.inj b
  obtain⟨rfl,rfl,rfl⟩:u=t/\p=x/\p=y:=by simpa using b
  have mk:=Ad4 d
  have r:=λz=>o u mk u z rfl
  have f:=(Aa1.mp d).1
  refine⟨?_,Ah3 _ mk,a,a⟩
  rw [bx,if_neg (show u∉(wo n K T c).T from r)]
  show(decide _&&((cC n K.length T.length c).getD (c5 u K) 0).testBit p)=_
  rw [qY e d,Ac5,mI f,Ak5,Ag2,Ag3,decide_eq_true a,decide_eq_true rfl,l,Ao7]
  rfl
 ·rw [Ad6 (by rw [wJ _ _ (Xu n)];omega),wJ _ _ (Xu n)]at h
  obtain⟨j,u,p,d,b,a,l⟩:=n0 _ _ (W8 n) _ _ _ h
  rw [d8,Wz,Ad1,Ac2,List.getElem?_range a]at b
  have b:=Ad5.inj b
  obtain⟨rfl,rfl,rfl⟩:u=t/\p / n=x/\p % n=y:=by simpa using b
  have m:=Ad4 d
  have f:=(Aa1.mp d).1
  refine⟨?_,Ab6 _ m,Wf.bh a,Wf.a8 a⟩
  rw [bx,if_pos (show u∈(wo n K T c).T from m)]
  show(((cS n K.length T.length c).getD (c5 u T) 0).testBit (p / n*n+p % n))=_
  rw [qY k d,Ac5,mH f,Ak5,Ag2,Ag3,Wf.bB,decide_eq_true a,Ad9]
  congr 1
  omega
def nQ (b:x<n) (a:y<n) (h:t∈T\/(t∈K/\x=y)): ∃i:Nat,(bH n K T)[i]? =k0 (t,x,y):=by
 have:(t,x,y)∈bH n K T:=by
  rw [bH,Ad8,List.mem_flatMap,List.mem_flatMap]
  obtain h | ⟨h,rfl⟩:=h
  ·refine .inr ⟨t,h,?_⟩
   rw [d8,Wz,Ad1]
   refine Ab8.mpr ⟨x*n+y,Ab7.mpr (Wf.place_lt b a),?_⟩
   show(t,_ / n,_ % n)=_
   rw [Wf.aE a,Wf.aI a]
  ·exact .inl ⟨t,h,Ab8.mpr ⟨x,Ab7.mpr b,rfl⟩⟩
 obtain⟨i,c,e⟩:=Al4 this
 exact⟨i,by rw [← e];exact Aa3 c⟩
def mV (d:t∈K++T) (a:x<n) (b:y<n) (h:bx (wo n K T c) t x y=u0): ∃i:Nat,(bH n K T)[i]? =k0 (t,x,y):=by
 refine nQ a b ?_
 by_cases q:t∈T
 ·exact .inl q
 ·rw [bx,if_neg (show t∉(wo n K T c).T from q),Aa0,decide_eq_true_eq]at h
  exact .inr ⟨(Ad8.mp d).resolve_right q,h.1⟩
def mw (g:ck n K T){i j:Nat}(h:(bH n K T)[i]? =k0 p) (q:(bH n K T)[j]? =k0 p):i=j:=by
 have b:=(Xk g h (2 ^ i)).1
 have a:=(Xk g q (2 ^ i)).1
 rw [b,Nat.testBit_two_pow_self,Ad3]at a
 simpa using a.symm
def Cd (k n) (A B) (c:Nat) (h) (d:n<=4) (h1:A.length<=4) (f:B.length<=4) (lt:c<2 ^ (cw n A.length B.length).sum):call prog (k+5) "world_of" [.v (gP A B),.v (.int (n:Int)),.v (.int (c:Int))] h= .ok (.v (hR n (cC n A.length B.length c) (cS n A.length B.length c))) h:=by
 rw [Gb rfl _ _ _ rfl]
 have b:n*n<=16:=Ae2 d d
 have q:=vt k (.int (n:Int)) h rfl (by simp [Jd];omega)
 have l:=sR (k+2) n A B h d h1 f
 have a:=u3 (k+3) n A B h d h1 f
 have r:(cw n A.length B.length).sum<=100:=by
  rw [nA]
  have s:A.length*n<=4*4:=Ae2 h1 d
  have a2:B.length*(n*n)<=4*16:=Ae2 f b
  omega
 have i:=zT (cw n A.length B.length).sum (by omega)
 have g:=qB (k+2) (.int (c:Int)) ((2 ^ (cw n A.length B.length).sum:Nat):Int) h rfl
 have bt:Jd (.int (c:Int)) ((2 ^ (cw n A.length B.length).sum:Nat):Int)=true:=by
  simp only [Jd,Aa0,decide_eq_true_eq];omega
 rw [bt]at g
 obtain⟨m,o,e⟩:=uU h (cw n A.length B.length) c [] y0 (λw a=>by
  rcases Ad8.mp a with a | a
  ·rw [(List.mem_replicate.mp a).2];omega
  ·rw [(List.mem_replicate.mp a).2];exact b) (by rw [l4];simp;omega)
 rw [Ae5]at e
 simp only [qO]
 rw [za (τ1:= [k0 (.v (gP A B)),k0 (.v (.int (n:Int))),k0 (.v (.int (c:Int))),y0,y0,y0,y0]) (h1:=h) (by simp_all [q])]
 rw [ja (by simp_all [l,i,g])]
 rw [za (τ1:= [k0 (.v (gP A B)),k0 (.v (.int (n:Int))),k0 (.v (.int (c:Int))),k0 (.own []),y0,y0,y0]) (h1:=h) (by simp_all [])]
 rw [za (τ1:= [k0 (.v (gP A B)),k0 (.v (.int (n:Int))),k0 (.v (.int (c:Int))),k0 (.own []),k0 (.v (.int (c:Int))),y0,y0]) (h1:=h) (by simp_all [])]
 have ew:eval (u9 (k+4)) (.call "widths" (.b .v0 .v1)) [some (.v (gP A B)),some (.v (.int (n:Int))),some (.v (.int (c:Int))),some (.own []),some (.v (.int (c:Int))),none,none] h= .ok (.own (aK (cw n A.length B.length))) h:=by
  simp_all [a]
 rw [za (by
  simp only [exec,Gr,GF,ew,R.ab,G9,R.aj,R.ay]
  exact e)]
 have j:cut (aK (dg (cw n A.length B.length) c)) y0 (k0 (A.length:Int))=aK (cC n A.length B.length c):=by rw [wW,aK,←Ao1];rfl
 have p:cut (aK (dg (cw n A.length B.length) c)) (k0 (A.length:Int)) y0=aK (cS n A.length B.length c):=by rw [XF,aK,←List.map_drop];rfl
 rw [za (τ1:= [k0 (.v (gP A B)),k0 (.v (.int (n:Int))),k0 (.v (.int (c:Int))),k0 (.own (aK (dg (cw n A.length B.length) c))),m,o,k0 (.v (.int (A.length:Int)))]) (h1:=h) (by simp_all [ae,jk,Wh])]
 rw [qa (w:= .v (hR n (cC n A.length B.length c) (cS n A.length B.length c))) (h1:=h) (Qa rfl (by simp_all [vv,j,p,qU]))]
 exact Ga _ _ _ rfl
abbrev bN (n:Nat) (K T:List Tx):Nat:=K.length*n+T.length*(n*n)
def e7 (n:Nat) (K T:List Tx) (S:List Sy):List (String×D):= [("words",wD K T),("sayings",.tup (S.map aM)),("size",.int (n:Int)),("places",.lst ((bH n K T).map a0)),("whole",.int ((2 ^ bN n K T-1:Nat):Int))]
def JQ (e:h[r]? =k0 (.obj c fs)):GV h (k0 (.v (.ref r)))=k0 (r,c,fs):=by unfold GV;simp [e]
def qD (b:h[r]? =k0 (.obj c fs)) (a:Gp τ i=k0 (.v (.ref r))) (e:fs.lookup f=k0 d):eval F (.fld i c f) τ h= .ok (.v d) h:=by
 rw [eval,a,JQ b]
 simp [e,R.ab]
def x3 (b:h[r]? =k0 (.obj c fs)) (a:Gp τ i=k0 (.v (.ref r))) (d:(fs.lookup m).isNone=u0) (e:Gi F es τ h= .ok ws h):eval F (.bw i c m q es) τ h=F.call q (.v (.ref r)::ws.map W.arg) h:=by
 rw [eval,a,JQ b]
 simp [d,e,R.ab]
section
variable {n:Nat}{K T:List Tx}{S:List Sy}{ro:Nat}{h:AH}
def uC (k c:Nat) (g:ck n K T) (C:h[ro]? =k0 (.obj "Cases" (e7 n K T S))) (d:c<2 ^ bN n K T):call prog (k+6) "Cases.world_of_code" [.v (.ref ro),.v (.int (c:Int))] h= .ok (.v (wo n K T c).aN) h:=by
 have e:=Cd k n (K.map .str) (T.map .str) c h g.n4 (by rw [Aa];exact g.k4) (by rw [Aa];exact g.t4) (by rw [nA,Aa,Aa];exact d)
 rw [Aa,Aa]at e
 show Gq _ (execs _ _ [k0 _,k0 _] h)=_
 simp only [wh]
 have a:=qD (F:=(u9 (k+5))) (τ:= [k0 _,k0 (.v (.int c))]) (i:=0) (f:= "words") C rfl rfl
 have b:=qD (F:=(u9 (k+5))) (τ:= [k0 _,k0 (.v (.int c))]) (i:=0) (f:= "size") C rfl rfl
 rw [qa (w:= .v (wo n K T c).aN) (h1:=h) (Qa rfl (by
  generalize E.fld 0 "Cases" "words" =X at a ⊢
  generalize E.fld 0 "Cases" "size" =Y at b ⊢
  simp_all [a,b,e]
  rfl)),Ga _ _ _ rfl]
def ya (m j c d:Nat) (g:ck n K T) (C:h[ro]? =some (.obj "Cases" (e7 n K T S))) (y:c<2 ^ bN n K T) (x:d<2 ^ bN n K T)(p:S[j]? =some s) (z:s.dp+9<=m) (wf:s.wf (K++T)): ∃r,Td (wo n K T c) (wo n K T d) s r/\call prog (m+1) "Cases.truth" [.v (.ref ro),.v (.int (j:Int)),.v (.int (c:Int)),.v (.int (d:Int))] h= .ok (.v (aH r)) h:=by
 obtain⟨k,rfl⟩: ∃k,m=k+6:=⟨m-6,by omega⟩
 obtain⟨r,v,e⟩:=BJ (g.pt c d) h s _ z wf
 refine⟨r,v,?_⟩
 rw [Gb rfl _ _ _ rfl]
 show Gq _ (execs _ _ [k0 _,k0 _,k0 _,k0 _,y0] h)=_
 simp only [xw]
 have a:=x3 (F:=(u9 (k+6))) (τ:= [k0 _,k0 (.v (.int (j:Int))),k0 (.v (.int (c:Int))),k0 (.v (.int (d:Int))),y0]) (i:=0) (m:= "world_of_code") (q:= "Cases.world_of_code") (es:= .cons .v2 .nil) (ws:= [.v (.int (c:Int))]) C rfl rfl (by simp_all [])
 have b:=x3 (F:=(u9 (k+6))) (τ:= [k0 _,k0 (.v (.int (j:Int))),k0 (.v (.int (c:Int))),k0 (.v (.int (d:Int))),y0]) (i:=0) (m:= "world_of_code") (q:= "Cases.world_of_code") (es:= .cons .v3 .nil) (ws:= [.v (.int (d:Int))]) C rfl rfl (by simp_all [])
 have a:=a.trans (uC k c g C y)
 have b:=b.trans (uC k d g C x)
 have u:j<S.length:=(Aa1.mp p).1
 have l:aW (S.map aM) (j:Int)=k0 (aM s):=by rw [zg _ _ (by rw [Aa];exact u),Ac2,p];rfl
 rw [za (τ1:= [k0 (.v (.ref ro)),k0 (.v (.int (j:Int))),k0 (.v (.int (c:Int))),k0 (.v (.int (d:Int))),k0 (.v (bM (wo n K T c) (wo n K T d)))]) (h1:=h) (by
  generalize E.bw 0 "Cases" "world_of_code" "Cases.world_of_code" (.a .v2)=X at a ⊢
  generalize E.bw 0 "Cases" "world_of_code" "Cases.world_of_code" (.a .v3)=Y at b ⊢
  simp_all [a,b])]
 have t:=qD (F:=(u9 (k+6))) (τ:= [k0 (.v (.ref ro)),k0 (.v (.int (j:Int))),k0 (.v (.int (c:Int))),k0 (.v (.int (d:Int))),k0 (.v (bM (wo n K T c) (wo n K T d)))]) (i:=0) (f:= "words") C rfl rfl
 have o:=qD (F:=(u9 (k+6))) (τ:= [k0 (.v (.ref ro)),k0 (.v (.int (j:Int))),k0 (.v (.int (c:Int))),k0 (.v (.int (d:Int))),k0 (.v (bM (wo n K T c) (wo n K T d)))]) (i:=0) (f:= "sayings") C rfl rfl
 have e:call prog _ "told" [.v (wD K T),.v _,.v _] h= .ok _ h:=e
 rw [qa (w:= .v (aH r)) (h1:=h) (Qa rfl (by
  generalize E.fld 0 "Cases" "words" =X at t ⊢
  generalize E.fld 0 "Cases" "sayings" =Y at o ⊢
  simp_all [t,o,ae,l,e])),Ga _ _ _ rfl]
end
def pW (p) (t) (a b):bL (a0 p) (.tup [.str t,.int a,.int b])=u0↔p.1=t/\(p.2.1:Int)=a/\(p.2.2:Int)=b:=by
 simp [a0,GK]
theorem rX (t) (a b): ∀L:List Pl,inD (.tup [.str t,.int a,.int b]) (L.map a0)=u0-> ∃ i x y,Ke (.tup [.str t,.int a,.int b]) (L.map a0)=k0 i/\L[i]? =k0 (t,x,y)/\a=(x:Int)/\b=(y:Int)
 | [],h=>by simp [inD]at h
 | p::L,h=>by
  rw [Ab0,Ke]
  by_cases q:bL (a0 p) (.tup [.str t,.int a,.int b])=u0
  ·obtain⟨c,e,d⟩:=(pW p t a b).mp q
   refine⟨0,p.2.1,p.2.2,by rw [if_pos q],?_,e.symm,d.symm⟩
   rw [← c];rfl
  ·rw [if_neg q]
   have h:=by
    rw [inD,Ab0,Ae8,Ae7]at h
    exact h.resolve_left q
   obtain⟨i,x,y,c,e,d,f⟩:=rX t a b L h
   exact⟨i+1,x,y,by rw [c];rfl,e,d,f⟩
def Iz {x y i:Nat}{L:List Pl}(h:L[i]? =k0 (t,x,y)):inD (.tup [.str t,.int (x:Int),.int (y:Int)]) (L.map a0)=true:=by
 rw [inD,Ad0]
 exact⟨a0 _,Ab8.mpr ⟨_,Ad4 h,rfl⟩,(pW _ _ _ _).mpr ⟨rfl,rfl,rfl⟩⟩
def jv (L:List Pl):Gf (L.map a0)=true:=js _ (λ_=>rfl) L
def J7 (L:List Pl):GD (L.map a0)<140:=Ai5 (vi a0 1 (λ_=>by simp [a0]) L) (by decide)
def HR (t) (a b) (L:List Pl) (h):Gs .eV (.v (.tup [.str t,.int a,.int b])) (.v (.lst (L.map a0))) h=k0 (!inD (.tup [.str t,.int a,.int b]) (L.map a0)):=by
 have e:Kb (.v (.tup [.str t,.int a,.int b])) (.v (.lst _)) h=Kr _ (.v (.lst (L.map a0))) h:=rfl
 have g:Kr (.v (.tup [.str t,.int a,.int b])) (.v (.lst (L.map a0))) h=k0 (inD (.tup [.str t,.int a,.int b]) (L.map a0)):=by
  unfold Kr
  rw [W.cR,W.cR,WF (by exact jv L)]
  show(if _=u0 then _ else _)=_
  rw [jv,decide_eq_true (J7 L)]
  rfl
 show(Kb _ _ h).map (!·)=_
 rw [e,g]
 rfl
def Iq {L:List Pl}(h) (c:L.length<=1000) (e:Ke (.tup [.str t,.int a,.int b]) (L.map a0)=k0 i):kP .bG (.v (.lst (L.map a0))) [.v (.tup [.str t,.int a,.int b])] h= .ok (.v (.int (i:Int))) h:=by
 have g:Ki (.v (.tup [.str t,.int a,.int b])) (.v (.lst (L.map a0))) h=k0 i:=by
  unfold Ki
  rw [W.cR,W.cR,WF (by exact jv L)]
  show(if _=u0 then _ else _)=_
  rw [jv,decide_eq_true (J7 L),decide_eq_true (by rw [Gg,Aa];lia)]
  exact e
 show(R.of h _).bind _=_
 rw [g]
 rfl
def kf:D->Bool
 | .str _=>u0
 | _=>k9
def oy (n:Nat) (K T:List Tx) (dn b a:D) (i:Nat):Prop:= ∃(t:Tx) (x y:Nat),dn= .str t/\b= .int (x:Int)/\a= .int (y:Int)/\(bH n K T)[i]? =k0 (t,x,y)
section
variable {n:Nat}{K T:List Tx}{S:List Sy}{ro:Nat}{h:AH}
def pY (k) (g:ck n K T) (C:h[ro]? =some (.obj "Cases" (e7 n K T S)))(J:Gc dn=true) (H:Gc da=true) (I:Gc db=true): ∃v:Nat,call prog (k+2) "Cases.bit_of" [.v (.ref ro),.v dn,.v da,.v db] h= .ok (.v (.int (v:Int))) h/\((∃ i,oy n K T dn da db i/\v=2 ^ i)\/(v=0/\ ∀i, ¬oy n K T dn da db i)):=by
 rw [Gb rfl _ _ _ rfl]
 show ∃v:Nat,Gq _ (execs _ _ [k0 _,k0 _,k0 _,k0 _] h)=_/\_
 simp only [Wt]
 have m:=xB k da h H
 have u:=xB k db h I
 have d:cq .str (.v dn)=k0 (kf dn):=by
  cases dn<;>first | rfl | cases J
 by_cases c:kf dn=u0/\Qj da=u0/\Qj db=u0
 ·obtain⟨N,O,B⟩:=c
  obtain⟨t,rfl⟩: ∃t,dn= .str t:=by cases dn<;>first | exact⟨_,rfl⟩ | cases N
  obtain⟨a,rfl⟩: ∃a,da= .int a:=by cases da<;>first | exact⟨_,rfl⟩ | cases O
  obtain⟨b,rfl⟩: ∃b,db= .int b:=by cases db<;>first | exact⟨_,rfl⟩ | cases B
  rw [ja (by simp_all [d,m,u,Qj,kf])]
  have e:=qD (F:=(u9 (k+1))) (τ:= [k0 _,k0 (.v (.str t)),k0 (.v (.int a)),k0 (.v (.int b))]) (i:=0) (f:= "places") C rfl rfl
  have o:=HR t a b (bH n K T) h
  cases q:inD _ ((bH n K T).map a0)with
  | false=>
   rw [q]at o
   refine⟨0,?_,.inr ⟨rfl,λi ⟨M,x,y,j,l,s,z⟩=> ?_⟩⟩
   ·rw [Qc (w:= .v _) (by
     generalize E.fld 0 "Cases" "places" =X at e ⊢
     simp_all [e,o]) rfl]
    exact Ga _ _ _ rfl
   ·cases j;cases l;cases s
    rw [Iz z]at q
    cases q
  | true=>
   rw [q]at o
   obtain⟨i,x,y,j,l,rfl,rfl⟩:=rX t a b _ q
   have Q:i<7:=by
    have:=(Aa1.mp l).1
    rw [zE]at this
    have:=g.b6
    omega
   have D:(bH n K T).length<=1000:=by rw [zE];have:=g.b6;omega
   have G:=Iq h D j
   have P:=zT i (by omega)
   have L:k5 .bG (.v (.lst ((bH n K T).map a0))) h=true:=rfl
   refine⟨2 ^ i,?_,.inl ⟨i,⟨t,x,y,rfl,rfl,rfl,l⟩,rfl⟩⟩
   rw [ja (by
    generalize E.fld 0 "Cases" "places" =X at e ⊢
    simp_all [e,o])]
   rw [qa (w:= .v (.int ((2 ^ i:Nat):Int))) (h1:=h) (Qa rfl (by
    generalize E.fld 0 "Cases" "places" =X at e ⊢
    simp_all [e,L,if_true,G,P])),Ga _ _ _ rfl]
 ·refine⟨0,?_,.inr ⟨rfl,λi ⟨M,x,y,j,l,s,z⟩=>c ⟨by rw [j];rfl,by rw [l];rfl,by rw [s];rfl⟩⟩⟩
  rw [Qc (w:= .v _) ?_ rfl]
  ·exact Ga _ _ _ rfl
  cases p:kf dn with
  | false=>rw [p]at d;simp_all [d]
  | true=>
   rw [p]at d
   cases r:Qj da with
   | false=>rw [r]at m;simp_all [d,m]
   | true=>
    rw [r]at m
    cases A:Qj db with
    | false=>rw [A]at u;simp_all [d,m,u]
    | true=>exact absurd ⟨p,r,A⟩ c
end
def Eo (n a b c j p):((cS n a b c).getD j 0).testBit p=(y9 (j<b)&&(y9 (p<n*n)&&c.testBit (p+(a*n+j*(n*n))))):=by
 rw [Ac5]
 by_cases q:j<b
 ·rw [mH q,Ak5,Ag2,Ag3,decide_eq_true q,Ad9]
 ·rw [List.getElem?_eq_none (by rw [qR];omega),Option.getD_none,Af9,decide_eq_false q,Af0]
def FT (n a b c j p):((cC n a b c).getD j 0).testBit p=(y9 (j<a)&&(y9 (p<n)&&c.testBit (p+j*n))):=by
 rw [Ac5]
 by_cases q:j<a
 ·rw [mI q,Ak5,Ag2,Ag3,decide_eq_true q,Ad9]
 ·rw [List.getElem?_eq_none (by rw [XQ];omega),Option.getD_none,Af9,decide_eq_false q,Af0]
def pC (h:Sub c d):Le (wo n K T c) (wo n K T d):=⟨rfl,λt x y z=>by
 unfold bx at z ⊢
 by_cases q:t∈T
 ·rw [if_pos (show t∈(wo n K T _).T from q)]at z ⊢
  have z:((cS n K.length T.length c).getD (c5 t T) 0).testBit _=true:=z
  show((cS n K.length T.length d).getD _ 0).testBit _=u0
  rw [Eo,Aa0,Aa0]at z ⊢
  exact⟨z.1,z.2.1,h _ z.2.2⟩
 ·rw [if_neg (show t∉(wo n K T _).T from q)]at z ⊢
  have z:(decide _&&((cC n K.length T.length c).getD (c5 t K) 0).testBit x)=true:=z
  show(decide _&&((cC n K.length T.length d).getD (c5 t K) 0).testBit x)=u0
  rw [FT,Aa0,Aa0,Aa0]at z ⊢
  exact⟨z.1,z.2.1,z.2.2.1,h _ z.2.2.2⟩⟩
section
variable {n:Nat}{K T:List Tx}
def JS (c d:Nat)(f:t∈K++T) (a:x<n) (b:y<n) (q: ¬ ∃i:Nat,(bH n K T)[i]? =k0 (t,x,y)):bx (wo n K T c) t x y=false:=by
 cases e:bx _ t x y with
 | false=>rfl
 | true=>exact absurd (mV f a b e) q
def A0 (g:ck n K T)(h:(bH n K T)[i]? =k0 (t,x,y)) (c) (f:t'∈K++T) (b:x'<n) (d:y'<n):bx (wo n K T (c ||| 2 ^ i)) t' x' y'=(bx (wo n K T c) t' x' y'||y9 ((t',x',y')=(t,x,y))):=by
 by_cases q: ∃j:Nat,(bH n K T)[j]? =k0 (t',x',y')
 ·obtain⟨j,a⟩:=q
  rw [(Xk g a _).1,(Xk g a _).1,Af6,Ad3]
  congr 1
  refine decide_eq_decide.mpr ⟨λe=> ?_,λe=> ?_⟩
  ·subst e;rw [h]at a;exact(Ad5.inj a).symm
  ·rw [e]at a;exact mw g h a
 ·rw [JS _ c f b d q,JS _ c f b d q,decide_eq_false λe=>q ⟨i,by rw [e];exact h⟩]
  rfl
def Cw (g:ck n K T)(h:(bH n K T)[i]? =k0 (t,x,y)) (c) (f:t'∈K++T) (b:x'<n) (d:y'<n):bx (wo n K T (c-(c &&& 2 ^ i))) t' x' y'=(bx (wo n K T c) t' x' y'&& !y9 ((t',x',y')=(t,x,y))):=by
 by_cases q: ∃j:Nat,(bH n K T)[j]? =k0 (t',x',y')
 ·obtain⟨j,a⟩:=q
  rw [(Xk g a _).1,(Xk g a _).1,Wf.bu,Ad3]
  congr 2
  refine decide_eq_decide.mpr ⟨λe=> ?_,λe=> ?_⟩
  ·subst e;rw [h]at a;exact(Ad5.inj a).symm
  ·rw [e]at a;exact mw g h a
 ·rw [JS _ c f b d q,JS _ c f b d q]
  rfl
def sF {t t':Tx}(c:y<n) (b:y'<n):y9 ((t',x',y')=(t,x,y))=(y9 (t'=t)&&y9 (x*n+y=x'*n+y')):=by
 by_cases e:t'=t
 ·rw [decide_eq_true e,Ad9]
  refine decide_eq_decide.mpr ⟨λz=> ?_,λz=> ?_⟩
  ·have:x'=x/\y'=y:=by simpa [e]using z
   rw [this.1,this.2]
  ·have d:x=x':=by rw [← Wf.aE (a:=x) c,z,Wf.aE b]
   have f:y=y':=by rw [← Wf.aI c,z,Wf.aI b]
   rw [e,d,f]
 ·rw [decide_eq_false e,Af0,decide_eq_false]
  exact λz=>e (by injection z)
variable {f:Tx->Nat×Nat}{r low high:Nat}{h:AH}
def Dc.fD (P:Dc (wo n K T low) (wo n K T high) f r h) (g:ck n K T):ni n (K++T) f dn da db↔ ∃i,oy n K T dn da db i/\high.testBit i=u0/\low.testBit i=false:=by
 constructor
 ·rintro ⟨t,a,b,rfl,rfl,rfl,d,e,c,k,l⟩
  have q:=(P.hi t d).bit a b e c
  have m:=q.mp l
  obtain⟨i,j⟩:=mV d e c m
  refine⟨i,⟨t,a,b,rfl,rfl,rfl,j⟩,by rw [← (Xk g j high).1];exact m,?_⟩
  rw [← (Xk g j low).1]
  refine Ah6.mpr λz=> ?_
  have:=((P.lo t d).bit a b e c).mpr z
  rw [show (f t).1.testBit (a*(wo n K T low).n+b)=k9 from k]at this
  cases this
 ·rintro ⟨i,⟨t,a,b,rfl,rfl,rfl,j⟩,k,l⟩
  obtain⟨e1,d,e,c⟩:=Xk g j low
  have e2:=(Xk g j high).1
  refine⟨t,a,b,rfl,rfl,rfl,d,e,c,?_,?_⟩
  ·refine Ah6.mpr λz=> ?_
   have:=((P.lo t d).bit a b e c).mp z
   rw [e1,l]at this
   cases this
  ·exact((P.hi t d).bit a b e c).mpr (by rw [e2,k])
def Dc.yes (P:Dc (wo n K T low) (wo n K T high) f r h) (g:ck n K T)(m:(bH n K T)[i]? =k0 (t,x,y))(e:h'[r']? =k0 (.aG (aF (K++T) (Qz f t ((f t).1 ||| 2 ^ (x*n+y),(f t).2))))):Dc (wo n K T (low ||| 2 ^ i)) (wo n K T high) (Qz f t ((f t).1 ||| 2 ^ (x*n+y),(f t).2)) r' h':=by
 obtain⟨-,s,p,o⟩:=Xk g m low
 refine⟨e,g.n4,λd l=> ?_,λd l=> ?_⟩
 ·have v:=P.lo d l
  have k: ∀a b,a<n->b<n->bx _ d a b=(bx (wo n K T low) d a b||(y9 (d=t)&&y9 (x*n+y=a*n+b))):=λa b j k=>by rw [A0 g m low l j k,sF o k]
  unfold Qz
  by_cases q:d=t
  ·subst q
   rw [if_pos rfl]
   refine⟨oF v.lt (Nat.pow_lt_pow_right (by decide) (Wf.place_lt p o)),λa b j c=> ?_⟩
   rw [k a b j c,decide_eq_true rfl,Ad9]
   rw [Af6,Ad3,Ae7,Ae7]
   exact or_congr (v.bit a b j c) Iff.rfl
  ·rw [if_neg q]
   refine⟨v.lt,λa b j c=> ?_⟩
   rw [k a b j c,decide_eq_false q,Af0,Bool.or_false]
   exact v.bit a b j c
 ·have v:=P.hi d l
  unfold Qz
  by_cases q:d=t
  ·subst q;rw [if_pos rfl];exact v
  ·rw [if_neg q];exact v
def Dc.no (P:Dc (wo n K T low) (wo n K T high) f r h) (g:ck n K T)(p:(bH n K T)[i]? =k0 (t,x,y)) (m:high.testBit i=u0)(e:h'[r']? =k0 (.aG (aF (K++T) (Qz f t ((f t).1,(f t).2-2 ^ (x*n+y)))))):Dc (wo n K T low) (wo n K T (high-(high &&& 2 ^ i))) (Qz f t ((f t).1,(f t).2-2 ^ (x*n+y))) r' h':=by
 obtain⟨o,A,u,s⟩:=Xk g p high
 refine⟨e,g.n4,λc l=> ?_,λc l=> ?_⟩
 ·have v:=P.lo c l
  unfold Qz
  by_cases q:c=t
  ·subst q;rw [if_pos rfl];exact v
  ·rw [if_neg q];exact v
 ·have v:=P.hi c l
  have k: ∀a b,a<n->b<n->bx _ c a b=(bx (wo n K T high) c a b&& !(y9 (c=t)&&y9 (x*n+y=a*n+b))):=λa b j k=>by rw [Cw g p high l j k,sF s k]
  unfold Qz
  by_cases q:c=t
  ·subst q
   rw [if_pos rfl]
   have bt:(f c).2.testBit (x*n+y)=true:=(v.bit x y u s).mpr (by rw [o];exact m)
   have w:=by
    have:=XG (f c).2 (x*n+y)
    rw [zd,Qd,bt,if_pos rfl]at this
    exact An3.inj (Ad5.inj this)
   refine⟨Ai5 (Nat.sub_le _ _) v.lt,λa b j d=> ?_⟩
   rw [k a b j d,decide_eq_true rfl,Ad9]
   have z:(f c).2-2 ^ (x*n+y)=(f c).2-((f c).2 &&& 2 ^ (x*n+y)):=by rw [w]
   rw [z,Wf.bu,Ad3,Aa0,Aa0]
   exact and_congr (v.bit a b j d) Iff.rfl
  ·rw [if_neg q]
   refine⟨v.lt,λa b j d=> ?_⟩
   rw [k a b j d,decide_eq_false q,Af0,An8,Bool.and_true]
   exact v.bit a b j d
end
abbrev wc:Tx:= [98,114,111,107,101,110]
abbrev xa:Tx:= [115,112,108,105,116]
abbrev aZ (K T:List Tx) (S:List Sy):D:= .tup [wD K T,.tup (S.map aM)]
def sZ (w) (h) (a:Gc x=u0) (b:dep x<150):Gs .eq (.v x) (.v (.str w)) h=k0 (bL x (.str w)):=by
 rw [nu,W.cR,W.cR,WF a]
 show(if (Gc x&&u0&&decide _)=u0 then k0 (bL x _)else y0)=_
 rw [a,decide_eq_true b]
 rfl
def Bt (w) (h) (a:Gc x=u0) (b:dep x<150):Gs .ne (.v x) (.v (.str w)) h=k0 (!bL x (.str w)):=by
 rw [oP,W.cR,W.cR,WF a]
 show(if (Gc x&&u0&&decide _)=u0 then k0 (!bL x _)else y0)=_
 rw [a,decide_eq_true b]
 rfl
def z9 (x) (w):bL x (.str w)=u0->x= .str w:=by
 cases x with
 | str s=>intro z;rw [bL,beq_iff_eq]at z;rw [z]
 | _=>intro z;cases z
def dJ (w:Tx) (l:Nat):D->Bool
 | .tup (x::r)=>bL x (.str w)&&y9 (r.length+1=l)
 | _=>k9
def Zl (k) (w) (l:Nat) (n:0<l)(h) (d:Gc p=u0) (i:dep p<150):call prog (k+1) "is_tuple_of" [.v p,.v (.str w),.v (.int (l:Int))] h= .ok (.v (.bl (dJ w l p))) h:=by
 rw [Gb rfl _ _ _ rfl]
 show Gq _ (execs _ _ [k0 _,k0 _,k0 _] h)=_
 simp only [zy]
 by_cases c: ∃b,p= .tup b
 ·obtain⟨b,rfl⟩:=c
  have a:cq .tuple (.v (.tup b))=k0 true:=rfl
  have f:=X1 b.length l h
  by_cases e:b.length=l
  ·rw [decide_eq_true e]at f
   rw [ja (by simp_all [a,Wh,aD,f])]
   cases b with
   | nil=>exact absurd e (by simp;omega)
   | cons x r=>
    have d:=by simpa using d
    have i:dep x<150:=by simp only [dep,GD]at i;omega
    have j:eval (u9 k) (.cq (.ix .v0 (.int 0)) .str) [k0 (.v (.tup (x::r))),k0 (.v (.str w)),k0 (.v (.int (l:Int)))] h= .ok (.v (.bl (kf x))) h:=by
     have g:cq .str (.v x)=k0 (kf x):=by
      cases x<;>first | rfl | exact absurd d.1 (by simp)
     simp_all [ae,qf,g]
    have m:eval (u9 k) (.cmp .eq (.ix .v0 (.int 0)) .v1) [k0 (.v (.tup (x::r))),k0 (.v (.str w)),k0 (.v (.int (l:Int)))] h= .ok (.v (.bl (bL x (.str w)))) h:=by
     simp_all [ae,qf,sZ w h d.1 i]
    rw [qa (w:= .v (.bl (dJ w l (.tup (x::r))))) (Qa rfl (by
     rw [wt j m]
     congr 3
     show _=(bL x (.str w)&&y9 (r.length+1=l))
     rw [decide_eq_true (by simpa using e)]
     cases q:bL x (.str w)with
     | true=>rw [z9 x w q];rfl
     | false=>rw [An9];rfl)),Ga _ _ _ rfl]
  ·rw [decide_eq_false e]at f
   rw [Qc (by simp_all [a,Wh,aD,f]) rfl,Ga _ _ _ rfl]
   congr 3
   cases b with
   | nil=>rfl
   | cons x r=>rw [dJ,decide_eq_false (by simpa using e),An9]
 ·have a:cq .tuple (.v p)=k0 false:=by
   cases p<;>first | rfl | exact absurd ⟨_,rfl⟩ c | exact absurd d (by simp)
  rw [Qc (by simp_all [a]) rfl,Ga _ _ _ rfl]
  congr 3
  cases p<;>first | rfl | exact absurd ⟨_,rfl⟩ c
section
variable {n:Nat}{K T:List Tx}{S:List Sy}{h:AH}
abbrev fb (th:D) (n r:Nat) (p:D) (x:Option W):Sl:= [k0 (.v th),k0 (.v (.int (n:Int))),k0 (.v (.ref r)),k0 (.v p),x]
def FP (m r){p:D}(b:Gc p=true) (c: ∀x xs,p≠ .tup (x::xs)):call prog (m+1) "_law_walks" [.v (aZ K T S),.v (.int (n:Int)),.v (.ref r),.v p] h= .ok (.v (.bl false)) h:=by
 show Gq _ (execs _ _ (fb _ n r p y0) h)=_
 simp only [jf]
 rw [Qc ?_ rfl,Ga _ _ _ rfl]
 by_cases q: ∃xs,p= .tup xs
 ·obtain⟨xs,rfl⟩:=q
  cases xs with
  | nil=>
   have a:cq .tuple (.v (.tup []))=k0 true:=rfl
   have z:Gs .eq _ (.v (.int 0)) h=k0 true:=zi 0 0 h
   simp_all [a,Wh,Ah4,z]
  | cons x xs=>exact absurd rfl (c x xs)
 ·have a:cq .tuple (.v p)=k0 false:=by
   cases p<;>first | rfl | exact absurd ⟨_,rfl⟩ q | exact absurd b (by simp)
  simp_all [a]
def mq {r l:Nat}(w) (d:(l:Int)=li) (c:Gc x=u0) (e:dep x<150):Gm F (.and (.cmp .eq (.ix .v3 (.int 0)) (.str w)) (.cmp .eq (.bi .len (.a .v3)) (.int li))) (fb th n r (.tup (x::xs)) y0) h= .ok (dJ w l (.tup (x::xs))) h:=by
 subst d
 rw [Gm,wt (a:=bL x (.str w)) (b:=y9 (xs.length+1=l)) (by simp_all [ae,qf,sZ w h c e]) (by
  have:=zi (xs.length+1) l h
  simp_all [Wh,Ab,this]),R.ab]
 rfl
def Z7 {r l:Nat}(w) (d:(l:Int)=li) (c:Gc x=u0) (e:dep x<150):Gm F (.or (.cmp .ne (.ix .v3 (.int 0)) (.str w)) (.cmp .ne (.bi .len (.a .v3)) (.int li))) (fb th n r (.tup (x::xs)) y0) h= .ok (!dJ w l (.tup (x::xs))) h:=by
 subst d
 rw [Gm,xR (a:= !bL x (.str w)) (b:= !y9 (xs.length+1=l)) (by simp_all [ae,qf,Bt w h c e]) (by
  have:=X1 (xs.length+1) l h
  simp_all [Wh,Ab,this]),R.ab,←Bool.not_and]
 rfl
def lH :Gm F (.or (.not (.cq .v3 .tuple)) (.cmp .eq (.bi .len (.a .v3)) (.int 0))) (fb th n r (.tup (x::xs)) y0) h= .ok k9 h:=rfl
def Iy (m r)(b:Gc x=true) (d:dep x<150) (e:dJ wc 2 (.tup (x::xs))=false) (f:dJ xa 6 (.tup (x::xs))=false):call prog (m+1) "_law_walks" [.v (aZ K T S),.v (.int (n:Int)),.v (.ref r),.v (.tup (x::xs))] h= .ok (.v (.bl false)) h:=by
 show Gq _ (execs _ _ (fb _ n r _ y0) h)=_
 simp only [jf]
 have a:=mq (F:=(u9 m)) (n:=n) (h:=h) (th:=aZ K T S) (r:=r) (li:=2) (xs:=xs) wc rfl b d
 have c:=Z7 (F:=(u9 m)) (n:=n) (h:=h) (th:=aZ K T S) (r:=r) (l:=6) (li:=6) (xs:=xs) xa rfl b d
 rw [e]at a
 rw [f]at c
 rw [ja lH,ja a,Qc (w:= .v _) c rfl,Ga _ _ _ rfl]
def uJ (m r)(B:Gc y=true)(z:b=true-> ∃(j:Nat) (s:Sy) (o:Option Bool),y= .int (j:Int)/\S[j]? =some s/\o=some false/\call prog (m+1) "_law_told" [.v (.int (n:Int)),.v (.ref r),.v (aM s)] h= .ok (.v (aH o)) h) (t:b=false->Jd y S.length=true-> ∃(j:Nat) (s:Sy) (o:Option Bool),y= .int (j:Int)/\S[j]? =some s/\o≠some false/\call prog (m+1) "_law_told" [.v (.int (n:Int)),.v (.ref r),.v (aM s)] h= .ok (.v (aH o)) h):call prog (m+2) "_law_walks" [.v (aZ K T S),.v (.int (n:Int)),.v (.ref r),.v (.tup [.str wc,y])] h= .ok (.v (.bl b)) h:=by
 rw [Gb (d:=jf) rfl _ _ _ rfl]
 show Gq _ (execs _ _ (fb (aZ K T S) n r (.tup [.str wc,y]) y0) h)=_
 simp only [jf]
 have k:=mq (F:=(u9 (m+1))) (n:=n) (h:=h) (th:=aZ K T S) (r:=r) (l:=2) (li:=2) (xs:= [y]) (x:= .str wc) wc rfl rfl (by simp)
 rw [ja lH,qa (w:= .v (.bl b)) (h1:=h) ((Qr (h1:=h) k).trans ?_),Ga _ _ _ rfl]
 have e:=Zw m y h B
 have a:aW [D.str wc,y] 1=k0 y:=rfl
 have v:Gm (u9 (m+1)) (.or (.not (.call "_law_whole" (.a (.ix .v3 (.int 1))))) (.not (.chain .le .lt (.int 0) (.ix .v3 (.int 1)) (.bi .len (.a (.ix .v0 (.int 1))))))) (fb (aZ K T S) n r (.tup [.str wc,y]) none) h= .ok (!Jd y S.length) h:=by
  cases q:Qj y with
  | false=>
   rw [q]at e
   have:Jd y S.length=false:=by cases y<;>first | rfl | cases q
   rw [this]
   simp_all [ae,a,e]
  | true=>
   rw [q]at e
   obtain⟨i,rfl⟩: ∃i,y= .int i:=by cases y<;>first | exact⟨_,rfl⟩ | cases q
   by_cases u:(0:Int)<=i
   ·simp_all [ae,a,Qe,e,qu,Xv,aD,u,decide_true,Ad9,Wh,Aa,Jd]
   ·simp_all [ae,a,Qe,e,qu,Xv,aD,u,decide_false,Af0,Jd]
 have p: ∀(j:Nat) s o,y= .int (j:Int)->S[j]? =some s->call prog (m+1) "_law_told" [.v (.int (n:Int)),.v (.ref r),.v (aM s)] h= .ok (.v (aH o)) h->Jd y S.length=true/\eval (u9 (m+1)) (.cmp .cH (.call "_law_told" (.c .v1 .v2 (.ix (.ix .v0 (.int 1)) (.ix .v3 (.int 1))))) (.bl false)) (fb (aZ K T S) n r (.tup [.str wc,y]) none) h= .ok (.v (.bl (o==some false))) h:=by
  intro j s o e1 e2 c
  subst e1
  have A:j<S.length:=(Aa1.mp e2).1
  have g:aW (S.map aM) (j:Int)=k0 (aM s):=by rw [zg _ _ (by rw [Aa];exact A),Ac2,e2];rfl
  refine⟨?_,?_⟩
  ·rw [Jd,Aa0,decide_eq_true_eq,decide_eq_true_eq]
   omega
  ·have cH:=ku o k9 h
   simp_all [ae,a,Qe,g,c,cH]
 cases q:Jd y S.length with
 | false=>
  have:b=false:=by
   cases b with
   | false=>rfl
   | true=>
    obtain⟨j,s,o,e1,e2,c,f⟩:=z rfl
    rw [(p j s o e1 e2 f).1]at q
    cases q
  subst this
  rw [Qc (w:= .v (.bl k9)) (by rw [v,q];rfl) rfl]
 | true=>
  rw [ja (by rw [v,q];rfl)]
  cases b with
  | true=>
   obtain⟨j,s,o,e1,e2,c,f⟩:=z rfl
   rw [qa (Qa rfl (p j s o e1 e2 f).2),c]
   rfl
  | false=>
   obtain⟨j,s,o,e1,e2,c,f⟩:=t rfl q
   rw [qa (Qa rfl (p j s o e1 e2 f).2),beq_eq_false_iff_ne.mpr c]
def Cq (m r)(e:call prog (m+1) "_law_split" [.v (.int (n:Int)),.v (.ref r),.v (.tup [dn,da,db])] h= .ok (.own [.ref h.length,.ref (h.length+1)]) h2) (j:h2.take h.length=h) (g:h.length<=h2.length)
 (c:call prog (m+1) "_law_walks" [.v (aZ K T S),.v (.int (n:Int)),.v (.ref h.length),.v p1] h2= .ok (.v (.bl b1)) h2) (i:call prog (m+1) "_law_walks" [.v (aZ K T S),.v (.int (n:Int)),.v (.ref (h.length+1)),.v p2] h2= .ok (.v (.bl b2)) h2):
 call prog (m+2) "_law_walks" [.v (aZ K T S),.v (.int (n:Int)),.v (.ref r),.v (.tup [.str xa,dn,da,db,p1,p2])] h= .ok (.v (.bl (b1&&b2))) h:=by
 rw [Gb rfl _ _ _ rfl]
 show Gq _ (execs _ _ (fb _ n r _ y0) h)=_
 simp only [jf]
 have a:=mq (F:=(u9 (m+1))) (n:=n) (h:=h) (th:=aZ K T S) (r:=r) (l:=2) (li:=2) (xs:= [dn,da,db,p1,p2]) (x:= .str xa) wc rfl rfl (by simp)
 have f:=Z7 (F:=(u9 (m+1))) (n:=n) (h:=h) (th:=aZ K T S) (r:=r) (l:=6) (li:=6) (xs:= [dn,da,db,p1,p2]) (x:= .str xa) xa rfl rfl (by simp)
 rw [ja lH,ja a,ja f]
 have q:cut [D.str xa,dn,da,db,p1,p2] (k0 1) (k0 4)= [dn,da,db]:=rfl
 have k:eb (.v (.tup [D.str xa,dn,da,db,p1,p2])) (k0 1) (k0 4) h= .ok (.v (.tup [dn,da,db])) h:=rfl
 rw [za (τ1:=fb (aZ K T S) n r (.tup [.str xa,dn,da,db,p1,p2]) (k0 (.v (.lst [.ref h.length,.ref (h.length+1)])))) (h1:=h2) (by simp_all [k,e])]
 rw [ja (by simp_all [])]
 have a4:aW [D.str xa,dn,da,db,p1,p2] 4=k0 p1:=rfl
 have a5:aW [D.str xa,dn,da,db,p1,p2] 5=k0 p2:=rfl
 rw [qa (w:= .v (.bl (b1&&b2))) (h1:=h2) (Qa rfl (wt (by simp_all [xr,jk,ae,a4,c]) (by simp_all [xr,Qe,ae,a5,i])))]
 obtain⟨p,b,o⟩:=kr (d:= .bl _) (h:=h2) (n:=h.length) rfl g
 rw [b,o,j]
def yH (m r)(e:call prog (m+1) "_law_split" [.v (.int (n:Int)),.v (.ref r),.v (.tup [dn,da,db])] h= .ok (.v .ak) h):call prog (m+2) "_law_walks" [.v (aZ K T S),.v (.int (n:Int)),.v (.ref r),.v (.tup [.str xa,dn,da,db,p1,p2])] h= .ok (.v (.bl false)) h:=by
 rw [Gb rfl _ _ _ rfl]
 show Gq _ (execs _ _ (fb _ n r _ y0) h)=_
 simp only [jf]
 have a:=mq (F:=(u9 (m+1))) (n:=n) (h:=h) (th:=aZ K T S) (r:=r) (li:=2) (xs:= [dn,da,db,p1,p2]) (x:= .str xa) wc rfl rfl (by simp)
 have b:=Z7 (F:=(u9 (m+1))) (n:=n) (h:=h) (th:=aZ K T S) (r:=r) (l:=6) (li:=6) (xs:= [dn,da,db,p1,p2]) (x:= .str xa) xa rfl rfl (by simp)
 rw [ja lH,ja a,ja b]
 have c:eb (.v (.tup [D.str xa,dn,da,db,p1,p2])) (k0 1) (k0 4) h= .ok (.v (.tup [dn,da,db])) h:=rfl
 rw [za (τ1:=fb (aZ K T S) n r (.tup [.str xa,dn,da,db,p1,p2]) (k0 (.v .ak))) (h1:=h) (by simp_all [c,e])]
 rw [Qc (w:= .v _) (by simp_all [aD,An8]) rfl,Ga _ _ _ rfl]
end
section
variable {n:Nat}{K T:List Tx}{S:List Sy}{h:AH}{ro low high:Nat}
noncomputable abbrev eP (ro:Nat) (p:D) (low high:Nat) (x y:Option W):Sl:= [k0 (.v (.ref ro)),k0 (.v p),k0 (.v (.int (low:Int))),k0 (.v (.int (high:Int))),x,y]
def kW (e:F.call "is_tuple_of" [.v p,.v (.str w),.v (.int l)] h= .ok (.v (.bl b)) h):eval F (.call "is_tuple_of" (.c .v1 (.str w) (.int l))) (eP ro p low high x y) h= .ok (.v (.bl b)) h:=by
 simp_all [e]
def Il (m)(c:Gc p=true) (d:dep p<150) (e:dJ wc 2 p=false) (f:dJ xa 6 p=false):call prog (m+2) "Cases.is_shown" [.v (.ref ro),.v p,.v (.int (low:Int)),.v (.int (high:Int))] h= .ok (.v (.bl false)) h:=by
 show Gq _ _=_
 simp only [Xc]
 have a:=Zl m wc 2 (by decide) h c d
 have b:=Zl m xa 6 (by decide) h c d
 rw [e]at a
 rw [f]at b
 have a:=kW (F:=(u9 (m+1))) (ro:=ro) (low:=low) (high:=high) (x:=y0) (y:=y0) a
 have b:=kW (F:=(u9 (m+1))) (ro:=ro) (low:=low) (high:=high) (x:=y0) (y:=y0) b
 rw [ja (by rw [Gm];refine Eq.trans (congrArg (λz=>R.bind z _) a) ?_;rfl)]
 rw [Qc (w:= .v _) (by rw [Gm,eval];refine Eq.trans (congrArg (λz=>R.bind (R.bind z _) _) b) ?_;rfl) rfl,Ga _ _ _ rfl]
def si (m)(C:h[ro]? =some (.obj "Cases" (e7 n K T S))) (A:Gc y=true) (G:dep y<140)(v:b=true-> ∃(j:Nat) (o:Option Bool),y= .int (j:Int)/\j<S.length/\o=some false/\call prog (m+2) "Cases.truth" [.v (.ref ro),.v (.int (j:Int)),.v (.int (low:Int)),.v (.int (high:Int))] h= .ok (.v (aH o)) h) (t:b=false->Jd y S.length=true-> ∃(j:Nat) (o:Option Bool),y= .int (j:Int)/\j<S.length/\o≠some false/\call prog (m+2) "Cases.truth" [.v (.ref ro),.v (.int (j:Int)),.v (.int (low:Int)),.v (.int (high:Int))] h= .ok (.v (aH o)) h):call prog (m+3) "Cases.is_shown" [.v (.ref ro),.v (.tup [.str wc,y]),.v (.int (low:Int)),.v (.int (high:Int))] h= .ok (.v (.bl b)) h:=by
 rw [Gb (d:=Xc) rfl _ _ _ rfl]
 show Gq _ (execs _ _ (eP ro (.tup [.str wc,y]) low high y0 y0) h)=_
 simp only [Xc]
 have a:=Zl (m+1) wc 2 (by decide) (p:= .tup [.str wc,y]) h (by simpa using A) (by simp only [dep,GD];omega)
 have a:=kW (F:=(u9 (m+2))) (ro:=ro) (low:=low) (high:=high) (x:=y0) (y:=y0) (p:= .tup [.str wc,y]) (b:=u0) (w:=wc) (l:=2) a
 rw [qa (w:= .v (.bl b)) (h1:=h) ((Qr (h1:=h) (by rw [Gm];refine Eq.trans (congrArg (λz=>R.bind z _) a) ?_;rfl)).trans ?_),Ga _ _ _ rfl]
 have s:aW [D.str wc,y] 1=k0 y:=rfl
 rw [za (τ1:=eP ro (.tup [.str wc,y]) low high (k0 (.v y)) y0) (h1:=h) (by simp_all [ae,s])]
 have B:=qB m y S.length h A
 have u:=qD (F:=(u9 (m+2))) (τ:=eP ro (.tup [.str wc,y]) low high (k0 (.v y)) y0) (i:=0) (f:= "sayings") C rfl rfl
 have e:eval (u9 (m+2)) (.call "is_below" (.b .v4 (.bi .len (.a (.fld 0 "Cases" "sayings"))))) (eP ro (.tup [.str wc,y]) low high (some (.v y)) none) h= .ok (.v (.bl (Jd y S.length))) h:=by
  generalize E.fld 0 "Cases" "sayings" =X at u ⊢
  simp_all [u,Wh,aD,Aa,B]
 have r: ∀(j:Nat) (o:Option Bool),y= .int (j:Int)->j<S.length->call prog (m+2) "Cases.truth" [.v (.ref ro),.v (.int (j:Int)),.v (.int (low:Int)),.v (.int (high:Int))] h= .ok (.v (aH o)) h->Jd y S.length=true/\eval (u9 (m+2)) (.cmp .cH (.bw 0 "Cases" "truth" "Cases.truth" (.c .v4 .v2 .v3)) (.bl false)) (eP ro (.tup [.str wc,y]) low high (some (.v y)) none) h= .ok (.v (.bl (o==some false))) h:=by
  intro j o e1 e2 c
  subst e1
  refine⟨?_,?_⟩
  ·rw [Jd,Aa0,decide_eq_true_eq,decide_eq_true_eq]
   omega
  ·have k:=x3 (F:=(u9 (m+2))) (τ:=eP ro (.tup [.str wc,.int (j:Int)]) low high (k0 (.v (.int (j:Int)))) y0) (i:=0) (m:= "truth") (q:= "Cases.truth") (es:= .cons .v4 (.b .v2 .v3)) (ws:= [.v (.int (j:Int)),.v (.int (low:Int)),.v (.int (high:Int))]) C rfl rfl (by simp_all [])
   have k:=k.trans c
   have cH:=ku o k9 h
   generalize E.bw 0 "Cases" "truth" "Cases.truth" _=X at k ⊢
   simp_all [k,cH]
 cases q:Jd y S.length with
 | false=>
  have:b=false:=by
   cases b with
   | false=>rfl
   | true=>
    obtain⟨j,o,e1,e2,c,g⟩:=v rfl
    rw [(r j o e1 e2 g).1]at q
    cases q
  subst this
  rw [q]at e
  refine qa (Qa rfl ?_)
  rw [eval,e]
  rfl
 | true=>
  rw [q]at e
  cases b with
  | true=>
   obtain⟨j,o,e1,e2,c,g⟩:=v rfl
   refine qa (Qa rfl ?_)
   rw [wt e (r j o e1 e2 g).2,c]
   rfl
  | false=>
   obtain⟨j,o,e1,e2,c,g⟩:=t rfl q
   refine qa (Qa rfl ?_)
   rw [wt e (r j o e1 e2 g).2,beq_eq_false_iff_ne.mpr c]
   rfl
def rM (i):((2 ^ i &&& high)-((2 ^ i &&& high) &&& low)=0)↔ ¬(high.testBit i=u0/\low.testBit i=k9):=by
 rw [sub_zero]
 constructor
 ·rintro z ⟨c,b⟩
  have:=z i (by simp_all)
  rw [b]at this
  cases this
 ·intro z k a
  rw [Ah7,Ad3,Aa0,decide_eq_true_eq]at a
  obtain⟨rfl,a⟩:=a
  cases q:low.testBit i with
  | true=>rfl
  | false=>exact absurd ⟨a,q⟩ z
def uj (m)(C:h[ro]? =some (.obj "Cases" (e7 n K T S))) (o:Gc (.tup [.str xa,dn,da,db,p1,p2])=true) (k:dep (.tup [.str xa,dn,da,db,p1,p2])<150){v:Nat}(e:call prog (m+1) "Cases.bit_of" [.v (.ref ro),.v dn,.v da,.v db] h= .ok (.v (.int (v:Int))) h)
 (z:(v &&& high)-((v &&& high) &&& low)=0->b=k9) (s:(v &&& high)-((v &&& high) &&& low)≠0-> ∃j b2,b=(j&&b2)/\call prog (m+1) "Cases.is_shown" [.v (.ref ro),.v p1,.v (.int ((low ||| v:Nat):Int)),.v (.int (high:Int))] h= .ok (.v (.bl j)) h/\call prog (m+1) "Cases.is_shown" [.v (.ref ro),.v p2,.v (.int (low:Int)),.v (.int ((high-(high &&& v):Nat):Int))] h= .ok (.v (.bl b2)) h):
 call prog (m+2) "Cases.is_shown" [.v (.ref ro),.v (.tup [.str xa,dn,da,db,p1,p2]),.v (.int (low:Int)),.v (.int (high:Int))] h= .ok (.v (.bl b)) h:=by
 rw [Gb (d:=Xc) rfl _ _ _ rfl]
 show Gq _ (execs _ _ (eP ro (.tup [.str xa,dn,da,db,p1,p2]) low high y0 y0) h)=_
 simp only [Xc]
 have a:=Zl m wc 2 (by decide) (p:= .tup [.str xa,dn,da,db,p1,p2]) h o k
 have f:=Zl m xa 6 (by decide) (p:= .tup [.str xa,dn,da,db,p1,p2]) h o k
 have a:=kW (F:=(u9 (m+1))) (ro:=ro) (low:=low) (high:=high) (x:=y0) (y:=y0) (p:= .tup [.str xa,dn,da,db,p1,p2]) (b:=k9) (w:=wc) (l:=2) a
 have f:=kW (F:=(u9 (m+1))) (ro:=ro) (low:=low) (high:=high) (x:=y0) (y:=y0) (p:= .tup [.str xa,dn,da,db,p1,p2]) (b:=u0) (w:=xa) (l:=6) f
 rw [ja (by rw [Gm];refine Eq.trans (congrArg (λz=>R.bind z _) a) ?_;rfl)]
 rw [ja (by rw [Gm,eval];refine Eq.trans (congrArg (λz=>R.bind (R.bind z _) _) f) ?_;rfl)]
 have t:aW [D.str xa,dn,da,db,p1,p2] 1=k0 dn:=rfl
 have a2:aW [D.str xa,dn,da,db,p1,p2] 2=k0 da:=rfl
 have a3:aW [D.str xa,dn,da,db,p1,p2] 3=k0 db:=rfl
 have a4:aW [D.str xa,dn,da,db,p1,p2] 4=k0 p1:=rfl
 have a5:aW [D.str xa,dn,da,db,p1,p2] 5=k0 p2:=rfl
 have c:=x3 (F:=(u9 (m+1))) (τ:=eP ro (.tup [.str xa,dn,da,db,p1,p2]) low high y0 y0) (i:=0) (m:= "bit_of") (q:= "Cases.bit_of") (es:= .cons (.ix .v1 (.int 1)) (.b (.ix .v1 (.int 2)) (.ix .v1 (.int 3)))) (ws:= [.v dn,.v da,.v db]) C rfl rfl (by simp_all [ae,t,a2,a3])
 have c:=c.trans e
 rw [za (τ1:=eP ro (.tup [.str xa,dn,da,db,p1,p2]) low high y0 (k0 (.v (.int (v:Int))))) (h1:=h) (by
  generalize E.bw 0 "Cases" "bit_of" "Cases.bit_of" (.c (.ix .v1 (.int 1)) (.ix .v1 (.int 2)) (.ix .v1 (.int 3)))=X at c ⊢
  simp_all [c])]
 have g:Gm (u9 (m+1)) (.cmp .eq (.bin .band (.bin .band .v5 .v3) (.inv .v2)) (.int 0)) (eP ro (.tup [.str xa,dn,da,db,p1,p2]) low high y0 (k0 (.v (.int (v:Int))))) h= .ok (y9 ((v &&& high)-((v &&& high) &&& low)=0)) h:=by
  simp_all [zd,Qd,J4,jQ]
 by_cases q:(v &&& high)-((v &&& high) &&& low)=0
 ·rw [Qc (w:= .v (.bl k9)) (by rw [g,decide_eq_true q]) rfl,z q,Ga _ _ _ rfl]
 ·obtain⟨j,b2,rfl,e1,e2⟩:=s q
  rw [ja (by rw [g,decide_eq_false q])]
  have u:=x3 (F:=(u9 (m+1))) (τ:=eP ro (.tup [.str xa,dn,da,db,p1,p2]) low high y0 (k0 (.v (.int (v:Int))))) (i:=0) (m:= "is_shown") (q:= "Cases.is_shown") (es:= .cons (.ix .v1 (.int 4)) (.b (.bin .bor .v2 .v5) .v3)) (ws:= [.v p1,.v (.int ((low ||| v:Nat):Int)),.v (.int (high:Int))]) C rfl rfl (by simp_all [ae,a4,Jq,Xn])
  have r:=x3 (F:=(u9 (m+1))) (τ:=eP ro (.tup [.str xa,dn,da,db,p1,p2]) low high y0 (k0 (.v (.int (v:Int))))) (i:=0) (m:= "is_shown") (q:= "Cases.is_shown") (es:= .cons (.ix .v1 (.int 5)) (.b .v2 (.bin .band .v3 (.inv .v5)))) (ws:= [.v p2,.v (.int (low:Int)),.v (.int ((high-(high &&& v):Nat):Int))]) C rfl rfl (by simp_all [ae,a5,zd,J4])
  rw [qa (w:= .v (.bl (j&&b2))) (h1:=h) (Qa rfl (wt (u.trans e1) (r.trans e2))),Ga _ _ _ rfl]
end
def pX (h:dJ wc 2 p=u0): ∃y,p= .tup [.str wc,y]:=by
 unfold dJ at h
 split at h
 ·rename_i x r
  rw [Aa0,decide_eq_true_eq]at h
  rw [z9 _ _ h.1]
  match r,h.2 with
  | [y],_=>exact⟨y,rfl⟩
 ·cases h
def r9 (h:dJ xa 6 p=u0): ∃a b c d e,p= .tup [.str xa,a,b,c,d,e]:=by
 unfold dJ at h
 split at h
 ·rename_i x r
  rw [Aa0,decide_eq_true_eq]at h
  rw [z9 _ _ h.1]
  match r,h.2 with
  | [a,b,c,d,e],_=>exact⟨a,b,c,d,e,rfl⟩
 ·cases h
def Fj (h:Sub a w) (q:Sub b w):Sub (a ||| b) w:=λk z=>by
 rw [Af6,Ae7]at z
 exact z.elim (h k) (q k)
def K0 (h:Sub w c) (q:w.testBit i=k9):Sub w (c-(c &&& 2 ^ i)):=λk z=>by
 rw [Wf.bu,h k z,Ad3,Ad9,Ah5]
 refine decide_eq_false λe=> ?_
 rw [← e,q]at z
 cases z
structure Wk (n:Nat) (K T:List Tx) (S:List Sy) (c:Nat) (p:D) (low high r:Nat) (h:AH) (b:Bool):Prop where
 lJ: ∀m,c<=m->call prog m "_law_walks" [.v (aZ K T S),.v (.int (n:Int)),.v (.ref r),.v p] h= .ok (.v (.bl b)) h
 o3: ∀m ro (h':AH),c<=m->h'[ro]? =k0 (.obj "Cases" (e7 n K T S))->call prog m "Cases.is_shown" [.v (.ref ro),.v p,.v (.int (low:Int)),.v (.int (high:Int))] h'= .ok (.v (.bl b)) h'
 snd:b=u0-> ∀w,Sub low w->Sub w high-> ∃s∈S,∀o,Td (wo n K T w) (wo n K T w) s o->o=k0 k9
def walk {S:List Sy}(g:ck n K T) (q:Nat) (hS: ∀s∈S,s.wf (K++T)/\s.dp<=q): ∀(d:Nat) (p:D),Gc p=u0->dep p<=d->d<100-> ∀(low high:Nat) (f:Tx->Nat×Nat) (r:Nat) (h:AH),low<2 ^ bN n K T->high<2 ^ bN n K T->Dc (wo n K T low) (wo n K T high) f r h-> ∃b,Wk n K T S (d+q+12) p low high r h b:=by
 have no: ∀(c:Nat) (p:D),2<=c->Gc p=u0->dep p<150->dJ wc 2 p=k9->dJ xa 6 p=k9-> ∀(low high r:Nat) (h:AH),Wk n K T S c p low high r h false:=λc p hc u F L N low high r h=>by
  refine⟨λm E=> ?_,λm A l E C=> ?_,λz=>by cases z⟩
  ·obtain⟨k,rfl⟩: ∃k,m=k+1:=⟨m-1,by omega⟩
   by_cases z: ∃x M,p= .tup (x::M)
   ·obtain⟨x,M,rfl⟩:=z
    have u:Gc x=u0/\Gf M=true:=by simpa using u
    exact Iy k r u.1 (by simp only [dep,GD]at F;omega) L N
   ·exact FP k r u λx M e=>z ⟨x,M,e⟩
  ·obtain⟨k,rfl⟩: ∃k,m=k+2:=⟨m-2,by omega⟩
   exact Il k u F L N
 intro d
 induction d with
 | zero=>
  intro p u F _ low high f r h _ _ _
  refine⟨k9,no _ p (by omega) u (by omega) ?_ ?_ low high r h⟩
  ·cases z:dJ wc 2 p with
   | false=>rfl
   | true=>obtain⟨y,rfl⟩:=pX z;simp at F
  ·cases z:dJ xa 6 p with
   | false=>rfl
   | true=>obtain⟨a,b,c,d,e,rfl⟩:=r9 z;simp at F
 | succ d ih=>
  intro p u F h100 low high f r h hl hh P
  cases L:dJ wc 2 p with
  | true=>
   obtain⟨y,rfl⟩:=pX L
   have V:Gc y=true:=by simpa using u
   have dy:dep y<=d:=by simp only [dep,GD]at F;omega
   cases bl:Jd y S.length with
   | false=>
    refine⟨k9,λm E=> ?_,λm A l E C=> ?_,λz=>by cases z⟩
    ·obtain⟨k,rfl⟩: ∃k,m=k+2:=⟨m-2,by omega⟩
     exact uJ k r V (λz=>by cases z) λ_ z=>by rw [bl]at z;cases z
    ·obtain⟨k,rfl⟩: ∃k,m=k+3:=⟨m-3,by omega⟩
     exact si k C V (by omega) (λz=>by cases z) λ_ z=>by rw [bl]at z;cases z
   | true=>
    obtain⟨j,rfl,X⟩: ∃j:Nat,y= .int (j:Int)/\j<S.length:=by
     cases y with
     | int i=>
      rw [Jd,Aa0,decide_eq_true_eq,decide_eq_true_eq]at bl
      exact⟨i.toNat,by congr 1;omega,by omega⟩
     | _=>cases bl
    obtain⟨s,R⟩: ∃s,S[j]? =k0 s:=⟨S[j],Aa3 X⟩
    have ms:=Ad4 R
    obtain⟨wf,dp⟩:=hS s ms
    obtain⟨o,ho, -⟩:=JO P s (q+8) (by omega) wf
    have lt: ∀k,q+8<=k->call prog k "_law_told" [.v _,.v _,.v _] h= .ok _ h:=fun k Q=>by
     obtain⟨o',B,e⟩:=JO P s k (by omega) wf
     rw [B.uniq ho]at e
     exact e
    have pt: ∀k A l,q+9<=k->l[A]? =k0 _->call prog _ "Cases.truth" [.v _,.v _,.v _,.v _] l= .ok _ l:=fun k A l Q C=>by
     obtain⟨o',B,e⟩:=ya k j low high g C hl hh R (by omega) wf
     rw [B.uniq ho]at e
     exact e
    refine⟨o==k0 k9,λm E=> ?_,λm A l E C=> ?_,λz w O W=>⟨s,ms,λo' B=> ?_⟩⟩
    ·obtain⟨k,rfl⟩: ∃k,m=k+2:=⟨m-2,by omega⟩
     exact uJ k r V (λz=>⟨j,s,o,rfl,R,eq_of_beq z,lt _ (by omega)⟩) λz _=>⟨j,s,o,rfl,R,ne_of_beq_false z,lt _ (by omega)⟩
    ·obtain⟨k,rfl⟩: ∃k,m=k+3:=⟨m-3,by omega⟩
     exact si k C V (by omega) (λz=>⟨j,o,rfl,X,eq_of_beq z,pt _ A l (by omega) C⟩) λz _=>⟨j,o,rfl,X,ne_of_beq_false z,pt _ A l (by omega) C⟩
    ·exact Td.mono (pC O) (pC W) (Le.refl _) s o o' k9 ho B (eq_of_beq z)
  | false=>
   cases N:dJ xa 6 p with
   | false=>exact⟨k9,no _ p (by omega) u (by omega) L N low high r h⟩
   | true=>
    obtain⟨dn,da,db,p1,p2,rfl⟩:=r9 N
    have hr:Gc dn=u0/\Gc da=u0/\Gc db=u0/\Gc p1=u0/\Gc p2=true:=by simpa [and_assoc]using u
    obtain⟨hn,ha,Z,Y,hp2⟩:=hr
    have J:dep (.tup [.str xa,dn,da,db,p1,p2])<150:=by omega
    simp only [dep,GD]at F
    by_cases U:ni n (K++T) f dn da db
    ·obtain⟨i,⟨t',x',y',e1,e2,H,G⟩,I,lbi⟩:=(P.fD g).mp U
     obtain⟨t,a,b,rfl,rfl,rfl,ht,ha',hb',l1,l2⟩:=U
     obtain rfl:t=t':=by injection e1
     obtain rfl:a=x':=by injection e2 with e2;exact An3.inj e2
     obtain rfl:b=y':=by injection H with H;exact An3.inj H
     have il:i<bN n K T:=by
      have:=(Aa1.mp G).1
      rw [zE]at this
      exact this
     have NN:(K++T).length<=100:=by rw [Ab1];have:=g.k4;have:=g.t4;omega
     have P1:=P.yes g G (r':=h.length) (h':=h++ [.aG (aF (K++T) (Qz f t ((f t).1 ||| 2 ^ (a*n+b),(f t).2))),.aG (aF (K++T) (Qz f t ((f t).1,(f t).2-2 ^ (a*n+b))))]) (by simp)
     have P2:=P.no g G I (r':=h.length+1) (h':=h++ [.aG (aF (K++T) (Qz f t ((f t).1 ||| 2 ^ (a*n+b),(f t).2))),.aG (aF (K++T) (Qz f t ((f t).1,(f t).2-2 ^ (a*n+b))))]) (by simp)
     obtain⟨b1,W1⟩:=ih p1 Y (by omega) (by omega) _ _ _ _ _ (oF hl (Nat.pow_lt_pow_right (by decide) il)) hh P1
     obtain⟨b2,W2⟩:=ih p2 hp2 (by omega) (by omega) _ _ _ _ _ hl (Ai5 (Nat.sub_le _ _) hh) P2
     refine⟨b1&&b2,λm E=> ?_,λm A l E C=> ?_,λz w O W=> ?_⟩
     ·obtain⟨k,rfl⟩: ∃k,m=k+3:=⟨m-3,by omega⟩
      exact Cq (k+1) r (zO k P.ad g.n4 ht NN ha' hb' l1 l2) (by simp) (by simp) (W1.lJ _ (by omega)) (W2.lJ _ (by omega))
     ·obtain⟨k,rfl⟩: ∃k,m=k+3:=⟨m-3,by omega⟩
      obtain⟨v,e,hv⟩:=pY k g C hn ha Z
      obtain rfl:v=2 ^ i:=by
       rcases hv with⟨i',⟨t',x',y',e1,e2,H,hi'⟩,rfl⟩ | ⟨-,z⟩
       ·obtain rfl:t=t':=by injection e1
        obtain rfl:a=x':=by injection e2 with e2;exact An3.inj e2
        obtain rfl:b=y':=by injection H with H;exact An3.inj H
        rw [mw g G hi']
       ·exact absurd ⟨t,a,b,rfl,rfl,rfl,G⟩ (z i)
      exact uj (k+1) C u J e (λz=>absurd ⟨I,lbi⟩ ((rM i).mp z)) λ_=>⟨b1,b2,rfl,W1.o3 _ A l (by omega) C,W2.o3 _ A l (by omega) C⟩
     ·rw [Aa0]at z
      cases wi:w.testBit i with
      | true=>exact W1.snd z.1 w (Fj O λk Q=>by
       rw [Ad3,decide_eq_true_eq]at Q
       rw [← Q];exact wi) W
      | false=>exact W2.snd z.2 w O (K0 W wi)
    ·refine⟨k9,λm E=> ?_,λm A l E C=> ?_,λz=>by cases z⟩
     ·obtain⟨k,rfl⟩: ∃k,m=k+3:=⟨m-3,by omega⟩
      exact yH (k+1) r (CP k P.ad g.n4 hn ha Z U)
     ·obtain⟨k,rfl⟩: ∃k,m=k+3:=⟨m-3,by omega⟩
      obtain⟨v,e,hv⟩:=pY k g C hn ha Z
      refine uj (k+1) C u J e (λ_=>rfl) λnz=>absurd ?_ nz
      rcases hv with⟨i,G,rfl⟩ | ⟨rfl, -⟩
      ·exact(rM i).mpr λz=>U ((P.fD g).mpr ⟨i,G,z⟩)
      ·simp
abbrev hF:List Tx:= [QF,zb,Jf,jN,Za,Jb,jb,Xh]
noncomputable abbrev fT (r:Nat) (N:List Tx) (g p:Nat) (a b:Option W):Sl:= [k0 (.v (.ref r)),k0 (.v (.lst (N.map .str))),k0 (.v (.int (g:Int))),k0 (.v (.int (p:Int))),a,b]
def X3 {F:Fx}{τ:Sl}{i:Nat}{s:Tx}(X Y:Tx){h:AH}(e:Gp τ i=k0 (.v (.str s))):Gm F (.or (.cmp .eq (.var i) (.str X)) (.cmp .eq (.var i) (.str Y))) τ h= .ok (s==X||s==Y) h:=by
 rw [Gm,xR (a:=s==X) (b:=s==Y) (by simp only [eval,Gk,e,R.ab,Wc,R.aj,aD]) (by simp only [eval,Gk,e,R.ab,Wc,R.aj,aD]),R.ab]
 rfl
def AZ (k:Nat){ns:List Int}{i r g p:Nat}{N:List Tx}{h:AH}{v:Int}(F:N.length<=8) (e:h[r]? =k0 (af ns i v)): ∃(f:Fc) (B:Int),f.wf N/\f.dp<=2/\execs (u9 (k+4)) (match aT.body with | .cons _ (.cons _ r)=>r | r=>r) (fT r N g p y0 y0) h= .ret (.v (de f)) (h.set r (af ns i B)):=by
 have K:r<h.length:=(Aa1.mp e).1
 have y: ∀w,(h.set r (af ns i w))[r]? =k0 (af ns i w):=λw=>Ab4 K
 obtain⟨a,v1,l,z,e1⟩:=sY F 2 k h v e
 have e1:call prog (k+4) "_law_expression" [.v (.ref r),.v (.lst (N.map .str)),.v (.int 2)] h= .ok (.v (aU a)) (h.set r (af ns i v1)):=by
  rw [show 2+k+2=k+4 by omega]at e1
  exact e1
 have I:Gj .mod (p:Int) 8=k0 ((p % 8:Nat):Int):=kJ p 8 (by decide)
 have pl:p % 8<8:=Aj2 _ (by decide)
 obtain⟨w,C⟩: ∃w,hF[p % 8]? =k0 w:=⟨hF[p % 8],Aa3 pl⟩
 have A:aW [D.str QF,.str zb,.str Jf,.str jN,.str Za,.str Jb,.str jb,.str Xh] ((p % 8:Nat):Int)=k0 (.str w):=by
  show aW (hF.map D.str) _=_
  rw [zg _ _ (by rw [Aa];exact pl),Ac2,C];rfl
 have o:w=QF\/w=zb\/w=Jf\/w=jN\/w∈ [Za,Jb,jb,Xh]:=by
  have:=Ad4 C
  simpa using this
 simp only [aT]
 have J: ∀X,execs (u9 (k+4)) X (fT r N g p (some (.v (aU a))) (some (.v (.str w)))) (h.set r (af ns i v1))=execs (u9 (k+4)) (.cons (.ag 5 (.ix (.lst (.cons (.str fY) (.cons (.str ic) (.g (.str f6) (.str gW) (.str fu) (.str gG) (.str lB) (.str uA))))) (.bin .mod .v3 (.int 8)))) (.cons (.ag 4 (.call "_law_expression" (.c .v0 .v1 (.int 2)))) X)) (fT r N g p none none) h:=fun X=>by
  rw [za (τ1:=fT r N g p y0 (k0 (.v (.str w)))) (h1:=h) (by simp_all [I,WM,A])]
  rw [za (τ1:=fT r N g p (k0 (.v (aU a))) (k0 (.v (.str w)))) (h1:=h.set r (af ns i v1)) (by simp_all [e1])]
 rw [← J]
 have two:(w==QF||w==zb)=true-> ∃(b:Ex) (B:Int),b.wf N/\b.dp<=2/\ ∀X,execs (u9 (k+4)) (.cons (.r (.or (.cmp .eq .v5 (.str fY)) (.cmp .eq .v5 (.str ic))) (.tup (.c .v5 .v4 (.call "_law_expression" (.c .v0 .v1 (.int 1)))))) X) (fT r N g p (some (.v (aU a))) (some (.v (.str w)))) (h.set r (af ns i v1))= .ret (.v (.tup [.str w,aU a,aU b])) (h.set r (af ns i B)):=fun q=>by
  obtain⟨b,v2,d,G,e2⟩:=sY F 1 (k+1) _ v1 (y v1)
  have e2:call prog (k+4) "_law_expression" [.v (.ref r),.v (.lst (N.map .str)),.v (.int 1)] (h.set r (af ns i v1))= .ok (.v (aU b)) (h.set r (af ns i v2)):=by
   rw [show 1+(k+1)+2=k+4 by omega,Ac3]at e2
   exact e2
  refine⟨b,v2,d,by omega,λX=> ?_⟩
  refine qa ((Qr (h1:=h.set r (af ns i v1)) ?_).trans (qa (Qa rfl ?_)))
  ·rw [X3 QF zb rfl,q]
  ·simp_all [e2]
 rcases o with rfl | rfl | rfl | rfl | o
 ·obtain⟨b,v2,d,G,e2⟩:=two rfl
  exact⟨.eG a b,v2,⟨l,d⟩,by simp only [Fc.dp];omega,e2 _⟩
 ·obtain⟨b,v2,d,G,e2⟩:=two rfl
  exact⟨.fc a b,v2,⟨l,d⟩,by simp only [Fc.dp];omega,e2 _⟩
 ·refine⟨.fh a,v1,l,z,?_⟩
  rw [ja (X3 (s:=Jf) QF zb rfl)]
  exact Qc (X3 (s:=Jf) Jf jN rfl) (Qa rfl (by simp_all [];rfl))
 ·refine⟨.ak a,v1,l,z,?_⟩
  rw [ja (X3 (s:=jN) QF zb rfl)]
  exact Qc (X3 (s:=jN) Jf jN rfl) (Qa rfl (by simp_all [];rfl))
 ·obtain⟨c,v2,x,e2⟩:=wd (k+3) (y v1) (m:=90) (by decide) (by decide)
  rw [Ac3]at e2
  have e2:call prog (k+4) "_law_draw" [.v (.ref r),.v (.int 90)] (h.set r (af ns i v1))= .ok (.v (.int (c:Int))) (h.set r (af ns i v2)):=e2
  obtain⟨n,v3,H,t⟩:=wd (k+3) (y v2) (m:=8) (by decide) (by decide)
  rw [Ac3]at t
  have t:call prog (k+4) "_law_draw" [.v (.ref r),.v (.int 8)] (h.set r (af ns i v2))= .ok (.v (.int (n:Int))) (h.set r (af ns i v3)):=t
  have M:((10:Int)+(c:Int))=((10+c:Nat):Int):=rfl
  obtain⟨j,L⟩: ∃j,[0,1,1,2,2,3,4,10+c][n]? =k0 j:=⟨_,Aa3 (show n< [0,1,1,2,2,3,4,10+c].length from H)⟩
  have u:aW [D.int 0,.int 1,.int 1,.int 2,.int 2,.int 3,.int 4,.int ((10+c:Nat):Int)] (n:Int)=k0 (.int (j:Int)):=by
   show aW (aK [0,1,1,2,2,3,4,10+c]) _=_
   rw [zg _ _ (by rw [Aa];exact H),Ac2,L];rfl
  refine⟨.cnt w j a,v3,⟨o,l⟩,z,?_⟩
  have E:(w==QF||w==zb)=k9/\(w==Jf||w==jN)=false:=by
   have:w=Za\/w=Jb\/w=jb\/w=Xh:=by simpa using o
   rcases this with rfl | rfl | rfl | rfl<;>exact⟨rfl,rfl⟩
  rw [ja (by rw [X3 QF zb rfl,E.1])]
  rw [ja (by rw [X3 Jf jN rfl,E.2])]
  exact qa (Qa rfl (by simp_all [e2,zc,M,t,WM,u];rfl))
def F9 {ns:List Int}{i r:Nat}{N:List Tx}(L:N.length<=8): ∀(g k:Nat) (h:AH) (v:Int),h[r]? =k0 (af ns i v)-> ∃(s:Sy) (j:Int),s.wf N/\s.dp<=g+2/\call prog (g+k+5) "_law_saying" [.v (.ref r),.v (.lst (N.map .str)),.v (.int (g:Int))] h= .ok (.v (aM s)) (h.set r (af ns i j)):=by
 have leaf: ∀(g K:Nat) (h:AH) (v:Int),h[r]? =k0 (af ns i v)-> ∀(p:Nat) (v1:Int),(g=0\/ ¬7<p)->call prog (K+4) "_law_draw" [.v (.ref r),.v (.int 11)] h= .ok (.v (.int (p:Int))) (h.set r (af ns i v1))-> ∃(s:Sy) (j:Int),s.wf N/\s.dp<=g+2/\call prog (K+5) "_law_saying" [.v (.ref r),.v (.lst (N.map .str)),.v (.int (g:Int))] h= .ok (.v (aM s)) (h.set r (af ns i j)):=by
  intro g K h v e p v1 q e1
  have n:r<h.length:=(Aa1.mp e).1
  obtain⟨f,v2,wf,U,e2⟩:=AZ K (g:=g) (p:=p) (ns:=ns) (i:=i) (h:=h.set r (af ns i v1)) L (Ab4 n)
  rw [Ac3]at e2
  refine⟨.fact f,v2,wf,by simp only [Sy.dp];omega,?_⟩
  rw [Gb (d:=aT) rfl _ _ _ rfl]
  show Gq _ (execs _ _ [k0 (.v (.ref r)),k0 (.v (.lst (N.map .str))),k0 (.v (.int (g:Int))),y0,y0,y0] h)=_
  simp only [aT]at e2 ⊢
  rw [za (τ1:=fT r N g p y0 y0) (h1:=h.set r (af ns i v1)) (by simp_all [e1])]
  rw [ja (by
   have c:=gf 0 g (h.set r (af ns i v1))
   have c:Gs .gt (.v (.int (g:Int))) (.v (.int 0)) (h.set r (af ns i v1))=k0 (y9 (0<g)):=c
   have l:Gs .gt (.v (.int (p:Int))) (.v (.int 7)) (h.set r (af ns i v1))=k0 (y9 (7<p)):=gf 7 p _
   rw [Gm,wt (a:=y9 (0<g)) (b:=y9 (7<p)) (by simp_all [c]) (by simp_all [l]),R.ab]
   have:(y9 (0<g)&&y9 (7<p))=false:=by
    rw [Bool.and_eq_false_iff,decide_eq_false_iff_not,decide_eq_false_iff_not]
    rcases q with q | q
    ·exact .inl (by omega)
    ·exact .inr q
   rw [this]
   rfl),e2]
  exact Ga _ h _ (Ad2 ..)
 intro g
 induction g with
 | zero=>
  intro k h v e
  obtain⟨p,v1,P,e1⟩:=wd (k+3) e (m:=11) (by decide) (by decide)
  rw [show 0+k+5=k+5 by omega]
  have e1:call prog (k+4) "_law_draw" [.v (.ref r),.v (.int 11)] h= .ok (.v (.int (p:Int))) (h.set r (af ns i v1)):=e1
  exact leaf 0 k h v e p v1 (.inl rfl) e1
 | succ g B=>
  intro k h v e
  have n:r<h.length:=(Aa1.mp e).1
  have y: ∀w,(h.set r (af ns i w))[r]? =k0 (af ns i w):=λw=>Ab4 n
  have z: ∀w,(h.set r (af ns i w)).length=h.length:=λw=>Ad2 ..
  rw [show g+1+k+5=(g+k+1)+5 by omega]
  obtain⟨p,v1,P,e1⟩:=wd (g+k+1+3) e (m:=11) (by decide) (by decide)
  by_cases q:7<p
  ·have e1:call prog (g+k+5) "_law_draw" [.v (.ref r),.v (.int 11)] h= .ok (.v (.int (p:Int))) (h.set r (af ns i v1)):=e1
   obtain⟨s,v2,E,T,e2⟩:=B k _ v1 (y v1)
   rw [Ac3]at e2
   have A:(((g+1:Nat):Int)-1)=((g:Nat):Int):=by omega
   rw [Gb (d:=aT) rfl _ _ _ rfl]
   show ∃s j,_/\_/\Gq _ (execs _ _ [k0 (.v (.ref r)),k0 (.v (.lst (N.map .str))),k0 (.v (.int ((g+1:Nat):Int))),y0,y0,y0] h)=_
   simp only [aT]
   rw [za (τ1:=fT r N (g+1) p y0 y0) (h1:=h.set r (af ns i v1)) (by simp_all [e1])]
   have M: ∀a X,execs (u9 (g+k+5)) (.cons (.iff (.and (.cmp .gt .v2 (.int 0)) (.cmp .gt .v3 (.int 7))) a .nil) X) (fT r N (g+1) p y0 y0) (h.set r (af ns i v1))=(execs (u9 (g+k+5)) a (fT r N (g+1) p y0 y0) (h.set r (af ns i v1))).seq λQ h=>execs (u9 (g+k+5)) X Q h:=λa X=>by
    rw [execs,Qr (h1:=h.set r (af ns i v1))]
    have c:Gs .gt (.v (.int ((g+1:Nat):Int))) (.v (.int 0)) (h.set r (af ns i v1))=k0 (y9 (0<g+1)):=gf 0 (g+1) _
    have l:Gs .gt (.v (.int (p:Int))) (.v (.int 7)) (h.set r (af ns i v1))=k0 (y9 (7<p)):=gf 7 p _
    rw [Gm,wt (a:=y9 (0<g+1)) (b:=y9 (7<p)) (by simp_all [c]) (by simp_all [l]),R.ab,decide_eq_true q,decide_eq_true (by omega)]
    rfl
   rw [M]
   rw [za (τ1:=fT r N (g+1) p (k0 (.v (aM s))) y0) (h1:=h.set r (af ns i v2)) (by simp_all [zf,A,e2])]
   have x:Gs .eq (.v (.int (p:Int))) (.v (.int 8)) (h.set r (af ns i v2))=k0 (y9 (p=8)):=zi p 8 _
   by_cases u:p=8
   ·refine⟨.neg s,v2,E,by simp only [Sy.dp];omega,?_⟩
    rw [Qc (w:= .v (aM (.neg s))) (by simp_all [x,decide_eq_true u]) (Qa rfl (by simp_all [];rfl)),O.cY]
    exact Ga _ h _ (z v2)
   ·rw [ja (by simp_all [x,decide_eq_false u])]
    obtain⟨C,v3,o,I,F⟩:=B k _ v2 (y v2)
    rw [Ac3]at F
    obtain⟨f,G,J,t,S,H⟩: ∃f:Sy->Sy->Sy,(∀ a b,(f a b).dp=max a.dp b.dp+1)/\(∀ a b,a.wf N->b.wf N->(f a b).wf N)/\ ∃t,aW [D.str wu,.str xy] ((p:Int)-9)=k0 (.str t)/\ ∀a b,aM (f a b)= .tup [.str t,aM a,aM b]:=by
     have:p=9\/p=10:=by omega
     rcases this with rfl | rfl
     ·exact⟨.du,λ_ _=>rfl,λ_ _ h g=>⟨h,g⟩,wu,rfl,λ_ _=>rfl⟩
     ·exact⟨.dh,λ_ _=>rfl,λ_ _ h g=>⟨h,g⟩,xy,rfl,λ_ _=>rfl⟩
    refine⟨f s C,v3,J _ _ E o,by rw [G];omega,?_⟩
    rw [qa (w:= .v (aM (f s C))) (h1:=h.set r (af ns i v3)) (Qa rfl (by rw [H];simp_all [zf,WM,S,A,F])),O.cY]
    exact Ga _ h _ (z v3)
  ·have e1:call prog (g+k+1+4) "_law_draw" [.v (.ref r),.v (.int 11)] h= .ok (.v (.int (p:Int))) (h.set r (af ns i v1)):=e1
   exact leaf (g+1) (g+k+1) h v e p v1 (.inr q) e1
def A6 (v:Int){F:Fx}{τ:Sl}{h:AH}(e:eval F (.ix .v0 (.int 2)) τ h= .ok (.v (.int v)) h):eval F (.chain .le .lt (.int 0) (.ix .v0 (.int 2)) (.bin .pow (.int 10) (.int 18))) τ h= .ok (.v (.bl (y9 (0<=v)&&y9 (v<1000000000000000000)))) h:=by
 rw [eval,eval,R.ab,e,R.ab]
 by_cases q: 0<=v
 ·simp_all [qu,Xv,uZ,aD,q,decide_true,Ad9]
 ·simp_all [qu,aD,q,decide_false,Af0]
noncomputable abbrev cL (r:Nat) (w:D) (N:List Tx) (L:List D) (x:Option W):Sl:= [k0 (.v (.ref r)),k0 (.v w),k0 (.v (.int 4)),k0 (.v (.lst (N.map .str))),k0 (.own L),x]
def CY (k:Nat){ns:List Int}{i r j:Nat}{N:List Tx}{w:D}{h:AH}{v:Int}{L:List Sy}(G:N.length<=8) (H:ns.length<=63) (e:h[r]? =k0 (af ns i v)) (R:L.length=j) (V:j<4) (B: ∀s∈L,s.wf N/\s.dp<=4+j): ∃(s:Sy) (J:Nat) (O:Int),s.wf N/\s.dp<=5+j/\execs (u9 (k+7)) qh (cL r w N (L.map aM) (k0 (.v (.int (j:Int))))) h= .next (cL r w N ((L++ [s]).map aM) (k0 (.v (.int (j:Int))))) (h.set r (af ns J O)):=by
 have I:r<h.length:=(Aa1.mp e).1
 have f: ∀i w,(h.set r (af ns i w))[r]? =k0 (af ns i w):=λi w=>Ab4 I
 obtain⟨v1,e1⟩:=lX (k+6) H e
 have n:=A6 v1 (F:=(u9 (k+7))) (τ:=cL r w N (L.map aM) (k0 (.v (.int (j:Int))))) (h:=h.set r (af ns (i+1) v1)) (by simp_all [jq (f _ _),Q4])
 generalize (y9 (0<=v1)&&y9 (v1<1000000000000000000))=b at n
 have U:b.toNat<=1:=by cases b<;>decide
 obtain⟨s,v2,z,Q,e2⟩:=F9 G (1+b.toNat) (k+1-b.toNat) _ v1 (f (i+1) v1)
 rw [Ac3,show 1+b.toNat+(k+1-b.toNat)+5=k+7 by omega]at e2
 unfold qh
 rw [za (τ1:=cL r w N (L.map aM) (k0 (.v (.int (j:Int))))) (h1:=h.set r (af ns (i+1) v1)) (by simp_all [e1])]
 have A:(L.map aM).length<ba:=by rw [Gg,Aa];omega
 have C:((1:Int)+((b.toNat:Nat):Int))=((1+b.toNat:Nat):Int):=rfl
 rw [za (τ1:=cL r w N ((L++ [s]).map aM) (k0 (.v (.int (j:Int))))) (h1:=h.set r (af ns (i+1) v2)) (by
  generalize E.chain .le .lt (.int 0) (.ix .v0 (.int 2)) (.bin .pow (.int 10) (.int 18))=X at n ⊢
  simp_all [n,Dq,aD,zc,C,e2,A,if_true]
  rw [Ae6]
  rfl)]
 have u: ∀K:AH,Gs .gt (.v (.int (j:Int))) (.v (.int 0)) K=k0 (y9 (0<j)):=gf 0 j
 by_cases q:0<j
 ·obtain⟨d,v3,T,g⟩:=wd (k+6) (f (i+1) v2) (m:=9) (by decide) (by decide)
  rw [Ac3]at g
  have g:call prog (k+7) "_law_draw" [.v (.ref r),.v (.int 9)] (h.set r (af ns (i+1) v2))= .ok (.v (.int (d:Int))) (h.set r (af ns (i+1) v3)):=g
  have o:Gm (u9 (k+7)) (.and (.cmp .gt .v5 (.int 0)) (.cmp .eq (.call "_law_draw" (.b .v0 (.int 9))) (.int 0))) (cL r w N ((L++ [s]).map aM) (some (.v (.int (j:Int))))) (h.set r (af ns (i+1) v2))= .ok (decide (d=0)) (h.set r (af ns (i+1) v3)):=by
   simp_all [u,decide_eq_true q,g,jQ]
  by_cases p:d=0
  ·obtain⟨x,v4,P,y⟩:=wd (k+6) (f (i+1) v3) (m:=j) q (by omega)
   rw [Ac3]at y
   have l:x<L.length:=by omega
   have c:aW ((L++ [s]).map aM) (x:Int)=k0 (aM L[x]):=by
    rw [zg _ _ (by rw [Aa,Ab1];omega),Ac2,Ac9 l,Aa3 l];rfl
   obtain⟨M,S⟩:=B _ (Ak9 l)
   refine⟨.neg L[x],i+1,v4,M,by simp only [Sy.dp];omega,?_⟩
   have a:dC ((L++ [s]).map aM).length (-1)=k0 L.length:=by
    rw [Aa,Ab1]
    simp [dC]
    omega
   have t:((L++ [s]).map aM).set L.length (.tup [.str xA,aM L[x]])=(L++ [Sy.neg L[x]]).map aM:=by
    rw [Ae6,Ae6,List.set_append_right _ _ (by rw [Aa];omega),Aa,Ao6]
    rfl
   rw [za (τ1:=cL r w N ((L++ [Sy.neg L[x]]).map aM) (k0 (.v (.int (j:Int))))) (h1:=h.set r (af ns (i+1) v4)) ((Qr (h1:=h.set r (af ns (i+1) v3)) (by rw [o,decide_eq_true p])).trans ?_),execs]
   rw [za (τ1:=cL r w N ((L++ [Sy.neg L[x]]).map aM) (k0 (.v (.int (j:Int))))) (h1:=h.set r (af ns (i+1) v4)),execs]
   generalize (L++ [s]).map aM=Z at c a t ⊢
   simp_all [y,nH,c,a,t,Int.reduceNeg]
  ·refine⟨s,i+1,v3,z,by omega,?_⟩
   rw [za (iU (h1:=h.set r (af ns (i+1) v3)) (by rw [o,decide_eq_false p])),execs]
 ·refine⟨s,i+1,v2,z,by omega,?_⟩
  rw [ja (by simp_all [u,decide_eq_false q]),execs]
theorem rm (k:Nat){ns:List Int}{r:Nat}{N:List Tx}{w:D}(n:N.length<=8) (o:ns.length<=63): ∀(c j i:Nat) (v:Int) (h:AH) (L:List Sy) (x:Option W),h[r]? =k0 (af ns i v)->L.length=j->j+c<=4->(∀ s∈L,s.wf N/\s.dp<=4+j)-> ∃(d:List Sy) (g:Nat) (m:Int) (l:Option W),(∀ s∈d,s.wf N/\s.dp<=4+(j+c))/\d.length=j+c/\Gw (Gv [5] u0) (λτ h=>execs (u9 (k+7)) qh τ h) ((List.range' j c).map λ(x:Nat)=>D.int (x:Int)) (cL r w N (L.map aM) x) h= .next (cL r w N (d.map aM) l) (h.set r (af ns g m))
 | 0,j,i,v,h,L,x,e,f,_,b=>⟨L,i,v,x,b,f,by
  rw [List.range'_zero,Ae3,qG]
  congr 1
  obtain⟨p,e⟩:=Aa1.mp e
  rw [← e,List.set_getElem_self]⟩
 | c+1,j,i,v,h,L,x,e,f,B,b=>by
  have p:r<h.length:=(Aa1.mp e).1
  obtain⟨s,i1,v1,y,z,e1⟩:=CY k (w:=w) n o e f (by omega) b
  obtain⟨d,g,m,l,u,A,q⟩:=rm k (w:=w) n o c (j+1) i1 v1 (h.set r (af ns i1 v1)) (L++ [s]) (k0 (.v (.int (j:Int)))) (Ab4 p) (by rw [Ab1,f];rfl) (by omega) (λt a=>by
   rcases Ad8.mp a with a | a
   ·exact⟨(b t a).1,by have:=(b t a).2;omega⟩
   ·rw [Ah0.mp a];exact⟨y,by omega⟩)
  rw [Ac3]at q
  refine⟨d,g,m,l,λs b=>by have:=u s b;exact⟨this.1,by omega⟩,by omega,?_⟩
  rw [Am4,Ab0,xb (τ1:=cL r w N (L.map aM) (k0 (.v (.int (j:Int))))) rfl e1,q]
def A1 (k:Nat){ns:List Int}{i r n:Nat}{v:Int}{h:AH}{K T:List Tx}(g:ck n K T) (q:ns.length<=63) (e:h[r]? =k0 (af ns i v)): ∃(S:List Sy) (c:Nat) (f:Int),(∀ s∈S,s.wf (K++T)/\s.dp<=8)/\S.length<=4/\call prog (k+8) "_law_theory" [.v (.ref r),.v (wD K T),.v (.int 4)] h= .ok (.v (aZ K T S)) (h.set r (af ns c f)):=by
 have t:r<h.length:=(Aa1.mp e).1
 obtain⟨d,v1,A,e1⟩:=wd (k+6) e (m:=5) (by decide) (by decide)
 have e1:call prog (k+7) "_law_draw" [.v (.ref r),.v (.int 5)] h= .ok (.v (.int (d:Int))) (h.set r (af ns i v1)):=e1
 have p:(K++T).length<=8:=by rw [Ab1];have:=g.k4;have:=g.t4;omega
 obtain⟨L,c,f,y,a,B,l⟩:=rm k (N:=K++T) (w:=wD K T) p q d 0 i v1 (h.set r (af ns i v1)) [] y0 (Ab4 t) rfl (by omega) (λ_ h=>absurd h Ai2)
 rw [Ac3]at l
 refine⟨L,c,f,λs o=>by have:=a s o;exact⟨this.1,by omega⟩,by omega,?_⟩
 rw [Gb (d:=Wp) rfl _ _ _ rfl]
 show Gq _ (execs _ _ [k0 (.v (.ref r)),k0 (.v (wD K T)),k0 (.v (.int 4)),y0,y0,y0] h)=_
 simp only [Wp]
 have u:(K.map D.str).length+(T.map D.str).length<=ba:=by rw [Gg,Aa,Aa];have:=g.k4;have:=g.t4;omega
 rw [za (τ1:= [k0 (.v (.ref r)),k0 (.v (wD K T)),k0 (.v (.int 4)),k0 (.v (.lst ((K++T).map .str))),y0,y0]) (h1:=h) (by
  simp_all [ae,jk,Qe,QE,u,if_true,aD,BX]
  rw [Ae6])]
 rw [za (τ1:=cL r (wD K T) (K++T) [] y0) (h1:=h) (by simp_all [])]
 have j:((4:Int)+1)=5:=rfl
 have z:Gr (u9 (k+7)) (.ao (.call "_law_draw" (.b .v0 (.bin .add .v2 (.int 1))))) (cL r (wD K T) (K++T) [] none) h= .ok ((List.range d).map fun(x:Nat)=>D.int (x:Int)) (h.set r (af ns i v1)):=by
  have b: -(eS)<=(d:Int)/\(d:Int)<eS:=by rw [GO];omega
  simp_all [zc,j,e1,b,and_self,if_true,Ad7]
 rw [za (τ1:=cL r (wD K T) (K++T) (L.map aM) y) (h1:=h.set r (af ns c f)) (by
  rw [exec,z,R.ay,List.range_eq_range']
  exact l)]
 rw [qa (w:= .v (aZ K T L)) (h1:=h.set r (af ns c f)) (Qa rfl (by simp_all [jU,aD]))]
 exact Ga _ h _ (Ad2 ..)
def vx {f:Tx->Nat×Nat}{t:Tx}{N:List Tx}(h:t∉N):GG (aF N f) t (aY (f t).1 (f t).2)=aF (N++ [t]) f:=by
 unfold GG aF
 rw [if_neg,Ae6]
 ·rfl
 ·rw [Ad0]
  rintro ⟨p,a,e⟩
  obtain⟨x,b,rfl⟩:=Ab8.mp a
  have e:=by simpa using e
  exact h (e▸b)
def Zs (h:AH) (a b:Cell):(h++ [a]).set h.length b=h++ [b]:=by simp
def Zf (h:AH) (a:Cell):(h++ [a])[h.length]? =k0 a:=by simp
theorem oV {F:Fx}{h:AH}{b:Ss}{f:Tx->Nat×Nat}{st:Option W->Sl}(c: ∀x d,GC (st x) 3 (.v d)=st (k0 (.v d))): ∀(a N:List Tx) (x:Option W),(N++a).Nodup->(∀ t∈a,∀N:List Tx,N.length<=8->execs F b (st (k0 (.v (.str t)))) (h++ [.aG (aF N f)])= .next (st (k0 (.v (.str t)))) (h++ [.aG (GG (aF N f) t (aY (f t).1 (f t).2))]))->(N++a).length<=8-> ∃j,Gw (Gv [3] u0) (λτ h=>execs F b τ h) (a.map .str) (st x) (h++ [.aG (aF N f)])= .next (st j) (h++ [.aG (aF (N++a) f)])
 | [],N,x,_,_,_=>⟨x,by rw [Ag0];rfl⟩
 | t::a,N,x,k,i,g=>by
  have l:t∉N:=λz=>(Ai9.mp k).2.2 t z t Aa7 rfl
  have e1:=i t Aa7 N (by rw [Ab1]at g;omega)
  rw [vx l]at e1
  obtain⟨j,e⟩:=oV c a (N++ [t]) (k0 (.v (.str t))) (by rw [Af1];exact k) (λu m=>i u (Aa4 _ m)) (by rw [Af1];exact g)
  refine⟨j,?_⟩
  rw [Ab0,xb (τ1:=st (k0 (.v (.str t)))) (by rw [Gz,c]) e1,e,Af1]
  rfl
def fO (n:Nat) (T:List Tx) (t:Tx):Nat×Nat:=if t∈T then(0,2 ^ (n*n)-1)else(0,Wf.bD n)
def BL (k:Nat){n:Nat}{K T:List Tx}(g:ck n K T) (h:AH):call prog (k+2) "_law_open" [.v (wD K T),.v (.int (n:Int))] h= .ok (.v (.ref h.length)) (h++ [.aG (aF (K++T) (fO n T))]):=by
 obtain⟨j,u,q⟩:=Ai9.mp g.nd
 have r:n*n<=16:=Ae2 g.n4 g.n4
 have v:Gj .mul (n:Int) (n:Int)=k0 _:=Jc n n (by have:=g.n4;omega)
 have o:=zT (n*n) (by omega)
 have a:((2 ^ (n*n):Nat):Int)-1=((2 ^ (n*n)-1:Nat):Int):=by
  have:=Ac6 (n*n)
  omega
 rw [Gb (d:=Xz) rfl _ _ _ rfl]
 show Gq _ _=_
 simp only [Xz]
 have l: ∀N:List Tx,N.length<=8->(aF N (fO n T)).length<ba:=λN c=>by rw [Gg,aF,Aa];omega
 obtain⟨i,e1⟩:=oV (F:=(u9 (k+1))) (h:=h) (b:=Qp) (f:=fO n T) (st:=λx=> [k0 _,k0 (.v (.int (n:Int))),k0 (.v (.ref h.length)),x]) (λ_ _=>rfl) K [] y0 j (λt e N c=>by
  have s:t∉T:=λz=>q t e t z rfl
  have p:=pj k n (h++ [.aG (aF N (fO n T))]) g.n4
  have y:Gc (aY (fO n T t).1 (fO n T t).2)=true:=rfl
  have:fO n T t=(0,Wf.bD n):=by rw [fO,if_neg s]
  unfold Qp
  rw [za (τ1:= [k0 (.v (wD K T)),k0 (.v (.int (n:Int))),k0 (.v (.ref h.length)),k0 (.v (.str t))]) (h1:=h++ [.aG (GG (aF N (fO n T)) t (aY (fO n T t).1 (fO n T t).2))]) (by
   simp_all [p,xm (Zf h (.aG (aF N (fO n T)))),aD]
   rw [if_pos ⟨l N c,rfl⟩,Zs,this]
   rfl),execs]) (by have:=g.k4;rw [Ae5];omega)
 obtain⟨m,e2⟩:=oV (F:=(u9 (k+1))) (h:=h) (b:=zo) (f:=fO n T) (st:=λx=> [k0 (.v (wD K T)),k0 (.v (.int (n:Int))),k0 (.v (.ref h.length)),x]) (λ_ _=>rfl) T K i g.nd (λt e N c=>by
  have:fO n T t=(0,2 ^ (n*n)-1):=by rw [fO,if_pos e]
  unfold zo
  rw [za (τ1:= [k0 (.v (wD K T)),k0 (.v (.int (n:Int))),k0 (.v (.ref h.length)),k0 (.v (.str t))]) (h1:=h++ [.aG (GG (aF N (fO n T)) t (aY (fO n T t).1 (fO n T t).2))]) (by
   simp_all [v,o,zf,a,xm (Zf h (.aG (aF N (fO n T)))),aD]
   rw [if_pos ⟨l N c,rfl⟩,Zs,this]
   rfl),execs]) (by have:=g.k4;have:=g.t4;rw [Ab1];omega)
 rw [Ae5]at e1
 rw [za (τ1:= [k0 (.v (wD K T)),k0 (.v (.int (n:Int))),k0 (.v (.ref h.length)),y0]) (h1:=h++ [.aG (aF [] (fO n T))]) (by simp_all [aD];rfl)]
 rw [za (τ1:= [k0 (.v (wD K T)),k0 (.v (.int (n:Int))),k0 (.v (.ref h.length)),i]) (h1:=h++ [.aG (aF K (fO n T))]) (by
  rw [exec,show Gr (u9 (k+1)) (.seq (.ix .v0 (.int 0))) [k0 (.v (wD K T)),k0 (.v (.int (n:Int))),k0 (.v (.ref h.length)),y0] (h++ [.aG (aF [] (fO n T))])= .ok (K.map .str) (h++ [.aG (aF [] (fO n T))])by simp_all [ae,jk],R.ay]
  exact e1)]
 rw [za (τ1:= [k0 (.v (wD K T)),k0 (.v (.int (n:Int))),k0 (.v (.ref h.length)),m]) (h1:=h++ [.aG (aF (K++T) (fO n T))]) (by
  rw [exec,show Gr (u9 (k+1)) (.seq (.ix .v0 (.int 1))) [k0 (.v (wD K T)),k0 (.v (.int (n:Int))),k0 (.v (.ref h.length)),i] (h++ [.aG (aF K (fO n T))])= .ok (T.map .str) (h++ [.aG (aF K (fO n T))])by simp_all [ae,Qe],R.ay]
  exact e2)]
 rw [qa (w:= .v (.ref h.length)) (h1:=h++ [.aG (aF (K++T) (fO n T))]) rfl]
 show fin h.length _ _=_
 unfold fin
 rw [if_neg (by simp),if_neg (by simp [W.keep])]
def sv {n:Nat}{K T:List Tx}(g:ck n K T){r:Nat}{h:AH}(e:h[r]? =k0 (.aG (aF (K++T) (fO n T)))):Dc (wo n K T 0) (wo n K T (2 ^ bN n K T-1)) (fO n T) r h:=by
 have b: ∀ {i x y:Nat}{t:Tx},_[i]? =k0 _->bx _ t x y=true:=λ{i x y t} c=>by
  have j:=(Aa1.mp c).1
  rw [zE]at j
  rw [(Xk g c _).1,Ae1,decide_eq_true j]
 refine⟨e,g.n4,λt f=> ?_,λt f=> ?_⟩
 ·have:(fO n T t).1=0:=by unfold fO;split<;>rfl
  rw [this]
  refine⟨Ac6 _,λx y a d=> ?_⟩
  rw [Af9]
  refine⟨(λz=>by cases z),λz=> ?_⟩
  obtain⟨i,c⟩:=mV f a d z
  rw [(Xk g c 0).1,Af9]at z
  cases z
 ·unfold fO
  by_cases q:t∈T
  ·rw [if_pos q]
   refine⟨Nat.sub_lt (Ac6 _) (by decide),λx y a d=> ?_⟩
   obtain⟨i,c⟩:=nQ (K:=K) a d (.inl q)
   have l:x*n+y<n*n:=Wf.place_lt a d
   show(2 ^ _-1).testBit (x*n+y)=u0↔_
   rw [Ae1,decide_eq_true l,b c]
  ·rw [if_neg q]
   have v:=(V.leaf (n:=n)).1
   refine⟨v.lt,λx y a d=>(v.bit x y a d).trans ?_⟩
   have k:=(Ad8.mp f).resolve_right q
   by_cases e:x=y
   ·subst e
    obtain⟨i,c⟩:=nQ (T:=T) a a (.inr ⟨k,rfl⟩)
    rw [b c]
    simp [JW]
   ·rw [bx,if_neg (show t∉(wo n K T _).T from q),decide_eq_false e,Af0]
    simp [JW,e]
def eE (n x:Nat):Nat:=((Aa5 n).map λa=>(x.testBit a).toNat*2 ^ (a*n+a)).sum
def rZ {n x:Nat}(a:n<=4) (b:x<2 ^ n):eE n x=Wf.cK n (Q1 n x):=by
 have: ∀n,n<5-> ∀x,x<16->eE n x=Wf.cK n (Q1 n x):=by decide +kernel
 exact this n (by lia) x (Ab3 b (Ae0 (by decide) a))
def yz (k n x:Nat) (h:AH) (l:n<=4):call prog (k+1) "_law_spread" [.v (.int (n:Int)),.v (.int (x:Int))] h= .ok (.v (.int ((eE n x:Nat):Int))) h:=by
 rw [Gb (d:=Jo) rfl _ _ _ rfl]
 have e:eval (u9 k) zl [k0 (.v (.int (n:Int))),k0 (.v (.int (x:Int)))] h= .ok (.own (aK ((Aa5 n).map λa=>(x.testBit a).toNat*2 ^ (a*n+a)))) h:=by
  unfold zl
  rw [Zi (n:=n) (λa=> .int _) rfl (by omega) λa c=>⟨.v _,?_,rfl⟩]
  ·rw [aK,Ad1];rfl
  ·have g:Gj .mul (a:Int) (n:Int)=k0 _:=Jc a n (by omega)
   have m:(x.testBit a).toNat<=1:=by cases x.testBit a<;>decide
   have f:=Q8 (x.testBit a).toNat (a*n+a) (by omega) (by have:=Wf.place_lt c c;have:=zh (show n<=20 by omega);omega)
   have i:(((a*n:Nat):Int)+(a:Int))=((a*n+a:Nat):Int):=rfl
   simp_all [g,zc,i,jj,oT,f]
 have j:dA .sum [.own (aK ((Aa5 n).map λa=>(x.testBit a).toNat*2 ^ (a*n+a)))] h= .ok (.v (.int ((eE n x:Nat):Int))) h:=by
  show(R.of h ((k0 _).bind λb=>if b.length<=ba then Ka b else y0)).bind _=_
  rw [Ah9,if_pos (by rw [Gg,aK,Aa,Aa,Aj];omega),WP]
  rfl
 show Gq _ _=_
 simp only [Jo]
 rw [qa (w:= .v (.int ((eE n x:Nat):Int))) (h1:=h) (Qa rfl (by simp_all [e,j])),Ga _ _ _ rfl]
theorem o9 {F:Fx}{h:AH}{b:Ss}{f:Tx->Nat×Nat}{st:Option W->Option W->Sl}(g: ∀x y d,GC (st x y) 4 (.v d)=st (k0 (.v d)) y) (L a:List Tx) (k:(a++L).Nodup) (l:(a++L).length<=8) (m: ∀(j:Nat) (t:Tx) (y:Option W) (N:List Tx),L[j]? =k0 t->N.length<=8-> ∃J,execs F b (st (k0 (.v (.int (j:Int)))) y) (h++ [.aG (aF N f)])= .next (st (k0 (.v (.int (j:Int)))) J) (h++ [.aG (GG (aF N f) t (aY (f t).1 (f t).2))])): ∀(c j:Nat) (x y:Option W),j+c=L.length-> ∃M J,Gw (Gv [4] u0) (λτ h=>execs F b τ h) ((List.range' j c).map λ(x:Nat)=>D.int (x:Int)) (st x y) (h++ [.aG (aF (a++L.take j) f)])= .next (st M J) (h++ [.aG (aF (a++L) f)])
 | 0,j,x,y,r=>⟨x,y,by rw [Ag5 (by omega)];rfl⟩
 | c+1,j,x,y,r=>by
  have i:j<L.length:=by omega
  have p:L[j]? =k0 L[j]:=Aa3 i
  have n:a++L=(a++L.take j)++(L[j]::L.drop (j+1)):=by
   rw [Af1,←Aj4 i,Am8]
  have q:L[j]∉a++L.take j:=λz=>by
   rw [n]at k
   exact(Ai9.mp k).2.2 _ z _ Aa7 rfl
  obtain⟨o,e1⟩:=m j L[j] y (a++L.take j) p (by rw [n,Ab1]at l;omega)
  rw [vx q,Af1,show L.take j++ [L[j]]=L.take (j+1)by rw [List.take_append_getElem i]]at e1
  obtain⟨M,J,e⟩:=o9 g L a k l m c (j+1) (k0 (.v (.int (j:Int)))) o (by omega)
  refine⟨M,J,?_⟩
  rw [Am4,Ab0,xb (τ1:=st (k0 (.v (.int (j:Int)))) y) (by rw [Gz,g]) e1,e]
noncomputable def fS (n:Nat) (K T:List Tx) (c:Nat) (t:Tx):Nat×Nat:=if t∈T then((cS n K.length T.length c).getD (c5 t T) 0,(cS n K.length T.length c).getD (c5 t T) 0)else(eE n ((cC n K.length T.length c).getD (c5 t K) 0),eE n ((cC n K.length T.length c).getD (c5 t K) 0))
def EC {n c:Nat}{K T:List Tx}(g:ck n K T){r:Nat}{h:AH}(e:h[r]? =k0 (.aG (aF (K++T) (fS n K T c)))):Dc (wo n K T c) (wo n K T c) (fS n K T c) r h:=by
 have ok:=g.wo c
 have a: ∀t∈K++T,V n (fS n K T c t).1 (bx _ t)/\(fS n K T c t).2=(fS n K T c t).1:=λt b=>by
  unfold fS
  by_cases q:t∈T
  ·rw [if_pos q]
   have d:=(xk q).2
   refine⟨⟨?_,λx y f i=> ?_⟩,rfl⟩
   ·show(cS n K.length T.length c).getD _ 0<_
    rw [Ac5,mH d]
    exact Aj2 _ (Ac6 _)
   ·rw [bx,if_pos (show t∈(wo n K T c).T from q)]
    exact Iff.rfl
  ·rw [if_neg q]
   have j:=(Ad8.mp b).resolve_right q
   have d:=(xk j).2
   have lt:(cC n K.length T.length c).getD (c5 t K) 0<2 ^ n:=by
    rw [Ac5,mI d]
    exact Aj2 _ (Ac6 _)
   refine⟨⟨?_,λx y f i=> ?_⟩,rfl⟩
   ·show eE n _<_
    rw [rZ g.n4 lt]
    exact Wf.cT (QP _ _)
   ·show(eE n _).testBit _=u0↔_
    rw [rZ g.n4 lt,uF f i,bx,if_neg (show t∉(wo n K T c).T from q),Aa0,decide_eq_true_eq]
    exact Iff.rfl
 exact⟨e,g.n4,λt b=>(a t b).1,λt b=>by rw [(a t b).2];exact(a t b).1⟩
def KO (k c:Nat){n:Nat}{K T:List Tx}(g:ck n K T) (h:AH):call prog (k+2) "_law_seen" [.v (wD K T),.v (wo n K T c).aN] h= .ok (.v (.ref h.length)) (h++ [.aG (aF (K++T) (fS n K T c))]):=by
 obtain⟨p,G,P⟩:=Ai9.mp g.nd
 have n4:=g.n4
 have O:=g.k4
 have U:=g.t4
 rw [Gb (d:=jC) rfl _ _ _ rfl]
 show Gq _ (execs _ _ [k0 (.v (wD K T)),k0 (.v (hR n (cC n K.length T.length c) (cS n K.length T.length c))),y0,y0,y0,y0] h)=_
 simp only [jC]
 have H: ∀N:List Tx,N.length<=8->(aF N (fS n K T c)).length<ba:=λN r=>by rw [Gg,aF,Aa];omega
 have o: ∀(L:List Tx) (j:Nat) (t:Tx),L[j]? =k0 t->aW (L.map D.str) (j:Int)=k0 _:=λL j t e=>by
  rw [zg _ _ (by rw [Aa];exact(Aa1.mp e).1),Ac2,e];rfl
 generalize m:hR n _ _=a
 have V:aW [D.int (n:Int),.tup _,.tup (aK (cS n K.length T.length c))] 1=k0 (.tup (aK (cC n K.length T.length c))):=rfl
 obtain⟨v,u,e1⟩:=o9 (F:=(u9 (k+1))) (h:=h) (b:=Xo) (f:=fS n K T c) (st:=λx y=> [k0 (.v (wD K T)),k0 (.v a),k0 (.v (.int (n:Int))),k0 (.v (.ref h.length)),x,y]) (λ_ _ _=>rfl) K [] p (by rw [Ae5];omega) (λj t y N l r=>by
  have B:=Ad4 l
  have S:t∉T:=λz=>P t B t z rfl
  have s:j<(cC n K.length T.length c).length:=by rw [XQ];exact(Aa1.mp l).1
  have Q:=yz k n ((cC n K.length T.length c).getD j 0) (h++ [.aG (aF N (fS n K T c))]) n4
  have A:fS n K T c t=(eE n ((cC n K.length T.length c).getD j 0),eE n ((cC n K.length T.length c).getD j 0)):=by rw [fS,if_neg S,qY p l]
  have E:=ml _ j s
  have a2:=o K j t l
  refine⟨k0 (.v (.int ((eE n ((cC n K.length T.length c).getD j 0):Nat):Int))),?_⟩
  unfold Xo
  rw [za (τ1:= [k0 (.v (wD K T)),k0 (.v a),k0 (.v (.int (n:Int))),k0 (.v (.ref h.length)),k0 (.v (.int (j:Int))),k0 (.v (.int ((eE n ((cC n K.length T.length c).getD j 0):Nat):Int)))]) (h1:=h++ [.aG (aF N (fS n K T c))]) (by
   rw [← m]
   simp_all [ae,Q0,E,Q])]
  rw [za (τ1:= [k0 (.v (wD K T)),k0 (.v a),k0 (.v (.int (n:Int))),k0 (.v (.ref h.length)),k0 (.v (.int (j:Int))),k0 (.v (.int ((eE n ((cC n K.length T.length c).getD j 0):Nat):Int)))]) (h1:=h++ [.aG (GG (aF N (fS n K T c)) t (aY (fS n K T c t).1 (fS n K T c t).2))]) (by
   simp_all [ae,jk,a2,xm (Zf h (.aG (aF N (fS n K T c)))),aD]
   rw [if_pos ⟨H N r,rfl⟩,Zs,A]),execs]) K.length 0 y0 y0 (by omega)
 obtain⟨J,M,e2⟩:=o9 (F:=(u9 (k+1))) (h:=h) (b:=Zq) (f:=fS n K T c) (st:=λx y=> [k0 (.v (wD K T)),k0 (.v a),k0 (.v (.int (n:Int))),k0 (.v (.ref h.length)),x,y]) (λ_ _ _=>rfl) T K g.nd (by rw [Ab1];omega) (λj t y N l r=>by
  have B:=Ad4 l
  have s:j<(cS n K.length T.length c).length:=by rw [qR];exact(Aa1.mp l).1
  have A:fS n K T c t=((cS n K.length T.length c).getD j 0,(cS n K.length T.length c).getD j 0):=by rw [fS,if_pos B,qY G l]
  have E:=ml _ j s
  have a2:=o T j t l
  refine⟨y,?_⟩
  unfold Zq
  rw [za (τ1:= [k0 (.v (wD K T)),k0 (.v a),k0 (.v (.int (n:Int))),k0 (.v (.ref h.length)),k0 (.v (.int (j:Int))),y]) (h1:=h++ [.aG (GG (aF N (fS n K T c)) t (aY (fS n K T c t).1 (fS n K T c t).2))]) (by
   rw [← m]
   simp_all [ae,Qe,Q4,E,a2,xm (Zf h (.aG (aF N (fS n K T c)))),aD]
   rw [if_pos ⟨H N r,rfl⟩,Zs,A]),execs]) T.length 0 v u (by omega)
 rw [List.take_zero,Ae5]at e1
 rw [List.take_zero,Ag0]at e2
 rw [Ae5]at e1
 have I: ∀(i:Int) (L:List Tx) (x y:Option W) (C:AH),L.length<=4->aW [g4 K,g4 T] i=k0 (g4 L)->Gr (u9 (k+1)) (.ao (.bi .len (.a (.ix .v0 (.int i))))) [k0 (.v (wD K T)),k0 (.v a),k0 (.v (.int (n:Int))),k0 (.v (.ref h.length)),x,y] C= .ok ((List.range' 0 L.length).map λ(x:Nat)=>D.int (x:Int)) C:=λi L x y C X q=>by
  rw [← List.range_eq_range']
  exact Js (by simp_all [ae,q,Wh,aD,Aa]) (by omega)
 rw [za (τ1:= [k0 (.v (wD K T)),k0 (.v a),k0 (.v (.int (n:Int))),y0,y0,y0]) (h1:=h) (by
  rw [← m]
  simp_all [ae,mD])]
 rw [za (τ1:= [k0 (.v (wD K T)),k0 (.v a),k0 (.v (.int (n:Int))),k0 (.v (.ref h.length)),y0,y0]) (h1:=h++ [.aG (aF [] (fS n K T c))]) (by simp_all [aD];rfl)]
 rw [za (τ1:= [k0 (.v (wD K T)),k0 (.v a),k0 (.v (.int (n:Int))),k0 (.v (.ref h.length)),v,u]) (h1:=h++ [.aG (aF K (fS n K T c))]) (by
  rw [exec,I 0 K y0 y0 _ O rfl,R.ay]
  exact e1)]
 rw [za (τ1:= [k0 (.v (wD K T)),k0 (.v a),k0 (.v (.int (n:Int))),k0 (.v (.ref h.length)),J,M]) (h1:=h++ [.aG (aF (K++T) (fS n K T c))]) (by
  rw [exec,I 1 T v u _ U rfl,R.ay]
  exact e2)]
 rw [qa (w:= .v (.ref h.length)) (h1:=h++ [.aG (aF (K++T) (fS n K T c))]) rfl]
 show fin h.length (.v (.ref h.length)) _=_
 unfold fin
 rw [if_neg (by simp),if_neg (by simp [W.keep])]
def X7 {F:Fx}{k:Nat}{aC:List Nat}{it:It}{c elt:E}{τ:Sl}{h:AH}{ds:List D}(Q:D->D->Prop) (g:Gn F it τ h= .ok ds h) (l:ds.length<=1000) (e: ∀d∈ds,∃y,eval F elt (GC (Aa2 k y0++aC.map λj=>Gk τ j) 0 (.v d)) h= .ok (.v y) h/\Q d y): ∃f:D->D,eval F (.comp [0] u0 k aC it k9 c elt) τ h= .ok (.own (ds.map f)) h/\ ∀d∈ds,Q d (f d):=by
 have: ∀d,∃y,d∈ds->eval F elt _ h= .ok _ h/\Q d y:=λd=>by
  by_cases m:d∈ds
  ·obtain⟨y,i⟩:=e d m
   exact⟨y,λ_=>i⟩
  ·exact⟨.ak,λz=>absurd z m⟩
 obtain⟨f,b⟩:=Classical.skolem.mp this
 refine⟨f,?_,λd a=>(b d a).2⟩
 exact Xj f g (by rw [Gg];lia) λd a=>⟨_,rfl,_,(b d a).1,rfl⟩
theorem oq (f:D->D): ∀ds:List D,(∀ d∈ds,∃b,f d= .bl b)-> ∃bs:List Bool,ds.map f=bs.map .bl
 | [],_=>⟨[],rfl⟩
 | d::ds,h=>by
  obtain⟨b,e⟩:=h d Aa7
  obtain⟨bs,e2⟩:=oq f ds λd a=>h d (Aa4 _ a)
  exact⟨b::bs,by rw [Ab0,e,e2];rfl⟩
section
variable {n q:Nat}{K T:List Tx}{S:List Sy}
def F8 (m c:Nat) (g:ck n K T) (E: ∀s∈S,s.wf (K++T)/\s.dp<=q) (U:S.length<=100) (V:q+8<=m) (h:AH): ∃b:Bool,call prog (m+1) "_law_keeps" [.v (aZ K T S),.v (wo n K T c).aN] h= .ok (.v (.bl b)) h/\(b=true-> ∀s∈S,Td (wo n K T c) (wo n K T c) s (some true)):=by
 obtain⟨k,rfl⟩: ∃k,m=k+2:=⟨m-2,by omega⟩
 have e1:=KO k c g h
 have P:=EC g (c:=c) (Zf h (.aG (aF (K++T) (fS n K T c))))
 rw [Gb (d:=xu) rfl _ _ _ rfl]
 show ∃b,Gq _ (execs _ _ [k0 (.v (aZ K T S)),k0 (.v (wo n K T c).aN),y0] h)=_/\_
 simp only [xu]
 have r:(h++ [Cell.aG (aF (K++T) (fS n K T c))]).take h.length=h:=by simp
 have I:h.length<=(h++ [Cell.aG (aF (K++T) (fS n K T c))]).length:=by simp
 generalize h++ [Cell.aG _]=a at e1 P r I
 have x:aW [D.int (n:Int),.tup (aK (cC n K.length T.length c)),.tup (aK (cS n K.length T.length c))] 0=k0 _:=rfl
 have G: ∀s∈S,∃o,Td _ _ s o/\eval (u9 (k+2)) (.cmp .cH (.call "_law_told" (.c (.ix .v1 (.int 0)) .v2 .v0)) (.bl true)) [some (.v (aM s)),some (.v (wo n K T c).aN),some (.v (.ref h.length))] a= .ok (.v (.bl (o==some true))) a:=fun s j=>by
  obtain⟨o,u,l⟩:=JO P s (k+2) (by have:=(E s j).2;omega) (E s j).1
  have l:call prog _ "_law_told" [.v (.int (n:Int)),.v (.ref h.length),.v (aM s)] a= .ok (.v (aH o)) a:=l
  have cH:=ku o u0 a
  have L:(wo n K T c).aN= .tup [.int (n:Int),.tup (aK (cC n K.length T.length c)),.tup (aK (cS n K.length T.length c))]:=rfl
  refine⟨o,u,?_⟩
  rw [L]
  simp_all [ae,x,l,cH]
 obtain⟨f,p,H⟩:=X7 (F:=(u9 (k+2))) (k:=1) (aC:= [1,2]) (it:= .seq (.ix .v0 (.int 1))) (c:= .bl true) (elt:= .cmp .cH (.call "_law_told" (.c (.ix .v1 (.int 0)) .v2 .v0)) (.bl true)) (τ:= [some (.v (aZ K T S)),some (.v (wo n K T c).aN),some (.v (.ref h.length))]) (h:=a) (ds:=S.map aM) (fun d y=> ∀s∈S,d=aM s-> ∃o,Td (wo n K T c) (wo n K T c) s o/\y= .bl (o==some true)) (by simp_all [ae,Qe]) (by rw [List.length_map];omega) (fun d t=>by
  obtain⟨s,j,rfl⟩:=Ab8.mp t
  obtain⟨o,u,l⟩:=G s j
  refine⟨.bl (o==k0 u0),l,λQ A e=> ?_⟩
  obtain⟨N,B,i⟩:=G Q A
  rw [← e]at i
  rw [l]at i
  refine⟨N,B,?_⟩
  injection i with i
  injection i)
 obtain⟨bs,C⟩:=oq f (S.map aM) λd t=>by
  obtain⟨s,j,e⟩:=Ab8.mp t
  obtain⟨o, -,e2⟩:=H d t s j e.symm
  exact⟨_,e2⟩
 rw [C]at p
 have p:eval (u9 (k+2)) zw [k0 (.v (aZ K T S)),k0 (.v (wo n K T c).aN),k0 (.v (.ref h.length))] a= .ok (.own (bs.map .bl)) a:=p
 refine⟨bs.all id,?_,λz s j=> ?_⟩
 ·have v:aW [wD K T,D.tup (S.map aM)] 0=k0 (wD K T):=rfl
  rw [za (τ1:= [k0 (.v (aZ K T S)),k0 (.v (wo n K T c).aN),k0 (.v (.ref h.length))]) (h1:=a) (by simp_all [ae,v,e1])]
  rw [qa (w:= .v (.bl (bs.all id))) (h1:=a) (Qa rfl (jx p))]
  obtain⟨R,J,M⟩:=kr (d:= .bl (bs.all id)) (h:=a) (n:=h.length) rfl I
  rw [J,M,r]
 ·obtain⟨o,u,e⟩:=H (aM s) (Ab8.mpr ⟨s,j,rfl⟩) s j rfl
  have m:f (aM s)∈bs.map D.bl:=by rw [← C];exact Ab8.mpr ⟨_,Ab8.mpr ⟨s,j,rfl⟩,rfl⟩
  obtain⟨b,O,e2⟩:=Ab8.mp m
  rw [e]at e2
  have e2:b=(o==k0 u0):=by injection e2
  have:=Al1.mp z b O
  rw [e2]at this
  have:o=k0 true:=eq_of_beq this
  rw [← this]
  exact u
end
theorem n6: ∀(u w:List Nat) (c:Nat),dg (u++w) c=dg u c++dg w (c / 2 ^ u.sum)
 | [],w,c=>by simp [dg]
 | x::u,w,c=>by
  rw [Al0,dg,dg,n6 u w,Al0,Al2,Am6,←Nat.pow_add]
def ur (l:List Nat) (x:Nat):aK (l++ [x])=aK l++ [.int (x:Int)]:=by simp
theorem nc {F:Fx}{h:AH}{b:Ss}{w:Nat}{st:Nat->List Nat->Option W->Sl}(g: ∀c a x d,GC (st c a x) 4 (.v d)=st c a (k0 (.v d))) (i: ∀(c:Nat) (a:List Nat) (t:Tx),a.length<=8->execs F b (st c a (k0 (.v (.str t)))) h= .next (st (c / 2 ^ w) (a++ [c % 2 ^ w]) (k0 (.v (.str t)))) h): ∀(f:List Tx) (c:Nat) (a:List Nat) (x:Option W),a.length+f.length<=8-> ∃j,Gw (Gv [4] u0) (λτ h=>execs F b τ h) (f.map .str) (st c a x) h= .next (st (c / 2 ^ (f.length*w)) (a++dg (Aa2 f.length w) c) j) h
 | [],c,a,x,_=>⟨x,by simp [dg]⟩
 | t::f,c,a,x,k=>by
  rw [Ab]at k
  obtain⟨j,e⟩:=nc g i f (c / 2 ^ w) (a++ [c % 2 ^ w]) (k0 (.v (.str t))) (by rw [Ab1];simp;omega)
  refine⟨j,?_⟩
  rw [Ab0,xb (τ1:=st c a (k0 (.v (.str t)))) (by rw [Gz,g]) (i c a t (by omega)),e,Am6,←Nat.pow_add,Ab,Ae4,dg,Af1,show w+f.length*w=(f.length+1)*w by rw [Nat.add_mul];omega]
  rfl
def Bz (k c:Nat){n:Nat}{K T:List Tx}(g:ck n K T) (h:AH):call prog (k+1) "_law_world" [.v (wD K T),.v (.int (n:Int)),.v (.int (c:Int))] h= .ok (.v (wo n K T c).aN) h:=by
 have n4:=g.n4
 have v:=g.k4
 have y:=g.t4
 have q:n*n<=16:=Ae2 n4 n4
 have m:Gj .mul (n:Int) (n:Int)=k0 _:=Jc n n (by omega)
 have r:=zT n (by omega)
 have o:=zT (n*n) (by omega)
 rw [Gb (d:=xv) rfl _ _ _ rfl]
 show Gq _ _=_
 simp only [xv]
 have l: ∀a:List Nat,a.length<=8->(aK a).length<ba:=λa i=>by rw [Gg,aK,Aa];omega
 obtain⟨f,e1⟩:=nc (F:=(u9 k)) (h:=h) (b:=jm) (w:=n) (st:=λc a x=> [k0 _,k0 (.v (.int (n:Int))),k0 (.v (.int (c:Int))),k0 (.own (aK a)),x,y0]) (λ_ _ _ _=>rfl) (λc a t i=>by
  have j:=kJ c _ (Ac6 n)
  unfold jm
  rw [za (τ1:= [k0 (.v (wD K T)),k0 (.v (.int (n:Int))),k0 (.v (.int (c:Int))),k0 (.own (aK (a++ [c % 2 ^ n]))),k0 (.v (.str t)),y0]) (h1:=h) (by
   simp_all [r,j,l a i,if_true]
   rw [ur])]
  rw [za (τ1:= [k0 (.v (wD K T)),k0 (.v (.int (n:Int))),k0 (.v (.int ((c / 2 ^ n:Nat):Int))),k0 (.own (aK (a++ [c % 2 ^ n]))),k0 (.v (.str t)),y0]) (h1:=h) (by simp_all [jj]),execs]) K c [] y0 (by simp;omega)
 obtain⟨u,e2⟩:=nc (F:=(u9 k)) (h:=h) (b:=wm) (w:=n*n) (st:=λe a x=> [k0 (.v (wD K T)),k0 (.v (.int (n:Int))),k0 (.v (.int (e:Int))),k0 (.own (aK (dg (Aa2 K.length n) c))),x,k0 (.own (aK a))]) (λ_ _ _ _=>rfl) (λe a t i=>by
  have j:=kJ e (2 ^ (n*n)) (Ac6 _)
  unfold wm
  rw [za (τ1:= [k0 (.v (wD K T)),k0 (.v (.int (n:Int))),k0 (.v (.int (e:Int))),k0 (.own (aK (dg (Aa2 K.length n) c))),k0 (.v (.str t)),k0 (.own (aK (a++ [e % 2 ^ (n*n)])))]) (h1:=h) (by
   simp_all [m,o,j,l a i,if_true]
   rw [ur])]
  rw [za (τ1:= [k0 (.v (wD K T)),k0 (.v (.int (n:Int))),k0 (.v (.int ((e / 2 ^ (n*n):Nat):Int))),k0 (.own (aK (dg (Aa2 K.length n) c))),k0 (.v (.str t)),k0 (.own (aK (a++ [e % 2 ^ (n*n)])))]) (h1:=h) (by simp_all [m,jj]),execs]) T _ [] f (by simp;omega)
 rw [Ae5]at e1 e2
 rw [za (τ1:= [k0 (.v (wD K T)),k0 (.v (.int (n:Int))),k0 (.v (.int (c:Int))),k0 (.own []),y0,y0]) (h1:=h) (by simp_all [])]
 rw [za (τ1:= [k0 (.v (wD K T)),k0 (.v (.int (n:Int))),k0 (.v (.int ((c / 2 ^ (K.length*n):Nat):Int))),k0 (.own (aK (dg (Aa2 K.length n) c))),f,y0]) (h1:=h) (by
  rw [exec,show Gr (u9 k) (.seq (.ix .v0 (.int 0))) [k0 (.v (wD K T)),k0 (.v (.int (n:Int))),k0 (.v (.int (c:Int))),k0 (.own []),y0,y0] h= .ok (K.map .str) h by simp_all [ae,jk],R.ay]
  exact e1)]
 rw [za (τ1:= [k0 (.v (wD K T)),k0 (.v (.int (n:Int))),k0 (.v (.int ((c / 2 ^ (K.length*n):Nat):Int))),k0 (.own (aK (dg (Aa2 K.length n) c))),f,k0 (.own [])]) (h1:=h) (by simp_all [])]
 rw [za (by
  rw [exec,show Gr (u9 k) (.seq (.ix .v0 (.int 1))) [k0 (.v (wD K T)),k0 (.v (.int (n:Int))),k0 (.v (.int ((c / 2 ^ (K.length*n):Nat):Int))),k0 (.own (aK (dg (Aa2 K.length n) c))),f,k0 (.own [])] h= .ok (T.map .str) h by simp_all [ae,Qe],R.ay]
  exact e2)]
 have p:cC n K.length T.length c=dg (Aa2 K.length n) c:=by
  rw [cC,cw,n6,List.take_left' (by rw [JY,Ad])]
 have s:cS n K.length T.length c=dg (Aa2 T.length (n*n)) (c / 2 ^ (K.length*n)):=by
  rw [cS,cw,n6,List.drop_left' (by rw [JY,Ad]),Qu]
 have ew:(wo n K T c).aN= .tup [.int (n:Int),.tup (aK (dg (Aa2 K.length n) c)),.tup (aK (dg (Aa2 T.length (n*n)) (c / 2 ^ (K.length*n))))]:=by
  rw [← p,←s];rfl
 rw [qa (w:= .v (wo n K T c).aN) (h1:=h) (Qa rfl (by rw [ew];simp_all [jU])),Ga _ _ _ rfl]
def Ba (n:Nat) (t:Tx):d8 n t=(Aa5 n).flatMap λa=>(Aa5 n).map λb=>(t,a,b):=by
 rw [d8,JM,List.map_flatMap,Am5,Am5]
 congr 1
 refine Ai λa d=> ?_
 rw [List.filter_eq_self.mpr λb c=>by rw [Ae1,decide_eq_true (Wf.place_lt (Ab7.mp d) (Ab7.mp c))],Ad1]
 rfl
noncomputable abbrev fi (r:Nat) (K T:List Tx) (n:Nat) (l:List Pl) (x y:Option W):Sl:= [k0 (.v (.ref r)),k0 (.v (wD K T)),k0 (.v (.int (n:Int))),k0 (.v (.lst (l.map a0))),x,y,y0]
theorem lA {F:Fx}{h:AH}{b:Ss}{i M:Nat}{f:Type}{gD:f->D}(g:f->List Pl){st:List Pl->Option W->Option W->Sl}(c: ∀l x y d,∃j,GC (st l x y) i (.v d)=st l (k0 (.v d)) j) (n: ∀t,(g t).length<=16) (m: ∀(t:f) (l:List Pl) (y:Option W),l.length<=M-> ∃j,execs F b (st l (k0 (.v (gD t))) y) h= .next (st (l++g t) (k0 (.v (gD t))) j) h): ∀(a:List f) (l:List Pl) (x y:Option W),l.length+16*a.length<=M-> ∃J j,Gw (Gv [i] u0) (λτ h=>execs F b τ h) (a.map gD) (st l x y) h= .next (st (l++a.flatMap g) J j) h
 | [],l,x,y,_=>⟨x,y,by simp [Gw]⟩
 | t::a,l,x,y,p=>by
  rw [Ab]at p
  have:=n t
  obtain⟨k,q⟩:=c l x y (gD t)
  obtain⟨o,e1⟩:=m t l k (by omega)
  obtain⟨J,j,e⟩:=lA g c n m a (l++g t) (k0 (.v (gD t))) o (by rw [Ab1];omega)
  refine⟨J,j,?_⟩
  rw [Ab0,xb (τ1:=st l (k0 (.v (gD t))) k) (by rw [Gz,q]) e1,e,Ak4,Af1]
def A2 (k:Nat){ns:List Int}{i r n:Nat}{v:Int}{h:AH}{K T:List Tx}(g:ck n K T) (e:h[r]? =k0 (af ns i v)): ∃(R:List Pl) (J:Int),R.Perm (bH n K T)/\call prog (k+2) "_law_spots" [.v (.ref r),.v (wD K T),.v (.int (n:Int))] h= .ok (.own (R.map a0)) (h.set r (af ns i J)):=by
 have n4:=g.n4
 have C:=g.k4
 have S:=g.t4
 have q:n*n<=16:=Ae2 n4 n4
 have u: ∀t,(dr n t).length<=16:=λt=>by rw [Xu];omega
 have lt: ∀t,(d8 n t).length<=16:=λt=>by rw [W8];exact q
 have add: ∀(e:E) (l l2:List Pl) (x y:Option W),l.length<=400->l2.length<=16->eval (u9 (k+1)) e (fi r K T n l x y) h= .ok (.own (l2.map a0)) h->exec (u9 (k+1)) (.ag 3 (.bin .add .v3 e)) (fi r K T n l x y) h= .next (fi r K T n (l++l2) x y) h:=λe l l2 x y c V I=>by
  have f:(l.map a0).length+(l2.map a0).length<=ba:=by rw [Gg,Aa,Aa];omega
  simp_all [I,ri,f,if_true]
  rw [← Ae6]
 obtain⟨o,j,e1⟩:=lA (F:=(u9 (k+1))) (h:=h) (b:=zn) (i:=4) (M:=200) (gD:=D.str) (dr n) (st:=fi r K T n) (λl x y d=>⟨y,rfl⟩) u (λt l y p=>⟨y,by
  unfold zn
  rw [za (add _ l (dr n t) _ _ (by omega) (u t) (by
   unfold wz
   rw [Zi (n:=n) (λa=>a0 (t,a,a)) rfl (by omega) λa O=>⟨.v (a0 (t,a,a)),by simp_all [];rfl,rfl⟩]
   rw [dr,Ad1];rfl)),execs]⟩) K [] y0 y0 (by simp;omega)
 obtain⟨s,z,e2⟩:=lA (F:=(u9 (k+1))) (h:=h) (b:=wn) (i:=4) (M:=200) (gD:=D.str) (d8 n) (st:=fi r K T n) (λl x y d=>⟨y,rfl⟩) lt (λt l y p=>by
  obtain⟨A,U,e⟩:=lA (F:=(u9 (k+1))) (h:=h) (b:=Zn) (i:=5) (M:=400) (gD:=λa:Nat=>D.int (a:Int)) (λa=>(Aa5 n).map λb=>(t,a,b)) (st:=λl y x=>fi r K T n l (k0 (.v (.str t))) y) (λl x y d=>⟨y,rfl⟩) (λa=>by simp;omega) (λa l y p=>⟨y,by
   unfold Zn
   rw [za (add _ l ((Aa5 n).map λb=>(t,a,b)) _ _ p (by simp;omega) (by
    unfold jz
    rw [Zi (n:=n) (λb=>a0 (t,a,b)) rfl (by omega) λb P=>⟨.v (a0 (t,a,b)),by simp_all [];rfl,rfl⟩]
    rw [Ad1];rfl)),execs]⟩) (Aa5 n) l y y0 (by rw [Aj];omega)
  refine⟨A,?_⟩
  unfold wn
  rw [za (τ1:=fi r K T n (l++d8 n t) (k0 (.v (.str t))) A) (h1:=h) (by
   rw [exec,i9 (n:=n) rfl (by omega),R.ay,Ba]
   exact e),execs]) T (K.flatMap (dr n)) o j (by rw [wJ _ _ (Xu n)];have:K.length*n<=4*4:=Ae2 C n4;omega)
 rw [Ae5]at e1
 have N:(bH n K T).length<=6:=by rw [zE];exact g.b6
 obtain⟨d,v1,Q,L⟩:=wd k e (m:=(bH n K T).length+1) (by omega) (by omega)
 refine⟨(bH n K T).drop d++(bH n K T).take d,v1,?_,?_⟩
 ·exact List.perm_append_comm.trans (by rw [Am8])
 rw [Gb (d:=Jv) rfl _ _ _ rfl]
 show Gq _ (execs _ _ [k0 (.v (.ref r)),k0 (.v (wD K T)),k0 (.v (.int (n:Int))),y0,y0,y0,y0] h)=_
 simp only [Jv]
 rw [za (τ1:=fi r K T n [] y0 y0) (h1:=h) (by simp_all [];rfl)]
 rw [za (τ1:=fi r K T n (K.flatMap (dr n)) o j) (h1:=h) (by
  rw [exec,show Gr (u9 (k+1)) (.seq (.ix .v1 (.int 0))) (fi r K T n [] y0 y0) h= .ok (K.map .str) h by simp_all [ae,jk],R.ay]
  exact e1)]
 rw [za (τ1:=fi r K T n (bH n K T) s z) (h1:=h) (by
  rw [exec,show Gr (u9 (k+1)) (.seq (.ix .v1 (.int 1))) (fi r K T n (K.flatMap (dr n)) o j) h= .ok (T.map .str) h by simp_all [ae,Qe],R.ay]
  exact e2)]
 have G:(((bH n K T).length:Int)+1)=(((bH n K T).length+1:Nat):Int):=rfl
 rw [za (τ1:= [k0 (.v (.ref r)),k0 (.v (wD K T)),k0 (.v (.int (n:Int))),k0 (.v (.lst ((bH n K T).map a0))),s,z,k0 (.v (.int (d:Int)))]) (h1:=h.set r (af ns i v1)) (by simp_all [wv,aD,Aa,zc,G,L])]
 have B:cut ((bH n K T).map a0) y0 (k0 (d:Int))=((bH n K T).take d).map a0:=by rw [wW,Ao1]
 have H:cut ((bH n K T).map a0) (k0 (d:Int)) y0=((bH n K T).drop d).map a0:=by rw [XF,List.map_drop]
 have f:(((bH n K T).drop d).map a0).length+(((bH n K T).take d).map a0).length<=ba:=by rw [Gg,Aa,Aa,Af7,Af];omega
 rw [qa (w:= .own (((bH n K T).drop d++(bH n K T).take d).map a0)) (h1:=h.set r (af ns i v1)) (zA rfl (by
  simp_all [oK,B,H,vI,f,if_true]
  rw [← Ae6]))]
 exact Gx _ h _ (Ad2 ..)
inductive PT where
 | leaf (j:Nat)
 | node (p:Pl) (a b:PT)
noncomputable def aq:PT->D
 | .leaf j=> .tup [.str wc,.int (j:Int)]
 | .node p a b=> .tup [.str xa,.str p.1,.int ((p.2.1:Nat):Int),.int ((p.2.2:Nat):Int),aq a,aq b]
def PT.dp:PT->Nat
 | .leaf _=>0
 | .node _ a b=>max a.dp b.dp+1
def PT.ok (N:List Tx):PT->Prop
 | .leaf _=>True
 | .node p a b=>p.1∈N/\a.ok N/\b.ok N
theorem wL: ∀t:PT,Gc (aq t)=u0
 | .leaf _=>rfl
 | .node p a b=>by simp [aq,wL a,wL b]
theorem JX: ∀t:PT,dep (aq t)<=t.dp+1
 | .leaf _=>by simp [aq]
 | .node p a b=>by
  have:=JX a
  have:=JX b
  simp only [aq,dep,GD,PT.dp]
  omega
theorem ph (d:D): ∀ys:List D,inD d ys=u0-> ∃j,Ke d ys=k0 j
 | [],h=>by simp [inD]at h
 | y::ys,h=>by
  rw [Ke]
  by_cases q:bL y d=u0
  ·exact⟨0,if_pos q⟩
  ·rw [if_neg q]
   rw [inD,Ae8,Ae7]at h
   obtain⟨j,e⟩:=ph d ys (h.resolve_left q)
   exact⟨j+1,by rw [e];rfl⟩
noncomputable abbrev fZ (th:D) (n r:Nat) (b:List D) (l:Nat) (a c e d:Option W):Sl:= [k0 (.v th),k0 (.v (.int (n:Int))),k0 (.v (.ref r)),k0 (.bor b),k0 (.v (.int (l:Int))),a,c,e,d]
def Im (f:D->D) (ds:List D) (h: ∀d∈ds,∃o,f d=aH o):(ds.map f).all GI=u0/\Gf (ds.map f)=u0/\GD (ds.map f)=0:=by
 have a: ∀o,GI (aH o)=u0/\Gc (aH o)=u0/\dep (aH o)=0:=by
  intro o;rcases o with _ | _ | _<;>exact⟨rfl,rfl,rfl⟩
 induction ds with
 | nil=>exact⟨rfl,rfl,rfl⟩
 | cons d ds k=>
  obtain⟨o,e⟩:=h d Aa7
  obtain⟨c,i,g⟩:=k λd l=>h d (Aa4 _ l)
  obtain⟨j,b,m⟩:=a o
  refine⟨?_,?_,?_⟩
  ·rw [Ab0,Ag1,e,j,c];rfl
  ·rw [Ab0,Gf,e,b,i];rfl
  ·rw [Ab0,GD,e,m,g];rfl
section
variable {n q:Nat}{K T:List Tx}{S:List Sy}
def tf {low high r:Nat}{f:Tx->Nat×Nat}{h:AH}(m l:Nat) (b:List Pl) (g:ck n K T) (C: ∀s∈S,s.wf (K++T)/\s.dp<=q) (G:S.length<=100) (Y:q+8<=m) (P:Dc (wo n K T low) (wo n K T high) f r h):(∃ j:Nat,call prog (m+1) "_law_tree" [.v (aZ K T S),.v (.int (n:Int)),.v (.ref r),.bor (b.map a0),.v (.int (l:Int))] h= .ok (.v (aq (.leaf j))) h)\/ ∃O,∀z,execs (u9 m) (match bb.body with | .cons _ (.cons _ r)=>r | r=>r) (fZ (aZ K T S) n r (b.map a0) l O none none none) h=z->call prog (m+1) "_law_tree" [.v (aZ K T S),.v (.int (n:Int)),.v (.ref r),.bor (b.map a0),.v (.int (l:Int))] h=Gq h.length z:=by
 have Q: ∀s∈S,∃o,eval (u9 m) (.call "_law_told" (.c .v1 .v2 .v0)) [some (.v (aM s)),some (.v (.int (n:Int))),some (.v (.ref r))] h= .ok (.v (aH o)) h:=fun s p=>by
  obtain⟨o,V,e⟩:=JO P s m (by have:=(C s p).2;omega) (C s p).1
  have e:call prog m "_law_told" [.v (.int (n:Int)),.v _,.v _] h= .ok _ h:=e
  exact⟨o,by simp_all [e]⟩
 obtain⟨u,i,U⟩:=X7 (F:=(u9 m)) (k:=1) (aC:= [1,2]) (it:= .seq (.ix .v0 (.int 1))) (c:= .bl true) (elt:= .call "_law_told" (.c .v1 .v2 .v0)) (τ:=fZ (aZ K T S) n r (b.map a0) l none none none none) (h:=h) (ds:=S.map aM) (fun d y=> ∃o,y=aH o) (by simp_all [ae,Qe]) (by rw [List.length_map];omega) (fun d J=>by
  obtain⟨s,p,rfl⟩:=Ab8.mp J
  obtain⟨o,e⟩:=Q s p
  exact⟨_,e,o,rfl⟩)
 obtain⟨x,v,E⟩:=Im u _ U
 have H:((S.map aM).map u).length<=100:=by rw [Aa,Aa];exact G
 generalize (S.map aM).map u=a at i x v E H
 have i:eval (u9 m) Xq _ h= .ok _ h:=i
 have I:Gs .mem (.v (.bl k9)) (.v (.lst a)) h=k0 (inD (.bl k9) a):=by
  show(if (GI (.bl k9)&&a.all GI)=u0 then k0 (inD (.bl k9) a)else _)=_
  rw [x];rfl
 have B:Gm (u9 m) (.cmp .mem (.bl k9) .v5) (fZ (aZ K T S) n r (b.map a0) l (k0 (.v (.lst a))) y0 y0 y0) h= .ok (inD (.bl k9) a) h:=by simp_all [I]
 have D: ∀X,execs (u9 m) (.cons (.ag 5 Xq) X) (fZ (aZ K T S) n r (b.map a0) l y0 y0 y0 y0) h=execs (u9 m) X _ h:=λX=>by
  rw [za (τ1:=fZ (aZ K T S) n r (b.map a0) l (k0 (.v (.lst a))) y0 y0 y0) (h1:=h) (by simp_all [i])]
 cases t:inD _ a with
 | true=>
  obtain⟨j,L⟩:=ph (.bl k9) a t
  refine .inl ⟨j,?_⟩
  rw [Gb (d:=bb) rfl _ _ _ rfl]
  show Gq _ (execs _ _ (fZ (aZ K T S) n r (b.map a0) l y0 y0 y0 y0) h)=_
  simp only [bb]
  have M:kP .bG (.v (.lst a)) [.v (.bl k9)] h= .ok (.v (.int (j:Int))) h:=by
   have g:Ki (.v (.bl k9)) (.v (.lst a)) h=k0 j:=by
    unfold Ki
    rw [W.cR,W.cR,WF (d:= .lst a) v]
    show(if ((u0&&Gf a&&y9 (GD a<140))&&y9 (a.length<=ba))=u0 then _ else _)=_
    rw [v,E,decide_eq_true (show a.length<=ba by rw [Gg];omega)]
    exact L
   show(R.of h (Ki _ _ h)).bind _=_
   rw [g]
   rfl
  have N:k5 .bG (.v (.lst a)) h=true:=rfl
  rw [D,Qc (w:= .v (aq (.leaf j))) (by rw [B,t]) (Qa rfl (by simp_all [N,if_true,M];rfl)),Ga _ _ _ rfl]
 | false=>
  refine .inr ⟨k0 (.v (.lst a)),λz A=> ?_⟩
  rw [Gb (d:=bb) rfl _ _ _ rfl]
  show Gq _ (execs _ _ (fZ (aZ K T S) n r (b.map a0) l y0 y0 y0 y0) h)=_
  simp only [bb]at A ⊢
  rw [D,ja (by rw [B,t]),A]
def sA {F:Fx}{th:D}{r l:Nat}{b:Option W}{h:AH}(a:List Pl):Gm F (.cmp .eq .v3 (.lst .nil)) (fZ th n r (a.map a0) l b y0 y0 y0) h= .ok a.isEmpty h:=by
 have e:Gs .eq (.bor (a.map a0)) (.own []) h=k0 a.isEmpty:=by
  rw [nu,W.iG,W.hY,GN (jv a)]
  show(if (Gf _&&u0&&y9 (GD _+1<150))=u0 then k0 (GK _ _)else y0)=_
  rw [jv,decide_eq_true (by have:=J7 a;lia)]
  cases a<;>rfl
 simp_all [e]
def Lr (g:ck n K T) (W: ∀s∈S,s.wf (K++T)/\s.dp<=q) (U:S.length<=100) (l:Nat): ∀(c:List Pl) (m low high r:Nat) (f:Tx->Nat×Nat) (h:AH),c.Nodup->(∀ p∈c,∃i:Nat,(bH n K T)[i]? =k0 p/\low.testBit i=k9/\high.testBit i=u0)->c.length+q+10<=m->Dc (wo n K T low) (wo n K T high) f r h-> ∃t:PT,t.dp<=c.length/\t.ok (K++T)/\call prog m "_law_tree" [.v (aZ K T S),.v (.int (n:Int)),.v (.ref r),.bor (c.map a0),.v (.int (l:Int))] h= .ok (.v (aq t)) h:=by
 intro c
 induction c with
 | nil=>
  intro m low high r f h _ _ M P
  obtain⟨k,rfl⟩: ∃k,m=k+1:=⟨m-1,by omega⟩
  rcases tf k l [] g W U (by simp at M;omega) P with⟨j,e⟩ | ⟨J,e⟩
  ·exact⟨.leaf j,Ac8 _,trivial,e⟩
  ·refine⟨.leaf l,Ac8 _,trivial,?_⟩
   rw [e _,Ga _ _ _ rfl]
   simp only [bb]
   exact Qc (sA []) (Qa rfl (by simp_all [];rfl))
 | cons p c ih=>
  intro m low high r f h E I M P
  obtain⟨k,rfl⟩: ∃k,m=k+3:=⟨m-3,by omega⟩
  rw [Ab]at M
  rcases tf (k+2) l (p::c) g W U (by omega) P with⟨j,e⟩ | ⟨J,e⟩
  ·exact⟨.leaf j,Ac8 _,trivial,e⟩
  obtain⟨t,x,y⟩:=p
  obtain⟨i,G,N,B⟩:=I _ Aa7
  obtain⟨t',a,b,e1,e2,L,O,ha,hb,l1,l2⟩:=(P.fD g).mpr ⟨i,⟨t,x,y,rfl,rfl,rfl,G⟩,B,N⟩
  obtain rfl:t=t':=by injection e1
  obtain rfl:x=a:=by injection e2 with e2;exact An3.inj e2
  obtain rfl:y=b:=by injection L with L;exact An3.inj L
  have E:=Ag4.mp E
  have ne: ∀p∈c,∀j:Nat,_[j]? =k0 p->i≠j:=λp w j u z=>by
   subst z
   rw [G]at u
   exact E.1 (Ad5.inj u▸w)
  have NN:(K++T).length<=100:=by rw [Ab1];have:=g.k4;have:=g.t4;omega
  have X:=zO k (show h[r]? =k0 (.aG (aF (K++T) f))from P.ad) g.n4 O NN ha hb l1 l2
  have V:=P.yes g G (r':=h.length) (h':=h++ [.aG (aF (K++T) (Qz f t ((f t).1 ||| 2 ^ (x*n+y),(f t).2))),.aG (aF (K++T) (Qz f t ((f t).1,(f t).2-2 ^ (x*n+y))))]) (by simp)
  have R:=P.no g G B (r':=h.length+1) (h':=h++ [.aG (aF (K++T) (Qz f t ((f t).1 ||| 2 ^ (x*n+y),(f t).2))),.aG (aF (K++T) (Qz f t ((f t).1,(f t).2-2 ^ (x*n+y))))]) (by simp)
  have hh:(h++ [Cell.aG (aF (K++T) (Qz f t ((f t).1 ||| 2 ^ (x*n+y),(f t).2))),.aG (aF (K++T) (Qz f t ((f t).1,(f t).2-2 ^ (x*n+y))))]).take h.length=h:=by simp
  have Y:h.length<=(h++ [Cell.aG (aF (K++T) (Qz f t ((f t).1 ||| 2 ^ (x*n+y),(f t).2))),.aG (aF (K++T) (Qz f t ((f t).1,(f t).2-2 ^ (x*n+y))))]).length:=by simp
  generalize h++ [Cell.aG (aF (K++T) (Qz f t ((f t).1 ||| 2 ^ (x*n+y),(f t).2))),.aG (aF (K++T) (Qz f t ((f t).1,(f t).2-2 ^ (x*n+y))))]=o at X V R hh Y
  obtain⟨v,d1,o1,c1⟩:=ih (k+2) _ _ _ _ _ E.2 (λp w=>by
   obtain⟨j,u,C,o⟩:=I p (Aa4 _ w)
   refine⟨j,u,?_,o⟩
   rw [Af6,C,Ad3,decide_eq_false (ne p w j u)];rfl) (by omega) V
  obtain⟨A,d2,o2,c2⟩:=ih (k+2) _ _ _ _ _ E.2 (λp w=>by
   obtain⟨j,u,C,o⟩:=I p (Aa4 _ w)
   refine⟨j,u,C,?_⟩
   rw [Wf.bu,o,Ad3,decide_eq_false (ne p w j u)];rfl) (by omega) R
  refine⟨.node (t,x,y) v A,by rw [PT.dp,Ab];omega,⟨O,o1,o2⟩,?_⟩
  rw [e (.ret (.v (aq (.node (t,x,y) v A))) o)]
  ·obtain⟨Q,f1,f2⟩:=kr (d:=aq (.node (t,x,y) v A)) (h:=o) (n:=h.length) (wL _) Y
   rw [f1,f2,hh]
  simp only [bb]
  rw [ja (sA _)]
  have F:eb (.bor (((t,x,y)::c).map a0)) (k0 1) y0 o= .ok (.own (c.map a0)) o:=by
   rw [vv,show cut (((t,x,y)::c).map a0) (k0 1) y0=_ from XF _ 1];rfl
  have H:aW (((t,x,y)::c).map a0) 0=k0 (.tup [.str t,.int (x:Int),.int (y:Int)]):=qf _ _
  rw [za (τ1:=fZ (aZ K T S) n r (((t,x,y)::c).map a0) l J (k0 (.v (.ref h.length))) (k0 (.v (.ref (h.length+1)))) y0) (h1:=o) (by
   generalize ((t,x,y)::c).map a0=Z at H ⊢
   simp_all [nH,H,X])]
  rw [za (τ1:=fZ (aZ K T S) n r (((t,x,y)::c).map a0) l J (k0 (.v (.ref h.length))) (k0 (.v (.ref (h.length+1)))) (k0 (.v (aq v)))) (h1:=o) (by
   generalize ((t,x,y)::c).map a0=Z at F ⊢
   simp_all [F,c1])]
  refine qa (Qa rfl ?_)
  have L1: [D.str xa].length+ [D.str t,.int (x:Int),.int (y:Int)].length<=ba:=by rw [Gg];simp
  have L2: [D.str xa,.str t,.int (x:Int),.int (y:Int)].length+ [aq v,aq A].length<=ba:=by rw [Gg];simp
  have b1:GM .add (.v (.tup [.str xa])) (.v (.tup [.str t,.int (x:Int),.int (y:Int)])) o= .ok (.v (.tup [.str xa,.str t,.int (x:Int),.int (y:Int)])) o:=by rw [QE,if_pos L1];rfl
  have b2:GM .add (.v (.tup [.str xa,.str t,.int (x:Int),.int (y:Int)])) (.v (.tup [aq v,aq A])) o= .ok (.v (aq (.node (t,x,y) v A))) o:=by rw [QE,if_pos L2];rfl
  generalize ((t,x,y)::c).map a0=Z at F H ⊢
  simp_all [nH,H,b1,F,c2,b2]
end
def uM {a:Type}(xs:List a){d:Nat}(h:d<xs.length): ∃y∈xs,aW xs (d:Int)=k0 y:=⟨xs[d],Ak9 h,by rw [zg _ _ h,Aa3 h]⟩
def Ju (xs a:List D) (h:AH) (b:xs.length+a.length<=100):GM .add (.v (.tup xs)) (.v (.tup a)) h= .ok (.v (.tup (xs++a))) h:=by
 rw [QE,if_pos (by rw [Gg];lia)]
abbrev cP (r:Nat) (p:D) (c d a b:Option W):Sl:= [k0 (.v (.ref r)),k0 (.v p),c,d,a,b]
noncomputable abbrev lG:List D:= [.ak,.lst [],.str wc,.tup [.str wc],.tup [.str wc,.int 0,.int 0],.int 7,.lst [.str wc,.int 0],.tup []]
abbrev rV:List D:= [.tup [.str xa,.str [114],.int 0,.int 0],.tup [.str Ze,.int 1]]
def od:List D:=lG++rV
abbrev Gd (b:Nat) (d:D):Prop:=Gc d=u0/\dep d<=b
def Bf: ∀y∈od,Gd 2 y:=by simp [od,Gd]
noncomputable abbrev m9:List D:= [.int 0,.int 1,.int 2,.int 3,.int (-1),.int 4,.int 99,.bl u0,.bl k9,.ak,.str [48],.tup [.int 0],.lst [.int 0]]
noncomputable abbrev kQ (t:Tx):List D:= [.str [],.str [114],.ak,.int 5,.tup [.str [114]],.lst [],.lst [.str [114]],.str (t++ [120])]
abbrev l9:List D:= [.int 0,.int 1,.int 2,.int 4,.int (-1),.bl u0,.str [48],.ak,.lst []]
abbrev l8:List D:= [.int 0,.int 1,.int 2,.int 3,.int (-1),.bl u0,.ak,.lst [.int 0]]
abbrev l5:List D:= [.str wc,.str Ze,.str lx,.ak,.str []]
def kn:(∀ y∈m9,Gd 1 y)/\(∀ y∈l9,Gd 1 y)/\(∀ y∈l8,Gd 1 y)/\(∀ y∈l5,Gd 1 y)/\ ∀t,∀y∈kQ t,Gd 1 y:=by simp [Gd]
def sj {t:Tx}{x y:Int}{a b:PT}{n:Nat}(f:a.dp<n) (h:b.dp<n):(Gd n (aq a)/\Gd n (aq b))/\Gd (n+1) (.tup [.str xa,.str t,.int x,.int y,aq a,aq b]):=by
 have e:=JX a
 have g:=JX b
 have c:=wL a
 have d:=wL b
 refine⟨⟨⟨c,by lia⟩,d,by lia⟩,by simp [c,d],?_⟩
 simp [GD]
 lia
def iY {F:Fx}{r p c:Nat}{ci:Int}{d:D}{e f a:Option W}{h:AH}(b:(c:Int)=ci):Gm F (.cmp .eq .v4 (.int ci)) (cP r d e f (k0 (.v (.int (p:Int)))) a) h= .ok (y9 (p=c)) h:=by
 subst b
 have:=zi p c h
 simp_all [this]
def mK {F:Fx}{r:Nat}{s:Tx}{ds:List D}{c d a b:Option W}{h:AH}(w:Tx):eval F (.cmp .eq (.ix .v1 (.int 0)) (.str w)) (cP r (.tup (.str s::ds)) c d a b) h= .ok (.v (.bl (s==w))) h:=by
 simp_all [ae,qf,Wc]
theorem pK {b:Nat}: ∀ {xs:List D},(∀ d∈xs,Gd b d)->Gf xs=u0/\GD xs<=b
 | [],_=>⟨rfl,Ac8 _⟩
 | x::xs,h=>by
  have a:=h x Aa7
  have c:=pK λd e=>h d (Aa4 _ e)
  refine⟨by rw [Gf,a.1,c.1];rfl,?_⟩
  rw [GD]
  have:=a.2
  omega
def qp {b:Nat}{xs:List D}(h: ∀d∈xs,Gd b d):Gd (b+1) (.tup xs)/\Gd (b+1) (.lst xs):=by
 obtain⟨a,c⟩:=pK h
 exact⟨⟨a,Nat.succ_le_succ c⟩,a,Nat.succ_le_succ c⟩
def Gd.le {b c:Nat}{d:D}(h:Gd b d) (l:b<=c):Gd c d:=⟨h.1,Ab9 h.2 l⟩
def me {F:Fx}{τ:Sl}{h h':AH}{xs:List D}{y:D}{X b d:E}{c:Nat}(k:eval F b τ h= .ok (.v (.int (c:Int))) h) (g:eval F d τ h'= .ok (.v (.int ((c+1:Nat):Int))) h') (rd:Gk τ 1=k0 (.v (.tup xs))) (e:eval F X τ h= .ok (.v y) h') (l:xs.length<=20):eval F (.bin .add (.bin .add (.di .v1 b) (.tup (.cons X .nil))) (.dH .v1 d)) τ h= .ok (.v (.tup (xs.take c++ [y]++xs.drop (c+1)))) h':=by
 have f: ∀a,eb (.v (.tup xs)) y0 _ a= .ok _ a:=λa=>by
  show aD (.tup (cut xs y0 (k0 c))) a=_
  rw [wW]
 have j: ∀a,eb (.v (.tup xs)) _ y0 a= .ok _ a:=λa=>by
  show aD (.tup (cut xs (k0 (c+1:Nat)) y0)) a=_
  rw [XF]
 have i:=Ju (xs.take c) [y] h' (by simp;lia)
 have a2:=Ju (xs.take c++ [y]) (xs.drop (c+1)) h' (by simp;omega)
 simp only [eval,Gu,rd,R.ab,k,g,int?_int,R.aj,f,j,e,W.iQ,i,a2,aD]
def zS {xs:List D}{y d:D}{c:Nat}(h:d∈xs.take c++ [y]++xs.drop (c+1)):d∈xs\/d=y:=by
 simp only [Ad8,Ah0]at h
 obtain(h | h) | h:=h
 ·exact .inl (An5 h)
 ·exact .inr h
 ·exact .inl (List.mem_of_mem_drop h)
section
variable {ns:List Int}{i r:Nat}
def tM (k:Nat){h:AH}{v:Int}(p:D) (e:h[r]? =k0 (af ns i v)): ∃(x:Nat) (d:Int),x<8/\ ∀z,execs (u9 (k+1)) (match ax.body with | .cons _ (.cons _ (.cons _ (.cons _ r)))=>r | r=>r) (cP r p y0 (k0 (.v (.lst od))) (k0 (.v (.int (x:Int)))) y0) (h.set r (af ns i d))=z->execs (u9 (k+1)) (match ax.body with | .cons _ r=>r | r=>r) (cP r p y0 y0 y0 y0) h=z:=by
 obtain⟨x,v1,b,e1⟩:=wd k e (m:=8) (by decide) (by decide)
 have e1:call prog (k+1) "_law_draw" [.v (.ref r),.v (.int 8)] h= .ok (.v (.int (x:Int))) (h.set r (af ns i v1)):=e1
 refine⟨x,v1,b,λz a=> ?_⟩
 simp only [ax]at a ⊢
 rw [za (τ1:=cP r p y0 (k0 (.v (.lst lG))) y0 y0) (h1:=h) (by simp_all [])]
 have c:GM .add (.v (.lst lG)) (.own rV) h= .ok (.own od) h:=by
  rw [ri,if_pos (by rw [Gg];decide)]
  rfl
 rw [za (τ1:=cP r p y0 (k0 (.v (.lst od))) y0 y0) (h1:=h) (by
  rw [exec,show eval (u9 (k+1)) (.bin .add .v3 (.lst (.b (.tup (.d (.str hC) (.str [114]) (.int 0) (.int 0))) (.tup (.b (.str f7) (.int 1)))))) (cP r p y0 (k0 (.v (.lst lG))) y0 y0) h= .ok (.own od) h from c]
  rfl)]
 rw [za (τ1:=cP r p y0 (k0 (.v (.lst od))) (k0 (.v (.int (x:Int)))) y0) (h1:=h.set r (af ns i v1)) (by simp_all [e1]),a]
def i5 (k:Nat){h:AH}{v:Int}(e:h[r]? =k0 (af ns i v)){τ:Sl}(l:Gk τ 0=k0 (.v (.ref r))) (L:List D){m:Nat}{mi:Int}(s:L.length=m) (b:(m:Int)=mi) (o:0<m) (p:m<1000): ∃y∈L,∃v',∀(a:E) (w:W),eval (u9 (k+1)) a τ h= .ok w h->(∀ j J,dz w (.v (.int j)) J=aW L j)->eval (u9 (k+1)) (.ix a (.call "_law_draw" (.b .v0 (.int mi)))) τ h= .ok (.v y) (h.set r (af ns i v')):=by
 obtain⟨d,v1,q,e1⟩:=wd k e (m:=m) o (by omega)
 rw [b]at e1
 obtain⟨y,n,g⟩:=uM L (d:=d) (by omega)
 refine⟨y,n,v1,λa w f c=> ?_⟩
 rw [eval,f,R.ab,eval]
 have ew:Gi (u9 (k+1)) (.b .v0 (.int mi)) τ h= .ok [.v (.ref r),.v (.int mi)] h:=by
  simp only [Gi,eval,l,R.ab]
 rw [ew,R.ab]
 simp only [Ab0,Ae3,W.bO,e1,R.ab,c,g,R.aj]
def tV (k:Nat){p:D}{h:AH}{v:Int}(e:h[r]? =some (af ns i v)) (X:Ss): ∃(d:D) (f:Int),Gd 2 d/\execs (u9 (k+1)) (.cons (.r (.cmp .eq .v4 (.int 0)) (.ix .v3 (.call "_law_draw" (.b .v0 (.bi .len (.a .v3)))))) X) (cP r p none (some (.v (.lst od))) (some (.v (.int ((0:Nat):Int)))) none) h= .ret (.v d) (h.set r (af ns i f)):=by
 obtain⟨d,v2,g,e2⟩:=wd k e (m:=10) (by decide) (by decide)
 have e2:call prog (k+1) "_law_draw" [.v (.ref r),.v (.int (od.length:Int))] h= .ok (.v (.int (d:Int))) (h.set r (af ns i v2)):=e2
 obtain⟨y,b,a⟩:=uM od (d:=d) g
 refine⟨y,v2,Bf y b,?_⟩
 refine qa ((Qr (h1:=h) (iY (c:=0) rfl)).trans (qa (Qa rfl ?_)))
 generalize od=L at e2 a ⊢
 simp_all [wv,aD,e2,xr,a]
def HY (k j:Nat){h:AH}{v:Int}(e:h[r]? =k0 (af ns i v)): ∃(d:D) (o:Int),Gd 3 d/\execs (u9 (k+1)) (match ax.body with | .cons _ r=>r | r=>r) (cP r (aq (.leaf j)) y0 y0 y0 y0) h= .ret (.v d) (h.set r (af ns i o)):=by
 have f:r<h.length:=(Aa1.mp e).1
 have b: ∀w,_[r]? =k0 (af ns i w):=λw=>Ab4 f
 obtain⟨x,v1,s,a⟩:=tM k _ e
 simp only [ax]at a ⊢
 by_cases q:x=0
 ·subst q
  obtain⟨d,v2,g,e2⟩:=tV k (p:=aq _) (b v1) _
  rw [Ac3]at e2
  exact⟨d,v2,g.le (by decide),a _ e2⟩
 ·obtain⟨y,l,v2,e2⟩:=i5 k (b v1) (τ:=cP r _ y0 _ _ y0) rfl m9 (m:=13) (mi:=13) rfl rfl (by decide) (by decide)
  rw [Ac3]at e2
  have n:=kn.1 y l
  refine⟨.tup [.str wc,y],v2,⟨by simpa using n.1,by simp only [dep,GD];lia⟩,a _ ?_⟩
  rw [ja ((iY (c:=0) (ci:=0) rfl).trans (by rw [decide_eq_false q]))]
  refine qa ((Qr (h1:=h.set r _) (by rw [Gm,show aq _= .tup (.str wc:: [.int (j:Int)])from rfl,mK wc];rfl)).trans (qa (Qa rfl ?_)))
  have e2:=e2 (.lst (.cons (.int 0) (.cons (.int 1) (.cons (.int 2) (.cons (.int 3) (.cons (.bin .sub (.int 0) (.int 1)) (.cons (.int 4) (.cons (.int 99) (.g (.bl u0) (.bl k9) .ak (.str [48]) (.tup (.a (.int 0))) (.lst (.a (.int 0)))))))))))) (.own m9) rfl λ_ _=>rfl
  rw [eval,Gu,eval,R.ab,W.iQ,R.aj,R.ab,Gu,e2]
  rfl
end
section
variable {ns:List Int}{i r:Nat}
def FG (k:Nat){N:List Tx}{t:Tx}{x y:Nat}{a b:PT}{n:Nat}(Y:a.dp<n) (hb:b.dp<n) (ht:t.length<=8){h:AH}{v:Int}(e:h[r]? =k0 (af ns i v)): ∃(d:D) (v':Int),Gd (n+3) d/\execs (u9 (k+1)) (match ax.body with | .cons _ r=>r | r=>r) (cP r (.tup [.str xa,.str t,.int (x:Int),.int (y:Int),aq a,aq b]) y0 y0 y0 y0) h= .ret (.v d) (h.set r (af ns i v')):=by
 have hr:r<h.length:=(Aa1.mp e).1
 have C: ∀w,_[r]? =k0 (af ns i w):=λw=>Ab4 hr
 obtain⟨⟨ga,U⟩,gp⟩:=sj (t:=t) (x:=x) (y:=y) Y hb
 have A: ∀d∈ [D.str xa,.str t,.int (x:Int),.int (y:Int),aq a,aq b],Gd n d:=by
  intro d j
  simp only [Ac1,Ai2,or_false]at j
  rcases j with rfl | rfl | rfl | rfl | rfl | rfl
  ·exact⟨rfl,Ac8 _⟩
  ·exact⟨rfl,Ac8 _⟩
  ·exact⟨rfl,Ac8 _⟩
  ·exact⟨rfl,Ac8 _⟩
  ·exact ga
  ·exact U
 have H:1<=n:=by omega
 obtain⟨p,v1,hp,g⟩:=tM k _ e
 simp only [ax]at g ⊢
 by_cases q:p=0
 ·subst q
  obtain⟨d,v2,j,e2⟩:=tV k (p:= .tup [.str xa,.str t,.int (x:Int),.int (y:Int),aq a,aq b]) (C v1) _
  rw [Ac3]at e2
  exact⟨d,v2,j.le (by omega),g _ e2⟩
 have g:=λz f=>g z ((ja ((iY (c:=0) (ci:=0) rfl).trans (by rw [decide_eq_false q]))).trans f)
 have g:=λz f=>g z ((ja (by rw [Gm,mK wc];rfl)).trans f)
 have no: ∀c:Nat,∀u:Int,p≠c->(c:Int)=u-> ∀(Q:Option W) (s X:Ss) z,execs (u9 _) X _ _=z->execs (u9 (k+1)) (.cons (.iff (.cmp .eq .v4 (.int u)) s .nil) X) (cP r (.tup [.str xa,.str t,.int (x:Int),.int (y:Int),aq a,aq b]) y0 (k0 (.v (.lst od))) (k0 (.v (.int (p:Int)))) Q) (h.set r (af ns i v1))=z:=λc u ne I Q s X z f=>by
  rw [ja ((iY (c:=c) I).trans (by rw [decide_eq_false ne]))]
  exact f
 have yes: ∀c:Nat,∀u:Int,p=c->(c:Int)=u-> ∀(ex:E) (X:Ss) (d:D) l,GF ex=y0->eval (u9 (k+1)) ex (cP r (.tup [.str xa,.str t,.int (x:Int),.int (y:Int),aq a,aq b]) y0 (k0 (.v (.lst od))) (k0 (.v (.int (p:Int)))) y0) (h.set r (af ns i v1))= .ok (.v d) l->execs (u9 (k+1)) (.cons (.r (.cmp .eq .v4 (.int u)) ex) X) (cP r (.tup [.str xa,.str t,.int (x:Int),.int (y:Int),aq a,aq b]) y0 (k0 (.v (.lst od))) (k0 (.v (.int (p:Int)))) y0) (h.set r (af ns i v1))= .ret (.v d) l:=λc u ee I ex X d l Z he=>
  qa ((Qr (h1:=h.set r (af ns i v1)) ((iY (c:=c) I).trans (by rw [decide_eq_true ee]))).trans (qa (Qa Z he)))
 have i4: ∀l,dz (.v (.tup [D.str xa,.str t,.int (x:Int),.int (y:Int),aq a,aq b])) (.v (.int 4)) l=k0 (aq a):=λ_=>rfl
 have F: ∀l,dz (.v (.tup [D.str xa,.str t,.int (x:Int),.int (y:Int),aq a,aq b])) (.v (.int 5)) l=k0 (aq b):=λ_=>rfl
 have i1: ∀l,dz (.v (.tup [D.str xa,.str t,.int (x:Int),.int (y:Int),aq a,aq b])) (.v (.int 1)) l=k0 (.str t):=λ_=>rfl
 have G: ∀l,eb (.v (.tup [D.str xa,.str t,.int (x:Int),.int (y:Int),aq a,aq b])) y0 (k0 4) l= .ok (.v (.tup [.str xa,.str t,.int (x:Int),.int (y:Int)])) l:=λ_=>rfl
 by_cases L:p=1
 ·have o:=Ju [D.str xa,.str t,.int (x:Int),.int (y:Int)] [aq b,aq a] (h.set r (af ns i v1)) (by simp)
  refine⟨.tup [.str xa,.str t,.int (x:Int),.int (y:Int),aq b,aq a],v1,(qp λd j=>A d (by simp only [Ac1,Ai2,or_false]at j ⊢;rcases j with h | h | h | h | h | h<;>simp [h])).1.le (by omega),g _ (yes 1 1 L rfl _ _ _ _ rfl ?_)⟩
  generalize D.tup [.str xa,.str t,.int (x:Int),.int (y:Int),aq a,aq b]=P at i4 F G ⊢
  simp_all [G,i4,F,o]
 have g:=λz f=>g z (no 1 1 L rfl _ _ _ z f)
 by_cases O:p=2
 ·obtain⟨z,f,v2,e2⟩:=i5 k (C v1) (τ:=cP r (.tup [.str xa,.str t,.int (x:Int),.int (y:Int),aq a,aq b]) y0 (k0 (.v (.lst od))) (k0 (.v (.int (p:Int)))) (k0 (.v (.lst (kQ t))))) rfl (kQ t) (m:=8) (mi:=8) rfl rfl (by decide) (by decide)
  rw [Ac3]at e2
  have B:=kn.2.2.2.2 t z f
  have as:=add_str t [120] (h.set r (af ns i v1)) (by simp;omega)
  refine⟨.tup ([D.str xa,.str t,.int (x:Int),.int (y:Int),aq a,aq b].take 1++ [z]++ [D.str xa,.str t,.int (x:Int),.int (y:Int),aq a,aq b].drop 2),v2,(qp λd j=>(zS j).elim (A d) λz=>z▸B.le H).1.le (by omega),g _ ?_⟩
  refine qa ((Qr (h1:=h.set r (af ns i v1)) ((iY (c:=2) rfl).trans (by rw [decide_eq_true O]))).trans ?_)
  rw [za (τ1:=cP r (.tup [.str xa,.str t,.int (x:Int),.int (y:Int),aq a,aq b]) y0 (k0 (.v (.lst od))) (k0 (.v (.int (p:Int)))) (k0 (.v (.lst (kQ t))))) (h1:=h.set r (af ns i v1)) (by
   generalize D.tup [.str xa,.str t,.int (x:Int),.int (y:Int),aq a,aq b]=P at i1 ⊢
   simp_all [i1,as])]
  exact qa (Qa rfl (me (c:=1) rfl rfl rfl (e2 .v5 (.v (.lst (kQ t))) rfl λ_ _=>rfl) (by simp)))
 have g:=λz f=>g z (no 2 2 O rfl _ _ _ z f)
 by_cases T:p=3
 ·obtain⟨z,f,v2,e2⟩:=i5 k (C v1) (τ:=cP r (.tup [.str xa,.str t,.int (x:Int),.int (y:Int),aq a,aq b]) y0 (k0 (.v (.lst od))) (k0 (.v (.int (p:Int)))) y0) rfl l9 (m:=9) (mi:=9) rfl rfl (by decide) (by decide)
  rw [Ac3]at e2
  have B:=kn.2.1 z f
  exact⟨.tup ([D.str xa,.str t,.int (x:Int),.int (y:Int),aq a,aq b].take 2++ [z]++ [D.str xa,.str t,.int (x:Int),.int (y:Int),aq a,aq b].drop 3),v2,(qp λd j=>(zS j).elim (A d) λz=>z▸B.le H).1.le (by omega),g _ (yes 3 3 T rfl _ _ _ _ rfl (me (c:=2) rfl rfl rfl (e2 _ (.own l9) rfl λ_ _=>rfl) (by simp)))⟩
 have g:=λz f=>g z (no 3 3 T rfl _ _ _ z f)
 by_cases K:p=4
 ·obtain⟨z,f,v2,e2⟩:=i5 k (C v1) (τ:=cP r (.tup [.str xa,.str t,.int (x:Int),.int (y:Int),aq a,aq b]) y0 (k0 (.v (.lst od))) (k0 (.v (.int (p:Int)))) y0) rfl l8 (m:=8) (mi:=8) rfl rfl (by decide) (by decide)
  rw [Ac3]at e2
  have B:=kn.2.2.1 z f
  exact⟨.tup ([D.str xa,.str t,.int (x:Int),.int (y:Int),aq a,aq b].take 3++ [z]++ [D.str xa,.str t,.int (x:Int),.int (y:Int),aq a,aq b].drop 4),v2,(qp λd j=>(zS j).elim (A d) λz=>z▸B.le H).1.le (by omega),g _ (yes 4 4 K rfl _ _ _ _ rfl (me (c:=3) rfl rfl rfl (e2 _ (.own l8) rfl λ_ _=>rfl) (by simp)))⟩
 have g:=λz f=>g z (no 4 4 K rfl _ _ _ z f)
 by_cases V:p=5
 ·have o:=Ju [D.str xa,.str t,.int (x:Int),.int (y:Int)] [.tup [D.str xa,.str t,.int (x:Int),.int (y:Int),aq a,aq b],aq b] (h.set r (af ns i v1)) (by simp)
  refine⟨.tup [.str xa,.str t,.int (x:Int),.int (y:Int),.tup [D.str xa,.str t,.int (x:Int),.int (y:Int),aq a,aq b],aq b],v1,(qp (b:=n+1) λd j=> ?_).1.le (by omega),g _ (yes 5 5 V rfl _ _ _ _ rfl ?_)⟩
  ·simp only [Ac1,Ai2,or_false]at j
   rcases j with rfl | rfl | rfl | rfl | rfl | rfl
   ·exact⟨rfl,Ac8 _⟩
   ·exact⟨rfl,Ac8 _⟩
   ·exact⟨rfl,Ac8 _⟩
   ·exact⟨rfl,Ac8 _⟩
   ·exact gp
   ·exact U.le (by omega)
  ·generalize D.tup [.str xa,.str t,.int (x:Int),.int (y:Int),aq a,aq b]=P at F G o ⊢
   simp_all [G,F,o]
 have g:=λz f=>g z (no 5 5 V rfl _ _ _ z f)
 by_cases M:p=6
 ·obtain⟨z,f,v2,e2⟩:=i5 k (C v1) (τ:=cP r (.tup [.str xa,.str t,.int (x:Int),.int (y:Int),aq a,aq b]) y0 (k0 (.v (.lst od))) (k0 (.v (.int (p:Int)))) y0) rfl l5 (m:=5) (mi:=5) rfl rfl (by decide) (by decide)
  rw [Ac3]at e2
  have B:=kn.2.2.2.1 z f
  have o:=Ju [z] [.str t,.int (x:Int),.int (y:Int),aq a,aq b] (h.set r (af ns i v2)) (by simp)
  have S: ∀l,eb (.v (.tup [D.str xa,.str t,.int (x:Int),.int (y:Int),aq a,aq b])) (k0 1) y0 l= .ok (.v (.tup [.str t,.int (x:Int),.int (y:Int),aq a,aq b])) l:=λ_=>rfl
  have e2:=e2 (.lst (.f (.str wc) (.str Ze) (.str lx) .ak (.str []))) (.own l5) rfl λ_ _=>rfl
  refine⟨.tup [z,.str t,.int (x:Int),.int (y:Int),aq a,aq b],v2,(qp (b:=n) λd j=> ?_).1.le (by omega),g _ (yes 6 6 M rfl _ _ _ _ rfl ?_)⟩
  ·rcases Ac1.mp j with rfl | j
   ·exact B.le H
   ·exact A d (Aa4 _ j)
  ·generalize D.tup [.str xa,.str t,.int (x:Int),.int (y:Int),aq a,aq b]=P at S e2 ⊢
   generalize E.ix (.lst (.f (.str wc) (.str Ze) (.str lx) .ak (.str []))) (.call "_law_draw" (.b .v0 (.int 5)))=X at e2 ⊢
   simp_all [e2,S,o]
 have g:=λz f=>g z (no 6 6 M rfl _ _ _ z f)
 have o:=Ju [D.str xa,.str t,.int (x:Int),.int (y:Int),aq a,aq b] [.int 0] (h.set r (af ns i v1)) (by simp)
 have R: ∀l,eb (.v (.tup [D.str xa,.str t,.int (x:Int),.int (y:Int),aq a,aq b])) y0 (k0 5) l= .ok (.v (.tup [.str xa,.str t,.int (x:Int),.int (y:Int),aq a])) l:=λ_=>rfl
 have J: ∀l,dA .list [.v (.tup [D.str xa,.str t,.int (x:Int),.int (y:Int),aq a,aq b])] l= .ok (.own [D.str xa,.str t,.int (x:Int),.int (y:Int),aq a,aq b]) l:=λ_=>rfl
 obtain⟨z,f,v2,e2⟩:=i5 k (C v1) (τ:=cP r (.tup [.str xa,.str t,.int (x:Int),.int (y:Int),aq a,aq b]) y0 (k0 (.v (.lst od))) (k0 (.v (.int (p:Int)))) y0) rfl [.tup ([D.str xa,.str t,.int (x:Int),.int (y:Int),aq a,aq b]++ [.int 0]),.tup [D.str xa,.str t,.int (x:Int),.int (y:Int),aq a],.lst [D.str xa,.str t,.int (x:Int),.int (y:Int),aq a,aq b]] (m:=3) (mi:=3) rfl rfl (by decide) (by decide)
 rw [Ac3]at e2
 refine⟨z,v2,?_,g _ (qa (Qa rfl (e2 _ (.own [.tup ([D.str xa,.str t,.int (x:Int),.int (y:Int),aq a,aq b]++ [.int 0]),.tup [D.str xa,.str t,.int (x:Int),.int (y:Int),aq a],.lst [D.str xa,.str t,.int (x:Int),.int (y:Int),aq a,aq b]]) ?_ λ_ _=>rfl)))⟩
 ·simp only [Ac1,Ai2,or_false]at f
  rcases f with rfl | rfl | rfl
  ·exact(qp (b:=n) λd j=>(Ad8.mp j).elim (A d) λz=>by rw [Ah0.mp z];exact⟨rfl,Ac8 _⟩).1.le (by omega)
  ·exact(qp (b:=n) λd j=>A d (An5 (i:=5) j)).1.le (by omega)
  ·exact(qp A).2.le (by omega)
 ·generalize hP:D.tup [.str xa,.str t,.int (x:Int),.int (y:Int),aq a,aq b]=P at R J o ⊢
  simp_all [o,R,J]
end
section
variable {ns:List Int}{i r:Nat}
def Bd {N:List Tx}(P: ∀t∈N,t.length<=8): ∀(t:PT),t.ok N-> ∀(k:Nat) (h:AH) (v:Int),h[r]? =k0 (af ns i v)-> ∃(d:D) (g:Int),Gd (t.dp+3) d/\call prog (t.dp+k+2) "_law_spoilt" [.v (.ref r),.v (aq t)] h= .ok (.v d) (h.set r (af ns i g)):=by
 intro t
 induction t with
 | leaf j=>
  intro _ k h v e
  obtain⟨d,v1,f,e1⟩:=HY k j e
  refine⟨d,v1,f,?_⟩
  rw [show (PT.leaf j).dp+k+2=k+2 by simp [PT.dp]]
  rw [Gb (d:=ax) rfl _ _ _ rfl]
  show Gq _ (execs _ _ (cP r (aq (.leaf j)) y0 y0 y0 y0) h)=_
  simp only [ax]at e1 ⊢
  rw [ja (by
   rw [Gm,eval,show aq (.leaf j)= .tup (.str wc:: [.int (j:Int)])from rfl,mK xa]
   rfl),e1]
  exact Ga _ h _ (Ad2 ..)
 | node p a b B o=>
  obtain⟨t,x,y⟩:=p
  intro ok k h v e
  obtain⟨O,K,T⟩:=ok
  have Q:r<h.length:=(Aa1.mp e).1
  have A: ∀w,(h.set r (af ns i w))[r]? =k0 (af ns i w):=λw=>Ab4 Q
  have E: ∀w,(h.set r (af ns i w)).length=h.length:=λw=>Ad2 ..
  have X:aq (.node (t,x,y) a b)= .tup [.str xa,.str t,.int (x:Int),.int (y:Int),aq a,aq b]:=rfl
  generalize H:(PT.node (t,x,y) a b).dp=n
  have l:a.dp<n:=by rw [← H,PT.dp];omega
  have u:b.dp<n:=by rw [← H,PT.dp];omega
  obtain⟨⟨R,W⟩,gp⟩:=sj (t:=t) (x:=x) (y:=y) l u
  have V: ∀d∈ [D.str xa,.str t,.int (x:Int),.int (y:Int),aq a,aq b],Gd n d:=by
   intro d F
   simp only [Ac1,Ai2,or_false]at F
   rcases F with rfl | rfl | rfl | rfl | rfl | rfl
   ·exact⟨rfl,Ac8 _⟩
   ·exact⟨rfl,Ac8 _⟩
   ·exact⟨rfl,Ac8 _⟩
   ·exact⟨rfl,Ac8 _⟩
   ·exact R
   ·exact W
  rw [X]
  obtain⟨q,v1,Z,e1⟩:=wd (n+k) e (m:=3) (by decide) (by decide)
  have e1:call prog (n+k+1) "_law_draw" [.v (.ref r),.v (.int 3)] h= .ok (.v (.int (q:Int))) (h.set r (af ns i v1)):=e1
  have C:Gm (u9 (n+k+1)) (.and (.cmp .eq (.ix .v1 (.int 0)) (.str hC)) (.cmp .gt (.call "_law_draw" (.b .v0 (.int 3))) (.int 0))) (cP r (.tup [.str xa,.str t,.int (x:Int),.int (y:Int),aq a,aq b]) none none none none) h= .ok (decide (0<q)) (h.set r (af ns i v1)):=by
   have z:Gs .gt (.v (.int (q:Int))) (.v (.int 0)) (h.set r (af ns i v1))=k0 (y9 (0<q)):=gf 0 q _
   rw [Gm,eval,mK xa]
   simp_all [beq_self_eq_true,e1,z]
  rw [Gb (d:=ax) rfl _ _ _ rfl]
  show ∃d g,_/\Gq _ (execs _ _ (cP r (.tup [.str xa,.str t,.int (x:Int),.int (y:Int),aq a,aq b]) y0 y0 y0 y0) h)=_
  simp only [ax]
  by_cases I:0<q
  ·obtain⟨c,v2,hc,e2⟩:=wd (n+k) (A v1) (m:=2) (by decide) (by decide)
   rw [Ac3]at e2
   have e2:call prog (n+k+1) "_law_draw" [.v (.ref r),.v (.int 2)] (h.set r (af ns i v1))= .ok (.v (.int (c:Int))) (h.set r (af ns i v2)):=e2
   have S:((4:Int)+(c:Int))=((4+c:Nat):Int):=rfl
   obtain⟨s,sd,G,U⟩: ∃s:PT,s.dp<n/\aW [D.str xa,.str t,.int (x:Int),.int (y:Int),aq a,aq b] ((4+c:Nat):Int)=k0 (aq s)/\ ∀(k:Nat) (h:AH) (v:Int),h[r]? =k0 (af ns i v)-> ∃(d:D) (g:Int),Gd (s.dp+3) d/\call prog (s.dp+k+2) "_law_spoilt" [.v (.ref r),.v (aq s)] h= .ok (.v d) (h.set r (af ns i g)):=by
    have:c=0\/c=1:=by omega
    rcases this with rfl | rfl
    ·exact⟨a,l,rfl,B K⟩
    ·exact⟨b,u,rfl,o T⟩
   obtain⟨d,v3,f,J⟩:=U (n+k-1-s.dp) _ v2 (A v2)
   rw [Ac3,show s.dp+(n+k-1-s.dp)+2=n+k+1 by omega]at J
   refine⟨.tup ([D.str xa,.str t,.int (x:Int),.int (y:Int),aq a,aq b].take (4+c)++ [d]++ [D.str xa,.str t,.int (x:Int),.int (y:Int),aq a,aq b].drop (4+c+1)),v3,(qp (b:=n+2) λz M=>(zS M).elim (λm=>(V z m).le (by omega)) λm=>m▸f.le (by omega)).1,?_⟩
   have Y:(((4+c:Nat):Int)+1)=((4+c+1:Nat):Int):=rfl
   rw [qa (w:= .v (.tup ([D.str xa,.str t,.int (x:Int),.int (y:Int),aq a,aq b].take (4+c)++ [d]++ [D.str xa,.str t,.int (x:Int),.int (y:Int),aq a,aq b].drop (4+c+1)))) (h1:=h.set r (af ns i v3)) ((Qr (h1:=h.set r (af ns i v1)) (by rw [C,decide_eq_true I])).trans ?_)]
   ·exact Ga _ h _ (E v3)
   rw [za (τ1:=cP r (.tup [.str xa,.str t,.int (x:Int),.int (y:Int),aq a,aq b]) (k0 (.v (.int ((4+c:Nat):Int)))) y0 y0 y0) (h1:=h.set r (af ns i v2)) (by simp_all [e2,zc,S])]
   refine qa (Qa rfl (me (c:=4+c) (by simp_all []) (by simp_all [zc,Y]) rfl ?_ (by simp)))
   generalize hL: [D.str xa,.str t,.int (x:Int),.int (y:Int),aq a,aq b]=L at G ⊢
   simp_all [ae,G,J]
  ·obtain⟨d,v2,f,e2⟩:=FG (N:=N) (n+k) (x:=x) (y:=y) l u (P t O) (A v1)
   rw [Ac3]at e2
   refine⟨d,v2,f,?_⟩
   simp only [ax]at e2
   rw [za (iU (h1:=h.set r (af ns i v1)) (by rw [C,decide_eq_false I])),e2]
   exact Ga _ h _ (E v2)
end
def Q5 (e:Ex):Gc (aU e)=u0/\dep (aU e)<=e.dp+1:=by
 induction e with
 | turned a d=>obtain⟨c,g⟩:=d;exact⟨by simp [aU,c],by simp [aU,Ex.dp];lia⟩
 | closed a d=>obtain⟨c,g⟩:=d;exact⟨by simp [aU,c],by simp [aU,Ex.dp];lia⟩
 | plus a b d k=>obtain⟨c,g⟩:=d;obtain⟨f,h⟩:=k;exact⟨by simp [aU,c,f],by simp [aU,Ex.dp];lia⟩
 | less a b d k=>obtain⟨c,g⟩:=d;obtain⟨f,h⟩:=k;exact⟨by simp [aU,c,f],by simp [aU,Ex.dp];lia⟩
 | both a b d k=>obtain⟨c,g⟩:=d;obtain⟨f,h⟩:=k;exact⟨by simp [aU,c,f],by simp [aU,Ex.dp];lia⟩
 | joined a b d k=>obtain⟨c,g⟩:=d;obtain⟨f,h⟩:=k;exact⟨by simp [aU,c,f],by simp [aU,dep,GD,Ex.dp];lia⟩
 | _=>exact⟨rfl,by simp [aU]⟩
def nq (s:Sy):Gc (aM s)=u0/\dep (aM s)<=s.dp+2:=by
 induction s with
 | fact f=>
  cases f with
  | eG a b=>obtain⟨c,d⟩:=Q5 a;obtain⟨e,h⟩:=Q5 b;exact⟨by simp [aM,de,c,e],by simp [aM,de,Sy.dp,Fc.dp];lia⟩
  | fc a b=>obtain⟨c,d⟩:=Q5 a;obtain⟨e,h⟩:=Q5 b;exact⟨by simp [aM,de,c,e],by simp [aM,de,Sy.dp,Fc.dp];lia⟩
  | fh a=>obtain⟨c,d⟩:=Q5 a;exact⟨by simp [aM,de,c],by simp [aM,de,Sy.dp,Fc.dp];lia⟩
  | ak a=>obtain⟨c,d⟩:=Q5 a;exact⟨by simp [aM,de,c],by simp [aM,de,dep,GD,Sy.dp,Fc.dp];lia⟩
  | cnt t j a=>obtain⟨c,d⟩:=Q5 a;exact⟨by simp [aM,de,c],by simp [aM,de,dep,GD,Sy.dp,Fc.dp];lia⟩
 | neg a g=>obtain⟨c,d⟩:=g;exact⟨by simp [aM,c],by simp [aM,dep,GD,Sy.dp];lia⟩
 | du a b g k=>obtain⟨c,d⟩:=g;obtain⟨e,h⟩:=k;exact⟨by simp [aM,c,e],by simp [aM,dep,GD,Sy.dp];lia⟩
 | dh a b g k=>obtain⟨c,d⟩:=g;obtain⟨e,h⟩:=k;exact⟨by simp [aM,c,e],by simp [aM,dep,GD,Sy.dp];lia⟩
def xZ (k:Nat){n:Nat}{K T:List Tx}(g:ck n K T) (h:AH):call prog (k+5) "check_bits" [.v (wD K T),.v (.int (n:Int)),.v (.int 16)] h= .ok (.v .ak) h:=by
 have n4:=g.n4
 have c:=g.b6
 have b:=vt k (.int (n:Int)) h rfl (by simp [Jd];omega)
 have a:=sR (k+2) n (K.map .str) (T.map .str) h n4 (by rw [Aa];exact g.k4) (by rw [Aa];exact g.t4)
 rw [Aa,Aa,nA]at a
 rw [Gb (d:=jr) rfl _ _ _ rfl]
 show Gq _ _=_
 simp only [jr]
 rw [za (τ1:= [k0 (.v (wD K T)),k0 (.v (.int (n:Int))),k0 (.v (.int 16)),y0]) (h1:=h) (by simp_all [b])]
 rw [za (τ1:= [k0 (.v (wD K T)),k0 (.v (.int (n:Int))),k0 (.v (.int 16)),k0 (.v (.int ((bN n K T:Nat):Int)))]) (h1:=h) (by simp_all [a])]
 have z:Gs .gt _ (.v (.int 16)) h=k0 _:=gf 16 (bN n K T) h
 rw [decide_eq_false (by lia)]at z
 rw [ja (by simp_all [z]),execs]
 exact GA _ h _ rfl
def ZQ {F:Fx}{τ:Sl}{g:AH}{i:Nat}{c f:String}{fs:List (String×D)}{e:E}{d:D}(a:eval F e τ (g++ [.obj c fs])= .ok (.v d) (g++ [.obj c fs])) (b:Gp τ i=k0 (.v (.ref g.length))) (h:Gc d=u0) (j:fs.length<100):exec F (.bR i c f e) τ (g++ [.obj c fs])= .next τ (g++ [.obj c (aQ f d fs)]):=by
 rw [exec,a,R.ay]
 simp only [b,JQ (Zf g _),h,j,and_self,if_true,Zs]
def Lq {F:Fx}{τ:Sl}{g:AH}{i:Nat}{c f:String}{fs:List (String×D)}{e:E}{xs:List D}(a:eval F e τ (g++ [.obj c fs])= .ok (.own xs) (g++ [.obj c fs])) (b:Gp τ i=k0 (.v (.ref g.length))) (d:Gf xs=u0) (h:fs.length<100):exec F (.b4 i c f e) τ (g++ [.obj c fs])= .next τ (g++ [.obj c (aQ f (.lst xs) fs)]):=by
 rw [exec,a,R.ay]
 simp only [W.gZ,b,JQ (Zf g _),show Gc (.lst xs)=u0 from d,h,and_self,if_true,Zs]
def BD (k:Nat){n:Nat}{K T:List Tx}{S:List Sy}(g:ck n K T) (h:AH):call prog (k+4) "Cases.__init__" [.v (.ref h.length),.v (aZ K T S),.v (.int (n:Int))] (h++ [.obj "Cases" []])= .ok (.v .ak) (h++ [Cell.obj "Cases" (e7 n K T S)]):=by
 rw [Gb (d:=Jh) rfl _ _ _ rfl]
 show Gq _ (execs _ _ [k0 (.v (.ref h.length)),k0 (.v (aZ K T S)),k0 (.v (.int (n:Int)))] (h++ [.obj "Cases" []]))=_
 simp only [Jh]
 have l:Gc (wD K T)=true:=by
  show(Gf (K.map .str)&&(Gf (T.map .str)&&u0))=u0
  rw [zv,zv];rfl
 have q:Gc (.tup (S.map aM))=true:=js _ (λs=>(nq s).1) S
 have o: ∀a,eval (u9 (k+3)) (.ix .v1 (.int 0)) [k0 (.v (.ref h.length)),k0 (.v (aZ K T S)),k0 (.v (.int (n:Int)))] a= .ok (.v (wD K T)) a:=λa=>by simp_all [ae,jk]
 have m: ∀a,eval (u9 (k+3)) (.ix .v1 (.int 1)) [k0 (.v (.ref h.length)),k0 (.v (aZ K T S)),k0 (.v (.int (n:Int)))] a= .ok (.v (.tup (S.map aM))) a:=λa=>by simp_all [ae,Qe]
 rw [za (ZQ (fs:= []) (o _) rfl l (show 0<100 by decide))]
 rw [za (ZQ (fs:=aQ "words" (wD K T) []) (m _) rfl q (show 1<100 by decide))]
 rw [za (ZQ (fs:=aQ "sayings" (.tup (S.map aM)) (aQ "words" (wD K T) [])) (d:= .int (n:Int)) (by simp_all []) rfl rfl (show 2<100 by decide))]
 have pl: ∀a,eval (u9 (k+3)) (.call "places_of" (.b (.ix .v1 (.int 0)) .v2)) [some (.v (.ref h.length)),some (.v (aZ K T S)),some (.v (.int (n:Int)))] a= .ok (.own ((bH n K T).map a0)) a:=fun a=>by
  have e:=CV k n K T a g.n4 g.k4 g.t4
  simp_all [ae,jk,e]
  rfl
 rw [za (Lq (fs:=aQ "size" (.int (n:Int)) (aQ "sayings" (.tup (S.map aM)) (aQ "words" (wD K T) []))) (pl _) rfl (jv _) (show 3<100 by decide))]
 have c:aQ "places" (.lst ((bH n K T).map a0)) (aQ "size" (.int (n:Int)) (aQ "sayings" (.tup (S.map aM)) (aQ "words" (wD K T) [])))= [("words",wD K T),("sayings",.tup (S.map aM)),("size",.int (n:Int)),("places",.lst ((bH n K T).map a0))]:=rfl
 rw [c]
 have r:=g.b6
 have p:=zT (bN n K T) (by show K.length*n+T.length*(n*n)<=_;omega)
 have j:((2 ^ bN n K T:Nat):Int)-1=((2 ^ bN n K T-1:Nat):Int):=by
  have:=Ac6 (bN n K T)
  omega
 rw [za (ZQ (d:= .int ((2 ^ bN n K T-1:Nat):Int)) (by
  have b:=qD (F:=(u9 (k+3))) (τ:= [k0 (.v (.ref h.length)),k0 (.v (aZ K T S)),k0 (.v (.int (n:Int)))]) (i:=0) (f:= "places") (Zf h (.obj "Cases" [("words",wD K T),("sayings",.tup (S.map aM)),("size",.int (n:Int)),("places",.lst ((bH n K T).map a0))])) rfl rfl
  generalize E.fld 0 "Cases" "places" =X at b ⊢
  simp_all [b,wv,aD,Aa,zE,p,zf,j]) rfl rfl (by simp))]
 rw [execs]
 exact GA _ _ _ (by simp)
def ub (m c:Nat){n:Nat}{K T:List Tx}{S:List Sy}{p:D}{r:Nat}{b:Bool}{j:AH}(g:ck n K T) (u:Wk n K T S c p 0 (2 ^ bN n K T-1) r j b) (v:c<=m) (x:5<=m) (h:AH):call prog (m+1) "holds" [.v (aZ K T S),.v (.int (n:Int)),.v p] h= .ok (.v (.bl b)) h:=by
 obtain⟨k,rfl⟩: ∃k,m=k+5:=⟨m-5,by omega⟩
 have e1:=xZ k g h
 have e2:=BD (k+1) (S:=S) g h
 have a:=u.o3 _ h.length _ v (Zf h _)
 rw [Gb (d:=Z4) rfl _ _ _ rfl]
 show Gq _ (execs _ _ [k0 _,k0 _,k0 _,y0] h)=_
 simp only [Z4]
 have s:prog.con.lookup "MOST_BITS" =some _:=rfl
 rw [za (τ1:= [k0 (.v (aZ K T S)),k0 (.v (.int (n:Int))),k0 (.v p),y0]) (h1:=h) (by simp_all [ae,jk,s,aD,e1])]
 rw [za (τ1:= [k0 (.v (aZ K T S)),k0 (.v (.int (n:Int))),k0 (.v p),k0 (.v (.ref h.length))]) (h1:=h++ [Cell.obj "Cases" (e7 n K T S)]) (by simp_all [e2,aD])]
 have a:call prog _ "Cases.is_shown" [.v _,.v p,.v _,.v _] _= .ok _ _:=a
 have e:=qD (F:=(u9 (k+5))) (τ:= [k0 (.v (aZ K T S)),k0 (.v (.int (n:Int))),k0 (.v p),k0 (.v (.ref h.length))]) (i:=3) (f:= "whole") (Zf h (.obj "Cases" (e7 n K T S))) rfl rfl
 have o:=x3 (F:=(u9 (k+5))) (τ:= [k0 (.v (aZ K T S)),k0 (.v (.int (n:Int))),k0 (.v p),k0 (.v (.ref h.length))]) (i:=3) (m:= "is_shown") (q:= "Cases.is_shown") (es:= .cons .v2 (.b (.int 0) (.fld 3 "Cases" "whole"))) (ws:= [.v p,.v (.int 0),.v (.int ((2 ^ bN n K T-1:Nat):Int))]) (Zf h (.obj "Cases" (e7 n K T S))) rfl rfl (by
  generalize E.fld 3 "Cases" "whole" =X at e ⊢
  simp_all [e])
 rw [qa (w:= .v (.bl b)) (h1:=h++ [Cell.obj "Cases" (e7 n K T S)]) (Qa rfl (o.trans a))]
 obtain⟨y,t,l⟩:=kr (d:= .bl b) (h:=h++ [Cell.obj "Cases" (e7 n K T S)]) (n:=h.length) rfl (by simp)
 rw [t,l,List.take_left' rfl]
def yk {n:Nat}{K T:List Tx}(g:ck n K T):(bH n K T).Nodup:=by
 rw [List.Nodup,List.pairwise_iff_getElem]
 intro i j a b lt e
 have:=mw g (Aa3 a) (by rw [e];exact Aa3 b)
 lia
def Bo {S:List Sy}{q:Nat}(h:AH) (a: ∀s∈S,s.dp<=q) (f:q<=100):Gs .ne (.v (.tup (S.map aM))) (.v (.tup [])) h=k0 (!S.isEmpty):=by
 have r:=qp (b:=q+2) (xs:=S.map aM) λd e=>by
  obtain⟨s,c,rfl⟩:=Ab8.mp e
  have:=nq s
  have:=a s c
  exact⟨(nq s).1,by lia⟩
 have r:=r.1
 rw [oP,W.cR,W.cR,WF r.1]
 show(if (Gc _&&u0&&decide _)=u0 then k0 (!GK _ [])else y0)=_
 rw [r.1,decide_eq_true (by lia)]
 cases S<;>rfl
abbrev cO (sc:D) (i n h g j m l k e b f c d a:Option W):Sl:= [k0 (.v sc),k0 (.v (.ref 0)),i,n,h,g,j,m,l,k,e,b,f,c,d,a]
def Ep {ns:List Int}{i n:Nat}{v:Int}{K T:List Tx}{S:List Sy}{sc:D}(b: ∀s∈S,s.wf (K++T)/\s.dp<=8) (w:S.length<=4): ∃(f:List Sy) (x:Option W) (t:Int),(∀ s∈f,s.wf (K++T)/\s.dp<=9)/\f.length<=5/\exec (u9 39) (.iff (.and (.cmp .ne (.ix .v4 (.int 1)) (.tup .nil)) (.cmp .gt (.call "_law_draw" (.b .v1 (.int 3))) (.int 0))) (.cons (.ag 5 (.tup (.b (.str gq) (.ix (.ix .v4 (.int 1)) (.call "_law_draw" (.b .v1 (.bi .len (.a (.ix .v4 (.int 1)))))))))) (.a (.ag 4 (.tup (.b .v3 (.bin .add (.ix .v4 (.int 1)) (.tup (.a .v5)))))))) .nil) (cO sc (some (.v (.int (n:Int)))) (some (.v (wD K T))) (some (.v (aZ K T S))) none none none none none none none none none none none) [af ns i v]= .next (cO sc (some (.v (.int (n:Int)))) (some (.v (wD K T))) (some (.v (aZ K T f))) x none none none none none none none none none none) [af ns i t]:=by
 have z:=λh=>Bo (S:=S) (q:=8) h (λs a=>(b s a).2) (by decide)
 have same: ∀s∈S,s.wf (K++T)/\s.dp<=9:=λs a=>⟨(b s a).1,by have:=(b s a).2;omega⟩
 cases q:S.isEmpty with
 | true=>
  refine⟨S,y0,v,same,by omega,?_⟩
  rw [iU (h1:= [af ns i v]) (by simp_all [ae,Qe,z,q]),execs]
 | false=>
  obtain⟨d,v1,y,e1⟩:=wd 38 (h:= [af ns i v]) (r:=0) rfl (m:=3) (by decide) (by decide)
  have e1:call prog 39 "_law_draw" [.v (.ref 0),.v (.int 3)] [af ns i v]= .ok (.v (.int (d:Int))) [af ns i v1]:=e1
  have g:Gm (u9 39) (.and (.cmp .ne (.ix .v4 (.int 1)) (.tup .nil)) (.cmp .gt (.call "_law_draw" (.b .v1 (.int 3))) (.int 0))) (cO sc (some (.v (.int (n:Int)))) (some (.v (wD K T))) (some (.v (aZ K T S))) none none none none none none none none none none none) [af ns i v]= .ok (decide (0<d)) [af ns i v1]:=by
   have p:=gf 0 d [af ns i v1]
   have p:Gs .gt (.v (.int (d:Int))) (.v (.int 0)) [af ns i v1]=k0 (y9 (0<d)):=p
   simp_all [ae,Qe,z,q,e1,p]
  by_cases j:0<d
  ·have k:0<S.length:=by cases S with | nil=>cases q | cons _ _=>simp
   obtain⟨x,v2,c,e2⟩:=wd 38 (h:= [af ns i v1]) (r:=0) rfl (m:=S.length) k (by omega)
   have e2:call prog 39 "_law_draw" [.v (.ref 0),.v (.int (S.length:Int))] [af ns i v1]= .ok (.v (.int (x:Int))) [af ns i v2]:=e2
   have e:aW (S.map aM) (x:Int)=k0 (aM S[x]):=by
    rw [zg _ _ (by rw [Aa];exact c),Ac2,Aa3 c];rfl
   obtain⟨o,u⟩:=b _ (Ak9 c)
   refine⟨S++ [Sy.neg S[x]],k0 (.v (aM (.neg S[x]))),v2,λs a=> ?_,by rw [Ab1];simp;omega,?_⟩
   ·rcases Ad8.mp a with a | a
    ·exact same s a
    ·rw [Ah0.mp a]
     exact⟨o,by rw [Sy.dp];omega⟩
   ·have l:=Ju (S.map aM) [aM (.neg S[x])] [af ns i v2] (by simp;omega)
    rw [Qr (h1:= [af ns i v1]) (by rw [g,decide_eq_true j])]
    rw [za (τ1:=cO sc (k0 (.v (.int (n:Int)))) (k0 (.v (wD K T))) (k0 (.v (aZ K T S))) (k0 (.v (aM (.neg S[x])))) y0 y0 y0 y0 y0 y0 y0 y0 y0 y0) (h1:= [af ns i v2]) (by
     simp_all [ae,Qe,Wh,aD,Aa,e2,e]
     rfl)]
    rw [za (τ1:=cO sc (k0 (.v (.int (n:Int)))) (k0 (.v (wD K T))) (k0 (.v (aZ K T (S++ [Sy.neg S[x]])))) (k0 (.v (aM (.neg S[x])))) y0 y0 y0 y0 y0 y0 y0 y0 y0 y0) (h1:= [af ns i v2]) (by
     simp_all [ae,Qe,l]
     rw [aZ,Ae6]
     rfl),execs]
  ·refine⟨S,y0,v1,same,by omega,?_⟩
   rw [iU (h1:= [af ns i v1]) (by rw [g,decide_eq_false j]),execs]
def o8 {sc:D}{f j i k g m l h a o c d:Option W}{th p:D}{n:Nat}{b:Bool}{H:AH}(r:f=some (.v (.int (n:Int)))) (q:i=some (.v th)) (e:call prog 39 "holds" [.v th,.v (.int (n:Int)),.v p] H= .ok (.v (.bl b)) H):execs (u9 39) Z1 (cO sc f j i k g m l h a (some (.v p)) (some (.v (.bl b))) o c d) H= .next (cO sc f j i k g m l h a (some (.v p)) (some (.v (.bl b))) (some (.v (.bl b))) c d) H:=by
 subst r q
 unfold Z1
 rw [za (τ1:=cO sc (k0 (.v (.int n))) j (k0 (.v th)) k g m l h a (k0 (.v p)) (k0 (.v (.bl b))) (k0 (.v (.bl b))) c d) (h1:=H) (by simp_all [e])]
 have z:Gs .ne (.v (.bl b)) (.v (.bl b)) H=k0 false:=by cases b<;>rfl
 have t:cq .bool (.v (.bl b))=k0 true:=rfl
 rw [ja (by simp_all [t,z]),execs]
def C2 {w b:Nat}(h:w<2 ^ b):Sub w (2 ^ b-1):=λk z=>by
 rw [Ae1,decide_eq_true_eq]
 refine Nat.lt_of_not_le λl=> ?_
 rw [Ai4 (Ab3 h (Ae0 (by decide) l))]at z
 cases z
def KY (w:Nat):Sub 0 w:=λk z=>by rw [Af9]at z;cases z
def HF {sc:D}{n:Nat}{K T:List Tx}{S:List Sy}{t o u a j i l:Option W}{p:D}{r c:Nat}{I H:AH}{b:Bool}(g:ck n K T) (P: ∀s∈S,s.wf (K++T)/\s.dp<=9) (hl:S.length<=5) (wk:Wk n K T S c p 0 (2 ^ bN n K T-1) r I b):execs (u9 39) (.cons (.ag 14 (.bin .shl (.int 1) (.bin .add (.bin .mul .v2 (.bi .len (.a (.ix .v3 (.int 0))))) (.bin .mul (.bin .mul .v2 .v2) (.bi .len (.a (.ix .v3 (.int 1)))))))) (.cons (.ag 15 xP) (.a (.ret (.or (.not .v9) (.not (.bi .any (.a w4)))))))) (cO sc (k0 (.v (.int (n:Int)))) (k0 (.v (wD K T))) (k0 (.v (aZ K T S))) t o (k0 (.v p)) u (k0 (.v (.bl b))) a j i l y0 y0) H= .ret (.v (.bl u0)) H:=by
 have n4:=g.n4
 have A:=g.b6
 have A:bN n K T<=6:=A
 have U:n*n<=16:=Ae2 n4 n4
 have N:Gj .mul (n:Int) _=k0 ((n*K.length:Nat):Int):=Jc n _ (by omega)
 have Y:Gj .mul (n:Int) (n:Int)=k0 _:=Jc n n (by omega)
 have Z:Gj .mul _ _=k0 ((n*n*T.length:Nat):Int):=Jc _ _ (by omega)
 have Q:(((n*K.length:Nat):Int)+((n*n*T.length:Nat):Int))=((bN n K T:Nat):Int):=by
  show((n*K.length+n*n*T.length:Nat):Int)=_
  rw [Ak7 n,Ak7 (n*n)]
 have s1:=zT (bN n K T) (by omega)
 have V:2 ^ bN n K T<=64:=(Ae0 (by decide) A:2 ^ bN n K T<=2 ^ 6)
 rw [za (τ1:=cO sc (k0 (.v (.int (n:Int)))) (k0 (.v (wD K T))) (k0 (.v (aZ K T S))) t o (k0 (.v p)) u (k0 (.v (.bl b))) a j i l (k0 (.v (.int ((2 ^ bN n K T:Nat):Int)))) y0) (h1:=H) (by simp_all [ae,jk,Qe,Wh,aD,Aa,N,Y,Z,zc,Q,s1])]
 have e2:eval (u9 39) xP (cO sc (k0 (.v (.int (n:Int)))) (k0 (.v (wD K T))) (k0 (.v (aZ K T S))) t o (k0 (.v p)) u (k0 (.v (.bl b))) a j i l (k0 (.v (.int ((2 ^ bN n K T:Nat):Int)))) y0) H= .ok (.own ((Aa5 (2 ^ bN n K T)).map λc=>(wo n K T c).aN)) H:=by
  unfold xP
  exact Zi (n:=2 ^ bN n K T) (λc=>(wo n K T c).aN) rfl (by omega) λc hc=>⟨.v (wo n K T c).aN,by
   have e:=Bz 38 c g H
   simp_all [e],rfl⟩
 rw [za (τ1:=cO sc (k0 (.v (.int (n:Int)))) (k0 (.v (wD K T))) (k0 (.v (aZ K T S))) t o (k0 (.v p)) u (k0 (.v (.bl b))) a j i l (k0 (.v (.int ((2 ^ bN n K T:Nat):Int)))) (k0 (.v (.lst ((Aa5 (2 ^ bN n K T)).map λc=>(wo n K T c).aN))))) (h1:=H) (by simp_all [e2])]
 cases b with
 | false=>
  refine qa (Qa rfl ?_)
  rw [eval,eval,eval]
  rfl
 | true=>
  obtain⟨f,v,G⟩:=X7 (F:=(u9 39)) (k:=1) (aC:= [4]) (it:= .seq (.var 15)) (c:= .bl true) (elt:= .call "_law_keeps" (.b .v1 .v0)) (τ:=cO sc (some (.v (.int (n:Int)))) (some (.v (wD K T))) (some (.v (aZ K T S))) t o (some (.v p)) u (some (.v (.bl true))) a j i l (some (.v (.int ((2 ^ bN n K T:Nat):Int)))) (some (.v (.lst ((List.range (2 ^ bN n K T)).map fun c=>(wo n K T c).aN))))) (h:=H) (ds:=(List.range (2 ^ bN n K T)).map fun c=>(wo n K T c).aN) (fun d y=>y= .bl false) (by simp_all []) (by rw [List.length_map,List.length_range];omega) (fun d q=>by
   obtain⟨w,J,rfl⟩:=Ab8.mp q
   obtain⟨b,e,O⟩:=F8 38 w g P (by omega) (by omega) H
   refine⟨.bl b,by simp_all [e],?_⟩
   cases b with
   | false=>rfl
   | true=>
    obtain⟨s,M,z⟩:=wk.snd rfl w (KY w) (C2 (Ab7.mp J))
    cases z _ (O rfl s M))
  obtain⟨bs,C⟩:=oq f _ λd q=>⟨_,G d q⟩
  rw [C]at v
  have R:bs.any id=false:=by
   rw [Aj0]
   intro x L z
   have m:D.bl x∈bs.map D.bl:=Ab8.mpr ⟨x,L,rfl⟩
   rw [← C]at m
   obtain⟨d,q,e⟩:=Ab8.mp m
   rw [G d q]at e
   injection e with e
   rw [← e]at z
   cases z
  have v:eval (u9 39) w4 _ H= .ok _ H:=v
  have B:=Xw v
  rw [R]at B
  refine qa (Qa rfl ?_)
  generalize E.bi .any _=X at B ⊢
  simp_all [B,aD]
def fJ (ns:List Int) (q:ns.length<=63): ∃h',call prog 40 "law" [.v (.lst (ns.map .int))] []= .ok (.v (.bl true)) h':=by
 suffices G: ∃H,execs (u9 39) d5.body [k0 (.v (.lst (ns.map .int))),y0,y0,y0,y0,y0,y0,y0,y0,y0,y0,y0,y0,y0,y0,y0] []= .ret (.v (.bl u0)) H by
  obtain⟨H,e⟩:=G
  rw [Gb (d:=d5) rfl _ _ _ rfl]
  show ∃h',Gq 0 (execs _ d5.body [k0 (.v (.lst (ns.map .int))),y0,y0,y0,y0,y0,y0,y0,y0,y0,y0,y0,y0,y0,y0,y0] [])=_
  rw [e]
  obtain⟨h',s,f2⟩:=kr (d:= .bl u0) (h:=H) (n:=0) rfl (Ac8 _)
  exact⟨h',s⟩
 obtain⟨v0,Y⟩:=Cr 38 ns q []
 obtain⟨n,K,T,v1,g,e1⟩:=Ft 36 (h:= [af ns 0 v0]) (r:=0) (i:=0) rfl
 have e1:call prog 39 "_law_words" [.v (.ref 0)] [af ns 0 v0]= .ok (.v (.tup [.int (n:Int),wD K T])) [af ns 0 v1]:=e1
 obtain⟨A,i2,v2,M,l0,e2⟩:=A1 31 g q (h:= [af ns 0 v1]) (r:=0) (i:=0) rfl
 have e2:call prog 39 "_law_theory" [.v (.ref 0),.v (wD K T),.v (.int 4)] [af ns 0 v1]= .ok (.v (aZ K T A)) [af ns i2 v2]:=e2
 obtain⟨v3,O⟩:=lX 38 q (h:= [af ns i2 v2]) (r:=0) (i:=i2) rfl
 have O:call prog 39 "_law_turn" [.v (.ref 0)] [af ns i2 v2]= .ok (.v .ak) [af ns (i2+1) v3]:=O
 obtain⟨S,f,v4,u,lS,W⟩:=Ep (ns:=ns) (i:=i2+1) (n:=n) (v:=v3) (sc:= .lst (ns.map .int)) M l0
 have w:=BL 37 g [af ns (i2+1) v4]
 generalize o:Cell.aG (aF (K++T) (fO n T))=a at w
 have w:call prog 39 "_law_open" [.v (wD K T),.v (.int (n:Int))] [af ns (i2+1) v4]= .ok (.v (.ref 1)) [af ns (i2+1) v4,a]:=w
 obtain⟨v5,B⟩:=lX 38 q (h:= [af ns (i2+1) v4,a]) (r:=0) (i:=i2+1) rfl
 have B:call prog 39 "_law_turn" [.v (.ref 0)] [af ns (i2+1) v4,a]= .ok (.v .ak) [af ns (i2+2) v5,a]:=B
 obtain⟨C,v6,I,F⟩:=A2 37 g (h:= [af ns (i2+2) v5,a]) (r:=0) (i:=i2+2) rfl
 have F:call prog 39 "_law_spots" [.v (.ref 0),.v (wD K T),.v (.int (n:Int))] [af ns (i2+2) v5,a]= .ok (.own (C.map a0)) [af ns (i2+2) v6,a]:=F
 obtain⟨l,v7,hl5,J⟩:=wd 38 (h:= [af ns (i2+2) v6,a]) (r:=0) (i:=i2+2) rfl (m:=5) (by decide) (by decide)
 have J:call prog 39 "_law_draw" [.v (.ref 0),.v (.int 5)] [af ns (i2+2) v6,a]= .ok (.v (.int (l:Int))) [af ns (i2+2) v7,a]:=J
 have ll:C.length<=6:=by rw [I.length_eq,zE];exact g.b6
 obtain⟨t,td,to,e9⟩:=Lr g u (by omega) l C 39 0 (2 ^ bN n K T-1) 1 (fO n T) [af ns (i2+2) v7,a] (I.nodup_iff.mpr (yk g)) (λp hp=>by
  obtain⟨i,z,e⟩:=Al4 (I.mem_iff.mp hp)
  refine⟨i,by rw [← e];exact Aa3 z,Af9 i,?_⟩
  rw [zE]at z
  rw [Ae1,decide_eq_true z]) (by omega) (sv g (by rw [o];rfl))
 obtain⟨v8,k⟩:=lX 38 q (h:= [af ns (i2+2) v7,a]) (r:=0) (i:=i2+2) rfl
 have k:call prog 39 "_law_turn" [.v (.ref 0)] [af ns (i2+2) v7,a]= .ok (.v .ak) [af ns (i2+3) v8,a]:=k
 obtain⟨d,v9,V,c⟩:=Bd (N:=K++T) g.l8 t to (37-t.dp) [af ns (i2+3) v8,a] v8 (r:=0) (ns:=ns) (i:=i2+3) rfl
 rw [show t.dp+(37-t.dp)+2=39 by omega]at c
 have c:call prog 39 "_law_spoilt" [.v (.ref 0),.v (aq t)] [af ns (i2+3) v8,a]= .ok (.v d) [af ns (i2+3) v9,a]:=c
 have P:Dc (wo n K T 0) (wo n K T (2 ^ bN n K T-1)) (fO n T) 1 [af ns (i2+3) v9,a]:=sv g (by rw [o];rfl)
 have s:=Nat.sub_lt (Ac6 (bN n K T)) (show 0<1 by decide)
 obtain⟨j,x⟩:=walk g 9 u 7 (aq t) (wL t) (by have:=JX t;omega) (by decide) _ _ _ _ _ (Ac6 _) s P
 obtain⟨y,L⟩:=walk g 9 u 9 d V.1 (by have:=V.2;omega) (by decide) _ _ _ _ _ (Ac6 _) s P
 generalize hH: [af ns (i2+3) v9,a]=H at c P x L
 have w1:=x.lJ 39 (by decide)
 have w2:=L.lJ 39 (by decide)
 have U:=ub 38 _ g x (by decide) (by decide) H
 have Z:=ub 38 _ g L (by decide) (by decide) H
 refine⟨H,?_⟩
 have Q:eval (u9 39) (.share (.call "_law_start" (.a .v0))) [some (.v (.lst (ns.map .int))),none,none,none,none,none,none,none,none,none,none,none,none,none,none,none] []= .ok (.v (.ref 0)) [af ns 0 v0]:=Bb (ws:= [.v (.lst (ns.map .int))]) (by simp_all []) Y (by
  show(Gf (ns.map .int)&&u0)=u0
  rw [js _ (λ_=>rfl)];rfl)
 simp only [d5]
 rw [za (τ1:=cO (.lst (ns.map .int)) y0 y0 y0 y0 y0 y0 y0 y0 y0 y0 y0 y0 y0 y0) (h1:= [af ns 0 v0]) (by
  generalize E.share (.call "_law_start" (.a .v0))=X at Q ⊢
  simp_all [Q])]
 generalize D.lst (ns.map .int)=b at W ⊢
 rw [za (τ1:=cO b (k0 (.v (.int (n:Int)))) (k0 (.v (wD K T))) y0 y0 y0 y0 y0 y0 y0 y0 y0 y0 y0 y0) (h1:= [af ns 0 v1]) (by simp_all [e1])]
 rw [za (τ1:=cO b (k0 (.v (.int (n:Int)))) (k0 (.v (wD K T))) (k0 (.v (aZ K T A))) y0 y0 y0 y0 y0 y0 y0 y0 y0 y0 y0) (h1:= [af ns i2 v2]) (by simp_all [e2])]
 rw [za (τ1:=cO b (k0 (.v (.int (n:Int)))) (k0 (.v (wD K T))) (k0 (.v (aZ K T A))) y0 y0 y0 y0 y0 y0 y0 y0 y0 y0 y0) (h1:= [af ns (i2+1) v3]) (by simp_all [O])]
 rw [za W]
 rw [za (τ1:=cO b (k0 (.v (.int (n:Int)))) (k0 (.v (wD K T))) (k0 (.v (aZ K T S))) f (k0 (.v (.ref 1))) y0 y0 y0 y0 y0 y0 y0 y0 y0) (h1:= [af ns (i2+1) v4,a]) (by simp_all [w])]
 rw [za (τ1:=cO b (k0 (.v (.int (n:Int)))) (k0 (.v (wD K T))) (k0 (.v (aZ K T S))) f (k0 (.v (.ref 1))) y0 y0 y0 y0 y0 y0 y0 y0 y0) (h1:= [af ns (i2+2) v5,a]) (by simp_all [B])]
 rw [za (τ1:=cO b (k0 (.v (.int (n:Int)))) (k0 (.v (wD K T))) (k0 (.v (aZ K T S))) f (k0 (.v (.ref 1))) (k0 (.v (aq t))) y0 y0 y0 y0 y0 y0 y0 y0) (h1:= [af ns (i2+2) v7,a]) (by simp_all [F,J,e9])]
 rw [za (τ1:=cO b (k0 (.v (.int (n:Int)))) (k0 (.v (wD K T))) (k0 (.v (aZ K T S))) f (k0 (.v (.ref 1))) (k0 (.v (aq t))) y0 y0 y0 y0 y0 y0 y0 y0) (h1:= [af ns (i2+3) v8,a]) (by simp_all [k])]
 rw [za (τ1:=cO b (k0 (.v (.int (n:Int)))) (k0 (.v (wD K T))) (k0 (.v (aZ K T S))) f (k0 (.v (.ref 1))) (k0 (.v (aq t))) (k0 (.v d)) y0 y0 y0 y0 y0 y0 y0) (h1:=H) (by simp_all [c])]
 rw [za (τ1:=cO b (k0 (.v (.int (n:Int)))) (k0 (.v (wD K T))) (k0 (.v (aZ K T S))) f (k0 (.v (.ref 1))) (k0 (.v (aq t))) (k0 (.v d)) (k0 (.v (.bl j))) y0 y0 y0 y0 y0 y0) (h1:=H) (by simp_all [w1])]
 rw [za (τ1:=cO b (k0 (.v (.int (n:Int)))) (k0 (.v (wD K T))) (k0 (.v (aZ K T S))) f (k0 (.v (.ref 1))) (k0 (.v (aq t))) (k0 (.v d)) (k0 (.v (.bl j))) (k0 (.v (.bl y))) y0 y0 y0 y0 y0) (h1:=H) (by simp_all [w2])]
 have lp:Gr (u9 39) (.seq (.lst (.c (.tup (.b .v7 .v9)) (.tup (.b .v8 (.var 10))) (.tup (.b .v7 .v9))))) (cO b (k0 (.v (.int (n:Int)))) (k0 (.v (wD K T))) (k0 (.v (aZ K T S))) f (k0 (.v (.ref 1))) (k0 (.v (aq t))) (k0 (.v d)) (k0 (.v (.bl j))) (k0 (.v (.bl y))) y0 y0 y0 y0 y0) H= .ok [.tup [aq t,.bl j],.tup [d,.bl y],.tup [aq t,.bl j]] H:=by simp_all []
 rw [za (τ1:=cO b (k0 (.v (.int (n:Int)))) (k0 (.v (wD K T))) (k0 (.v (aZ K T S))) f (k0 (.v (.ref 1))) (k0 (.v (aq t))) (k0 (.v d)) (k0 (.v (.bl j))) (k0 (.v (.bl y))) (k0 (.v (aq t))) (k0 (.v (.bl j))) (k0 (.v (.bl j))) y0 y0) (h1:=H) (by
  rw [exec,lp,R.ay]
  rw [xb (bnd:=Gv [11,12] k9) rfl (o8 rfl rfl U)]
  rw [xb (bnd:=Gv [11,12] k9) rfl (o8 rfl rfl Z)]
  rw [xb (bnd:=Gv [11,12] k9) rfl (o8 rfl rfl U),qG])]
 exact HF g u lS x
end M
namespace L2.MS
open PySem PyProof.Rows
noncomputable def m3:List String:= ["is_whole", "is_below", "pairs_of", "gathered", "common", "either", "without", "turned", "joined", "closed", "same", "every", "value_of_name", "made", "counts", "bounds", "settled", "not_told", "and_told", "or_told", "in_told", "count_told", "told", "fact_told", "is_size", "widths", "bits", "check_size", "check_bits", "world_of", "places_of", "is_tuple_of", "holds", "_law_start", "_law_turn", "_law_draw", "_law_names", "_law_words", "_law_expression", "_law_saying", "_law_theory", "_law_joined", "_law_turned", "_law_closed", "_law_same", "_law_two", "_law_bounds", "_law_many", "_law_ruled", "_law_within", "_law_fact", "_law_told", "_law_whole", "_law_spread", "_law_seen", "_law_keeps", "_law_open", "_law_split", "_law_walks", "_law_world", "_law_spots", "_law_tree", "_law_spoilt", "law"]
def nZ:List String:= ["NoSize", "NoCode"]
def oa:List String:= ["NoSize", "NoCode"]
def oW:List String:= []
noncomputable def Hv:gj:=⟨[("Cases", "words"),("Cases", "sayings"),("Cases", "size"),("Cases", "places"),("Cases", "whole")],[("Cases", "world_of_code", "Cases.world_of_code"),("Cases", "truth", "Cases.truth"),("Cases", "bit_of", "Cases.bit_of"),("Cases", "is_shown", "Cases.is_shown")],[("Cases", "Cases.__init__")],["Cases.__init__", "Cases.world_of_code", "Cases.truth", "Cases.bit_of", "Cases.is_shown"],[]⟩
noncomputable def IW:List (String×List String):= [("_law_names",["_law_pack", "_law_many_here", "_law_letters", "_law_first", "_law_stem", "_law_k", "_law_at", "_law_names_here", "_law_name"])]
end L2.MS
namespace PySem.W.Fast
def tw16006972764188428469:=0
def tw14685812790483260599:=0
def tw10724183924714293420:=0
def tw12665082552963071677:=0
def tw17386018313935581777:=0
def tw17947246171182341211:=0
def tw17904294888428248282:=0
def tw1758687610472235031:=0
def tw2822135786306498342:=0
def tw12749171024814023302:=0
def tw8959277435993720611:=0
def tw8642261864058472907:=0
def tw4704224173838883521:=0
def tw16093085720572150257:=0
def tw4078679242387830071:=0
def tw4285632912669892521:=0
def tw17294132570701580157:=0
def tw8083093354566431273:=0
def tw12078067450069829970:=0
def tw11034060891744206129:=0
def tw10434635371731191611:=0
def tw1255064276615208696:=0
def tw16328925120411298097:=0
def tw15410021809273287202:=0
def tw9871806182365406310:=0
def tw5879071686196626128:=0
def tw13508244616194438321:=0
def tw324222375227782634:=0
def tw15802457132975833466:=0
def tw5474025223019947418:=0
def tw9376140929884258152:=0
def tw8764295146473815894:=0
def tw7298747524137352133:=0
def tw13389728627278777368:=0
def tw1032588755425220960:=0
def tw13671261226827126617:=0
def tw2718235459438741867:=0
def tw256390494748224491:=0
def tw16249149845176128617:=0
def tw11468588373128917023:=0
def tw16672405467639024036:=0
def tw6452923115693762322:=0
def tw9110071125188433763:=0
def tw11097821410611959698:=0
def tw7703937867534076761:=0
def tw1511825612094482968:=0
def tw17538546549493354125:=0
def tw12441984409939504161:=0
def tw8423841431960370208:=0
def tw16086681828616220243:=0
def tw11000622046897562891:=0
def tw4846779729844964063:=0
def tw12111254286514733402:=0
def tw6976789656062646552:=0
def tw2109475932835086414:=0
def tw2608528012848257738:=0
def tw6525171894355257874:=0
def tw14332592696697091845:=0
def tw12902268422790358840:=0
def tw15273620646275046312:=0
def tw8100732749753310903:=0
def tw3280981237190361078:=0
def tw1683205428246864194:=0
def tw13542755986712939142:=0
def tw1445730736330241622:=0
def tw851542169922397192:=0
def tw15571039905916005953:=0
def tw16628141399660982595:=0
def tw15145845495060408250:=0
def tw16644959270827706853:=0
def tw4330230724431407898:=0
def tw6501117872608714304:=0
def tw3114825397238305054:=0
def tw3036638967642977701:=0
def tw11187111948308467655:=0
def tw3147273049034925437:=0
def tw5945165928755072363:=0
def tw14898639391095250421:=0
def tw17867903677330210537:=0
def tw12739861555024170115:=0
def tw8846208679131733440:=0
def tw16226714397621059321:=0
def tw11801405461283006678:=0
def tw2780393734096453242:=0
def tw3963212923002567988:=0
def tw6487967236580685966:=0
def tw4116895310168391252:=0
def tw7548354804225648403:=0
def tw4331346273430422843:=0
def tw5790687885106480645:=0
def tw3042689025769482839:=0
def tw12426718348530114224:=0
def tw16916834017510445099:=0
def tw5616477044326375122:=0
def tw14990547369171604173:=0
def tw8338079831766661150:=0
def tw6868792615480335868:=0
def tw7217817425033853907:=0
def tw6671484165861630238:=0
def tw1647489469583410113:=0
def tw14184082986347982928:=0
def tw331446934725565611:=0
def tw7280680803690194441:=0
def tw12155718427994255919:=0
def tw4150550892624177345:=0
def tw2158968858783770866:=0
def tw14224726002506393992:=0
def tw2324929291577037617:=0
def tw11926271396793813311:=0
def tw3913700336378060820:=0
def tw14091744574286755757:=0
def tw571278132636475375:=0
def tw1476218727364002557:=0
def tw12169371956728388369:=0
def tw4840308854256538309:=0
def tw11873963877807956259:=0
def tw10502243334337378940:=0
def tw16370580724034830839:=0
def tw10746523376175942244:=0
def tw17199804576555320021:=0
def tw16157808605562524823:=0
def tw7978216932631325010:=0
def tw16225716671794766769:=0
def tw2130591951363287222:=0
def tw6697842885239444139:=0
def tw17241658580839335760:=0
def tw7948637736431728743:=0
def tw1175945014393484444:=0
def tw1052534136646617548:=0
def tw3857815699402726094:=0
def tw7391460158836374081:=0
def tw836099074628151396:=0
def tw17885642106740326742:=0
def tw1632320369762872896:=0
def tw2725918041229642858:=0
def tw2540648440482989890:=0
def tw10324021073443067578:=0
def tw1995434836942327290:=0
def tw5096536093012755801:=0
def tw9798723277016142911:=0
def tw13140956036536465926:=0
def tw17611035580579705846:=0
def tw11167623318901545894:=0
def tw5126359677093564662:=0
def tw1294919678701288725:=0
def tw14530041221035335598:=0
def tw4535777353251363133:=0
def tw1404657204145011740:=0
def tw8670495283790048947:=0
def tw2969467334782356892:=0
def tw4999701731019183134:=0
def tw17906619385900769997:=0
def tw3491006970878589743:=0
def tw8528855477366513153:=0
end PySem.W.Fast
open PySem PySem.W PyProof.Rows
set_option maxRecDepth 100000 in
set_option maxHeartbeats 0 in
theorem PySem.Challenge.cw_worldfind_k31_papers_walked_holds : PySem.Challenge.rw_worldfind_k31_papers_walked.Holds := by
 w_on;o_law;k_head;(case hw=>w_witness2)
 k_fill
 refine L2.MS.walk (l:=PySem.Challenge.rw_worldfind_k31_papers_walked) (x:= "_law_script") (2*40+1) ⟨rfl,by decide,by decide⟩ rfl rfl (fun w h Y=>PySem.W.kIn_of Y) ?F
 case F=>
  intro w mg fa h KX G hmg
  exact L2.MS.ik M.prog L2.MS.m3 L2.MS.nZ L2.MS.oa L2.MS.oW L2.MS.Hv L2.MS.IW 39 KX G hmg (by kernel_rfl) M.fJ
