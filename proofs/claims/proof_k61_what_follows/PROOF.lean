import PyProof.Rows.All
import Wide.All
import OpenK.AllK
import Wide.FinOn
import Lean
import PyProof.EqAt
import PyProof.EqKinds
import PyProof.TupleCall
import PyProof.NeKinds
import PyProof.NsDelKeeps
import KE.KRevSl
import PyProof.StrWalks
import PyProof.ConsumeWalk
import PyProof.SumWalk
import PyProof.Rows.SortStr
import PyProof.SumWalkG
import PyProof.StrCalls2
import PyProof.StrLawsIdx
import PyProof.WalkInts
import PyProof.StrOps2
import PyProof.SliceStr2
import PyProof.Draws
import PyProof.EnumMake
import PyProof.Rows.SetFrom
import PyProof.SetRoads
import PyProof.WalksMore
import PyProof.ListRange
import PyProof.TupleOfSeq
import PyProof.TupleOfGen
import PyProof.Rows.SortShell
import PyProof.ZipIter
import PyProof.DictStraight
import PyProof.TupleKey
import PyProof.DictRoadsH
import PyProof.DictTruth
import PyProof.Rows.TupTab
import KE.KTabLook
import PyProof.FString
import PyProof.CallStr
import KE.KIntText
import PyProof.Rows.Range3
import PyProof.DictRoads
import PyProof.Rows.StrNews2
import KE.KDictOf
import KE.KMinKey
import PySem.Challenge.RW_worldfind_k61_what_follows
set_option Elab.async false
set_option linter.all false
set_option maxRecDepth 100000
set_option compiler.extract_closed false
local macro_rules | `(tactic| omega) => `(tactic| lia)
set_option bootstrap.genMatcherCode false
noncomputable section
open List renaming length_map → Aa, getElem?_eq_some_iff → Aa1, mem_cons_of_mem → Aa2, replicate → Aa3, mem_cons_self → Aa4, length_append → Aa5, getElem?_eq_getElem → Aa6, length_cons → Aa7, range → Aa8, mem_append_right → Ab0, map_cons → Ab1, mem_map → Ab6, lookup_cons → Ab7, mem_range → Ab8, getElem?_set_self → Ab9, mem_cons → Ac, size_toArray → Ac0, getElem?_map → Ac2, mem_singleton → Ac3, mem_of_getElem? → Ac4, mem_append → Ac5, getD_eq_getElem?_getD → Ac8, mem_append_left → Ad0, any_eq_true → Ad1, getElem?_append_left → Ad2, length_replicate → Ad3, map_map → Ad6, set_set → Ad8, getElem?_append_right → Ad9, length_nil → Ae, getElem?_set_ne → Ae0, nil_append → Ae2, map_append → Ae3, length_set → Ae4, replicate_succ → Ae5, append_assoc → Ae7, map_nil → Af, append_nil → Af1, any_cons → Af3, length_take → Af6, length_drop → Af7, isEmpty_iff → Af8, length_range → Ah0, range_succ_eq_map → Ah2, all_cons → Ah5, nodup_cons → Ai, map_congr_left → Ai1, getElem?_replicate → Ai2, not_mem_nil → Ai4, eq_nil_of_length_eq_zero → Ai5, all_eq_true → Ai6, take_of_length_le → Ai7, mem_filter → Ai9, lookup → Aj, length_filter_le → Aj0, nodup_append → Aj2, flatMap_cons → Aj3, any_eq_false → Aj4, filterMap_cons → Aj9, pairwise_cons → Ak1, foldl_cons → Ak2, filter_cons → Al1, cons_append → Al2, sum_cons → Al3, length_zip → Al4, getElem_of_mem → Al5, drop_eq_getElem_cons → Am1, getElem?_take_of_lt → Am3, range'_succ → Am6, getElem_mem → Am7, filter_map → An0, all_map → An1, range_eq_range' → An6, range' → Ao0, Pairwise → Ao3, any_map → Ao9, take_length → Ap1
open Bool renaming and_eq_true → Aa0, false_ne_true → Ab2, true_and → Ae1, or_eq_true → Ae6, false_and → Ae8, not_eq_true' → Ag4, and_false → Ah7, false_eq_true → Ak3, eq_false_iff → Ak6, true_or → Am, eq_iff_iff → An2, not_false → Ao, or_eq_true_iff → Ao1, not_true → Ao4, not_eq_true → Ap2, noConfusion → Ap3
open PySem.W renaming Frag → Aa9, kia_one → Af0, keepIn → Ah4, emptyDict → Ah8, instObj → Ak, findIn → Ak5, plainGet → Am2, cellsFrom_some → Am4, lookIn → An, plainGet_of → An3, callWith_K → An7, kitx_list → Ao2
open Nat renaming le_refl → Ab, lt_of_lt_of_le → Ab4, le_trans → Ab5, ne_of_lt → Ac7, pow_le_pow_right → Ac9, two_pow_pos → Ad, testBit_two_pow → Ad7, testBit_or → Ae9, mul_le_mul → Af2, zero_le → Af4, and_two_pow_sub_one_eq_mod → Af5, zero_testBit → Af9, lt_succ_self → Ag, testBit_two_pow_sub_one → Ag1, le_of_lt → Ag3, not_lt_zero → Ag5, le_succ → Ag6, testBit_mod_two_pow → Ag8, testBit_div_two_pow → Ag9, testBit_and → Ah1, lt_of_le_of_lt → Ah6, lt_irrefl → Ai3, testBit_lt_two_pow → Ai8, mod_lt → Aj6, eq_of_testBit_eq → Aj8, testBit_two_pow_self → Ak0, min_eq_left → Ak4, or_lt_two_pow → Ak7, mul_comm → Al, le_of_eq → Al0, div_add_mod → Al6, zero_add → Am0, add_sub_cancel_left → Am5, div_div_eq_div_mul → Am9, not_le → An5, pow_lt_pow_right → An8, mul_le_mul_right → An9, sub_le → Ao7, le_succ_of_le → Ao8, sub_self → Ap, add_comm → Ap0
open PySem.Heap renaming get?_push_of_some → Ab3, lt_size → Ac1, get?_push_size → Ac6, size_push → Ak8, SameBut → Al8, get?_update_other → Am8
open Int renaming toNat_natCast → Ad4, eq_ofNat_of_zero_le → Ah, fdiv_eq_ediv_of_nonneg → Al7, emod_nonneg → An4, natCast_nonneg → Ao5, emod_lt_of_pos → Ao6
open Option renaming some → Ad5, bind_some → Ag0, map_eq_some_iff → Ag2, bind_eq_some_iff → Ag7, isSome_iff_exists → Ah9, isNone_iff_eq_none → Aj7, getD_some → Ak9
open Classical renaming choose_spec → Ah3, byContradiction → Aj1, choose → Aj5, propDecidable → Al9
open Array renaming length_toList → Ai0
open Decidable renaming decide → y9
open Option renaming some → k0, none → y0
open Bool renaming true → u0, false → k9
namespace L2
open PySem PySem.Spec PyProof.Rows
abbrev c9:=Sum Int Str
def lV:c9->Value->Bool
 | .inl k,v=>Value.isInt k v
 | .inr x,v=>Value.isStrOf x v
def L6 (w:World):c9->Int
 | .inl k=>hashInt k
 | .inr x=>hashStr w x
def jd: ∀ {k}{v},lV k v=u0->(∃ i t,k=Sum.inl i/\v=Value.int i t)\/(∃ x t,k=Sum.inr x/\v=Value.str x t)
 | .inl i,v,h=>by
  obtain⟨t,e⟩:=Value.isInt_shape h
  exact .inl ⟨i,t,rfl,e⟩
 | .inr x,v,h=>by
  obtain⟨t,e⟩:=Value.isStrOf_shape h
  exact .inr ⟨x,t,rfl,e⟩
def Fg (x) (t):lV (.inr x) (.str x t)=true:=by simp [lV,Value.isStrOf]
def y4 (a b):y9 ((Sum.inl a:c9)=Sum.inl b)=(a==b):=by grind
def Lo (a b):y9 ((Sum.inr a:c9)=Sum.inr b)=y9 (a=b):=by simp
def AV (a) (b):y9 ((Sum.inl a:c9)=Sum.inr b)=false:=decide_eq_false (λq=>nomatch q)
def EF (a) (b):y9 ((Sum.inr a:c9)=Sum.inl b)=false:=decide_eq_false (λq=>nomatch q)
noncomputable def xD (prog:Program) (w:World):PySem.KeyKind prog w c9 where
 is:=lV
 hash:=L6 w
 inj:=λv a b f d=>by
  rcases jd f with⟨i,t,rfl,rfl⟩ | ⟨x,t,rfl,rfl⟩
  ·rcases jd d with⟨j,u,rfl,e⟩ | ⟨y,u,rfl,e⟩
   ·injection e with e1 _;rw [e1]
   ·exact nomatch e
  ·rcases jd d with⟨j,u,rfl,e⟩ | ⟨y,u,rfl,e⟩
   ·exact nomatch e
   ·injection e with e1 _;rw [e1]
 byValue:=λk v h=>by
  rcases jd h with⟨i,t,rfl,rfl⟩ | ⟨x,t,rfl,rfl⟩<;>rfl
 pyHash:=λc h=>by
  rcases jd c with⟨i,t,rfl,rfl⟩ | ⟨x,t,rfl,rfl⟩
  ·exact wpAny_pyHash_int h
  ·exact wpAny_pyHash_str h
 eqBool:=λg c h=>by
  rcases jd g with⟨i,t,rfl,rfl⟩ | ⟨x,t,rfl,rfl⟩
  ·rcases jd c with⟨j,u,rfl,rfl⟩ | ⟨y,u,rfl,rfl⟩
   ·rw [y4]at h;exact wpAny_eqBool_int h
   ·rw [AV]at h;exact SeqAt.EqAt.int_str i t y u _ _ _ _ h
  ·rcases jd c with⟨j,u,rfl,rfl⟩ | ⟨y,u,rfl,rfl⟩
   ·rw [EF]at h;exact SeqAt.EqAt.str_int x t j u _ _ _ _ h
   ·rw [Lo]at h;exact wpAny_eqBool_str h
 «strs» :=λk x t v h=>by
  rcases jd h with⟨i,u,rfl,e⟩ | ⟨y,u,rfl,e⟩
  ·exact nomatch e
  ·injection e with e1 _
   subst e1
   cases v<;>rfl
def Qk (prog) (w) (x) (t):(xD prog w).is (.inr x) (.str x t)=true:=Fg x t
inductive V where
 | aj | bl (b:Bool) | int (i:Int) | str (x:Str) | iy (b:Array UInt8) | g7 (b:UInt64) | ref (a:Addr) | ty (n:String)
 deriving DecidableEq
def RelV:V->Value->Prop
 | .aj,u=>u=Value.none
 | .bl b,u=>u=Value.bool b
 | .int i,u=> ∃t,u=Value.int i t
 | .str x,u=> ∃t,u=Value.str x t
 | .iy b,u=> ∃t,u=Value.bytes b t
 | .g7 b,u=> ∃t,u=Value.float b t
 | .ref a,u=>u=Value.ref a
 | .ty n,u=>u=Value.type n
abbrev Vals:List V->List Value->Prop:=Paired RelV
theorem Vals.length (r:Vals xs us):xs.length=us.length:=Paired.length r
theorem Vals.get: ∀ {xs}{us}{i:Nat}{x},Vals xs us->xs[i]? =k0 x-> ∃u,us[i]? =k0 u/\RelV x u
 | _,_,_,_,.nil,e=>by simp at e
 | _,_,0,_,.cons r _,e=>by simp at e;subst e;exact⟨_,rfl,r⟩
 | _,_,i+1,x,.cons _ t,e=>by
  obtain⟨u,a,b⟩:=Vals.get t (by simpa using e)
  exact⟨u,by simpa using a,b⟩
theorem Vals.set (r:RelV x u): ∀ {xs}{j} i,Vals xs j->Vals (xs.set i x) (j.set i u)
 | _,_,_,.nil=> .nil
 | _,_,0,.cons _ t=> .cons r t
 | _,_,i+1,.cons q t=> .cons q (Vals.set r i t)
theorem Vals.append: ∀ {xs ys}{i ws},Vals xs i->Vals ys ws->Vals (xs++ys) (i++ws)
 | _,_,_,_,.nil,s=>s
 | _,_,_,_,.cons r t,s=> .cons r (Vals.append t s)
theorem Vals.take: ∀ {xs}{i}(n),Vals xs i->Vals (xs.take n) (i.take n)
 | _,_,0,_=> .nil
 | _,_,_+1,.nil=> .nil
 | _,_,n+1,.cons r t=> .cons r (Vals.take n t)
theorem Vals.drop: ∀ {xs}{i}(n),Vals xs i->Vals (xs.drop n) (i.drop n)
 | _,_,0,r=>r
 | _,_,_+1,.nil=> .nil
 | _,_,n+1,.cons _ t=>Vals.drop n t
def cv:Option V->Option Value->Prop
 | some v,k0 u=>RelV v u
 | none,none=>True
 | _,_=>False
def KV {a:Type}:List (a×V)->List (a×Value)->Prop:=Paired λ(p:a×V) (q:a×Value)=>p.1=q.1/\RelV p.2 q.2
def kV:c9->V
 | .inl i=> .int i
 | .inr x=> .str x
inductive HO where
 | lst (xs:List V)
 | tup (xs:List V)
 | dK (kvs:List (c9×V)) | dT (kvs:List (List c9×V))
 | set (S:Int->Bool) (n:Nat)
 | ins (C dx:Addr) (fs:List (Str×V))
 | own (x:Addr)
 | xd (fs:List (Str×V))
 | met (f x:Addr)
 | hV (lo hi:Int)
 | ea (o:Obj) (u:HO)
 | iw (ps:Array Value)
 | ext (φ:Heap->Prop)
abbrev Hp:=Addr->Option HO
def aM (H:Hp) (a:Addr) (o:HO):Hp:=λb=>if b=a then k0 o else H b
def wc :aM H a o a=k0 o:=by unfold aM;rw [if_pos rfl]
def Qa (h:b≠a):aM H a o b=H b:=by unfold aM;rw [if_neg h]
def wb {H:Hp}(h:H a=k0 o) (h':H b=y0):a≠b:=by
 intro e;subst e;rw [h]at h';cases h'
def dj (h:Heap) (a:Addr) (b:Array Value):Prop:= ∃o,h.get? a=some o/\o.cls= .type "tuple" /\o.dict=none/\ ∃n,o.data= .seq b n
def dj.is (p:dj h a k8):IsTup h a k8:=let ⟨o,e,c,_,n,d⟩:=p; ⟨o,e,c,n,d⟩
theorem dj.lt (p:dj h a k8):a<h.objs.size:=p.is.lt
def dj.new (h:Heap) (k8):dj (h.push { cls:= .type "tuple",data:= .seq k8 }) h.objs.size k8:=⟨_,Heap.get?_push_size _ rfl,rfl,rfl,_,rfl⟩
section
variable (P:Program) (w:World)
def a0 (H:Hp) (h:Heap) (a:Addr):HO->Prop
 | .lst xs=>xs.length<=sizeLine/\ ∃(b:List Value) (n:Nat),Vals xs b/\h.get? a=k0 { cls:= .type "list",data:= .seq b.toArray n }
 | .tup xs=>xs.length<=sizeLine/\ ∃b:List Value,Vals xs b/\dj h a b.toArray
 | .dK kvs=>kvs.length<=sizeLine/\(a==sysModules)=k9/\ ∃d,KV kvs d/\h.DictOf (xD P w) a d
 | .dT kvs=>kvs.length<=sizeLine/\(a==sysModules)=k9/\ ∃xs:List (List c9×Addr×Value),
  Paired (λ(p:List c9×V) (q:List c9×Addr×Value)=>p.1=q.1/\H q.2.1=k0 (.tup (p.1.map kV))/\RelV p.2 q.2.2) kvs xs ∧
  ∃o es e,h.get? a=k0 o/\o.ExactDict/\o.data= .dict es e/\es.toList=xs.map (entryOfKey (tupleKind (xD P w)))/\(xs.map (·.1)).Nodup
 | .set S n=>h.SetOf (intKind P w) a S n
 | .ins C dx fs=>H dx=k0 (.own a)/\fs.length<=1000/\dx≠a/\h.get? a=k0 (Ak C dx) ∧
  ∃mA,h.Ns1 dx mA/\(∀ f,cv (fs.lookup f) (mA f))/\PySem.Within mA (fs.map (·.1))
 | .own _=> ∃o,h.get? a=k0 o
 | .xd fs=> ∃mA,h.Ns1 a mA/\ ∀f,cv (fs.lookup f) (mA f)
 | .hV lo hi=> ∃t u v,h.get? a=k0 { cls:= .type "range",data:= .fields #[.int lo t,.int hi u,.int 1 v] }
 | .ea o u=>h.get? a=k0 o/\a0 H h a u
 | .iw ps=>h.get? a=k0 { cls:= .none,data:= .fields ps }
 | .met f x=>h.get? a=k0 (PySem.W.methodObj (.ref f) (.ref x))
 | .ext c=>c h/\(∃ o,h.get? a=k0 o)/\ ∀h1 h2:Heap,c h1->(∀ o,h1.get? a=k0 o->h2.get? a=k0 o)->c h2
def cX (H:Hp) (h:Heap):Prop:= ∀a o,H a=k0 o->a0 P w H h a o
end
section
variable {P:Program}{w:World}{H H':Hp}{h h':Heap}{a:Addr}{o:HO}
theorem a0.lt (x:a0 P w H h a o):a<h.objs.size:=by
 cases o with
 | lst c=>obtain⟨_,_,_,_,e⟩:=x;exact Ac1 e
 | tup c=>obtain⟨_,_,_,p⟩:=x;exact p.lt
 | dK b=>obtain⟨_,_,_,_,o,_,_,e,_⟩:=x;exact Ac1 e
 | dT b=>obtain⟨_,_,_,_,o,_,_,e,_⟩:=x;exact Ac1 e
 | set S n=>obtain⟨o,_,_,_,e,_⟩:=x;exact Ac1 e
 | ins C d fs=>obtain⟨_,_,_,e,_⟩:=x;exact Ac1 e
 | own y=>obtain⟨_,e⟩:=x;exact Ac1 e
 | xd fs=>obtain⟨_,⟨_,_,_,e,_⟩,_⟩:=x;exact Ac1 e
 | hV g k=>obtain⟨_,_,_,e⟩:=x;exact Ac1 e
 | ea j u=>obtain⟨e,_⟩:=x;exact Ac1 e
 | iw l=>exact Ac1 (x)
 | met f y=>exact Ac1 (x)
 | ext i=>obtain⟨_,⟨_,e⟩,_⟩:=x;exact Ac1 e
theorem Paired.lq : ∀ {i}{j},Paired F i j->(∀ a b,F a b->G a b)->Paired G i j
 | _,_,.nil,_=> .nil
 | _,_,.cons r t,f=> .cons (f _ _ r) (Paired.lq t f)
def a0.dO (x:a0 P w H h a o) (k: ∀b u,(b=a\/H b=k0 (.own a))->h.get? b=k0 u->h'.get? b=k0 u)
 (F: ∀b,H b=k0 (.own a)->H' b=k0 (.own a)) (D: ∀b xs,H b=k0 (.tup xs)->H' b=k0 (.tup xs)):a0 P w H' h' a o:=by
 induction o with
 | lst xs=>obtain⟨z,l,n,r,e⟩:=x;exact⟨z,l,n,r,k _ _ (.inl rfl) e⟩
 | tup xs=>obtain⟨z,l,r,g,e,c⟩:=x;exact⟨z,l,r,g,k _ _ (.inl rfl) e,c⟩
 | dK s=>obtain⟨z,y,E,r,g,j,i,e,c⟩:=x;exact⟨z,y,E,r,g,j,i,k _ _ (.inl rfl) e,c⟩
 | dT s=>
  obtain⟨z,y,xs,r,g,j,i,e,c⟩:=x
  exact⟨z,y,xs,Paired.lq r λp q z=>⟨z.1,D _ _ z.2.1,z.2.2⟩,g,j,i,k _ _ (.inl rfl) e,c⟩
 | set S n=>obtain⟨g,j,i,t,e,c⟩:=x;exact⟨g,j,i,t,k _ _ (.inl rfl) e,c⟩
 | ins C I fs=>
  obtain⟨d,z,ne,e,m,⟨A,j,i,e2,c⟩,r⟩:=x
  exact⟨F _ d,z,ne,k _ _ (.inl rfl) e,m,⟨A,j,i,k _ _ (.inr d) e2,c⟩,r⟩
 | own y=>obtain⟨g,e⟩:=x;exact⟨g,k _ _ (.inl rfl) e⟩
 | xd fs=>obtain⟨m,⟨A,j,i,e,c⟩,r⟩:=x;exact⟨m,⟨A,j,i,k _ _ (.inl rfl) e,c⟩,r⟩
 | hV J L=>obtain⟨t,u,v,e⟩:=x;exact⟨t,u,v,k _ _ (.inl rfl) e⟩
 | ea g u G=>obtain⟨e,q⟩:=x;exact⟨k _ _ (.inl rfl) e,G q⟩
 | iw M=>
  have e:=x
  exact k a _ (.inl rfl) e
 | met f y=>
  have e:=x
  exact k a _ (.inl rfl) e
 | ext K=>obtain⟨p,⟨o,e⟩,B⟩:=x;exact⟨B _ _ p λo q=>k _ _ (.inl rfl) q,⟨o,k _ _ (.inl rfl) e⟩,B⟩
theorem cX.lt (x:cX P w H h) (e:H a=k0 o):a<h.objs.size:=(x a o e).lt
def cX.fresh (x:cX P w H h) (e:h.objs.size<=a):H a=none:=by
 cases q:H a with
 | none=>rfl
 | some u=>exact absurd (Ab4 (x.lt q) e) (Ai3 _)
def cX.kept (x:cX P w H h) (k: ∀b u,h.get? b=k0 u->h'.get? b=k0 u):cX P w H h':=λa o e=>
 (x a o e).dO (λb u _ q=>k b u q) (λ_ q=>q) λ_ _ q=>q
def cX.laid (x:cX P w H h) (k: ∀b u,h.get? b=k0 u->h'.get? b=k0 u) (g:h.objs.size<=a) (new:a0 P w (aM H a o) h' a o):cX P w (aM H a o) h':=λb u e=>by
 have f:=x.fresh g
 by_cases d:b=a
 ·subst d;rw [wc]at e;cases e;exact new
 ·rw [Qa d]at e
  exact(x b u e).dO (λc v _ q=>k c v q) (λc q=>by rw [Qa (wb q f)];exact q) λc i q=>by rw [Qa (wb q f)];exact q
end
def Rd (H:Hp) (a:Addr) (u:HO):Prop:=H a=k0 u\/ ∃o,H a=k0 (.ea o u)
def Rd.ok (r:Rd H a u) (x:cX P w H h):a0 P w H h a u:=by
 obtain r | ⟨o,r⟩:=r
 ·exact x a u r
 ·obtain⟨_,q⟩:=x a _ r
  exact q
def mw:Option HO->Prop
 | some (.lst _)=>True
 | some (.dK _)=>True
 | some (.dT _)=>True
 | some (.set _ _)=>True
 | some (.ins _ _ _)=>True
 | some (.ext _)=>True
 | _=>False
section
variable {P:Program}{w:World}{H:Hp}{h h':Heap}{x e:Addr}{o':HO}
def cX.write (ok:cX P w H h) (i:mw (H x)) (o:e=x\/H e=k0 (.own x)) (k: ∀b u,b≠e->h.get? b=k0 u->h'.get? b=k0 u) (m: ∃u,h'.get? e=k0 u)
 (new:a0 P w (aM H x o') h' x o'):cX P w (aM H x o') h':=λb u q=>by
 have d: ∀c y,H c=k0 (.own y)->c≠x:=λc y r z=>by subst z;rw [r]at i;exact i
 have f: ∀c l,H c=k0 (.tup l)->c≠x:=λc l r z=>by subst z;rw [r]at i;exact i
 by_cases j:b=x
 ·subst j;rw [wc]at q;cases q;exact new
 ·rw [Qa j]at q
  by_cases a:b=e
  ·have n:H b=k0 (.own x):=by
    obtain z | z:=o
    ·exact absurd (a.trans z) j
    ·rw [a];exact z
   rw [q]at n;cases n
   obtain⟨v,p⟩:=m
   exact⟨v,by rw [a];exact p⟩
  ·refine(ok b u q).dO (λc v g r=>k c v ?_ r) (λc r=>by rw [Qa (d c b r)];exact r) λc l r=>by rw [Qa (f c l r)];exact r
   obtain rfl | g:=g
   ·exact a
   ·rintro rfl
    obtain z | z:=o
    ·exact d c b g z
    ·rw [g]at z;cases z;exact j rfl
end
structure Un (fs ex:List Addr) (H H':Hp) (h h':Heap):Prop where
 keep: ∀b o,h.get? b=k0 o->H b=y0->b∉fs->b∉ex->h'.get? b=k0 o
 slot: ∀b o,h.get? b=k0 o->H b=y0->b∈fs->b∉ex-> ∃sl,h'.get? b=k0 { o with slots:=sl }
 free: ∀b o,h.get? b=k0 o->H b=y0->b∉ex->H' b=y0
 there: ∀b o,h.get? b=k0 o->b∉ex-> ∃o',h'.get? b=k0 o'
 eh: ∀b xs,H b=k0 (.tup xs)->H' b=k0 (.tup xs)
 dM: ∀b o u,H b=k0 (.ea o u)->H' b=k0 (.ea o u)
 d9: ∀b ps,H b=k0 (.iw ps)-> ∃more,H' b=k0 (.iw (ps++more))
section
variable {fs fs' ex ex':List Addr}{H H1 H2:Hp}{h h1 h2 h':Heap}{a x e:Addr}{o:HO}
def Un.any (u:Un fs ex H H1 h h1)(q:h.get? b=k0 ob) (n:H b=y0) (c:b∉ex): ∃sl,h1.get? b=k0 { ob with slots:=sl }:=by
 by_cases a:b∈fs
 ·exact u.slot b ob q n a c
 ·exact⟨ob.slots,u.keep b ob q n a c⟩
def Un.kept (k: ∀b u,h.get? b=k0 u->h'.get? b=k0 u):Un fs ex H H h h':=
 ⟨λb a q _ _ _=>k b a q,λb a q _ _ _=>⟨a.slots,k b a q⟩,λ_ _ _ n _=>n,λb a q _=>⟨a,k b a q⟩,λ_ _ q=>q,λ_ _ _ q=>q,λ_ c q=>⟨#[],by rw [q];simp⟩⟩
def Un.refl:Un fs ex H H h h:=Un.kept λ_ _ q=>q
def Un.laid (k: ∀b u,h.get? b=k0 u->h'.get? b=k0 u) (d:h.objs.size<=a) (c:H a=y0):Un fs ex H (aM H a o) h h' where
 keep:=λb u q _ _ _=>k b u q
 slot:=λb u q _ _ _=>⟨u.slots,k b u q⟩
 free:=λb u q n _=>by rw [Qa (Ac7 (Ab4 (Ac1 q) d))];exact n
 there:=λb u q _=>⟨u,k b u q⟩
 eh:=λb e q=>by rw [Qa (wb q c)];exact q
 dM:=λb u e q=>by rw [Qa (wb q c)];exact q
 d9:=λb f q=>⟨#[],by rw [Qa (wb q c),q];simp⟩
def Un.write (c:mw (H x)) (l:e=x\/H e=k0 (.own x)) (k: ∀b u,b≠e->h.get? b=k0 u->h'.get? b=k0 u) (d: ∃u,h'.get? e=k0 u):Un fs ex H (aM H x o) h h':=by
 have i: ∀b,H b=y0->b≠x:=λb n z=>by subst z;rw [n]at c;exact c
 have g: ∀b,H b=y0->b≠e:=λb n z=>by
  subst z
  obtain r | r:=l
  ·exact i b n r
  ·rw [n]at r;cases r
 have f: ∀b u,H b=k0 u-> ¬mw (k0 u)->b≠x:=λb u q nm z=>by subst z;rw [q]at c;exact nm c
 refine⟨λb u q n _ _=>k b u (g b n) q,λb u q n _ _=>⟨u.slots,k b u (g b n) q⟩,λb u q n _=>by rw [Qa (i b n)];exact n,λb u q _=> ?_,
  λb j q=>by rw [Qa (f b _ q λz=>z)];exact q,λb u j q=>by rw [Qa (f b _ q λz=>z)];exact q,λb m q=>⟨#[],by rw [Qa (f b _ q λz=>z),q];simp⟩⟩
 by_cases a:b=e
 ·subst a;exact d
 ·exact⟨u,k b u a q⟩
end
def px (h:Heap) (H:Hp):List Addr:=(Aa8 h.objs.size).filter λa=>(H a).isSome
def kh (h:Heap) (H:Hp):Heap:=PySem.W.hideAll h (px h H)
def DG (h) (H):(kh h H).objs.size=h.objs.size:=PySem.W.hideAll_size _ _
def KL (e:h.get? b=k0 o) (n:H b=y0):(kh h H).get? b=k0 o:=
 PySem.W.hideAll_get _ e λa=>by
  have q:=(Ai9.mp a).2
  rw [n]at q;simp at q
def HN (e:(kh h H).get? b=k0 o):h.get? b=k0 o/\H b=none:=by
 have a:=PySem.W.of_hideAll _ e
 refine⟨a,?_⟩
 cases q:H b with
 | none=>rfl
 | some x=>
  have c:b∈px h H:=Ai9.mpr ⟨Ab8.mpr (Ac1 a),by simp [q]⟩
  have z:(kh h H).get? b=none:=PySem.W.hideAll_none _ c
  rw [z]at e;cases e
noncomputable def CW (g h:Heap) (L:Addr):List (Addr×Obj):=(Aa8 h.objs.size).filterMap λa=>if a=L\/(g.get? a).isSome=u0 then y0 else(h.get? a).map λo=>(a,o)
def xn (g h:Heap) (L d:Addr):List (Addr×Obj):=(CW g h L).filter λp=>y9 (p.1≠d)
structure Mod (K:Aa9) (mg:Str->Option Value) (base:Heap):Prop where
 lx:K.In base
 glob:base.Ns mainGlobals mg
 blt: ∃mb,base.Ns builtinsNs mb/\ ∀x:Str,x≠ "__name__" ->mb x=bootBuiltins x
 nolimit:base.NoLimit
structure Cx where
 prog:Program
 w:World
 K:Aa9
 mg:Str->Option Value
 base:Heap
 A:Around
 N:List Str
 s₀:Shared
 H₀:Hp
 env:Env
 outer:List Env
 stack:List Env
 ex:List Addr
 fn:Str->Bool
 calm:Bool
 pn:List (Addr×Obj)
 xe:Value->Shared->Prop
def fe (l:List Env):List Addr:=l.filterMap (·.frame)
abbrev Cx.fs (X:Cx):List Addr:=fe X.outer
def mm (a:Scope) (x:Str):Prop:=a.names.lookup x=k0 .local\/a.names.lookup x=k0 .cell\/a.names.lookup x=k0 .free
def kf (a:Scope) (x:Str):Prop:=a.names.lookup x=k0 .local\/a.names.lookup x=k0 .cell
def B4 (env:Env) (h:Heap) (m:Str->Option Value) (x:Str) (u:Value):Prop:=
 (env.kindOf x=k0 .local/\m x=k0 u)\/((env.kindOf x=k0 .cell\/env.kindOf x=k0 .free)/\ ∃c,env.cells.lookup x=k0 c/\h.IsCell c (k0 u))
structure Cx.Ok (X:Cx):Prop where
 mod:Mod X.K X.mg X.base
 kind:X.env.scope.kind= .function
 glob:X.env.globals=mainGlobals
 blt:X.env.builtins=builtinsNs
 above:X.s₀.heap.objs.size<=X.env.locals
 inj: ∀x y c,X.env.cells.lookup x=k0 c->X.env.cells.lookup y=k0 c->x=y
 has: ∀x,(X.env.kindOf x=k0 .cell\/X.env.kindOf x=k0 .free)-> ∃c,X.env.cells.lookup x=k0 c
 nE: ∀x c,X.fn x=u0->X.env.cells.lookup x=k0 c->X.s₀.heap.objs.size<=c
 hd:X.calm=u0->X.A.handled=y0
 frames:X.A.frames=k0 X.stack
 mI:X.stack=X.outer\/(X.stack=X.env::X.outer/\X.env.frame=k0 X.env.locals)
 vp: ∀b∈X.ex,b≠X.env.locals/\ ∀x c,X.env.cells.lookup x=k0 c->c≠b
 bs: ∀b o,X.base.get? b=k0 o->X.s₀.heap.get? b=k0 o/\X.H₀ b=y0
 g9:X.base.objs.size<=X.s₀.heap.objs.size
 ig: ∀b o,X.base.get? b=k0 o->b∉X.ex
 iS: ∀b∈X.ex,b∉X.fs
 c8:X.s₀.heap.FunFrames X.base X.outer
 kz: ∀b∈X.fs,X.H₀ b=y0
structure Inv (X:Cx) (pins:List (Addr×Obj)) (U:List (Option V)) (H:Hp) (s:Shared):Prop where
 ok:X.Ok
 os:s.os=X.s₀.os
 bare:AllBare s.gens
 base:Un X.fs X.ex X.H₀ H X.s₀.heap s.heap
 loc: ∃m,s.heap.Ns X.env.locals m/\ ∀(i:Nat) (x:Str) (v:V),X.N[i]? =k0 x->U[i]? =k0 (k0 v)->mm X.env.scope x-> ∃u,RelV v u/\B4 X.env s.heap m x u
 cell: ∀x c,X.env.cells.lookup x=k0 c-> ∃v,s.heap.IsCell c v
 free:H X.env.locals=y0
 cE: ∀x c,X.env.cells.lookup x=k0 c->H c=y0
 pin: ∀p∈X.pn++pins,s.heap.get? p.1=k0 p.2/\H p.1=y0/\p.1≠X.env.locals/\p.1∉X.fs/\ ∀v,p.2.data≠ .cell v
 a8:cX X.prog X.w H s.heap
 len:U.length=X.N.length
section
variable {X:Cx}{pins:List (Addr×Obj)}{U:List (Option V)}{H H':Hp}{s:Shared}{h':Heap}
def Cx.Ok.nh (ok:X.Ok)(e:X.base.get? b=k0 o):b∉X.fs:=λa=>by
 have:=(ok.c8.mem a).1
 rw [e]at this;cases this
theorem Inv.bs (I:Inv X pins U H s): ∀b o,X.base.get? b=k0 o->s.heap.get? b=k0 o/\H b=none:=λb o e=>
 ⟨I.base.keep b o (I.ok.bs b o e).1 (I.ok.bs b o e).2 (I.ok.nh e) (I.ok.ig b o e),I.base.free b o (I.ok.bs b o e).1 (I.ok.bs b o e).2 (I.ok.ig b o e)⟩
def Inv.bk (I:Inv X pins U H s): ∀b o,X.base.get? b=k0 o->s.heap.get? b=k0 o:=λb o e=>(I.bs b o e).1
theorem Inv.mod (I:Inv X pins U H s):Mod X.K X.mg X.base:=I.ok.mod
def Inv.cn (I:Inv X pins U H s):X.K.In s.heap:=I.ok.mod.lx.keeps I.bk
theorem Inv.lt (I:Inv X pins U H s):X.env.locals<s.heap.objs.size:=let ⟨_,a,_⟩:=I.loc;a.lt
def Inv.sz (I:Inv X pins U H s):X.s₀.heap.objs.size<=s.heap.objs.size:=Ab5 I.ok.above (Ag3 I.lt)
def Inv.nt (I:Inv X pins U H s)(h:s.heap.objs.size<=a):a∉X.fs:=λb=>by
 obtain⟨_,o,c,_⟩:=I.ok.c8.mem b
 exact absurd (Ab4 (Ac1 c) (Ab5 I.sz h)) (Ai3 _)
def Inv.iI (I:Inv X pins U H s): ∀x c,X.env.cells.lookup x=k0 c->c≠X.env.locals:=λx c e z=>by
 obtain⟨v,o,d,f⟩:=I.cell x c e
 obtain⟨m,⟨g,h,i,a,b,_⟩,_⟩:=I.loc
 rw [z,a]at d;cases d;rw [b]at f;cases f
theorem Inv.c8 (I:Inv X pins U H s):s.heap.FunFrames X.base X.outer:=by
 have all: ∀ l,(∀ b∈fe l,b∈X.fs)->X.s₀.heap.FunFrames X.base l->s.heap.FunFrames X.base l:=by
  intro l
  induction l with
  | nil=>intro _ _;trivial
  | cons m r n=>
   intro f i
   obtain⟨p,⟨L,o,a,g,k,j⟩,h⟩:=i
   have c:=f L (by unfold fe;rw [Aj9,a];exact Aa4)
   obtain⟨sl,e⟩:=I.base.slot L o k (I.ok.kz L c) c λz=>I.ok.iS L z c
   exact⟨p,⟨L,_,a,g,e,j⟩,n (λb d=>f b (by unfold fe;rw [Aj9,a];exact Aa2 _ d)) h⟩
 exact all X.outer (λ_ d=>d) I.ok.c8
theorem Inv.stack (I:Inv X pins U H s):s.heap.FunFrames X.base X.stack:=by
 obtain e | ⟨e,b⟩:=I.ok.mI
 ·rw [e];exact I.c8
 ·rw [e]
  obtain⟨m,a,_⟩:=I.loc
  refine .cons (by rw [I.ok.kind];decide) b a ?_ I.c8
  exact Heap.get?_none_of_le (Ab5 I.ok.g9 I.ok.above)
def Inv.dw (I:Inv X pins U H s): ∀b∈fe X.stack,b∈X.env.locals::X.fs:=λb a=>by
 obtain e | ⟨e,c⟩:=I.ok.mI
 ·rw [e]at a;exact Aa2 _ a
 ·rw [e]at a
  unfold fe at a
  rw [Aj9,c]at a
  exact a
def Inv.eL (I:Inv X pins U H s): ∀b∈fe X.stack,H b=none:=λb a=>by
 rcases Ac.mp (I.dw b a)with e | a
 ·rw [e];exact I.free
 ·obtain⟨_,o,c,_⟩:=I.ok.c8.mem a
  exact I.base.free b o c (I.ok.kz b a) λz=>I.ok.iS b z a
def Inv.step {ch:List Addr}(I:Inv X pins U H s)
 (g: ∀b∈ch,(b∈X.ex\/X.s₀.heap.objs.size<=b)/\b≠X.env.locals/\(∀ x c,X.env.cells.lookup x=k0 c->c≠b)/\ ∀p∈X.pn++pins,p.1≠b)
 (keep: ∀b o,b≠X.env.locals->b∉X.fs->b∉ch->s.heap.get? b=k0 o->H b=y0->h'.get? b=k0 o)
 (w: ∀b o,b≠X.env.locals->b∈X.fs->b∉ch->s.heap.get? b=k0 o->H b=y0-> ∃sl,h'.get? b=k0 { o with slots:=sl }) (f: ∀b o,b∉ch->s.heap.get? b=k0 o->H b=y0->H' b=y0)
 (there: ∀b o,b∉ch->s.heap.get? b=k0 o-> ∃o',h'.get? b=k0 o')
 (E: ∀b xs,H b=k0 (.tup xs)->H' b=k0 (.tup xs)) (B: ∀b o u,H b=k0 (.ea o u)->H' b=k0 (.ea o u)) (D: ∀b ps,H b=k0 (.iw ps)-> ∃more,H' b=k0 (.iw (ps++more)))
 (ns: ∀m,s.heap.Ns X.env.locals m->h'.Ns X.env.locals m) (J:cX X.prog X.w H' h') (R:AllBare g'):
 Inv X pins U H' { s with heap:=h',gens:=g',drawn:=d',toks:=t' }:=by
 have C: ∀b o,X.s₀.heap.get? b=k0 o->b≠X.env.locals:=λb o e=>Ac7 (Ab4 (Ac1 e) I.ok.above)
 have t: ∀b o,X.s₀.heap.get? b=k0 o->b∉X.ex->b∉ch:=λb o e a y=>by
  obtain z | z:=(g b y).1
  ·exact a z
  ·exact absurd (Ab4 (Ac1 e) z) (Ai3 _)
 have h: ∀x c,X.env.cells.lookup x=k0 c-> ∀v,s.heap.IsCell c v->h'.IsCell c v:=by
  rintro x c e v ⟨o,A,F⟩
  have j:=λz=>(g c z).2.2.1 x c e rfl
  by_cases L:c∈X.fs
  ·obtain⟨sl,q⟩:=w c o (I.iI x c e) L j A (I.cE x c e)
   exact⟨_,q,F⟩
  ·exact⟨o,keep c o (I.iI x c e) L j A (I.cE x c e),F⟩
 refine⟨I.ok,I.os,R,⟨λb o e n y a=> ?_,λb o e n y a=> ?_,λb o e n a=> ?_,λb o e a=> ?_,λb xs e=>E b xs (I.base.eh b xs e),λb o xs e=>B b o xs (I.base.dM b o xs e),λb ps e=> ?_⟩,?_,λx c e=> ?_,?_,λx c e=> ?_,λp K=> ?_,J,I.len⟩
 ·exact keep b o (C b o e) y (t b o e a) (I.base.keep b o e n y a) (I.base.free b o e n a)
 ·obtain⟨sl,e1⟩:=I.base.slot b o e n y a
  obtain⟨G,e2⟩:=w b _ (C b o e) y (t b o e a) e1 (I.base.free b o e n a)
  exact⟨G,e2⟩
 ·obtain⟨o',e1⟩:=I.base.there b o e a
  exact f b o' (t b o e a) e1 (I.base.free b o e n a)
 ·obtain⟨o',e1⟩:=I.base.there b o e a
  exact there b o' (t b o e a) e1
 ·obtain⟨Q,e1⟩:=I.base.d9 b ps e
  obtain⟨S,e2⟩:=D b _ e1
  exact⟨Q++S,by rw [e2,Array.append_assoc]⟩
 ·obtain⟨m,O,P⟩:=I.loc
  refine⟨m,ns m O,λi x v e1 e2 N=> ?_⟩
  obtain⟨u,r,l⟩:=P i x v e1 e2 N
  refine⟨u,r,?_⟩
  obtain l | ⟨k,c,e,z⟩:=l
  ·exact .inl l
  ·exact .inr ⟨k,c,e,h x c e _ z⟩
 ·obtain⟨v,z⟩:=I.cell x c e
  exact⟨v,h x c e v z⟩
 ·obtain⟨m,⟨o,_,_,A,_⟩,_⟩:=I.loc
  exact f _ o (λz=>(g _ z).2.1 rfl) A I.free
 ·obtain⟨v,o,A,F⟩:=I.cell x c e
  exact f c o (λz=>(g c z).2.2.1 x c e rfl) A (I.cE x c e)
 ·obtain⟨e,n,ne,M,d⟩:=I.pin p K
  have j:=λz=>(g p.1 z).2.2.2 p K rfl
  exact⟨keep p.1 p.2 ne M j e n,f p.1 p.2 j e n,ne,M,d⟩
def Inv.un (I:Inv X pins U H s) (u:Un X.fs [] H H' s.heap h') (d:cX X.prog X.w H' h'):Inv X pins U H' { s with heap:=h',toks:=t' }:=by
 obtain⟨m,⟨o,t,p,h,r⟩,_⟩:=id I.loc
 obtain⟨sl,i⟩:=u.any h I.free (by simp)
 exact I.step (ch:= []) (λ_ z=>nomatch z) (λb o _ c _ e n=>u.keep b o e n c (by simp)) (λb o _ c _ e n=>u.slot b o e n c (by simp)) (λb o _ e n=>u.free b o e n (by simp)) (λb o _ e=>u.there b o e (by simp)) u.eh u.dM u.d9 (λl k=>by
  obtain⟨q,g,f,a,j⟩:=k
  rw [h]at a;cases a
  exact⟨_,g,f,i,j⟩) d I.bare
def Inv.call (I:Inv X pins U H s) (u:Un (fe X.stack) ch H H' s.heap h') (h:cX X.prog X.w H' h') (q:AllBare g')
 (f: ∀b∈ch,(b∈X.ex\/X.s₀.heap.objs.size<=b)/\b≠X.env.locals/\(∀ x c,X.env.cells.lookup x=k0 c->c≠b)/\ ∀p∈X.pn++pins,p.1≠b):
 Inv X pins U H' { s with heap:=h',gens:=g',drawn:=d',toks:=t' }:=by
 obtain⟨m,⟨o,y,A,k,r⟩,_⟩:=id I.loc
 obtain⟨sl,g⟩:=u.any k I.free λz=>(f _ z).2.1 rfl
 exact I.step f (λb o g t a e n=>u.keep b o e n (λz=>(Ac.mp (I.dw b z)).elim g t) a) (λb o _ _ a e n=>u.any e n a) (λb o a e n=>u.free b o e n a) (λb o a e=>u.there b o e a) u.eh u.dM u.d9 (λw v=>by
  obtain⟨B,j,i,d,l⟩:=v
  rw [k]at d;cases d
  exact⟨_,j,i,g,l⟩) h q
def Inv.turned (I:Inv X pins U H s) (k: ∀b o,b≠it->s.heap.get? b=k0 o->h'.get? b=k0 o) (h:H it=y0) (f:it≠X.env.locals)
 (h1:it∈X.ex\/X.s₀.heap.objs.size<=it) (g: ∀x c,X.env.cells.lookup x=k0 c->c≠it) (j: ∀p∈X.pn++pins,p.1≠it):Inv X pins U H { s with heap:=h',toks:=t' }:=by
 have d: ∀b u,H b=k0 u->b≠it:=λb u e z=>by rw [z,h]at e;cases e
 refine I.step (ch:= [it]) (λb w=> ?_) (λb o _ _ a e _=>k b o (λz=>a (by simp [z])) e) (λb o _ _ a e _=>⟨o.slots,k b o (λz=>a (by simp [z])) e⟩) (λ_ _ _ _ n=>n)
  (λb o a e=>⟨o,k b o (λz=>a (by simp [z])) e⟩) (λ_ _ e=>e) (λ_ _ _ e=>e) (λb A e=>⟨#[],by rw [e];simp⟩) (λm y=> ?_) (λb u e=> ?_) I.bare
 ·have e:=by simpa using w
  subst e
  exact⟨h1,f,g,j⟩
 ·obtain⟨o,i,l,t,r⟩:=y
  exact⟨o,i,l,k _ o (Ne.symm f) t,r⟩
 ·refine(I.a8 b u e).dO (λc v a q=>k c v ?_ q) (λ_ q=>q) λ_ _ q=>q
  obtain z | z:=a
  ·rw [z];exact d b u e
  ·exact d c _ z
def Inv.tok (I:Inv X pins U H s) (t):Inv X pins U H { s with toks:=t }:=I.un Un.refl I.a8
theorem Inv.kept (I:Inv X pins U H s) (k: ∀b u,s.heap.get? b=k0 u->h'.get? b=k0 u):Inv X pins U H { s with heap:=h',toks:=t' }:=I.un (Un.kept k) (I.a8.kept k)
theorem Inv.laid (I:Inv X pins U H s) (k: ∀b u,s.heap.get? b=k0 u->h'.get? b=k0 u) (c:s.heap.objs.size<=a) (new:a0 X.prog X.w (aM H a o) h' a o):
 Inv X pins U (aM H a o) { s with heap:=h',toks:=t' }:=I.un (Un.laid k c (I.a8.fresh c)) (I.a8.laid k c new)
theorem Inv.write (I:Inv X pins U H s) (c:mw (H x)) (d:e=x\/H e=k0 (.own x)) (k: ∀b u,b≠e->s.heap.get? b=k0 u->h'.get? b=k0 u) (a: ∃u,h'.get? e=k0 u)
 (new:a0 X.prog X.w (aM H x o) h' x o):Inv X pins U (aM H x o) { s with heap:=h',toks:=t' }:=I.un (Un.write c d k a) (I.a8.write c d k a new)
def Inv.bU (I:Inv X pins U H s) (h: ∀p∈pins',s.heap.get? p.1=k0 p.2/\H p.1=y0/\p.1≠X.env.locals/\p.1∉X.fs/\ ∀v,p.2.data≠ .cell v):Inv X pins' U H s:=
 ⟨I.ok,I.os,I.bare,I.base,I.loc,I.cell,I.free,I.cE,λp a=>(Ac5.mp a).elim (λz=>I.pin p (Ad0 _ z)) (h p),I.a8,I.len⟩
def ym {N:List Str}(c:N.Nodup){i j:Nat}(a:N[i]? =k0 x) (b:N[j]? =k0 x):i=j:=by
 obtain⟨d,e1⟩:=Aa1.mp a
 obtain⟨e,e2⟩:=Aa1.mp b
 exact(List.getElem_inj c).mp (e1.trans e2.symm)
def Hs (I:Inv X pins U H s) (hN:X.N.Nodup) (P:X.N[i]? =k0 x) (t:kf X.env.scope x) (r:RelV v u)
 (h: ∀s',Inv X pins (U.set i (k0 v)) H s'->(∃ a,Al8 a s.heap s'.heap/\(a=X.env.locals\/X.env.cells.lookup x=k0 a))->Q () s') (hf:X.fn x=u0\/X.env.scope.names.lookup x=k0 .local:=by first | exact .inl rfl | exact .inr rfl | assumption):wpAny M A (storeName X.env x u) Q E s:=by
 obtain⟨m,Y,hl⟩:=id I.loc
 have N:(X.env.scope.kind== .class||(X.env.scope.kind== .module&&X.env.locals != X.env.globals))=false:=by rw [I.ok.kind];rfl
 have R:i<U.length:=by rw [I.len];exact(Aa1.mp P).1
 have iI:=I.iI
 have g: ∀ {a}{G},(∃ o,s.heap.get? a=k0 o/\H a=y0)->Al8 a s.heap G->cX X.prog X.w H G:=λ{a G} ha f b ob e=>by
  obtain⟨_,_,w⟩:=ha
  refine(I.a8 b ob e).dO (λc S l q=>(f.2 c ?_).trans q) (λ_ q=>q) λ_ _ q=>q
  rintro rfl
  rcases l with rfl | l
  ·rw [w]at e;cases e
  ·rw [w]at l;cases l
 rcases t with B | B
 ·refine wpAny_storeName_local B Y (λG hn' f=> ?_) N
  obtain⟨oL,_,_,hoL,_⟩:=id Y
  refine h _ ⟨I.ok,I.os,I.bare,⟨λb o e n D t=> ?_,λb o e n D t=> ?_,I.base.free,λb o e t=> ?_,I.base.eh,I.base.dM,I.base.d9⟩,⟨_,hn',λj y W e1 e2 V=> ?_⟩,λy c e=> ?_,I.free,I.cE,λp Z=> ?_,g ⟨oL,hoL,I.free⟩ f,by simpa using I.len⟩ ⟨_,f,.inl rfl⟩
  ·exact(f.2 b (Ac7 (Ab4 (Ac1 e) I.ok.above))).trans (I.base.keep b o e n D t)
  ·obtain⟨sl,e1⟩:=I.base.slot b o e n D t
   exact⟨sl,(f.2 b (Ac7 (Ab4 (Ac1 e) I.ok.above))).trans e1⟩
  ·obtain⟨o',e1⟩:=I.base.there b o e t
   exact⟨o',(f.2 b (Ac7 (Ab4 (Ac1 e) I.ok.above))).trans e1⟩
  ·by_cases C:j=i
   ·subst C
    rw [P]at e1;cases e1
    rw [Ab9 R]at e2
    cases e2
    exact⟨u,r,.inl ⟨B,by simp⟩⟩
   ·rw [Ae0 (Ne.symm C)]at e2
    obtain⟨u',r',q⟩:=hl j y W e1 e2 V
    refine⟨u',r',?_⟩
    rcases q with⟨k,e⟩ | ⟨k,c,e,z⟩
    ·refine .inl ⟨k,?_⟩
     have:y≠x:=λe=>C (ym hN e1 (e▸P))
     simp [this,e]
    ·exact .inr ⟨k,c,e,z.sameBut f (iI y c e)⟩
  ·obtain⟨S,z⟩:=I.cell y c e
   exact⟨S,z.sameBut f (iI y c e)⟩
  ·obtain⟨e,n,ne,nf,d⟩:=I.pin p Z
   exact⟨(f.2 p.1 ne).trans e,n,ne,nf,d⟩
 ·have F:X.fn x=true:=by
   rcases hf with z | z
   ·exact z
   ·rw [z]at B;cases B
  obtain⟨c,l⟩:=I.ok.has x (.inl B)
  obtain⟨S,z⟩:=I.cell x c l
  refine wpAny_storeName_cell I.ok.kind B l z (λG K f=> ?_)
  obtain⟨oc,J,L⟩:=id z
  refine h { s with heap:=G } ⟨I.ok,I.os,I.bare,⟨λb o e n D t=> ?_,λb o e n D t=> ?_,I.base.free,λb o e t=> ?_,I.base.eh,I.base.dM,I.base.d9⟩,⟨m,Y.sameBut f (Ne.symm (iI x c l)),λj y W e1 e2 V=> ?_⟩,λy T e=> ?_,I.free,I.cE,λp Z=> ?_,g ⟨oc,J,I.cE x c l⟩ f,by simpa using I.len⟩ ⟨c,f,.inr l⟩
  ·exact(f.2 b (Ac7 (Ab4 (Ac1 e) (I.ok.nE x c F l)))).trans (I.base.keep b o e n D t)
  ·obtain⟨sl,e1⟩:=I.base.slot b o e n D t
   exact⟨sl,(f.2 b (Ac7 (Ab4 (Ac1 e) (I.ok.nE x c F l)))).trans e1⟩
  ·obtain⟨o',e1⟩:=I.base.there b o e t
   exact⟨o',(f.2 b (Ac7 (Ab4 (Ac1 e) (I.ok.nE x c F l)))).trans e1⟩
  ·by_cases C:j=i
   ·subst C
    rw [P]at e1;cases e1
    rw [Ab9 R]at e2
    cases e2
    exact⟨u,r,.inr ⟨.inl B,c,l,K⟩⟩
   ·rw [Ae0 (Ne.symm C)]at e2
    obtain⟨u',r',q⟩:=hl j y W e1 e2 V
    refine⟨u',r',?_⟩
    rcases q with q | ⟨k,T,e,z'⟩
    ·exact .inl q
    ·refine .inr ⟨k,T,e,z'.sameBut f ?_⟩
     rintro rfl
     exact C (ym hN e1 (I.ok.inj _ _ _ e l▸P))
  ·by_cases O:T=c
   ·subst O;exact⟨_,K⟩
   ·obtain⟨w2,z2⟩:=I.cell y T e
    exact⟨w2,z2.sameBut f O⟩
  ·obtain⟨e,n,ne,nf,d⟩:=I.pin p Z
   refine⟨(f.2 p.1 ?_).trans e,n,ne,nf,d⟩
   intro q
   rw [q,J]at e
   have q':=Ad5.inj e
   exact d S (by rw [← q'];exact L)
def zQ (I:Inv X pins U H s) (a:X.N.Nodup) (b:X.N[i]? =k0 x) (c:kf X.env.scope x) (r:RelV v u)
 (h: ∀s',Inv X pins (U.set i (k0 v)) H s'->Q () s') (e:X.fn x=u0\/X.env.scope.names.lookup x=k0 .local:=by first | exact .inl rfl | exact .inr rfl | assumption):wpAny M A (storeName X.env x u) Q E s:=
 Hs I a b c r (λs' d _=>h s' d) e
def Inv.kM (I:Inv X pins U H s) (f:s'.os=s.os) (u:Un (fe X.stack) ch H H' s.heap s'.heap) (a:cX X.prog X.w H' s'.heap) (g:AllBare s'.gens)
 (d: ∀b∈ch,(b∈X.ex\/X.s₀.heap.objs.size<=b)/\b≠X.env.locals/\(∀ x c,X.env.cells.lookup x=k0 c->c≠b)/\ ∀p∈X.pn++pins,p.1≠b):Inv X pins U H' s':=by
 obtain⟨i,j,l,h,k⟩:=s'
 have e:=f
 subst e
 exact I.call u a g d
end
abbrev XK:=Value->Option Addr->Hp->Prop
abbrev St:=List (Option V)
abbrev VK:=V->Hp->Prop
abbrev TE:=St->Hp->VK->Prop
abbrev TT:=St->Hp->(Bool->Hp->Prop)->Prop
abbrev TA:=St->Hp->(List V->Hp->Prop)->Prop
structure iB where
 nx:St->Hp->Prop
 rt:VK
 bk:St->Hp->Prop:=λ_ _=>False
 ct:St->Hp->Prop:=λ_ _=>False
abbrev TS:=iB->St->Hp->Prop
def EP (X:Cx) (a:List (Addr×Obj)) (U:St) (Q:VK) (u:Value) (b:Shared):Prop:= ∃v H',Inv X a U H' b/\RelV v u/\Q v H'
def TP (X:Cx) (a:List (Addr×Obj)) (U:St) (Q:Bool->Hp->Prop) (b:Bool) (c:Shared):Prop:= ∃H',Inv X a U H' c/\Q b H'
def AP (X:Cx) (a:List (Addr×Obj)) (U:St) (Q:List V->Hp->Prop) (d:List Value) (c:Shared):Prop:= ∃b H',Inv X a U H' c/\Vals b d/\Q b H'
def SP (X:Cx) (a:List (Addr×Obj)) (D:iB) (f:Flow) (c:Shared):Prop:=
 match f with
 | .next=> ∃b H',Inv X a b H' c/\D.nx b H'
 | .brk=> ∃b H',Inv X a b H' c/\D.bk b H'
 | .cont=> ∃b H',Inv X a b H' c/\D.ct b H'
 | .ret u=> ∃v b H',Inv X a b H' c/\RelV v u/\D.rt v H'
def PE (X:Cx) (e:Expr) (t:TE):Prop:=
 ∀(pins:List (Addr×Obj)) (s:Shared) (U:St) (H:Hp) (Q:VK),Inv X pins U H s->t U H Q->wpAny (model X.prog X.w) X.A (eval e X.env) (EP X pins U Q) X.xe s
def PT (X:Cx) (e:Expr) (t:TT):Prop:=
 ∀(pins:List (Addr×Obj)) (s:Shared) (U:St) (H:Hp) (Q:Bool->Hp->Prop),Inv X pins U H s->t U H Q->wpAny (model X.prog X.w) X.A (isTrue e X.env (eval e X.env)) (TP X pins U Q) X.xe s
def PW (X:Cx) (e:Expr) (t:TT):Prop:=
 ∀(a:Sem Value) (pins:List (Addr×Obj)) (s:Shared) (U:St) (H:Hp) (Q:Bool->Hp->Prop),Inv X pins U H s->t U H Q->wpAny (model X.prog X.w) X.A (isTrue e X.env a) (TP X pins U Q) X.xe s
def PW.pt (h:PW X e t):PT X e t:=h _
def PA (X:Cx) (es:List Expr) (t:TA):Prop:=
 ∀(pos:Pos) (pins:List (Addr×Obj)) (s:Shared) (U:St) (H:Hp) (Q:List V->Hp->Prop),Inv X pins U H s->t U H Q->wpAny (model X.prog X.w) X.A (spliced (backTo pos (starEach es X.env))) (AP X pins U Q) X.xe s
def PS (X:Cx) (st:Stmt) (t:TS):Prop:=
 ∀(pins:List (Addr×Obj)) (s:Shared) (U:St) (H:Hp) (D:iB),Inv X pins U H s->t D U H->wpAny (model X.prog X.w) X.A (exec st X.env) (SP X pins D) X.xe s
def dc (X:Cx) (st:List Stmt) (t:TS):Prop:=
 ∀(pins:List (Addr×Obj)) (s:Shared) (U:St) (H:Hp) (D:iB),Inv X pins U H s->t D U H->wpAny (model X.prog X.w) X.A (execs st X.env) (SP X pins D) X.xe s
def aQ (h:wpAny M A t Q E s) (b: ∀a s,Q a s->Q' a s):wpAny M A t Q' E s:=wpAny_mono h b λ_ _ x=>x
section
variable {X:Cx}
def bin (k:PE X a ta) (p:PE X b tb){R:V->V->Hp->Prop}(I:Inv X pins U H s) (h:ta U H λx H1=>tb U H1 λy H2=>R x y H2)
 {f:Value->Value->Sem α}
 (g: ∀v u L x y H2,Inv X pins U H2 L->RelV x v->RelV y u->R x y H2->wpAny (model X.prog X.w) X.A (f v u) Q X.xe L):
 wpAny (model X.prog X.w) X.A (eval a X.env) (λv j=>wpAny (model X.prog X.w) X.A (eval b X.env) (λu i=>wpAny (model X.prog X.w) X.A (f v u) Q X.xe i) X.xe j) X.xe s:=by
 refine aQ (k pins s U H _ I h) ?_
 rintro v e ⟨x,H1,m,d,c⟩
 refine aQ (p pins e U H1 _ m c) ?_
 rintro u L ⟨y,H2,l,n,o⟩
 exact g v u L x y H2 l d n o
def mN (i:Nat):TE:=λU H Q=> ∃v,U[i]? =k0 (k0 v)/\Q v H
def tC (v:V):TE:=λ_ H Q=>Q v H
def jH (p:X.N[i]? =some x) (o:mm X.env.scope x) (f:(x==("__debug__" :Str))=false:=by decide) (g:(x==("__classdict__" :Str))=false:=by decide):PE X (.Name x pos) (mN i):=by
 intro d s U H Q I h
 obtain⟨v,e,h⟩:=h
 obtain⟨m,k,n⟩:=I.loc
 obtain⟨u,r,l⟩:=n i x v p e o
 have fin:EP X d U Q u s:=⟨v,H,I,r,h⟩
 obtain⟨b,q⟩ | ⟨b,c,j,a⟩:=l
 ·exact wpAny_Name (wpAny_loadName_local I.ok.kind b k q fin) f
 ·obtain b | b:=b
  ·exact wpAny_Name (wpAny_loadName_cell I.ok.kind b j a fin) f
  ·exact wpAny_Name (wpAny_loadName_free I.ok.kind b j a fin g) f
def BA {i j pos}:PE X (.Constant (.int i) j pos) (tC (.int i)):=λ_ _ _ H _ I h=>wpAny_Constant_int ⟨.int i,H,I.tok _,⟨_,rfl⟩,h⟩
def C8 {b j pos}:PE X (.Constant (.bool b) j pos) (tC (.bl b)):=λ_ _ _ H _ I h=>Constant_bool ⟨.bl b,H,I,rfl,h⟩
def L8 {j pos}:PE X (.Constant .none j pos) (tC .aj):=λ_ _ _ H _ I h=>Constant_none ⟨.aj,H,I,rfl,h⟩
def nT {x j pos}:PE X (.Constant (.str x) j pos) (tC (.str x)):=λ_ _ _ H _ I h=>Calls.Constant_str ⟨.str x,H,I.tok _,⟨_,rfl⟩,h⟩
def Gl (X:Cx) (x:Str):Prop:=X.env.kindOf x=k0 .globalImplicit
def XR (I:Inv X pins U H s) (b:Gl X x) (c:X.mg x=k0 u) (h:Q u s)
 (a:(x==("__debug__" :Str))=false:=by decide):wpAny (model X.prog X.w) X.A (eval (.Name x pos) X.env) Q E s:=
 Calls.Name_function_global I.ok.kind b (Calls.loadGlobal_global (by rw [I.ok.glob];exact I.mod.glob.keeps I.bk) c h) a
def XE (I:Inv X pins U H s) (e:Gl X x) (g:X.mg x=y0) (f:bootBuiltins x=k0 u) (h:Q u s)
 (c:x≠ "__name__" :=by decide) (d:(x==("__debug__" :Str))=false:=by decide):wpAny (model X.prog X.w) X.A (eval (.Name x pos) X.env) Q E s:=by
 obtain⟨i,a,b⟩:=I.mod.blt
 exact Calls.Name_function_global I.ok.kind e (Calls.loadGlobal_builtin (by rw [I.ok.glob];exact I.mod.glob.keeps I.bk) g (by rw [I.ok.blt];exact a.keeps I.bk) ((b x c).trans f) h) d
def rP (b:Gl X x) (c:X.mg x=some u) (r:RelV v u) (a:(x==("__debug__" :Str))=false:=by decide):PE X (.Name x pos) (tC v):=
 λ_ _ _ H _ I h=>XR I b c ⟨v,H,I,r,h⟩ a
def Eu (c:Gl X x) (e:X.mg x=none) (d:bootBuiltins x=some u) (r:RelV v u) (a:x≠ "__name__" :=by decide) (b:(x==("__debug__" :Str))=false:=by decide):PE X (.Name x pos) (tC v):=
 λ_ _ _ H _ I h=>XE I c e d ⟨v,H,I,r,h⟩ a b
variable {a b:Expr}{ta tb:TE}{pos:Pos}
def PC (X:Cx) (e:CmpOp) (a b:Expr) (t:TE):Prop:=
 ∀(pins:List (Addr×Obj)) (s:Shared) (U:St) (H:Hp) (Q:VK),Inv X pins U H s->t U H Q →
  wpAny (model X.prog X.w) X.A (eval a X.env) (λv c=>wpAny (model X.prog X.w) X.A (eval b X.env) (λu d=>wpAny (model X.prog X.w) X.A (compareOp e v u) (EP X pins U Q) X.xe d) X.xe c) X.xe s
def uO (b)(h:op≠ .In) (a:op≠ .NotIn):behindInMarks op b=false:=by
 have e1:(op==CmpOp.In)=false:=by cases op<;>first | rfl | exact absurd rfl h
 have e2:(op==CmpOp.NotIn)=false:=by cases op<;>first | rfl | exact absurd rfl a
 cases b<;>simp [behindInMarks,e1,e2]
def L3 (a:TE):TE:=λU H Q=>a U H λx H1=>Q (.bl (y9 (x= .aj))) H1
def Ln (a:TE):TE:=λU H Q=>a U H λx H1=>Q (.bl (!y9 (x= .aj))) H1
def RelV.dI (r:RelV x v):(v==Value.none)=y9 (x= .aj):=by
 cases x with
 | aj=>cases r;rfl
 | bl _=>cases r;rfl
 | int _=>obtain⟨t,rfl⟩:=r;rfl
 | str _=>obtain⟨t,rfl⟩:=r;rfl
 | iy _=>obtain⟨t,rfl⟩:=r;rfl
 | g7 _=>obtain⟨t,rfl⟩:=r;rfl
 | ref _=>cases r;rfl
 | ty _=>cases r;rfl
def tY {j pos'}(c:PE X a ta):PC X .Is a (.Constant .none j pos') (L3 ta):=by
 intro b s U H Q I h
 refine aQ (c b s U H _ I h) ?_
 rintro v i ⟨x,g,f,e,d⟩
 exact Constant_none (is_none_gen ⟨.bl _,g,f,by rw [e.dI];rfl,d⟩)
def rz {j pos'}(c:PE X a ta):PC X .IsNot a (.Constant .none j pos') (Ln ta):=by
 intro b s U H Q I h
 refine aQ (c b s U H _ I h) ?_
 rintro v i ⟨x,g,f,e,d⟩
 exact Constant_none (isnot_none_gen ⟨.bl _,g,f,by rw [e.dI];rfl,d⟩)
def tB (t:TE):TT:=λU H Q=>t U H λx H1=> ∃c,x= .bl c/\Q c H1
def uQ (h:PC X op a b t) (h1:behindInMarks op b=false:=by first | exact uO _ (by decide) (by decide) | rfl):PE X (.Compare a [op] [b] pos) t:=λc s U H Q I d=>wpAny_Compare1 (h c s U H Q I d) h1
def vi (h:PC X op a b t) (h1:behindInMarks op b=false:=by first | exact uO _ (by decide) (by decide) | rfl):PT X (.Compare a [op] [b] pos) (tB t):=by
 intro e s U H Q I j
 refine wpAny_isTrue_Compare1 (aQ (h e s U H _ I j) λv m h1=>aQ h1 λu n f=>aQ f λc o ⟨x,l,k,i,g⟩=> ?_) h1
 obtain⟨d,rfl,q⟩:=g
 cases i
 exact wpAny_truthy_bool ⟨l,k,q⟩
variable {tA tB':TT}{xn:List Expr}
def He (t u:TT):TT:=λU H Q=>t U H λc H1=>if c=u0 then u U H1 Q else Q k9 H1
def Cr (t u:TT):TT:=λU H Q=>t U H λc H1=>if c=u0 then Q u0 H1 else u U H1 Q
def Ij (t:TT):TT:=λU H Q=>t U H λc H1=>Q (!c) H1
def Bh (d:PT X a tA):PW X (.BoolOp .And [a] pos) tA:=by
 intro f b s U H Q I h
 refine isTrue_and (aQ (d b s U H Q I h) λc g e=> ?_)
 cases c with
 | true=>exact isTrue_and_nil e
 | false=>exact e
def DO (d:PT X a tA):PW X (.BoolOp .Or [a] pos) tA:=by
 intro f b s U H Q I h
 refine isTrue_or (aQ (d b s U H Q I h) λc g e=> ?_)
 cases c with
 | false=>exact isTrue_or_nil e
 | true=>exact e
def yu (i:PT X a tA) (j:PW X (.BoolOp .And (b::xn) pos) tB'):PW X (.BoolOp .And (a::b::xn) pos) (He tA tB'):=by
 intro k d s U H Q I h
 refine isTrue_and (aQ (i d s U H _ I h) ?_)
 rintro c l ⟨g,f,e⟩
 cases c with
 | true=>exact j k d l U g Q f e
 | false=>exact⟨g,f,e⟩
def BW (i:PT X a tA) (j:PW X (.BoolOp .Or (b::xn) pos) tB'):PW X (.BoolOp .Or (a::b::xn) pos) (Cr tA tB'):=by
 intro k d s U H Q I h
 refine isTrue_or (aQ (i d s U H _ I h) ?_)
 rintro c l ⟨g,f,e⟩
 cases c with
 | true=>exact⟨g,f,e⟩
 | false=>exact j k d l U g Q f e
def KN (d:PT X a tA):PT X (.UnaryOp .Not a pos) (Ij tA):=by
 intro b s U H Q I h
 exact isTrue_not (d b s U H (λc e=>Q (!c) e) I h)
def tU {op}(h:PE X a t):PE X (.BoolOp op [a] pos) t:=λb s U H Q I c=>BoolOp_one (h b s U H Q I c)
end
def br (K:Aa9) (H:Hp) (a:Addr) (xs:List V):Prop:=
 Rd H a (.lst xs) ∨
  ∃(o:Obj) (b:Array Value) (n:Nat),K.lookup a=some o/\o.cls= .type "list" /\o.dict=none/\o.data= .seq b n/\b.size<=sizeLine/\Vals xs b.toList
def cJ (K:Aa9) (H:Hp) (a:Addr) (xs:List V):Prop:=
 Rd H a (.tup xs) ∨
  ∃(o:Obj) (b:Array Value) (n:Nat),K.lookup a=k0 o/\o.cls= .type "tuple" /\o.data= .seq b n/\b.size<=sizeLine/\Vals xs b.toList
noncomputable def Co:Value->Option V
 | .none=>k0 .aj
 | .bool b=>k0 (.bl b)
 | .int i _=>k0 (.int i)
 | .str x _=>k0 (.str x)
 | .bytes b _=>k0 (.iy b)
 | .float b _=>k0 (.g7 b)
 | .ref a=>k0 (.ref a)
 | .type n=>k0 (.ty n)
 | _=>y0
def RelV.abs (r:RelV x u):Co u=k0 x:=by
 cases x with
 | aj=>cases r;rfl
 | bl _=>cases r;rfl
 | int _=>obtain⟨t,rfl⟩:=r;rfl
 | str _=>obtain⟨t,rfl⟩:=r;rfl
 | iy _=>obtain⟨t,rfl⟩:=r;rfl
 | g7 _=>obtain⟨t,rfl⟩:=r;rfl
 | ref _=>cases r;rfl
 | ty _=>cases r;rfl
theorem RelV.inj (r:RelV x u) (q:RelV y u):x=y:=Ad5.inj (r.abs.symm.trans q.abs)
theorem Vals.inj: ∀ {xs ys}{i},Vals xs i->Vals ys i->xs=ys
 | _,_,_,.nil,.nil=>rfl
 | _,_,_,.cons r t,.cons b a=>by rw [r.inj b,Vals.inj t a]
section
variable {X:Cx}{pins:List (Addr×Obj)}{U:St}{H:Hp}{s:Shared}{a:Addr}{xs ys:List V}
def br.of {K:Aa9}(h:H a=k0 (.lst xs)):br K H a xs:= .inl (.inl h)
def Inv.list (I:Inv X pins U H s) (h:br X.K H a xs): ∃i:List Value,Vals xs i/\PlainL s.heap a i.toArray/\xs.length<=sizeLine:=by
 obtain h | ⟨o,i,n,f,c,d,b,g,r⟩:=h
 ·obtain⟨z,i,n,r,e⟩:=h.ok I.a8
  exact⟨i,r,⟨_,n,e,rfl,rfl,rfl⟩,z⟩
 ·refine⟨i.toList,r,⟨o,n,I.cn a o f,c,d,by simpa using b⟩,?_⟩
  have e:=r.length
  simp [Ai0]at e
  lia
def Inv.tuple (I:Inv X pins U H s) (h:cJ X.K H a xs): ∃i:List Value,Vals xs i/\IsTup s.heap a i.toArray/\xs.length<=sizeLine:=by
 obtain h | ⟨o,i,n,d,c,b,f,r⟩:=h
 ·obtain⟨z,i,r,p⟩:=h.ok I.a8
  exact⟨i,r,p.is,z⟩
 ·refine⟨i.toList,r,⟨o,I.cn a o d,c,n,by simpa using b⟩,?_⟩
  have e:=r.length
  simp [Ai0]at e
  lia
def Inv.dW (I:Inv X pins U H s) (h:br X.K H a xs) (h':br X.K H a ys):xs=ys:=by
 obtain⟨c,r,⟨o,n,e,_,_,d⟩,_⟩:=I.list h
 obtain⟨b,j,⟨l,k,f,_,_,g⟩,_⟩:=I.list h'
 rw [e]at f;cases f
 rw [d]at g
 injection g with i _
 have:c=b:=by simpa using congrArg Array.toList i
 subst this
 exact r.inj j
def Inv.eW (I:Inv X pins U H s) (h:cJ X.K H a xs) (h':cJ X.K H a ys):xs=ys:=by
 obtain⟨c,r,⟨o,e,_,n,d⟩,_⟩:=I.tuple h
 obtain⟨b,j,⟨l,f,_,k,g⟩,_⟩:=I.tuple h'
 rw [e]at f;cases f
 rw [d]at g
 injection g with i _
 have:c=b:=by simpa using congrArg Array.toList i
 subst this
 exact r.inj j
end
section
variable {X:Cx}{st:Stmt}{xn:List Stmt}{t u:TS}{e:Expr}{te:TE}{pos:Pos}
def B8:TS:=λD U H=>D.nx U H
def Dz (t u:TS):TS:=λD U H=>t { D with nx:=u D } U H
def Aw:dc X [] B8:=λ_ _ U H _ I h=>wpAny_execs_nil ⟨U,H,I,h⟩
def D7 (h1:PS X st t) (b:dc X xn u):dc X (st::xn) (Dz t u):=by
 intro a s U H D I h
 refine wpAny_execs_cons (aQ (h1 a s U H { D with nx:=u D } I h) λf c q=> ?_)
 cases f with
 | next=>
  obtain⟨e,g,d,q⟩:=q
  exact b a c e g D d q
 | ret v=>exact q
 | brk=>exact q
 | cont=>exact q
def Inv.quiet (I:Inv X pins U H s):interactive X.env=false:=by simp [interactive,I.ok.kind]
def Iv (a:TE):TS:=λD U H=>a U H λ_ H1=>D.nx U H1
def Z9 (f:PE X e te) (b:swapsWith e y0 pos.line X.env=pure false:=by rfl):PS X (.Expr e pos) (Iv te):=by
 intro a s U H D I h
 exact wpAny_Expr_any (aQ (f a s U H _ I h) λv j ⟨x,g,d,i,c⟩=>⟨U,g,d,c⟩) I.quiet b
def Dt (a:TE):TS:=λD U H=>a U H D.rt
def uV (f:PE X e te):PS X (.Return (k0 e) pos) (Dt te):=by
 intro a s U H D I h
 exact wpAny_Return_some (aQ (f a s U H _ I h) λv i ⟨x,g,d,c,b⟩=>⟨x,U,g,d,c,b⟩)
def Cv (c:TT) (t u:TS):TS:=λD U H=>c U H λb H1=>if b=u0 then t D U H1 else u D U H1
def Dv (m:PT X c tc) (k:dc X a t) (l:dc X b u):PS X (.If c a b pos) (Cv tc t u):=by
 intro e s U H D I h
 refine wpAny_If (aQ (m e s U H _ I h) ?_)
 rintro d g ⟨j,i,f⟩
 cases d with
 | true=>exact k e g U j D i f
 | false=>exact l e g U j D i f
end
abbrev TG:=V->St->Hp->(St->Hp->Prop)->Prop
abbrev kB:=List V->St->Hp->(St->Hp->Prop)->Prop
def PG (X:Cx) (a:Expr) (t:TG):Prop:=
 ∀(pins:List (Addr×Obj)) (s:Shared) (U:St) (H:Hp) (v:V) (u:Value) (Q:St->Hp->Prop),Inv X pins U H s->RelV v u->t v U H Q →
  wpAny (model X.prog X.w) X.A (assign a X.env u) (λ_ s'=> ∃b H',Inv X pins b H' s'/\Q b H') X.xe s
def lE (X:Cx) (d:List Expr) (t:kB):Prop:=
 ∀(pins:List (Addr×Obj)) (s:Shared) (U:St) (H:Hp) (b:List V) (c:List Value) (Q:St->Hp->Prop),Inv X pins U H s->Vals b c->t b U H Q →
  wpAny (model X.prog X.w) X.A (assignInOrder ((assignEach d X.env).map (·.2)) c) (λ_ s'=> ∃a H',Inv X pins a H' s'/\Q a H') X.xe s
abbrev tV:=V->V->V->Hp->(Hp->Prop)->Prop
def oj (X:Cx) (t:tV):Prop:=
 ∀(pins:List (Addr×Obj)) (s:Shared) (U:St) (H:Hp) (o i v:V) (a b u:Value) (Q:Hp->Prop),Inv X pins U H s->RelV o a->RelV i b->RelV v u->t o i v H Q →
  wpAny (model X.prog X.w) X.A (setItem a b u) (λ_ s'=> ∃H',Inv X pins U H' s'/\Q H') X.xe s
section
variable {X:Cx}{pos:Pos}
def ZY (i:Nat):TG:=λv U H Q=>Q (U.set i (k0 v)) H
def Z8 (b:X.N.Nodup) (c:X.N[i]? =k0 x) (d:kf X.env.scope x) (f:X.fn x=u0\/X.env.scope.names.lookup x=k0 .local:=by first | exact .inl rfl | exact .inr rfl | assumption):PG X (.Name x pos) (ZY i):=by
 intro a s U H v u Q I r h
 exact wpAny_assign_Name (zQ I b c d r (λg e=>⟨_,H,e,h⟩) f)
def KR:kB:=λa U H Q=>a= []/\Q U H
def E2 (t:TG) (u:kB):kB:=λb U H Q=> ∃v r,b=v::r/\t v U H λa H'=>u r a H' Q
def uZ:lE X [] KR:=by
 intro a s U H b c Q I r h
 obtain⟨e,h⟩:=h
 subst e
 cases r
 exact assignInOrder_nil ⟨U,H,I,h⟩
def QP (h1:PG X e t) (b:lE X es u)
 (i:(assignEach (e::es) X.env).map (·.2)=assign e X.env::(assignEach es X.env).map (·.2):=by rfl):lE X (e::es) (E2 t u):=by
 intro a s U H m l Q I r h
 obtain⟨v,n,e1,h⟩:=h
 subst e1
 cases r with
 | cons r g=>
  rw [i]
  refine assignInOrder_cons (aQ (h1 a s U H _ _ _ I r h) ?_)
  rintro _ d ⟨j,k,f,c⟩
  exact b a d j k _ _ Q f g c
def Bo (K:Aa9) (n:Nat) (t:kB):TG:=λv U H Q=> ∃a xs,v= .ref a/\cJ K H a xs/\xs.length=n/\t xs U H Q
def uo (l:X.calm=u0) (h:lE X es t)
 (g:(assignEach es X.env).length=n:=by rfl) (f:(assignEach es X.env).findIdx? (·.1)=none:=by rfl):PG X (.Tuple es k pos) (Bo X.K n t):=by
 intro c s U H v u Q I r d
 obtain⟨a,w,e1,j,i,d⟩:=d
 subst e1
 cases r
 obtain⟨y,rv,m,z⟩:=I.tuple j
 refine assign_Tuple_tuple (I.ok.hd l) m (by simp [g,←i,rv.length]) f λq x=> ?_
 have p:Inv X c U H { s with heap:=q }:=I.kept λb o e=>x b o (Ac7 (Ac1 e)) e
 exact h c _ U H w _ Q p (by simp_all) d
def L4 (c b:TE) (t:tV):TG:=λv U H Q=>c U H λo H1=>b U H1 λi H2=>t o i v H2 λa=>Q U a
def l1 (n:PE X o to) (A:PE X i ti) (z:oj X t)
 (f: ∀v,assign (.Subscript o i pos) X.env v=(do
   let j ←holding [v] (eval o X.env)
   let L ←holding [v,j] (eval i X.env)
   standAt pos
   holding [v,j,L] (setItem j L v)
   release [v,j,L] []):=by intro _;rfl):PG X (.Subscript o i pos) (L4 to ti t):=by
 intro a s U H v u Q I r h
 rw [f]
 refine wpAny_bind (wpAny_holding (aQ (n a s U H _ I h) ?_))
 rintro j e ⟨x,C,k,d,c⟩
 refine wpAny_bind (wpAny_holding (aQ (A a e U C _ k c) ?_))
 rintro L p ⟨y,w,g,m,q⟩
 refine wpAny_bind (wpAny_standAt (wpAny_bind (wpAny_holding (aQ (z a p U w x y v j L u _ g d m r q) ?_))))
 rintro _ D ⟨b,B,l⟩
 exact wpAny_release ⟨U,b,B,l⟩
def gX (a:TE) (g:TG):TS:=λD U H=>a U H λx H1=>g x U H1 D.nx
def J2 (j:PE X e te) (k:PG X tg g) (l:swapsWithSole [tg] e pos.line X.env=pure false:=by rfl) (f:swappedStores [tg] e X.env=pure none:=by rfl)
 (h1:(assignEach [tg] X.env).map (·.2)= [assign tg X.env]:=by rfl):PS X (.Assign [tg] e pos) (gX te g):=by
 intro a s U H D I h
 refine wpAny_Assign_stores (aQ (j a s U H _ I h) λv d ⟨x,m,i,c,b⟩=> ?_) l f
 rw [h1]
 exact aQ (k a d U m x v _ i c b) λ_ n q=>q
def CC (k:X.N.Nodup) (m:X.N[i]? =k0 x) (n:kf X.env.scope x) (j:PE X e te) (l:swapsWith e (k0 (.Name x pos')) pos.line X.env=pure false:=by rfl) (d:X.fn x=u0\/X.env.scope.names.lookup x=k0 .local:=by first | exact .inl rfl | exact .inr rfl | assumption):
 PS X (.Assign [.Name x pos'] e pos) (gX te (ZY i)):=by
 intro a s U H D I h
 refine wpAny_Assign_Name (aQ (j a s U H _ I h) λv p ⟨y,o,g,c,b⟩=> ?_) l
 exact zQ g k m n c (λq f=>⟨_,o,f,b⟩) d
end
section
variable {X:Cx}{pos:Pos}
def EC (c:TT) (tb:TS):TS:=λD U H=> ∃W:Nat->St->Hp->Prop,(∃ m,W m U H)/\ ∀m U H,W m U H →
 c U H λb H1=>if b=u0 then ∃N:St->Hp->Prop,(∀ d H',N d H'-> ∃a,a<m/\W a d H')/\tb { D with nx:=N,ct:=N,bk:=D.nx } U H1 else D.nx U H1
def D4 (t:PassesOwn (model X.prog X.w) X.A X.env X.xe) (F:PT X c tc) (L:dc X body tb):PS X (.While c body [] pos) (EC tc tb):=by
 intro a s U H D I h
 obtain⟨W,⟨C,J⟩,e⟩:=h
 refine wpAny_While (codeAny_whileLoop (λn E=> ∃w r,Inv X a w r E/\W n w r) ?_ C ⟨U,H,I,J⟩)
 rintro n B ⟨k,z,G,A⟩
 refine wpAny_passesOwn t (aQ (F a B k z _ G (e n k z A)) ?_)
 rintro b K ⟨y,u,j⟩
 cases b with
 | true=>
  obtain⟨N,x,j⟩:=j
  refine wpAny_passesOwn t (aQ (L a K k y _ u j) λf M i=> ?_)
  cases f with
  | next=>
   obtain⟨g,d,p,o⟩:=i
   obtain⟨l,q,m⟩:=x g d o
   exact⟨l,q,g,d,p,m⟩
  | cont=>
   obtain⟨g,d,p,o⟩:=i
   obtain⟨l,q,m⟩:=x g d o
   exact⟨l,q,g,d,p,m⟩
  | brk=>exact i
  | ret v=>exact i
 | false=>
  exact wpAny_execs_nil ⟨k,y,u,j⟩
end
structure It where
 go:Nat->Hp->Prop
 fc:Nat->Hp->V->Hp->Prop
 stop:Nat->Hp->Prop
def bu (X:Cx) (a:List (Addr×Obj)) (H:Hp) (b:Addr):Prop:=
 H b=y0/\b≠X.env.locals/\b∉X.fs/\(b∈X.ex\/X.s₀.heap.objs.size<=b)/\(∀ x c,X.env.cells.lookup x=k0 c->c≠b)/\ ∀p∈X.pn++a,p.1≠b
def Inv.c7 (I:Inv X pins U H s) (a:s.heap.objs.size<=b) (f:H' b=y0):bu X pins H' b:=by
 refine⟨f,Nat.ne_of_gt (Ab4 I.lt a),I.nt a,.inr (Ab5 I.sz a),λx c e z=> ?_,λp d z=> ?_⟩
 ·obtain⟨v,q⟩:=I.cell x c e
  exact absurd (Ab4 q.lt (by simp_all)) (Ai3 _)
 ·exact absurd (Ab4 (Ac1 (I.pin p d).1) (by simp_all)) (Ai3 _)
structure ik (P:Program) (w:World) (K:Aa9) (tg:Expr) (J:It) (fp:List Addr) (it:Addr) (tn:Nat->Heap->Prop):Prop where
 mem:it∈fp
 obj: ∀i h,tn i h-> ∀b∈fp,∃o,h.get? b=k0 o/\ ∀v,o.data≠ .cell v
 keep: ∀i h h',tn i h->(∀ b∈fp,∀o,h.get? b=k0 o->h'.get? b=k0 o)->tn i h'
 item: ∀(X:Cx),X.prog=P->X.w=w->X.K=K->X.calm=u0-> ∀(i:Nat) (pins:List (Addr×Obj)) (s:Shared) (U:St) (H:Hp) (E:Value->Shared->Prop),Inv X pins U H s->(∀ b∈fp,bu X pins H b)->tn i s.heap->J.go i H →
  wpAny (model P w) X.A (pyNext (.ref it)) (λr s1=> ∃u,r=k0 u ∧
   wpAny (model P w) X.A (letOwnedTupleGo tg (.ref it) u) (λ_ s2=> ∃x H',Inv X pins U H' s2/\RelV x u/\J.fc i H x H'/\tn (i+1) s2.heap/\ ∀b∈fp,H' b=y0) E s1) E s
 done: ∀(X:Cx),X.prog=P->X.w=w->X.K=K->X.calm=u0-> ∀(i:Nat) (pins:List (Addr×Obj)) (s:Shared) (U:St) (H:Hp) (E:Value->Shared->Prop),Inv X pins U H s->(∀ b∈fp,bu X pins H b)->tn i s.heap->J.stop i H →
  wpAny (model P w) X.A (pyNext (.ref it)) (λr s1=>r=y0/\Inv X pins U H s1) E s
 self: ∀(A:Around) (i:Nat) (s:Shared) (Q:Value->Shared->Prop) (E:Value->Shared->Prop),tn i s.heap->Q (.ref it) s->wpAny (model P w) A (pyIter (.ref it)) Q E s
abbrev TI:=St->Hp->(It->Hp->Prop)->Prop
def tw (X:Cx) (a:List (Addr×Obj)) (U:St) (tg:Expr) (R:It->Hp->Prop) (c:Value) (f:Shared):Prop:=
 ∃(d:Addr) (fp:List Addr) (e:Nat->Heap->Prop) (J:It) (H':Hp),c= .ref d/\Inv X a U H' f/\ik X.prog X.w X.K tg J fp d e/\e 0 f.heap/\(∀ b∈fp,bu X a H' b)/\R J H'
def PI (X:Cx) (tg a:Expr) (c:TI):Prop:=
 ∀(pins:List (Addr×Obj)) (s:Shared) (U:St) (H:Hp) (R:It->Hp->Prop),Inv X pins U H s->c U H R →
  wpAny (model X.prog X.w) X.A (eval a X.env) (λv b=>wpAny (model X.prog X.w) X.A (pyIter v) (tw X pins U tg R) X.xe b) X.xe s
def kF (b:s.heap.get? it=k0 o) (c:o.cls= .type n) (d:o.data= .fields vs)
 (e: ["enumerate", "zip", "dict_itemiterator", "dict_reverseitemiterator", "odict_iterator", "itertools.zip_longest", "itertools.pairwise"].contains n=false) (a:Q () s):wpAny M A (letOwnedTupleGo tg (.ref it) u) Q E s:=by
 cases tg<;>first
  | exact wpAny_pure a
  | (cases u<;>first
      | exact wpAny_pure a
      | (refine wpAny_bind (wpAny_load b ?_)
         rw [c,d]
         show wpAny M A (if _=u0 then _ else _) Q E s
         rw [if_neg (by lia)]
         exact wpAny_pure a))
noncomputable def ki (K:Aa9) (a:Addr):It:=
 ⟨λi H=> ∃xs x,br K H a xs/\xs[i]? =k0 x,λi H x H'=>H'=H/\ ∀xs,br K H a xs->xs[i]? =k0 x,λi H=> ∃xs,br K H a xs/\xs.length<=i⟩
noncomputable def kj (K:Aa9) (a:Addr):It:=
 ⟨λi H=> ∃xs x,cJ K H a xs/\xs[i]? =k0 x,λi H x H'=>H'=H/\ ∀xs,cJ K H a xs->xs[i]? =k0 x,λi H=> ∃xs,cJ K H a xs/\xs.length<=i⟩
def lO (a:Int) (n:Nat):It:=⟨λi _=>i<n,λi H x H'=>H'=H/\x= .int (a+i),λi _=>n<=i⟩
def Fs {K:Aa9}(a it):ik P w K tg (ki K a) [it] it (λi h=>h.IsListIter it a i) where
 mem:=by simp
 obj:=λi h f b j=>by
  have e:=by simpa using j
  subst e
  obtain⟨o,e,c,d⟩:=f
  exact⟨o,e,λv z=>by rw [d]at z;cases z⟩
 keep:=λi h F f k=>f.at λo e=>k it (by simp) o e
 item:=by
  intro X B A t M i g s U H E I m f D
  subst B A t
  obtain⟨Y,x,n,G⟩:=D
  obtain⟨J,rv,p,Q⟩:=I.list n
  obtain⟨u,T,S⟩:=rv.get G
  obtain⟨q,L,W,r,y,C⟩:=m it (by simp)
  refine wpAny_pyNext_list_item f p.isList (by simpa using T) λF l R=> ?_
  have O:Inv X g U H { s with heap:=F }:=I.turned (λb o j e=>(R.2 b j).trans e) q L r y C
  obtain⟨o,e,c,d⟩:=id l
  exact⟨u,rfl,kF e c d (by decide) ⟨x,H,O,S,⟨rfl,λZ V=>by rw [I.dW V n];exact G⟩,l,λb j=>(m b j).1⟩⟩
 done:=by
  intro X B A t M i g s U H E I m f D
  subst B A t
  obtain⟨Y,n,G⟩:=D
  obtain⟨J,rv,p,Q⟩:=I.list n
  obtain⟨q,L,W,r,y,C⟩:=m it (by simp)
  have hl:=rv.length
  exact wpAny_pyNext_list_end (I.ok.hd M) f p.isList (by simp;omega) λF N=>⟨rfl,I.turned (λb o j e=>N b o j e) q L r y C⟩
 self:=λ_ _ _ _ _ f h=>wpAny_pyIter_listiter f h
def Ho {K:Aa9}(a it):ik P w K tg (kj K a) [it] it (λi h=>h.IsTupleIter it a i) where
 mem:=by simp
 obj:=λi h f b j=>by
  have e:=by simpa using j
  subst e
  obtain⟨o,e,c,d⟩:=f
  exact⟨o,e,λv z=>by rw [d]at z;cases z⟩
 keep:=λi h F f k=>f.at λo e=>k it (by simp) o e
 item:=by
  intro X B A t M i g s U H E I m f D
  subst B A t
  obtain⟨Y,x,n,G⟩:=D
  obtain⟨J,rv,p,Q⟩:=I.tuple n
  obtain⟨u,T,S⟩:=rv.get G
  obtain⟨q,L,W,r,y,C⟩:=m it (by simp)
  refine wpAny_pyNext_tuple_item f (p) (by simpa using T) λF l R=> ?_
  have O:Inv X g U H { s with heap:=F }:=I.turned (λb o j e=>(R.2 b j).trans e) q L r y C
  obtain⟨o,e,c,d⟩:=id l
  exact⟨u,rfl,kF e c d (by decide) ⟨x,H,O,S,⟨rfl,λZ V=>by rw [I.eW V n];exact G⟩,l,λb j=>(m b j).1⟩⟩
 done:=by
  intro X B A t M i g s U H E I m f D
  subst B A t
  obtain⟨Y,n,G⟩:=D
  obtain⟨J,rv,p,Q⟩:=I.tuple n
  obtain⟨q,L,W,r,y,C⟩:=m it (by simp)
  have hl:=rv.length
  exact wpAny_pyNext_tuple_end (I.ok.hd M) f (p) (by simp;omega) λF N=>⟨rfl,I.turned (λb o j e=>N b o j e) q L r y C⟩
 self:=λ_ _ _ _ _ f h=>wpAny_pyIter_tupleiter f h
def Dj {K:Aa9}(it) (lo) (n):ik P w K tg (lO lo n) [it] it (λi h=>IsRangeIter h it (lo+(i:Nat)*1) ((n:Int)-(i:Nat)) 1) where
 mem:=by simp
 obj:=λi h a b d=>by
  have e:=by simpa using d
  subst e
  exact⟨_,a,λv z=>by
   have C:=z
   cases C⟩
 keep:=λi h u a k=>k it (by simp) _ a
 item:=by
  intro X B A y p i c s U H E I g a r
  subst B A y
  obtain⟨j,x,M,l,m,q⟩:=g it (by simp)
  have W:=Walks.range (prog:=X.prog) (w:=X.w) (I.ok.hd p) it lo 1 n
  refine W.item i s _ _ r a λv u L J f F=> ?_
  obtain⟨t,rfl⟩:=J
  have G:Inv X c U H { s with heap:=u,toks:=L }:=I.turned (λb o d e=>F b o (by simpa using d) e) j x l m q
  refine⟨_,rfl,kF f rfl rfl (by decide) ⟨.int (lo+i),H,G,⟨t,?_⟩,⟨rfl,rfl⟩,f,λb d=>(g b d).1⟩⟩
  rw [Int.mul_one]
 done:=by
  intro X B A y p i c s U H E I g a r
  obtain⟨j,x,M,l,m,q⟩:=g it (by simp)
  exact wpAny_pyNext_range_end (I.ok.hd p) a (by have:n<=i:=r;omega) λu D=>⟨rfl,I.turned (λb o d e=>D b o d e) j x l m q⟩
 self:=λ_ _ _ _ _ a h=>wpAny_pyIter_rangeiter a h
section
variable {X:Cx}{tg:Expr}
def CH {a c:Int}(I:Inv X pins U H s) (h1: -(2 ^ 62)<=a) (g:a<2 ^ 62) (i: -(2 ^ 62)<=c) (h:c<2 ^ 62)
 (q:R (lO a (c-a).toNat) H):wpAny (model X.prog X.w) X.A (pyIter (.ref s.heap.objs.size)) (tw X pins U tg R) E { s with heap:=s.heap.push { cls:= .type "range",data:= .fields #[.int a t,.int c u,.int 1 v] },toks:=tk }:=by
 refine wpAny_pyIter_range (IsRange.new ..) (small_one h1 g i h) ?_
 have d:Inv X pins U H { s with heap:=s.heap.push { cls:= .type "range",data:= .fields #[.int a t,.int c u,.int 1 v] },toks:=tk }:=I.kept fun b o e=>Heap.get?_push_of_some _ e
 refine⟨(s.heap.push { cls:= .type "range",data:= .fields #[.int a t,.int c u,.int 1 v] }).objs.size,[(s.heap.push { cls:= .type "range",data:= .fields #[.int a t,.int c u,.int 1 v] }).objs.size],_,_,H,rfl,
  d.kept λb o e=>Ab3 _ e,Dj _ a (c-a).toNat,?_,λb f=> ?_,q⟩
 ·have e1:a+ (0:Nat)*1=a:=by simp
  have e2: (c-a).toNat- (0:Nat)=Builtin.Range.rangeSize a c 1:=by rw [rangeSize_one];split<;>lia
  rw [e1,e2]
  exact Ac6 _ rfl
 ·have e:b=(s.heap.push { cls:= .type "range",data:= .fields #[.int a t,.int c u,.int 1 v] }).objs.size:=by simpa using f
  subst e
  exact d.c7 (Ab _) (d.a8.fresh (Ab _))
def F0 (a:TA):TI:=λU H R=>a U H λb H1=> ∃j:Int,b= [.int j]/\ -(2 ^ 62)<=j/\j<2 ^ 62/\R (lO 0 j.toNat) H1
def Dd (l:Gl X "range") (n:X.mg "range" =none) (f:PA X [a] ta) (m:starEach [a] X.env= [(false,eval a X.env)]:=by rfl):PI X tg (.Call (.Name "range" p) [a] [] pos) (F0 ta):=by
 intro b s U H R I h
 refine Call_ (XE I l n boot_range (PyProof.Rows.callWith_type1 (aQ (f pos b s U H _ I h) λu o ⟨v,w,g,d,c⟩=> ?_) m rfl))
 obtain⟨j,e,c,i,q⟩:=c
 subst e
 cases d with
 | cons r k=>
  cases k
  obtain⟨t,rfl⟩:=r
  exact call_range_1 (CH g (by lia) (by lia) c i (by simp_all))
def BS (d:TI) (g:TG) (tb:TS):TS:=λD U H=>d U H λJ H1=> ∃W:Nat->Nat->St->Hp->Prop,(∃ m,W 0 m U H1)/\ ∀i m U H,W i m U H →
 (J.stop i H/\D.nx U H)\/(J.go i H/\ ∃N:St->Hp->Prop,(∀ b H',N b H'-> ∃a,a<m/\W (i+1) a b H')/\ ∀x H',J.fc i H x H'->g x U H' λc H2=>tb { D with nx:=N,ct:=N,bk:=D.nx } c H2)
def JN (a:List Addr) (h:Heap):List (Addr×Obj):=a.filterMap λb=>(h.get? b).map λo=>(b,o)
def Zg (a:b∈fp) (e:h.get? b=k0 o):(b,o)∈JN fp h:=List.mem_filterMap.mpr ⟨b,a,by rw [e];rfl⟩
def zY (c:p∈JN fp h):p.1∈fp/\h.get? p.1=k0 p.2:=by
 obtain⟨b,a,e⟩:=List.mem_filterMap.mp c
 cases q:h.get? b with
 | none=>rw [q]at e;cases e
 | some o=>
  rw [q]at e
  have d:=Ad5.inj e
  subst d
  exact⟨a,q⟩
def Inv.pinned (I:Inv X pins U H s) (k: ∀b∈fp,bu X pins H b) (h: ∀b∈fp,∃o,s.heap.get? b=k0 o/\ ∀v,o.data≠ .cell v):Inv X (pins++JN fp s.heap) U H s:=
 I.bU λp f=>(Ac5.mp f).elim (λz=>I.pin p (Ab0 _ z)) λz=>by
  obtain⟨a,e⟩:=zY z
  obtain⟨j,i,g,_⟩:=k p.1 a
  obtain⟨o,c,d⟩:=h p.1 a
  rw [e]at c;cases c
  exact⟨e,j,i,g,d⟩
def Inv.bJ (I:Inv X (pins++pl) U H s):Inv X pins U H s:=I.bU λp a=>I.pin p (Ab0 _ (Ad0 _ a))
def Lq (F:PassesOwn (model X.prog X.w) X.A X.env X.xe) (Y:X.calm=u0) (hi:PI X tg iter wi) (hg:PG X tg g) (p:dc X body tb)
 (hs: ∀x,foldedSetIterable iter X.env x=pure x:=by intro _;rfl):PS X (.For tg iter body [] pos) (BS wi g tb):=by
 intro a s U H D I h
 refine wpAny_For (aQ (hi a s U H _ I h) λv s1 h1=>aQ h1 λitv s2 h2=> ?_) hs
 obtain⟨it,L,S,J,H2,e,I2,T,O,f2,W,⟨m0,w0⟩,A⟩:=h2
 subst e
 have q: ∀ {t},(∀ b∈L,t b=y0)-> ∀b∈L,bu X a t b:=λhn b p=>⟨hn b p,(f2 b p).2⟩
 refine codeAny_forLoop_any (λn Z=> ∃i B t,Inv X a B t Z/\S i Z.heap/\(∀ b∈L,t b=y0)/\W i n B t) ?_ m0 ⟨0,U,H2,I2,O,λb p=>(f2 b p).1,w0⟩
 rintro n s3 ⟨i,z,K,I3,C,E,w3⟩
 obtain⟨stop,qn⟩ | ⟨go,N,hN,step⟩:=A i n z K w3
 ·refine wpAny_passesOwn F (aQ (T.done X rfl rfl rfl Y i a s3 z K X.xe I3 (q E) C stop) ?_)
  rintro r s4 ⟨P,I4⟩
  subst P
  exact wpAny_execs_nil ⟨z,K,I4,qn⟩
 ·refine wpAny_passesOwn F (aQ (T.item X rfl rfl rfl Y i a s3 z K X.xe I3 (q E) C go) ?_)
  rintro r s4 ⟨u,P,h4⟩
  subst P
  refine wpAny_passesOwn F (aQ h4 ?_)
  rintro _ s5 ⟨x,V,I5,r5,y5,y,Q⟩
  have M:=I5.pinned (q Q) (T.obj _ _ y)
  refine wpAny_passesOwn F (aQ (hg _ s5 z V x u _ M r5 (step x V y5)) ?_)
  rintro _ s6 ⟨U6,H6,I6,q6⟩
  refine wpAny_passesOwn F (aQ (p _ s6 U6 H6 _ I6 q6) λf R w=> ?_)
  have j: ∀ {l}{c},Inv X _ l c R->N l c-> ∃m,m<n/\ ∃i B t,Inv X a B t R/\S i R.heap/\(∀ b∈L,t b=y0)/\W i m B t:=λ{l c} k G=>by
   obtain⟨m',hm,w7⟩:=hN l c G
   refine⟨m',hm,i+1,l,c,k.bJ,T.keep _ _ _ y λb p o e=>(k.pin _ (Ab0 _ (Ab0 _ (Zg p e)))).1,λb p=> ?_,w7⟩
   obtain⟨o,e,d⟩:=T.obj _ _ y b p
   exact(k.pin _ (Ab0 _ (Ab0 _ (Zg p e)))).2.1
  cases f with
  | next=>obtain⟨l,c,k,G⟩:=w;exact j k G
  | cont=>obtain⟨l,c,k,G⟩:=w;exact j k G
  | brk=>obtain⟨l,c,k,w⟩:=w;exact⟨l,c,k.bJ,w⟩
  | ret v=>obtain⟨x7,l,c,k,r7,w⟩:=w;exact⟨x7,l,c,k.bJ,r7,w⟩
end
abbrev R2:=V->V->Hp->VK->Prop
def bG (X:Cx) (f:Value->Value->Sem Value) (r:R2):Prop:=
 ∀(pins:List (Addr×Obj)) (s:Shared) (U:St) (H:Hp) (x y:V) (v u:Value) (Q:VK),Inv X pins U H s->RelV x v->RelV y u->r x y H Q →
  wpAny (model X.prog X.w) X.A (f v u) (EP X pins U Q) X.xe s
def mu (X:Cx) (f:Value->Sem Value) (r:V->Hp->VK->Prop):Prop:=
 ∀(pins:List (Addr×Obj)) (s:Shared) (U:St) (H:Hp) (x:V) (v:Value) (Q:VK),Inv X pins U H s->RelV x v->r x H Q →
  wpAny (model X.prog X.w) X.A (f v) (EP X pins U Q) X.xe s
def zu (X:Cx) (f:Value) (r:List V->Hp->VK->Prop):Prop:=
 ∀(pins:List (Addr×Obj)) (s:Shared) (U:St) (H:Hp) (xs:List V) (a:List Value) (Q:VK),Inv X pins U H s->Vals xs a->r xs H Q →
  wpAny (model X.prog X.w) X.A (call f a) (EP X pins U Q) X.xe s
def IL (X:Cx) (r:V->Hp->(Bool->Hp->Prop)->Prop):Prop:=
 ∀(pins:List (Addr×Obj)) (s:Shared) (U:St) (H:Hp) (x:V) (v:Value) (Q:Bool->Hp->Prop),Inv X pins U H s->RelV x v->r x H Q →
  wpAny (model X.prog X.w) X.A (truthy v) (TP X pins U Q) X.xe s
def k5 (r:R2) (a tb:TE):TE:=λU H Q=>a U H λx H1=>tb U H1 λy H2=>r x y H2 Q
def CD (r:V->Hp->VK->Prop) (a:TE):TE:=λU H Q=>a U H λx H1=>r x H1 Q
def rI (C:Int->Int->Prop) (g:Int->Int->V):R2:=λx y H Q=> ∃i j,x= .int i/\y= .int j/\C i j/\Q (g i j) H
def fQ (g:Int->Int->V):R2:=λx y H Q=> ∃i j,x= .int i/\y= .int j/\Q (g i j) H
def rU (g:Int->V):V->Hp->VK->Prop:=λx H Q=> ∃i,x= .int i/\Q (g i) H
section
variable {X:Cx}{a b c:Expr}{ta tb tc:TE}{pos:Pos}
def nM (k:PE X a ta) (p:PE X b tb){R:V->V->Hp->Prop}(I:Inv X pins U H s)
 (h:ta U H λx H1=>tb U H1 λy H2=>R x y H2){f:Value->Value->Sem Value}
 (g: ∀v u L x y H2,Inv X pins U H2 L->RelV x v->RelV y u->R x y H2->wpAny (model X.prog X.w) X.A (f v u) Q X.xe L):
 wpAny (model X.prog X.w) X.A (eval a X.env) (λv j=>wpAny (model X.prog X.w) X.A (eval b X.env) (λu i=>wpAny (model X.prog X.w) X.A (f v u) Q X.xe i) X.xe j) X.xe s:=by
 refine aQ (k pins s U H _ I h) ?_
 rintro v e ⟨x,H1,m,d,c⟩
 refine aQ (p pins e U H1 _ m c) ?_
 rintro u L ⟨y,H2,l,n,o⟩
 exact g v u L x y H2 l d n o
def Ed (i:bG X (binaryOp op) r) (e:PE X a ta) (l:PE X b tb):PE X (.BinOp a op b pos) (k5 r ta tb):=by
 intro c s U H Q I h
 exact wpAny_BinOp (nM e l I h λv u j x y k f d g q=>i c j U k x y v u Q f d g q)
def uP (d:mu X (unaryOp op) r) (c:PE X a ta):PE X (.UnaryOp op a pos) (CD r ta):=by
 intro b s U H Q I h
 exact UnaryOp_ (aQ (c b s U H _ I h) λv g ⟨x,j,i,f,e⟩=>d b g U j x v Q i f e)
def iY {g:Int->Int->Int}
 (a: ∀ i j t u s Q E,C i j->Q (.int (g i j) s.toks) { s with toks:=s.toks+1 }->wpAny (model X.prog X.w) X.A (f (.int i t) (.int j u)) Q E s):
 bG X f (rI C λi j=> .int (g i j)):=by
 intro b s U H x y v u Q I c e h
 obtain⟨i,j,rfl,rfl,d,q⟩:=h
 obtain⟨t,rfl⟩:=c
 obtain⟨k,rfl⟩:=e
 exact a i j t k s _ _ d ⟨.int _,H,I.tok _,⟨_,rfl⟩,q⟩
def lA {g:Int->Int->Int}
 (a: ∀ i j t u s Q E,Q (.int (g i j) s.toks) { s with toks:=s.toks+1 }->wpAny (model X.prog X.w) X.A (f (.int i t) (.int j u)) Q E s):
 bG X f (fQ λi j=> .int (g i j)):=by
 intro b s U H x y v u Q I c d h
 obtain⟨i,j,rfl,rfl,q⟩:=h
 obtain⟨t,rfl⟩:=c
 obtain⟨e,rfl⟩:=d
 exact a i j t e s _ _ ⟨.int _,H,I.tok _,⟨_,rfl⟩,q⟩
def mj {g:Int->Int->Bool}
 (a: ∀ i j t u s Q E,Q (.bool (g i j)) s->wpAny (model X.prog X.w) X.A (f (.int i t) (.int j u)) Q E s):
 bG X f (fQ λi j=> .bl (g i j)):=by
 intro b s U H x y v u Q I c d h
 obtain⟨i,j,rfl,rfl,q⟩:=h
 obtain⟨t,rfl⟩:=c
 obtain⟨e,rfl⟩:=d
 exact a i j t e s _ _ ⟨.bl _,H,I,rfl,q⟩
def rL (i j:Int):Prop:=0<j/\j<1073741824
def vd (i j:Int):Prop:=0<=j/\j<=1000000/\i.natAbs<2 ^ 64
def ia (i j:Int):Prop:=(-(2 ^ 64)<i/\i<2 ^ 64)\/(-(2 ^ 64)<j/\j<2 ^ 64)
def ia.ok (h:ia i j):IntMulOk i j:=by
 obtain⟨b,a⟩ | ⟨b,a⟩:=h
 ·exact .of_left (intBits_le_64 b a)
 ·exact .of_right (intBits_le_64 b a)
def Eo (k):(0:Int)<=2 ^ k:=by
 exact Ao5 _
def Hk:bG X (binaryOp .Add) (fQ λi j=> .int (i+j)):=lA λ_ _ _ _ _ _ _ q=>add_int q
def yo:bG X (binaryOp .Sub) (fQ λi j=> .int (i-j)):=lA λ_ _ _ _ _ _ _ q=>sub_int q
def LY:bG X (binaryOp .Mult) (rI ia λi j=> .int (i*j)):=iY λ_ _ _ _ _ _ _ a q=>mul_int q a.ok
def Lm:bG X (binaryOp .FloorDiv) (rI rL λi j=> .int (i / j)):=iY λi j _ _ _ _ _ a q=>by
 have b:=a.1
 have c:=a.2
 exact floordiv_int (by lia) (by rw [Al7 i (by lia)];exact q) (.inl (PyProof.noPylong_small (by lia)))
def Ib:bG X (binaryOp .Mod) (rI (λ_ j=>0<j) λi j=> .int (i % j)):=iY λi j _ _ _ _ _ a q=>by
 have b:=a
 exact mod_int' (by lia) (by rw [Int.fmod_eq_emod_of_nonneg i (by lia)];exact q)
def yy:bG X (binaryOp .Pow) (rI vd λi j=> .int (i ^ j.toNat)):=iY λ_ _ _ _ _ _ _ a q=>pow_int_small a.1 a.2.1 a.2.2 q
def yA:bG X (binaryOp .LShift) (rI vd λi j=> .int (i*2 ^ j.toNat)):=iY λ_ _ _ _ _ _ _ a q=>lshift_int_small a.1 a.2.1 a.2.2 q
def yQ:bG X (binaryOp .RShift) (rI (λ_ j=>0<=j) λi j=> .int (i / 2 ^ j.toNat)):=iY λi j _ _ _ _ _ a q=>
 rshift_int a (by rw [Al7 i (Eo _)];exact q)
def F8:bG X (binaryOp .BitAnd) (fQ λi j=> .int (Builtin.bitAnd i j)):=lA λ_ _ _ _ _ _ _ q=>and_int q
def DY:bG X (binaryOp .BitOr) (fQ λi j=> .int (Builtin.bitOr i j)):=lA λ_ _ _ _ _ _ _ q=>or_int q
def Cs:bG X (binaryOp .BitXor) (fQ λi j=> .int (Builtin.bitXor i j)):=lA λ_ _ _ _ _ _ _ q=>xor_int q
def tE {g:Int->Int}
 (a: ∀ i t s Q E,Q (.int (g i) s.toks) { s with toks:=s.toks+1 }->wpAny (model X.prog X.w) X.A (f (.int i t)) Q E s):
 mu X f (rU λi=> .int (g i)):=by
 intro b s U H x v Q I c h
 obtain⟨i,rfl,q⟩:=h
 obtain⟨t,rfl⟩:=c
 exact a i t s _ _ ⟨.int _,H,I.tok _,⟨_,rfl⟩,q⟩
def DK:mu X (unaryOp .USub) (rU λi=> .int (-i)):=tE λ_ _ _ _ _ q=>neg_int q
def Fi:mu X (unaryOp .Invert) (rU λi=> .int (Builtin.bitNot i)):=tE λ_ _ _ _ _ q=>invert_int q
end
section
variable {X:Cx}{a b c:Expr}{ta tb tc:TE}{pos:Pos}
def xI (I:Inv X pins U H s) (q:Q (.bl k) H) (e:k=k'):EP X pins U Q (.bool k') s:=by
 subst e
 exact⟨.bl k,H,I,rfl,q⟩
def yC:bG X (compareOp .Lt) (fQ λi j=> .bl (y9 (i<j))):=mj λ_ _ _ _ _ _ _ q=>lt_int q
def Ih:bG X (compareOp .LtE) (fQ λi j=> .bl (y9 (i<=j))):=mj λ_ _ _ _ _ _ _ q=>le_int q
def FJ:bG X (compareOp .Gt) (fQ λi j=> .bl (y9 (j<i))):=mj λ_ _ _ _ _ _ _ q=>gt_int q
def FN:bG X (compareOp .GtE) (fQ λi j=> .bl (y9 (j<=i))):=mj λ_ _ _ _ _ _ _ q=>ge_int q
def HC:bG X (compareOp .Lt) (λx y H Q=> ∃i j,x= .str i/\y= .str j/\Q (.bl (y9 (i.cps.toList<j.cps.toList))) H):=by
 intro a s U H x y v u Q I b c h
 obtain⟨i,j,rfl,rfl,q⟩:=h
 obtain⟨t,rfl⟩:=b
 obtain⟨d,rfl⟩:=c
 exact lt_str (xI I q rfl)
def IF:bG X (compareOp .In) (λx y H Q=> ∃i j,x= .str i/\y= .str j/\Q (.bl (!(Builtin.Str.occurrences j i 0 j.length 1).isEmpty)) H):=by
 intro a s U H x y v u Q I b c h
 obtain⟨i,j,rfl,rfl,q⟩:=h
 obtain⟨t,rfl⟩:=b
 obtain⟨d,rfl⟩:=c
 exact in_str (xI I q rfl)
def uj (i:bG X (compareOp op) r) (e:PE X a ta) (l:PE X b tb) (m:behindInMarks op b=k9):PE X (.Compare a [op] [b] pos) (k5 r ta tb):=by
 intro c s U H Q I h
 exact wpAny_Compare1 (nM e l I h λv u j x y k f d g q=>i c j U k x y v u Q f d g q) m
def uY (t:TE):TT:=λU H Q=>t U H λx H'=> ∃k,x= .bl k/\Q k H'
def pB (t:bG X (compareOp op) r) (l:PE X a ta) (C:PE X b tb) (F:behindInMarks op b=k9):PT X (.Compare a [op] [b] pos) (uY (k5 r ta tb)):=by
 intro d s U H Q I h
 refine wpAny_isTrue_Compare1 (aQ (l d s U H _ I h) λv j ⟨x,E,o,i,g⟩=>aQ (C d j U E _ o g) λu w ⟨y,B,n,q,A⟩=>
  aQ (t d w U B x y v u _ n i q A) λc G ⟨z,f,D,m,k,e,p⟩=> ?_) F
 subst e
 cases m
 exact wpAny_truthy_bool ⟨f,D,p⟩
def oQ (r r':R2) (b tb c:TE):TE:=λU H Q=>b U H λx H1=>tb U H1 λy H2=>r x y H2 λz a=> ∃k,z= .bl k ∧
 (if k=u0 then c U a λd e=>r' y d e Q else Q (.bl k9) a)
def AR (G:bG X (compareOp op) r) (g:bG X (compareOp op') r') (A:PE X a ta) (O:PE X b tb) (D:PE X c tc)
 (T:lastMarks [op,op'] [b,c]=false:=by with_unfolding_all rfl):PE X (.Compare a [op,op'] [b,c] pos) (oQ r r' ta tb tc):=by
 intro f s U H Q I h
 refine Compare_chain (aQ (A f s U H _ I h) λv q ⟨x,S,F,p,o⟩=>chain_link (aQ (O f q U S _ F o) λu J ⟨y,N,E,l,K⟩=>
  aQ (G f J U N x y v u _ E p l K) λd L ⟨z,i,m,B,k,e,j⟩=> ?_)) T
 subst e
 cases B
 refine wpAny_truthy_bool ?_
 cases k with
 | false=>exact ite_ff ⟨.bl k9,i,m,rfl,j⟩
 | true=>exact ite_tt (chain_last (aQ (D f L U i _ m j) λM P ⟨C,w,t,n,R⟩=>g f P U w y C u M Q t l n R))
def Iw (M:bG X (compareOp op) r) (g:bG X (compareOp op') r') (C:PE X a ta) (W:PE X b tb) (G:PE X c tc)
 (hm:lastMarks [op,op'] [b,c]=false:=by with_unfolding_all rfl):PT X (.Compare a [op,op'] [b,c] pos) (uY (oQ r r' ta tb tc)):=by
 intro f s U H Q I h
 refine isTrue_chain (aQ (C f s U H _ I h) λv q ⟨x,H1,L,p,o⟩=>test_link (aQ (W f q U H1 _ L o) λu O ⟨y,V,J,l,P⟩=>
  aQ (M f O U V x y v u _ J p l P) λd R ⟨z,i,m,D,k,e,j⟩=> ?_)) hm
 subst e
 cases D
 refine wpAny_truthy_bool ?_
 cases k with
 | false=>
  obtain⟨k',N,w⟩:=j
  cases N
  exact ite_ff ⟨i,m,w⟩
 | true=>
  refine ite_tt (test_last (aQ (G f R U i _ m j) λT Y ⟨E,B,t,n,Z⟩=>aQ (g f Y U B y E u T _ t l n Z) ?_))
  rintro d' s5 ⟨z2,F,K,A,k2,e2,S⟩
  subst e2
  cases A
  exact wpAny_truthy_bool ⟨F,K,S⟩
def iE (K:Aa9) (x:V) (H:Hp) (k:Bool):Prop:=
 match x with
 | .aj=>k=k9
 | .bl b=>k=b
 | .int i=>k=(i != 0)
 | .str y=>y.length<=sizeLine/\k=((y.length:Int) != 0)
 | .iy y=>y.size<=sizeLine/\k=((y.size:Int) != 0)
 | .ref p=>(∃ xs,br K H p xs/\k= !xs.isEmpty)\/(∃ xs,cJ K H p xs/\k= !xs.isEmpty)\/ ∃kvs,H p=k0 (.dK kvs)/\k= !kvs.isEmpty
 | _=>False
def Ct (r:KV kvs vs):(!vs.isEmpty)= !kvs.isEmpty:=by
 cases r<;>rfl
def QN (r:Vals xs its):(!its.toArray.isEmpty)= !xs.isEmpty:=by
 cases r<;>simp
def ZL:(sizeLine:Nat)<2 ^ 63:=by rw [sizeLine_eq];decide
def mC:IL X (λx H Q=> ∃k,iE X.K x H k/\Q k H):=by
 intro o s U H x v Q I d h
 obtain⟨k,e,q⟩:=h
 have A:=ZL
 have B:=sizeLine_eq
 cases x with
 | aj=>
  cases d
  have a:=e
  subst a
  exact truthy_none ⟨H,I,q⟩
 | bl b=>
  cases d
  have a:=e
  subst a
  exact wpAny_truthy_bool ⟨H,I,q⟩
 | int i=>
  obtain⟨t,rfl⟩:=d
  have a:=e
  subst a
  exact PySem.P.truthy_int ⟨H,I,q⟩
 | str y=>
  obtain⟨t,rfl⟩:=d
  obtain⟨w,a⟩:y.length<=sizeLine/\k=(_ != 0):=e
  subst a
  exact PySem.P.truthy_str (by omega) ⟨H,I.tok _,q⟩
 | iy y=>
  obtain⟨t,rfl⟩:=d
  obtain⟨w,a⟩:y.size<=sizeLine/\k=(_ != 0):=e
  subst a
  exact PySem.W.truthy_bytes (by omega) ⟨H,I.tok _,q⟩
 | ref p=>
  cases d
  have a:=e
  rcases a with⟨z,g,a⟩ | ⟨z,g,a⟩ | ⟨f,g,a⟩
  ·subst a
   obtain⟨l,r,pl,n⟩:=I.list g
   have c:=r.length
   exact wpAny_truthy_list pl.isList (by simp only [Ac0];omega) ⟨H,I.tok _,by rw [QN r];exact q⟩
  ·subst a
   obtain⟨l,r,pl,n⟩:=I.tuple g
   have c:=r.length
   exact truthy_tuple pl (by simp only [Ac0];omega) ⟨H,I.tok _,by rw [QN r];exact q⟩
  ·subst a
   obtain⟨n,u,j,r,m⟩:f.length<=sizeLine/\(p==sysModules)=k9/\ ∃j,KV f j/\s.heap.DictOf _ p j:=I.a8 p _ g
   have c:=Paired.length r
   exact wpAny_truthy_dict u m (by omega) ⟨H,I.tok _,by rw [Ct r];exact q⟩
 | _=>exact(e).elim
def E9 (f:PE X a ta) (j: ∀i,isTrue a X.env i=(do let v ←i;standAt a.pos;holding [v] (truthy v))):
 PT X a (λU H Q=>ta U H λx H'=> ∃k,iE X.K x H' k/\Q k H'):=by
 intro b s U H Q I h
 exact isTrue_plain (aQ (f b s U H _ I h) λv e ⟨x,l,g,d,c⟩=>mC b e U l x v Q g d c) (j _)
def F2:bG X (binaryOp .Add) (λx y H Q=> ∃i j,x= .str i/\y= .str j/\i.length+j.length<=sizeLine/\Q (.str (i++j)) H):=by
 intro a s U H x y v u Q I b d h
 obtain⟨i,j,rfl,rfl,c,q⟩:=h
 obtain⟨t,rfl⟩:=b
 obtain⟨e,rfl⟩:=d
 exact add_str (λe f=>⟨.str _,H,I.tok _,⟨_,rfl⟩,q⟩) c
def xM (r:Vals [x] us): ∃u,us= [u]/\RelV x u:=by
 cases r with
 | cons b a=>cases a;exact⟨_,rfl,b⟩
def rj (r:Vals [x,y] us): ∃u i,us= [u,i]/\RelV x u/\RelV y i:=by
 cases r with
 | cons d b=>
  cases b with
  | cons a c=>cases c;exact⟨_,_,rfl,d,a⟩
def jY:zu X (.type "int") (fun xs H Q=>(∃ i,xs= [.int i]/\Q (.int i) H)\/ ∃k,xs= [.bl k]/\Q (.int (if k then 1 else 0)) H):=by
 intro a s U H xs c Q I r h
 obtain⟨i,rfl,q⟩ | ⟨k,rfl,q⟩:=h
 ·obtain⟨u,rfl,t,rfl⟩:=xM r
  exact call_int_int ⟨.int i,H,I,⟨_,rfl⟩,q⟩
 ·obtain⟨u,rfl,b⟩:=xM r
  cases b
  exact call_int_bool ⟨.int _,H,I.tok _,⟨_,rfl⟩,q⟩
def j8:zu X (.builtin "divmod") (fun xs H Q=> ∃i j,xs= [.int i,.int j]/\rL i j/\ ∀p,H p=none->Q (.ref p) (aM H p (.tup [.int (i / j),.int (i % j)]))):=by
 intro a s U H xs f Q I r h
 obtain⟨i,j,rfl,⟨k,d⟩,q⟩:=h
 obtain⟨u,l,rfl,⟨t,rfl⟩,⟨g,rfl⟩⟩:=rj r
 refine divmod_int (by lia) ?_ (.inl (PyProof.noPylong_small (by lia)))
 rw [Al7 i (by lia),Int.fmod_eq_emod_of_nonneg i (by lia)]
 have c:=I.a8.fresh (Ab _)
 refine⟨.ref s.heap.objs.size,_,?_,rfl,q _ c⟩
 refine I.laid (λb o e=>Ab3 _ e) (Ab _) ⟨by simp only [Aa7,Ae];decide,[.int _ s.toks,.int _ (s.toks+1)],.cons ⟨_,rfl⟩ (.cons ⟨_,rfl⟩ .nil),?_⟩
 exact⟨_,Ac6 s.heap rfl,rfl,rfl,0,rfl⟩
end
structure eu (h:Heap) (x dx C:Addr) (mA:Str->Option Value):Prop where
 obj:h.get? x=k0 (Ak C dx)
 ns:h.Ns1 dx mA
 ne:dx≠x
def Im {h:Heap}(n:h.Ns1 dx mA): ∃i,h.get? dx=k0 i/\ ∀name,An name i=k0 (mA name):=by
 obtain⟨o,c,m,f,d,k,_,l⟩:=n
 refine⟨o,f,λname=> ?_⟩
 have e:=l name
 unfold nsFind findBy at e
 rw [← Array.find?_toList]at e
 unfold An
 rw [d]
 dsimp only
 split
 ·rename_i y q
  rw [q]at e
  exact congrArg k0 e
 ·rename_i q
  rw [q]at e
  have a:c.toList.any (·.refKey)=false:=by
   rw [Aj4]
   intro y g
   obtain⟨z,t,b⟩:=k y (Array.mem_toList_iff.mp g)
   simp [DictEntry.refKey,b]
  have j: ¬c.toList.any (·.refKey)=true:=by rw [a];exact Ab2
  rw [if_neg j]
  exact congrArg k0 e
def eu.look (I:eu h x dx C mA): ∃i,PySem.W.InstAt h x (Ak C dx) C (k0 i)/\ ∀name,An name i=k0 (mA name):=
 let ⟨i,a,b⟩:=Im I.ns
 ⟨i,⟨I.obj,rfl,rfl,a⟩,b⟩
section
variable {prog:Program}{w:World}{A:Around}{E:Value->Shared->Prop}{s:Shared}{K:Aa9}{x dx C f:Addr}{mA:Str->Option Value}{name:Str}{v:Value}
def DD (X:K.In s.heap) (I:eu s.heap x dx C mA) (d:Am2 K C name=u0) (c:PySem.W.hasDictIn K C=u0)
 (b:Ak5 K (.ref C) name=k0 y0) (f:mA name=k0 v) (a:PySem.W.handedIn v=u0) (h:Q v { s with toks:=s.toks+1 }):
 wpAny (model prog w) A (getAttr (.ref x) name expr) Q E s:=by
 obtain⟨g,J,e⟩:=I.look
 exact PySem.W.get_value X J (An3 d).1 (PySem.W.findObj_own c b rfl (by rw [e,f])) a h
def K4 (X:K.In s.heap) (I:eu s.heap x dx C mA) (a:Am2 K C name=u0)
 (d:Ak5 K (.ref C) name=k0 (k0 (.ref f))) (c:PySem.W.isFn K (.ref f)=u0) (g:mA name=y0) (h:Q (.ref f,[.ref x]) s):
 wpAny (model prog w) A (getMethod (.ref x) name pl) Q E s:=by
 obtain⟨b,J,e⟩:=I.look
 exact PySem.W.method_fn X J (An3 a).1 (An3 a).2 d (beq_iff_eq.mp c) (by show(An name b).map _=k0 k9;rw [e,g];rfl) h
def IV (X:K.In s.heap) (I:eu s.heap x dx C mA)
 (p:PySem.W.findIn K (.ref C) "__setattr__" =some (some (.builtin "object.__setattr__"))) (k:PySem.W.plainOver K C=true) (m:PySem.W.takerIn K C name=some none) (i:PySem.W.hasDictIn K C=true)
 (j:PySem.Within mA ns) (n:ns.length<=sizeLine)
 (h: ∀h',eu h' x dx C (λy=>if y=name then k0 v else mA y)->Al8 dx s.heap h'->Q () { s with heap:=h',toks:=s.toks+2 }):
 wpAny (model prog w) A (setAttr (.ref x) name v) Q E s:=by
 obtain⟨z,J,t⟩:=I.look
 refine PySem.W.set_plain X J p (PySem.W.osa_open X J k m λb=> ?_)
 obtain⟨cd,l,f⟩:=PySem.W.any_some i
 have q:=I.obj
 refine wpAny_bind (wpAny_pure (wpAny_bind (wpAny_bind (wpAny_loadPart q (wpAny_bind (PySem.W.Looks.here (PySem.W.looks_clsIn X l) ?_))))))
 rw [f]
 refine wpAny_pure (wpAny_bind (wpAny_pure (wpAny_bind ?_)))
 refine wpAny_nsSet1 I.ns λh' a c=> ?_
 obtain⟨u,r,o,e,g,d⟩:=a.count (PySem.Within.cons name v j)
 refine wpAny_bind (wpAny_lookBehind e (by rw [g];exact pastItsLine_dict (Ab5 d (by simp_all))) ?_)
 exact wpAny_pure (h _ ⟨(c.2 _ (Ne.symm I.ne)).trans I.obj,a,I.ne⟩ c)
def Lu (X:K.In s.heap) (e:PySem.W.makesIn K C=u0)
 (b:PySem.W.findIn K (.ref C) "__init__" =some (some (.ref f))) (c:PySem.W.typeIn K (.ref f)=some (.type "function"))
 (h:codeAny (model prog w) (A.under (.builtin "type.__call__" ⟨.ref C::vs,kw⟩)) (.call (.ref f) ⟨.ref (s.heap.objs.size+1)::vs,kw⟩) (PySem.W.InitBack (s.heap.objs.size+1) R)
   { s with heap:=(s.heap.push Ah8).push (Ak C s.heap.objs.size) }):
 codeAny (model prog w) A (.call (.ref C) ⟨vs,kw⟩) R s:=by
 obtain⟨j,g,d,t,i⟩:=s
 exact PySem.W.make_core (PySem.W.makes_of X e) (PySem.W.looks_findIn X b) (λa=>PySem.W.bind_fn X a c) (.inl rfl) h
end
noncomputable def aW (f:Str) (v:V):List (Str×V)->List (Str×V)
 | []=> [(f,v)]
 | (g,x)::r=>if g=f then(g,v)::r else(g,x)::aW f v r
theorem xK (f g) (v): ∀fs:List (Str×V),(aW f v fs).lookup g=if g=f then k0 v else fs.lookup g
 | []=>by
  show Aj g [(f,v)]=_
  by_cases h:g=f
  ·have a:=beq_iff_eq.mpr h
   simp only [Aj,a,if_pos h]
  ·have a:=beq_eq_false_iff_ne.mpr h
   simp only [Aj,a,if_neg h]
 | (k,x)::r=>by
  have c:=xK f g v r
  rw [show aW f v ((k,x)::r)=(if k=f then(k,v)::r else(k,x)::aW f v r)from rfl]
  by_cases b:k=f
  ·rw [if_pos b]
   by_cases h:g=k
   ·have a:=beq_iff_eq.mpr h
    simp only [Aj,a,if_pos (h.trans b)]
   ·have a:=beq_eq_false_iff_ne.mpr h
    simp only [Aj,a,if_neg (λe:g=f=>h (e.trans b.symm))]
  ·rw [if_neg b]
   by_cases h:g=k
   ·have a:=beq_iff_eq.mpr h
    simp only [Aj,a,if_neg (λe:g=f=>b (h.symm.trans e))]
   ·have a:=beq_eq_false_iff_ne.mpr h
    simp only [Aj,a]
    exact c
theorem qL (f) (v): ∀fs:List (Str×V),f∈(aW f v fs).map (·.1)/\ ∀g,g∈fs.map (·.1)->g∈(aW f v fs).map (·.1)
 | []=>⟨by simp [aW],λg h=>by simp at h⟩
 | (k,x)::r=>by
  obtain⟨i1,i2⟩:=qL f v r
  rw [show aW f v ((k,x)::r)=(if k=f then(k,v)::r else(k,x)::aW f v r)from rfl]
  by_cases a:k=f
  ·rw [if_pos a]
   subst a
   exact⟨by simp,λg h=>by simpa using h⟩
  ·rw [if_neg a]
   refine⟨?_,λg h=> ?_⟩
   ·rw [Ab1]
    exact Aa2 _ i1
   ·rw [Ab1]at h ⊢
    rcases Ac.mp h with e | e
    ·exact Ac.mpr (.inl e)
    ·exact Aa2 _ (i2 g e)
theorem jI (f) (v): ∀fs:List (Str×V),(aW f v fs).length<=fs.length+1
 | []=>by simp [aW]
 | (k,x)::r=>by
  have b:=jI f v r
  rw [show aW f v ((k,x)::r)=(if k=f then(k,v)::r else(k,x)::aW f v r)from rfl]
  by_cases a:k=f
  ·rw [if_pos a,Aa7,Aa7];omega
  ·rw [if_neg a,Aa7,Aa7];omega
def cv.some_of (r:cv (k0 v) o): ∃u,o=k0 u/\RelV v u:=by
 cases o with
 | none=>exact(r).elim
 | some u=>exact⟨u,rfl,r⟩
def cv.none_of (r:cv y0 o):o=none:=by
 cases o with
 | none=>rfl
 | some u=>exact(r).elim
def E4 (r:RelV v u):PySem.W.handedIn u=true:=by
 cases v with
 | aj=>cases (r);rfl
 | bl b=>cases (r);rfl
 | int i=>obtain⟨t,e⟩:=(r);cases e;rfl
 | str x=>obtain⟨t,e⟩:=(r);cases e;rfl
 | iy b=>obtain⟨t,e⟩:=(r);cases e;rfl
 | g7 b=>obtain⟨t,e⟩:=(r);cases e;rfl
 | ref a=>cases (r);rfl
 | ty n=>cases (r);rfl
section
variable {P:Program}{w:World}{H H':Hp}{h h':Heap}{a C dx:Addr}{fs fs':List (Str×V)}
def WS (b:cX P w H h) (e:H a=k0 (.ins C dx fs)): ∃mA,eu h a dx C mA/\(∀ f,cv (fs.lookup f) (mA f))/\PySem.Within mA (fs.map (·.1))/\fs.length<=1000/\H dx=k0 (.own a):=by
 obtain⟨d,z,ne,c,mA,n,r,q⟩:=(show a0 P w H h a (.ins C dx fs)from b a _ e)
 exact⟨mA,⟨c,n,ne⟩,r,q,z,d⟩
end
structure d3 (K:Aa9) (C:Addr):Prop where
 pg:Am2 K C Str.empty=u0
 hd:PySem.W.hasDictIn K C=u0
 po:PySem.W.plainOver K C=u0
 sa:PySem.W.findIn K (.ref C) "__setattr__" =some (some (.builtin "object.__setattr__"))
def d3.get {K:Aa9}(c:d3 K C) (f):Am2 K C f=true:=c.pg
def bZ (K:Aa9) (C:Addr) (f:Str):Prop:=Ak5 K (.ref C) f=k0 y0
def bZ.k6 {K:Aa9}(n:bZ K C f):PySem.W.takerIn K C f=k0 none:=by
 unfold PySem.W.takerIn
 rw [show Ak5 K _ f=k0 y0 from n]
 rfl
structure My (K:Aa9) (C:Addr) (f:Str) (v:V) (u:Value):Prop where
 at_:Ak5 K (.ref C) f=k0 (k0 u)
 rel:RelV v u
 get:PySem.W.specialIn K u "__get__" =some none
 cp:PySem.W.copiedNames.contains f=k9
structure lQ (K:Aa9) (C:Addr) (m:Str) (f:Addr):Prop where
 at_:Ak5 K (.ref C) m=k0 (k0 (.ref f))
 fn:PySem.W.isFn K (.ref f)=u0
 kp:Ah4 K (.ref f)=u0
section
variable {X:Cx}{pins:List (Addr×Obj)}{U:St}{H:Hp}{s:Shared}{a C dx:Addr}{fs:List (Str×V)}{f:Str}{v:V}{A:Around}{E:Value->Shared->Prop}
def Lv (I:Inv X pins U H s) (e:H a=k0 (.ins C dx fs)) (c:d3 X.K C) (n:bZ X.K C f) (l:fs.lookup f=k0 v)
 (h: ∀u s',Inv X pins U H s'->RelV v u->Q u s'):wpAny (model X.prog X.w) A (getAttr (.ref a) f b) Q E s:=by
 obtain⟨i,O,r,_,_,_⟩:=WS I.a8 e
 obtain⟨u,g,d⟩:=cv.some_of (by rw [← l];exact r f)
 exact DD I.cn O (c.get f) c.hd n g (E4 d) (h u _ (I.tok _) d)
def Fl (I:Inv X pins U H s) (e:H a=k0 (.ins C dx fs)) (c:d3 X.K C) (k:lQ X.K C m g) (l:fs.lookup m=y0)
 (h:Q (.ref g,[.ref a]) s):wpAny (model X.prog X.w) A (getMethod (.ref a) m pl) Q E s:=by
 obtain⟨d,O,r,_,_,_⟩:=WS I.a8 e
 have b:=cv.none_of (by rw [← l];exact r m)
 exact K4 I.cn O (c.get m) k.at_ k.fn b h
def Hy (I:Inv X pins U H s) (e:H a=k0 (.ins C dx fs)) (c:d3 X.K C) (n:bZ X.K C f) (D:fs.length<1000) (t:RelV y u)
 (h: ∀s',Inv X pins U (aM H a (.ins C dx (aW f y fs))) s'->Q () s'):wpAny (model X.prog X.w) A (setAttr (.ref a) f u) Q E s:=by
 obtain⟨k,O,r,i,_,j⟩:=WS I.a8 e
 have m:(fs.map (·.1)).length<=sizeLine:=by rw [Aa,sizeLine_eq];lia
 refine IV I.cn O c.sa c.po n.k6 c.hd i m λB d p=>h _ ?_
 have l: ∃o,B.get? dx=k0 o:=let ⟨o,_,_,v,_⟩:=d.ns; ⟨o,v⟩
 refine I.write (by rw [e];exact True.intro) (.inr j) (λb q x z=>(p.2 b x).trans z) l ?_
 refine⟨by rw [Qa O.ne];exact j,?_,O.ne,d.obj,_,d.ns,λg=> ?_,λg w=> ?_⟩
 ·have:=jI f y fs;lia
 ·show cv _ _
  rw [xK]
  by_cases q:g=f
  ·rw [if_pos q,if_pos q];exact t
  ·rw [if_neg q,if_neg q];exact r g
 ·by_cases q:g=f
  ·rw [q];exact(qL f y fs).1
  ·refine(qL f y fs).2 g (i g λz=>w ?_)
   show(if g=f then k0 u else k g)=y0
   rw [if_neg q];exact z
def Inv.made (I:Inv X pins U H s):Inv X pins U (aM (aM H s.heap.objs.size (.own (s.heap.objs.size+1))) (s.heap.objs.size+1) (.ins C s.heap.objs.size []))
 { s with heap:=(s.heap.push Ah8).push (Ak C s.heap.objs.size) }:=by
 have e1:(s.heap.push Ah8).get? s.heap.objs.size=k0 Ah8:=Ac6 s.heap rfl
 have e2:=by
  have:=Ac6 (s.heap.push Ah8) (o:=Ak C s.heap.objs.size) rfl
  rwa [Ak8]at this
 have a:(s.heap.push Ah8).Ns s.heap.objs.size (λ_=>y0):=⟨Ah8, #[],_,e1,rfl,(λe f=>absurd f (by simp)),λ_=>rfl⟩
 have c:=I.laid (o:= .own (s.heap.objs.size+1)) (t':=s.toks) (λb u q=>Ab3 _ q) (Ab _) ⟨_,e1⟩
 refine c.laid (λb u q=>Ab3 _ q) (Al0 (Ak8 _ _)) ?_
 have ne:s.heap.objs.size≠s.heap.objs.size+1:=Ac7 (Ag _)
 refine⟨by rw [Qa ne,wc],Af4 _,ne,e2,λ_=>y0,(Heap.Ns1.of_empty a).at λo q=>Ab3 _ q,λ_=>True.intro,λy d=>absurd rfl d⟩
def Fv (a:attributeBase e f env (eval e env)=eval e env)
 (h:wpAny (model prog w) A (eval e env) (λo i=>wpAny (model prog w) A (getAttr o f u0) Q E i) E s):wpAny (model prog w) A (eval (.Attribute e f pos) env) Q E s:=
 Attribute_any_ h (by rw [arm_eval_Attribute,a])
end
def Ir (K:Aa9) (b:TE) (f:Str):TE:=λU H Q=>b U H λx H1=> ∃a C dx fs v,x= .ref a/\H1 a=k0 (.ins C dx fs)/\d3 K C/\bZ K C f/\fs.lookup f=k0 v/\Q v H1
def yS (K:Aa9) (b c:TE) (f:Str):TS:=λD U H=>c U H λy H1=>b U H1 λx H2=> ∃a C dx fs,x= .ref a/\H2 a=k0 (.ins C dx fs)/\d3 K C/\bZ K C f/\fs.length<1000 ∧
 D.nx U (aM H2 a (.ins C dx (aW f y fs)))
section
variable {X:Cx}{o e value:Expr}{f:Str}{pos pos' tpos:Pos}{ta tv:TE}
def D2 (j:PE X e ta) (o:attributeBase e f X.env (eval e X.env)=eval e X.env):PE X (.Attribute e f pos) (Ir X.K ta f):=by
 intro b s U H Q I h
 refine Fv o (aQ (j b s U H _ I h) ?_)
 rintro u t ⟨x,p,i,d,a,C,r,fs,v,ex,k,c,n,l,q⟩
 subst ex
 obtain rfl:u=Value.ref a:=d
 exact Lv i k c n l λy w g m=>⟨v,p,g,m,q⟩
def vR (g:PE X o ta) (m:PE X value tv) (v:swapsWith value (k0 (.Attribute o f pos')) pos.line X.env=pure k9):PS X (.Assign [.Attribute o f pos'] value pos) (yS X.K ta tv f):=by
 intro b s U H D I h
 refine plainObj_wpAny_Assign_Attribute (aQ (m b s U H _ I h) λu d ⟨y,z,j,p,q⟩=>aQ (g b d U z _ j q) λt B ⟨x,F,i,e,a,C,A,fs,ex,k,c,n,l,r⟩=> ?_) v
 subst ex
 obtain rfl:t=Value.ref a:=e
 exact Hy i k c n l p λE w=>⟨U,_,w,r⟩
end
section
variable {X:Cx}{pins:List (Addr×Obj)}{U:St}{H:Hp}{s:Shared}{A:Around}{E:Value->Shared->Prop}{Q:Value->Shared->Prop}{c:Value}{b:Bool}
inductive ff (K:Aa9) (H:Hp):V->Value->Prop where
 | aj:ff K H .aj (.type "NoneType")
 | bl (x:Bool):ff K H (.bl x) (.type "bool")
 | int (i:Int):ff K H (.int i) (.type "int")
 | str (x:Str):ff K H (.str x) (.type "str")
 | g7 (x:UInt64):ff K H (.g7 x) (.type "float")
 | lst {a:Addr}{xs:List V}(e:H a=k0 (.lst xs)):ff K H (.ref a) (.type "list")
 | ea {a:Addr}{o:Obj}{xs:List V}(e:H a=k0 (.ea o (.lst xs))):ff K H (.ref a) (.type "list")
 | tup {a:Addr}{xs:List V}(e:H a=k0 (.tup xs)):ff K H (.ref a) (.type "tuple")
 | dK {a:Addr}{kvs:List (c9×V)}(e:H a=k0 (.dK kvs)):ff K H (.ref a) (.type "dict")
 | dT {a:Addr}{kvs:List (List c9×V)}(e:H a=k0 (.dT kvs)):ff K H (.ref a) (.type "dict")
 | ins {a C dx:Addr}{fs:List (Str×V)}(e:H a=some (.ins C dx fs)) (cl:d3 K C) (ha:PySem.W.findIn K (.ref C) "__class__" =some (some (.builtin "object.__class__")))
  (hn:PySem.W.specialIn K (.builtin "object.__class__") "__get__" =some (some (.builtin "getset_descriptor.__get__"))) (htk:PySem.W.takesIn K (.builtin "object.__class__")=some true)
  (hm:PySem.W.mroIn K C (.type "object")=some true):ff K H (.ref a) (.ref C)
def Zk (I:Inv X pins U H s) (d:RelV x u) (ty:ff X.K H x t) (e:PySem.W.kitOne X.K t c=k0 b) (h: ∀tk,Q (.bool b) { s with toks:=tk }):
 wpAny (model X.prog X.w) A (call (.builtin "isinstance") [u,c]) Q E s:=by
 cases ty with
 | aj=>cases (show u=Value.none from d);exact Af0 PySem.W.kitx_none I.cn True.intro e (λz=>nomatch z) h
 | bl y=>cases (show u=Value.bool y from d);exact Af0 PySem.W.kitx_bool I.cn True.intro e (λz=>nomatch z) h
 | int i=>obtain⟨t,q⟩:=(show ∃t,u=Value.int i t from d);cases q;exact Af0 PySem.W.kitx_int I.cn True.intro e (λz=>nomatch z) h
 | str y=>obtain⟨t,q⟩:=(show ∃t,u=Value.str y t from d);cases q;exact Af0 PySem.W.kitx_str I.cn True.intro e (λz=>nomatch z) h
 | g7 y=>obtain⟨t,q⟩:=(show ∃t,u=Value.float y t from d);cases q;exact Af0 PySem.W.kitx_float I.cn True.intro e (λz=>nomatch z) h
 | @lst a l f=>
  cases (show u=Value.ref a from d)
  obtain⟨_,_,n,_,g⟩:=(show a0 X.prog X.w H s.heap a (.lst l)from I.a8 a _ f)
  exact Af0 Ao2 I.cn ⟨_,g,rfl⟩ e (λz=>nomatch z) h
 | @ea a B l f=>
  cases (show u=Value.ref a from d)
  obtain⟨_,_,_,n,_,g⟩:=(show a0 X.prog X.w H s.heap a (.ea B _)from I.a8 a _ f)
  exact Af0 Ao2 I.cn ⟨_,g,rfl⟩ e (λz=>nomatch z) h
 | @tup a l f=>
  cases (show u=Value.ref a from d)
  obtain⟨_,_,_,p⟩:=(show a0 X.prog X.w H s.heap a (.tup l)from I.a8 a _ f)
  obtain⟨o,g,k,_⟩:=p
  exact Af0 PySem.W.kitx_tuple I.cn ⟨o,g,k⟩ e (λz=>nomatch z) h
 | @dK a j f=>
  cases (show u=Value.ref a from d)
  obtain⟨_,_,M,_,p⟩:=(show a0 X.prog X.w H s.heap a (.dK j)from I.a8 a _ f)
  obtain⟨o,G,D,g,k,_⟩:=p
  exact Af0 PySem.W.kitx_dict I.cn ⟨o,g,k.1⟩ e (λz=>nomatch z) h
 | @dT a j f=>
  cases (show u=Value.ref a from d)
  obtain⟨_,_,l,_,o,G,D,g,k,_⟩:=(show a0 X.prog X.w H s.heap a (.dT j)from I.a8 a _ f)
  exact Af0 PySem.W.kitx_dict I.cn ⟨o,g,k.1⟩ e (λz=>nomatch z) h
 | @ins a C K fs f r w v m F=>
  cases (show u=Value.ref a from d)
  obtain⟨L,O,_⟩:=WS I.a8 f
  obtain⟨N,J,_⟩:=O.look
  exact Af0 (PySem.W.kitx_own (r.get _) r.hd w v m F) I.cn J e (λz=>nomatch z) h
end
structure a9 (k:Nat) (A:Around):Prop where
 hd:A.handled=y0
 dp:A.depth+k+5<recursionLimit
 un:A.units+16*k+200<cLine
def a9.mono (r:a9 k A) (h:j<=k):a9 j A:=⟨r.hd,by have:=r.dp;lia,by have:=r.un;lia⟩
theorem a9.deeper (r:a9 (k+1) A) (env):a9 k (A.deeper env):=
 ⟨r.hd,by have:=r.dp;show A.depth+1+k+5<_;lia,by have:=r.un;show A.units+3+16*k+200<_;lia⟩
theorem a9.in1 (r:a9 (k+1) A):a9 k A.in1:=
 ⟨r.hd,by have:=r.dp;lia,by have:=r.un;lia⟩
def CB {A:Around}:(A.under (.builtin "type.__call__" ⟨.ref C::us,kw⟩)).depth=A.depth+1:=by
 first | rfl | simp [guardIds]
def Ht {A:Around}:(A.under (.builtin "type.__call__" ⟨.ref C::us,kw⟩)).units=A.units+1:=by
 first | rfl | simp [Code.isFrame]
def a9.make (r:a9 (k+1) A) (C) (us) (kw):a9 k (A.under (.builtin "type.__call__" ⟨.ref C::us,kw⟩)):=
 ⟨r.hd,by have:=r.dp;rw [CB];lia,by have:=r.un;rw [Ht];lia⟩
theorem a9.depth (r:a9 k A):A.depth<recursionLimit:=by have:=r.dp;omega
def lN:TA:=λ_ H Q=>Q [] H
def oV (a:TE) (tr:TA):TA:=λU H Q=>a U H λx H1=>tr U H1 λxs H2=>Q (x::xs) H2
section
variable {X:Cx}{e:Expr}{es:List Expr}{te:TE}{t:TA}{pos:Pos}
def Xs:PA X [] lN:=λ_ _ _ _ H Q I h=>Calls.spliced_nil ⟨[],H,I,.nil,h⟩
def qj (i:PE X e te) (g:PA X es t) (o:starEach (e::es) X.env=(k9,eval e X.env)::starEach es X.env:=by rfl):PA X (e::es) (oV te t):=by
 intro b a s U H Q I h
 rw [o]
 refine Calls.spliced_cons (aQ (i a s U H _ I h) ?_)
 rintro u f ⟨x,q,k,d,c⟩
 exact aQ (g b a f U q _ k c) λr v ⟨p,n,j,l,m⟩=>⟨x::p,n,j,.cons d l,m⟩
def yX (t:TA):TE:=λU H Q=>t U H λxs H1=>xs.length<=sizeLine/\ ∀p,H1 p=y0->Q (.ref p) (aM H1 p (.tup xs))
def Bn (t:TA):TE:=λU H Q=>t U H λxs H1=>xs.length<=sizeLine/\ ∀p,H1 p=y0->Q (.ref p) (aM H1 p (.lst xs))
def B1 {x1}(h:PA X es t):PE X (.Tuple es x1 pos) (yX t):=by
 intro a s U H Q I g
 refine wpAny_Tuple_spliced (aQ (h pos a s U H _ I g) λi c ⟨k,j,d,r,z,q⟩=>⟨by rw [← r.length];exact z,?_⟩)
 have f:=d.a8.fresh (Ab _)
 refine⟨.ref c.heap.objs.size,aM j c.heap.objs.size _,d.laid (λb u e=>Ab3 _ e) (Ab _) ?_,rfl,q _ f⟩
 exact⟨z,i,r,⟨_,Ac6 _ rfl,rfl,rfl,_,rfl⟩⟩
def LS (h:PA X es t):PE X (.List es pos) (Bn t):=by
 intro a s U H Q I g
 refine wpAny_List_spliced (aQ (h pos a s U H _ I g) λi c ⟨k,j,d,r,z,q⟩=>⟨by rw [← r.length];exact z,?_⟩)
 have f:=d.a8.fresh (Ab _)
 refine⟨.ref c.heap.objs.size,aM j c.heap.objs.size _,d.laid (λb u e=>Ab3 _ e) (Ab _) ?_,rfl,q _ f⟩
 exact⟨z,i,0,r,Ac6 _ rfl⟩
end
abbrev Sp:=List V->Hp->VK->XK->Prop
abbrev fY:=List Env->Hp->Shared->XK->Value->Shared->Prop
structure dh (P:Program) (w:World) (K:Aa9) (mg:Str->Option Value) (base:Heap) (A:Around) (outer:List Env) (s:Shared) (H:Hp):Prop where
 frames:A.frames=k0 outer
 mod:Mod K mg base
 bs: ∀b o,base.get? b=k0 o->s.heap.get? b=k0 o/\H b=y0
 g9:base.objs.size<=s.heap.objs.size
 c8:s.heap.FunFrames base outer
 kz: ∀b∈fe outer,H b=y0
 a8:cX P w H s.heap
 bare:AllBare s.gens
def CE (a:List Env) (P:Program) (w:World) (H:Hp) (s:Shared) (Q:VK) (u:Value) (b:Shared):Prop:=
 ∃v H',b.os=s.os/\AllBare b.gens/\Un (fe a) [] H H' s.heap b.heap/\cX P w H' b.heap/\RelV v u/\Q v H'
def CR (c:fY) (a:List Env) (P:Program) (w:World) (H:Hp) (s:Shared) (Q:VK) (E:XK) (r:Result) (b:Shared):Prop:=
 match r with
 | .ok (.ret u)=>CE a P w H s Q u b
 | .ok _=>False
 | .error e=>c a H s E e b
structure QF (P:Program) (w:World) (K:Aa9) (mg:Str->Option Value) (base:Heap) (CX:fY) (k:Nat) (f:Addr) (fd:FuncData) (ps:List Str) (sp:Sp):Prop where
 len: ∀vs H Q E,sp vs H Q E->vs.length=ps.length
 run: ∀(A:Around) (outer:List Env) (s:Shared) (H:Hp) (args:Args) (us:List Value) (vs:List V) (Q:VK) (E:XK),a9 k A->dh P w K mg base A outer s H->BindsTo s fd args (ps.zip us)->Vals vs us->sp vs H Q E →
  codeAny (model P w) A (.call (.ref f) args) (CR CX outer P w H s Q E) s
def dh.make {K:Aa9}(e:dh P w K mg base A outer s H) (C:Addr) (b:List Value) (a:List (Str×Value)):
 dh P w K mg base (A.under (.builtin "type.__call__" ⟨.ref C::b,a⟩)) outer s H:=⟨by first | exact e.frames | (simpa [pushEnvs]using e.frames),e.mod,e.bs,e.g9,e.c8,e.kz,e.a8,e.bare⟩
theorem dh.in1 {K:Aa9}(e:dh P w K mg base A outer s H):
 dh P w K mg base A.in1 outer s H:=⟨e.frames,e.mod,e.bs,e.g9,e.c8,e.kz,e.a8,e.bare⟩
section
variable {X:Cx}{pins:List (Addr×Obj)}{U:St}{H:Hp}{s s':Shared}
def Inv.ir (I:Inv X pins U H s):dh X.prog X.w X.K X.mg X.base X.A X.stack s H:=
 ⟨I.ok.frames,I.ok.mod,I.bs,Ab5 I.ok.g9 I.sz,I.stack,I.eL,I.a8,I.bare⟩
def Inv.after (I:Inv X pins U H s) (h:CE X.stack X.prog X.w H s Q u s'):EP X pins U Q u s':=by
 obtain⟨v,i,f,a,un,c,r,q⟩:=h
 obtain⟨j,g,d,t,e⟩:=s'
 obtain rfl:e=s.os:=f
 exact⟨v,i,I.call un c a (λb z=>absurd z (by simp)),r,q⟩
end
def ye (b:Sp) (a:List V) (E:XK) (t:TA):TE:=λU H Q=>t U H λc H1=>b (c++a) H1 Q E
def B7 (C:Addr) (m:Str) (c:Sp) (b:List V) (E:XK) (d:TE) (t:TA):TE:=λU H Q=>d U H λx H1=> ∃a dx fs,x= .ref a/\H1 a=k0 (.ins C dx fs)/\fs.lookup m=y0 ∧
 t U H1 λe H2=>c (x::(e++b)) H2 Q E
def Cz (C:Addr) (b:Sp) (a:List V) (E:XK) (t:TA):TE:=λU H Q=>t U H λc H1=> ∀x dx,H1 x=y0->H1 dx=y0->dx≠x →
 b (.ref x::(c++a)) (aM (aM H1 dx (.own x)) x (.ins C dx [])) (λv H2=>v= .aj/\Q (.ref x) H2) E
def Binds (K:Aa9) (b:FuncData) (ps:List Str) (ds:List Value):Prop:=
 ∀(s:Shared) (a:List Value),K.In s.heap->(a++ds).length=ps.length->BindsTo s b ⟨a,[]⟩ (ps.zip (a++ds))
def Binds.all {K:Aa9}(h: ∀i:List Value,i.length=ps.length->bindArgs fd ⟨i,[]⟩=pure (ps.zip i)):Binds K fd ps []:=λs i _ a=>by
 rw [Af1]at a ⊢
 exact .of_eq (h i a)
def ZF (a:fY) (X:Cx) (E:XK):Prop:= ∀(pins:List (Addr×Obj)) (U:St) (H:Hp) (s:Shared) (e:Value) (s':Shared),Inv X pins U H s->a X.stack H s E e s'->X.xe e s'
section
variable {X:Cx}{CX:fY}{k:Nat}{f C:Addr}{fd:FuncData}{ps:List Str}{sp:Sp}{dvs:List V}{ds:List Value}{E:XK}{x m:Str}{p pos apos:Pos}{e o:Expr}{es:List Expr}{ta:TE}{t:TA}
def nS (F:QF X.prog X.w X.K X.mg X.base CX k f fd ps sp) (i:a9 k X.A) (c:Binds X.K fd ps ds) (l:Vals dvs ds) (d:ZF CX X E)
 (I:Inv X pins U H s) (r:Vals vs us) (h:sp (vs++dvs) H Q E):wpAny (model X.prog X.w) X.A (call (.ref f) us) (EP X pins U Q) X.xe s:=by
 have b:=r.append l
 have m:(us++ds).length=ps.length:=by rw [← b.length];exact F.len _ _ _ _ h
 refine wpAny_call (codeAny_mono (F.run X.A X.stack s H ⟨us,[]⟩ _ _ Q E i I.ir (c s us I.cn m) b h) λr j a=> ?_)
 cases r with
 | error e=>exact d pins U H s e j I a
 | ok g=>
  cases g with
  | ret u=>exact I.after a
  | next=>exact False.elim a
  | brk=>exact False.elim a
  | cont=>exact False.elim a
def Hx (F:QF X.prog X.w X.K X.mg X.base CX k f fd ps sp) (g:a9 k X.A) (m:Gl X x) (v:X.mg x=k0 (.ref f)) (u:Ah4 X.K (.ref f)=u0) (n:Binds X.K fd ps ds) (i:Vals dvs ds) (o:ZF CX X E)
 (j:PA X (e::es) t) (c:(x==("__debug__" :Str))=false:=by decide) (l:starEach (e::es) X.env=(false,eval e X.env)::starEach es X.env:=by rfl) (b:(backTo pos (starEach es X.env)).any (·.1)=false:=by rfl):
 PE X (.Call (.Name x p) (e::es) [] pos) (ye sp dvs E t):=by
 intro a s U H Q I h
 refine wpAny_Call_Name_kw (XR I m v ?_ c)
 refine An7 I.ok.mod.lx u (aQ (j pos a s U H _ I h) λy w ⟨z,A,d,r,q⟩=>⟨d.cn,?_⟩) l b
 exact nS F g n i o d r q
def AK (F:QF X.prog X.w X.K X.mg X.base CX k f fd ps sp) (e:a9 k X.A) (i:Gl X x) (l:X.mg x=k0 (.ref f)) (j:Ah4 X.K (.ref f)=u0) (c:Binds X.K fd ps ds) (g:Vals dvs ds) (d:ZF CX X E)
 (a:(x==("__debug__" :Str))=false:=by decide):PE X (.Call (.Name x p) [] [] pos) (ye sp dvs E lN):=by
 intro b s U H Q I h
 refine wpAny_Call_Name_kw (XR I i l ?_ a)
 exact PySem.W.callWith_K0 I.cn j (nS F e c g d I .nil h)
def C3 (D:PE X o ta) (c:d3 X.K C) (p:lQ X.K C m f) (F:QF X.prog X.w X.K X.mg X.base CX k f fd ps sp) (y:a9 k X.A) (K:Binds X.K fd ps ds) (z:Vals dvs ds) (M:ZF CX X E) (A:PA X (e::es) t)
 (g:starEach (e::es) X.env=(k9,eval e X.env)::starEach es X.env:=by rfl) (d:(backTo pos (starEach es X.env)).any (·.1)=false:=by rfl)
 (B:eval (.Call (.Attribute o m apos) (e::es) [] pos) X.env=(do
   let L ←eval o X.env
   standAt apos.atName
   let (f,first) ←holding [L] (getMethod L m pl)
   callWith pos f first (backTo pos (starEach (e::es) X.env)) (backToKw pos (keywordEach [] X.env))):=by rfl):
 PE X (.Call (.Attribute o m apos) (e::es) [] pos) (B7 C m sp dvs E ta t):=by
 intro b s U H Q I h
 refine PySem.W.methodCall_KW (aQ (D b s U H _ I h) λu v ⟨x,N,j,w,a,O,fs,ex,G,l,q⟩=> ?_) B
 subst ex
 obtain rfl:u=Value.ref a:=w
 refine Fl j G c p l ?_
 refine An7 I.ok.mod.lx p.kp (aQ (A pos b v U N _ j q) λP R ⟨n,S,i,r,J⟩=>⟨i.cn,?_⟩) g d
 exact nS (vs:= .ref a::n) F y K z M i (.cons rfl r) J
structure Mk (K:Aa9) (C f:Addr):Prop where
 makes:PySem.W.makesIn K C=u0
 init:PySem.W.findIn K (.ref C) "__init__" =some (some (.ref f))
 fn:PySem.W.isFn K (.ref f)=u0
 kp:Ah4 K (.ref C)=u0
def FO (M:Mk X.K C f) (F:QF X.prog X.w X.K X.mg X.base CX k f fd ps sp) (g:a9 (k+1) X.A) (p:Binds X.K fd ps ds) (j:Vals dvs ds)
 (t:ZF CX X E) (I:Inv X pins U H s) (r:Vals vs us)
 (h: ∀x dx,H x=y0->H dx=y0->dx≠x->sp (.ref x::(vs++dvs)) (aM (aM H dx (.own x)) x (.ins C dx [])) (λv H2=>v= .aj/\Q (.ref x) H2) E):
 wpAny (model X.prog X.w) X.A (call (.ref C) us) (EP X pins U Q) X.xe s:=by
 have c:=h _ s.heap.objs.size (I.a8.fresh (Ag6 _)) (I.a8.fresh (Ab _)) (Ac7 (Ag _))
 have b:=Inv.made (C:=C) I
 have d:Vals (V.ref (s.heap.objs.size+1)::(vs++dvs)) _:= .cons rfl (r.append j)
 have l:=by
  have e:=d.length
  rw [F.len _ _ _ _ c]at e
  exact e.symm
 refine wpAny_call (Lu I.cn M.makes M.init (beq_iff_eq.mp M.fn) (codeAny_mono (F.run _ X.stack _ _ ⟨Value.ref _::us,[]⟩ _ _ _ E (g.make C us [])
  (b.ir.make C us []) (p _ _ b.cn l) d c) λr i a=> ?_))
 cases r with
 | error e=>exact t pins U _ _ e i b a
 | ok n=>
  cases n with
  | ret u=>
   obtain⟨v,m,q,rv,w,o⟩:=b.after a
   subst w
   exact⟨rv,⟨V.ref _,m,q,rfl,o⟩⟩
  | next=>exact False.elim a
  | brk=>exact False.elim a
  | cont=>exact False.elim a
def Fp (M:Mk X.K C f) (F:QF X.prog X.w X.K X.mg X.base CX k f fd ps sp) (g:a9 (k+1) X.A) (m:Gl X x) (u:X.mg x=k0 (.ref C)) (n:Binds X.K fd ps ds) (i:Vals dvs ds) (o:ZF CX X E)
 (j:PA X (e::es) t) (c:(x==("__debug__" :Str))=false:=by decide) (l:starEach (e::es) X.env=(false,eval e X.env)::starEach es X.env:=by rfl) (b:(backTo pos (starEach es X.env)).any (·.1)=false:=by rfl):
 PE X (.Call (.Name x p) (e::es) [] pos) (Cz C sp dvs E t):=by
 intro a s U H Q I h
 refine wpAny_Call_Name_kw (XR I m u ?_ c)
 refine An7 I.ok.mod.lx M.kp (aQ (j pos a s U H _ I h) λw v ⟨y,z,d,r,q⟩=>⟨d.cn,?_⟩) l b
 exact FO M F g n i o d r q
end
def PK (X:Cx) (a:List Keyword) (t:TA):Prop:=
 ∀(pos:Pos) (pins:List (Addr×Obj)) (s:Shared) (U:St) (H:Hp) (Q:List V->Hp->Prop),Inv X pins U H s->t U H Q->wpAny (model X.prog X.w) X.A (evalAll ((backToKw pos (keywordEach a X.env)).map (·.2))) (AP X pins U Q) X.xe s
section
variable {X:Cx}{CX:fY}{k:Nat}{f C:Addr}{fd:FuncData}{ps ks:List Str}{sp:Sp}{E:XK}{x m:Str}{p pos apos kpos:Pos}{e o:Expr}{es:List Expr}{kws:List Keyword}{te ta:TE}{t tk:TA}{nm:Option Str}
def Lr:PK X [] lN:=λ_ _ _ _ H Q I h=>wpAny_evalAll_nil ⟨[],H,I,.nil,h⟩
def AL (i:PE X e te) (g:PK X kws t):PK X (⟨nm,e,kpos⟩::kws) (oV te t):=by
 intro b a s U H Q I h
 refine wpAny_evalAll_cons (wpAny_bind (aQ (i a s U H _ I h) λu f ⟨x,p,k,d,c⟩=>wpAny_bind (wpAny_standAt (wpAny_pure ?_))))
 exact aQ (g b a f U p _ k c) λq r ⟨o,n,j,l,m⟩=>⟨x::o,n,j,.cons d l,m⟩
structure Mn (K:Aa9) (fd:FuncData) (ps ks:List Str) (g:List Value->List Value->List Value) (gV:List V->List V->List V):Prop where
 to: ∀(s:Shared) (us ws:List Value),K.In s.heap->(g us ws).length=ps.length->BindsTo s fd ⟨us,ks.zip ws⟩ (ps.zip (g us ws))
 rel: ∀ {vs:List V}{us:List Value}{zs:List V}{ws:List Value},Vals vs us->Vals zs ws->Vals (gV vs zs) (g us ws)
variable {g:List Value->List Value->List Value}{gV:List V->List V->List V}
end
structure QD (N P:List Str) (sc:Scope):Prop where
 kind:sc.kind= .function
 co:sc.isCoroutine=k9
 gen:sc.isGenerator=k9
 nd:N.Nodup
 pre:N.take P.length=P
 par: ∀x∈P,sc.names.lookup x=k0 .local\/sc.names.lookup x=k0 .cell
 iA: ∀y∈sc.names,y.2≠ .free
theorem jW {a:Str->Option NameKind}: ∀ {i}{m},(∀ v,(x,v)∉i)->bindL a i m x=m x
 | [],_,_=>rfl
 | (n,v)::r,m,h=>by
  unfold bindL
  rw [jW λw b=>h w (Aa2 _ b)]
  split
  ·have:x≠n:=by rintro rfl;exact h v Aa4
   simp [this]
  ·rfl
theorem Q2 {a:Str->Option NameKind}: ∀ {i}{m},(∀ v,(x,v)∉i)->bindC a i m x=m x
 | [],_,_=>rfl
 | (n,v)::r,m,h=>by
  unfold bindC
  rw [Q2 λw b=>h w (Aa2 _ b)]
  split
  ·rfl
  ·have:x≠n:=by rintro rfl;exact h v Aa4
   simp [this]
theorem w4 {a:Str->Option NameKind}: ∀ {P:List Str}{vs}{i:Nat}{m},P.Nodup->P[i]? =k0 x->vs[i]? =k0 v->a x=k0 .local →
 bindL a (P.zip vs) m x=k0 v
 | [],_,_,_,_,h,_,_=>by simp at h
 | _::_,[],_,_,_,_,h,_=>by simp at h
 | p::P,w::vs,0,m,d,b,c,e=>by
  simp at b c;subst b;subst c
  show bindL a ((p,w)::P.zip vs) m p=_
  unfold bindL
  rw [jW λv f=>(Ai.mp d).1 (List.of_mem_zip f).1,if_pos e]
  simp
 | p::P,w::vs,i+1,m,d,b,c,e=>by
  unfold bindL
  exact w4 (Ai.mp d).2 (by simpa using b) (by simpa using c) e
theorem QZ {a:Str->Option NameKind}: ∀ {P:List Str}{vs}{i:Nat}{m},P.Nodup->P[i]? =k0 x->vs[i]? =k0 v->a x≠k0 .local →
 bindC a (P.zip vs) m x=k0 v
 | [],_,_,_,_,h,_,_=>by simp at h
 | _::_,[],_,_,_,_,h,_=>by simp at h
 | p::P,w::vs,0,m,d,b,c,e=>by
  simp at b c;subst b;subst c
  show bindC a ((p,w)::P.zip vs) m p=_
  unfold bindC
  rw [Q2 λv f=>(Ai.mp d).1 (List.of_mem_zip f).1,if_neg e]
  simp
 | p::P,w::vs,i+1,m,d,b,c,e=>by
  unfold bindC
  exact QZ (Ai.mp d).2 (by simpa using b) (by simpa using c) e
def start (N:List Str) (vs:List V):St:=vs.map k0++Aa3 (N.length-vs.length) y0
noncomputable def gQ (CX:fY) (P:Program) (w:World) (K:Aa9) (mg:Str->Option Value) (base:Heap) (N:List Str) (y8:Str) (scope:Scope) (f:Addr) (cd:Value) (A:Around) (outer:List Env) (s:Shared) (H:Hp) (E:XK):Cx where
 prog:=P
 w:=w
 K:=K
 mg:=mg
 base:=base
 A:=A.deeper (envOfC y8 scope s.heap.objs.size f cd)
 N:=N
 s₀:=s
 H₀:=H
 env:=envOfC y8 scope s.heap.objs.size f cd
 outer:=outer
 stack:=envOfC y8 scope s.heap.objs.size f cd::outer
 ex:= []
 calm:=u0
 fn:=λ_=>u0
 pn:= []
 xe:=λe s'=>wpAny (model P w) (A.deeper (envOfC y8 scope s.heap.objs.size f cd)) (leaving (envOfC y8 scope s.heap.objs.size f cd) e) (λ_ s''=>CX outer H s E e s'') (λe' s''=>CX outer H s E e' s'') s'
def uX {a:Scope}(h:a.names.lookup x=k0 .cell): ∃c,(cellsFrom n a.names []).lookup x=k0 c:=by
 have q:=Am4 a.names n [] (.inl h)
 exact Ah9.mp q
def K7 {K:Aa9}
 (S:QD N ps scope) (hd:A.handled=y0) (e0:dh P w K mg base A outer s H) (hl:vs.length=ps.length) (r:Vals vs us)
 (x:InCallC s s.heap.objs.size (bindL (envOfC y8 scope s.heap.objs.size f cd).kindOf (ps.zip us) λ_=>y0) (cellsFrom (s.heap.objs.size+1) scope.names []) (bindC (envOfC y8 scope s.heap.objs.size f cd).kindOf (ps.zip us) λ_=>y0) s1):
 Inv (gQ CX P w K mg base N y8 scope f cd A outer s H E) [] (start N vs) H s1:=by
 have hpl:ps.length<=N.length:=by have:=congrArg List.length S.pre;rw [Af6]at this;lia
 obtain⟨h1,tk,rfl,hk⟩:=x.done
 have noA: ∀b:Addr,b∉(gQ CX P w K mg base N y8 scope f cd A outer s H E).ex:=λb z=>absurd (show b∈([]:List Addr)from z) (by simp)
 refine⟨⟨e0.mod,S.kind,rfl,rfl,Ab _,λy z c h1 h2=> ?_,λy hy=> ?_,λy c _ h=> ?_,λ_=>hd,Around.frames_deeper e0.frames,.inr ⟨rfl,rfl⟩,λb z=>absurd z (noA b),e0.bs,e0.g9,λb _ _=>noA b,λb z=>absurd z (noA b),e0.c8,e0.kz⟩,
  rfl,e0.bare,Un.kept hk,⟨_,x.toInCall.ns,λi y v h1 h2 h3=> ?_⟩,λy c h=>⟨_,x.cell y c h⟩,e0.a8.fresh (Ab _),λy c h=> ?_,λp hp=>absurd (show p∈([]:List _)from hp) (by simp),e0.a8.kept hk,?_⟩
 ·exact name_of_addr x.apart (PySem.mem_of_lookup h1) (PySem.mem_of_lookup h2)
 ·have hy:scope.names.lookup y=k0 .cell\/scope.names.lookup y=k0 .free:=hy
  obtain hy | hy:=hy
  ·exact uX hy
  ·exact absurd rfl (S.iA _ (PySem.mem_of_lookup hy))
 ·exact Ag3 (x.above y c (PySem.mem_of_lookup h))
 ·have hi:i<vs.length:=by
   unfold start at h2
   by_cases hi:i<vs.length
   ·exact hi
   ·rw [Ad9 (by simpa using hi)]at h2
    rw [Ai2]at h2
    split at h2<;>cases h2
  have ha:vs[i]? =k0 v:=by
   unfold start at h2
   rw [Ad2 (by simpa using hi),Ac2]at h2
   cases e:vs[i]? with
   | none=>rw [e]at h2;cases h2
   | some a=>rw [e]at h2;cases h2;rfl
  obtain⟨u,hu,rv⟩:=r.get ha
  have hp:ps[i]? =k0 y:=by
   rw [← S.pre,Am3 (by lia)];exact h1
  have ndP:ps.Nodup:=by rw [← S.pre];exact S.nd.sublist (List.take_sublist _ _)
  refine⟨u,rv,?_⟩
  rcases S.par y (Ac4 hp)with k | k
  ·exact .inl ⟨k,w4 ndP hp hu k⟩
  ·obtain⟨c,e⟩:=uX (n:=s.heap.objs.size+1) k
   refine .inr ⟨.inl k,c,e,?_⟩
   have q:=x.cell y c e
   rw [QZ ndP hp hu (by show scope.names.lookup y≠_;rw [k];decide)]at q
   exact q
 ·exact e0.a8.fresh (Ag3 (x.above y c (PySem.mem_of_lookup h)))
 ·unfold start
  show _=N.length
  rw [Aa5,Aa,Ad3]
  lia
def H9 {K:Aa9}{dV kV doc pm cdv ct oc:Value}
 (lk:K.lookup f=k0 ⟨oc,od,.func (PySem.W.fnOf name y8 params body scope dV kV doc pm an cdv ct),osl⟩) (hcd:PySem.W.codeIn K cdv y8=u0) (S:QD N ps scope)
 (len: ∀vs H Q E,sp vs H Q E->vs.length=ps.length)
 (hbody: ∀ A outer s H vs Q E,a9 k (A.deeper (envOfC y8 scope s.heap.objs.size f cdv))->sp vs H Q E →
   ∃t,dc (gQ CX P w K mg base N y8 scope f cdv A outer s H E) body t/\t { nx:=λ_ H'=>Q .aj H',rt:=Q } (start N vs) H):
 QF P w K mg base CX (k+1) f (PySem.W.fnOf name y8 params body scope dV kV doc pm an cdv ct) ps sp:=by
 refine⟨len,λA outer s H args us vs Q E hr e0 hb r hsp=> ?_⟩
 have hl:=len _ _ _ _ hsp
 have KX:=e0.mod.lx.keeps λb o e=>(e0.bs b o e).1
 have lim:=e0.mod.nolimit.keeps λb o e=>(e0.bs b o e).1
 have hkind: ∀y∈ps.zip us,scope.names.lookup y.1=k0 .local\/(scope.names.lookup y.1=k0 .cell/\((cellsFrom (s.heap.objs.size+1) scope.names []).lookup y.1).isSome=u0):=by
  rintro ⟨n,v⟩ hy
  obtain q | q:=S.par n (List.of_mem_zip hy).1
  ·exact .inl q
  ·exact .inr ⟨q,Am4 _ _ _ (.inl q)⟩
 refine codeAny_call_function hr.depth (KX _ _ lk) rfl S.co S.gen rfl (PySem.W.codeRec_of KX hcd) (hb _ _ _ _ ?_)
 refine wpAny_newFunctionEnv_cells S.kind hkind λenv he s1 x=> ?_
 subst he
 refine⟨lim.keeps x.toInCall.keep,codeAny_func ?_⟩
 obtain⟨t,ht,hq⟩:=hbody A outer s H vs Q E (hr.deeper _) hsp
 have I:Inv (gQ CX P w K mg base N y8 scope f cdv A outer s H E) [] _ H s1:=K7 S hr.hd e0 hl r x
 refine wpAny_mono (ht [] s1 _ H _ I hq) (λfl s' hs=> ?_) λe s' hs=>hs
 have fin: ∀ {U'}{H'}{v}{u},Inv (gQ CX P w K mg base N y8 scope f cdv A outer s H E) [] U' H' s'->RelV v u->Q v H'->CE outer P w H s Q u s':=
  λ{U' H' v u} J rv q=>⟨v,H',J.os,J.bare,J.base,J.a8,rv,q⟩
 cases fl with
 | ret u=>
  obtain⟨v,U',H',J,rv,q⟩:=hs
  exact fin J rv q
 | next=>
  obtain⟨U',H',J,q⟩:=hs
  exact fin (v:=V.aj) J rfl q
 | brk=>
  obtain⟨_,_,_,q⟩:=hs
  exact False.elim q
 | cont=>
  obtain⟨_,_,_,q⟩:=hs
  exact False.elim q
section
variable {X:Cx}{x:Str}{p pos:Pos}{e:Expr}{es:List Expr}{t:TA}{id T:String}{r:List V->Hp->VK->Prop}
def n9 (r:List V->Hp->VK->Prop) (t:TA):TE:=λU H Q=>t U H λa H1=>r a H1 Q
def Jo (l:zu X (.builtin id) r) (u:Gl X x) (w:X.mg x=none) (q:bootBuiltins x=some (.builtin id)) (k:PA X (e::es) t) (g:x≠ "__name__" :=by decide) (c:(x==("__debug__" :Str))=false:=by decide)
 (n:starEach (e::es) X.env=(k9,eval e X.env)::starEach es X.env:=by rfl) (b:(backTo pos (starEach es X.env)).any (·.1)=false:=by rfl):PE X (.Call (.Name x p) (e::es) [] pos) (n9 r t):=by
 intro a s U H Q I h
 refine wpAny_Call_Name_kw (XE I u w q ?_ g c)
 exact PyProof.Rows.callWith_builtin1 (aQ (k pos a s U H _ I h) λj i ⟨o,v,m,f,d⟩=>l a i U v o j Q m f d) n b
def qx (l:zu X (.type T) r) (u:Gl X x) (w:X.mg x=none) (q:bootBuiltins x=some (.type T)) (k:PA X (e::es) t) (g:x≠ "__name__" :=by decide) (c:(x==("__debug__" :Str))=false:=by decide)
 (n:starEach (e::es) X.env=(k9,eval e X.env)::starEach es X.env:=by rfl) (b:(backTo pos (starEach es X.env)).any (·.1)=false:=by rfl):PE X (.Call (.Name x p) (e::es) [] pos) (n9 r t):=by
 intro a s U H Q I h
 refine wpAny_Call_Name_kw (XE I u w q ?_ g c)
 exact PyProof.Rows.callWith_type1 (aQ (k pos a s U H _ I h) λj i ⟨o,v,m,f,d⟩=>l a i U v o j Q m f d) n b
end
end L2
namespace HT
open PySem PyProof.Rows
section
variable {prog:Program}{w:World}{A:Around}{E:Value->Shared->Prop}{s:Shared}
def gI (v:IsTup s.heap t vs.toArray) (y:IsTup s.heap b ws.toArray) (p:vs≠ [])
 (h1:ws= []->Q (.ref t) s) (q:ws≠ []->Q (.ref s.heap.objs.size) { s with heap:=s.heap.push { cls:= .type "tuple",data:= .seq (vs++ws).toArray } })
 (x:vs.length+ws.length<=sizeLine):wpAny (model prog w) A (binaryOp .Add (.ref t) (.ref b)) Q E s:=by
 obtain⟨⟨j,dd,i,sl⟩,f,u,n,r⟩:=id v
 obtain⟨⟨o,d,l,c⟩,a,g,m,k⟩:=id y
 subst u r g k
 have e:vs.toArray++ws.toArray=(vs++ws).toArray:=by simp
 by_cases h:ws= []
 ·exact concat_meets ⟨_,f,rfl⟩ ⟨_,a,rfl⟩ noFill_tuple_add seq_tuple_add PySem.F.slot_tuple_add PySem.F.entry_tuple_add (PySem.F.args_tuple_add_2 _ _)
   (tuple_addW1 t b vs.toArray ws.toArray n m dd d sl c (by simpa using p) (by simp [h])) ⟨f,a,h1 h⟩
 ·refine concat_meets ⟨_,f,rfl⟩ ⟨_,a,rfl⟩ noFill_tuple_add seq_tuple_add PySem.F.slot_tuple_add PySem.F.entry_tuple_add (PySem.F.args_tuple_add_2 _ _)
   (tuple_addW2 t b vs.toArray ws.toArray n m dd d sl c (by simpa using p) (by simp_all) (by simp_all)) ⟨f,a,?_⟩
  rw [e]
  exact q h
def aY (n d:Nat):Option Int->Nat
 | none=>d
 | some v=>if v<0 then(v+(n:Int)).toNat else min v.toNat n
def FI (n d) (b:d<=n) (o):aY n d o<=n:=by
 cases o with
 | none=>exact b
 | some v=>
  show(if v<0 then(v+ n).toNat else min v.toNat n)<=n
  by_cases a:v<0
  ·rw [if_pos a];lia
  ·rw [if_neg a];exact Nat.min_le_right _ _
def vQ (v) (n d:Nat):(if v<0 then max (v+(n:Int)) 0 else min v (n:Int))=((aY n d (k0 v):Nat):Int):=by
 show(if v<0 then max _ 0 else min v n)=(((if v<0 then(v+(n:Int)).toNat else min v.toNat n)))
 by_cases a:v<0
 ·simp only [if_pos a];lia
 ·simp [if_neg a];lia
def DP (b a) (n:Nat):Builtin.Slice.sliceAdjust b a 1 (n:Int)=(((aY n 0 b:Nat):Int),((aY n n a:Nat):Int)):=by
 have c: ¬(1<0):=by lia
 refine Prod.ext ?_ ?_
 ·cases b with
  | none=>rfl
  | some v=>exact vQ v n 0
 ·cases a with
  | none=>rfl
  | some v=>exact vQ v n n
def LU (i j:Nat):Builtin.Slice.slicePlaces (i:Int) (j:Int) 1=j-i:=by
 unfold Builtin.Slice.slicePlaces
 have a: 1>0:=by lia
 simp [Int.ediv_one]
 split<;>lia
def XM (p:IsPart v o) (h:Q o s):wpAny (model prog w) A (Builtin.Slice.slicePartIndex v) Q E s:=by
 cases p with
 | none=>exact slicePart_none h
 | int i t=>exact slicePart_int h
def bL {a d:Option Int}{Q:Int×Int×Nat->Shared->Prop}(e:s.heap.IsSliceOf sl vl vu .none) (pl:IsPart vl a) (g:IsPart vu d)
 (h:Q (((aY n 0 a:Nat):Int),1,aY n n d-aY n 0 a) s):wpAny (model prog w) A (Builtin.Slice.sliceApplied (.ref sl) (pure (n:Int))) Q E s:=by
 obtain⟨i,c,f,b⟩:=id e
 refine wpAny_bind (wpAny_bind (wpAny_field c b (x:=vl) rfl (wpAny_bind (wpAny_field c b (x:=vu) rfl (wpAny_bind (wpAny_field c b rfl (wpAny_pure ?_)))))))
 refine wpAny_bind (slicePart_none ?_)
 refine wpAny_bind (XM pl (wpAny_bind (XM g (wpAny_bind (wpAny_pure ?_)))))
 show wpAny _ _ (match Builtin.Slice.sliceAdjust a d 1 (n:Int)with | (a,d)=>pure (a,(1:Int),Builtin.Slice.slicePlaces a d 1)) _ _ s
 rw [DP a d n]
 show wpAny _ _ (pure _) _ _ s
 rw [LU]
 exact wpAny_pure h
def HD (xs:Array Value) (i k:Nat):((Aa8 k).filterMap λ(m:Nat)=>xs[((i:Int)+(m:Int)*1).toNat]?).toArray=((xs.toList.drop i).take k).toArray:=by
 have e:(λ(m:Nat)=>xs[(i+(m:Int)*1).toNat]?)=λm=>xs[i+m]? :=by
  funext m
  have:(i+(m:Int)*1).toNat=i+m:=by lia
  rw [this]
 rw [e]
 have:=pick_run xs i k
 rw [List.filterMap_map]at this
 have e2:((λx=>xs[x]?)∘λx=>i+x)=λm=>xs[i+m]? :=rfl
 rw [e2]at this
 rw [this]
def cI {a c:Option Int}(d:IsTup s.heap t k8) (j:s.heap.IsSliceOf sl vl vu .none) (pl:IsPart vl a) (m:IsPart vu c)
 (l: ¬(aY k8.size 0 a=0/\aY k8.size k8.size c=k8.size))
 (h:Q (.ref s.heap.objs.size) { s with heap:=s.heap.push { cls:= .type "tuple",data:= .seq ((k8.toList.drop (aY k8.size 0 a)).take (aY k8.size k8.size c-aY k8.size 0 a)).toArray } })
 (o:k8.size<=sizeLine):wpAny (model prog w) A (getItem (.ref t) (.ref sl)) Q E s:=by
 have b:=by
  show((k8.toList.drop (aY k8.size 0 a)).take (aY k8.size k8.size c-aY k8.size 0 a)).toArray.size<=sizeLine
  rw [Ac0,Af6,Af7,Ai0]
  omega
 have u:aY k8.size k8.size c<=k8.size:=FI _ _ (Ab _) c
 obtain⟨n,i,f,k⟩:=id j
 have e:s.TypeIs (.ref sl) "slice" :=⟨n,i,f⟩
 unfold getItem
 try with_reducible refine wpAny_holding ?_
 refine wpAny_bind (wpAny_sequenceKey d.typeIs rfl ?_)
 refine wpAny_bind (wpAny_callSpecial?_slot d.typeIs PyProof.Rows.slot_tuple_getitem
  (wpAny_call_entry PyProof.Rows.slot_tuple_getitem d.typeIs entry_tuple_getitem ?_ (args_tuple_getitem _ _)))
 show wpAny _ _ (Builtin.Tuple.tupleItemsOf _ >>= _) _ _ s
 refine wpAny_bind (tupleItemsOf_ d ?_)
 refine wpAny_bind (wpAny_typeOf e ?_)
 refine wpAny_bind (bL j pl m ?_)
 have g: ¬((((aY k8.size 0 a:Nat):Int)==0&&(1:Int)==1&&(aY k8.size k8.size c-aY k8.size 0 a)==k8.size)=u0):=by
  intro q
  rw [Aa0,Aa0]at q
  have p:=eq_of_beq q.1.1
  have r:=eq_of_beq q.2
  exact l ⟨by lia,by omega⟩
 show wpAny _ _ (if _=u0 then _ else _) _ _ s
 rw [if_neg g,HD]
 first
  | exact wpAny_bind _
  | exact wpAny_bind (wpAny_newObj_type (wpAny_bind (wpAny_pure (wpAny_pure ⟨_,rfl,wpAny_pure h⟩))) b)
  | exact wpAny_bind _
  | exact wpAny_bind _
end
end HT
namespace L2
open PySem PySem.Spec PyProof.Rows
abbrev TO:=St->Hp->(Option Int->Hp->Prop)->Prop
def PO (X:Cx) (e:Option Expr) (t:TO):Prop:=
 ∀(pins:List (Addr×Obj)) (s:Shared) (U:St) (H:Hp) (Q:Option Int->Hp->Prop),Inv X pins U H s->t U H Q →
  wpAny (model X.prog X.w) X.A (evalPart e X.env) (λu s'=> ∃o H',Inv X pins U H' s'/\IsPart u o/\Q o H') X.xe s
def HE:TO:=λ_ H Q=>Q y0 H
def F3 (t:TE):TO:=λU H Q=>t U H λx H1=> ∃i,x= .int i/\Q (k0 i) H1
section
variable {X:Cx}{e:Expr}{te:TE}{lo hi:Option Expr}{tl th:TO}{pos p2:Pos}
def yb:PO X y0 HE:=by
 intro a s U H Q I h
 exact wpAny_pure ⟨y0,H,I,.none,h⟩
def XT (h:PE X e te):PO X (k0 e) (F3 te):=by
 intro a s U H Q I d
 refine aQ (h a s U H _ I d) ?_
 rintro u j ⟨x,g,f,c,b⟩
 obtain⟨i,rfl,q⟩:=b
 obtain⟨t,rfl⟩:=c
 exact⟨k0 i,g,f,.int i t,q⟩
def gg (X:Cx) (r:V->Option Int->Option Int->Hp->VK->Prop):Prop:=
 ∀(pins:List (Addr×Obj)) (s:Shared) (U:St) (H:Hp) (x:V) (v b a:Value) (lo hi:Option Int) (sl:Addr) (Q:VK),Inv X pins U H s->RelV x v->s.heap.IsSliceOf sl b a .none->IsPart b lo->IsPart a hi->r x lo hi H Q →
  ∃T id,typeLookup (.type T) "__getitem__" =pure (some (.builtin id))/\s.TypeIs v T/\wpAny (model X.prog X.w) X.A (getItem v (.ref sl)) (EP X pins U Q) X.xe s
def gg.or (h:gg X r) (h':gg X r'):gg X (λx lo hi H Q=>r x lo hi H Q\/r' x lo hi H Q):=by
 intro a s U H x v e c lo hi sl Q I b f pl d q
 obtain q | q:=q
 ·exact h a s U H x v e c lo hi sl Q I b f pl d q
 ·exact h' a s U H x v e c lo hi sl Q I b f pl d q
def BG (r:V->Option Int->Option Int->Hp->VK->Prop) (b:TE) (c d:TO):TE:=λU H Q=>b U H λx H1=>c U H1 λl H2=>d U H2 λu a=>r x l u a Q
def ZR (m:gg X r) (A:PE X e te) (n:PO X lo tl) (E:PO X hi th):PE X (.Subscript e (.Slice lo hi y0 p2) pos) (BG r te tl th):=by
 intro a s U H Q I h
 refine Subscript_ (aQ (A a s U H _ I h) ?_)
 rintro v k ⟨x,K,y,j,i⟩
 refine wpAny_Slice (aQ (n a k U K _ y i) λf C ⟨l,G,p,pl,D⟩=>aQ (E a C U G _ p D) ?_)
 rintro d c ⟨u,g,J,w,B⟩
 refine wpAny_pure ?_
 have o:Inv X a U g { c with heap:=c.heap.push { cls:= .type "slice",data:= .fields #[f,d,.none] } }:=J.kept fun b L q=>Heap.get?_push_of_some _ q
 obtain⟨T,id,t,z,F⟩:=m a { c with heap:=c.heap.push { cls:= .type "slice",data:= .fields #[f,d,.none] } } U g x v f d l u c.heap.objs.size Q o j (Heap.IsSliceOf.new ..) pl w B
 exact tail_any z t F (by with_unfolding_all rfl)
noncomputable def kG (xs:List V) (a b:Option Int):List V:=(xs.drop (HT.aY xs.length 0 a)).take (HT.aY xs.length xs.length b-HT.aY xs.length 0 a)
def jL (xs) (lo hi):(kG xs lo hi).length<=xs.length:=by
 unfold kG
 rw [Af6,Af7]
 lia
def oD (K:Aa9):V->Option Int->Option Int->Hp->VK->Prop:=λx lo hi H Q=> ∃a xs,x= .ref a/\cJ K H a xs ∧
 ¬(HT.aY xs.length 0 lo=0/\HT.aY xs.length xs.length hi=xs.length)/\ ∀p,H p=y0->Q (.ref p) (aM H p (.tup (kG xs lo hi)))
def yL:gg X (oD X.K):=by
 intro g s U H x v w t j o sl Q I k n pl m h
 obtain⟨a,i,rfl,p,l,q⟩:=h
 cases k
 obtain⟨d,r,e,f⟩:=I.tuple p
 have c:d.toArray.size=i.length:=by rw [Ac0];exact r.length.symm
 refine⟨"tuple",_,PyProof.Rows.slot_tuple_getitem.lookup,e.typeIs,?_⟩
 refine HT.cI e n pl m (by rw [c];exact l) ?_ (by rw [c];exact f)
 rw [c]
 refine⟨.ref s.heap.objs.size,_,I.laid (λb u q=>Ab3 _ q) (Ab _) ?_,rfl,q _ (I.a8.fresh (Ab _))⟩
 exact⟨Ab5 (jL i j o) f,_,(r.drop _).take _,dj.new _ _⟩
def Ci (K:Aa9):R2:=λx y H Q=> ∃a b xs ys,x= .ref a/\y= .ref b/\cJ K H a xs/\cJ K H b ys/\xs≠ []/\xs.length+ys.length<=sizeLine ∧
 (ys= []->Q (.ref a) H)/\(ys≠ []-> ∀p,H p=y0->Q (.ref p) (aM H p (.tup (xs++ys))))
def Vals.dt (r:Vals xs us):us= []↔xs= []:=by
 cases r with
 | nil=>simp
 | cons _ _=>simp
def Dw:bG X (binaryOp .Add) (Ci X.K):=by
 intro f s U H x y v u Q I j l h
 obtain⟨a,b,C,A,rfl,rfl,k,n,p,e,i,m⟩:=h
 cases j
 cases l
 obtain⟨r,d,o,_⟩:=I.tuple k
 obtain⟨g,c,t,_⟩:=I.tuple n
 refine HT.gI o t (λz=>p (d.dt.mp z)) (λz=>⟨.ref a,H,I,rfl,i (c.dt.mp z)⟩) (λz=> ?_) (by rw [← d.length,←c.length];exact e)
 refine⟨.ref s.heap.objs.size,_,I.laid (λb B q=>Ab3 _ q) (Ab _) ?_,rfl,m (λw=>z (c.dt.mpr w)) _ (I.a8.fresh (Ab _))⟩
 exact⟨by rw [Aa5];exact e,_,d.append c,dj.new _ _⟩
end
noncomputable def dv (n:Nat) (i:Int):Option Nat:=if 0<=i then(if i<n then k0 i.toNat else y0)else if -(n:Int)<=i then k0 (i+n).toNat else y0
def aU {a:Type}(xs:List a) (i:Int):Option a:=(dv xs.length i).bind λj=>xs[j]?
def vK (h:dv n i=k0 j):seqIndex? i n=k0 j/\j<n/\ -(n:Int)<=i/\i<n:=by
 unfold dv at h
 by_cases b:0<=i
 ·rw [if_pos b]at h
  by_cases a:i<n
  ·rw [if_pos a]at h
   have e:=Ad5.inj h
   exact⟨by rw [seqIndex_of b a,e],by lia,by lia,a⟩
  ·rw [if_neg a]at h;cases h
 ·rw [if_neg b]at h
  by_cases a: - n<=i
  ·rw [if_pos a]at h
   have e:=Ad5.inj h
   exact⟨by rw [seqIndex_neg (by lia) a,e],by lia,a,by lia⟩
  ·rw [if_neg a]at h;cases h
def oe (h:aU xs i=k0 v): ∃j,seqIndex? i xs.length=k0 j/\xs[j]? =k0 v/\j<xs.length/\ -(xs.length:Int)<=i/\i<xs.length:=by
 unfold aU at h
 cases e:dv xs.length i with
 | none=>rw [e]at h;cases h
 | some j=>
  rw [e]at h
  obtain⟨a,b,d,c⟩:=vK e
  exact⟨j,a,h,b,d,c⟩
def jg {j:Nat}(h:xs[j]? =k0 v):aU xs (j:Int)=k0 v:=by
 have a:=(Aa1.mp h).1
 have e:dv xs.length j=k0 j:=by
  unfold dv
  rw [if_pos (by lia),if_pos (by lia)];simp
 unfold aU;rw [e];exact h
def pS (b:Expr):Prop:= ∀o i,subscripted b k9 o i=operate [o,i] (getItem o i)
def gj (X:Cx) (r:R2):Prop:=
 ∀(value a:Expr) (pins:List (Addr×Obj)) (s:Shared) (U:St) (H:Hp) (x y:V) (v u:Value) (Q:VK),Inv X pins U H s->RelV x v->RelV y u->r x y H Q →
  subscripted a k9 v u=operate [v,u] (getItem v u)->wpAny (model X.prog X.w) X.A (subscriptTail value a v u) (EP X pins U Q) X.xe s
def nN (X:Cx) (id:String) (r:V->List V->Hp->VK->Prop):Prop:=
 ∀(pins:List (Addr×Obj)) (s:Shared) (U:St) (H:Hp) (x:V) (xs:List V) (v:Value) (a:List Value) (Q:VK),Inv X pins U H s->RelV x v->Vals xs a->r x xs H Q →
  wpAny (model X.prog X.w) X.A (call (.builtin id) (v::a)) (EP X pins U Q) X.xe s
section
variable {X:Cx}{a b:Expr}{ta tb:TE}{pos:Pos}
def gj.or (h:gj X r) (h':gj X r'):gj X (λx y H Q=>r x y H Q\/r' x y H Q):=by
 intro b a c s U H x y v u Q I f d q e
 obtain q | q:=q
 ·exact h b a c s U H x y v u Q I f d q e
 ·exact h' b a c s U H x y v u Q I f d q e
def oU (e:gj X r) (f:PE X a ta) (l:PE X b tb) (m:pS b):PE X (.Subscript a b pos) (k5 r ta tb):=by
 intro c s U H Q I h
 exact Subscript_ (nM f l I h λv u j x y k g d i q=>e a b c j U k x y v u Q g d i q (m _ _))
def vg (K:Aa9):R2:=λx y H Q=> ∃p xs i v,x= .ref p/\y= .int i/\br K H p xs/\aU xs i=k0 v/\Q v H
def uG (K:Aa9):R2:=λx y H Q=> ∃p xs i v,x= .ref p/\y= .int i/\cJ K H p xs/\aU xs i=k0 v/\Q v H
def uD:R2:=λx y H Q=> ∃z i c,x= .str z/\y= .int i/\z.length<=sizeLine/\aU z.cps.toList i=k0 c/\Q (.str ⟨#[c]⟩) H
def gK:gj X (vg X.K):=by
 intro g c a s U H x y v u Q I n C h k
 obtain⟨p,K,i,z,rfl,rfl,A,B,q⟩:=h
 cases n
 obtain⟨t,rfl⟩:=C
 obtain⟨f,r,pl,J⟩:=I.list A
 obtain⟨j,b,m,G,E,D⟩:=oe B
 obtain⟨w,ew,d⟩:=r.get m
 have o:=r.length
 have F:=ZL
 have fin:EP X a U Q w s:=⟨z,H,I,d,q⟩
 by_cases l:0<=i
 ·have e:=by
   rw [seqIndex_of l D]at b
   exact Ad5.inj b
  exact item_listR pl.isList l (by lia) (by rw [e];simpa using ew) fin k
 ·have e:(i+ f.toArray.size).toNat=j:=by
   rw [seqIndex_neg (by lia) E]at b
   rw [Ac0,←o]
   exact Ad5.inj b
  exact subscriptTail_builtinR pl.isList.typeIs slot_list_getitem.lookup
   (wpAny_getItem_list_neg pl.isList (by lia) (by simp_all) (by lia) (by rw [e];simpa using ew) ⟨rfl,fin⟩) k
def aa:gj X (uG X.K):=by
 intro d b a s U H x y v u Q I f m h o
 obtain⟨p,G,i,z,rfl,rfl,k,l,q⟩:=h
 cases f
 obtain⟨t,rfl⟩:=m
 obtain⟨A,r,pl,D⟩:=I.tuple k
 obtain⟨j,n,e,C,F,E⟩:=oe l
 obtain⟨w,ew,c⟩:=r.get e
 have g:=r.length
 have B:=ZL
 have fin:EP X a U Q w s:=⟨z,H,I,c,q⟩
 exact subscriptTail_builtinR pl.typeIs slot_tuple_getitem.lookup
  (getItem_tuple pl (by lia) (by lia) (by rw [Ac0,←g];exact n) (by simpa using ew) ⟨rfl,fin⟩) o
def oa:gj X uD:=by
 intro b a d s U H x y v u Q I g m h o
 obtain⟨z,i,c,rfl,rfl,A,l,q⟩:=h
 obtain⟨t,rfl⟩:=g
 obtain⟨B,rfl⟩:=m
 obtain⟨j,e,f,w,p,n⟩:=oe l
 have k:z.cps.toList.length=z.length:=by simp [Str.length]
 rw [k]at e p n
 have r:=ZL
 exact tail_any (typeIs_str s z t) slot_str_getitem.lookup (getItem_str (by
  have e1:y9 (i< -(2 ^ 63:Int))=false:=decide_eq_false (by lia)
  have e2:y9 (i>=2 ^ 63)=false:=decide_eq_false (by lia)
  rw [e1,e2,Bool.or_false]) (by rw [e];simpa using f) ⟨.str ⟨#[c]⟩,H,I.tok _,⟨_,rfl⟩,q⟩) o
def De (K:Aa9):R2:=λx y H Q=>vg K x y H Q\/uG K x y H Q\/uD x y H Q
def DL:gj X (De X.K):=gK.or (aa.or oa)
def CK (a:List Value) (n j) (u):Obj.mapSeq (·.setIfInBounds j u) { cls:= .type "list",data:= .seq a.toArray n }= { cls:= .type "list",data:= .seq (a.set j u).toArray n }:=by
 simp [Obj.mapSeq]
theorem Inv.lst (I:Inv X pins U H s) (h:H p=k0 (.lst xs)):
 ∃ i n,Vals xs i/\s.heap.get? p=k0 { cls:= .type "list",data:= .seq i.toArray n }/\xs.length<=sizeLine:=by
 obtain⟨z,i,n,r,e⟩:=I.a8 p _ h
 exact⟨i,n,r,e,z⟩
def Inv.hS {c a:List Value}(I:Inv X pins U H s) (h:H p=k0 (.lst xs))
 (i:s.heap.get? p=k0 { cls:= .type "list",data:= .seq c.toArray n }) (d:f { cls:= .type "list",data:= .seq c.toArray n }= { cls:= .type "list",data:= .seq a.toArray n' }) (r:Vals ys a) (j:ys.length<=sizeLine) (t):
 Inv X pins U (aM H p (.lst ys)) { s with heap:=s.heap.update p f,toks:=t }:=by
 have e:(s.heap.update p f).get? p=k0 { cls:= .type "list",data:= .seq a.toArray n' }:=by
  rw [Heap.get?_update_self f i (by rw [d]<;>rfl),d]
 refine I.write (by rw [h];trivial) (.inl rfl) (λb u g q=>(Am8 _ _ (Ne.symm g)).trans q) ⟨_,e⟩ ?_
 exact⟨j,a,n',r,e⟩
def yR:V->V->V->Hp->(Hp->Prop)->Prop:=λo i v H Q=> ∃p xs k j,o= .ref p/\i= .int k/\H p=k0 (.lst xs)/\dv xs.length k=k0 j/\Q (aM H p (.lst (xs.set j v)))
def zR:oj X yR:=by
 intro g s U H o i v F D u Q I z y rv h
 obtain⟨p,G,k,j,rfl,rfl,e,x,q⟩:=h
 cases z
 obtain⟨t,rfl⟩:=y
 obtain⟨a,n,r,c,E⟩:=I.lst e
 obtain⟨b,B,w,A⟩:=vK x
 have m:=r.length
 have C:=ZL
 have f:=
  I.hS e c (CK a n j u) (r.set rv j) (by simp_all) s.toks
 by_cases l:0<=k
 ·have d:=by
   rw [seqIndex_of l A]at b
   exact Ad5.inj b
  exact PySem.W.ki_setAt c l (by lia) (by simp_all) (by rw [d];exact⟨_,f,q⟩)
 ·have d:(k+ a.toArray.size).toNat=j:=by
   rw [seqIndex_neg (by lia) w]at b
   rw [Ac0,←m]
   exact Ad5.inj b
  exact PySem.W.ki_setBack c (by lia) (by simp_all) (by lia) (by rw [d];exact⟨_,f,q⟩)
def ZX (lo hi) (n):(sliceBounds lo hi y0 n).1=((HT.aY n 0 lo:Nat):Int)/\(sliceBounds lo hi y0 n).2.1=((HT.aY n n hi:Nat):Int)/\(sliceBounds lo hi y0 n).2.2=1:=by
 refine⟨?_,?_,rfl⟩
 ·cases lo with
  | none=>simp [sliceBounds,HT.aY]
  | some i=>
   simp [sliceBounds,HT.aY,if_true]
   by_cases h:i<0
   ·simp [h,if_true]<;>lia
   ·simp [h,if_false]<;>lia
 ·cases hi with
  | none=>simp [sliceBounds,HT.aY]
  | some i=>
   simp [sliceBounds,HT.aY,if_true]
   by_cases h:i<0
   ·simp [h,if_true]<;>lia
   ·simp [h,if_false]<;>lia
def wQ (a:List Value) (lo hi):slicePick a.toArray lo hi y0=((a.drop (HT.aY a.length 0 lo)).take (HT.aY a.length a.length hi-HT.aY a.length 0 lo)).toArray:=by
 obtain⟨d,b,c⟩:=ZX lo hi a.toArray.size
 unfold slicePick
 rw [d,b,c]
 simp only [sliceRange_one,pick_run,Ac0]<;>rfl
def o9 (K:Aa9):V->Option Int->Option Int->Hp->VK->Prop:=λx lo hi H Q=> ∃a xs,x= .ref a/\br K H a xs/\ ∀p,H p=y0->Q (.ref p) (aM H p (.lst (kG xs lo hi)))
def gG:gg X (o9 X.K):=by
 intro e s U H x v u p f l sl Q I g k pl i h
 obtain⟨a,m,rfl,n,q⟩:=h
 cases g
 obtain⟨o,r,d,j⟩:=I.list n
 have c:=r.length
 refine⟨"list",_,slot_list_getitem.lookup,d.isList.typeIs,?_⟩
 refine wpAny_getItem_list_slice d.isList k pl i .none (by simp) ?_ (by simp_all)
 rw [wQ,←c]
 refine⟨.ref s.heap.objs.size,_,I.laid (λb t q=>Ab3 _ q) (Ab _) ?_,rfl,q _ (I.a8.fresh (Ab _))⟩
 exact⟨Ab5 (jL m f l) j,_,0,(r.drop _).take _,Ac6 _ rfl⟩
def wM:V->Bool
 | .aj=>u0
 | .bl _=>u0
 | .int _=>u0
 | .str _=>u0
 | _=>k9
noncomputable def gy:V->V->Bool
 | .aj,.aj=>u0
 | .bl a,.bl b=>a==b
 | .bl a,.int b=>(if a then 1 else 0)==b
 | .int a,.bl b=>a==(if b then 1 else 0)
 | .int a,.int b=>a==b
 | .str a,.str b=>a==b
 | _,_=>k9
def Cq (e:RelV y u) (c:RelV x v) (f:wM y=u0) (fx:wM x=u0):SeqAt.EqAt A s u v (gy y x):=by
 cases y with
 | aj=>
  cases e
  cases x with
  | aj=>cases c;exact SeqAt.EqAt.same _
  | bl b=>cases c;exact SeqAt.EqAt.none_bool b
  | int b=>obtain⟨t,rfl⟩:=c;exact SeqAt.EqAt.none_int b t
  | str b=>obtain⟨t,rfl⟩:=c;exact SeqAt.EqAt.none_str b t
  | _=>exact absurd (fx) Ab2
 | bl a=>
  cases e
  cases x with
  | aj=>cases c;exact SeqAt.EqAt.bool_none a
  | bl b=>cases c;exact SeqAt.EqAt.bool_bool a b
  | int b=>obtain⟨t,rfl⟩:=c;exact SeqAt.EqAt.bool_int a b t
  | str b=>obtain⟨t,rfl⟩:=c;exact SeqAt.EqAt.bool_str a b t
  | _=>exact absurd (fx) Ab2
 | int a=>
  obtain⟨d,rfl⟩:=e
  cases x with
  | aj=>cases c;exact SeqAt.EqAt.int_none a d
  | bl b=>cases c;exact SeqAt.EqAt.int_bool a d b
  | int b=>obtain⟨t,rfl⟩:=c;exact SeqAt.EqAt.int_int a d b t
  | str b=>obtain⟨t,rfl⟩:=c;exact SeqAt.EqAt.int_str a d b t
  | _=>exact absurd (fx) Ab2
 | str a=>
  obtain⟨d,rfl⟩:=e
  cases x with
  | aj=>cases c;exact SeqAt.EqAt.str_none a d
  | bl b=>cases c;exact SeqAt.EqAt.str_bool a d b
  | int b=>obtain⟨t,rfl⟩:=c;exact SeqAt.EqAt.str_int a d b t
  | str b=>obtain⟨t,rfl⟩:=c;exact SeqAt.EqAt.str_str a d b t
  | _=>exact absurd (fx) Ab2
 | _=>exact absurd (f) Ab2
def iC (x:V) (u:Value):Bool:=match u with
 | .none=>gy .aj x
 | .bool b=>gy (.bl b) x
 | .int i _=>gy (.int i) x
 | .str z _=>gy (.str z) x
 | _=>k9
def ux (r:RelV y u) (f:wM y=u0):iC x u=gy y x:=by
 cases y with
 | aj=>cases r;rfl
 | bl b=>cases r;rfl
 | int i=>obtain⟨t,rfl⟩:=r;rfl
 | str z=>obtain⟨t,rfl⟩:=r;rfl
 | _=>exact absurd (f) Ab2
theorem zK : ∀ {xs}{i},Vals xs i->xs.all wM=u0->i.any (iC x)=xs.any λy=>gy y x
 | _,_,.nil,_=>rfl
 | y::xs,u::i,.cons r t,f=>by
  rw [Ah5,Aa0]at f
  rw [Af3,Af3,ux r f.1,zK t f.2]
theorem zz (b:RelV x v) (fx:wM x=u0): ∀ {xs}{i},Vals xs i->xs.all wM=u0-> ∀u∈i,SeqAt.EqAt A s u v (iC x u)
 | _,_,.nil,_=>λu a=>by cases a
 | y::xs,u::i,.cons r t,f=>λc a=>by
  rw [Ah5,Aa0]at f
  rcases Ac.mp a with rfl | a
  ·rw [ux r f.1];exact Cq r b f.1 fx
  ·exact zz b fx t f.2 c a
def l9 (x:V) (xs:List V):Bool:=xs.any λy=>gy y x
def sC (K:Aa9) (neg:Bool):R2:=λx y H Q=> ∃p xs,y= .ref p/\(br K H p xs\/cJ K H p xs)/\wM x=u0/\xs.all wM=u0/\Q (.bl (if neg then !l9 x xs else l9 x xs)) H
def FK:bG X (compareOp .In) (sC X.K k9):=by
 intro d s U H x y v u Q I c g h
 obtain⟨p,i,rfl,b,fx,fs,q⟩:=h
 cases g
 obtain b | b:=b
 ·obtain⟨a,r,pl,f⟩:=I.list b
  refine SeqAt.in_listAt _ pl.isList (λw e=>zz c fx r fs w (by simp_all)) ⟨.bl _,H,I,rfl,?_⟩
  rw [show a.toArray.any _=a.any (iC x)by simp,zK r fs]
  exact q
 ·obtain⟨a,r,pl,f⟩:=I.tuple b
  refine SeqAt.in_tupleAt _ pl (λw e=>zz c fx r fs w (by simp_all)) ⟨.bl _,H,I,rfl,?_⟩
  rw [show a.toArray.any _=a.any (iC x)by simp,zK r fs]
  exact q
def xX:bG X (compareOp .NotIn) (sC X.K u0):=by
 intro d s U H x y v u Q I c g h
 obtain⟨p,i,rfl,b,fx,fs,q⟩:=h
 cases g
 obtain b | b:=b
 ·obtain⟨a,r,pl,f⟩:=I.list b
  refine SeqAt.notIn_listAt _ pl.isList (λw e=>zz c fx r fs w (by simp_all)) ⟨.bl _,H,I,rfl,?_⟩
  rw [show a.toArray.any _=a.any (iC x)by simp,zK r fs]
  exact q
 ·obtain⟨a,r,pl,f⟩:=I.tuple b
  refine SeqAt.notIn_tupleAt _ pl (λw e=>zz c fx r fs w (by simp_all)) ⟨.bl _,H,I,rfl,?_⟩
  rw [show a.toArray.any _=a.any (iC x)by simp,zK r fs]
  exact q
def jX:bG X (compareOp .NotIn) (λx y H Q=> ∃i j,x= .str i/\y= .str j/\Q (.bl (!(!(Builtin.Str.occurrences j i 0 j.length 1).isEmpty))) H):=by
 intro a s U H x y v u Q I b c h
 obtain⟨i,j,rfl,rfl,q⟩:=h
 obtain⟨t,rfl⟩:=b
 obtain⟨d,rfl⟩:=c
 exact notIn_str ⟨.bl _,H,I,rfl,q⟩
def x3:zu X (.builtin "len") (fun xs H Q=> ∃p ys,xs= [.ref p]/\(br X.K H p ys\/cJ X.K H p ys)/\Q (.int ys.length) H):=by
 intro e s U H xs j Q I r h
 obtain⟨p,ys,rfl,b,q⟩:=h
 obtain⟨u,rfl,f⟩:=xM r
 cases f
 have i:=ZL
 obtain b | b:=b
 ·obtain⟨d,c,pl,g⟩:=I.list b
  have a:=c.length
  exact Calls.call_len_list pl.isList (by simp [Ac0]<;>lia) ⟨.int ys.length,H,I.tok _,⟨s.toks+1,by rw [Ac0,a]⟩,q⟩
 ·obtain⟨d,c,pl,g⟩:=I.tuple b
  have a:=c.length
  exact len_tuple pl (by simp [Ac0]<;>lia) ⟨.int ys.length,H,I.tok _,⟨s.toks+1,by rw [Ac0,a]⟩,q⟩
def XZ:zu X (.builtin "len") (fun xs H Q=> ∃z,xs= [.str z]/\z.length<=sizeLine/\Q (.int z.length) H):=by
 intro a s U H xs d Q I r h
 obtain⟨z,rfl,c,q⟩:=h
 obtain⟨u,rfl,t,rfl⟩:=xM r
 have b:=ZL
 exact len_str (by lia) ⟨.int z.length,H,I.tok _,⟨_,rfl⟩,q⟩
def qY:zu X (.type "list") (fun xs H Q=> ∃p ys,xs= [.ref p]/\(br X.K H p ys\/cJ X.K H p ys)/\ ∀l,H l=none->Q (.ref l) (aM H l (.lst ys))):=by
 intro j s U H xs x Q I r h
 obtain⟨p,ys,rfl,f,q⟩:=h
 obtain⟨u,rfl,w⟩:=xM r
 cases w
 have fin: ∀ a,Vals ys a->ys.length<=sizeLine-> ∀ b d,_ →
  b.get? s.heap.objs.size=some { cls:= .type "list",dict:=none,data:= .seq a.toArray d,slots:= #[] }->EP X j U Q _ { s with heap:=b }:=fun a c i b d k e=>
  ⟨.ref s.heap.objs.size,_,I.laid k (Ab _) (show a0 X.prog X.w _ b _ (.lst ys)from⟨i,a,d,c,e⟩),rfl,q _ (I.a8.fresh (Ab _))⟩
 obtain f | f:=f
 ·obtain⟨a,c,pl,i⟩:=I.list f
  have g:=c.length
  obtain⟨o,v,t,n,m⟩:=pl.isList
  exact call_list_seq p (.inl rfl) v t m (λb d k e=>fin a c i b d k e) (by simp_all)
 ·obtain⟨a,c,pl,i⟩:=I.tuple f
  have g:=c.length
  obtain⟨o,v,t,n,m⟩:=pl
  exact call_list_seq p (.inr rfl) v t m (λb d k e=>fin a c i b d k e) (by simp_all)
def Xg:zu X (.type "tuple") (fun xs H Q=> ∃p ys,xs= [.ref p]/\((br X.K H p ys/\ ∀l,H l=none->Q (.ref l) (aM H l (.tup ys)))\/(cJ X.K H p ys/\Q (.ref p) H))):=by
 intro a s U H xs v Q I r h
 obtain⟨p,ys,rfl,h⟩:=h
 obtain⟨u,rfl,m⟩:=xM r
 cases m
 obtain⟨d,q⟩ | ⟨d,q⟩:=h
 ·obtain⟨c,f,pl,k⟩:=I.list d
  have j:=f.length
  refine call_tuple_list pl.isList (λg t=> ?_) (by simp_all)
  have i:Inv X a U H { s with heap:=g }:=I.kept t
  have n:Inv X a U _ { s with heap:=g.push { cls:= .type "tuple",data:= .seq c.toArray } }:=
   i.laid (λb o e=>Ab3 _ e) (Ab _) (show a0 X.prog X.w _ _ _ (.tup ys)from⟨k,c,f,dj.new _ _⟩)
  exact⟨.ref g.objs.size,_,n,rfl,q _ (i.a8.fresh (Ab _))⟩
 ·obtain⟨c,f,pl,k⟩:=I.tuple d
  exact call_tuple_same pl ⟨.ref p,H,I,rfl,q⟩
def nW (K:Aa9) (T:String) (x:V) (H:Hp):Prop:=match x with
 | .str _=>T= "str"
 | .int _=>T= "int"
 | .ref p=>(T= "list" /\ ∃xs,br K H p xs)\/(T= "tuple" /\ ∃o,K.lookup p=some o/\o.cls= .type "tuple" /\o.dict=none) ∨
  (T= "dict" /\((∃ kvs,H p=some (.dK kvs))\/ ∃kvs,H p=some (.dT kvs)))\/(T= "set" /\ ∃S n,H p=some (.set S n))
 | _=>False
def rn (I:Inv X pins U H s) (r:RelV x v) (ty:nW X.K T x H):
 s.TypeIs v T/\ ∀a,v= .ref a-> ∃ob,s.heap.get? a=k0 ob/\ob.dict=none:=by
 cases x with
 | str z=>
  obtain⟨t,rfl⟩:=r
  cases (ty)
  exact⟨typeIs_str s z t,λ_ e=>nomatch e⟩
 | int i=>
  obtain⟨t,rfl⟩:=r
  cases (ty)
  exact⟨typeIs_int s i t,λ_ e=>nomatch e⟩
 | ref p=>
  cases r
  obtain⟨rfl,k,g⟩ | ⟨rfl,o,b,h,d⟩ | ⟨rfl,b⟩ | ⟨rfl,S,n,b⟩:=ty
  ·obtain⟨j,_,pl,_⟩:=I.list g
   refine⟨pl.isList.typeIs,λa e=> ?_⟩
   cases e
   obtain⟨o,n,e,c,d,_⟩:=pl
   exact⟨o,e,d⟩
  ·refine⟨⟨o,I.cn p o b,h⟩,λa e=> ?_⟩
   cases e
   exact⟨o,I.cn _ o b,d⟩
  ·have z: ∃o,s.heap.get? p=k0 o/\o.ExactDict:=by
    obtain⟨f,b⟩ | ⟨f,b⟩:=b
    ·obtain⟨_,_,_,_,o,_,_,e,ex,_⟩:=I.a8 p _ b
     exact⟨o,e,ex⟩
    ·obtain⟨_,_,_,_,o,_,_,e,ex,_⟩:=I.a8 p _ b
     exact⟨o,e,ex⟩
   obtain⟨o,e,ex⟩:=z
   refine⟨⟨o,e,ex.1⟩,λa e2=> ?_⟩
   cases e2
   exact⟨o,e,ex.2.1⟩
  ·obtain⟨o,_,_,_,e,ex,_⟩:=I.a8 p _ b
   refine⟨⟨o,e,ex.1⟩,λa e2=> ?_⟩
   cases e2
   exact⟨o,e,ex.2.1⟩
 | _=>exact False.elim ty
def Ee (K:Aa9) (T:String) (r:V->List V->Hp->VK->Prop) (a:TE):TE:=λU H Q=>a U H λx H1=>nW K T x H1/\r x [] H1 Q
def Ip (K:Aa9) (T:String) (r:V->List V->Hp->VK->Prop) (a:TE) (t:TA):TE:=λU H Q=>a U H λx H1=>nW K T x H1/\t U H1 λxs H2=>r x xs H2 Q
variable {o e:Expr}{es:List Expr}{to:TE}{t:TA}{name:Str}{apos k7:Pos}{T id:String}{r:V->List V->Hp->VK->Prop}
def Ii (i:PlainAttrs T) (d:Slot T name id) (e:typeOf (.builtin id)=pure (.type "method_descriptor")) (q:nN X id r) (m:PE X o to)
 (b:attributeBase o name X.env (eval o X.env)=eval o X.env:=by rfl) (c:(apos.endLine==k7.line)=true:=by rfl):PE X (.Call (.Attribute o name apos) [] [] k7) (Ee X.K T r to):=by
 intro a s U H Q I h
 refine wpAny_Call_method0_late b c (aQ (m a s U H _ I h) ?_)
 rintro v l ⟨x,p,g,f,ty,j⟩
 obtain⟨n,k⟩:=rn g f ty
 exact⟨T,id,i,d,e,n,k,Calls.callWith_builtin rfl (PySem.evalArgs_none (q a l U p x [] v [] Q g f .nil j))⟩
def tN (m:PlainAttrs T) (d:Slot T name id) (i:typeOf (.builtin id)=pure (.type "method_descriptor")) (K:nN X id r) (B:PE X o to) (w:PA X (e::es) t)
 (b:attributeBase o name X.env (eval o X.env)=eval o X.env:=by rfl)
 (f:((backTo k7 (starEach (e::es) X.env)).all (λx=> !x.1)&&(backToKw k7 (keywordEach [] X.env)).all (λx=>x.1.isSome)
   &&y9 ((e::es).length+([]:List Keyword).length+(if ([]:List Keyword).isEmpty then 0 else 1)<30))=true:=by rfl)
 (c:(apos.endLine==k7.line)=true:=by rfl) (G:starEach (e::es) X.env=(k9,eval e X.env)::starEach es X.env:=by rfl) (g:(backTo k7 (starEach es X.env)).any (·.1)=false:=by rfl):
 PE X (.Call (.Attribute o name apos) (e::es) [] k7) (Ip X.K T r to t):=by
 intro a s U H Q I h
 refine wpAny_Call_method_late b f c rfl (aQ (B a s U H _ I h) ?_)
 rintro v q ⟨x,J,l,j,ty,n⟩
 obtain⟨C,p⟩:=rn l j ty
 refine⟨T,id,m,d,i,C,p,?_⟩
 have k:=w k7 a q U J _ l n
 rw [G]at k ⊢
 refine Calls.callWith_builtin (by assumption) (Calls.evalArgs_plain ?_)
 exact aQ k λu D ⟨z,F,y,A,E⟩=>K a D U F x z v u Q y j A E
end
def ie (X:Cx) (id:String) (r:V->List V->Hp->VK->Prop):Prop:=
 ∀(pins:List (Addr×Obj)) (s:Shared) (U:St) (H:Hp) (x:V) (xs:List V) (v:Value) (a:List Value) (Q:VK),Inv X pins U H s->RelV x v->Vals xs a->r x xs H Q →
  wpAny (model X.prog X.w) X.A (call (.builtin id) (v::a)) (EP X pins U Q) X.xe s
def Vals.one: ∀ {x}{i},Vals [x] i-> ∃u,i= [u]/\RelV x u
 | _,_,.cons r .nil=>⟨_,rfl,r⟩
theorem Vals.rep (h:Vals xs us): ∀k:Nat,Vals (Aa3 k xs).flatten (Aa3 k us).flatten
 | 0=> .nil
 | k+1=>by
  exact Vals.append h (Vals.rep h k)
theorem wV (its): ∀ k (a:List Value),
 List.foldl (λi j=>i++j) a.toArray (Aa3 k its.toArray)=(a++(Aa3 k its).flatten).toArray
 | 0,a=>by simp
 | k+1,a=>by
  have e:a.toArray++its.toArray=(a++its).toArray:=by simp
  have e2:(a++its)++(Aa3 k its).flatten=a++(Aa3 (k+1) its).flatten:=by
   rw [Ae5,List.flatten_cons,Ae7]
  rw [← e2,←wV its k (a++its),←e,Ae5,Ak2]
section
variable {X:Cx}{pins:List (Addr×Obj)}{U:St}{H:Hp}{s:Shared}{l b:Addr}{xs ys zs:List V}
def Inv.kI {b a:List Value}(I:Inv X pins U H s) (d:H l=k0 (.lst xs))
 (e:s.heap.get? l=k0 { cls:= .type "list",data:= .seq b.toArray n }) (h:f b.toArray=a.toArray) (i:Vals ys a) (j:ys.length<=sizeLine):
 Inv X pins U (aM H l (.lst ys)) { s with heap:=s.heap.update l (Obj.mapSeq f),toks:=t' }:=by
 have q:=PySem.IsL.update e f
 rw [h]at q
 refine I.write (by rw [d];exact trivial) (.inl rfl) (λk u c g=>(Am8 s.heap _ (Ne.symm c)).trans g) ⟨_,q⟩ ?_
 exact⟨j,a,_,i,q⟩
def Inv.kJ (I:Inv X pins U H s) (a:Vals ys its) (b:ys.length<=sizeLine):
 Inv X pins U (aM H s.heap.objs.size (.lst ys)) { s with heap:=s.heap.push { cls:= .type "list",data:= .seq its.toArray },toks:=t' }:=
 I.laid (λ_ _ q=>Ab3 _ q) (Ab _) ⟨b,its,0,a,Ac6 _ rfl⟩
theorem Inv.fresh (I:Inv X pins U H s):H s.heap.objs.size=none:=I.a8.fresh (Ab _)
def Inv.iu (I:Inv X pins U H s) (a:H l=k0 (.lst xs)):xs.length<=sizeLine/\ ∃ i n,Vals xs i/\xs.length=i.length/\s.heap.get? l=k0 { cls:= .type "list",data:= .seq i.toArray n }:=by
 obtain⟨z,i,n,r,e⟩:=I.a8 l _ a
 exact⟨z,i,n,r,r.length,e⟩
def sV (h:n<=sizeLine):Builtin.List.listTooLong n=false:=by
 exact decide_eq_false (by lia)
end
section
variable {X:Cx}
def Eh:V->List V->Hp->VK->Prop:=λx a H Q=> ∃l xs y,x= .ref l/\a= [y]/\H l=k0 (.lst xs)/\xs.length<sizeLine/\Q .aj (aM H l (.lst (xs++ [y])))
def yz:ie X "list.append" Eh:=by
 intro c s U H x j v i Q I d rv h
 obtain⟨l,m,y,rfl,rfl,b,k,q⟩:=h
 cases d
 obtain⟨u,rfl,f⟩:=rv.one
 obtain⟨z,a,n,r,g,e⟩:=I.iu b
 refine call_meets F.slot_list_append ⟨_,e,rfl⟩ F.entry_list_append (F.args_list_append_2 _ _) (PySem.list_append l a.toArray n u (by simp_all)) ⟨e,?_⟩
 refine⟨.aj,_,I.kI b e (by simp) (r.append (.cons f .nil)) ?_,rfl,q⟩
 rw [Aa5,List.length_singleton]
 lia
def BI:V->List V->Hp->VK->Prop:=λx a H Q=> ∃l b xs zs,x= .ref l/\a= [.ref b]/\H l=k0 (.lst xs)/\H b=k0 (.lst zs)/\xs.length+zs.length<=sizeLine/\Q .aj (aM H l (.lst (xs++zs)))
def AS:ie X "list.extend" BI:=by
 intro i s U H x A v y Q I j rv h
 obtain⟨l,b,D,C,rfl,rfl,g,t,B,q⟩:=h
 cases j
 obtain⟨u,rfl,o⟩:=rv.one
 cases o
 obtain⟨z,c,n,r,w,e⟩:=I.iu g
 obtain⟨E,a,k,m,p,e2⟩:=I.iu t
 have f:c.toArray.size+a.toArray.size<=sizeLine:=by rw [Ac0,Ac0];lia
 have d: ¬(!c.toArray.isEmpty&&Builtin.List.listTooLong (c.toArray.size+a.toArray.size))=true:=by
  rw [sV f,Ah7]
  exact Ab2
 refine call_meets F.slot_list_extend ⟨_,e,rfl⟩ F.entry_list_extend (F.args_list_extend_2 _ _)
  (AutoSeq1.list_extend_list_list_0 l c.toArray n b a.toArray k d (by simp_all) (by lia)) ⟨e,e2,?_⟩
 refine⟨.aj,_,I.kI g e (by simp) (r.append m) ?_,rfl,q⟩
 rw [Aa5]
 lia
def Hz (xs:List α) (k):(Aa3 k xs).flatten.length=k*xs.length:=by simp
end
end L2
namespace Att
open PySem PySem.W PySem.Calls PyProof.Rows
def qI : ∀ ns vs,WellAll P h vs (ns.map WData.int)->IntsAre vs ns:=by
 intro ns
 induction ns with
 | nil=>
  intro vs w
  cases w
  exact .nil
 | cons n ns c=>
  intro vs w
  cases w with
  | cons a b=>
   cases a
   exact .cons _ _ (c _ b)
def Ej {l:OpenLaw}(m:l.most=k0 n)
 (b:l.row.toRowW.claim.pre args=u0) (g:WellAll P h vals args):
 ∃a vs ns,vals= [Value.ref a]/\args= [WData.list (ns.map WData.int)]/\h.get? a=k0 { cls:= .type "list",data:= .seq vs.toArray }/\IntsAre vs ns/\ns.length<=n:=by
 have i:WShape.hasAll [] args [.list .int]=true:=(pre_splitW b).1
 have s:=(pre_splitW b).2
 obtain⟨d,r,rfl,v,k⟩:=hasAllW_cons i
 obtain rfl:=hasAllW_nil k
 obtain⟨x,rfl,t⟩:=hasW_list v
 obtain⟨ns,rfl⟩:=items_int t
 have c:ns.length<=n:=by
  have f:=by
   have f:=(holds_andW s).1
   rw [m]at f
   exact f
  have j:=condW_of f (w_not (w_lt w_lit (w_len_list (w_arg rfl))))
  refine Nat.le_of_not_lt λq=> ?_
  have p:=by omega
  first
   | (rw [decide_eq_true p]at j)
   | (simp at j;lia)
 cases g with
 | cons o w=>
  cases w
  cases o with
  | list u e=>exact⟨_,_,ns,rfl,rfl,u,qI ns _ e,c⟩
def HV (l:OpenLaw) (args):l.row.toRowW.claim.post args (.bool u0) args=true:=
 postW_of
  (show WShape.has [] _ .bool=u0 by first | rfl | decide | simp [WShape.armsAll])
  (show (WTm.eq .res _).value [] { args:=args,res:=k0 _,after:=args }=k0 (.bool _)from w_eq_bool (w_res rfl) w_lit) rfl
def d0 {l:OpenLaw}
 (y:l.most=k0 n) (k:d.params.defaults= [])
 (call: ∀ w j i mg O M o V cd L a vs ns,
   Ground q loose [] XP w j mg O i.heap->YP w i.heap →
   i.heap.get? M=k0 o->o.data= .func (docDef d.name d.params d.body d.scope V cd L)->i.heap.CodeRec cd d.name->mg d.name=k0 (.ref M) →
   i.heap.get? a=k0 { cls:= .type "list",data:= .seq vs.toArray }->IntsAre vs ns->ns.length<=n->i.gens= #[] →
   codeAny (model l.prog w) callerA (.call (.ref M) ⟨[.ref a],[]⟩) (λr s'=>r= .ok (.ret (.bool u0))/\OldK i.heap s'.heap/\s'.os=i.os/\AllBare s'.gens) i):
 WalkO q loose XP YP l.row.toRowW d [] (λf vs=>PySem.call f vs):=by
 intro w j i mg O G Y M o V cd L H kV D z p v m E t u K g s F h A
 obtain rfl:H= .none:=Dflts.none v k
 obtain rfl:kV= .none:=Dflts.noKw v
 obtain⟨a,vs,ns,rfl,rfl,c,b,e⟩:=Ej y g h
 refine enter_call (codeAny_mono (call w j i mg O M o V cd L a vs ns G Y D (fd_plain z) p m c b e E) λr s' B=> ?_)
 obtain⟨rfl,x,C,I⟩:=B
 exact⟨.inl ⟨.bool u0,.bool u0,[],rfl,λ_=>rfl,.bool u0,HV l _,λ_=>⟨Ao3.nil,λ_ J=>(nomatch J)⟩⟩,x,C,I⟩
end Att
namespace L2
open PySem PySem.Spec PyProof.Rows
theorem Z2: ∀ {vs}{ns},IntsAre vs ns->Vals (ns.map V.int) vs
 | _,_,.nil=> .nil
 | _,_,.cons n t h=> .cons ⟨t,rfl⟩ (Z2 h)
def ot (H:Hp):Prop:= ∀b,H b=y0\/ ∃o xs,H b=k0 (.ea o (.lst xs))
def BB {K:Aa9}
 (T:K.In s₁.heap) (B:s₁.heap.Ns mainGlobals mg) (c:s₁.heap.Ns builtinsNs mb) (N: ∀x:Str,x≠ "__name__" ->mb x=bootBuiltins x) (p:s₁.heap.NoLimit) (hg:s₁.gens= #[])
 (G:s₁.heap.get? a=k0 { cls:= .type "list",data:= .seq vs.toArray }) (U:IntsAre vs ns) (Q:ns.length<=sizeLine) (Y:a9 k callerA)
 (F: ∀base:Heap,K.In base->base.Ns mainGlobals mg->QF P w K mg base CX k fa fd [x] sp) (i: ∀ s u,BindsTo s fd ⟨[u],[]⟩ [(x,u)])
 (J: ∀H:Hp,ot H->br K H a (ns.map V.int)->sp [.ref a] H (λv _=>v= .bl u0) λ_ _ _=>False)
 (M: ∀H e s',CX [] H s₁ (λ_ _ _=>False) e s'->False):
 codeAny (model P w) callerA (.call (.ref fa) ⟨[.ref a],[]⟩) (λr s'=>r= .ok (.ret (.bool u0))/\OldK s₁.heap s'.heap/\s'.os=s₁.os/\AllBare s'.gens) s₁:=by
 have rv:=Z2 U
 have t:=U.length
 have g: ∀H:Hp,ot H->br K H a (ns.map V.int)->cX P w H s₁.heap->(∀ b,H b≠y0->b=a)->(H a≠y0->K.lookup a=y0) →
  codeAny (model P w) callerA (.call (.ref fa) ⟨[.ref a],[]⟩) (λr s'=>r= .ok (.ret (.bool u0))/\OldK s₁.heap s'.heap/\s'.os=s₁.os/\AllBare s'.gens) s₁:=by
  intro H S Z D R hK
  have bx: ∀ {b}{o},s₁.heap.get? b=k0 o->H b=y0->(kh s₁.heap H).get? b=k0 o:=λe n=>KL e n
  have O: ∀ {b}{o}{E}{C},s₁.heap.get? b=k0 o->o.data= .dict E C->H b=none:=λ{b o E C} e d=>by
   cases q:H b with
   | none=>rfl
   | some u=>
    have L:b=a:=R b (by rw [q];simp)
    subst L
    rw [G]at e;cases e
    have d':Data.seq vs.toArray _=Data.dict E C:=d
    cases d'
  have f: ∀ {b}{m},s₁.heap.Ns b m->(kh s₁.heap H).Ns b m:=λ{b m} ⟨o,E,C,e,d,r⟩=>⟨o,E,C,bx e (O e d),d,r⟩
  have j:K.In _:=λb o e=>bx (T b o e) (by
   cases q:H b with
   | none=>rfl
   | some u=>
    have L:b=a:=R b (by rw [q];simp)
    subst L
    rw [hK (by rw [q];simp)]at e;cases e)
  have W:Mod K mg _:=⟨j,f B,⟨mb,f c,N⟩,let ⟨mc,h1,X⟩:=p; ⟨mc,f h1,X⟩⟩
  have e0:dh P w K mg _ callerA [] s₁ H:=⟨rfl,W,λb o e=>HN e,Al0 (DG _ _),trivial,λb c=>absurd (show b∈([]:List Addr)from c) (by simp),D,.of_eq hg⟩
  refine codeAny_mono ((F _ j (f B)).run callerA [] s₁ H ⟨[.ref a],[]⟩ [.ref a] [.ref a] _ _ Y e0 (i s₁ _) (.cons rfl .nil) (J H S Z)) λr s' h=> ?_
  cases r with
  | error e=>exact(M H e s' h).elim
  | ok fl=>
   cases fl with
   | next=>exact False.elim h
   | brk=>exact False.elim h
   | cont=>exact False.elim h
   | ret u=>
    obtain⟨v,H',os,l,un,y,r',q⟩:=h
    have q':v= .bl true:=q
    subst q'
    obtain rfl:u=Value.bool true:=r'
    refine⟨rfl,OldK.of_keep λb o e=> ?_,os,l⟩
    cases q:H b with
    | none=>exact un.keep b o e q (by intro z;exact absurd (show b∈([]:List Addr)from z) (by simp)) (by simp)
    | some u=>
     obtain z | ⟨ob,xs,z⟩:=S b
     ·rw [q]at z;cases z
     ·have z2:=un.dM b ob _ z
      obtain⟨e1,_⟩:=D b _ z
      obtain⟨e2,_⟩:=y b _ z2
      rw [e]at e1;cases e1
      exact e2
 cases I:K.lookup a with
 | some o=>
  have e:=T a o I
  rw [G]at e
  cases e
  refine g (λ_=>y0) (λ_=> .inl rfl) (.inr ⟨_,vs.toArray,_,I,rfl,rfl,rfl,by rw [Ac0,t];exact Q,by simpa using rv⟩) (λb u z=>by have A:(none:Option HO)=k0 u:=z;cases A) (λb z=>absurd rfl z) λz=>absurd rfl z
 | none=>
  refine g (fun b=>if b=a then some (.ea { cls:= .type "list",data:= .seq vs.toArray } _)else none) (fun b=> ?_) (.inl (.inr ⟨{ cls:= .type "list",data:= .seq vs.toArray },if_pos rfl⟩)) (fun b u z=> ?_) (fun b z=> ?_) fun _=>I
  ·by_cases c:b=a
   ·exact .inr ⟨_,_,if_pos c⟩
   ·exact .inl (if_neg c)
  ·by_cases c:b=a
   ·have A:=(if_pos c).symm.trans z
    cases A
    subst c
    exact⟨G,by rw [Aa];exact Q,vs,_,rv,G⟩
   ·have A:=(if_neg c).symm.trans z
    cases A
  ·by_cases c:b=a
   ·exact c
   ·exact absurd (if_neg c) z
abbrev Ms {K:Aa9}{h:Heap}(_:K.In h):Aa9:=K
def gO {l:PySem.W.OpenLaw}{K:Params->Aa9}{A:World->fY}{z:World->Sp}
 (E:l.most=k0 n) (m:n<=sizeLine) (p:d.params.defaults= []) (I:a9 k callerA)
 (D: ∀ w h,YP w h->(K w.params).In h)
 (F: ∀ w mg j h,(K w.params).In h->h.Ns mainGlobals mg->mg d.name=k0 (.ref j) →
   ∃fd:FuncData,(∀ s u,BindsTo s fd ⟨[u],[]⟩ [(x,u)]) ∧
    ∀base:Heap,(K w.params).In base->base.Ns mainGlobals mg->QF l.prog w (K w.params) mg base (A w) k j fd [x] (z w))
 (r: ∀ w H a (ns:List Int),ns.length<=n->ot H->br (K w.params) H a (ns.map V.int)->z w [.ref a] H (λv _=>v= .bl u0) λ_ _ _=>False)
 (t: ∀ w H s e s',A w [] H s (λ_ _ _=>False) e s'->False):
 PySem.W.WalkO q loose XP YP l.row.toRowW d [] (λf vs=>PySem.call f vs):=by
 refine Att.d0 E p λw C i mg R j o U cd M a vs ns G Y T S Q y g c b N=> ?_
 have B:=D w _ Y
 obtain⟨fd,O,P⟩:=F w mg j _ B G.T.g y
 exact BB B G.T.g G.T.b G.T.builtins G.T.nolimit N g c (Ab5 b m) I P O (λH L J=>r w H a ns b L J) λH e s'=>t w H i e s'
noncomputable def Et (s:Stmt):Arguments:=match s with
 | .FunctionDef _ a _ _ _ _ _ _ _ _=>a
 | _=> { posonlyargs:= [],args:= [],vararg:=y0,kwonlyargs:= [],kw_defaults:= [],kwarg:=y0,defaults:= [] }
def qK (s:Stmt):List Stmt:=match s with
 | .FunctionDef _ _ b _ _ _ _ _ _ _=>b
 | _=> []
noncomputable def Jl (s:Stmt):Scope:=match s with
 | .FunctionDef _ _ _ _ _ _ a _ _ _=>a
 | _=> { kind:= .function,names:= [],isGenerator:=k9,isCoroutine:=k9 }
abbrev lB:fY:=λ_ _ _ _ _ _=>False
abbrev E0:XK:=λ_ _ _=>False
structure mU (K:Aa9) (x y8:Str) (st:Stmt) (f:Addr) (fd:FuncData):Prop where
 ex: ∃(oc:Value) (od:Option Addr) (kV doc pm:Value) (an:Option Addr) (cdv ct:Value) (osl:Array (Option Value)),
  fd=PySem.W.fnOf x y8 (Et st) (qK st) (Jl st) .none kV doc pm an cdv ct/\K.lookup f=k0 ⟨oc,od,.func fd,osl⟩/\PySem.W.codeIn K cdv y8=u0
 kp:Ah4 K (.ref f)=u0
def Wp (h:n<=1000):n<sizeLine:=Ah6 h (by decide)
section
variable {X:Cx}
def pv (i)(d:X.N[i]? =some x:=by rfl) (b:mm X.env.scope x:=by first | exact Or.inl rfl | exact Or.inr (Or.inl rfl) | exact Or.inr (Or.inr rfl)) (c:(x==("__debug__" :Str))=false:=by decide)
 (a:(x==("__classdict__" :Str))=false:=by decide):PE X (.Name x pos) (mN i):=jH d b c a
end
def oN {A B:Prop}(h:B):if k9=u0 then A else B:=by
 exact h
def nX {A B:Prop}(h:A):if u0=u0 then A else B:=by
 exact h
end L2
set_option maxHeartbeats 4000000
namespace L2
open PySem PySem.Spec PyProof.Rows
noncomputable def qf (env:Env) (a:List (Str×Addr)) (y:Str×NameKind):List (Str×Addr):=
 if y.2== .free then(match env.cells.lookup y.1 with | some c=>(y.1,c)::a | none=>a)else a
def wT (a:Scope) (env:Env):List (Str×Addr):=a.names.foldl (qf env) []
theorem vF : ∀(a:List (Str×NameKind)) i,(∀ y∈a,y.2= .free-> ∃c,env.cells.lookup y.1=k0 c) →
 (do
   let mut j:=i
   for (name,kind) in a do
    if kind== .free then j:=(name,←cellOf env name)::j
   return j:Sem (List (Str×Addr)))=pure (a.foldl (qf env) i)
 | [],i,_=>by simp
 | (n,k)::r,i,h=>by
  have f:=λj=>vF r j λy l=>h y (Aa2 _ l)
  by_cases d:k= .free
  ·subst d
   obtain⟨c,b⟩:=h (n,.free) Aa4 rfl
   have b:=b
   have e:qf env i (n,.free)=(n,c)::i:=by
    show(if (NameKind.free==NameKind.free)=u0 then(match env.cells.lookup n with | some c=>(n,c)::i | none=>i)else i)=_
    rw [if_pos (show (NameKind.free==NameKind.free)=u0 from rfl),b]
   rw [Ak2,e,←f]
   simp [cellOf,b]
  ·have g:(k==NameKind.free)=false:=by simpa using d
   have e:qf env i (n,k)=i:=by
    show(if (k==NameKind.free)=u0 then _ else i)=_
    rw [g,if_neg Ab2]
   rw [Ak2,e,←f]
   simp [d]
def qS (h: ∀y∈scope.names,y.2= .free-> ∃c,env.cells.lookup y.1=k0 c):closureFor scope env=pure (wT scope env):=
 vF scope.names [] h
theorem zI : ∀(a:List (Str×NameKind)) i,(∀ x c,i.lookup x=k0 c->env.cells.lookup x=k0 c)-> ∀x c,(a.foldl (qf env) i).lookup x=k0 c->env.cells.lookup x=k0 c
 | [],_,h=>h
 | (n,k)::r,i,h=>by
  refine zI r (qf env i (n,k)) λx c e=> ?_
  unfold qf at e
  split at e
  ·split at e
   ·rename_i f b
    rw [Ab7]at e
    cases d:x==n with
    | true=>
     rw [d]at e
     have:x=n:=by simpa using d
     subst this
     cases e
     exact b
    | false=>rw [d]at e;exact h x c e
   ·exact h x c e
  ·exact h x c e
theorem J1 (b:env.cells.lookup x=k0 c): ∀(a:List (Str×NameKind)) j,((x,.free)∈a\/ ∃i,j.lookup x=k0 i)-> ∃i,(a.foldl (qf env) j).lookup x=k0 i
 | [],j,h=>h.elim (λz=>absurd z (by simp)) id
 | (n,k)::r,j,h=>by
  refine J1 b r (qf env j (n,k)) ?_
  have grow:(∃ i,j.lookup x=k0 i)-> ∃i,(qf env j (n,k)).lookup x=k0 i:=by
   rintro ⟨i,e⟩
   unfold qf
   split
   ·split
    ·rw [Ab7]
     cases x==n with
     | true=>exact⟨_,rfl⟩
     | false=>exact⟨i,e⟩
    ·exact⟨i,e⟩
   ·exact⟨i,e⟩
  rcases h with h | h
  ·rcases Ac.mp h with h | h
   ·cases h
    refine .inr ⟨c,?_⟩
    show Aj x (if (NameKind.free==NameKind.free)=u0 then(match env.cells.lookup x with | some c=>(x,c)::j | none=>j)else j)=_
    rw [if_pos (show (NameKind.free==NameKind.free)=u0 from rfl),b]
    simp
   ·exact .inl h
  ·exact .inr (grow h)
def Z3 (I:Nat->Shared->Prop)
 (k: ∀n s,I n s->wpAny (model prog w) A (pyNext it) (λr L=>match r with
   | none=>R (.ok .next) L
   | some v=>wpAny (model prog w) A (letOwnedTupleGo tg it v) (λ_ i=>wpAny (model prog w) A (assign tg env v) (λ_ O=>
    wpAny (model prog w) A (forIn ifs u0 λc r=>if r=u0 then do let ok ←isTrue c env (eval c env);pure (ForInStep.yield ok)else pure (ForInStep.yield r)) (λok j=>
     if ok=u0 then wpAny (model prog w) A (eval elt env) (λx M=>
      wpAny (model prog w) A (call (.builtin "list.append") [acc,x]) (fun _ V=> ∃m,m<n/\I m V) (notedBy (model prog w) A env fun e s'=>R (.error e) s') M) (notedBy (model prog w) A env fun e s'=>R (.error e) s') j
     else ∃m,m<n/\I m j) (notedBy (model prog w) A env λe s'=>R (.error e) s') O) (notedBy (model prog w) A env λe s'=>R (.error e) s') i) (notedBy (model prog w) A env λe s'=>R (.error e) s') L) (notedBy (model prog w) A env λe s'=>R (.error e) s') s)
 (n) (h:I n s):codeAny (model prog w) A (.compLoop (.ListComp elt [⟨tg,iter,ifs,0⟩] scope pos) 0 it acc env) R s:=by
 refine codeAny_loop rfl I (λn s p=> ?_) n h
 refine wpAny_noted ?_
 rw [compTurn_list]
 refine wpAny_bind (wpAny_standAt (wpAny_bind (wpAny_mono (k n s p) (λr L d=> ?_) λ_ _ a=>a)))
 cases r with
 | none=>exact wpAny_pure d
 | some v=>
  refine wpAny_bind (wpAny_mono d (λ_ i f=> ?_) λ_ _ a=>a)
  refine wpAny_bind (wpAny_mono f (λ_ O o=>wpAny_bind (wpAny_mono o (λok j b=> ?_) λ_ _ a=>a)) λ_ _ a=>a)
  cases ok with
  | false=>exact wpAny_pure ⟨rfl,b⟩
  | true=>
   exact wpAny_bind (wpAny_bind (wpAny_mono b (λx M l=>wpAny_bind (wpAny_mono l (λ_ V g=>wpAny_pure (wpAny_pure ⟨rfl,g⟩)) λ_ _ a=>a)) λ_ _ a=>a))
theorem W9 : ∀ i n j,(x,NameKind.cell)∉i->(cellsFrom n i j).lookup x=j.lookup x
 | [],_,_,_=>rfl
 | (y,k)::r,n,j,h=>by
  unfold cellsFrom
  split
  ·rename_i a
   have a:=by simpa using a
   subst a
   rw [W9 r (n+1) _ λz=>h (Aa2 _ z),Ab7]
   cases b:x==y with
   | true=>
    have:x=y:=by simpa using b
    subst this
    exact absurd Aa4 h
   | false=>rfl
  ·exact W9 r n j λz=>h (Aa2 _ z)
theorem j6 : ∀ i (h:Heap) j L,(j.lookup x=k0 c->L\/(h.IsCell c y0/\(x,NameKind.cell)∈i\/h.IsCell c y0/\L))-> ∀lo,lo<=h.objs.size →
 (cellsFrom h.objs.size i j).lookup x=k0 c->j.lookup x=k0 c\/(lo<=c/\(x,NameKind.cell)∈i/\(pushCells h i).IsCell c y0)
 | [],_,_,_,_,_,_,e=> .inl e
 | (y,k)::r,h,j,L,n,lo,d,e=>by
  unfold cellsFrom at e
  unfold pushCells
  split at e
  ·rename_i a
   rw [if_pos a]
   have a:=by simpa using a
   subst a
   have e:(cellsFrom (h.push { cls:= .type "cell",data:= .cell none }).objs.size r ((y,h.objs.size)::j)).lookup x=some c:=by rw [Heap.size_push];exact e
   rcases j6 r (h.push { cls:= .type "cell",data:= .cell none }) _ True (fun _=> .inl trivial) lo (by rw [Heap.size_push];omega) e with q | ⟨f,l,g⟩
   ·rw [Ab7]at q
    cases m:x==y with
    | true=>
     rw [m]at q
     have:x=y:=by simpa using m
     subst this
     cases q
     exact .inr ⟨d,List.mem_cons_self,(show (h.push { cls:= .type "cell",data:= .cell none }).IsCell h.objs.size none from⟨_,Heap.get?_push_size _ rfl,rfl⟩).keeps fun b o e=>pushCells_keeps r _ b o e⟩
    | false=>
     rw [m]at q
     exact .inl q
   ·exact .inr ⟨f,Aa2 _ l,g⟩
  ·rename_i a
   rw [if_neg a]
   rcases j6 r h j True (λ_=> .inl trivial) lo d e with q | ⟨f,l,g⟩
   ·exact .inl q
   ·exact .inr ⟨f,Aa2 _ l,g⟩
theorem nB: ∀(j) (n) (i),(∀ x c,i.lookup x=k0 c->c<n)->(∀ x y c,i.lookup x=k0 c->i.lookup y=k0 c->x=y) →
 ∀x y c,(cellsFrom n j i).lookup x=k0 c->(cellsFrom n j i).lookup y=k0 c->x=y
 | [],_,_,_,b=>b
 | (z,k)::r,n,i,a,b=>by
  unfold cellsFrom
  split
  ·have look: ∀x c,((z,n)::i).lookup x=k0 c->(x=z/\c=n)\/(i.lookup x=k0 c):=λx c e=>by
    rw [Ab7]at e
    cases d:x==z with
    | true=>
     rw [d]at e
     cases e
     exact .inl ⟨by simpa using d,rfl⟩
    | false=>
     rw [d]at e
     exact .inr e
   refine nB r (n+1) _ (λx c e=> ?_) λx y c e1 e2=> ?_
   ·rcases look x c e with⟨_,q⟩ | q
    ·exact q▸Ag n
    ·exact Nat.lt_succ_of_lt (a x c q)
   ·rcases look x c e1 with⟨h,l⟩ | p<;>rcases look y c e2 with⟨f,g⟩ | q
    ·rw [h,f]
    ·exact absurd (l▸a y c q) (Ai3 _)
    ·exact absurd (g▸a x c p) (Ai3 _)
    ·exact b x y c p q
  ·exact nB r n i a b
theorem ZO : ∀(a:List (Str×NameKind)) i,(a.foldl (qf env) i).lookup x=k0 c->i.lookup x=k0 c\/(x,NameKind.free)∈a
 | [],_,h=> .inl h
 | (y,k)::r,i,h=>by
  rcases ZO r _ h with q | q
  ·unfold qf at q
   split at q
   ·rename_i b
    have b:=by simpa using b
    subst b
    split at q
    ·rw [Ab7]at q
     cases d:x==y with
     | true=>
      have:x=y:=by simpa using d
      subst this
      exact .inr Aa4
     | false=>
      rw [d]at q
      exact .inl q
    ·exact .inl q
   ·exact .inl q
  ·exact .inr (Aa2 _ q)
theorem XX {env:Env}: ∀ {a:List (Str×NameKind)}{x},
 ((a.map λ(n,k)=>if(k==NameKind.free&&env.scope.kind== .function&&env.kindOf n==k0 .cell)then(n,NameKind.cell)else(n,k)).lookup x=k0 .cell ∨
   (a.map λ(n,k)=>if(k==NameKind.free&&env.scope.kind== .function&&env.kindOf n==k0 .cell)then(n,NameKind.cell)else(n,k)).lookup x=k0 .free)->(x,.free)∈a\/(x,.cell)∈a
 | [],_,h=>by simp at h
 | (n,k)::r,x,h=>by
  have e:= @XX env r x
  rw [Ab1]at h
  by_cases b:(k==NameKind.free&&env.scope.kind== .function&&env.kindOf n==k0 .cell)=u0
  ·have f:=by
    rw [Aa0,Aa0]at b
    simpa using b.1.1
   subst f
   simp only [b,if_true,Ab7]at h
   cases c:x==n with
   | true=>
    have:x=n:=by simpa using c
    subst this
    exact .inl Aa4
   | false=>
    rw [c]at h
    exact(e h).imp (Aa2 _) (Aa2 _)
  ·have d:=Ak6.mpr b
   simp only [d,Ak3,if_false,Ab7]at h
   cases c:x==n with
   | true=>
    have:x=n:=by simpa using c
    subst this
    rw [c]at h
    rcases h with h | h
    ·have:k= .cell:=by simpa using h
     subst this
     exact .inr Aa4
    ·have:k= .free:=by simpa using h
     subst this
     exact .inl Aa4
   | false=>
    rw [c]at h
    exact(e (by simpa using h)).imp (Aa2 _) (Aa2 _)
theorem r6: ∀ {a:List (Str×NameKind)}{x}{k i},(a.map Prod.fst).Nodup->(x,k)∈a->(x,i)∈a->k=i
 | (y,j)::r,x,k,i,b,c,d=>by
  rw [Ab1,Ai]at b
  rcases Ac.mp c with e1 | e1<;>rcases Ac.mp d with e2 | e2
  ·cases e1;cases e2;rfl
  ·cases e1;exact absurd (Ab6.mpr ⟨_,e2,rfl⟩) b.1
  ·cases e2;exact absurd (Ab6.mpr ⟨_,e1,rfl⟩) b.1
  ·exact r6 b.2 e1 e2
theorem Z7: ∀ {a:List (Str×NameKind)}{x}{k},(a.map Prod.fst).Nodup->(x,k)∈a->a.lookup x=k0 k
 | (y,j)::r,x,k,b,h=>by
  rw [Ab1,Ai]at b
  rw [Ab7]
  rcases Ac.mp h with e | e
  ·cases e;simp
  ·have:(x==y)=false:=by
    cases c:x==y with
    | false=>rfl
    | true=>
     have:x=y:=by simpa using c
     subst this
     exact absurd (Ab6.mpr ⟨_,e,rfl⟩) b.1
   rw [this]
   exact Z7 b.2 e
def gT (a:Scope) (C:Addr) (env:Env):List (Str×Addr):=cellsFrom (C+1) a.names (wT a env)
def qB 
 (d:Q (newEnv scope s.heap.objs.size globals (cellsFrom (s.heap.objs.size+1) scope.names cl) y8 y0 .none (k0 env) builtinsNs) { s with heap:=pushCells (s.heap.push { cls:= .type "dict",data:= .dict #[] }) scope.names }):
 wpAny M A (newFunctionEnv scope globals cl [] y8 y0 .none (k0 env)) Q E s:=by
 simp only [newFunctionEnv,Option.isSome_some,if_true]
 refine wpAny_bind (wpAny_alloc ?_)
 refine wpAny_bind (wpAny_layCells _ (λname a b=>by cases c:a==NameKind.cell<;>simp [c]) _ _ _ _ ?_)
 rw [show ({ s with heap:=s.heap.push { cls:= .type "dict",data:= .dict #[] } }:Shared).heap.objs.size=s.heap.objs.size+1 from Heap.size_push ..]
 refine wpAny_bind ?_
 exact wpAny_pure (wpAny_pure d)
noncomputable def je (X:Cx) (N:List Str) (a:Scope) (C:Addr) (b:List Addr) (s:Shared) (H:Hp):Cx where
 prog:=X.prog
 w:=X.w
 K:=X.K
 mg:=X.mg
 base:=X.base
 A:=X.A
 N:=N
 s₀:=s
 H₀:=H
 env:=compEnvC a (gT a C X.env) C X.env
 outer:=X.stack
 stack:=X.stack
 ex:=b
 fn:=λx=>y9 (a.names.lookup x=k0 .cell)
 calm:=X.calm
 pn:= []
 xe:=λ_ _=>False
def cH (X:Cx):List Nat->List Str->Prop
 | [],[]=>True
 | j::a,x::xs=>X.N[j]? =k0 x/\(X.env.kindOf x=k0 .cell\/X.env.kindOf x=k0 .free)/\cH X a xs
 | _,_=>False
theorem cH.get {U:St}: ∀ {aB}{xs}{i:Nat}{x}{v},cH X aB xs->xs[i]? =k0 x->(aB.map λj=>(U[j]?).join)[i]? =k0 (k0 v) →
 ∃j:Nat,X.N[j]? =k0 x/\U[j]? =k0 (k0 v)/\(X.env.kindOf x=k0 .cell\/X.env.kindOf x=k0 .free)
 | [],[],_,_,_,_,e,_=>by simp at e
 | [],_::_,_,_,_,h,_,_=>h.elim
 | _::_,[],_,_,_,h,_,_=>h.elim
 | j::c,d::xs,0,x,v,h,e1,e2=>by
  obtain⟨a,b,_⟩:=h
  simp at e1
  subst e1
  refine⟨j,a,?_,b⟩
  have e2:k0 ((U[j]?).join)=k0 (k0 v):=by simpa using e2
  have e2:=Ad5.inj e2
  cases q:U[j]? with
  | none=>rw [q]at e2;cases e2
  | some z=>rw [q]at e2;have:z=k0 v:=e2;rw [this]
 | j::c,d::xs,i+1,x,v,h,e1,e2=>cH.get h.2.2 (by simpa using e1) (by simpa using e2)
theorem cH.length : ∀ {aB}{xs},cH X aB xs->aB.length=xs.length
 | [],[],_=>rfl
 | [],_::_,h=>h.elim
 | _::_,[],h=>h.elim
 | _::_,_::_,h=>congrArg (· +1) (cH.length h.2.2)
def l4 (k:Nat) (aB:List Nat) (U:St):St:=Aa3 k y0++aB.map λ(j:Nat)=>(U[j]?).join
def gv (X:Cx) (a:List Expr) (t:TT):Prop:=
 ∀(pins:List (Addr×Obj)) (s:Shared) (U:St) (H:Hp) (Q:Bool->Hp->Prop),Inv X pins U H s->t U H Q →
  wpAny (model X.prog X.w) X.A (forIn a u0 λc r=>if r=u0 then do let ok ←isTrue c X.env (eval c X.env);pure (ForInStep.yield ok)else pure (ForInStep.yield r)) (TP X pins U Q) X.xe s
def Ic:TT:=λ_ H Q=>Q u0 H
def ue :gv X [] Ic:=λ_ _ _ H _ I h=>wpAny_tests_nil ⟨H,I,h⟩
def uz (h:PT X c t):gv X [c] t:=λa s U H Q I b=>wpAny_tests_one (h a s U H Q I b)
def FU (J:It) (g:TG) (k:TT) (l:TE) (e:St) (n:Hp) (Q:VK):Prop:= ∃W:Nat->Nat->List V->St->Hp->Prop,(∃ m,W 0 m [] e n)/\ ∀i m ys τ H,W i m ys τ H →
 (J.stop i H/\ys.length<=sizeLine/\ ∀D,H D=y0->Q (.ref D) (aM H D (.lst ys))) ∨
 (J.go i H/\ys.length<sizeLine/\ ∃N:List V->St->Hp->Prop,(∀ d c H',N d c H'-> ∃h,h<m/\W (i+1) h d c H') ∧
   ∀x H',J.fc i H x H'->g x τ H' λa H2=>k a H2 λb f=>if b=u0 then l a f λy j=>N (ys++ [y]) a j else N ys a f)
abbrev kq (a:Type):=Addr->List Addr->Shared->Hp->a
def mi (k:Nat) (aB:List Nat) (c:TI) (g:kq TG) (a:kq TT) (b:kq TE):TE:=λU H Q=>c U H λJ H1=> ∀C fp s,FU J (g C fp s H1) (a C fp s H1) (b C fp s H1) (l4 k aB U) H1 Q
def Inv.adopt (I:Inv X pins U H s) (A:bu X pins H D) (v:X.s₀.heap.objs.size<=D)
 (e:s.heap.get? D=k0 { cls:= .type "list",data:= .seq its.toArray n }) (r:Vals ys its) (k:ys.length<=sizeLine):Inv X pins U (aM H D (.lst ys)) s:=by
 obtain⟨C,m,E,F,w,t⟩:=A
 have up: ∀b o,H b=k0 o->aM H D (.lst ys) b=k0 o:=λb o q=>by rw [Qa (wb q C)];exact q
 have a: ∀b o,X.s₀.heap.get? b=k0 o->b≠D:=λb o q z=>by rw [z]at q;exact absurd (Ab4 (Ac1 q) v) (Ai3 _)
 refine⟨I.ok,I.os,I.bare,⟨I.base.keep,I.base.slot,λb o f l y=> ?_,I.base.there,λb h q=>up b _ (I.base.eh b h q),λb o u q=>up b _ (I.base.dM b o u q),λb B q=> ?_⟩,I.loc,I.cell,?_,λx c q=> ?_,λp d=> ?_,λb u q=> ?_,I.len⟩
 ·rw [Qa (a b o f)];exact I.base.free b o f l y
 ·obtain⟨more,j⟩:=I.base.d9 b B q
  exact⟨more,up b _ j⟩
 ·rw [Qa (Ne.symm m)];exact I.free
 ·rw [Qa (w x c q)];exact I.cE x c q
 ·obtain⟨i,a2,a3⟩:=I.pin p d
  exact⟨i,by rw [Qa (t p d)];exact a2,a3⟩
 ·by_cases g:b=D
  ·subst g
   rw [wc]at q
   cases q
   exact⟨k,its,n,r,e⟩
  ·rw [Qa g]at q
   exact(I.a8 b u q).dO (λ_ _ _ z=>z) (λc z=>up c _ z) λc h z=>up c _ z
theorem wj {env:Env}: ∀ {b:List (Str×NameKind)}{x},b.lookup x=k0 .free →
 ((b.map λ(n,k)=>if(k==NameKind.free&&env.scope.kind== .function&&env.kindOf n==k0 .cell)then(n,NameKind.cell)else(n,k)).lookup x=k0 .cell ∨
   (b.map λ(n,k)=>if(k==NameKind.free&&env.scope.kind== .function&&env.kindOf n==k0 .cell)then(n,NameKind.cell)else(n,k)).lookup x=k0 .free)
 | [],_,h=>by simp at h
 | (n,k)::r,x,h=>by
  have e:= @wj env r x
  rw [Ab1]
  rw [Ab7]at h
  cases d:x==n with
  | true=>
   rw [d]at h
   have f:=by simpa using h
   subst f
   by_cases a:(NameKind.free==NameKind.free&&env.scope.kind== .function&&env.kindOf n==k0 .cell)=u0
   ·simp only [a,if_true,Ab7,d]
    first | exact .inl rfl | exact .inl trivial | simp
   ·have c:=Ak6.mpr a
    simp only [c,Ak3,if_false,Ab7,d]
    first | exact .inr rfl | exact .inr trivial | simp
  | false=>
   rw [d]at h
   have q:=e h
   by_cases a:(k==NameKind.free&&env.scope.kind== .function&&env.kindOf n==k0 .cell)=u0
   ·simp only [a,if_true,Ab7,d]
    exact q
   ·have c:=Ak6.mpr a
    simp only [c,Ak3,if_false,Ab7,d]
    exact q
structure W4 (X:Cx) (scope:Scope) (N:List Str) (k:Nat) (aB:List Nat):Prop where
 kind:scope.kind= .function
 nd:(scope.names.map Prod.fst).Nodup
 names: ∀y∈scope.names,y.2= .local->scope.names.lookup y.1=k0 .local
 free: ∀y∈scope.names,y.2= .free->X.env.kindOf y.1=k0 .cell\/X.env.kindOf y.1=k0 .free
 gB: ∀x∈N.drop k,scope.names.lookup x=k0 .free
 aB:cH X aB (N.drop k)
 le:k<=N.length
structure Mv (sc scope:Scope) (N:List Str) (k:Nat):Prop where
 kind:scope.kind= .function
 nd:(scope.names.map Prod.fst).Nodup
 names: ∀y∈scope.names,y.2= .local->scope.names.lookup y.1=k0 .local
 free: ∀y∈scope.names,y.2= .free->sc.names.lookup y.1=k0 .cell\/sc.names.lookup y.1=k0 .free
 gB: ∀x∈N.drop k,scope.names.lookup x=k0 .free
 le:k<=N.length
section
variable {X:Cx}{elt tg iter:Expr}{ifs:List Expr}{scope:Scope}{pos p0:Pos}{N:List Str}{k:Nat}{aB:List Nat}{wi:TI}{g:kq TG}{tc:kq TT}{te:kq TE}
def BF (ok:W4 X scope N k aB) (a:Inv X pins U H2 s2) (H: ∀b∈fp,bu X pins H2 b) (P: ∀b∈fp,b<s2.heap.objs.size)
 (t:s2.heap.objs.size<=C) (L:h₁.Ns C m) (f: ∀b o,s2.heap.get? b=k0 o->h₁.get? b=k0 o)
 (d: ∀x c,(gT scope C X.env).lookup x=k0 c->(wT scope X.env).lookup x=k0 c\/(C+1<=c/\(x,NameKind.cell)∈scope.names/\h₁.IsCell c y0)):
 Inv (je X N scope C fp s2 H2) [] (l4 k aB U) H2 { s2 with heap:=h₁,toks:=tk }:=by
 have sub: ∀x c,(wT scope X.env).lookup x=k0 c->X.env.cells.lookup x=k0 c:=zI scope.names [] λx c e=>by simp at e
 have F: ∀x,(x,NameKind.free)∈scope.names-> ∃c,(wT scope X.env).lookup x=k0 c:=λx I=>by
  obtain⟨c,w⟩:=a.ok.has x (ok.free _ I rfl)
  exact J1 w scope.names [] (.inl I)
 have lt: ∀x c,(wT scope X.env).lookup x=k0 c->c<C+1:=λx c e=>by
  obtain⟨v,o,A,_⟩:=a.cell x c (sub x c e)
  exact Nat.lt_succ_of_le (Ab5 (Ag3 (Ac1 A)) t)
 have inj:=nB scope.names _ _ lt λx y c B G=>a.ok.inj x y c (sub x c B) (sub y c G)
 have keep: ∀x c,(x,NameKind.free)∈scope.names->(wT scope X.env).lookup x=k0 c->(gT scope C X.env).lookup x=k0 c:=λx c I e=>by
  unfold gT
  rw [W9 scope.names _ _ λz=>by cases r6 ok.nd I z]
  exact e
 have D: ∀x,_∈scope.names\/(x,NameKind.cell)∈scope.names-> ∃c,(gT scope C X.env).lookup x=k0 c:=λx n=>by
  rcases n with n | n
  ·obtain⟨c,w⟩:=F x n
   exact⟨c,keep x c n w⟩
  ·exact Ah9.mp (Am4 scope.names _ _ (.inl (Z7 ok.nd n)))
 refine⟨⟨a.ok.mod,ok.kind,a.ok.glob,a.ok.blt,t,inj,λx n=>D x (XX n),λx c s e=> ?_,a.ok.hd,a.ok.frames,.inl rfl,λb h=>⟨?_,λx c e=> ?_⟩,
  λb o e=>a.bs b o e,Ab5 a.ok.g9 a.sz,λb o e h=> ?_,λb h z=>(Ac.mp (a.dw b z)).elim (H b h).2.1 (H b h).2.2.1,a.stack,a.eL⟩,
  rfl,a.bare,Un.kept f,⟨m,L,λi x v e1 e2 W=> ?_⟩,λx c e=> ?_,a.a8.fresh t,λx c e=> ?_,λp S=>absurd (show p∈([]:List _)from S) (by simp),a.a8.kept f,?_⟩
 ·have s:=of_decide_eq_true s
  rcases d x c e with q | q
  ·rcases ZO scope.names [] q with z | z
   ·simp at z
   ·have:=Z7 ok.nd z
    rw [s]at this
    cases this
  ·exact Ab5 t (Ab5 (Ag6 C) q.1)
 ·show b≠C
  exact Ac7 (Ab4 (P b h) t)
 ·rcases d x c e with q | q
  ·exact(H b h).2.2.2.2.1 x c (sub x c q)
  ·exact Ne.symm (Ac7 (Ab4 (P b h) (Ab5 t (Ab5 (Ag6 C) q.1))))
 ·rcases (H b h).2.2.2.1 with z | z
  ·exact a.ok.ig b o e z
  ·have B:=Ac1 e
   have G:=a.ok.g9
   exact absurd (Ab4 B (Ab5 G z)) (Ai3 _)
 ·have g:k<=i:=by
   by_cases g:i<k
   ·have e2:(Aa3 k y0++aB.map λ(j:Nat)=>(U[j]?).join)[i]? =k0 _:=e2
    rw [Ad2 (by simpa using g),Ai2,if_pos g]at e2
    cases e2
   ·omega
  have E:(N.drop k)[i-k]? =k0 x:=by
   rw [List.getElem?_drop,show k+(i-k)=i by omega];exact e1
  have M:(aB.map λ(j:Nat)=>(U[j]?).join)[i-k]? =k0 (k0 v):=by
   have e2:(Aa3 k y0++aB.map λ(j:Nat)=>(U[j]?).join)[i]? =k0 _:=e2
   rw [Ad9 (by simpa using g),Ad3]at e2
   exact e2
  obtain⟨j,V,Q,O⟩:=ok.aB.get (U:=U) E M
  obtain⟨m2,Y,R⟩:=a.loc
  obtain⟨u,r,l⟩:=R j x v V Q (.inr (O.elim (λz=> .inl z) λz=> .inr z))
  refine⟨u,r,.inr ?_⟩
  have s:=ok.gB x (Ac4 E)
  refine⟨wj s,?_⟩
  obtain⟨c,w⟩:=F x (PySem.mem_of_lookup s)
  refine⟨c,keep x c (PySem.mem_of_lookup s) w,?_⟩
  rcases l with⟨T,_⟩ | ⟨_,Z,K,o,A,J⟩
  ·rcases O with z | z<;>(rw [T]at z;cases z)
  ·have d:=sub x c w
   rw [K]at d
   cases d
   exact⟨o,f _ o A,J⟩
 ·rcases d x c e with q | q
  ·obtain⟨v,o,A,J⟩:=a.cell x c (sub x c q)
   exact⟨v,o,f c o A,J⟩
  ·exact⟨y0,q.2.2⟩
 ·rcases d x c e with q | q
  ·exact a.cE x c (sub x c q)
  ·exact a.a8.fresh (Ab5 t (Ab5 (Ag6 C) q.1))
 ·show(Aa3 k y0++aB.map λ(j:Nat)=>(U[j]?).join).length=N.length
  have B:=ok.aB.length
  have G:=ok.le
  rw [Aa5,Ad3,Aa,B,Af7]
  omega
def WV (use) (hc:X.calm=u0) (ok:W4 X scope N k aB) (hi:PI X tg iter wi)
 (hg: ∀C fp s H,PG (je X N scope C fp s H) tg (g C fp s H)) (ht: ∀C fp s H,gv (je X N scope C fp s H) ifs (tc C fp s H)) (he: ∀C fp s H,PE (je X N scope C fp s H) elt (te C fp s H))
 (hs: ∀x,foldedSetIterable iter X.env x=pure x)
 (I:Inv X pins U H s) (h:mi k aB wi g tc te U H Q)
 (fin: ∀(D C:Addr) (oC:Obj) (m:Str->Option Value) (H4:Hp) (s4:Shared),Inv X (pins++ [(C,oC)]) U H4 s4->bu X pins H4 C->Q (.ref D) H4->(∀ h:Heap,h.get? C=k0 oC->h.Ns C m) →
   compPost (model X.prog X.w) X.A X.xe use Q' (.ref D) C (.ok .next) s4):
 wpAny (model X.prog X.w) X.A (comprehension (.ListComp elt [⟨tg,iter,ifs,0⟩] scope pos) scope X.env p0 (newList []) k9 (eval iter X.env) use) Q' X.xe s:=by
 have hcl:closureFor scope X.env=pure _:=qS λy hy hf=>I.ok.has y.1 (ok.free y hy hf)
 refine wpAny_comprehension_free (use:=use) rfl hs hcl ok.kind ok.names (aQ (hi pins s U H _ I h) λv s1 h1=>aQ h1 λitv s2 h2=> ?_)
 obtain⟨it,fp,tn,J,H2,e,I2,T,st2,f2,hW⟩:=h2
 subst e
 refine wpAny_newObj_type (qB ?_)
 dsimp only
 generalize hHp:s2.heap.push { cls:= .type "list",dict:=none,data:= .seq ([]:List Value).toArray }=HP
 have hCs:HP.objs.size=s2.heap.objs.size+1:=by rw [← hHp,Ak8]
 generalize hDD:s2.heap.objs.size=D at hCs ⊢
 have hns0:(HP.push { cls:= .type "dict",data:= .dict #[] }).Ns HP.objs.size fun _=>none:=Heap.Ns.new HP _
 have hlk: ∀x c,(gT scope HP.objs.size X.env).lookup x=some c->(wT scope X.env).lookup x=some c\/(HP.objs.size+1<=c/\(x,NameKind.cell)∈scope.names/\(pushCells (HP.push { cls:= .type "dict",data:= .dict #[] }) scope.names).IsCell c none):=fun x c e=>by
  refine j6 scope.names _ _ True (λ_=> .inl trivial) _ (by rw [Ak8];exact Ab _) ?_
  rw [Ak8]
  exact e
 generalize hh1:pushCells _ scope.names=h₁ at hlk ⊢
 have hns₁:h₁.Ns HP.objs.size λ_=>none:=by rw [← hh1];exact hns0.keeps (pushCells_keeps _ _)
 have hk1: ∀b o,HP.get? b=k0 o->h₁.get? b=k0 o:=λb o e=>by
  rw [← hh1]
  exact pushCells_keeps _ _ b o (Ab3 _ e)
 generalize hCC:HP.objs.size=C at hCs hns₁ hlk ⊢
 have hDC:D≠C:=by rw [hCs];exact Ac7 (Ag _)
 have hle:s2.heap.objs.size<=C:=by rw [hDD,hCs];exact Ag6 _
 have hleD:s2.heap.objs.size<=D:=Al0 hDD
 have fo: ∀b∈fp,b<D:=λb hb=>by
  obtain⟨o,eo,_⟩:=T.obj _ _ st2 b hb
  rw [← hDD]
  exact Ac1 eo
 have old: ∀b o,s2.heap.get? b=k0 o->h₁.get? b=k0 o:=λb o e=>by
  exact hk1 b o (hHp▸Ab3 _ e)
 have hacc:h₁.get? D=k0 { cls:= .type "list",data:= .seq ([]:List Value).toArray }:=by
  refine hk1 _ _ ?_
  rw [← hHp,←hDD]
  exact Ac6 _ rfl
 obtain⟨W,⟨m0,w0⟩,turn⟩:=hW C fp s2
 have I3:Inv _ [] _ H2 { s2 with heap:=h₁,toks:=s2.toks }:=
  BF ok I2 f2 (λb hb=>by rw [hDD];exact fo b hb) hle hns₁ old hlk
 have st3:tn 0 h₁:=T.keep _ _ _ st2 λb _ o e=>old b o e
 have hch: ∀b∈fp,_/\b≠X.env.locals/\(∀ x c,X.env.cells.lookup x=k0 c->c≠b)/\ ∀p∈X.pn++pins,p.1≠b:=λb hb=>⟨(f2 b hb).2.2.2.1,(f2 b hb).2.1,(f2 b hb).2.2.2.2.1,(f2 b hb).2.2.2.2.2⟩
 have FD: ∀ {H':Hp},H' D=y0->bu X pins H' D:=λhn=>I2.c7 hleD hn
 have FC: ∀ {H':Hp},H' C=y0->bu X pins H' C:=λhn=>I2.c7 hle hn
 have sub: ∀x c,(wT scope X.env).lookup x=k0 c->X.env.cells.lookup x=k0 c:=zI scope.names [] λx c e=>by simp at e
 have hDst:D∉fe X.stack:=λz=>(Ac.mp (I2.dw D z)).elim (FD (H':=λ_=>y0) rfl).2.1 (FD (H':=λ_=>y0) rfl).2.2.1
 have hDc: ∀x c,(gT scope C X.env).lookup x=k0 c->c≠D:=λx c e=>by
  rcases hlk x c e with q | q
  ·exact(FD (H':=λ_=>y0) rfl).2.2.2.2.1 x c (sub x c q)
  ·exact Ne.symm (Ac7 (Ab4 (by rw [hCs];exact Nat.lt_succ_of_lt (Ag _)) q.1))
 have loop: ∀s₃:Shared,s₃= { s2 with heap:=h₁,toks:=s2.toks } →
  codeAny (model X.prog X.w) X.A (.compLoop (.ListComp elt [⟨tg,iter,ifs,0⟩] scope pos) 0 (.ref it) (.ref D) (compEnvC scope (gT scope C X.env) C X.env))
   (compPost (model X.prog X.w) X.A X.xe use Q' (.ref D) C) s₃:=by
  rintro s₃ rfl
  refine Z3 (λn s'=> ∃i ys its kk τ H',Inv (je X N scope C fp s2 H2) [] τ H' s'/\tn i s'.heap/\(∀ b∈fp,H' b=y0)/\H' D=y0/\s'.heap.get? D=k0 { cls:= .type "list",data:= .seq (its:List Value).toArray kk }/\Vals ys its/\W i n ys τ H')
   ?_ m0 ⟨0,[],[],0,_,H2,I3,st3,λb hb=>(f2 b hb).1,I2.a8.fresh hleD,hacc,.nil,w0⟩
  rintro n s3 ⟨i,ys,its,kk,τ,H3,I3,st3,fr3,hD3,eD3,rv3,w3⟩
  have IP:Inv (je X N scope C fp s2 H2) [(D,{ cls:= .type "list",data:= .seq its.toArray kk })] τ H3 s3:=I3.bU fun p hp=>by
   have e:p=(D,{ cls:= .type "list",data:= .seq its.toArray kk }):=by simpa using hp
   subst e
   exact⟨eD3,hD3,hDC,hDst,λv z=>by cases z⟩
  have fpok: ∀ {H':Hp},(∀ b∈fp,H' b=y0)-> ∀b∈fp,bu (je X N scope C fp s2 H2) [(D,{ cls:= .type "list",data:= .seq its.toArray kk })] H' b:=fun {H'} hn b hb=>by
   refine⟨hn b hb,I3.ok.vp b hb |>.1,I3.ok.iS b hb,.inl hb,I3.ok.vp b hb |>.2,λp hp=> ?_⟩
   have e:p=(D,{ cls:= .type "list",data:= .seq its.toArray kk }):=by
    have hp:p∈([]:List (Addr×Obj))++ [(D,{ cls:= .type "list",data:= .seq its.toArray kk })]:=hp
    simpa using hp
   rw [e]
   exact Ne.symm (Ac7 (fo b hb))
  rcases turn i n ys τ H3 w3 with⟨stop,hz,q⟩ | ⟨go,hz,NN,hN,step⟩
  ·refine aQ (T.done (je X N scope C fp s2 H2) rfl rfl rfl hc i _ s3 τ H3 _ IP (fpok fr3) st3 stop) ?_
   rintro r s4 ⟨hr,I4⟩
   subst hr
   have eD4:=(I4.pin _ (Ab0 _ Aa4)).1
   have I5:Inv X pins U H3 s4:=I2.kM (ch:=fp) I4.os I4.base I4.a8 I4.bare hch
   have I6:=I5.adopt (FD hD3) (Ab5 I2.sz hleD) eD4 rv3 hz
   obtain⟨m,⟨oC,es,ep,hoC,hdC,hr⟩,_⟩:=I4.loc
   have fC:bu X pins (aM H3 D (.lst ys)) C:=FC (by rw [Qa (Ne.symm hDC)];exact I4.free)
   have I7:Inv X (pins++ [(C,oC)]) U (aM H3 D (.lst ys)) s4:=I6.bU λp hp=>(Ac5.mp hp).elim (λz=>I6.pin p (Ab0 _ z)) λz=>by
    have e:p=(C,oC):=by simpa using z
    subst e
    exact⟨hoC,fC.1,fC.2.1,fC.2.2.1,λv z=>by rw [hdC]at z;cases z⟩
   exact fin D C oC m _ s4 I7 fC (q D hD3) λh e=>⟨oC,es,ep,e,hdC,hr⟩
  ·refine aQ (T.item (je X N scope C fp s2 H2) rfl rfl rfl hc i _ s3 τ H3 _ IP (fpok fr3) st3 go) ?_
   rintro r s4 ⟨u,hr,h4⟩
   subst hr
   refine aQ h4 ?_
   rintro _ s5 ⟨x,H5,I5,r5,y5,st5,fr5⟩
   have I5':=I5.pinned (fpok fr5) (T.obj _ _ st5)
   refine wpAny_mono (hg C fp s2 H2 _ s5 τ H5 x u _ I5' r5 (step x H5 y5)) (λ_ s6 ⟨U6,H6,I6,q6⟩=> ?_) λ_ _ z=>False.elim z
   refine wpAny_mono (ht C fp s2 H2 _ s6 U6 H6 _ I6 q6) (λb s7 ⟨H7,I7,q7⟩=> ?_) λ_ _ z=>False.elim z
   have hp5: ∀b∈fp,∃o,s5.heap.get? b=k0 o:=λb hb=>let ⟨o,e,_⟩:=T.obj _ _ st5 b hb; ⟨o,e⟩
   cases b with
   | false=>
    rw [if_neg Ab2]at q7 ⊢
    obtain⟨m',hm,w7⟩:=hN _ _ _ q7
    refine⟨m',hm,i+1,ys,its,kk,U6,H7,I7.bU λp hp=>absurd hp (by simp),T.keep _ _ _ st5 λb hb o e=>(I7.pin (b,o) (Ab0 _ (Ab0 _ (Zg hb e)))).1,λb hb=> ?_,?_,?_,rv3,w7⟩
    ·obtain⟨o,e⟩:=hp5 b hb
     exact(I7.pin (b,o) (Ab0 _ (Ab0 _ (Zg hb e)))).2.1
    ·exact(I7.pin _ (Ab0 _ (Ad0 _ Aa4))).2.1
    ·exact(I7.pin _ (Ab0 _ (Ad0 _ Aa4))).1
   | true=>
    rw [if_pos rfl]at q7 ⊢
    refine wpAny_mono (he C fp s2 H2 _ s7 U6 H7 _ I7 q7) (λy s8 ⟨yv,H8,I8,r8,q8⟩=> ?_) λ_ _ z=>False.elim z
    have pD:=I8.pin _ (Ab0 _ (Ad0 _ Aa4))
    have eD8:s8.heap.get? D=k0 { cls:= .type "list",data:= .seq its.toArray kk }:=pD.1
    have hD8:H8 D=none:=pD.2.1
    have u8:=rv3.length
    refine call_meets F.slot_list_append ⟨_,eD8,rfl⟩ F.entry_list_append (F.args_list_append_2 _ _) (PySem.list_append D its.toArray kk y (by rw [Ac0];omega)) ⟨eD8,?_⟩
    obtain⟨m',hm,w8⟩:=hN _ _ _ q8
    have IQ:Inv (je X N scope C fp s2 H2) (JN fp s5.heap) U6 H8 s8:=I8.bU λp hp=>I8.pin p (Ab0 _ (Ab0 _ hp))
    have e9:=PySem.IsL.update eD8 (·.push y)
    rw [show its.toArray.push y=(its++ [y]).toArray by simp]at e9
    have I9:Inv (je X N scope C fp s2 H2) (JN fp s5.heap) U6 H8 { s8 with heap:=s8.heap.update D (Obj.mapSeq (·.push y)),toks:=s8.toks }:=
     IQ.turned (it:=D) (λb o hb e=>(Am8 s8.heap (Obj.mapSeq (·.push y)) (Ne.symm hb)).trans e) hD8 hDC (.inr hleD) hDc λp hp=>by
      have hp:p∈([]:List (Addr×Obj))++JN fp s5.heap:=hp
      have:=fo p.1 (zY (by simpa using hp)).1
      exact Ac7 this
    refine⟨m',hm,i+1,ys++ [yv],its++ [y],_,U6,H8,I9.bU λp hp=>absurd hp (by simp),T.keep _ _ _ st5 λb hb o e=>(I9.pin (b,o) (Ab0 _ (Zg hb e))).1,λb hb=> ?_,hD8,e9,rv3.append (.cons r8 .nil),w8⟩
    obtain⟨o,e⟩:=hp5 b hb
    exact(I9.pin (b,o) (Ab0 _ (Zg hb e))).2.1
 exact codeAny_compStart_list (loop _ rfl) (T.self _ 0 _ _ _ st3 (loop _ rfl))
def IE (ok:W4 X scope N k aB) (w:PI X tg iter wi)
 (t: ∀C fp s H,PG (je X N scope C fp s H) tg (g C fp s H)) (p: ∀C fp s H,gv (je X N scope C fp s H) ifs (tc C fp s H)) (r: ∀C fp s H,PE (je X N scope C fp s H) elt (te C fp s H))
 (n:X.calm=true:=by rfl) (v: ∀x,foldedSetIterable iter X.env x=pure x:=by intro _;rfl):PE X (.ListComp elt [⟨tg,iter,ifs,0⟩] scope pos) (mi k aB wi g tc te):=by
 intro i s U H Q I h
 refine WV y0 n ok w t p r v I h λD C y m j z f a q d=> ?_
 have l:=f.pin _ (Ab0 _ (Ab0 _ Aa4))
 refine⟨m,d _ l.1,λA c=>⟨.ref D,j,?_,rfl,q⟩⟩
 exact(f.bJ).turned (λb o u e=>c.extBut b o u e) a.1 a.2.1 a.2.2.2.1 a.2.2.2.2.1 a.2.2.2.2.2
def ES (E:X.N.Nodup) (c:X.N[i]? =k0 x) (L:kf X.env.scope x) (ok:W4 X scope N k aB) (K:PI X tg iter wi)
 (F: ∀C fp s H,PG (je X N scope C fp s H) tg (g C fp s H)) (A: ∀C fp s H,gv (je X N scope C fp s H) ifs (tc C fp s H)) (B: ∀C fp s H,PE (je X N scope C fp s H) elt (te C fp s H))
 (j:swapsWith (.ListComp elt [⟨tg,iter,ifs,0⟩] scope p0) (k0 (.Name x pos')) pos.line X.env=pure true:=by rfl)
 (z:X.calm=true:=by rfl) (J: ∀x,foldedSetIterable iter X.env x=pure x:=by intro _;rfl) (p:X.fn x=u0\/X.env.scope.names.lookup x=k0 .local:=by first | exact .inl rfl | exact .inr rfl | assumption):
 PS X (.Assign [.Name x pos'] (.ListComp elt [⟨tg,iter,ifs,0⟩] scope p0) pos) (gX (mi k aB wi g tc te) (ZY i)):=by
 intro n s U H D I h
 rw [exec_Assign_Name_used _ _ _ _ j]
 refine wpAny_bind (wpAny_standAt (wpAny_bind ?_))
 refine wpAny_bind (wpAny_mono (WV _ z ok K F A B J I h λw C P m u Q r a q f=> ?_) (λ_ O t=>wpAny_pure (wpAny_pure t)) λ_ _ e=>e)
 refine wpAny_assign_Name (zQ r E c L (v:= .ref w) rfl (λM l=> ?_) p)
 have y:=l.pin _ (Ab0 _ (Ab0 _ Aa4))
 refine⟨m,f _ y.1,λR d=>⟨_,u,?_,q⟩⟩
 exact(l.bJ).turned (λb o G e=>d.extBut b o G e) a.1 a.2.1 a.2.2.2.1 a.2.2.2.2.1 a.2.2.2.2.2
end
structure Mr (P:Program) (w:World) (K:Aa9) (mg:Str->Option Value) (base:Heap) (k:Nat) (x:Str) (ps:List Str) (sp:Sp):Prop where
 ex: ∃f fd,QF P w K mg base lB k f fd ps sp/\Binds K fd ps []/\Ah4 K (.ref f)=u0/\mg x=k0 (.ref f)
open PySem PySem.Spec PySem.Calls PySem.W PyProof.Rows
structure Mm (K:Frag) (C:Addr):Prop where
 ga:findIn K (.ref C) "__getattribute__" =some (some (.builtin "BaseException.__getattribute__"))
 gn:findIn K (.ref C) "__getattr__" =some none
 cl:findIn K (.ref C) "__class__" =some (some (.builtin "object.__class__"))
 get:specialIn K (.builtin "object.__class__") "__get__" =some (some (.builtin "getset_descriptor.__get__"))
 set:takesIn K (.builtin "object.__class__")=some true
 obj:mroIn K C (.type "object")=some true
 bas:mroIn K C (.type "BaseException")=some true
 slf:kitCls K (.ref C) (.ref C)=k0 u0
 cls:(clsIn K C).isSome=u0
section
variable {P:Program}{w:World}{K:Frag}{mg:Str->Option Value}{base:Heap}{N:List Str}{y8:Str}{scope:Scope}{f:Addr}{cd:Value}{A:Around}{outer:List Env}{s:Shared}{H:Hp}{E:XK}
abbrev vZ:List Value:= [.type "ValueError",.type "Exception",.type "BaseException",.type "object"]
end
noncomputable def iT (x:Str):It:=⟨λi _=> ∃c,x.cps[i]? =k0 c,λi H y H'=>H'=H/\ ∃c,x.cps[i]? =k0 c/\y= .str ⟨#[c]⟩,λi _=>x.cps[i]? =y0⟩
def AM {K:PySem.W.Frag}(it) (x) (t):ik P w K tg (iT x) [it] it (λi h=>h.IsStrIter it "str_ascii_iterator" x t i) where
 mem:=by simp
 obj:=λi h a b g=>by
  have e:=by simpa using g
  subst e
  obtain⟨o,e,c,d⟩:=a
  exact⟨o,e,λv z=>by rw [d]at z;cases z⟩
 keep:=λi h u a k=>by
  obtain⟨o,e,c,d⟩:=a
  exact⟨o,k it (by simp) o e,c,d⟩
 item:=by
  intro X J D C A i f s U H E I l a r
  obtain⟨c,B⟩:=r
  obtain⟨m,y,M,n,p,q⟩:=l it (by simp)
  refine wpAny_pyNext_ascii_item a B λu j L=> ?_
  have G:Inv X f U H { s with heap:=u,toks:=s.toks+1 }:=I.turned (λb o g e=>(L.2 b g).trans e) m y n p q
  obtain⟨o,e,N,d⟩:=id j
  exact⟨_,rfl,kF e N d (by decide) ⟨.str ⟨#[c]⟩,H,G,⟨_,rfl⟩,⟨rfl,c,B,rfl⟩,j,λb g=>(l b g).1⟩⟩
 done:=by
  intro X J D C A i f s U H E I l a r
  obtain⟨m,y,M,n,p,q⟩:=l it (by simp)
  exact wpAny_pyNext_ascii_end (I.ok.hd A) a r λu F=>⟨rfl,I.turned (λb o g e=>F b o g e) m y n p q⟩
 self:=λ_ _ _ _ _ a h=>wpAny_pyIter_striter_ascii a h
def Ez {K:PySem.W.Frag}(it) (x) (t):ik P w K tg (iT x) [it] it (λi h=>h.IsStrIter it "str_iterator" x t i) where
 mem:=by simp
 obj:=λi h a b g=>by
  have e:=by simpa using g
  subst e
  obtain⟨o,e,c,d⟩:=a
  exact⟨o,e,λv z=>by rw [d]at z;cases z⟩
 keep:=λi h u a k=>by
  obtain⟨o,e,c,d⟩:=a
  exact⟨o,k it (by simp) o e,c,d⟩
 item:=by
  intro X J D C A i f s U H E I l a r
  obtain⟨c,B⟩:=r
  obtain⟨m,y,M,n,p,q⟩:=l it (by simp)
  refine wpAny_pyNext_wide_item a B λu j L=> ?_
  have G:Inv X f U H { s with heap:=u,toks:=s.toks+1 }:=I.turned (λb o g e=>(L.2 b g).trans e) m y n p q
  obtain⟨o,e,N,d⟩:=id j
  exact⟨_,rfl,kF e N d (by decide) ⟨.str ⟨#[c]⟩,H,G,⟨_,rfl⟩,⟨rfl,c,B,rfl⟩,j,λb g=>(l b g).1⟩⟩
 done:=by
  intro X J D C A i f s U H E I l a r
  obtain⟨m,y,M,n,p,q⟩:=l it (by simp)
  exact wpAny_pyNext_wide_end (I.ok.hd A) a r λu F=>⟨rfl,I.turned (λb o g e=>F b o g e) m y n p q⟩
 self:=λ_ _ _ _ _ a h=>wpAny_pyIter_striter_wide a h
def Ek (K:Aa9) (b:TE):TI:=λU H R=>b U H λx H1=>(∃ a,x= .ref a/\(∃ xs,br K H1 a xs)/\R (ki K a) H1)\/(∃ a,x= .ref a/\(∃ xs,cJ K H1 a xs)/\R (kj K a) H1)\/ ∃z,x= .str z/\R (iT z) H1
def o4 (u:PE X l tl):PI X tg l (Ek X.K tl):=by
 intro g s U H R I h
 refine aQ (u g s U H _ I h) ?_
 rintro v d ⟨x,i,c,j,r⟩
 obtain⟨a,e,⟨y,k⟩,q⟩ | ⟨a,e,⟨y,k⟩,q⟩ | ⟨z,e,q⟩:=r
 ·subst e
  cases j
  obtain⟨m,rv,p,w⟩:=c.list k
  refine wpAny_pyIter_list p.isList ?_
  refine⟨d.heap.objs.size,[d.heap.objs.size],_,_,i,rfl,c.kept λb o e=>Ab3 _ e,Fs a _,⟨_,Ac6 _ rfl,rfl,rfl⟩,λb f=> ?_,q⟩
  have e:=by simpa using f
  subst e
  exact c.c7 (Ab _) (c.a8.fresh (Ab _))
 ·subst e
  cases j
  obtain⟨m,rv,p,w⟩:=c.tuple k
  refine wpAny_pyIter_tuple (p) ?_
  refine⟨d.heap.objs.size,[d.heap.objs.size],_,_,i,rfl,c.kept λb o e=>Ab3 _ e,Ho a _,⟨_,Ac6 _ rfl,rfl,rfl⟩,λb f=> ?_,q⟩
  have e:=by simpa using f
  subst e
  exact c.c7 (Ab _) (c.a8.fresh (Ab _))
 ·subst e
  obtain⟨t,rfl⟩:=j
  cases n:z.cps.all (· <128)with
  | true=>
   refine wpAny_pyIter_ascii n ?_
   refine⟨d.heap.objs.size,[d.heap.objs.size],_,_,i,rfl,c.kept λb o e=>Ab3 _ e,AM _ z t,⟨_,Ac6 _ rfl,rfl,rfl⟩,λb f=> ?_,q⟩
   have e:=by simpa using f
   subst e
   exact c.c7 (Ab _) (c.a8.fresh (Ab _))
  | false=>
   refine wpAny_pyIter_wide n ?_
   refine⟨d.heap.objs.size,[d.heap.objs.size],_,_,i,rfl,c.kept λb o e=>Ab3 _ e,Ez _ z t,⟨_,Ac6 _ rfl,rfl,rfl⟩,λb f=> ?_,q⟩
   have e:=by simpa using f
   subst e
   exact c.c7 (Ab _) (c.a8.fresh (Ab _))
section
variable {X:Cx}
def Vals.iD (r:Vals xs us){i:Nat}(h:us[i]? =k0 u): ∃x,xs[i]? =k0 x/\RelV x u:=by
 have e:=r.length
 have d:=(Aa1.mp h).1
 have b:i<xs.length:=by lia
 obtain⟨f,a,c⟩:=r.get (Aa6 b)
 rw [h]at a
 cases a
 exact⟨_,Aa6 b,c⟩
def HH (bs:List Bool):(Aa8 bs.length).all (λi=>bs.getD i k9)=bs.all id:=by
 induction bs with
 | nil=>rfl
 | cons b bs a=>
  rw [Aa7,Ah2,Ah5,An1,Ah5,←a]
  rfl
def Br (bs:List Bool):(Aa8 bs.length).any (λi=>bs.getD i k9)=bs.any id:=by
 induction bs with
 | nil=>rfl
 | cons b bs a=>
  rw [Aa7,Ah2,Af3,Ao9,Af3,←a]
  rfl
def xW {bs:List Bool}(r:Vals (bs.map V.bl) its):TruthOf P w A (λi v=>its.toArray[i]? =k0 v) (λi=>bs.getD i k9):=by
 intro i v s Q E g d
 obtain⟨x,a,f⟩:=r.iD (by simpa using g)
 rw [Ac2]at a
 cases c:bs[i]? with
 | none=>rw [c]at a;cases a
 | some b=>
  rw [c]at a
  cases a
  cases f
  refine wpAny_truthy_bool ?_
  have e:bs.getD i k9=b:=by rw [Ac8,c];rfl
  rw [← e]
  exact d
def CZ (k:X.calm=u0):zu X (.builtin "all") (fun xs H Q=> ∃p,∃bs:List Bool,xs= [.ref p]/\br X.K H p (bs.map V.bl)/\Q (.bl (bs.all id)) H):=by
 intro c s U H xs w Q I r h
 obtain⟨p,bs,rfl,j,q⟩:=h
 obtain⟨u,rfl,g⟩:=xM r
 cases g
 obtain⟨f,rv,pl,x⟩:=I.list j
 have a:=rv.length
 rw [Aa]at a
 refine call_all_walk (wpAny_pyIter_list pl.isList ?_)
 have d:p≠s.heap.objs.size:=by
  obtain⟨o,n,_⟩:=pl.isList
  exact Ac7 (Ac1 n)
 refine⟨s.heap.objs.size,_,_,_,_,_,λi=>bs.getD i k9,rfl,Walks.list (A:=X.A.in1) (I.ok.hd k) _ p d f.toArray,⟨⟨_,Ac6 _ rfl,rfl,rfl⟩,pl.isList.at λo e=>Ab3 _ e⟩,xW rv,λt m v=> ?_⟩
 have l:Inv X c U H { s with heap:=t,toks:=m }:=I.kept λb o e=>v b o (by simp;exact Ac7 (Ac1 e)) (Ab3 _ e)
 refine⟨.bl _,H,l,?_,q⟩
 show _=_
 rw [Ac0,←a,HH]
def II (k:X.calm=u0):zu X (.builtin "any") (fun xs H Q=> ∃p,∃bs:List Bool,xs= [.ref p]/\br X.K H p (bs.map V.bl)/\Q (.bl (bs.any id)) H):=by
 intro c s U H xs w Q I r h
 obtain⟨p,bs,rfl,j,q⟩:=h
 obtain⟨u,rfl,g⟩:=xM r
 cases g
 obtain⟨f,rv,pl,x⟩:=I.list j
 have a:=rv.length
 rw [Aa]at a
 refine call_any_walk (wpAny_pyIter_list pl.isList ?_)
 have d:p≠s.heap.objs.size:=by
  obtain⟨o,n,_⟩:=pl.isList
  exact Ac7 (Ac1 n)
 refine⟨s.heap.objs.size,_,_,_,_,_,λi=>bs.getD i k9,rfl,Walks.list (A:=X.A.in1) (I.ok.hd k) _ p d f.toArray,⟨⟨_,Ac6 _ rfl,rfl,rfl⟩,pl.isList.at λo e=>Ab3 _ e⟩,xW rv,λt m v=> ?_⟩
 have l:Inv X c U H { s with heap:=t,toks:=m }:=I.kept λb o e=>v b o (by simp;exact Ac7 (Ac1 e)) (Ab3 _ e)
 refine⟨.bl _,H,l,?_,q⟩
 show _=_
 rw [Ac0,←a,Br]
def gi:List Int->Int
 | []=>0
 | i::r=>i+gi r
theorem xY: ∀(xs) (x),gi (xs++ [x])=gi xs+x
 | [],x=>by simp [gi]
 | y::a,x=>by
  show y+gi (a++ [x])=y+gi a+x
  rw [xY a x];omega
theorem wJ (ns:List Int): ∀j,j<=ns.length->preSum (λi=>ns.getD i 0) j=gi (ns.take j)
 | 0,_=>rfl
 | j+1,h=>by
  rw [preSum,wJ ns j (by omega),List.take_succ,Aa6 (by omega)]
  show _=gi (ns.take j++ [ns[j]])
  rw [xY,Ac8,Aa6 (by omega)]
  rfl
end
section
variable {X:Cx}
theorem xC: ∀ {j}{i},Vals (j.map V.str) i->StrsAre i j
 | [],i,r=>by cases r;exact .nil
 | z::j,i,r=>by
  cases r with
  | cons h t=>
   obtain⟨k,rfl⟩:=h
   exact .cons _ _ (xC t)
theorem rm: ∀ {j}{i},StrsAre j i->Vals (i.map V.str) j
 | _,_,.nil=> .nil
 | _,_,.cons _ _ h=> .cons ⟨_,rfl⟩ (rm h)
def XW:zu X (.builtin "sorted") (fun xs H Q=> ∃p,∃j:List Str,xs= [.ref p]/\br X.K H p (j.map V.str)/\j.length<64/\ ∀i,i.Perm j->sortedS i=true-> ∀l,H l=none->Q (.ref l) (aM H l (.lst (i.map V.str)))):=by
 intro g s U H xs x Q I r h
 obtain⟨p,j,rfl,v,k,q⟩:=h
 obtain⟨u,rfl,m⟩:=xM r
 cases m
 obtain⟨d,rv,pl,f⟩:=I.list v
 have a:=rv.length
 rw [Aa]at a
 refine sorted_strs pl.isList (xC rv) (by lia) λc i n a2 a3=> ?_
 obtain⟨e,w⟩:=sortedAll_at s.heap d c
 have t:i.length<=sizeLine:=by rw [a2.length_eq];rw [Aa]at f;exact f
 refine⟨.ref _,_,I.laid (λb o e=>sortedAll_old e) (Ag6 _) (show a0 X.prog X.w _ _ _ (.lst _)from⟨by rw [Aa];exact t,c.toList,e,rm n,by simpa [seqObj]using w⟩),rfl,q i a2 a3 _ (I.a8.fresh (Ag6 _))⟩
end
section
variable {X:Cx}
def gR (x:Str) (n:Nat):Str:=⟨(Aa3 n x.cps).foldl (· ++ ·) #[]⟩
theorem j3 : ∀ n (a b:Array α),((Aa3 n a).foldl (· ++ ·) b).toList=b.toList++(Aa3 n a.toList).flatten
 | 0,a,b=>by simp
 | n+1,a,b=>by
  rw [Ae5,Ak2,j3 n,Ae5,List.flatten_cons]
  simp
def wH (x) (n):(gR x n).cps.toList=(Aa3 n x.cps.toList).flatten:=by
 unfold gR
 rw [j3]
 simp
def Ar (x) (n):(gR x n).length=x.length*n:=by
 show(gR x n).cps.size=x.cps.size*n
 rw [← Ai0,wH]
 simp [Al]
def rM {a b:Str}(h:a.cps.toList=b.cps.toList):a=b:=by
 cases a;cases b
 simp [Str.mk.injEq]
 exact Array.toList_inj.mp h
def LJ:bG X (binaryOp .Mult) (λx y H Q=> ∃z k,x= .str z/\y= .int k/\0<=k/\k<=1000/\z.length*k.toNat<=1000000/\Q (.str (gR z k.toNat)) H):=by
 intro pins s U H x y v u Q I rx ry h
 obtain⟨z,k,rfl,rfl,h0,h1,hl,q⟩:=h
 obtain⟨t,rfl⟩:=rx
 obtain⟨t',rfl⟩:=ry
 have hsz:(gR z k.toNat).length<=sizeLine:=by rw [Ar];exact Ab5 hl (by decide)
 refine P.mul_str (by
  have a: ¬k< -(2 ^ 63:Int):=by lia
  have b: ¬k>=2 ^ 63:=by lia
  rw [decide_eq_false a,decide_eq_false b];rfl) (λc1 c2=> ?_) (λc1 c2=> ?_) ?_
 ·have hk:=by omega
  have:(2:Int) ^ 63-1>=(z.length:Int)*k:=by
   have e:((z.length*k.toNat:Nat):Int)=(z.length:Int)*k:=by rw [Int.natCast_mul,Int.toNat_of_nonneg h0]
   have:=hl
   lia
  have:=Int.le_ediv_of_mul_le (c:=k) (by omega) (by omega)
  lia
 ·unfold Builtin.Str.tooLong
  exact decide_eq_false (by have:sizeLine>=1000000:=by decide
                            lia)
 ·by_cases c1:k<1
  ·have hk:k=0:=by lia
   subst hk
   rw [if_pos c1]
   exact⟨by decide,.str _,H,I.kept λb o e=>e,⟨_,rfl⟩,q⟩
  ·rw [if_neg c1]
   by_cases c2:(k==1||z.length==0)=u0
   ·rw [if_pos c2]
    have e:gR z k.toNat=z:=by
     apply rM
     rw [wH]
     obtain c | c:=Ao1.mp c2
     ·have:k=1:=by simpa using c
      subst this
      simp
     ·have:z.cps.toList= []:=by
       have c:z.length=0:=by simpa using c
       have c:z.cps.size=0:=c
       rw [← Ai0]at c
       exact Ai5 c
      rw [this]
      simp
    rw [e]at q
    exact⟨.str z,H,I,⟨t,rfl⟩,q⟩
   ·rw [if_neg c2]
    exact⟨hsz,.str _,H,I.kept λb o e=>e,⟨_,rfl⟩,q⟩
def C4:bG X (binaryOp .Add) (λx y H Q=> ∃a b ys,x= .ref a/\y= .ref b/\cJ X.K H a []/\cJ X.K H b ys/\Q (.ref b) H):=by
 intro m s U H x y v u Q I t C h
 obtain⟨a,b,ys,rfl,rfl,z,D,q⟩:=h
 cases t
 cases C
 obtain⟨F,r,E,_⟩:=I.tuple z
 obtain⟨c,J,G,_⟩:=I.tuple D
 cases r
 obtain⟨⟨p,dd,k,sl⟩,o,B,n,w⟩:=id E
 obtain⟨⟨l,g,j,f⟩,d,e,A,i⟩:=id G
 subst B w e i
 exact concat_meets ⟨_,o,rfl⟩ ⟨_,d,rfl⟩ noFill_tuple_add seq_tuple_add PySem.F.slot_tuple_add PySem.F.entry_tuple_add (PySem.F.args_tuple_add_2 _ _)
  (tuple_addW0 a b _ c.toArray n A dd g sl f rfl) ⟨o,d,.ref b,H,I,rfl,q⟩
def IK (w:X.calm=u0):zu X (.builtin "sum") (fun xs H Q=> ∃p,∃ns:List Int,xs= [.ref p]/\br X.K H p (ns.map V.int)/\Q (.int (gi ns)) H):=by
 intro f s U H xs G Q I r h
 obtain⟨p,ns,rfl,n,q⟩:=h
 obtain⟨u,rfl,m⟩:=xM r
 cases m
 obtain⟨k,rv,pl,J⟩:=I.list n
 have a:=rv.length
 rw [Aa]at a
 refine call_sum_walkG (wpAny_pyIter_list pl.isList ?_)
 have d:p<s.heap.objs.size:=by
  obtain⟨o,D,_⟩:=pl.isList
  exact Ac1 D
 have j:s.heap.objs.size<(s.heap.push { cls:= .type "list_iterator",data:= .fields #[.ref p,.int 0 0] }).objs.size:=Heap.lt_size (Heap.get?_push_size _ rfl)
 refine⟨s.heap.objs.size,_,_,_,_,_,λi=>ns.getD i 0,rfl,Walks.list (A:=X.A.in1) (I.ok.hd w) _ p (Ac7 d) k.toArray,⟨⟨_,Ac6 _ rfl,rfl,rfl⟩,pl.isList.at λo e=>Ab3 _ e⟩,λb c=> ?_,λi v z=> ?_,λE C B F=> ?_⟩
 ·simp [or_false]at c
  obtain rfl | rfl:=c
  ·exact j
  ·exact Nat.lt_trans d j
 ·obtain⟨x,g,l⟩:=rv.iD (by simpa using z)
  rw [Ac2]at g
  cases c:ns[i]? with
  | none=>rw [c]at g;cases g
  | some b=>
   rw [c]at g
   cases g
   obtain⟨t,rfl⟩:=l
   exact⟨t,by show Value.int b t=Value.int (ns.getD i 0) t;rw [Ac8,c];rfl⟩
 ·have y:Inv X f U H { s with heap:=E,toks:=C }:=I.kept λb o e=>F b o (by simp;exact Ac7 (Ac1 e)) (Ab3 _ e)
  refine⟨.int _,H,y,⟨B,?_⟩,q⟩
  rw [Ac0,←a,wJ ns _ (Ab _),Ap1]
theorem zP: ∀ {ns}{i},Vals (ns.map V.int) i-> ∃ps:List (Int×Tok),i=ps.map (λp=> .int p.1 p.2)/\ps.map (·.1)=ns
 | [],i,r=>by cases r;exact⟨[],rfl,rfl⟩
 | n::ns,i,r=>by
  cases r with
  | cons h t=>
   obtain⟨k,rfl⟩:=h
   obtain⟨ps,e1,e2⟩:=zP t
   exact⟨(n,k)::ps,by rw [e1];rfl,by rw [← e2];rfl⟩
def JG (lo) (d n) (a:d<=n):(match lo with | none=>(d:Int) | some i=>max 0 (min (if i<0 then i+n else i) n))=((HT.aY n d lo:Nat):Int)/\HT.aY n d lo<=n:=by
 cases lo with
 | none=>exact⟨rfl,a⟩
 | some i=>
  by_cases q:i<0
  ·simp [HT.aY,q,if_true];lia
  ·simp [HT.aY,q,if_false];lia
def QY (x:Str) (a b:Option Int):Builtin.Str.strSliceIndices a b 1 x.length=(Aa8 (HT.aY x.length x.length b-HT.aY x.length 0 a)).map λk=>HT.aY x.length 0 a+k:=by
 have c:=JG a 0 x.length (Af4 _)
 have d:=JG b x.length x.length (Ab _)
 have e:Builtin.Str.strSliceIndices a b 1 x.length=sliceRange ((HT.aY x.length 0 a)) ((HT.aY x.length x.length b)) 1:=by
  rw [← c.1,←d.1]
  cases a<;>cases b<;>rfl
 rw [e]
 unfold sliceRange
 simp only [show (1:Int)>0 by decide,if_true,Int.ediv_one,Int.one_mul]
 have e2:(if ((HT.aY x.length 0 a))<((HT.aY x.length x.length b:Nat):Int)then((HT.aY x.length x.length b))-((HT.aY x.length 0 a:Nat):Int)+1-1 else 0).toNat=HT.aY x.length x.length b-HT.aY x.length 0 a:=by
  split<;>lia
 rw [e2]
 refine Ai1 λk _=> ?_
 lia
noncomputable def kg (x:Str) (a b:Option Int):Str:=⟨((x.cps.toList.drop (HT.aY x.length 0 a)).take (HT.aY x.length x.length b-HT.aY x.length 0 a)).toArray⟩
def yI (x) (lo hi):Txt.slice x lo hi=kg x lo hi:=by
 have c:=(JG lo 0 x.length (Af4 _)).2
 have a:=(JG hi x.length x.length (Ab _)).2
 by_cases q:HT.aY x.length 0 lo<=HT.aY x.length x.length hi
 ·have e:=StrLaws.sliceText_nat x q a
  rw [show kg x lo hi=⟨((x.cps.toList.drop _).take _).toArray⟩from rfl,←e]
  unfold Txt.slice StrLaws.sliceText
  rw [QY x lo hi,StrLaws.strSliceIndices_plain q a]
 ·have b:HT.aY x.length x.length hi-HT.aY x.length 0 lo=0:=by lia
  unfold Txt.slice kg
  rw [QY x lo hi,b]
  rw [if_neg (by simp;lia)]
  simp
def ni:V->Option Int->Option Int->Hp->VK->Prop:=λx lo hi H Q=> ∃z,x= .str z/\z.length<=sizeLine/\Q (.str (kg z lo hi)) H
def n6:gg X ni:=by
 intro a s U H x v r p g i sl Q I j d pl m h
 obtain⟨z,rfl,n,q⟩:=h
 obtain⟨t,rfl⟩:=j
 refine⟨"str",_,F.slot_str_getitem.lookup,typeIs_str _ _ _,?_⟩
 have fin: ∀f k,EP X a U Q (.str (Txt.slice z g i) f) { s with toks:=k }:=λf k=>by
  rw [yI]
  exact⟨.str _,H,I.kept (t':=k) λb o e=>e,⟨_,rfl⟩,q⟩
 have c:(Txt.slice z g i).length<=sizeLine:=Ab5 (Txt.slice_le z _ _) n
 cases pl<;>cases m
 ·exact wpAny_getItem_str_slice (l:=y0) (u:=y0) (st:=y0) d rfl (post_val_or_str ⟨c,fin⟩)
 ·exact wpAny_getItem_str_slice (l:=y0) (u:=k0 (_,_)) (st:=y0) d rfl (post_val_or_str ⟨c,fin⟩)
 ·exact wpAny_getItem_str_slice (l:=k0 (_,_)) (u:=y0) (st:=y0) d rfl (post_val_or_str ⟨c,fin⟩)
 ·exact wpAny_getItem_str_slice (l:=k0 (_,_)) (u:=k0 (_,_)) (st:=y0) d rfl (post_val_or_str ⟨c,fin⟩)
end
open PySem PySem.Spec PyProof.Rows PySem.MeetsSeq
section
variable {X:Cx}
def KZ {e:Nat->Bool}(l:IsTup s.heap a k8)
 (n: ∀i y,k8[i]? =k0 y->PySem.SeqAt.EqAt A.in1 s y x (e i)) (r:j<k8.size) (g:e j=u0) (f: ∀i,i<j->e i=k9) (h: ∀t',Q (.int (j:Int) t') { s with toks:=s.toks+1 }):
 wpAny (model prog w) A (call (.builtin "tuple.index") [.ref a,x]) Q E s:=by
 refine wpAny_call_entry F.slot_tuple_index l.typeIs F.entry_tuple_index ?_ (F.args_tuple_index_2 _ _)
 refine wpAny_bind (wpAny_of_eq (show PySem.selfAndSome "tuple.index" "index" 1 3 ⟨[.ref a,x],[]⟩=pure (Value.ref a,[x])from rfl) ?_)
 refine wpAny_bind (tupleItemsOf_ l ?_)
 refine wpAny_bind (wpAny_pure (wpAny_bind (wpAny_pure (wpAny_bind ?_))))
 rw [Nat.min_self,Std.Legacy.Range.forIn_eq_forIn_range']
 refine wpAny_forIn_list _ (λxn b d=>d=s/\b=(y0,())/\ ∃i,i<=j/\xn=Ao0 i (k8.size-i)) _ ?_ ?_ _ _ ⟨rfl,rfl,0,Af4 _,by simp⟩
 ·rintro i xn b d ⟨rfl,rfl,i0,p,c⟩
  have e1:k8.size-i0=(k8.size-(i0+1))+1:=by lia
  rw [e1,Am6]at c
  injection c with o m
  subst o
  have k:i<k8.size:=by lia
  rw [Array.getElem?_eq_getElem k]
  refine wpAny_bind (n i k8[i] (Array.getElem?_eq_getElem k) prog w _ _ ?_)
  by_cases q:i=j
  ·subst q
   rw [g,if_pos rfl]
   refine wpAny_bind (wpAny_bind (wpAny_mkInt ?_))
   exact wpAny_pure (wpAny_pure (wpAny_pure ⟨_,rfl,h _⟩))
  ·rw [f i (by lia),if_neg Ab2]
   exact wpAny_pure ⟨rfl,rfl,i+1,by lia,m⟩
 ·rintro b d ⟨rfl,rfl,i0,p,c⟩
  have e1:k8.size-i0=(k8.size-(i0+1))+1:=by lia
  rw [e1,Am6]at c
  cases c
abbrev ve:=V->Hp->Prop
def mR (X:Cx) (T:String) (ty:ve):Prop:= ∀(pins:List (Addr×Obj)) (s:Shared) (U:St) (H:Hp) (x:V) (v:Value),Inv X pins U H s->RelV x v->ty x H->s.TypeIs v T/\ ∀a,v= .ref a-> ∃ob,s.heap.get? a=k0 ob/\ob.dict=y0
def Df (ty:ve) (r:V->List V->Hp->VK->Prop) (a:TE) (t:TA):TE:=λU H Q=>a U H λx H1=>ty x H1/\t U H1 λxs H2=>r x xs H2 Q
def lS {T id:String}(p:PlainAttrs T) (d:Slot T name id) (i:typeOf (.builtin id)=pure (.type "method_descriptor")) (A:mR X T ty) (M:ie X id r) (D:PE X o to) (y:PA X (e::es) t)
 (b:attributeBase o name X.env (eval o X.env)=eval o X.env)
 (f:((backTo k7 (starEach (e::es) X.env)).all (λx=> !x.1)&&(backToKw k7 (keywordEach [] X.env)).all (λx=>x.1.isSome)
   &&y9 ((e::es).length+([]:List Keyword).length+(if ([]:List Keyword).isEmpty then 0 else 1)<30))=u0)
 (c:(apos.endLine==k7.line)=u0) (L:starEach (e::es) X.env=(k9,eval e X.env)::starEach es X.env) (g:(backTo k7 (starEach es X.env)).any (·.1)=k9):
 PE X (.Call (.Attribute o name apos) (e::es) [] k7) (Df ty r to t):=by
 intro a s U H Q I h
 refine wpAny_Call_method_late b f c rfl (aQ (D a s U H _ I h) ?_)
 rintro v k ⟨x,n,m,j,J,q⟩
 obtain⟨E,u⟩:=A a k U n x v m j J
 refine⟨T,id,p,d,i,E,u,?_⟩
 have l:=y k7 a k U n _ m q
 rw [L]at l ⊢
 refine Calls.callWith_builtin (by assumption) (Calls.evalArgs_plain ?_)
 exact aQ l λw F ⟨B,K,z,C,G⟩=>M a F U K x B v w Q z j C G
def uI (K:PySem.W.Frag) (H:Hp) (a:Addr):Prop:=(∃ xs,H a=some (.tup xs))\/ ∃o,K.lookup a=some o/\o.cls= .type "tuple" /\o.dict=none
def HR:mR X "tuple" (fun x H=> ∃a,x= .ref a/\uI X.K H a):=by
 intro f s U H x v I r h
 obtain⟨a,rfl,h⟩:=h
 cases r
 obtain⟨l,h⟩ | ⟨o,g,j,i⟩:=h
 ·obtain⟨_,k,_,o,e,c,d,n,m⟩:=I.a8 a _ h
  refine⟨⟨o,e,c⟩,λb z=> ?_⟩
  cases z
  exact⟨o,e,d⟩
 ·refine⟨⟨o,I.cn a o g,j⟩,λb z=> ?_⟩
  cases z
  exact⟨o,I.cn _ o g,i⟩
def Fu:mR X "str" (fun x _=> ∃z,x= .str z):=by
 intro a s U H x v I r h
 obtain⟨z,rfl⟩:=h
 obtain⟨t,rfl⟩:=r
 exact⟨typeIs_str s z t,λ_ e=>nomatch e⟩
def rQ:mR X "list" (fun x H=> ∃a xs,x= .ref a/\br X.K H a xs):=by
 intro d s U H x v I r h
 obtain⟨a,xs,rfl,h⟩:=h
 cases r
 obtain⟨g,_,pl,_⟩:=I.list h
 refine⟨pl.isList.typeIs,λb e=> ?_⟩
 cases e
 obtain⟨o,n,e,c,f,_⟩:=pl
 exact⟨o,e,f⟩
def ke (x:Str):List Str->Option Nat
 | []=>y0
 | y::ys=>if y=x then k0 0 else(ke x ys).map (· +1)
theorem vV : ∀ {L}{j},ke x L=k0 j->j<L.length/\L[j]? =k0 x/\ ∀i,i<j-> ∀y,L[i]? =k0 y->y≠x
 | [],_,h=>by cases h
 | y::g,j,h=>by
  unfold ke at h
  split at h
  ·rename_i q
   cases h
   exact⟨Nat.zero_lt_succ _,by simp [q],λi b=>absurd b (Ag5 _)⟩
  ·rename_i q
   obtain⟨k,e,rfl⟩:=Ag2.mp h
   obtain⟨c,d,f⟩:=vV e
   refine⟨Nat.succ_lt_succ c,by simpa using d,λi b z a=> ?_⟩
   cases i with
   | zero=>simp at a;rw [← a];exact q
   | succ i=>exact f i (by omega) z (by simpa using a)
def KS (K:Aa9):V->List V->Hp->VK->Prop:=λx c H Q=> ∃a z j,∃b:List Str,x= .ref a/\c= [.str z]/\cJ K H a (b.map V.str)/\ke z b=k0 j/\Q (.int (j:Nat)) H
def Dk:ie X "tuple.index" (KS X.K):=by
 intro m s U H x M v L Q I D rv h
 obtain⟨a,z,j,f,rfl,rfl,E,J,q⟩:=h
 cases D
 obtain⟨u,rfl,G⟩:=rv.one
 obtain⟨t,rfl⟩:=G
 obtain⟨k,r,p,N⟩:=I.tuple E
 obtain⟨O,C,F⟩:=vV J
 have l:=r.length
 have look: ∀(i:Nat) y,k.toArray[i]? =k0 y-> ∃w d,f[i]? =k0 w/\y=Value.str w d:=λi y g=>by
  obtain⟨P,e1,e2⟩:=r.iD (by simpa using g)
  rw [Ac2]at e1
  cases n:f[i]? with
  | none=>rw [n]at e1;cases e1
  | some b=>
   rw [n]at e1
   cases e1
   obtain⟨d,rfl⟩:=e2
   exact⟨b,d,rfl,rfl⟩
 refine KZ (e:=λi=>y9 (f[i]? =k0 z)) p (λi y g=> ?_) (by simp_all) (decide_eq_true C) (λi K=> ?_) λd=>⟨.int j,H,I.kept λb o e=>e,⟨d,rfl⟩,q⟩
 ·obtain⟨w,d,e,rfl⟩:=look i y g
  have:=PySem.SeqAt.EqAt.str_str (A:=X.A.in1) (s:=s) w d z t
  have e2:y9 (f[i]? =k0 z)=(w==z):=by
   rw [e]
   by_cases q:w=z
   ·subst q;simp
   ·simp [q]
  rw [e2]
  exact this
 ·have B:=by omega
  exact decide_eq_false λc=>F i K z c rfl
def A6 (K:Aa9):V->List V->Hp->VK->Prop:=λx c H Q=> ∃a n,∃b:List Int,x= .ref a/\c= [.int n]/\br K H a (b.map V.int)/\Q (.int ((b.count n:Nat):Int)) H
def HF:ie X "list.count" (A6 X.K):=by
 intro d s U H x D v C Q I l rv h
 obtain⟨a,n,G,rfl,rfl,w,q⟩:=h
 cases l
 obtain⟨u,rfl,A⟩:=rv.one
 obtain⟨t,rfl⟩:=A
 obtain⟨B,r,pl,E⟩:=I.list w
 obtain⟨J,rfl,e2⟩:=zP r
 obtain⟨⟨j,dd,c,sl⟩,f,z,k,m⟩:=id pl.isList
 subst z m
 refine call_meets F.slot_list_count ⟨_,f,rfl⟩ F.entry_list_count (F.args_list_count_2 _ _) (PySem.SeqAt.list_countAt a _ k dd sl _ (λy=>match y with | .int i _=>i==n | _=>k9)) ⟨f,λy g=> ?_,?_⟩
 ·simp only [List.mem_toArray,Ab6]at g
  obtain⟨p,_,rfl⟩:=g
  exact PySem.SeqAt.EqAt.int_int p.1 p.2 n t
 ·refine⟨.int _,H,I.kept λb o e=>e,⟨s.toks,?_⟩,q⟩
  rw [← e2,List.count_eq_countP,List.countP_map]
  simp only [List.countP_map]
  rfl
end
section
variable {X:Cx}{pins:List (Addr×Obj)}{U:St}{H:Hp}{s:Shared}{h':Heap}
def Inv.gF (I:Inv X pins U H s) (k: ∀b o,b≠e->b≠it->s.heap.get? b=k0 o->h'.get? b=k0 o) (G:H it=y0) (D:H e=y0) (l:it≠X.env.locals) (f:e≠X.env.locals)
 (h1:it∈X.ex\/X.s₀.heap.objs.size<=it) (h:e∈X.ex\/X.s₀.heap.objs.size<=e) (t: ∀x c,X.env.cells.lookup x=k0 c->c≠it) (j: ∀x c,X.env.cells.lookup x=k0 c->c≠e) (A: ∀p∈X.pn++pins,p.1≠it) (i: ∀p∈X.pn++pins,p.1≠e):Inv X pins U H { s with heap:=h',toks:=t' }:=by
 have d: ∀b u,H b=k0 u->b≠e/\b≠it:=λb u q=>⟨λz=>(by simp_all),λz=>(by simp_all)⟩
 have g: ∀b o,b∉ [e,it]->s.heap.get? b=k0 o->h'.get? b=k0 o:=λb o a q=>k b o (λz=>a (by simp [z])) (λz=>a (by simp [z])) q
 refine I.step (λb E=> ?_) (λb o _ _ a e _=>g b o a e) (λb o _ _ a e _=>⟨o.slots,g b o a e⟩) (λ_ _ _ _ n=>n)
  (λb o a e=>⟨o,g b o a e⟩) (λ_ _ e=>e) (λ_ _ _ e=>e) (λb J e=>⟨#[],by rw [e];simp⟩) (λm F=> ?_) (λb u q=> ?_) I.bare
 ·obtain z | z:=Ac.mp E
  ·rw [z];exact⟨h,f,j,i⟩
  ·rw [Ac3.mp z];exact⟨h1,l,t,A⟩
 ·obtain⟨o,y,B,C,r⟩:=F
  exact⟨o,y,B,k _ o (Ne.symm f) (Ne.symm l) C,r⟩
 ·refine(I.a8 b u q).dO (λc v a w=>k c v ?_ ?_ w) (λ_ q=>q) λ_ _ q=>q
  ·obtain z | z:=a
   ·rw [z];exact(d b u q).1
   ·exact(d c _ z).1
  ·obtain z | z:=a
   ·rw [z];exact(d b u q).2
   ·exact(d c _ z).2
end
def zM:bootBuiltins "enumerate" =some (.type "enumerate"):=by decide +kernel
def Hv (h:ItemsOf (λi v=> ∃t,v=Value.int (0+(i:Int)*1) t) acc n):Vals ((Aa8 n).map λ(i:Nat)=>V.int (i:Int)) acc.toList:=by
 have d: ∀ a k m,a.length=m->(∀ j v,a[j]? =k0 v-> ∃t,v=Value.int (k+j:Nat) t)->Vals ((Ao0 k m).map λ(i:Nat)=>V.int i) a:=by
  intro a
  induction a with
  | nil=>intro k m b _;cases b;exact .nil
  | cons x a f=>
   intro k m b c
   cases b
   refine .cons (c 0 x rfl) (f _ _ rfl λj v g=> ?_)
   obtain⟨t,e⟩:=c (j+1) v (by simp_all)
   exact⟨t,by rw [e];congr 1;lia⟩
 rw [An6]
 refine d acc.toList 0 n (by rw [Ai0];exact h.1) λj v g=> ?_
 obtain⟨t,e⟩:=h.2 j v (by simp_all)
 exact⟨t,by rw [e];congr 1;lia⟩
section
variable {X:Cx}
def D5:bootBuiltins "range" =some (.type "range"):=by decide +kernel
end
def XH {g f:Option Int}(a:IsTup s.heap t vs) (e:s.heap.IsSliceOf sl vl vu .none) (pl:IsPart vl g) (k:IsPart vu f)
 (l:HT.aY vs.size 0 g=0) (h1:HT.aY vs.size vs.size f=vs.size) (h:Q (.ref t) s):wpAny (model prog w) A (getItem (.ref t) (.ref sl)) Q E s:=by
 obtain⟨j,b,d,i⟩:=id e
 have c:s.TypeIs (.ref sl) "slice" :=⟨j,b,d⟩
 unfold getItem
 try with_reducible refine wpAny_holding ?_
 refine wpAny_bind (wpAny_sequenceKey a.typeIs rfl (wpAny_bind (wpAny_callSpecial?_slot a.typeIs PyProof.Rows.slot_tuple_getitem
  (wpAny_call_entry PyProof.Rows.slot_tuple_getitem a.typeIs PyProof.Rows.entry_tuple_getitem ?_ (PyProof.Rows.args_tuple_getitem _ _)))))
 show wpAny _ _ (Builtin.Tuple.tupleItemsOf _ >>= _) _ _ s
 refine wpAny_bind (tupleItemsOf_ a (wpAny_bind (wpAny_typeOf c ?_)))
 refine wpAny_bind (HT.bL e pl k ?_)
 show wpAny _ _ (if _=u0 then _ else _) _ _ s
 rw [if_pos (by simp_all)]
 refine wpAny_bind (wpAny_bind (wpAny_typeOf a.typeIs (wpAny_pure ?_)))
 exact wpAny_bind (wpAny_rule (wpAny_pure ⟨_,rfl,wpAny_pure h⟩))
section
variable {X:Cx}
def nJ (K:Aa9):V->Option Int->Option Int->Hp->VK->Prop:=λx lo hi H Q=> ∃a xs,x= .ref a/\cJ K H a xs/\HT.aY xs.length 0 lo=0/\HT.aY xs.length xs.length hi=xs.length/\Q (.ref a) H
def FP:gg X (nJ X.K):=by
 intro e s U H x v t o n u sl Q I f j pl g h
 obtain⟨a,k,rfl,l,m,i,q⟩:=h
 cases f
 obtain⟨c,r,d,p⟩:=I.tuple l
 have b:c.toArray.size=k.length:=by rw [Ac0];exact r.length.symm
 refine⟨"tuple",_,PyProof.Rows.slot_tuple_getitem.lookup,d.typeIs,?_⟩
 exact XH d j pl g (by rw [b];exact m) (by rw [b];exact i) ⟨.ref a,H,I,rfl,q⟩
end
section
variable {X:Cx}
def Av:bootBuiltins "list" =some (.type "list"):=by decide +kernel
def CN (a:TA):TE:=λU H Q=>a U H λb H1=> ∃n:Nat,b= [.int (n:Int)]/\n<=1000/\ ∀l,H1 l=y0->Q (.ref l) (aM H1 l (.lst ((Aa8 n).map λ(i:Nat)=>V.int (i:Int))))
def BV (y:X.calm=true) (C:Gl X "list") (G:X.mg "list" =none) (j:Gl X "range") (l:X.mg "range" =none) (x:PA X [a] ta) (E:starEach [a] X.env= [(false,eval a X.env)]):
 PE X (.Call (.Name "list" p) [.Call (.Name "range" p2) [a] [] pos2] [] pos) (CN ta):=by
 intro c s U H Q I h
 refine Call_ (XE I C G Av (PyProof.Rows.callWith_type1 (Calls.spliced_cons (Call_ (XE I j l D5 (PyProof.Rows.callWith_type1 (aQ (x pos2 c s U H _ I h) λK m ⟨L,O,i,v,u⟩=> ?_) E rfl)))) rfl rfl))
 obtain⟨n,e,J,q⟩:=u
 subst e
 cases v with
 | cons r B=>
  cases B
  obtain⟨t,rfl⟩:=r
  refine call_range_1 (Calls.spliced_nil ?_)
  have k:Builtin.Range.rangeSize 0 n 1= n:=by
   unfold Builtin.Range.rangeSize
   simp
   lia
  refine call_list_range (i.ok.hd y) (IsRange.new ..) (small_one (by decide) (by decide) (by lia) (by lia)) k (by lia) λN M g D F w d=> ?_
  have A:=Hv d
  have f: ∀o:Obj,m.heap.objs.size<=(m.heap.push o).objs.size:=λo=>by rw [Ak8];exact Ag6 _
  refine⟨.ref _,_,i.laid (o:= .lst _) (λb o z=>F b o (Ab3 _ z)) (f _) ⟨by rw [Aa,Ah0,sizeLine_eq];lia,g.toList,D,A,by simpa using w⟩,rfl,q _ (i.a8.fresh (f _))⟩
end
section
variable {X:Cx}{pins:List (Addr×Obj)}{U:St}{H:Hp}{s:Shared}{h':Heap}
def Inv.b8 {ch:List Addr}(I:Inv X pins U H s) (k: ∀b o,b∉ch->s.heap.get? b=k0 o->h'.get? b=k0 o) (f: ∀b∈ch,bu X pins H b):Inv X pins U H { s with heap:=h',toks:=t' }:=by
 have d: ∀b u,H b=k0 u->b∉ch:=λb u q z=>by rw [(f b z).1]at q;cases q
 refine I.step (λb x=> ?_) (λb o _ _ a e _=>k b o a e) (λb o _ _ a e _=>⟨o.slots,k b o a e⟩) (λ_ _ _ _ n=>n)
  (λb o a e=>⟨o,k b o a e⟩) (λ_ _ e=>e) (λ_ _ _ e=>e) (λb C e=>⟨#[],by rw [e];simp⟩) (λm y=> ?_) (λb u q=> ?_) I.bare
 ·obtain⟨A,l,B,h,i,w⟩:=f b x
  exact⟨h,l,i,w⟩
 ·obtain⟨o,j,p,t,r⟩:=y
  exact⟨o,j,p,k _ o (λz=>(f _ z).2.1 rfl) t,r⟩
 ·refine(I.a8 b u q).dO (λc v a g=>k c v ?_ g) (λ_ q=>q) λ_ _ q=>q
  obtain z | z:=a
  ·rw [z];exact d b u q
  ·exact d c _ z
end
end L2
set_option maxHeartbeats 8000000
namespace L2
open PySem PySem.Spec PyProof.Rows
open Sem (wp)
abbrev K2:=List (Int ⊕ List Int)
section
variable (prog:Program) (w:World)
inductive J0 (h:Heap):K2->List Value->Prop
 | nil:J0 h [] []
 | int {i:Int}{t:Tok}{ks:K2}{vs:List Value}:J0 h ks vs->J0 h (.inl i::ks) (.int i t::vs)
 | tup {l:List Int}{a:Addr}{ks:K2}{vs:List Value}:IsTupleKey (intKind prog w) h l a->J0 h ks vs->J0 h (.inr l::ks) (.ref a::vs)
end
abbrev WK:=Int×List Int×List Int
section
variable {X:Cx}{pins:List (Addr×Obj)}{U:St}{H:Hp}{s:Shared}{a b:Addr}{k:WK}{xs:List (WK×Addr×Value)}{r:Value}{A:Around}{E:Value->Shared->Prop}
def Z5 (I:Inv X pins U H s):sysModules<s.heap.objs.size:=by
 have h:=(I.mod.glob.keeps I.bk).lt
 exact Nat.lt_trans (by decide) h
end
open PySem.AutoSeq1 (wpAny_loadPart')
open MeetsSeq MeetsSeq2 MeetsSeq3 SeqRoads2 PySem.SeqAt
open PySem PySem.Spec PyProof.Rows PyProof.Rows.KTD PyProof.V
section
variable {X:Cx}{pins:List (Addr×Obj)}{U:St}{H:Hp}{s:Shared}
theorem QM {K:Type} [DecidableEq K]: ∀(more a:List (K×Value)),((a++more).map (·.1)).Nodup->merged a more=a++more
 | [],a,_=>by simp [merged]
 | p::more,a,h=>by
  have e:stored a p.1 p.2=a++ [p]:=by
   unfold stored
   rw [if_neg]
   intro z
   obtain⟨b,c,e⟩:=Ad1.mp z
   rw [Ae3,Aj2]at h
   exact h.2.2 b.1 (List.mem_map_of_mem c) p.1 (by simp) (of_decide_eq_true e)
  show merged (stored a p.1 p.2) more=_
  rw [e,QM more (a++ [p]) (by simpa using h)]
  simp
end
noncomputable def oY (K:Aa9) (a:Addr):It:=
 ⟨λi H=> ∃xs x,br K H a xs/\xs[i]? =k0 x,λi H x H'=> ∃p y,H p=y0/\x= .ref p/\H'=aM H p (.tup [.int (i:Int),y])/\ ∀xs,br K H a xs->xs[i]? =k0 y,λi H=> ∃xs,br K H a xs/\xs.length=i⟩
def E5 {K:Aa9}(a it e) (n:e≠it):ik P w K (.Tuple elts x1 tp) (oY K a) [e,it] e (λi h=>(∃ j,IsEnum h e it (i:Int) j)/\h.IsListIter it a i) where
 mem:=by simp
 obj:=λi h l b L=>by
  obtain⟨⟨j,q⟩,⟨o,q2,c,d⟩⟩:=l
  rcases Ac.mp L with z | z
  ·subst z
   exact⟨_,q,λv z=>by cases z⟩
  ·rw [Ac3.mp z]
   exact⟨o,q2,λv z=>by rw [d]at z;cases z⟩
 keep:=λi h h' l k=>⟨let ⟨j,q⟩:=l.1; ⟨j,k e (by simp) _ q⟩,let ⟨o,q,r⟩:=l.2; ⟨o,k it (by simp) o q,r⟩⟩
 item:=by
  intro X S hw V W i m s U H E I M l Z
  subst S hw V
  obtain⟨⟨j,B⟩,f⟩:=l
  obtain⟨xs,x,N,hx⟩:=Z
  obtain⟨g,rv,p,hz⟩:=I.list N
  obtain⟨u,hu,ru⟩:=rv.get hx
  have C:=p.isList
  have A:a≠it:=λz=>by
   obtain⟨o,q,c,_⟩:=C
   obtain⟨o',q',F,_⟩:=f
   rw [z,q']at q;cases q
   rw [c]at F;exact absurd F (by decide)
  have R:a≠e:=λz=>by
   obtain⟨o,q,c,_⟩:=C
   rw [z,B]at q;cases q
   exact absurd (show Value.type "enumerate" =Value.type "list" from c) (by decide)
  obtain⟨f0,f1,f2,f3,f4,f5⟩:=M e (by simp)
  obtain⟨Q,g1,g2,g3,g4,Y⟩:=M it (by simp)
  have hlt:=by
   have:=Aa1.mp hu
   simpa using this.1
  have t:X.A.in1.handled=none:=I.ok.hd W
  refine wpAny_pyNext_enum_itemD (Draws.list t it a A g.toArray) B ⟨f,C⟩ hlt n (by simp [n,Ne.symm R]) λy h1 J D ho hs' hT hsz hk=> ?_
  have ey:y=u:=by
   rw [List.getElem?_toArray]at D
   rw [hu]at D;cases D;rfl
  subst ey
  refine⟨_,rfl,wpAny_letOwnedTupleGo_enum ho λh2 T O=> ?_⟩
  have O:=O
  have hep:=Nat.ne_of_gt (Ac1 B)
  have hn:=I.a8.fresh (Ab _)
  have I1:Inv X m U (aM H s.heap.objs.size (.tup [.int (i:Int),x])) { s with heap:=s.heap.push { cls:= .type "tuple",data:= .seq #[.int i J,y] },toks:=J+1 }:=by
   refine I.laid (λb o q=>Ab3 _ q) (Ab _) ⟨by simp only [Aa7,Ae];rw [sizeLine_eq];decide,[.int i J,y],.cons ⟨_,rfl⟩ (.cons ru .nil),?_⟩
   exact⟨_,Ac6 s.heap rfl,rfl,rfl,_,rfl⟩
  have G:it<s.heap.objs.size:=by obtain⟨o,q,_⟩:=f;exact Ac1 q
  have ee:=Ac1 B
  have I2:=I1.gF (t':=J+1) (λb o b1 b2 q=>by
   refine(O.2 b b1).trans ?_
   rcases Heap.get?_push_cases (show (s.heap.push { cls:= .type "tuple",data:= .seq #[.int i J,y] }).get? b=some o from q)with⟨z,z2⟩ | z
   ·rw [z,z2];exact hT
   ·exact hk b o b1 b2 z) (by rw [Qa (Ac7 G)];exact Q) (by rw [Qa (Ac7 ee)];exact f0) g1 f1 g3 f3 g4 f4 Y f5
  refine⟨.ref s.heap.objs.size,_,I2,rfl,⟨s.heap.objs.size,x,hn,rfl,rfl,λys D=>by rw [I.dW D N];exact hx⟩,⟨⟨y,by simpa using T⟩,?_⟩,λb L=> ?_⟩
  ·obtain⟨o,q,r⟩:=hs'.1
   exact⟨o,(O.2 it (Ne.symm n)).trans q,r⟩
  ·rcases Ac.mp L with z | z
   ·rw [z,Qa (Ac7 ee)];exact f0
   ·rw [Ac3.mp z,Qa (Ac7 G)];exact Q
 done:=by
  intro X S hw V W i m s U H E I M l Z
  subst S hw V
  obtain⟨⟨j,B⟩,f⟩:=l
  obtain⟨xs,N,hx⟩:=Z
  obtain⟨g,rv,p,hz⟩:=I.list N
  have C:s.heap.IsList a g.toArray:=p.isList
  have A:a≠it:=λz=>by
   obtain⟨o,q,c,_⟩:=C
   obtain⟨o',q',F,_⟩:=f
   rw [z,q']at q;cases q
   rw [c]at F;exact absurd F (by decide)
  obtain⟨Q,g1,g2,g3,g4,Y⟩:=M it (by simp)
  have hl:=rv.length
  have t:X.A.in1.handled=none:=I.ok.hd W
  have hi:i=g.toArray.size:=by simp;omega
  subst hi
  exact wpAny_pyNext_enum_endD (Draws.list t it a A g.toArray) B ⟨f,C⟩ λh' eb=>⟨rfl,I.turned (λb o L q=>eb b o L q) Q g1 g3 g4 Y⟩
 self:=λ_ _ _ _ _ l h=>wpAny_pyIter_enum l.1.choose_spec h
def AD (K:Aa9) (b:TA):TI:=λU H R=>b U H λc H1=> ∃a xs,c= [.ref a]/\br K H1 a xs/\R (oY K a) H1
def B2 (t:Gl X "enumerate") (B:X.mg "enumerate" =none) (n:PA X [a] ta) (w:starEach [a] X.env= [(false,eval a X.env)]:=by rfl):PI X (.Tuple elts x1 tp) (.Call (.Name "enumerate" p) [a] [] pos) (AD X.K ta):=by
 intro f s U H R I h
 refine Call_ (XE I t B zM (PyProof.Rows.callWith_type1 (aQ (n pos f s U H _ I h) λC g ⟨D,A,d,l,k⟩=> ?_) w rfl))
 obtain⟨b,G,e,m,q⟩:=k
 subst e
 cases l with
 | cons r o=>
  cases o
  cases r
  obtain⟨x,rv,pl,E⟩:=d.list m
  refine call_enumerate_list pl.isList λF j i u y=> ?_
  refine wpAny_pyIter_enum j ?_
  refine⟨g.heap.objs.size+1,[g.heap.objs.size+1,g.heap.objs.size],_,_,A,rfl,d.kept y,E5 b g.heap.objs.size _ (Nat.succ_ne_self _),⟨⟨_,by simpa using j⟩,i⟩,λc v=> ?_,q⟩
  obtain z | z:=Ac.mp v
  ·rw [z];exact d.c7 (Ag6 _) (d.a8.fresh (Ag6 _))
  ·rw [Ac3.mp z];exact d.c7 (Ab _) (d.a8.fresh (Ab _))
open PySem PySem.Spec PySem.Calls PySem.W PyProof.Rows
def yk:List Value->Bool
 | []=>k9
 | x::r=>match x with
  | .ref _=>yk r
  | _=>x::r==vZ
def vT (K:Frag) (C:Addr):Bool:=(clsIn K C).any λcd=>yk cd.mro&&cd.hasDict
noncomputable def yG (K:Frag) (C:Addr):Bool:=match K.lookup C with
 | some ⟨.type "type",_,.cls cd,sl⟩=>(match cd.mro,sl.toList with
  | .ref c::a,[_,_,_,_,k0 (.builtin n),_]=>c==C&&(n== "ValueError.__new__" &&(!cd.hasDel&&(tailIn K vZ a&&nsOkIn K cd.ns)))
  | _,_=>k9)
 | _=>k9
structure Mp (K:Frag) (C:Addr) (f:Str):Prop where
 cls:yG K C=u0
 ov:vT K C=u0
 sa:findIn K (.ref C) "__setattr__" =some (some (.builtin "object.__setattr__"))
 no:findIn K (.ref C) f=k0 y0
 kp:keepIn K (.ref C)=u0
structure Mo (K:Frag) (f:Str) (fI:Addr) (fd:FuncData) (ps:List Str):Prop where
 ex: ∃x y8 st N n1 n2 p1 p2 p3 p4,mU K x y8 st fI fd/\ps= [n1,n2]/\N= [n1,n2]/\QD N ps (Jl st)/\qK st= [.Assign [.Attribute (.Name n1 p1) f p2] (.Name n2 p3) p4]/\(n1==("__debug__" :Str))=false/\(n2==("__debug__" :Str))=false ∧
  (n1==("__classdict__" :Str))=false/\(n2==("__classdict__" :Str))=false
 bd:Binds K fd ps []
 fn:typeIn K (.ref fI)=k0 (.type "function")
structure Mx (K:Frag) (C:Addr) (f:Str):Prop where
 ov:vT K C=u0
 no:findIn K (.ref C) f=k0 y0
 ga:findIn K (.ref C) "__getattribute__" =some (some (.builtin "BaseException.__getattribute__"))
 gh:findIn K (.ref C) "__getattr__" =some none
end L2
namespace L2
open PySem PySem.Spec PyProof.Rows PySem.Builtin.Str
def bP:Str:=⟨#[32]⟩
noncomputable def me (z:Str) (a:List Str):Bool:= !(y9 (z.length<bP.length)||y9 (strKind z<strKind bP))&& !(occurrences z bP 0 z.length (z.length+1)).isEmpty&&y9 (z.length<=1000)&&y9 (partsBetween z (occurrences z bP 0 z.length (z.length+1)) bP.length=a)&&y9 (a.length<=1000)
section
variable {X:Cx}
theorem W1: ∀(ps) (t),Vals (ps.map V.str) (strsFrom t ps)
 | [],_=> .nil
 | p::ps,t=> .cons ⟨_,rfl⟩ (W1 ps (t+1))
def Hq:ie X "str.split" (fun x vs H Q=> ∃ z i,x= .str z/\vs= [.str bP]/\me z i=true/\ ∀p,H p=none->Q (.ref p) (aM H p (.lst (i.map V.str)))):=by
 intro c s U H x vs v w Q I k rv h
 obtain⟨z,i,rfl,rfl,a,q⟩:=h
 obtain⟨t,rfl⟩:=k
 obtain⟨u,rfl,r⟩:=rv.one
 obtain⟨m,rfl⟩:=r
 unfold me at a
 simp only [Aa0,Ag4,decide_eq_true_eq]at a
 obtain⟨⟨⟨⟨n,g⟩,l⟩,f⟩,d⟩:=a
 refine call_meets PySem.F.slot_str_split (typeIs_str _ _ _) PySem.F.entry_str_split (PySem.F.args_str_split_2 _ _) (meets_str_split_sep z bP t m n rfl g (Ag3 (Wp l)) (by rw [f];exact(Ag3 (Wp d)))) ?_
 rw [f]
 have j:=I.a8.fresh (Ab _)
 refine⟨.ref s.heap.objs.size,_,?_,rfl,q _ j⟩
 exact I.laid (λb o e=>Ab3 _ e) (Ab _) (show a0 X.prog X.w _ _ _ (.lst _)from⟨by rw [Aa];exact(Ag3 (Wp d)),strsFrom s.toks i,0,W1 i s.toks,Ac6 s.heap rfl⟩)
end
open PySem PySem.Spec PyProof.Rows
def dS (a:List (Str×V)):HO:= .dK (a.map λp=>(.inr p.1,p.2))
noncomputable def gY (a:List (Str×V)) (k:Str) (v:V):List (Str×V):=if a.any (λp=>y9 (p.1=k))then a.map (λp=>if p.1=k then(p.1,v)else p)else a++ [(k,v)]
theorem uc : ∀ {c:List (Str×V)}{vs},KV (c.map λp=>((.inr p.1:c9),p.2)) vs->(vs.any λi=>i.1= .inr k)=c.any λp=>y9 (p.1=k)
 | [],_,.nil=>rfl
 | p::c,(a,b)::vs,.cons r t=>by
  obtain⟨e1,e2⟩:=r
  rw [Af3,Af3,uc t,←e1]
  by_cases q:p.1=k<;>simp [q]
theorem lP : ∀ {c:List (Str×V)}{vs},KV (c.map λp=>((.inr p.1:c9),p.2)) vs->cv (c.lookup k) (valueAt vs (.inr k))
 | [],_,.nil=>trivial
 | p::c,(a,b)::vs,.cons r t=>by
  obtain⟨e1,e2⟩:=r
  have d:=lP (k:=k) t
  unfold valueAt at d ⊢
  rw [List.find?_cons,Ab7,←e1]
  by_cases q:p.1=k
  ·rw [beq_iff_eq.mpr q.symm]
   simp only [q,decide_true]
   exact e2
  ·rw [beq_eq_false_iff_ne.mpr λz=>q z.symm]
   have: ¬(Sum.inr p.1:c9)= .inr k:=λz=>q (by injection z)
   simp only [this,decide_false]
   exact d
def Hw (d:RelV v u)(h:KV (kvs.map λp=>((.inr p.1:c9),p.2)) vs):KV ((gY kvs k v).map λp=>((.inr p.1:c9),p.2)) (stored vs (.inr k) u):=by
 unfold gY stored
 rw [uc h]
 by_cases c:(kvs.any λp=>y9 (p.1=k))=u0
 ·rw [if_pos c,if_pos c]
  clear c
  induction kvs generalizing vs with
  | nil=>cases h;exact .nil
  | cons p kvs e=>
   cases h with
   | @cons _ q _ vs r t=>
    obtain⟨a,b⟩:=q
    obtain⟨e1,e2⟩:=r
    subst e1
    refine .cons ?_ (e t)
    by_cases q:p.1=k
    ·subst q
     simp only [if_true]
     exact⟨trivial,d⟩
    ·have: ¬(Sum.inr p.1:c9)= .inr k:=λz=>q (by injection z)
     simp only [q,this,if_false]
     exact⟨trivial,e2⟩
 ·rw [if_neg c,if_neg c,Ae3]
  exact Paired.snoc h ⟨rfl,d⟩
section
variable {X:Cx}{pins:List (Addr×Obj)}{U:St}{H:Hp}{s:Shared}{a:Addr}{k:Str}{kvs:List (Str×V)}{u r:Value}{A:Around}{E:Value->Shared->Prop}
def X9 (I:Inv X pins U H s) (e:H a=k0 (dS kvs)):kvs.length<=sizeLine/\(a==sysModules)=k9/\ ∃vs,KV (kvs.map λp=>((.inr p.1:c9),p.2)) vs/\s.heap.DictOf (xD X.prog X.w) a vs:=by
 obtain⟨z,c,vs,b,dd⟩:=(show a0 X.prog X.w H s.heap a (dS kvs)from I.a8 a _ e)
 rw [Aa]at z
 exact⟨z,c,vs,b,dd⟩
def Cn (I:Inv X pins U H s) (e:H a=k0 (dS kvs)) (d:RelV (.str k) u) (l:kvs.lookup k=k0 v) (h: ∀i s',Inv X pins U H s'->RelV v i->Q i s'):wpAny (model X.prog X.w) A (getItem (.ref a) u) Q E s:=by
 obtain⟨z,g,j,c,dd⟩:=X9 I e
 obtain⟨t,rfl⟩:=d
 obtain⟨i,f,b⟩:=cv.some_of (by rw [← l];exact lP c)
 exact wpAny_getItem_of (Qk _ _ k t) dd.mapOf f (h i _ (I.tok _) b)
def vI (r:cv o q):q.isSome=o.isSome:=by
 cases o with
 | none=>rw [cv.none_of r];rfl
 | some v=>obtain⟨u,rfl,_⟩:=cv.some_of r;rfl
def Cj (I:Inv X pins U H s) (e:H a=k0 (dS kvs)) (c:RelV (.str k) u) (h: ∀s',Inv X pins U H s'->Q (.bool (kvs.lookup k).isSome) s'):wpAny (model X.prog X.w) A (compareOp .In u (.ref a)) Q E s:=by
 obtain⟨z,d,f,b,dd⟩:=X9 I e
 obtain⟨t,rfl⟩:=c
 refine wpAny_in_of (Qk _ _ k t) d dd.mapOf ?_
 rw [vI (lP b)]
 exact h _ (I.tok _)
def Fj (I:Inv X pins U H s) (e:H a=k0 (dS kvs)) (c:RelV (.str k) u) (h: ∀s',Inv X pins U H s'->Q (.bool (!(kvs.lookup k).isSome)) s'):wpAny (model X.prog X.w) A (compareOp .NotIn u (.ref a)) Q E s:=by
 obtain⟨z,d,f,b,dd⟩:=X9 I e
 obtain⟨t,rfl⟩:=c
 refine wpAny_notIn_of (Qk _ _ k t) d dd.mapOf ?_
 rw [vI (lP b)]
 exact h _ (I.tok _)
def Fe (kvs) (k) (v):(gY kvs k v).length<=kvs.length+1:=by
 unfold gY
 split
 ·rw [Aa];lia
 ·simp
def IY (I:Inv X pins U H s) (e:H a=k0 (dS kvs)) (l:RelV (.str k) u) (rv:RelV v r) (p:kvs.length<sizeLine) (h: ∀s',Inv X pins U (aM H a (dS (gY kvs k v))) s'->Q () s'):wpAny (model X.prog X.w) A (setItem (.ref a) u r) Q E s:=by
 obtain⟨z,f,j,b,dd⟩:=X9 I e
 obtain⟨t,rfl⟩:=l
 have w:j.length<=sizeLine:=by rw [← Paired.length b,Aa];exact z
 refine wpAny_setItem_pairs (Qk _ _ k t) dd λo c n=>h _ ?_
 have i: ∃q,o.get? a=k0 q:=let ⟨q,_,_,g,_⟩:=c; ⟨q,g⟩
 refine I.write (by rw [e];exact True.intro) (.inl rfl) (λm q d z=>(n.2 m d).trans z) i ⟨?_,f,_,Hw rv b,c⟩
 rw [Aa]
 have:=Fe kvs k v
 lia
def CM (I:Inv X pins U H s) (e:H a=k0 (dS kvs)) (h: ∀p s',H p=y0->Inv X pins U (aM H p (dS kvs)) s'->Q (.ref p) s'):wpAny (model X.prog X.w) A (call (.type "dict") [.ref a]) Q E s:=by
 obtain⟨z,i,j,c,dd⟩:=X9 I e
 refine kt_call_dict i dd (by rw [← Paired.length c,Aa];exact z) λk d g=> ?_
 refine h _ _ (I.a8.fresh (Ab _)) (I.laid (λb q f=> ?_) (Ab _) ⟨by rw [Aa];exact z,beq_eq_false_iff_ne.mpr (Ne.symm (Ac7 (Z5 I))),j,c,d⟩)
 exact(g.2 b (Ac7 (Ac1 f))).trans (Ab3 _ f)
def Iq:TE:=λ_ H Q=> ∀p,H p=y0->Q (.ref p) (aM H p (dS []))
def HX :PE X (.Dict [] [] pos) Iq:=λa s U H Q I h=>
 wpAny_Dict_empty ⟨.ref s.heap.objs.size,_,I.laid (o:=dS []) (λ_ _ q=>Ab3 _ q) (Ab _) ⟨Af4 _,beq_eq_false_iff_ne.mpr (Ne.symm (Ac7 (Z5 I))),[],.nil,Heap.DictOf.new _⟩,rfl,h _ (I.a8.fresh (Ab _))⟩
end
open PySem PySem.Spec PySem.Calls PySem.W PyProof.Rows
def ph:List TE->St->Hp->(List V->Hp->Prop)->Prop
 | [],_,H,Q=>Q [] H
 | t::a,U,H,Q=>t U H λv H1=>ph a U H1 λb H2=>Q (v::b) H2
section
variable {X:Cx}
def lh (X:Cx):List Str->List TE->List (Option Expr)->List Expr->Prop
 | [],f,ks,d=>f= []/\ks= []/\d= []
 | x::r,f,ks,d=> ∃j p e t a c b,f=t::b/\ks=k0 (.Constant (.str x) j p)::a/\d=e::c/\PE X e t/\lh X r b a c
theorem vE: ∀ {T}{i}{ks}{vs},lh X T i ks vs->ks.all (·.isSome)=u0/\ks.length=T.length/\vs.length=T.length
 | [],_,_,_,⟨rfl,rfl,rfl⟩=>⟨rfl,rfl,rfl⟩
 | x::r,_,_,_,⟨j,p,e,t,b,d,c,rfl,rfl,rfl,_,ok⟩=>by
  obtain⟨g,a,f⟩:=vE ok
  exact⟨by simpa using g,by simp [a],by simp [f]⟩
theorem JO : ∀ {T}{O}{ks}{vs}{s}{H}{Q}{i},lh X T O ks vs->Inv X pins U H s->ph O U H Q →
 (∀ ws H1 kvs M L,Inv X pins U H1 L->Carries (xD X.prog X.w) M kvs->KV ((T.zip ws).map λp=>((.inr p.1:c9),p.2)) kvs->kvs.map (·.1)=T.map .inr->Q ws H1->i M L) →
 wpAny (model X.prog X.w) X.A (evalPairs (pairTrees ks vs X.env pos)) i X.xe s
 | [],_,_,_,s,H,Q,i,⟨rfl,rfl,rfl⟩,I,h,q=>pairTrees_nil_walk (q [] H [] [] s I trivial .nil rfl h)
 | x::r,_,_,_,s,H,Q,i,⟨j,p,e,t,d,k,g,rfl,rfl,rfl,b,ok⟩,I,h,q=>
  pairTrees_cons_walk (Calls.Constant_str (aQ (b pins _ U H _ (I.tok _) h) λu L ⟨v,H1,n,a,o⟩=>
   JO ok n o λws z kvs M w l c f m y=>q (v::ws) z ((.inr x,u)::kvs) _ w l ⟨Qk _ _ x _,rfl,c⟩ (.cons ⟨rfl,a⟩ f) (by simp [m]) y))
def C0 (ok:lh X T ts ks vs) (D:T≠ []) (j:T.length<=15) (r:T.Nodup):
 PE X (.Dict ks vs pos) (λU H Q=> ∀p,H p=y0->ph ts U (aM H p (dS [])) λws H1=>H1 p=k0 (dS [])/\Q (.ref p) (aM H1 p (dS (T.zip ws)))):=by
 intro n s U H Q I h
 obtain⟨t,a2,a3⟩:=vE ok
 have x:=Z5 I
 have k:=beq_eq_false_iff_ne.mpr (Ne.symm (Ac7 x))
 have y:=I.laid (o:=dS []) (t':=s.toks) (λ_ _ q=>Heap.get?_push_of_some { cls:= .type "dict",data:= .dict #[] } q) (Nat.le_refl _) ⟨Nat.zero_le _,k,[],.nil,Heap.DictOf.new _⟩
 refine wpAny_Dict_walk (knd:=xD X.prog X.w) t (a2.trans a3.symm) (λz=>D (List.length_eq_zero_iff.mp (by simp_all))) (by lia) ?_
 refine JO ok y (h _ (I.a8.fresh (Ab _))) λws H1 d F E l c f m q=>⟨d,c,?_,λC dd B=> ?_⟩
 ·obtain⟨_,_,u,i,dd⟩:=X9 l q.1
  cases i
  exact dd
 ·rw [QM d [] (by rw [Ae2,m];exact Ao3.map _ (λa b z e=>z (by injection e)) r),Ae2]at dd
  have w: ∃q,C.get? s.heap.objs.size=k0 q:=let ⟨q,_,_,v,_⟩:=dd; ⟨q,v⟩
  refine⟨.ref s.heap.objs.size,_,l.write (o:=dS _) (by rw [q.1];exact True.intro) (.inl rfl) (λA q g z=>(B.2 A g).trans z) w ⟨?_,k,_,f,dd⟩,rfl,q.2⟩
  rw [Aa,Al4]
  have:=j
  exact Ab5 (Nat.min_le_left _ _) (Ab5 j (by decide))
end
open PySem PySem.Spec PySem.Calls PyProof.Rows
section
variable {X:Cx}
def A3:nN X "int.bit_length" (fun x xs H Q=> ∃i:Int,x= .int i/\xs= []/\Q (.int ((Builtin.Int.intBits i:Nat):Int)) H):=by
 intro a s U H x xs v c Q I b rv h
 obtain⟨i,rfl,rfl,q⟩:=h
 obtain⟨t,rfl⟩:=b
 cases rv
 exact call_int_bit_length ⟨.int _,H,I.tok _,⟨_,rfl⟩,q⟩
end
def de (H H':Hp):Prop:= ∀a o,H a=k0 o->H' a=k0 o
def de.refl :de H H:=λ_ _ h=>h
def de.trans (a:de H H1) (b:de H1 H2):de H H2:=λx o h=>b x o (a x o h)
def br.le {K:Aa9}(h:br K H a xs) (l:de H H'):br K H' a xs:=by
 obtain h | h:=h
 ·refine .inl ?_
  obtain h | ⟨u,h⟩:=h
  ·exact .inl (l _ _ h)
  ·exact .inr ⟨u,l _ _ h⟩
 ·exact .inr h
def fg (g:Int->Int):Int->List Int->Int
 | b,[]=>b
 | b,x::xs=>if g x<g b then fg g x xs else fg g b xs
def QW {id:String}(b:(args.any (·.1)||kws.any (·.1.isNone))=k9)
 (h:wpAny M A (evalArgs (.builtin id) u0 args kws) (λa i=>wpAny M A (call (.builtin id) (first++a.pos) a.kw) Q E i) E s):
 wpAny M A (callWith pos (.builtin id) first args kws) Q E s:=by
 refine wpAny_bind (wpAny_holding (wpAny_mono h (λa i c=>wpAny_bind (wpAny_standAt ?_)) λ_ _ x=>x))
 simp only [b]
 refine wpAny_bind (wpAny_pure ?_)
 exact wpAny_bind (wpAny_mono c (λr d e=>wpAny_bind (wpAny_holding (wpAny_point (wpAny_pure e)))) λ_ _ x=>x)
section
variable {X:Cx}{pins:List (Addr×Obj)}{U:St}{H0:Hp}{q l S J:Addr}{is:List Int}{g:Int->Int}{R:Result->Shared->Prop}
def oI (X:Cx) (U:St) (a:Hp) (q:Addr) (is:List Int) (g:Int->Int):Prop:= ∀(pins:List (Addr×Obj)) (s:Shared) (H:Hp) (n:Int) (t:Tok),n∈is->Inv X pins U H s->de a H →
 wpAny (model X.prog X.w) X.A.in1 (call (.ref q) [.int n t]) (EP X pins U λv H'=>v= .int (g n)/\de H H') (λ_ _=>False) s
def bu.keep (h:bu X pins H b) (n:H' b=y0):bu X pins H' b:=⟨n,h.2⟩
def vN (T:oI X U H0 q is g) (m:n∈is) (I:Inv X pins U H s) (h:de H0 H) (fS:bu X pins H S) (f:bu X pins H J) (j:s.heap.get? S=k0 oS) (e:s.heap.get? J=k0 oJ) (dS: ∀v,oS.data≠ .cell v) (l: ∀v,oJ.data≠ .cell v)
 (k: ∀t' s' H',Inv X pins U H' s'->de H0 H'->bu X pins H' S->bu X pins H' J->s'.heap.get? S=k0 oS->s'.heap.get? J=k0 oJ->Q (.int (g n) t') s'):
 wpAny (model X.prog X.w) X.A.in1 (call (.ref q) [.int n t]) Q E s:=by
 have o:=I.pinned (λb a=>by
  obtain rfl | a:=Ac.mp a
  ·exact fS
  ·rw [Ac3.mp a];exact f) (λb a=>by
  obtain rfl | a:=Ac.mp a
  ·exact⟨_,j,dS⟩
  ·rw [Ac3.mp a];exact⟨_,e,l⟩)
 refine wpAny_mono (T _ s H n t m o h) (λu s' r=> ?_) λ_ _ z=>z.elim
 obtain⟨v,H',c,p,rfl,le⟩:=r
 obtain⟨t',rfl⟩:=p
 have i:=c.pin _ (Ab0 _ (Ab0 _ (Zg (by simp) j)))
 have d:=c.pin _ (Ab0 _ (Ab0 _ (Zg (by simp) e)))
 exact k t' s' H' c.bJ (h.trans le) (fS.keep i.2.1) (f.keep d.2.1) i.1 d.1
def Cu (hh:X.A.handled=y0) (T:oI X U H0 q is g) (hl:br X.K H0 l (is.map .int)) (hlJ:l≠J) (E:S≠J): ∀(xn:List Int) (j:Nat) (k:Int) (tv tb:Tok) (c:Nat) (s:Shared) (H:Hp),is.drop (j+1)=xn->j+1<=is.length->Inv X pins U H s->de H0 H->bu X pins H S->bu X pins H J →
 s.heap.get? S=k0 (seqObj "list" #[.int k tv,.int (g k) tb] c)->s.heap.IsListIter J l (j+1)->(∀ t s' H',Inv X pins U H' s'->de H0 H'->R (.ok (.ret (.int (fg g k xn) t))) s')->codeAny (model X.prog X.w) X.A (.builtin "min.loop" ⟨[.ref J,.ref q,.ref S],[]⟩) R s:=by
 have m:(toString "min" ++toString ".loop" :String)= "min.loop" :=by decide
 intro xn
 induction xn with
 | nil=>
  intro j k tv tb c s H V hj I N fS fJ eS G hR
  obtain⟨d,rv,pl, -⟩:=I.list (hl.le N)
  have il:d.length=is.length:=by rw [← rv.length,Aa]
  have hin:j+1=is.length:=by
   have:=congrArg List.length V
   rw [Af7]at this
   simp at this
   omega
  have W:=Walks.list (prog:=X.prog) (w:=X.w) (A:=X.A.in1) hh J l hlJ d.toArray
  refine codeAny_builtin PySem.F.entry_min_loop ?_
  rw [Around.under_plainId PySem.F.plain_min_loop _]
  show wpAny _ X.A.in1 _ _ _ _
  refine wpAny_bind (wpAny_seqItems eS rfl ?_)
  show wpAny _ X.A.in1 (tryCatch (pyNext (.ref J)) _ >>= _) _ _ _
  refine wpAny_bind (wpAny_tryCatch (W.done _ _ _ ⟨by rw [Ac0,il,←hin];exact G,pl.isList⟩ λY K f=> ?_))
  have F:=f S _ (by simpa using E) eS
  have s1:=Al8.update Y S (Obj.mapSeq λ_=>(#[]:Array Value))
  show wpAny _ X.A.in1 (updateSeq S (λ_=> #[]) >>= _) _ _ _
  refine wpAny_bind ?_
  refine wpAny_updateSeq F rfl (wpAny_bind (wpAny_letGo (wpAny_pure ?_)))
  have I1:Inv X pins U H { s with heap:=Y,toks:=K }:=I.b8 (ch:= [J]) (λb o a e=>f b o a e) λb a=>by rw [Ac3.mp a];exact fJ
  exact hR _ _ _ (I1.b8 (ch:= [S]) (λb o a e=>(s1.2 b (by simpa using a)).trans e) λb a=>by rw [Ac3.mp a];exact fS) N
 | cons n xn ih=>
  intro j k tv tb c s H V hj I N fS fJ eS G hR
  obtain⟨d,rv,pl, -⟩:=I.list (hl.le N)
  have il:d.length=is.length:=by rw [← rv.length,Aa]
  have L:j+1<is.length:=by
   have:=congrArg List.length V
   rw [Af7]at this
   simp at this
   omega
  have en:is[j+1]? =k0 n:=by
   have:=congrArg (·[0]?) V
   simpa using this
  have W:=Walks.list (prog:=X.prog) (w:=X.w) (A:=X.A.in1) hh J l hlJ d.toArray
  refine codeAny_builtin PySem.F.entry_min_loop ?_
  rw [Around.under_plainId PySem.F.plain_min_loop _]
  show wpAny _ X.A.in1 (seqItems? (.ref S) >>= _) _ _ _
  refine wpAny_bind (wpAny_seqItems eS rfl ?_)
  show wpAny _ X.A.in1 (tryCatch (pyNext (.ref J)) _ >>= _) _ _ _
  refine wpAny_bind (wpAny_tryCatch (W.item (j+1) _ _ _ (by rw [Ac0,il];exact L) ⟨G,pl.isList⟩ λv Y K hP hst' f=> ?_))
  obtain⟨u,hu,ru⟩:=rv.get (i:=j+1) (x:= .int n) (by rw [Ac2,en];rfl)
  obtain⟨r,rfl⟩:=ru
  obtain rfl:v= .int n r:=by
   have:d[j+1]? =k0 v:=by simpa using hP
   rw [hu]at this
   exact(Ad5.inj this).symm
  obtain⟨oJ,hoJ,M,B⟩:=id hst'.1
  have I1:Inv X pins U H { s with heap:=Y,toks:=K }:=I.b8 (ch:= [J]) (λb o a e=>f b o a e) λb a=>by rw [Ac3.mp a];exact fJ
  have F:Y.get? S=k0 _:=f S _ (by simpa using E) eS
  show wpAny _ X.A.in1 (tryCatch (holding [.int n r] (call (.ref q) [.int n r])) _ >>= _) _ _ _
  refine wpAny_bind (wpAny_tryCatch (wpAny_holding (vN T (Ac4 en) I1 N fS fJ F hoJ (λv z=>by cases z) (λv z=>by rw [B]at z;cases z) λy s2 H2 I2 Z C fJ2 D Q=> ?_)))
  have hit2:s2.heap.IsListIter J l (j+1+1):=⟨oJ,Q,M,B⟩
  have O:is.drop (j+1+1)=xn:=by
   have:=congrArg List.tail V
   simpa [List.tail_drop]using this
  show wpAny _ X.A.in1 (tryCatch (holding [.int n r,.int (g n) y] (richCompare .Lt (.int (g n) y) (.int (g k) tb) >>= _)) _ >>= _) _ _ _
  refine wpAny_bind (wpAny_tryCatch (wpAny_holding (wpAny_bind (CmpOf.ints_lt (prog:=X.prog) (w:=X.w) (A:=X.A.in1) (P:=λ(i:Nat) v=> ∃t,v= .int (if i=0 then g n else g k) t) (λi=>if i=0 then g n else g k) (λi v h=>h) 0 1 _ _ _ _ _ ⟨y,rfl⟩ ⟨tb,rfl⟩ ?_))))
  refine wpAny_bind (wpAny_holding (wpAny_truthy_bool ?_))
  refine wpAny_bind (wpAny_letGo (wpAny_pure ?_))
  show wpAny _ X.A.in1 (if y9 (g n<g k)=u0 then _ else _) _ _ _
  by_cases p:g n<g k
  ·have s1:=Al8.update s2.heap S (Obj.mapSeq λ_=> #[.int n r,.int (g n) y])
   obtain⟨c2,hc2⟩: ∃c2,(s2.heap.update S (Obj.mapSeq fun _=> #[.int n r,.int (g n) y])).get? S=k0 (seqObj "list" #[.int n r,.int (g n) y] c2):=⟨_,get?_update_seq D fun _=> #[.int n r,.int (g n) y]⟩
   rw [if_pos (decide_eq_true p)]
   refine wpAny_bind ?_
   refine wpAny_updateSeq D rfl (wpAny_bind (wpAny_letGo ?_))
   rw [m]
   refine wpAny_pure ⟨plainId_quiet PySem.F.plain_min_loop _,ih (j+1) n r y c2 _ H2 O L ?_ Z C fJ2 hc2 ⟨oJ,(s1.2 J E.symm).trans Q,M,B⟩ λt s' H' I' l'=> ?_⟩
   ·exact I2.b8 (ch:= [S]) (λb o a e=>(s1.2 b (by simpa using a)).trans e) λb a=>by rw [Ac3.mp a];exact C
   ·have:=hR t s' H' I' l'
    rw [fg,if_pos p]at this
    exact this
  ·rw [if_neg (by rw [decide_eq_false p];exact Ab2)]
   refine wpAny_bind (wpAny_letGo ?_)
   rw [m]
   refine wpAny_pure ⟨plainId_quiet PySem.F.plain_min_loop _,ih (j+1) k tv tb c _ H2 O L I2 Z C fJ2 D hit2 λt s' H' I' l'=> ?_⟩
   have:=hR t s' H' I' l'
   rw [fg,if_neg p]at this
   exact this
def AI (hh:X.A.handled=y0)(T:oI X U H q (n::is) g) (I:Inv X pins U H s) (hl:br X.K H l ((n::is).map .int)) (hQ: ∀t s' H',Inv X pins U H' s'->de H H'->Q (.int (fg g n is) t) s'):
 wpAny (model X.prog X.w) X.A (call (.builtin "min") [.ref l] [(Str.ofString "key",.ref q)]) Q E s:=by
 have c:(toString "min" ++toString ".loop" :String)= "min.loop" :=by decide
 obtain⟨f,rv,pl, -⟩:=I.list hl
 have j:=pl.isList
 obtain⟨ol,P,_⟩:=id j
 have Y:l<s.heap.objs.size:=Ac1 P
 have il:f.length=(n::is).length:=by rw [← rv.length,Aa]
 refine kmk_tree PySem.F.kind_min PySem.F.plain_min PySem.F.entry_min (kmk_min_key _ _) ?_
 show wpAny _ X.A.in1 _ _ _ s
 refine wpAny_bind (wpAny_of_eq (show Builtin.Builtins.bindParams "min" ["key", "default"] 0 ⟨[],[(Str.ofString "key",.ref q)]⟩=pure [some (.ref q),none]from rfl) ?_)
 refine wpAny_bind (wpAny_pure ?_)
 refine wpAny_bind (wpAny_pyIter_list j ?_)
 refine wpAny_bind (wpAny_newList ?_ (Af4 _))
 rw [c]
 have O:(s.heap.push { cls:= .type "list_iterator",data:= .fields #[.ref l,.int 0 0] }).objs.size=s.heap.objs.size+1:=size_push' ..
 have h:l≠s.heap.objs.size:=Ac7 Y
 have a:(s.heap.push { cls:= .type "list_iterator",data:= .fields #[.ref l,.int 0 0] }).objs.size≠s.heap.objs.size:=by rw [O];exact Nat.ne_of_gt (Nat.lt_succ_self _)
 have fJ:bu X pins H s.heap.objs.size:=I.c7 (Ab _) (I.a8.fresh (Ab _))
 have fS:bu X pins H (s.heap.push { cls:= .type "list_iterator",data:= .fields #[.ref l,.int 0 0] }).objs.size:=I.c7 (by rw [O];exact Nat.le_succ _) (I.a8.fresh (by rw [O];exact Nat.le_succ _))
 refine wpAny_pure ⟨plainId_quiet PySem.F.plain_min_loop _,?_⟩
 have gJ:((s.heap.push { cls:= .type "list_iterator",data:= .fields #[.ref l,.int 0 0] }).push (seqObj "list" #[] 0)).get? s.heap.objs.size=some { cls:= .type "list_iterator",data:= .fields #[.ref l,.int 0 0] }:=
  Ab3 _ (Ac6 _ rfl)
 have Z:((s.heap.push { cls:= .type "list_iterator",data:= .fields #[.ref l,.int 0 0] }).push (seqObj "list" #[] 0)).get? (s.heap.push { cls:= .type "list_iterator",data:= .fields #[.ref l,.int 0 0] }).objs.size=some _:=Heap.get?_push_size _ rfl
 have I0:Inv X pins U H { s with heap:=(s.heap.push { cls:= .type "list_iterator",data:= .fields #[.ref l,.int 0 0] }).push (seqObj "list" #[] 0),toks:=s.toks }:=I.kept fun b u e=>Heap.get?_push_of_some _ (Heap.get?_push_of_some _ e)
 have r:((s.heap.push { cls:= .type "list_iterator",data:= .fields #[.ref l,.int 0 0] }).push (seqObj "list" #[] 0)).IsList l f.toArray:=j.at fun o e=>Heap.get?_push_of_some _ (Heap.get?_push_of_some _ e)
 generalize (s.heap.push { cls:= .type "list_iterator",data:= .fields #[.ref l,.int 0 0] }).objs.size=S at a fS Z I0 r gJ ⊢
 generalize s.heap.objs.size=J at h a fJ gJ ⊢
 have W:=Walks.list (prog:=X.prog) (w:=X.w) (A:=X.A.in1) hh J l h f.toArray
 refine codeAny_builtin PySem.F.entry_min_loop ?_
 rw [Around.under_plainId PySem.F.plain_min_loop _]
 show wpAny _ X.A.in1 _ _ _ _
 refine wpAny_bind (wpAny_seqItems Z rfl ?_)
 show wpAny _ X.A.in1 (tryCatch (pyNext (.ref J)) _ >>= _) _ _ _
 refine wpAny_bind (wpAny_tryCatch (W.item 0 _ _ _ (by rw [Ac0,il];exact Nat.succ_pos _) ⟨⟨_,gJ,rfl,rfl⟩,r⟩ λv G D hP B y=> ?_))
 obtain⟨u,hu,ru⟩:=rv.get (i:=0) (x:= .int n) rfl
 obtain⟨d,rfl⟩:=ru
 obtain rfl:v= .int n d:=by
  have:f[0]? =k0 v:=by simpa using hP
  rw [hu]at this
  exact(Ad5.inj this).symm
 obtain⟨oJ,V,K,p⟩:=id B.1
 have R:=I0.b8 (h':=G) (t':=D) (ch:= [J]) (λb o k e=>y b o k e) λb k=>by rw [Ac3.mp k];exact fJ
 have R:Inv X pins U H { s with heap:=G,toks:=D }:=R
 have hS':G.get? S=k0 _:=y S _ (by simpa using a) Z
 show wpAny _ X.A.in1 (tryCatch (holding [.int n d] (call (.ref q) [.int n d])) _ >>= _) _ _ _
 refine wpAny_bind (wpAny_tryCatch (wpAny_holding (vN T Aa4 R de.refl fS fJ hS' V (λv z=>by cases z) (λv z=>by rw [p]at z;cases z) λm s2 H2 I2 hH2 C fJ2 F L=> ?_)))
 have s1:=Al8.update s2.heap S (Obj.mapSeq λ_=> #[.int n d,.int (g n) m])
 obtain⟨M,N⟩: ∃M,(s2.heap.update S (Obj.mapSeq fun _=> #[.int n d,.int (g n) m])).get? S=k0 (seqObj "list" #[.int n d,.int (g n) m] M):=⟨_,get?_update_seq F fun _=> #[.int n d,.int (g n) m]⟩
 show wpAny _ X.A.in1 (updateSeq S (λ_=> #[.int n d,.int (g n) m]) >>= _) _ _ _
 refine wpAny_bind ?_
 refine wpAny_updateSeq F rfl ?_
 rw [c]
 refine wpAny_pure ⟨plainId_quiet PySem.F.plain_min_loop _,Cu hh T hl h a is 0 n d m M _ H2 rfl (Nat.succ_le_succ (Af4 _)) ?_ hH2 C fJ2 N ⟨oJ,(s1.2 J a.symm).trans L,K,p⟩ λt s' H' I' l'=>hQ t s' H' I' l'⟩
 exact I2.b8 (ch:= [S]) (λb o k e=>(s1.2 b (by simpa using k)).trans e) λb k=>by rw [Ac3.mp k];exact C
end
def Li (K:Aa9) (a:Sp) (E:XK) (c:TE):TE:=λU H Q=>c U H λx H1=> ∃(l:Addr) (n:Int) (is:List Int) (g:Int->Int),x= .ref l/\br K H1 l ((n::is).map .int)/\(∀ m∈n::is,∀H2,de H1 H2->a [.int m] H2 (λv b=>v= .int (g m)/\de H2 b) E)/\ ∀H2,de H1 H2->Q (.int (fg g n is)) H2
section
variable {X:Cx}{CX:fY}{k:Nat}{f:Addr}{fd:FuncData}{ps:List Str}{sp:Sp}{E:XK}{x fn:Str}{p p2 kp pos:Pos}{e:Expr}{te:TE}
def FE (hc:X.calm=true) (hh:X.A.handled=none) (hg:Gl X x) (hm:X.mg x=none) (hv:bootBuiltins x=some (.builtin "min")) (F:QF X.prog X.w X.K X.mg X.base CX k f fd ps sp) (Z:a9 (k+1) X.A) (A:Gl X fn) (z:X.mg fn=some (.ref f)) (hb:Binds X.K fd ps [])
 (hE: ∀outer H s e s', ¬CX outer H s E e s') (he:PE X e te) (T:x≠ "__name__" :=by decide) (C:(x==("__debug__" :Str))=false:=by decide) (q:(fn==("__debug__" :Str))=false:=by decide)
 (G:starEach [e] X.env=(k9,eval e X.env)::starEach [] X.env:=by rfl):PE X (.Call (.Name x p) [e] [⟨k0 (Str.ofString "key"),.Name fn p2,kp⟩] pos) (Li X.K sp E te):=by
 intro a s U H Q I h
 refine wpAny_Call_Name_kw (XE I hg hm hv ?_ T C)
 have ha:=qj he Xs G
 have hk:PK X [⟨k0 (Str.ofString "key"),.Name fn p2,kp⟩] (oV (tC (.ref f)) lN):=AL (rP A z rfl q) Lr
 have L:=ha pos a s U H (λo i=>match o with
  | [v]=> ∃ l n is g,v= .ref l/\br X.K i l ((n::is).map .int)/\(∀ m∈n::is,∀b,de i b->sp [.int m] b (λv O=>v= .int (g m)/\de b O) E)/\ ∀b,de i b->Q (.int (fg g n is)) b
  | _=>False) I h
 ·refine QW (by rw [G];rfl) ?_
  rw [G]at L ⊢
  refine evalArgs_kw rfl (aQ L ?_)
  rintro us W ⟨o,i,I1,R,J⟩
  obtain⟨v,rfl⟩: ∃v,o= [v]:=by
   match o,J with
   | [v],_=>exact⟨v,rfl⟩
  obtain⟨l,n,is,g,rfl,hl,y,P⟩:=J
  refine aQ (hk pos a W U i (λN b=>N= [.ref f]/\b=i) I1 ?_) λws s2 ⟨N,b,I2,S,ez,eH⟩=> ?_
  ·exact⟨rfl,rfl⟩
  subst ez eH
  obtain⟨u,rfl,ru⟩:=R.one
  obtain⟨w,rfl,B⟩:=S.one
  obtain rfl:u= .ref l:=ru
  obtain rfl:w= .ref f:=B
  refine AI hh (λa s H d t D I hH=> ?_) I2 hl λt s' K I' Y=>⟨.int _,K,I',⟨_,rfl⟩,P K Y⟩
  have c:=y d D H hH
  have M:Vals [V.int d] [Value.int d t]:= .cons ⟨_,rfl⟩ .nil
  refine wpAny_call (codeAny_mono (F.run X.A.in1 X.stack s H ⟨[.int d t],[]⟩ [.int d t] [.int d] _ E Z.in1 I.ir.in1 (hb s [.int d t] I.cn (by rw [Af1,←M.length];exact F.len _ _ _ _ c)) M c) λr s' j=> ?_)
  cases r with
  | error e=>exact hE _ _ _ _ _ j
  | ok fl=>
   cases fl with
   | ret u=>exact I.after j
   | next=>exact False.elim j
   | brk=>exact False.elim j
   | cont=>exact False.elim j
end
end L2
set_option genSizeOfSpec false
namespace M
abbrev Tx:=List Nat
def rg: ∃n:Nat,n=1000000:=⟨_,rfl⟩
noncomputable def bg:Nat:=Aj5 rg
def Gg:bg=1000000:=Ah3 rg
def sf: ∃n:Int,n=1073741824:=⟨_,rfl⟩
noncomputable def iW:Int:=Aj5 sf
def GS:iW=1073741824:=Ah3 sf
def rR: ∃n:Int,n=2 ^ 62:=⟨_,rfl⟩
noncomputable def fv:Int:=Aj5 rR
def GR:fv=2 ^ 62:=Ah3 rR
def u2: ∃n:Int,n=2 ^ 64:=⟨_,rfl⟩
noncomputable def dH:Int:=Aj5 u2
def GY:dH=2 ^ 64:=Ah3 u2
def vq: ∃n:Int,n=1000000:=⟨_,rfl⟩
noncomputable def BP:Int:=Aj5 vq
def G8:BP=1000000:=Ah3 vq
def u4: ∃n:Nat,n=2 ^ 64:=⟨_,rfl⟩
noncomputable def kl:Nat:=Aj5 u4
def GD:kl=2 ^ 64:=Ah3 u4
inductive D where
 | aj
 | bl (b:Bool)
 | int (i:Int)
 | str (s:Tx)
 | tup (xs:List D)
 | lst (xs:List D)
 | ref (r:Nat)
inductive W where
 | v (d:D)
 | own (xs:List D)
 | bor (xs:List D)
abbrev WK:=Int×List Int×List Int
inductive Cell where
 | lst (xs:List D)
 | aN (kvs:List (Tx×D))
 | obj (c:String) (fs:List (String×D))
abbrev AH:=List Cell
abbrev Sl:=List (Option W)
inductive R (α:Type) where
 | ok (a:α) (h:AH)
 | fail
def R.bind {b c:Type}:R b->(b->AH->R c)->R c
 | .ok a h,f=>f a h
 | .fail,_=> .fail
inductive O where
 | next (τ:Sl) (h:AH)
 | ret (w:W) (h:AH)
 | brk (τ:Sl) (h:AH)
 | cont (τ:Sl) (h:AH)
 | fail
def O.seq:O->(Sl->AH->O)->O
 | .next τ h,f=>f τ h
 | o,_=>o
def R.cS {b:Type}:R b->(b->AH->O)->O
 | .ok a h,f=>f a h
 | .fail,_=> .fail
section
variable {α β:Type}
@[simp] theorem R.ae (a) (h) (f:α->AH->R β):(R.ok a h).bind f=f a h:=rfl
@[simp] theorem R.au (a) (h) (f:α->AH->O):(R.ok a h).cS f=f a h:=rfl
@[simp] theorem O.bK (τ) (h) (f):(O.next τ h).seq f=f τ h:=rfl
@[simp] theorem O.cC (w) (h) (f):(O.ret w h).seq f= .ret w h:=rfl
end
inductive Op where
 | add | sub | mul | fdiv | mod | pow | shl | shr | band | bor | bxor
 deriving DecidableEq
inductive Cp where
 | eq | ne | lt | le | gt | ge | mem | eR | cR | iR
 deriving DecidableEq
inductive Ty where
 | aj | bool | int | str | list | tuple
 deriving DecidableEq
inductive Mt where
 | index | count | b3
 deriving DecidableEq
inductive Bi where
 | len | int | list | tuple | sum | all | any | sorted | divmod | str | min | max | abs
 deriving DecidableEq
set_option genInjectivity false
mutual
inductive E where
 | var (i:Nat)
 | con (x:String)
 | int (i:Int)
 | bl (b:Bool)
 | aj
 | str (s:Tx)
 | tup (es:Es)
 | lst (es:Es)
 | bin (o:Op) (a b:E)
 | cmp (o:Cp) (a b:E)
 | chain (o p:Cp) (a b c:E)
 | eY (neg:Bool) (a:E)
 | neg (a:E)
 | inv (a:E)
 | not (a:E)
 | and (a b:E)
 | or (a b:E)
 | call (f:String) (es:Es)
 | bi (b:Bi) (es:Es)
 | b7 (a:E) (t:Ty)
 | ix (a b:E)
 | sl (a lo hi:E)
 | fu (a lo:E)
 | fU (a hi:E)
 | comp (tg:List Nat) (one:Bool) (k:Nat) (aB:List Nat) (it:It) (y7:Bool) (c elt:E)
 | c5
 | eD (i:Nat) (a:E)
 | cT (neg:Bool) (a:E) (i:Nat)
 | ej (i:Nat)
 | fD (k1:Tx) (a:E) (k2:Tx) (b:E) (k3:Tx) (c:E) (i:Nat)
 | share (a:E)
 | b0 (a:E)
 | dD (s:Tx) (ts:List Tx)
 | dz (m:Mt) (a:E) (es:Es)
 | make (c q:String) (es:Es)
 | aJ (a:E) (c f:String)
 | bO (a:E) (c m q:String) (es:Es)
 | eP (a:E)
 | eZ (f:String) (a:E)
inductive Es where
 | nil
 | cons (e:E) (es:Es)
inductive It where
 | seq (e:E)
 | ar (a:E)
 | ck (e:E)
end
set_option genInjectivity true
mutual
inductive S where
 | set (i:Nat) (e:E)
 | af (i:Nat) (e:E)
 | eO (is:List Nat) (e:E)
 | bQ (o k e:E)
 | app (i:Nat) (e:E)
 | ext (i:Nat) (e:E)
 | cm (i:Nat) (k e:E)
 | dP (i:Nat) (k e:E)
 | bS (i:Nat) (c f:String) (e:E)
 | ex (e:E)
 | ret (e:E)
 | iff (c:E) (a b:Ss)
 | iN (n:Nat) (c:E) (b:Ss)
 | for (tg:List Nat) (one:Bool) (it:It) (b:Ss)
 | fm (o k:E) (j:Nat) (e:E)
 | bI (i:Nat) (c f:String) (e:E)
 | el
inductive Ss where
 | nil
 | cons (s:S) (ss:Ss)
end
noncomputable section
mutual
@[simp,reducible] noncomputable def Gd:D->Bool
 | .ref _=>k9
 | .tup xs=>Gc xs
 | .lst xs=>Gc xs
 | _=>u0
@[simp,reducible] noncomputable def Gc:List D->Bool
 | []=>u0
 | x::xs=>Gd x&&Gc xs
end
mutual
@[simp,reducible] noncomputable def dep:D->Nat
 | .tup xs=>GG xs+1
 | .lst xs=>GG xs+1
 | _=>0
@[simp,reducible] noncomputable def GG:List D->Nat
 | []=>0
 | x::xs=>max (dep x) (GG xs)
end
def Cell.pure:Cell->Bool
 | .obj _ fs=>Gc (fs.map (·.2))
 | _=>u0
def Gx (h:AH):Bool:=h.all Cell.pure
@[reducible] def G6 (a b:D):Bool:=Gd a&&Gd b&&y9 (dep a<150)
mutual
@[simp] noncomputable def res (h:AH):D->D
 | .ref r=>match h[r]? with
  | some (.lst xs)=> .lst xs
  | _=> .ref r
 | .tup xs=> .tup (GU h xs)
 | .lst xs=> .lst (GU h xs)
 | d=>d
@[simp] noncomputable def GU (h:AH):List D->List D
 | []=> []
 | x::xs=>res h x::GU h xs
end
mutual
@[simp] noncomputable def cw:D->D->Bool
 | .aj,.aj=>u0
 | .bl a,.bl b=>a==b
 | .int i,.int j=>i==j
 | .bl a,.int j=>(a.toNat:Int)==j
 | .int i,.bl b=>i==(b.toNat:Int)
 | .str s,.str t=>s==t
 | .tup xs,.tup ys=>GK xs ys
 | .lst xs,.lst ys=>GK xs ys
 | _,_=>k9
@[simp] noncomputable def GK:List D->List D->Bool
 | [],[]=>u0
 | x::xs,y::ys=>cw x y&&GK xs ys
 | _,_=>k9
end
def gU (s:Tx):List D:=s.map λc=> .str [c]
def W.d:W->Option D
 | .v d=>k0 d
 | .own xs=>k0 (.lst xs)
 | .bor _=>y0
def W.arg:W->W
 | .own xs=> .bor xs
 | w=>w
@[simp] theorem W.bY (d):(W.v d).arg= .v d:=rfl
@[simp] theorem W.eC (xs):(W.own xs).arg= .bor xs:=rfl
@[simp] theorem W.gH (xs):(W.bor xs).arg= .bor xs:=rfl
def W.dd (h:AH):W->D
 | .v d=>res h d
 | .own xs=> .lst (GU h xs)
 | .bor xs=> .lst (GU h xs)
noncomputable def W.cc (h:AH):W->Option (List D)
 | .v (.lst xs)=>k0 xs
 | .own xs=>k0 xs
 | .bor xs=>k0 xs
 | .v (.ref r)=>match h[r]? with
  | some (.lst xs)=>k0 xs
  | _=>y0
 | _=>y0
noncomputable def W.seq? (h:AH):W->Option (List D)
 | .v (.tup xs)=>k0 xs
 | .v (.lst xs)=>k0 xs
 | .own xs=>k0 xs
 | .bor xs=>k0 xs
 | .v (.ref r)=>match h[r]? with
  | some (.lst xs)=>k0 xs
  | _=>y0
 | _=>y0
def R.of {b:Type}(h:AH):Option b->R b
 | some a=> .ok a h
 | none=> .fail
@[simp] abbrev aq (d:D) (h:AH):R W:= .ok (.v d) h
def GZ (h:AH):W->Option Bool
 | .v .aj=>k0 k9
 | .v (.bl b)=>k0 b
 | .v (.int i)=>k0 (i != 0)
 | .v (.str s)=>if s.length<=bg then k0 (!s.isEmpty)else y0
 | .v (.tup xs)=>k0 (!xs.isEmpty)
 | .v (.lst xs)=>k0 (!xs.isEmpty)
 | .own xs=>k0 (!xs.isEmpty)
 | .bor xs=>k0 (!xs.isEmpty)
 | _=>y0
@[simp] theorem R.ak (h) (a:α):R.of h (k0 a)= .ok a h:=rfl
@[simp] theorem W.mn (d):(W.v d).d=k0 d:=rfl
@[simp] theorem W.fG (xs):(W.own xs).d=k0 (.lst xs):=rfl
@[simp] theorem W.eV (h) (d):(W.v d).dd h=res h d:=rfl
@[simp] theorem W.ip (h) (xs):(W.own xs).dd h= .lst (GU h xs):=rfl
@[simp] theorem W.iG (h) (xs):(W.bor xs).dd h= .lst (GU h xs):=rfl
@[simp] theorem W.lu (h) (xs):(W.v (.lst xs)).cc h=k0 xs:=rfl
@[simp] theorem GO (h) (b):GZ h (.v (.bl b))=k0 b:=rfl
@[simp] theorem ui (h) (i):GZ h (.v (.int i))=k0 (i != 0):=rfl
noncomputable def G9 (i j:Int):Option Int:=
 if 0<=i then(if 0<=j then k0 ((i.toNat &&& j.toNat:Nat):Int)else k0 ((i.toNat-(i.toNat &&& (-j-1).toNat):Nat):Int))else y0
def i8 (i j:Int):Option Int:=if 0<=i/\0<=j then k0 ((i.toNat ||| j.toNat:Nat):Int)else y0
def Ky (i j:Int):Option Int:=if 0<=i/\0<=j then k0 ((i.toNat ^^^ j.toNat:Nat):Int)else y0
def Gi (o:Op) (i j:Int):Option Int:=match o with
 | .add=>k0 (i+j)
 | .sub=>k0 (i-j)
 | .mul=>if(-(dH)<i/\i<dH)\/(-(dH)<j/\j<dH)then k0 (i*j)else y0
 | .fdiv=>if 0<j/\j<iW then k0 (i / j)else y0
 | .mod=>if 0<j then k0 (i % j)else y0
 | .pow=>if 0<=j/\j<=BP/\i.natAbs<kl then k0 (i ^ j.toNat)else y0
 | .shl=>if 0<=j/\j<=BP/\i.natAbs<kl then k0 (i*2 ^ j.toNat)else y0
 | .shr=>if 0<=j then k0 (i / 2 ^ j.toNat)else y0
 | .band=>G9 i j
 | .bor=>i8 i j
 | .bxor=>Ky i j
def W.int? :W->Option Int
 | .v (.int i)=>k0 i
 | _=>y0
def W.bH :W->Option Tx
 | .v (.str s)=>k0 s
 | _=>y0
def W.eN :W->Option (List D)
 | .v (.tup s)=>k0 s
 | _=>y0
def KC (xs a:List D) (h:AH):R W:=if xs.length+a.length<=bg then .ok (.own (xs++a)) h else .fail
def Kw (xs:List D) (j:Int) (h:AH):R W:=if -1000<=j/\j<=1000/\xs.length*j.toNat<=bg then .ok (.own (Aa3 j.toNat xs).flatten) h else .fail
def KB (a b:W) (h:AH):R W:=match a.bH,b.bH with
 | some s,k0 t=>if s.length+t.length<=bg then aq (.str (s++t)) h else .fail
 | _,_=>match a.eN,b.eN with
  | some xs,k0 ys=>if xs.length+ys.length<=bg then aq (.tup (xs++ys)) h else .fail
  | _,_=>match a.cc h,b.cc h with
   | some xs,k0 ys=>KC xs ys h
   | _,_=> .fail
noncomputable def W.gS (h:AH):W->Option (List D)
 | .own xs=>k0 xs
 | .bor xs=>k0 xs
 | .v (.ref r)=>match h[r]? with
  | some (.lst xs)=>k0 xs
  | _=>y0
 | _=>y0
def KD (a b:W) (h:AH):R W:=match a.bH,b.int? with
 | some s,k0 j=>if 0<=j/\j<=1000/\s.length*j.toNat<=bg then aq (.str (Aa3 j.toNat s).flatten) h else .fail
 | _,_=>match a.gS h,b.int? with
  | some xs,k0 j=>Kw xs j h
  | _,_=> .fail
def GV (o:Op) (a b:W) (h:AH):R W:=match a.int?,b.int? with
 | some i,k0 j=>(R.of h (Gi o i j)).bind λk h=>aq (.int k) h
 | _,_=>match o with
  | .add=>KB a b h
  | .mul=>KD a b h
  | _=> .fail
def inD (x:D) (xs:List D):Bool:=xs.any λy=>cw y x
@[simp,reducible] def GN:D->Bool
 | .aj=>u0
 | .bl _=>u0
 | .int _=>u0
 | .str _=>u0
 | _=>k9
def Kv (a b:W) (h:AH):Option Bool:=match b.dd h with
 | .lst ys=>if Gd (a.dd h)&&Gc ys&&y9 (GG ys<140)then k0 (inD (a.dd h) ys)else y0
 | _=>y0
def Kh (a b:W) (h:AH):Option Bool:=match a.bH,b.bH with
 | some s,k0 t=>match s with
  | [c]=>k0 (t.contains c)
  | _=>y0
 | _,_=>match a.d,b.seq? h with
  | some d,k0 xs=>if GN d&&xs.all GN then k0 (inD d xs)else Kv a b h
  | _,_=>y0
noncomputable def Kz (o:Cp) (i j:Int):Option Bool:=match o with
 | .lt=>k0 (y9 (i<j))
 | .le=>k0 (y9 (i<=j))
 | .gt=>k0 (y9 (j<i))
 | .ge=>k0 (y9 (j<=i))
 | _=>y0
def KA (o:Cp) (i j:Tx):Option Bool:=match o with
 | .lt=>k0 (y9 (i<j))
 | .ge=>k0 (!y9 (i<j))
 | _=>y0
def Ku:W->W->Option Bool
 | .v .aj,.v (.bl _)=>k0 k9
 | .v (.bl b),.v (.bl c)=>k0 (b==c)
 | _,_=>y0
def Gr (o:Cp) (a b:W) (h:AH):Option Bool:=match o with
 | .eq=>if G6 (a.dd h) (b.dd h)then k0 (cw (a.dd h) (b.dd h))else y0
 | .ne=>if G6 (a.dd h) (b.dd h)then k0 (!cw (a.dd h) (b.dd h))else y0
 | .mem=>Kh a b h
 | .eR=>(Kh a b h).map (!·)
 | .cR=>Ku a b
 | .iR=>(Ku a b).map (!·)
 | o=>match a.int?,b.int? with
  | some i,k0 j=>Kz o i j
  | _,_=>match a.bH,b.bH with
   | some s,k0 t=>KA o s t
   | _,_=>y0
noncomputable def dv (n:Nat) (i:Int):Option Nat:=if 0<=i then(if i<n then k0 i.toNat else y0)else if -(n:Int)<=i then k0 (i+n).toNat else y0
def aU {a:Type}(xs:List a) (i:Int):Option a:=(dv xs.length i).bind λj=>xs[j]?
def dF (a b:W) (h:AH):Option D:=match b.int? with
 | some i=>match a.bH with
  | some s=>if s.length<=bg then(aU s i).map λc=> .str [c]else y0
  | none=>(a.seq? h).bind λxs=>aU xs i
 | none=>y0
def aY (n d:Nat):Option Int->Nat
 | none=>d
 | some v=>if v<0 then(v+n).toNat else min v.toNat n
noncomputable def cut {b:Type}(xs:List b) (a c:Option Int):List b:=(xs.drop (aY xs.length 0 a)).take (aY xs.length xs.length c-aY xs.length 0 a)
def gf (a:W) (c b:Option Int) (h:AH):R W:=match a.bH with
 | some s=>if s.length<=bg then aq (.str (cut s c b)) h else .fail
 | none=>match a.eN with
  | some xs=>aq (.tup (cut xs c b)) h
  | none=>match a.cc h with
   | some xs=> .ok (.own (cut xs c b)) h
   | none=> .fail
def Kj:List D->Option Int
 | []=>k0 0
 | .int i::r=>(Kj r).map (i+ ·)
 | _::_=>y0
def GM:List D->Option (List Int)
 | []=>k0 []
 | .int i::r=>(GM r).map (i:: ·)
 | _::_=>y0
def GQ:List D->Option (List Tx)
 | []=>k0 []
 | .str s::r=>(GQ r).map (s:: ·)
 | _::_=>y0
def BO:List Int->Option Int
 | []=>y0
 | i::r=>k0 (r.foldl (λa b=>if b>a then b else a) i)
def FW:List Int->Option Int
 | []=>y0
 | i::r=>k0 (r.foldl (λa b=>if b<a then b else a) i)
def Kf (x:Tx):List Tx->List Tx
 | []=> [x]
 | y::ys=>if y<x then y::Kf x ys else x::y::ys
def GB:List Tx->List Tx
 | []=> []
 | x::xs=>Kf x (GB xs)
def Ki (x:Tx):List Tx->Option Nat
 | []=>y0
 | y::ys=>if y=x then k0 0 else(Ki x ys).map (· +1)
def Kl:List D->Option (List Bool)
 | []=>k0 []
 | .bl b::r=>(Kl r).map (b:: ·)
 | _::_=>y0
def gz (b:Bi) (w:W) (h:AH):R W:=match b with
 | .len=>match w.bH with
  | some s=>if s.length<=bg then aq (.int s.length) h else .fail
  | none=>(R.of h (w.seq? h)).bind λxs h=>aq (.int xs.length) h
 | .int=>match w with
  | .v (.int i)=>aq (.int i) h
  | .v (.bl b)=>aq (.int (b.toNat:Int)) h
  | _=> .fail
 | .list=>(R.of h (w.seq? h)).bind λxs h=> .ok (.own xs) h
 | .tuple=>(R.of h (w.seq? h)).bind λxs h=>aq (.tup xs) h
 | .sum=>(R.of h ((w.cc h).bind λxs=>if xs.length<=bg then Kj xs else y0)).bind λi h=>aq (.int i) h
 | .all=>(R.of h ((w.cc h).bind Kl)).bind λbs h=>aq (.bl (bs.all id)) h
 | .any=>(R.of h ((w.cc h).bind Kl)).bind λbs h=>aq (.bl (bs.any id)) h
 | .max=>(R.of h (((w.cc h).bind GM).bind BO)).bind λi h=>aq (.int i) h
 | .min=>(R.of h (((w.cc h).bind GM).bind FW)).bind λi h=>aq (.int i) h
 | .sorted=>(R.of h ((w.cc h).bind GQ)).bind λa h=>if a.length<64 then .ok (.own ((GB a).map .str)) h else .fail
 | _=> .fail
noncomputable def mS (m:Mt) (x:W) (h:AH):Bool:=match m with
 | .index=>x.eN.isSome
 | .count=>(x.cc h).isSome
 | .b3=>(x.cc h).isSome
@[simp] theorem pE (xs) (h):mS .index (.v (.tup xs)) h=true:=rfl
def Kk:Nat->List D->List D
 | _,[]=> []
 | i,d::ds=> .tup [.int (i:Int),d]::Kk (i+1) ds
def Ks (d:D):List D->Option Nat
 | []=>y0
 | y::ys=>if cw y d=u0 then k0 0 else(Ks d ys).map (· +1)
def Kx (a b:W) (h:AH):Option Nat:=match b.dd h with
 | .lst ys=>if(Gd (a.dd h)&&Gc ys&&y9 (GG ys<140))&&y9 (ys.length<=bg)then Ks (a.dd h) ys else y0
 | _=>y0
def mG (m:Mt) (x:W) (ws:List W) (h:AH):R W:=match m,ws with
 | .index,[w]=>(R.of h (x.eN.bind GQ)).bind λa h=>(R.of h w.bH).bind λt h=>(R.of h (Ki t a)).bind λn h=>if a.length<=bg then aq (.int (n:Int)) h else .fail
 | .count,[w]=>(R.of h ((x.cc h).bind GM)).bind λis h=>(R.of h w.int?).bind λi h=>if is.length<=bg then aq (.int ((is.count i:Nat):Int)) h else .fail
 | .b3,[w]=>(R.of h (Kx w x h)).bind λn h=>aq (.int (n:Int)) h
 | _,_=> .fail
def pL (b:Bi) (i j:Int) (h:AH):R W:=match b with
 | .divmod=>if 0<j/\j<iW then aq (.tup [.int (i / j),.int (i % j)]) h else .fail
 | .min=>aq (.int (if j<i then j else i)) h
 | .max=>aq (.int (if j>i then j else i)) h
 | _=> .fail
def dG (b:Bi) (ws:List W) (h:AH):R W:=match ws with
 | [w]=>gz b w h
 | [v,w]=>(R.of h v.int?).bind λi h=>(R.of h w.int?).bind λj h=>pL b i j h
 | _=> .fail
@[simp] theorem GH (o) (i j) (h):GV o (.v (.int i)) (.v (.int j)) h=(R.of h (Gi o i j)).bind λk h=>aq (.int k) h:=rfl
@[simp] theorem Jc (i j):Gi .add i j=k0 (i+j):=rfl
@[simp] theorem We (i j):Gi .sub i j=k0 (i-j):=rfl
@[simp] theorem Fz (s u) (h):GV .add (.v (.str s)) (.v (.str u)) h=if s.length+u.length<=bg then aq (.str (s++u)) h else .fail:=rfl
@[simp] theorem QS (s u) (h):GV .add (.v (.tup s)) (.v (.tup u)) h=if s.length+u.length<=bg then aq (.tup (s++u)) h else .fail:=rfl
@[simp] theorem yJ (s u) (h):GV .add (.own s) (.own u) h=if s.length+u.length<=bg then .ok (.own (s++u)) h else .fail:=rfl
@[simp] theorem jZ (i j) (h):Gr .lt (.v (.int i)) (.v (.int j)) h=k0 (y9 (i<j)):=rfl
@[simp] theorem W3 (i j) (h):Gr .le (.v (.int i)) (.v (.int j)) h=k0 (y9 (i<=j)):=rfl
@[simp] theorem K3 (i j) (h):Gr .gt (.v (.int i)) (.v (.int j)) h=k0 (y9 (j<i)):=rfl
@[simp] theorem Hi (i j) (h):Gr .ge (.v (.int i)) (.v (.int j)) h=k0 (y9 (j<=i)):=rfl
@[simp] theorem Ea (a b) (h):Gr .eq a b h=if G6 (a.dd h) (b.dd h)then k0 (cw (a.dd h) (b.dd h))else none:=rfl
@[simp] theorem Me (a b) (h):Gr .ne a b h=if G6 (a.dd h) (b.dd h)then k0 (!cw (a.dd h) (b.dd h))else none:=rfl
@[simp] theorem int?_int (i):(W.v (.int i)).int? =k0 i:=rfl
@[simp] theorem len_str (s) (h):dG .len [.v (.str s)] h=if s.length<=bg then aq (.int s.length) h else .fail:=rfl
@[simp] theorem Qe (s) (h):dG .len [.v (.tup s)] h=aq (.int s.length) h:=rfl
@[simp] theorem JJ (s) (h):dG .len [.v (.lst s)] h=aq (.int s.length) h:=rfl
@[simp] theorem int_int (i) (h):dG .int [.v (.int i)] h=aq (.int i) h:=rfl
@[simp] theorem uF (s) (h):dG .list [.v (.tup s)] h= .ok (.own s) h:=rfl
@[simp] theorem JZ (s) (h):dG .tuple [.own s] h=aq (.tup s) h:=rfl
@[simp] theorem WX (s) (h):dG .tuple [.bor s] h=aq (.tup s) h:=rfl
@[simp] theorem Mu (s) (h):dG .all [.own s] h=(R.of h (Kl s)).bind λbs h=>aq (.bl (bs.all id)) h:=rfl
@[simp] theorem MA (s) (h):dG .any [.own s] h=(R.of h (Kl s)).bind λbs h=>aq (.bl (bs.any id)) h:=rfl
@[simp] theorem ud (s) (h):dG .sum [.own s] h=(R.of h (if s.length<=bg then Kj s else y0)).bind λi h=>aq (.int i) h:=rfl
@[simp] theorem W5 (i j) (h):dG .divmod [.v (.int i),.v (.int j)] h=if 0<j/\j<iW then aq (.tup [.int (i / j),.int (i % j)]) h else .fail:=rfl
@[simp] theorem oa (s) (i) (h):dF (.v (.str s)) (.v (.int i)) h=if s.length<=bg then(aU s i).map λc=> .str [c]else none:=rfl
@[simp] theorem aa (s) (i) (h):dF (.v (.tup s)) (.v (.int i)) h=aU s i:=rfl
@[simp] theorem Jq (s) (i) (h):dF (.v (.lst s)) (.v (.int i)) h=aU s i:=rfl
@[simp] theorem qN (s) (i) (h):dF (.own s) (.v (.int i)) h=aU s i:=rfl
@[simp] theorem yH (s) (i) (h):dF (.bor s) (.v (.int i)) h=aU s i:=rfl
@[simp] theorem rp (s) (lo hi) (h):gf (.v (.lst s)) lo hi h= .ok (.own (cut s lo hi)) h:=rfl
@[simp] theorem Bg (s) (lo hi) (h):gf (.bor s) lo hi h= .ok (.own (cut s lo hi)) h:=rfl
abbrev d3:=List (String×String)
noncomputable def DI:W->Option Ty
 | .v .aj=>k0 .aj
 | .v (.bl _)=>k0 .bool
 | .v (.int _)=>k0 .int
 | .v (.str _)=>k0 .str
 | .v (.tup _)=>k0 .tuple
 | .v (.lst _)=>k0 .list
 | .own _=>k0 .list
 | .bor _=>k0 .list
 | .v (.ref _)=>y0
def Ty.le:Ty->Ty->Bool
 | .bool,.int=>u0
 | a,b=>y9 (a=b)
def b7 (t:Ty) (w:W):Option Bool:=(DI w).map λu=>u.le t
@[simp] theorem EX (t) (i):b7 t (.v (.int i))=k0 (Ty.le .int t):=rfl
@[simp] theorem C9 (t) (s):b7 t (.v (.tup s))=k0 (Ty.le .tuple t):=rfl
@[simp] theorem Ty.gq (t):Ty.le t t=true:=by cases t<;>rfl
@[simp] theorem Ty.kL:Ty.le .int .tuple=false:=rfl
@[simp] def Gn:Sl->Nat->Option W
 | [],_=>y0
 | x::_,0=>x
 | _::r,n+1=>Gn r n
@[simp] def GC:Sl->Nat->W->Sl
 | [],_,_=> []
 | _::r,0,w=>k0 w::r
 | x::r,n+1,w=>x::GC r n w
def Gj (τ:Sl) (i:Nat):Option W:=match Gn τ i with
 | some (.own xs)=>k0 (.bor xs)
 | o=>o
@[simp] theorem Kd (e:Gn τ i=k0 (.own xs)):Gj τ i=k0 (.bor xs):=by simp [Gj,e]
@[simp] theorem Kt (e:Gn τ i=k0 (.v d)):Gj τ i=k0 (.v d):=by simp [Gj,e]
@[simp] theorem Kc (e:Gn τ i=k0 (.bor xs)):Gj τ i=k0 (.bor xs):=by simp [Gj,e]
@[simp] noncomputable def aX:List Nat->List D->Sl->Option Sl
 | [],[],τ=>k0 τ
 | i::is,d::ds,τ=>aX is ds (GC τ i (.v d))
 | _,_,_=>y0
def Gp (tg:List Nat) (one:Bool) (d:D) (τ:Sl):Option Sl:=match one with
 | true=>match tg with
  | [i]=>k0 (GC τ i (.v d))
  | _=>y0
 | false=>match d with
  | .tup ds=>aX tg ds τ
  | _=>y0
noncomputable def Gy (step:D->AH->R (Option D)):List D->AH->R (List D)
 | [],h=> .ok [] h
 | d::ds,h=>match step d h with
  | .ok o h1=>match Gy step ds h1 with
   | .ok r h2=> .ok (match o with | some x=>x::r | none=>r) h2
   | _=> .fail
  | _=> .fail
structure Fx where
 call:String->List W->AH->R W
 cl:d3
 con:List (String×D)
noncomputable def GX (h:AH):Option W->Option (Nat×String×List (String×D))
 | some (.v (.ref r))=>match h[r]? with
  | some (.obj c fs)=>k0 (r,c,fs)
  | _=>y0
 | _=>y0
noncomputable def aW (f:String) (d:D):List (String×D)->List (String×D)
 | []=> [(f,d)]
 | (g,x)::r=>if g=f then(g,d)::r else(g,x)::aW f d r
def vk:W->Option (List D)
 | .v (.lst xs)=>k0 xs
 | .own xs=>k0 xs
 | _=>y0
noncomputable def GT (h:AH):Option W->Option (Nat×List (Tx×D))
 | some (.v (.ref r))=>match h[r]? with
  | some (.aN ks)=>k0 (r,ks)
  | _=>y0
 | _=>y0
noncomputable def GE (a:List (Tx×D)) (k:Tx) (d:D):List (Tx×D):=if a.any (λp=>y9 (p.1=k))then a.map (λp=>if p.1=k then(p.1,d)else p)else a++ [(k,d)]
noncomputable def eD (w:W) (o:Option (Nat×List (Tx×D))) (h:AH):R W:=match w,o with
 | .v (.str k),k0 (_,ks)=>match ks.lookup k with
  | some d=>aq d h
  | none=> .fail
 | _,_=> .fail
noncomputable def cT (neg:Bool) (w:W) (o:Option (Nat×List (Tx×D))) (h:AH):R W:=match w,o with
 | .v (.str k),k0 (_,ks)=>aq (.bl (if neg then !(ks.lookup k).isSome else(ks.lookup k).isSome)) h
 | _,_=> .fail
noncomputable def fD (T:List (Tx×W)) (o:Option W) (h:AH):R W:=match o with
 | some (.v (.str k))=>match T.lookup k with
  | some (.v d)=>if GN d then aq d h else .fail
  | _=> .fail
 | _=> .fail
def Kg (i:Int):Nat:=if i=0 then 0 else Nat.log2 i.natAbs+1
def G7:R W->Option Int
 | .ok (.v (.int y)) []=>k0 y
 | _=>y0
noncomputable def GW (key:Int->R W):Int->Int->List Int->Option Int
 | b,_,[]=>k0 b
 | b,a,x::xs=>(G7 (key x)).bind λk=>if k<a then GW key x k xs else GW key b a xs
def Ka (key:Int->R W):Option (List Int)->Option Int
 | some (x::xs)=>(G7 (key x)).bind λk=>GW key x k xs
 | _=>y0
mutual
@[simp] noncomputable def eval (F:Fx):E->Sl->AH->R W
 | .var i,τ,h=>match Gj τ i with
  | some w=> .ok w h
  | none=> .fail
 | .con x,_,h=>match F.con.lookup x with
  | some d=>aq d h
  | none=> .fail
 | .int i,_,h=>aq (.int i) h
 | .bl b,_,h=>aq (.bl b) h
 | .aj,_,h=>aq .aj h
 | .str s,_,h=>aq (.str s) h
 | .tup es,τ,h=>(Gv F es τ h).bind λds h=>aq (.tup ds) h
 | .lst es,τ,h=>(Gv F es τ h).bind λds h=> .ok (.own ds) h
 | .bin o a b,τ,h=>(eval F a τ h).bind λx h=>(eval F b τ h).bind λy h=>GV o x y h
 | .cmp o a b,τ,h=>(eval F a τ h).bind λx h=>(eval F b τ h).bind λy h=>(R.of h (Gr o x y h)).bind λc h=>aq (.bl c) h
 | .chain o p a b c,τ,h=>(eval F a τ h).bind λx h=>(eval F b τ h).bind λy h=>(R.of h (Gr o x y h)).bind λt h=>match t with
  | true=>(eval F c τ h).bind λz h=>(R.of h (Gr p y z h)).bind λc h=>aq (.bl c) h
  | false=>aq (.bl k9) h
 | .eY neg a,τ,h=>(eval F a τ h).bind λx h=>match x with
  | .v .aj=>aq (.bl (!neg)) h
  | _=>aq (.bl neg) h
 | .neg a,τ,h=>(eval F a τ h).bind λx h=>(R.of h x.int?).bind λi h=>aq (.int (-i)) h
 | .inv a,τ,h=>(eval F a τ h).bind λx h=>(R.of h x.int?).bind λi h=>aq (.int (-i-1)) h
 | .not a,τ,h=>(eval F a τ h).bind λx h=>(R.of h (GZ h x)).bind λc h=>aq (.bl (!c)) h
 | .and a b,τ,h=>(eval F a τ h).bind λx h=>(R.of h (GZ h x)).bind λc h=>match c with
  | true=>eval F b τ h
  | false=> .ok x h
 | .or a b,τ,h=>(eval F a τ h).bind λx h=>(R.of h (GZ h x)).bind λc h=>match c with
  | true=> .ok x h
  | false=>eval F b τ h
 | .call f es,τ,h=>(Gf F es τ h).bind λws h=>F.call f (ws.map W.arg) h
 | .bi b es,τ,h=>(Gf F es τ h).bind λws h=>dG b ws h
 | .b7 a t,τ,h=>(eval F a τ h).bind λx h=>(R.of h (b7 t x)).bind λc h=>aq (.bl c) h
 | .ix a b,τ,h=>(eval F a τ h).bind λx h=>(eval F b τ h).bind λy h=>(R.of h (dF x y h)).bind λd h=>aq d h
 | .sl a lo hi,τ,h=>(eval F a τ h).bind λx h=>(eval F lo τ h).bind λl h=>(R.of h l.int?).bind λl h=>(eval F hi τ h).bind λu h=>(R.of h u.int?).bind λu h=>gf x (k0 l) (k0 u) h
 | .fu a lo,τ,h=>(eval F a τ h).bind λx h=>(eval F lo τ h).bind λl h=>(R.of h l.int?).bind λl h=>gf x (k0 l) y0 h
 | .fU a hi,τ,h=>(eval F a τ h).bind λx h=>(eval F hi τ h).bind λu h=>(R.of h u.int?).bind λu h=>gf x y0 (k0 u) h
 | .comp tg one k aB it y7 c elt,τ,h=>(Gk F it τ h).bind λds h=>
  if ds.length<=bg then
   (Gy (λd h=>match Gp tg one d (Aa3 k y0++aB.map λj=>Gj τ j)with
     | none=> .fail
     | some τ'=>(if y7 then(eval F c τ' h).bind λx h=>R.of h (GZ h x)else .ok u0 h).bind λb h=>match b with
      | true=>(eval F elt τ' h).bind λy h=>(R.of h y.d).bind λy h=> .ok (k0 y) h
      | false=> .ok y0 h) ds h).bind λys h=> .ok (.own ys) h
  else .fail
 | .c5,_,h=>aq (.ref h.length) (h++ [.aN []])
 | .eD i a,τ,h=>match GT h (Gn τ i)with
  | some _=>(eval F a τ h).bind λx h=>eD x (GT h (Gn τ i)) h
  | none=> .fail
 | .cT neg a i,τ,h=>(eval F a τ h).bind λx h=>cT neg x (GT h (Gn τ i)) h
 | .fD k1 a k2 b k3 c i,τ,h=>(eval F a τ h).bind λx h=>(eval F b τ h).bind λy h=>(eval F c τ h).bind λz h=>fD [(k1,x),(k2,y),(k3,z)] (Gn τ i) h
 | .ej i,τ,h=>match GT h (Gn τ i)with
  | some (_,ks)=>aq (.ref h.length) (h++ [.aN ks])
  | none=> .fail
 | .share a,τ,h=>(eval F a τ h).bind λx h=>match x with
  | .own xs=>if Gc xs then aq (.ref h.length) (h++ [.lst xs])else .fail
  | _=> .fail
 | .b0 a,τ,h=>(eval F a τ h).bind λx h=>(R.of h x.int?).bind λn h=>if 0<=n/\n<=1000 then .ok (.own ((Aa8 n.toNat).map λ(i:Nat)=> .int (i:Int))) h else .fail
 | .dD _ ts,τ,h=> .ok (.own (ts.map .str)) h
 | .dz m a es,τ,h=>(eval F a τ h).bind λx h=>if mS m x h then(Gf F es τ h).bind λws h=>mG m x ws h else .fail
 | .make c q es,τ,h=>(Gf F es τ h).bind λws h=>(F.call q (.v (.ref h.length)::ws.map W.arg) (h++ [.obj c []])).bind λw h'=>match w with
  | .v .aj=>aq (.ref h.length) h'
  | _=> .fail
 | .aJ a c f,τ,h=>(eval F a τ h).bind λw h=>match GX h (k0 w)with
  | some (_,c',fs)=>if c'=c then(R.of h (fs.lookup f)).bind λd h=>aq d h else .fail
  | none=> .fail
 | .bO a c m q es,τ,h=>(eval F a τ h).bind λw h=>match GX h (k0 w)with
  | some (r,c',fs)=>if c'=c/\(fs.lookup m).isNone=u0 then(Gf F es τ h).bind λws h=>F.call q (.v (.ref r)::ws.map W.arg) h else .fail
  | none=> .fail
 | .eP a,τ,h=>(eval F a τ h).bind λw h=>(R.of h w.int?).bind λi h=>aq (.int ((Kg i:Nat):Int)) h
 | .eZ f a,τ,h=>(eval F a τ h).bind λw h=>(R.of h (Ka (λx=>F.call f [.v (.int x)] []) ((w.cc h).bind GM))).bind λi h=>aq (.int i) h
@[simp] noncomputable def Gf (F:Fx):Es->Sl->AH->R (List W)
 | .nil,_,h=> .ok [] h
 | .cons e es,τ,h=>(eval F e τ h).bind λw h=>(Gf F es τ h).bind λws h=> .ok (w::ws) h
@[simp] noncomputable def Gv (F:Fx):Es->Sl->AH->R (List D)
 | .nil,_,h=> .ok [] h
 | .cons e es,τ,h=>(eval F e τ h).bind λw h=>(R.of h w.d).bind λd h=>(Gv F es τ h).bind λds h=> .ok (d::ds) h
@[simp] noncomputable def Gk (F:Fx):It->Sl->AH->R (List D)
 | .seq e,τ,h=>(eval F e τ h).bind λw h=>match w with
  | .v (.str s)=> .ok (gU s) h
  | .v (.tup xs)=> .ok xs h
  | .v (.lst xs)=> .ok xs h
  | .own xs=> .ok xs h
  | .bor xs=> .ok xs h
  | _=> .fail
 | .ar a,τ,h=>(eval F a τ h).bind λw h=>(R.of h w.int?).bind λn h=>if -(fv)<=n/\n<fv then .ok ((Aa8 n.toNat).map λ(i:Nat)=> .int (i:Int)) h else .fail
 | .ck e,τ,h=>(eval F e τ h).bind λw h=>(R.of h (vk w)).bind λxs h=> .ok (Kk 0 xs) h
end
noncomputable def lz:W->Option (List D)
 | .v (.str s)=>k0 (gU s)
 | .v (.tup xs)=>k0 xs
 | .v (.lst xs)=>k0 xs
 | .own xs=>k0 xs
 | _=>y0
noncomputable def kA:W->Option (List D)
 | .v (.str s)=>k0 (gU s)
 | .v (.tup xs)=>k0 xs
 | .v (.lst xs)=>k0 xs
 | .bor xs=>k0 xs
 | _=>y0
@[simp] theorem Kq (xs):lz (.v (.tup xs))=k0 xs:=rfl
@[simp] theorem Ko (xs):lz (.v (.lst xs))=k0 xs:=rfl
@[simp] theorem Kb (xs):lz (.own xs)=k0 xs:=rfl
@[simp] theorem Kp (xs):kA (.v (.tup xs))=k0 xs:=rfl
@[simp] theorem Kr (xs):kA (.v (.lst xs))=k0 xs:=rfl
@[simp] theorem Kn (xs):kA (.bor xs)=k0 xs:=rfl
@[simp] def GJ:E->Option Nat
 | .var i=>k0 i
 | _=>y0
@[simp] def Gs (F:Fx) (it:It) (τ:Sl) (h:AH):R (List D):=match it with
 | .seq e=>match GJ e with
  | some i=>R.of h ((Gn τ i).bind kA)
  | none=>(eval F e τ h).bind λw h=>R.of h (lz w)
 | it=>Gk F it τ h
noncomputable def Gq (c:D->Sl->Option Sl) (b:Sl->AH->O):List D->Sl->AH->O
 | [],τ,h=> .next τ h
 | d::ds,τ,h=>match c d τ with
  | none=> .fail
  | some e=>match b e h with
   | .next a h2=>Gq c b ds a h2
   | .cont a h2=>Gq c b ds a h2
   | .brk a h2=> .next a h2
   | o=>o
noncomputable def GF (c:Sl->AH->R Bool) (d:Sl->AH->O):Nat->Sl->AH->O
 | 0,_,_=> .fail
 | n+1,τ,h=>(c τ h).cS λb h1=>match b with
  | false=> .next τ h1
  | true=>match d τ h1 with
   | .next a h2=>GF c d n a h2
   | .cont a h2=>GF c d n a h2
   | .brk a h2=> .next a h2
   | o=>o
def Gm (F:Fx) (e:E) (τ:Sl) (h:AH):R Bool:=(eval F e τ h).bind λx h=>R.of h (GZ h x)
def fF :W->Option (D×D)
 | .v (.tup [a,b])=>k0 (a,b)
 | _=>y0
def Km (w b a:W) (τ:Sl) (h:AH):O:=match w,b,a with
 | .v d,.v (.ref r),.v (.int j)=>match h[r]? with
  | some (.lst xs)=>match dv xs.length j with
   | some n=>if GN d then .next τ (h.set r (.lst (xs.set n d)))else .fail
   | none=> .fail
  | _=> .fail
 | _,_,_=> .fail
mutual
@[simp] noncomputable def exec (F:Fx):S->Sl->AH->O
 | .set i e,τ,h=>(eval F e τ h).cS λw h=>match w with
  | .bor _=> .fail
  | w=> .next (GC τ i w) h
 | .af i e,τ,h=>(eval F e τ h).cS λw h=>match w.d with
  | some d=> .next (GC τ i (.v d)) h
  | none=> .fail
 | .eO is e,τ,h=>(eval F e τ h).cS λw h=>match w with
  | .v (.tup ds)=>match aX is ds τ with
   | some τ'=> .next τ' h
   | none=> .fail
  | _=> .fail
 | .fm o k j e,τ,h=>(eval F e τ h).cS λw h=>match fF w with
  | some (d1,d2)=>(eval F o τ h).cS λow h=>(eval F k τ h).cS λkw h=>if GN d2 then(match Km (.v d1) ow kw τ h with
   | .next τ h=> .next (GC τ j (.v d2)) h
   | _=> .fail)else .fail
  | none=> .fail
 | .bQ o k e,τ,h=>(eval F e τ h).cS λw h=>(eval F o τ h).cS λow h=>(eval F k τ h).cS λkw h=>Km w ow kw τ h
 | .app i e,τ,h=>match Gn τ i with
  | some (.own xs)=>(eval F e τ h).cS λw h=>match w.d with
   | some d=>if xs.length<bg then .next (GC τ i (.own (xs++ [d]))) h else .fail
   | none=> .fail
  | _=> .fail
 | .ext i e,τ,h=>match Gn τ i with
  | some (.own xs)=>(eval F e τ h).cS λw h=>match w with
   | .own ys=>if xs.length+ys.length<bg then .next (GC τ i (.own (xs++ys))) h else .fail
   | _=> .fail
  | _=> .fail
 | .bS i c f e,τ,h=>(eval F e τ h).cS λw h=>match w.d with
  | some d=>match GX h (Gn τ i)with
   | some (r,c',fs)=>if c'=c/\Gd d=u0/\fs.length<100 then .next τ (h.set r (.obj c (aW f d fs)))else .fail
   | none=> .fail
  | none=> .fail
 | .dP i k e,τ,h=>(eval F e τ h).cS λw h=>match Gn τ i with
  | some (.own xs)=>(eval F k τ h).cS λkw h=>match w,kw with
   | .v d,.v (.int j)=>(match dv xs.length j with
    | some n=> .next (GC τ i (.own (xs.set n d))) h
    | none=> .fail)
   | _,_=> .fail
  | _=> .fail
 | .cm i k e,τ,h=>(eval F e τ h).cS λw h=>match GT h (Gn τ i)with
  | some _=>(eval F k τ h).cS λkw h=>match w,kw,GT h (Gn τ i)with
   | .v d,.v (.str t),k0 (r,ks)=>if ks.length<bg/\Gd d=u0 then .next τ (h.set r (.aN (GE ks t d)))else .fail
   | _,_,_=> .fail
  | none=> .fail
 | .ex e,τ,h=>(eval F e τ h).cS λ_ h=> .next τ h
 | .ret e,τ,h=>match GJ e with
  | some i=>match Gn τ i with
   | some (.bor _)=> .fail
   | some w=> .ret w h
   | none=> .fail
  | none=>(eval F e τ h).cS λw h=>match w with
   | .bor _=> .fail
   | w=> .ret w h
 | .iff c a b,τ,h=>(Gm F c τ h).cS λt h=>match t with
  | true=>execs F a τ h
  | false=>execs F b τ h
 | .iN n c b,τ,h=>GF (λτ h=>Gm F c τ h) (λτ h=>execs F b τ h) n τ h
 | .for tg one it b,τ,h=>(Gs F it τ h).cS λds h=>Gq (Gp tg one) (λτ h=>execs F b τ h) ds τ h
 | .bI i c f e,τ,h=>(eval F e τ h).cS λw h=>match w with
  | .v d=>match GX h (Gn τ i)with
   | some (r,c',fs)=>if c'=c/\fs.length<100 then .next τ (h.set r (.obj c (aW f d fs)))else .fail
   | none=> .fail
  | _=> .fail
 | .el,_,_=> .fail
@[simp] noncomputable def execs (F:Fx):Ss->Sl->AH->O
 | .nil,τ,h=> .next τ h
 | .cons s ss,τ,h=>(exec F s τ h).seq λτ h=>execs F ss τ h
end
structure Fn where
 ps:Nat
 n:Nat
 body:Ss
structure Prog where
 fns:List (String×Fn)
 cl:d3
 con:List (String×D)
def W.keep:W->Bool
 | .v d=>Gd d
 | .own xs=>Gc xs
 | .bor _=>u0
noncomputable def fin (n:Nat) (w:W) (h:AH):R W:=if h.length=n then .ok w h else if w.keep&&Gx (h.take n)then .ok w (h.take n)else .ok w h
def Gw (n:Nat):O->R W
 | .ret w h=>match w with
  | .bor _=> .fail
  | w=>fin n w h
 | .next _ h=>fin n (.v .aj) h
 | _=> .fail
@[simp] theorem Ga (d) (h h':AH) (e:h'.length=h.length):Gw h.length (.ret (.v d) h')= .ok (.v d) h':=by simp [Gw,fin,e]
@[simp] theorem Gu (xs) (h h':AH) (e:h'.length=h.length):Gw h.length (.ret (.own xs) h')= .ok (.own xs) h':=by simp [Gw,fin,e]
@[simp] theorem Gz (τ) (h h':AH) (e:h'.length=h.length):Gw h.length (.next τ h')= .ok (.v .aj) h':=by simp [Gw,fin,e]
def run (F:Fx) (d:Fn) (ws:List W) (h:AH):R W:=if ws.length=d.ps then Gw h.length (execs F d.body (ws.map k0++Aa3 (d.n-d.ps) y0) h)else .fail
def call (p:Prog):Nat->String->List W->AH->R W
 | 0,_,_,_=> .fail
 | k+1,f,a,h=>match p.fns.lookup f with
  | some d=>run ⟨call p k,p.cl,p.con⟩ d a h
  | none=> .fail
def Gb (e:p.fns.lookup f=k0 d) (k) (ws) (h) (a:ws.length=d.ps):
 call p (k+1) f ws h=Gw h.length (execs ⟨call p k,p.cl,p.con⟩ d.body (ws.map k0++Aa3 (d.n-d.ps) y0) h):=by
 rw [call,e]
 simp [run,a]
end
end M
namespace L2.MS
open PySem PySem.Spec
section
open PySem.Calls PySem.W PyProof.Rows
def dQ (P:Program) (w:World):fY:=λ_ _ _ _ _ _=>False
def Hc {P:Program}{w:World}{K:Aa9}{i:Str->Option Value}{base:Heap}{x b:Str}{st:Stmt}{f:Addr}{j:FuncData}{N ps:List Str}{k:Nat}{e:Sp}(F:mU K x b st f j) (S:QD N ps (Jl st)) (len: ∀vs H Q E,e vs H Q E->vs.length=ps.length)
 (d: ∀(c:Value) (A:Around) (a:List Env) (s:Shared) (H:Hp) (vs:List V) (Q:VK) (E:XK),a9 k (A.deeper (envOfC b (Jl st) s.heap.objs.size f c))->e vs H Q E →
   ∃t,dc (gQ (dQ P w) P w K i base N b (Jl st) f c A a s H E) (qK st) t/\t { nx:=λ_ H'=>Q .aj H',rt:=Q } (start N vs) H):QF P w K i base (dQ P w) (k+1) f j ps e:=by
 obtain⟨oc,r,kV,n,u,p,c,q,m,rfl,o,g⟩:=F.ex
 exact H9 o g S len λA a s H vs Q E l h=>d c A a s H vs Q E l h
def Cd {P:Program}{w:World}{K:Aa9}{h:Str->Option Value}{base:Heap}{N:List Str}{b:Str}{a:Scope}{f:Addr}{cd:Value}{A:Around}{c:List Env}{s:Shared}{H:Hp}{E:XK}:PassesOwn (model P w) (A.deeper (envOfC b a s.heap.objs.size f cd)) (envOfC b a s.heap.objs.size f cd) (gQ (dQ P w) P w K h base N b a f cd A c s H E).xe:=
 PassesOwn.leaving (M:=model P w) (A:=A.deeper (envOfC b a s.heap.objs.size f cd)) (env:=envOfC b a s.heap.objs.size f cd) (Q₁:=λe d=>dQ P w c H s E e d) (E₁:=λg d=>dQ P w c H s E g d)
def Ef {P:Program}{w:World}{K:Aa9}{g:Str->Option Value}{base:Heap}{k:Nat}{f:Addr}{i:FuncData}{ps:List Str}{e b:Sp}(F:QF P w K g base (dQ P w) k f i ps e)
 (h: ∀vs H Q E,b vs H Q E->e vs H Q (λ_ _ _=>False)):QF P w K g base lB k f i ps b:=by
 refine⟨λvs H Q E q=>F.len vs H Q _ (h _ _ _ _ q),λA a s H d l vs Q E j o p n r=>codeAny_mono (F.run A a s H d l vs Q _ j o p n (h _ _ _ _ r)) λres t c=> ?_⟩
 cases res with
 | ok m=>
  cases m with
  | ret u=>exact c
  | next=>exact c
  | brk=>exact c
  | cont=>exact c
 | error v=>exact False.elim c
end
structure Ge where
 K:Aa9
 ca:String->Addr
 cl:M.d3
 own:List String
 ma:String->Addr
structure Gh where
 fz:Addr->Prop
 aR:Nat->Addr
 n:Nat
def e3 (Y:Ge) (G:Gh) (H:Hp) (a:Addr) (vs:List V):Prop:=(G.fz a/\H a=k0 (.tup vs)) ∨
 ∃(o:Obj) (b:Array Value) (n:Nat),Y.K.lookup a=some o/\o.cls= .type "tuple" /\o.dict=none/\o.data= .seq b n/\b.size<=sizeLine/\Vals vs b.toList
def tu (Y:Ge) (a:Addr) (vs:List V):Prop:= ∃(o:Obj) (b:Array Value) (n:Nat),Y.K.lookup a=some o/\o.cls= .type "list" /\o.dict=none/\o.data= .seq b n/\b.size<=sizeLine/\Vals vs b.toList
def iF (Y:Ge) (G:Gh) (H:Hp) (a:Addr) (vs:List V):Prop:=(G.fz a/\Rd H a (.lst vs))\/tu Y a vs
def e3.sq (h:e3 Y G H a vs):cJ Y.K H a vs:=h.elim (λz=> .inl (.inl z.2)) λ⟨o,b,n,c,d,_,e⟩=> .inr ⟨o,b,n,c,d,e⟩
def e3.pl (h:e3 Y G H a vs):uI Y.K H a:=h.elim (λz=> .inl ⟨_,z.2⟩) λ⟨o,_,_,b,c,d,_⟩=> .inr ⟨o,b,c,d⟩
def iF.sq (h:iF Y G H a vs):br Y.K H a vs:=h.elim (λz=> .inl z.2) λz=> .inr z
def aD (s:M.Tx):Str:=⟨s.toArray⟩
mutual
def aA (Y:Ge) (G:Gh) (H:Hp):M.D->V->Prop
 | .aj,v=>v= .aj
 | .bl b,v=>v= .bl b
 | .int i,v=>v= .int i
 | .str s,v=>v= .str (aD s)
 | .tup ds,v=> ∃a vs,v= .ref a/\e3 Y G H a vs/\ab Y G H ds vs
 | .lst ds,v=> ∃a vs,v= .ref a/\iF Y G H a vs/\ab Y G H ds vs
 | .ref r,v=>r<G.n/\v= .ref (G.aR r)
def ab (Y:Ge) (G:Gh) (H:Hp):List M.D->List V->Prop
 | [],vs=>vs= []
 | d::ds,vs=> ∃v r,vs=v::r/\aA Y G H d v/\ab Y G H ds r
end
def bw (Y:Ge) (G:Gh) (H:Hp) (a:Addr):M.Cell->Prop
 | .lst xs=>M.Gc xs=u0/\ ∃d,H a=k0 (.lst d)/\ab Y G H xs d
 | .aN ks=>M.Gc (ks.map (·.2))=u0/\ ∃b,H a=k0 (dS ((ks.map λp=>aD p.1).zip b))/\ab Y G H (ks.map (·.2)) b
 | .obj c fs=> ∃dx b,H a=k0 (.ins (Y.ca c) dx ((fs.map λp=>Str.ofString p.1).zip b))/\ab Y G H (fs.map (·.2)) b
structure ag (Y:Ge) (G:Gh) (h:M.AH) (H:Hp):Prop where
 len:h.length=G.n
 any: ∀r c,h[r]? =k0 c-> ¬G.fz (G.aR r)/\bw Y G H (G.aR r) c
 inj: ∀r s,r<G.n->s<G.n->G.aR r=G.aR s->r=s
 live: ∀a,G.fz a-> ∃o,H a=k0 o
def dA (G:Gh) (a:Addr):Prop:= ∀r,r<G.n->G.aR r≠a
structure Ext (G:Gh) (H:Hp) (G':Gh) (H':Hp):Prop where
 keep: ∀a o,H a=k0 o->dA G a->H' a=k0 o
 le:G.n<=G'.n
 aR: ∀r,r<G.n->G'.aR r=G.aR r
 new: ∀r,G.n<=r->r<G'.n->H (G'.aR r)=y0
 fz: ∀a,G.fz a->G'.fz a
 old: ∀a,G'.fz a->G.fz a\/H a=y0
 cells: ∀r,r<G.n->(∃ o,H (G.aR r)=k0 o)-> ∃o,H' (G.aR r)=k0 o
def ai (Y:Ge) (G:Gh) (H:Hp):M.W->V->Prop
 | .v d,v=>aA Y G H d v
 | .own xs,v=> ∃a b,v= .ref a/\ ¬G.fz a/\dA G a/\H a=k0 (.lst b)/\ab Y G H xs b
 | .bor xs,v=> ∃a b,v= .ref a/\dA G a/\Rd H a (.lst b)/\ab Y G H xs b
def f9:M.W->Bool
 | .own _=>u0
 | .bor _=>u0
 | _=>k9
structure ao (Y:Ge) (G:Gh) (τ:M.Sl) (h:M.AH) (U:St) (H:Hp):Prop where
 len:τ.length=U.length
 slot: ∀i w,M.Gn τ i=k0 w-> ∃v,U[i]? =k0 (k0 v)/\ai Y G H w v
 apart: ∀i j xs w a,i≠j->M.Gn τ i=k0 (.own xs)->M.Gn τ j=k0 w->f9 w=u0->U[i]? =k0 (k0 (.ref a))->U[j]? ≠k0 (k0 (.ref a))
 heap:ag Y G h H
section
variable {Y:Ge}{G G' G1 G2:Gh}{H H' H1 H2:Hp}{h h':M.AH}{τ:M.Sl}{U:St}
def ag.cell (R:ag Y G h H) (r) (xs) (e:h[r]? =k0 (M.Cell.lst xs)): ¬G.fz (G.aR r)/\ ∃vs,H (G.aR r)=k0 (.lst vs)/\ab Y G H xs vs:=⟨(R.any r _ e).1,(R.any r _ e).2.2⟩
def ag.pure (R:ag Y G h H) (r:Nat) (xs) (e:h[r]? =k0 (M.Cell.lst xs)):M.Gc xs=true:=(R.any r _ e).2.1
theorem ag.obj (R:ag Y G h H) (r) (c) (fs) (e:h[r]? =k0 (M.Cell.obj c fs)): ¬G.fz (G.aR r)/\ ∃dx i,H (G.aR r)=k0 (.ins (Y.ca c) dx ((fs.map λp=>Str.ofString p.1).zip i))/\ab Y G H (fs.map (·.2)) i:=R.any r _ e
def ag.lt (R:ag Y G h H)(e:h[r]? =k0 c):r<G.n:=by rw [← R.len];exact(Aa1.mp e).1
def ag.at (R:ag Y G h H)(a:i<G.n): ∃c,h[i]? =k0 c:=⟨_,Aa6 (by rw [R.len];exact a)⟩
def bw.there {a:Addr}{c:M.Cell}(z:bw Y G H a c): ∃o,H a=k0 o:=by
 cases c with
 | lst b=>obtain⟨_,_,z,_⟩:=z;exact⟨_,z⟩
 | aN d=>obtain⟨_,_,z,_⟩:=z;exact⟨_,z⟩
 | obj c fs=>obtain⟨_,_,z,_⟩:=z;exact⟨_,z⟩
def ag.lj (r:ag Y G h H)(a:i<G.n): ¬G.fz (G.aR i):=let ⟨_,e⟩:=r.at a;(r.any i _ e).1
def ag.off (r:ag Y G h H)(b:G.fz a):dA G a:=λi c z=>r.lj c (z▸b)
theorem ag.there (r:ag Y G h H)(a:i<G.n): ∃o,H (G.aR i)=k0 o:=let ⟨_,e⟩:=r.at a;(r.any i _ e).2.there
def Ext.refl:Ext G H G H:=⟨λ_ _ e _=>e,Ab _,λ_ _=>rfl,λr a b=>absurd a (An5.mpr b),λ_ z=>z,λ_ z=> .inl z,λ_ _ z=>z⟩
theorem Ext.none (e:Ext G H G' H') (f:ag Y G h H)(z:H' a=y0):H a=none:=by
 cases q:H a with
 | none=>rfl
 | some o=>
  by_cases b:dA G a
  ·rw [e.keep a o q b]at z;cases z
  ·unfold dA at b
   have: ∃r,r<G.n/\G.aR r=a:=Aj1 λg=>b λr f z=>g ⟨r,f,z⟩
   obtain⟨r,c,rfl⟩:=this
   obtain⟨i,d⟩:=e.cells r c ⟨o,q⟩
   rw [z]at d;cases d
def Ext.off (e:Ext G H G' H')(d:H a=k0 o) (b:dA G a):dA G' a:=λr f z=>by
 by_cases c:r<G.n
 ·rw [e.aR r c]at z;exact b r c z
 ·have:=e.new r (Nat.not_lt.mp c) f
  rw [z,d]at this;cases this
def Ext.trans (b:Ext G H G1 H1) (f:ag Y G h H) (d:Ext G1 H1 G2 H2):Ext G H G2 H2 where
 keep:=λa o z e=>d.keep a o (b.keep a o z e) (b.off z e)
 le:=Ab5 b.le d.le
 aR:=λr c=>by rw [d.aR r (Ab4 c b.le),b.aR r c]
 new:=λr g i=>by
  by_cases c:r<G1.n
  ·rw [d.aR r c];exact b.new r g c
  ·exact b.none f (d.new r (Nat.not_lt.mp c) i)
 fz:=λa z=>d.fz a (b.fz a z)
 old:=λa z=>(d.old a z).elim (λz=>b.old a z) λz=> .inr (b.none f z)
 cells:=λr c z=>by
  have:=d.cells r (Ab4 c b.le) (by rw [b.aR r c];exact b.cells r c z)
  rwa [b.aR r c]at this
def Ext.rd (e:Ext G H G' H')(z:Rd H a u) (b:dA G a):Rd H' a u:=z.elim (λz=> .inl (e.keep a _ z b)) λ⟨o,z⟩=> .inr ⟨o,e.keep a _ z b⟩
structure Mon (G:Gh) (H:Hp) (G':Gh) (H':Hp):Prop where
 keep: ∀a o,G.fz a->H a=k0 o->H' a=k0 o
 le:G.n<=G'.n
 aR: ∀r,r<G.n->G'.aR r=G.aR r
 fz: ∀a,G.fz a->G'.fz a
def Ext.mon (e:Ext G H G' H') (b:ag Y G h H):Mon G H G' H':=⟨λa o z q=>e.keep a o q (b.off z),e.le,e.aR,e.fz⟩
def Mon.rd (e:Mon G H G' H')(z:Rd H a u) (b:G.fz a):Rd H' a u:=z.elim (λz=> .inl (e.keep a _ b z)) λ⟨o,z⟩=> .inr ⟨o,e.keep a _ b z⟩
mutual
theorem aA.mon (e:Mon G H G' H'): ∀ {d:M.D}{v:V},aA Y G H d v->aA Y G' H' d v
 | .aj,_,z=>z
 | .bl _,_,z=>z
 | .int _,_,z=>z
 | .str _,_,z=>z
 | .tup _,_,⟨a,vs,z1,z2,z3⟩=>⟨a,vs,z1,z2.elim (λz=> .inl ⟨e.fz a z.1,e.keep a _ z.1 z.2⟩) λz=> .inr z,ab.mon e z3⟩
 | .lst _,_,⟨a,vs,z1,z2,z3⟩=>⟨a,vs,z1,z2.elim (λz=> .inl ⟨e.fz a z.1,e.rd z.2 z.1⟩) .inr,ab.mon e z3⟩
 | .ref r,_,⟨z1,z2⟩=>⟨Ab4 z1 e.le,by rw [e.aR r z1];exact z2⟩
theorem ab.mon (e:Mon G H G' H'): ∀ {ds:List M.D}{vs:List V},ab Y G H ds vs->ab Y G' H' ds vs
 | [],_,z=>z
 | _::_,_,⟨v,r,z1,z2,z3⟩=>⟨v,r,z1,aA.mon e z2,ab.mon e z3⟩
end
theorem bw.mon (e:Mon G H G' H'){a:Addr}{c:M.Cell}(k: ∀o,H a=k0 o->H' a=k0 o) (z:bw Y G H a c):bw Y G' H' a c:=by
 cases c with
 | lst j=>obtain⟨f,i,d,b⟩:=z;exact⟨f,i,k _ d,b.mon e⟩
 | aN l=>obtain⟨f,g,d,b⟩:=z;exact⟨f,g,k _ d,b.mon e⟩
 | obj c fs=>obtain⟨h,g,d,b⟩:=z;exact⟨h,g,k _ d,b.mon e⟩
def aA.ext (e:Ext G H G' H') (a:ag Y G h H)(z:aA Y G H d v):aA Y G' H' d v:=z.mon (e.mon a)
def ab.ext (e:Ext G H G' H') (a:ag Y G h H)(z:ab Y G H d v):ab Y G' H' d v:=z.mon (e.mon a)
theorem ai.ext (e:Ext G H G' H') (g:ag Y G h H)(z:ai Y G H w v):ai Y G' H' w v:=by
 cases w with
 | v d=>exact aA.ext e g z
 | own k=>
  obtain⟨a,j,i,l,c,b,f⟩:=z
  refine⟨a,j,i,λq=> ?_,e.off b c,e.keep a _ b c,ab.ext e g f⟩
  obtain q | q:=e.old a q
  ·exact l q
  ·rw [b]at q;cases q
 | bor k=>
  obtain⟨a,j,i,c,b,f⟩:=z
  refine⟨a,j,i,?_,e.rd b c,ab.ext e g f⟩
  obtain b | ⟨o,b⟩:=b
  ·exact e.off b c
  ·exact e.off b c
theorem ao.ext (s:ao Y G τ h U H) (e:Ext G H G' H') (a:ag Y G' h' H'):ao Y G' τ h' U H' where
 len:=s.len
 slot:=λi w z=>let ⟨v,b,c⟩:=s.slot i w z; ⟨v,b,c.ext e s.heap⟩
 apart:=s.apart
 heap:=a
theorem ab.length: ∀ {ds}{vs},ab Y G H ds vs->ds.length=vs.length
 | [],_,rfl=>rfl
 | _::_,_,⟨_,_,rfl,_,z⟩=>congrArg (· +1) (ab.length z)
theorem ab.get: ∀ {ds}{vs}{i:Nat}{d},ab Y G H ds vs->ds[i]? =k0 d-> ∃v,vs[i]? =k0 v/\aA Y G H d v
 | [],_,_,_,_,e=>by simp at e
 | _::_,_,0,_,⟨v,_,rfl,z,_⟩,e=>by simp at e;subst e;exact⟨v,rfl,z⟩
 | _::_,_,i+1,_,⟨_,_,rfl,_,z⟩,e=>by
  obtain⟨v,a,b⟩:=ab.get z (by simpa using e)
  exact⟨v,by simpa using a,b⟩
theorem ab.append: ∀ {ds es}{vs i},ab Y G H ds vs->ab Y G H es i->ab Y G H (ds++es) (vs++i)
 | [],_,_,_,rfl,z=>z
 | _::_,_,_,_,⟨v,r,rfl,a,b⟩,z=>⟨v,r++_,rfl,a,ab.append b z⟩
theorem ab.drop: ∀ {ds}{vs}(n),ab Y G H ds vs->ab Y G H (ds.drop n) (vs.drop n)
 | _,_,0,z=>z
 | [],_,_+1,rfl=>rfl
 | _::_,_,n+1,⟨_,_,rfl,_,z⟩=>ab.drop n z
theorem ab.take: ∀ {ds}{vs}(n),ab Y G H ds vs->ab Y G H (ds.take n) (vs.take n)
 | _,_,0,_=>rfl
 | [],_,_+1,rfl=>rfl
 | _::_,_,n+1,⟨v,r,rfl,a,z⟩=>⟨v,r.take n,rfl,a,ab.take n z⟩
theorem ab.set (z:aA Y G H d v): ∀ {ds}{vs} i,ab Y G H ds vs->ab Y G H (ds.set i d) (vs.set i v)
 | [],_,_,rfl=>rfl
 | _::_,_,0,⟨_,r,rfl,_,a⟩=>⟨v,r,rfl,z,a⟩
 | _::_,_,i+1,⟨u,r,rfl,b,a⟩=>⟨u,r.set i v,rfl,b,ab.set z i a⟩
def Gh.more (G:Gh) (a:Addr):Gh:= { G with fz:=λb=>G.fz b\/b=a }
def zr (o) (b:H p=y0):Ext G H G (aM H p o) where
 keep:=λa u z _=>by rw [Qa (wb z b)];exact z
 le:=Ab _
 aR:=λ_ _=>rfl
 new:=λr c d=>absurd c (An5.mpr d)
 fz:=λ_ z=>z
 old:=λ_ z=> .inl z
 cells:=λr _ ⟨u,z⟩=>⟨u,by rw [Qa (wb z b)];exact z⟩
def wG (o) (b:H p=y0):Ext G H (G.more p) (aM H p o) where
 keep:=λa u z _=>by rw [Qa (wb z b)];exact z
 le:=Ab _
 aR:=λ_ _=>rfl
 new:=λr c d=>absurd c (An5.mpr d)
 fz:=λ_ z=> .inl z
 old:=λa z=>z.elim .inl λe=> .inr (e▸b)
 cells:=λr _ ⟨u,z⟩=>⟨u,by rw [Qa (wb z b)];exact z⟩
def ag.new (r:ag Y G h H)(o) (b:H p=y0):ag Y G h (aM H p o) where
 len:=r.len
 any:=λi c z=>⟨(r.any i c z).1,(r.any i c z).2.mon ((zr o b).mon r) λu q=>by rw [Qa (wb q b)];exact q⟩
 inj:=r.inj
 live:=λa z=>let ⟨u,q⟩:=r.live a z; ⟨u,by rw [Qa (wb q b)];exact q⟩
def ag.kY (r:ag Y G h H)(o) (b:H p=y0):ag Y (G.more p) h (aM H p o) where
 len:=r.len
 any:=λi c z=>by
  obtain⟨g,d⟩:=r.any i c z
  obtain⟨u,f⟩:=d.there
  exact⟨λq=>q.elim g (wb f b),d.mon ((wG o b).mon r) λu q=>by rw [Qa (wb q b)];exact q⟩
 inj:=r.inj
 live:=λa z=>z.elim (λz=>let ⟨u,q⟩:=r.live a z; ⟨u,by rw [Qa (wb q b)];exact q⟩) λe=>⟨o,by rw [e];exact wc⟩
def qt (a):Mon G H (G.more a) H:=⟨λ_ _ _ z=>z,Ab _,λ_ _=>rfl,λ_ z=> .inl z⟩
theorem Ext.more (e:Ext G H G1 H1)(c:H a=Option.none):Ext G H (G1.more a) H1:=
 ⟨e.keep,e.le,e.aR,e.new,λb z=> .inl (e.fz b z),λb z=>z.elim (λz=>e.old b z) λz=> .inr (z▸c),e.cells⟩
theorem ag.more (r:ag Y G h H)(d:dA G a) (f: ∃o,H a=k0 o):ag Y (G.more a) h H where
 len:=r.len
 any:=λi c z=>⟨λq=>q.elim (r.any i c z).1 λe=>d i (r.lt z) e,(r.any i c z).2.mon (qt a) λ_ q=>q⟩
 inj:=r.inj
 live:=λb z=>z.elim (λz=>r.live b z) λe=>e▸f
theorem ai.more (z:ai Y G H w v) (l:f9 w=u0->v≠ .ref a):ai Y (G.more a) H w v:=by
 cases w with
 | v d=>exact aA.mon (qt a) z
 | own j=>
  obtain⟨b,i,c,k,g,h,f⟩:=z
  exact⟨b,i,c,λq=>q.elim k λe=>l rfl (e▸c),g,h,f.mon (qt a)⟩
 | bor j=>
  obtain⟨b,i,c,g,h,f⟩:=z
  exact⟨b,i,c,g,h,f.mon (qt a)⟩
theorem ao.more (s:ao Y G τ h U H)(b:dA G a) (d: ∃o,H a=k0 o) (f: ∀ i w,M.Gn τ i=k0 w->f9 w=u0->U[i]? ≠k0 (k0 (.ref a))):ao Y (G.more a) τ h U H where
 len:=s.len
 slot:=λi w z=>by
  obtain⟨v,c,g⟩:=s.slot i w z
  exact⟨v,c,g.more λq e=>f i w z q (e▸c)⟩
 apart:=s.apart
 heap:=s.heap.more b d
def aH (τ:M.Sl) (U:St) (H:Hp):M.W->V->Prop
 | .v _,_=>True
 | .own _,v=> ∃a,v= .ref a/\H a=y0
 | .bor _,v=> ∃(i:Nat) (w:M.W),M.Gn τ i=k0 w/\f9 w=u0/\U[i]? =k0 (k0 v)
def aH.back (e:Ext G H G1 H1) (c:ag Y G h H)(z:aH τ U H1 w v):aH τ U H w v:=by
 cases w with
 | v d=>trivial
 | own b=>obtain⟨a,f,g⟩:=z;exact⟨a,f,e.none c g⟩
 | bor b=>exact z
def ao.cQ (s:ao Y G τ h U H)(e:M.Gn τ i=k0 w) (k:f9 w=u0) (q:U[i]? =k0 (k0 (.ref a))): ∃o,H a=k0 o:=by
 obtain⟨v,f,g⟩:=s.slot i w e
 rw [q]at f
 cases f
 cases w with
 | v d=>cases k
 | own j=>obtain⟨b,l,f,_,_,c,_⟩:=g;cases f;exact⟨_,c⟩
 | bor j=>
  obtain⟨b,l,f,_,c,_⟩:=g
  cases f
  obtain c | ⟨o,c⟩:=c
  ·exact⟨_,c⟩
  ·exact⟨_,c⟩
def av {b:Type}(Y:Ge) (E:XK) (G:Gh) (H:Hp) (r:M.R b) (P:b->M.AH->Gh->Hp->Prop):Prop:=match r with
 | .ok a h'=> ∀G' H',Ext G H G' H'->ag Y G' h' H'->P a h' G' H'
 | .fail=>False
def tD (Y:Ge) (E:XK) (m:M.Sl->M.AH->M.R M.W):TE:=λU H Q=> ∃G τ h,ao Y G τ h U H/\av Y E G H (m τ h) λw h' G' H'=> ∀v,ai Y G' H' w v->aH τ U H w v->Q v H'
def cU (Y:Ge) (E:XK) (m:M.Sl->M.AH->M.R Bool):TT:=λU H Q=> ∃G τ h,ao Y G τ h U H/\av Y E G H (m τ h) λb _ _ H'=>Q b H'
def Wa {c:Type}{E:XK}{a:Gh}{b:Hp}{l:M.AH}{m:M.Sl->M.AH->M.R M.W}{f:M.W->M.AH->M.R c}{P:c->M.AH->Gh->Hp->Prop}{Q:VK}(i:ag Y a l b) (g:Ext a b G H) (s:ao Y G τ h U H)
 (p:av Y E a b ((m τ h).bind f) P)
 (k: ∀w v h1 G1 H1,Ext a b G1 H1->Ext G H G1 H1->ao Y G1 τ h1 U H1->ai Y G1 H1 w v->aH τ U H w v->av Y E a b (f w h1) P->Q v H1):tD Y E m U H Q:=by
 refine⟨G,τ,h,s,?_⟩
 cases q:m τ h with
 | ok w h1=>
  rw [q]at p
  exact λG1 H1 e d v j n=>k w v h1 G1 H1 (g.trans i e) e (s.ext e d) j n p
 | fail=>rw [q]at p;exact p
def jS {d:Type}{E:XK}{a:Gh}{c:Hp}{l:M.AH}{m:M.Sl->M.AH->M.R Bool}{f:Bool->M.AH->M.R d}{P:d->M.AH->Gh->Hp->Prop}{Q:Bool->Hp->Prop}(j:ag Y a l c) (i:Ext a c G H) (s:ao Y G τ h U H)
 (p:av Y E a c ((m τ h).bind f) P)
 (k: ∀b h1 G1 H1,Ext a c G1 H1->Ext G H G1 H1->ao Y G1 τ h1 U H1->av Y E a c (f b h1) P->Q b H1):cU Y E m U H Q:=by
 refine⟨G,τ,h,s,?_⟩
 cases q:m τ h with
 | ok w h1=>
  rw [q]at p
  exact λG1 H1 e g=>k w h1 G1 H1 (i.trans j e) e (s.ext e g) p
 | fail=>rw [q]at p;exact p
def ij (Y:Ge) (E:XK) (m:M.Sl->M.AH->M.R (List M.D)):TA:=λU H Q=> ∃G τ h,ao Y G τ h U H/\av Y E G H (m τ h) λds _ G' H'=> ∀a,ab Y G' H' ds a->Q a H'
def bh (Y:Ge) (G:Gh) (H:Hp):List M.W->List V->Prop
 | [],a=>a= []
 | w::b,a=> ∃v r,a=v::r/\ai Y G H w v/\bh Y G H b r
theorem bh.ext (e:Ext G H G' H') (a:ag Y G h H): ∀ {ws}{vs},bh Y G H ws vs->bh Y G' H' ws vs
 | [],_,z=>z
 | _::_,_,⟨v,r,d,c,b⟩=>⟨v,r,d,ai.ext e a c,bh.ext e a b⟩
theorem bh.length: ∀ {ws}{vs},bh Y G H ws vs->ws.length=vs.length
 | [],_,rfl=>rfl
 | _::_,_,⟨_,_,rfl,_,z⟩=>congrArg (· +1) (bh.length z)
def fB (Y:Ge) (E:XK) (m:M.Sl->M.AH->M.R (List M.W)):TA:=λU H Q=> ∃G τ h,ao Y G τ h U H/\av Y E G H (m τ h) λb _ G' H'=> ∀a,bh Y G' H' b a->Q a H'
def w9 {c:Type}{E:XK}{a:Gh}{b:Hp}{j:M.AH}{m:M.Sl->M.AH->M.R (List M.D)}{f:List M.D->M.AH->M.R c}{P:c->M.AH->Gh->Hp->Prop}{Q:List V->Hp->Prop}(i:ag Y a j b) (g:Ext a b G H) (s:ao Y G τ h U H)
 (p:av Y E a b ((m τ h).bind f) P)
 (k: ∀ds vs h1 G1 H1,Ext a b G1 H1->Ext G H G1 H1->ao Y G1 τ h1 U H1->ab Y G1 H1 ds vs->av Y E a b (f ds h1) P->Q vs H1):ij Y E m U H Q:=by
 refine⟨G,τ,h,s,?_⟩
 cases q:m τ h with
 | ok w h1=>
  rw [q]at p
  exact λG1 H1 e d vs z=>k w vs h1 G1 H1 (g.trans i e) e (s.ext e d) z p
 | fail=>rw [q]at p;exact p
def qr {c:Type}{E:XK}{a:Gh}{b:Hp}{j:M.AH}{m:M.Sl->M.AH->M.R (List M.W)}{f:List M.W->M.AH->M.R c}{P:c->M.AH->Gh->Hp->Prop}{Q:List V->Hp->Prop}(i:ag Y a j b) (g:Ext a b G H) (s:ao Y G τ h U H)
 (p:av Y E a b ((m τ h).bind f) P)
 (k: ∀ds vs h1 G1 H1,Ext a b G1 H1->Ext G H G1 H1->ao Y G1 τ h1 U H1->bh Y G1 H1 ds vs->av Y E a b (f ds h1) P->Q vs H1):fB Y E m U H Q:=by
 refine⟨G,τ,h,s,?_⟩
 cases q:m τ h with
 | ok w h1=>
  rw [q]at p
  exact λG1 H1 e d vs z=>k w vs h1 G1 H1 (g.trans i e) e (s.ext e d) z p
 | fail=>rw [q]at p;exact p
theorem av.of (p:av Y E G H ((M.R.of h o).bind f) P): ∃b,o=k0 b/\av Y E G H (f b h) P:=by
 cases o with
 | none=>exact p.elim
 | some b=>exact⟨b,rfl,p⟩
def av.at (p:av Y E G H (.ok a h) P) (e:Ext G H G1 H1) (b:ag Y G1 h H1):P a h G1 H1:=p G1 H1 e b
def oB (e:Ext G H G1 H1) (s:ao Y G1 τ h U H1) (t:ao Y G τ h' U H)(r:ai Y G1 H1 w v) (f:aH τ U H w v) (c:w.d=k0 d):
 ∃G2,Ext G H G2 H1/\ao Y G2 τ h U H1/\aA Y G2 H1 d v/\Mon G1 H1 G2 H1:=by
 cases w with
 | v y=>cases c;exact⟨G1,e,s,r,⟨λ_ _ _ z=>z,Ab _,λ_ _=>rfl,λ_ z=>z⟩⟩
 | own x=>
  cases c
  obtain⟨a,m,rfl,A,p,k,n⟩:=r
  obtain⟨b,u,g⟩:=f
  cases u
  refine⟨G1.more a,e.more g,s.more p ⟨_,k⟩ λi w q l z=> ?_,⟨a,m,rfl,.inl ⟨.inr rfl,.inl k⟩,n.mon (qt a)⟩,qt a⟩
  obtain⟨o,j⟩:=t.cQ q l z
  rw [g]at j;cases j
 | bor x=>cases c
end
open PySem PySem.Spec PyProof.Rows
mutual
def RV (hp:Heap):M.D->Value->Prop
 | .aj,u=>u= .none
 | .bl b,u=>u= .bool b
 | .int i,u=> ∃t,u= .int i t
 | .str s,u=> ∃t,u= .str (aD s) t
 | .tup ds,u=> ∃(a:Addr) (its:List Value),u= .ref a/\IsTup hp a its.toArray/\b9 hp ds its
 | .lst ds,u=> ∃(a:Addr) (its:List Value),u= .ref a/\hp.IsList a its.toArray/\b9 hp ds its
 | .ref _,_=>False
def b9 (hp:Heap):List M.D->List Value->Prop
 | [],us=>us= []
 | d::ds,us=> ∃u r,us=u::r/\RV hp d u/\b9 hp ds r
end
theorem b9.length : ∀ {ds}{i},b9 hp ds i->ds.length=i.length
 | [],_,rfl=>rfl
 | _::_,_,⟨_,_,rfl,_,z⟩=>congrArg (· +1) (b9.length z)
theorem b9.get : ∀ {ds}{us}{j:Nat}{u},b9 hp ds us->us[j]? =k0 u-> ∃d,ds[j]? =k0 d/\RV hp d u
 | [],_,_,_,rfl,e=>by simp at e
 | d::_,_,0,_,⟨v,_,rfl,z,_⟩,e=>by simp at e;subst e;exact⟨d,rfl,z⟩
 | _::_,_,j+1,_,⟨_,_,rfl,_,z⟩,e=>by
  obtain⟨v,a,b⟩:=b9.get z (by simpa using e)
  exact⟨v,by simpa using a,b⟩
section
variable {X:Cx}{Y:Ge}{G:Gh}{H:Hp}{h:M.AH}{pins:List (Addr×Obj)}{U:St}{s:Shared}
mutual
theorem aA.iX (I:Inv X pins U H s) (hK:X.K=Y.K): ∀ {d:M.D}{x:V}{u:Value},aA Y G H d x->RelV x u->M.Gd d=u0->RV s.heap d u
 | .aj,_,_,rfl,r,_=>r
 | .bl _,_,_,rfl,r,_=>r
 | .int _,_,_,rfl,r,_=>r
 | .str _,_,_,rfl,r,_=>r
 | .tup ds,_,_,⟨a,vs,rfl,z2,z3⟩,r,n=>by
  cases r
  obtain⟨its,r1,p1,_⟩:=I.tuple (hK▸z2.sq)
  exact⟨a,its,rfl,p1,ab.iX I hK z3 r1 (by simpa [M.Gd]using n)⟩
 | .lst ds,_,_,⟨a,vs,rfl,z2,z3⟩,r,n=>by
  cases r
  obtain⟨its,r1,p1,_⟩:=I.list (hK▸z2.sq)
  exact⟨a,its,rfl,p1.isList,ab.iX I hK z3 r1 (by simpa [M.Gd]using n)⟩
 | .ref _,_,_,_,_,n=>by simp [M.Gd]at n
theorem ab.iX (I:Inv X pins U H s) (hK:X.K=Y.K): ∀ {ds:List M.D}{xs:List V}{us:List Value},ab Y G H ds xs->Vals xs us->M.Gc ds=u0->b9 s.heap ds us
 | [],_,_,rfl,.nil,_=>rfl
 | d::ds,_,_,⟨v,r,rfl,z1,z2⟩,.cons r1 r2,n=>by
  have n':M.Gd d=u0/\M.Gc ds=true:=by simpa [M.Gc]using n
  exact⟨_,_,rfl,aA.iX I hK z1 r1 n'.1,ab.iX I hK z2 r2 n'.2⟩
end
mutual
theorem aA.rv (I:Inv X pins U H s) (hK:X.K=Y.K) (hr:ag Y G h H): ∀ {d:M.D}{x:V}{u:Value},aA Y G H d x->RelV x u->M.Gd (M.res h d)=u0->RV s.heap (M.res h d) u
 | .aj,_,_,rfl,r,_=>r
 | .bl _,_,_,rfl,r,_=>r
 | .int _,_,_,rfl,r,_=>r
 | .str _,_,_,rfl,r,_=>r
 | .tup ds,_,_,⟨a,vs,rfl,z2,z3⟩,r,n=>by
  cases r
  obtain⟨its,r1,p1,_⟩:=I.tuple (hK▸z2.sq)
  rw [M.res]at n ⊢
  exact⟨a,its,rfl,p1,ab.rv I hK hr z3 r1 (by simpa [M.Gd]using n)⟩
 | .lst ds,_,_,⟨a,vs,rfl,z2,z3⟩,r,n=>by
  cases r
  obtain⟨its,r1,p1,_⟩:=I.list (hK▸z2.sq)
  rw [M.res]at n ⊢
  exact⟨a,its,rfl,p1.isList,ab.rv I hK hr z3 r1 (by simpa [M.Gd]using n)⟩
 | .ref i,_,_,⟨hi,e⟩,r,n=>by
  subst e
  cases r
  rw [M.res]at n ⊢
  cases q:h[i]? with
  | none=>rw [q]at n;simp [M.Gd]at n
  | some c=>
   cases c with
   | lst xs=>
    rw [q]at n
    obtain⟨_,vs,z2,z3⟩:=hr.cell i xs q
    obtain⟨its,r1,p1,_⟩:=I.list (br.of (K:=X.K) z2)
    exact⟨_,its,rfl,p1.isList,ab.iX I hK z3 r1 (by simpa [M.Gd]using n)⟩
   | obj c fs=>rw [q]at n;simp [M.Gd]at n
   | aN ks=>rw [q]at n;simp [M.Gd]at n
theorem ab.rv (I:Inv X pins U H s) (hK:X.K=Y.K) (hr:ag Y G h H): ∀ {ds:List M.D}{xs:List V}{us:List Value},ab Y G H ds xs->Vals xs us->M.Gc (M.GU h ds)=u0->b9 s.heap (M.GU h ds) us
 | [],_,_,rfl,.nil,_=>rfl
 | d::ds,_,_,⟨v,r,rfl,z1,z2⟩,.cons r1 r2,n=>by
  rw [M.GU]at n ⊢
  have n':M.Gd (M.res h d)=u0/\M.Gc (M.GU h ds)=true:=by simpa [M.Gc]using n
  exact⟨_,_,rfl,aA.rv I hK hr z1 r1 n'.1,ab.rv I hK hr z2 r2 n'.2⟩
end
theorem ai.rv (I:Inv X pins U H s) (j:X.K=Y.K) (i:ag Y G h H)(z:ai Y G H w x) (r:RelV x u) (n:M.Gd (w.dd h)=u0):RV s.heap (w.dd h) u:=by
 cases w with
 | v d=>exact aA.rv I j i z r n
 | own k=>
  obtain⟨a,l,rfl,_,_,g,c⟩:=z
  cases r
  obtain⟨b,f,e,_⟩:=I.list (br.of g)
  exact⟨a,b,rfl,e.isList,ab.rv I j i c f (by simp_all)⟩
 | bor k=>
  obtain⟨a,l,rfl,_,g,c⟩:=z
  cases r
  obtain⟨b,f,e,_⟩:=I.list (.inl g)
  exact⟨a,b,rfl,e.isList,ab.rv I j i c f (by simp_all)⟩
end
def XB (h:aD a=aD b):a=b:=by
 have:=congrArg Str.cps h
 simpa [aD]using this
def Q1 {xs b:List Value}(h1:IsTup hp a xs.toArray) (d:IsTup hp a b.toArray):xs=b:=by
 obtain⟨o,e1,_,n,e⟩:=h1
 obtain⟨g,e2,_,f,c⟩:=d
 rw [e1]at e2;cases e2
 rw [e]at c;cases c
 rfl
def ZP {b:Heap}{xs c:List Value}(h1:b.IsList a xs.toArray) (e:b.IsList a c.toArray):xs=c:=by
 obtain⟨o,e1,_,n,f⟩:=h1
 obtain⟨h,e2,_,g,d⟩:=e
 rw [e1]at e2;cases e2
 rw [f]at d;cases d
 rfl
def jF (h1:IsTup hp a xs) (c:hp.IsList a ys):False:=by
 obtain⟨o,e1,d,_⟩:=h1
 obtain⟨e,e2,b,_⟩:=c
 rw [e1]at e2;cases e2
 rw [d]at b
 exact absurd b (by decide)
mutual
theorem RV.inj {hp:Heap}: ∀ {d e:M.D}{u:Value},RV hp d u->RV hp e u->d=e
 | .aj,e,_,rfl,q=>by cases e<;>first | rfl | (simp [RV]at q)
 | .bl _,e,_,rfl,q=>by cases e<;>first | (simp [RV]at q;done) | (have q:=q;simp [RV]at q;try rw [q])
 | .int _,e,_,⟨t,rfl⟩,q=>by cases e<;>first | (simp [RV]at q;done) | (have q:=q;simp [RV]at q;try rw [q])
 | .str _,e,_,⟨t,rfl⟩,q=>by
  cases e with
  | str z=>
   obtain⟨t',q⟩:=q
   injection q with q1 q2
   rw [XB q1]
  | _=>simp [RV]at q
 | .tup ds,e,_,⟨a,its,rfl,p,r⟩,q=>by
  cases e with
  | tup es=>
   obtain⟨b,its2,e,p2,r2⟩:=q
   cases e
   cases Q1 p p2
   rw [b9.inj r r2]
  | lst es=>
   obtain⟨b,its2,e,p2,r2⟩:=q
   cases e
   exact(jF p p2).elim
  | _=>simp [RV]at q
 | .lst ds,e,_,⟨a,its,rfl,p,r⟩,q=>by
  cases e with
  | lst es=>
   obtain⟨b,its2,e,p2,r2⟩:=q
   cases e
   cases ZP p p2
   rw [b9.inj r r2]
  | tup es=>
   obtain⟨b,its2,e,p2,r2⟩:=q
   cases e
   exact(jF p2 p).elim
  | _=>simp [RV]at q
 | .ref _,_,_,q,_=>q.elim
theorem b9.inj {hp:Heap}: ∀ {d e:List M.D}{u:List Value},b9 hp d u->b9 hp e u->d=e
 | [],e,_,rfl,q=>by
  cases e with
  | nil=>rfl
  | cons a b=>obtain⟨_,_,z,_⟩:=q;cases z
 | d::ds,e,_,⟨u,r,rfl,z1,z2⟩,q=>by
  cases e with
  | nil=>cases (show _::_= []from q)
  | cons a b=>
   obtain⟨_,_,z,y1,y2⟩:=q
   cases z
   rw [RV.inj z1 y1,b9.inj z2 y2]
end
mutual
theorem RV.refl {hp:Heap}: ∀ {d:M.D}{u:Value},RV hp d u->M.cw d d=u0
 | .aj,_,_=>rfl
 | .bl _,_,_=>by simp
 | .int _,_,_=>by simp
 | .str _,_,_=>by simp
 | .tup ds,_,⟨_,_,_,_,r⟩=>by rw [M.cw];exact b9.refl r
 | .lst ds,_,⟨_,_,_,_,r⟩=>by rw [M.cw];exact b9.refl r
 | .ref _,_,q=>q.elim
theorem b9.refl {hp:Heap}: ∀ {d:List M.D}{u:List Value},b9 hp d u->M.GK d d=u0
 | [],_,_=>rfl
 | d::ds,_,⟨_,_,_,z1,z2⟩=>by rw [M.GK,RV.refl z1,b9.refl z2];rfl
end
def ib (xs c:List M.D) (j:Nat):Bool:=match xs[j]?,c[j]? with
 | some a,k0 b=>M.cw a b
 | _,_=>u0
def jM (n) (e):(Aa8 (n+1)).all e=(e 0&&(Aa8 n).all λj=>e (j+1)):=by
 rw [Ah2,Ah5,An1];rfl
theorem j5: ∀(xs ys),xs.length=ys.length->(Aa8 xs.length).all (ib xs ys)=M.GK xs ys
 | [],[],_=>rfl
 | [],_::_,h=>by simp at h
 | _::_,[],h=>by simp at h
 | x::xs,y::ys,h=>by
  rw [Aa7,jM,M.GK]
  have a:=j5 xs ys (by simpa using h)
  rw [← a]
  rfl
theorem vJ: ∀(xs ys),M.GK xs ys=u0->xs.length=ys.length
 | [],[],_=>rfl
 | [],_::_,h=>by simp at h
 | _::_,[],h=>by simp at h
 | x::xs,y::ys,h=>by
  rw [M.GK,Aa0]at h
  rw [Aa7,Aa7,vJ xs ys h.2]
def vX (h:xs.length≠ys.length):M.GK xs ys=false:=by
 cases e:M.GK xs ys with
 | false=>rfl
 | true=>exact absurd (vJ xs ys e) h
open SeqAt in
structure dB (A:Around) (s:Shared) (u v:Value) (b:Bool):Prop where
 rc:RcAt A s u v b
 ne:RcNeAt A s u v (!b)
 eq:EqAt A s u v b
section
open SeqAt
variable {A:Around}{s:Shared}
theorem XG: ∀ {ds}{j:Nat}{d},ds[j]? =k0 d->M.dep d<=M.GG ds
 | [],_,_,e=>by simp at e
 | x::a,0,d,e=>by simp at e;subst e;simp only [M.GG];omega
 | x::a,j+1,d,e=>by
  have:=XG (by simpa using e)
  simp only [M.GG]
  omega
def mz (b:Bool):((if b then(1:Int)else 0))=((b.toNat:Nat):Int):=by cases b<;>rfl
def sj (a b):(aD a==aD b)=(a==b):=by
 by_cases h:a=b
 ·subst h;simp
 ·have c:=λe=>h (XB e)
  rw [beq_eq_false_iff_ne.mpr h,beq_eq_false_iff_ne.mpr c]
def CF (f:s.heap.IsList l its.toArray) (h:s.heap.IsList b its2.toArray) (i:b9 s.heap xs its) (m:b9 s.heap ys its2) (k:A.units<cLine)
 (w: ∀(j:Nat) a c u v,xs[j]? =k0 a->ys[j]? =k0 c->RV s.heap a u->RV s.heap c v->EqAt A.in1 s u v (M.cw a c)):dB A s (.ref l) (.ref b) (M.GK xs ys):=by
 have q: ∀ j y (r:j<its2.toArray.size),EqAt A.in1 s its.toArray[j] its2.toArray[j] (ib xs ys j):=λj y r=>by
  obtain⟨a,n,x⟩:=i.get (j:=j) (u:=its.toArray[j]) (by simp)
  obtain⟨c,p,t⟩:=m.get (j:=j) (u:=its2.toArray[j]) (by simp)
  have:=w j a c _ _ n p x t
  unfold ib
  rw [n,p]
  exact this
 have z:=i.length
 have l2:=m.length
 have two:RcAt A s (.ref l) (.ref b) (M.GK xs ys)/\RcNeAt A s (.ref l) (.ref b) (!M.GK xs ys):=by
  by_cases o:xs.length=ys.length
  ·have d:its.toArray.size=its2.toArray.size:=by simp;lia
   have e:(Aa8 its.toArray.size).all (ib xs ys)=M.GK xs ys:=by
    rw [Ac0,←z];exact j5 xs ys o
   have a:=RcAt.lists f h d k q
   have c:=RcNeAt.lists f h d k q
   rw [e]at a c
   exact⟨a,c⟩
  ·have d:(its.toArray.size != its2.toArray.size)=true:=by simp;lia
   rw [vX o]
   exact⟨RcAt.lists_lengths f h d k,RcNeAt.lists_lengths f h d k⟩
 refine⟨two.1,two.2,?_⟩
 by_cases g:l=b
 ·subst g
  cases ZP f h
  cases b9.inj i m
  rw [b9.refl i]
  exact EqAt.same _
 ·exact EqAt.of_refs g two.1
def A7 (h:IsTup s.heap l its.toArray) (k:IsTup s.heap b its2.toArray) (f:b9 s.heap xs its) (i:b9 s.heap ys its2) (o:A.units<cLine)
 (t: ∀(j:Nat) a c u v,xs[j]? =k0 a->ys[j]? =k0 c->RV s.heap a u->RV s.heap c v->EqAt A.in1 s u v (M.cw a c)):dB A s (.ref l) (.ref b) (M.GK xs ys):=by
 have p: ∀ j x (q:j<its2.toArray.size),EqAt A.in1 s its.toArray[j] its2.toArray[j] (ib xs ys j):=λj x q=>by
  obtain⟨a,m,w⟩:=f.get (j:=j) (u:=its.toArray[j]) (by simp)
  obtain⟨c,n,r⟩:=i.get (j:=j) (u:=its2.toArray[j]) (by simp)
  have:=t j a c _ _ m n w r
  unfold ib
  rw [m,n]
  exact this
 have y:=f.length
 have l2:=i.length
 have e:((Aa8 (min its.toArray.size its2.toArray.size)).all (ib xs ys)&&its.toArray.size==its2.toArray.size)=M.GK xs ys:=by
  rw [Ac0,Ac0,←y,←l2]
  by_cases g:xs.length=ys.length
  ·rw [← g,Nat.min_self,j5 xs ys g];simp
  ·rw [vX g];simp [g]
 have a:=RcAt.tuples h k o p
 have c:=RcNeAt.tuples h k o p
 rw [e]at a c
 refine⟨a,c,?_⟩
 by_cases d:l=b
 ·subst d
  cases Q1 h k
  cases b9.inj f i
  rw [b9.refl f]
  exact EqAt.same _
 ·exact EqAt.of_refs d a
def dB.of (h:dB A s u v b) (e:b=b'):dB A s u v b':=e▸h
def o8: ∀(n:Nat) (d e:M.D) (A:Around) (u v:Value),M.dep d<=n->A.units+n<cLine->RV s.heap d u->RV s.heap e v->dB A s u v (M.cw d e):=by
 intro n
 induction n with
 | zero=>
  intro d e A u v y K m f
  have c:A.units<cLine:=by omega
  cases d with
  | aj=>
   cases (show u= .none from m)
   cases e with
   | aj=>cases (show v= .none from f);exact⟨RcAt.none_none,RcNeAt.none_none,EqAt.same _⟩
   | bl b=>cases (show v= .bool b from f);exact⟨RcAt.none_bool b,RcNeAt.none_bool b,EqAt.none_bool b⟩
   | int i=>obtain⟨t,rfl⟩:=f;exact⟨RcAt.none_int i t,RcNeAt.none_int i t,EqAt.none_int i t⟩
   | str z=>obtain⟨t,rfl⟩:=f;exact⟨RcAt.none_str _ t,RcNeAt.none_str _ t,EqAt.none_str _ t⟩
   | tup o=>obtain⟨a,k,rfl,p,_⟩:=f;exact⟨RcAt.none_tuple p c,RcNeAt.none_tuple p c,EqAt.none_tuple p c⟩
   | lst o=>obtain⟨a,k,rfl,p,_⟩:=f;exact⟨RcAt.none_list p c,RcNeAt.none_list p c,EqAt.none_list p c⟩
   | ref _=>exact f.elim
  | bl x=>
   cases (show u= .bool x from m)
   cases e with
   | aj=>cases (show v= .none from f);exact⟨RcAt.bool_none x,RcNeAt.bool_none x,EqAt.bool_none x⟩
   | bl b=>cases (show v= .bool b from f);exact⟨RcAt.bool_bool x b,RcNeAt.bool_bool x b,EqAt.bool_bool x b⟩
   | int i=>obtain⟨t,rfl⟩:=f;exact(dB.mk (RcAt.bool_int x i t) (RcNeAt.bool_int x i t) (EqAt.bool_int x i t)).of (by rw [mz];rfl)
   | str z=>obtain⟨t,rfl⟩:=f;exact⟨RcAt.bool_str x _ t,RcNeAt.bool_str x _ t,EqAt.bool_str x _ t⟩
   | tup o=>obtain⟨a,k,rfl,p,_⟩:=f;exact⟨RcAt.bool_tuple x p c,RcNeAt.bool_tuple x p c,EqAt.bool_tuple x p c⟩
   | lst o=>obtain⟨a,k,rfl,p,_⟩:=f;exact⟨RcAt.bool_list x p c,RcNeAt.bool_list x p c,EqAt.bool_list x p c⟩
   | ref _=>exact f.elim
  | int x=>
   obtain⟨g,rfl⟩:=m
   cases e with
   | aj=>cases (show v= .none from f);exact⟨RcAt.int_none x g,RcNeAt.int_none x g,EqAt.int_none x g⟩
   | bl b=>cases (show v= .bool b from f);exact(dB.mk (RcAt.int_bool x g b) (RcNeAt.int_bool x g b) (EqAt.int_bool x g b)).of (by rw [mz];rfl)
   | int i=>obtain⟨t,rfl⟩:=f;exact⟨RcAt.int_int x g i t,RcNeAt.int_int x g i t,EqAt.int_int x g i t⟩
   | str z=>obtain⟨t,rfl⟩:=f;exact⟨RcAt.int_str x g _ t,RcNeAt.int_str x g _ t,EqAt.int_str x g _ t⟩
   | tup o=>obtain⟨a,k,rfl,p,_⟩:=f;exact⟨RcAt.int_tuple x g p c,RcNeAt.int_tuple x g p c,EqAt.int_tuple x g p c⟩
   | lst o=>obtain⟨a,k,rfl,p,_⟩:=f;exact⟨RcAt.int_list x g p c,RcNeAt.int_list x g p c,EqAt.int_list x g p c⟩
   | ref _=>exact f.elim
  | str x=>
   obtain⟨g,rfl⟩:=m
   cases e with
   | aj=>cases (show v= .none from f);exact⟨RcAt.str_none _ g,RcNeAt.str_none _ g,EqAt.str_none _ g⟩
   | bl b=>cases (show v= .bool b from f);exact⟨RcAt.str_bool _ g b,RcNeAt.str_bool _ g b,EqAt.str_bool _ g b⟩
   | int i=>obtain⟨t,rfl⟩:=f;exact⟨RcAt.str_int _ g i t,RcNeAt.str_int _ g i t,EqAt.str_int _ g i t⟩
   | str z=>obtain⟨t,rfl⟩:=f;exact(dB.mk (RcAt.str_str _ g _ t) (RcNeAt.str_str _ g _ t) (EqAt.str_str _ g _ t)).of (by rw [sj];rfl)
   | tup o=>obtain⟨a,k,rfl,p,_⟩:=f;exact⟨RcAt.str_tuple _ g p c,RcNeAt.str_tuple _ g p c,EqAt.str_tuple _ g p c⟩
   | lst o=>obtain⟨a,k,rfl,p,_⟩:=f;exact⟨RcAt.str_list _ g p c,RcNeAt.str_list _ g p c,EqAt.str_list _ g p c⟩
   | ref _=>exact f.elim
  | tup C=>simp only [M.dep]at y;omega
  | lst C=>simp only [M.dep]at y;omega
  | ref _=>exact m.elim
 | succ n w=>
  intro d e A u v y K m f
  have c:A.units<cLine:=by omega
  cases d with
  | tup C=>
   obtain⟨l,B,rfl,h,E⟩:=m
   have r:M.GG C<=n:=by simp only [M.dep]at y;omega
   cases e with
   | aj=>cases (show v= .none from f);exact⟨RcAt.tuple_none h c,RcNeAt.tuple_none h c,EqAt.tuple_none h c⟩
   | bl b=>cases (show v= .bool b from f);exact⟨RcAt.tuple_bool b h c,RcNeAt.tuple_bool b h c,EqAt.tuple_bool b h c⟩
   | int i=>obtain⟨t,rfl⟩:=f;exact⟨RcAt.tuple_int i t h c,RcNeAt.tuple_int i t h c,EqAt.tuple_int i t h c⟩
   | str z=>obtain⟨t,rfl⟩:=f;exact⟨RcAt.tuple_str _ t h c,RcNeAt.tuple_str _ t h c,EqAt.tuple_str _ t h c⟩
   | tup o=>
    obtain⟨a,k,rfl,p,q⟩:=f
    rw [M.cw]
    exact A7 h p E q c λj H I J F e1 e2 D G=>(w H I A.in1 J F (Ab5 (XG e1) r) (by show A.units+1+n<cLine;omega) D G).eq
   | lst o=>obtain⟨a,k,rfl,p,_⟩:=f;exact⟨RcAt.tuple_list h p c,RcNeAt.tuple_list h p c,EqAt.tuple_list h p c⟩
   | ref _=>exact f.elim
  | lst C=>
   obtain⟨l,B,rfl,h,E⟩:=m
   have r:M.GG C<=n:=by simp only [M.dep]at y;omega
   cases e with
   | aj=>cases (show v= .none from f);exact⟨RcAt.list_none h c,RcNeAt.list_none h c,EqAt.list_none h c⟩
   | bl b=>cases (show v= .bool b from f);exact⟨RcAt.list_bool b h c,RcNeAt.list_bool b h c,EqAt.list_bool b h c⟩
   | int i=>obtain⟨t,rfl⟩:=f;exact⟨RcAt.list_int i t h c,RcNeAt.list_int i t h c,EqAt.list_int i t h c⟩
   | str z=>obtain⟨t,rfl⟩:=f;exact⟨RcAt.list_str _ t h c,RcNeAt.list_str _ t h c,EqAt.list_str _ t h c⟩
   | lst o=>
    obtain⟨a,k,rfl,p,q⟩:=f
    rw [M.cw]
    exact CF h p E q c λj H I J F e1 e2 D G=>(w H I A.in1 J F (Ab5 (XG e1) r) (by show A.units+1+n<cLine;omega) D G).eq
   | tup o=>obtain⟨a,k,rfl,p,_⟩:=f;exact⟨RcAt.list_tuple h p c,RcNeAt.list_tuple h p c,EqAt.list_tuple h p c⟩
   | ref _=>exact f.elim
  | aj=>exact w .aj e A u v (by simp) (by omega) m f
  | bl x=>exact w (.bl x) e A u v (by simp) (by omega) m f
  | int x=>exact w (.int x) e A u v (by simp) (by omega) m f
  | str x=>exact w (.str x) e A u v (by simp) (by omega) m f
  | ref _=>exact m.elim
end
def az (Y:Ge) (E:XK) (G:Gh) (H:Hp) (r:M.R M.W) (Q:VK):Prop:=av Y E G H r λw _ G' H'=> ∀v,ai Y G' H' w v->aH [] [] H w v->Q v H'
section
variable {X:Cx}{Y:Ge}{G:Gh}{H:Hp}{h:M.AH}{pins:List (Addr×Obj)}{U:St}{s:Shared}{Q:VK}{E:XK}
theorem az.v (p:az Y E G H (.ok (.v d) h) Q) (a:ag Y G h H){v:V}(z:aA Y G H d v):Q v H:=p G H Ext.refl a v z trivial
def ag.iO (c:ag Y G h H)(b:H a=y0): ¬G.fz a:=λq=>by
 obtain⟨o,z⟩:=c.live a q
 rw [b]at z;cases z
def ag.ft (d:ag Y G h H)(b:H a=y0):dA G a:=λr c e=>by
 obtain⟨o,q⟩:=d.there c
 rw [e,b]at q;cases q
theorem az.own (p:az Y E G H (.ok (.own xs) h) Q) (c:ag Y G h H) (z:ab Y G H xs vs) (a) (b:H a=y0):Q (.ref a) (aM H a (.lst vs)):=
 p G _ (zr _ b) (c.new _ b) _ ⟨a,vs,rfl,c.iO b,c.ft b,wc,z.ext (zr _ b) c⟩ ⟨a,rfl,b⟩
theorem az.tup (p:az Y E G H (.ok (.v (.tup xs)) h) Q) (c:ag Y G h H) (z:ab Y G H xs vs) (a) (b:H a=y0):Q (.ref a) (aM H a (.tup vs)):=
 p _ _ (wG _ b) (c.kY _ b) _ ⟨a,vs,rfl,.inl ⟨.inr rfl,wc⟩,z.ext (wG _ b) c⟩ trivial
theorem az.of (p:az Y E G H ((M.R.of h o).bind f) Q): ∃b,o=k0 b/\az Y E G H (f b h) Q:=av.of p
def az.mk {c:Gh}{b:Hp}{o:M.AH}{τ:M.Sl}{U:St}{r:M.R M.W}(p:av Y E c b r λw _ G' H'=> ∀v,ai Y G' H' w v->aH τ U b w v->Q v H') (e:Ext c b G H) (h:ag Y c o b):az Y E G H r Q:=by
 cases r with
 | ok w q=>
  refine λG' H' k f v n j=>p G' H' (e.trans h k) f v n ?_
  cases w with
  | v d=>trivial
  | own m=>obtain⟨a,g,l⟩:=j;exact⟨a,g,e.none h l⟩
  | bor m=>obtain⟨i,w,g,_⟩:=j;simp at g
 | fail=>exact p
theorem ai.lst (j:ag Y G h H){w:M.W}{v:V}{xs:List M.D}(z:ai Y G H w v) (e:w.cc h=k0 xs): ∃a vs,v= .ref a/\br Y.K H a vs/\ab Y G H xs vs:=by
 cases w with
 | v d=>
  cases d with
  | lst i=>cases e;obtain⟨a,vs,f,g,b⟩:=z;exact⟨a,vs,f,g.sq,b⟩
  | ref r=>
   obtain⟨k,f⟩:=z
   have e:(match h[r]? with | some (M.Cell.lst zs)=>k0 zs | _=>y0)=k0 xs:=e
   cases q:h[r]? with
   | none=>rw [q]at e;cases e
   | some c=>
    cases c with
    | lst i=>
     rw [q]at e
     cases e
     obtain⟨_,vs,g,b⟩:=j.cell r _ q
     exact⟨_,vs,f,br.of g,b⟩
    | obj c fs=>rw [q]at e;cases e
    | aN l=>rw [q]at e;cases e
  | aj=>cases e
  | bl _=>cases e
  | int _=>cases e
  | str _=>cases e
  | tup _=>cases e
 | own i=>cases e;obtain⟨a,vs,f,_,_,g,b⟩:=z;exact⟨a,vs,f,br.of g,b⟩
 | bor i=>cases e;obtain⟨a,vs,f,_,g,b⟩:=z;exact⟨a,vs,f,.inl g,b⟩
theorem ai.o7 (j:ag Y G h H){w:M.W}{v:V}{xs:List M.D}(z:ai Y G H w v) (e:w.gS h=k0 xs): ∃a vs,v= .ref a/\Rd H a (.lst vs)/\ab Y G H xs vs:=by
 cases w with
 | v d=>
  cases d with
  | ref r=>
   obtain⟨k,f⟩:=z
   have e:(match h[r]? with | some (M.Cell.lst zs)=>k0 zs | _=>y0)=k0 xs:=e
   cases q:h[r]? with
   | none=>rw [q]at e;cases e
   | some c=>
    cases c with
    | lst i=>
     rw [q]at e
     cases e
     obtain⟨_,vs,g,b⟩:=j.cell r _ q
     exact⟨_,vs,f,.inl g,b⟩
    | obj c fs=>rw [q]at e;cases e
    | aN l=>rw [q]at e;cases e
  | _=>cases e
 | own i=>cases e;obtain⟨a,vs,f,_,_,g,b⟩:=z;exact⟨a,vs,f,.inl g,b⟩
 | bor i=>cases e;obtain⟨a,vs,f,_,g,b⟩:=z;exact⟨a,vs,f,g,b⟩
theorem ai.seq (j:ag Y G h H){w:M.W}{v:V}{xs:List M.D}(z:ai Y G H w v) (e:w.seq? h=k0 xs): ∃a vs,v= .ref a/\(br Y.K H a vs\/cJ Y.K H a vs)/\ab Y G H xs vs:=by
 have b:w.cc h=k0 xs-> ∃a vs,v= .ref a/\(br Y.K H a vs\/cJ Y.K H a vs)/\ab Y G H xs vs:=λe=>by
  obtain⟨a,vs,g,i,f⟩:=z.lst j e
  exact⟨a,vs,g,.inl i,f⟩
 cases w with
 | v d=>
  cases d with
  | tup c=>cases e;obtain⟨a,vs,g,i,f⟩:=z;exact⟨a,vs,g,.inr i.sq,f⟩
  | lst c=>exact b e
  | ref r=>exact b e
  | aj=>cases e
  | bl _=>cases e
  | int _=>cases e
  | str _=>cases e
 | own c=>exact b e
 | bor c=>exact b e
def CO (I:Inv X pins U H s)(r:Rd H a (.lst vs)):vs.length<=sizeLine/\ ∃ i n,Vals vs i/\vs.length=i.length/\s.heap.get? a=k0 { cls:= .type "list",data:= .seq i.toArray n }:=by
 obtain⟨z,i,n,r,e⟩:=r.ok I.a8
 exact⟨z,i,n,r,r.length,e⟩
def Qj:M.bg<=sizeLine:=by rw [M.Gg];decide
def Fh (K:Aa9):R2:=λx y H Q=> ∃l b xs zs,x= .ref l/\y= .ref b/\br K H l xs/\br K H b zs/\xs.length+zs.length<=sizeLine/\ ∀p,H p=y0->Q (.ref p) (aM H p (.lst (xs++zs)))
def EK:bG X (binaryOp .Add) (Fh X.K):=by
 intro p s U H x y v u Q I z F h
 obtain⟨l,b,O,M,rfl,rfl,B,G,L,q⟩:=h
 cases z
 cases F
 obtain⟨c,r,J,_⟩:=I.list B
 obtain⟨a,o,K,_⟩:=I.list G
 have N:=r.length
 have l2:=o.length
 have E:c.toArray++a.toArray=(c++a).toArray:=by simp
 obtain⟨⟨w,dd,k,sl⟩,t,D,n,A⟩:=id J.isList
 obtain⟨⟨m,g,j,f⟩,d,e,C,i⟩:=id K.isList
 subst D A e i
 refine concat_meets ⟨_,t,rfl⟩ ⟨_,d,rfl⟩ noFill_list_add seq_list_add PySem.F.slot_list_add PySem.F.entry_list_add (PySem.F.args_list_add_2 _ _) (list_addW l b c.toArray a.toArray n C dd g sl f (by simp_all)) ⟨t,d,?_⟩
 rw [E]
 exact⟨.ref _,_,I.kJ (r.append o) (by simp_all),rfl,q _ I.fresh⟩
def yE:R2:=λx y H Q=> ∃l k xs,x= .ref l/\y= .int k/\Rd H l (.lst xs)/\ -(2 ^ 63)<=k/\k<2 ^ 63/\xs.length*k.toNat<=sizeLine ∧
 ∀p,H p=y0->Q (.ref p) (aM H p (.lst (Aa3 k.toNat xs).flatten))
def Hf:bG X (binaryOp .Mult) yE:=by
 intro o s U H x y v u Q I w G h
 obtain⟨l,k,M,rfl,rfl,E,J,p,j,q⟩:=h
 cases w
 obtain⟨t,rfl⟩:=G
 obtain⟨z,b,n,r,B,e⟩:=CO I E
 have g:b.toArray.size*k.toNat<=sizeLine:=by rw [Ac0,←B];exact j
 have f: ¬b.toArray.size*k.toNat>(2 ^ 63-1) / 8:=by
  have: sizeLine<=(2 ^ 63-1) / 8:=by decide
  lia
 have d: ¬(!Builtin.List.listFitsIndex k)=true:=by
  rw [fitsIndex_both J p]
  exact Ab2
 have c: ¬Builtin.List.listTooLong (b.toArray.size*k.toNat)=true:=by
  rw [sV g]
  exact Ab2
 have i:List.foldl (λK D=>K++D) #[] (Aa3 (if b.toArray.isEmpty=u0 then 0 else k.toNat) b.toArray)=(Aa3 k.toNat b).flatten.toArray:=by
  have C:=λm=>by
   have:=wV b m []
   rw [Ae2]at this
   exact this
  rw [C]
  cases b with
  | nil=>simp
  | cons a L=>rw [if_neg (by simp)]
 refine wpAny_binaryOp_repeat_ref rfl ⟨_,e,rfl⟩ (λA=>typeIs_int A k t) noFill_list_mul F.fills_int_mul F.slot_int_rmul repeat_list F.slot_int_index.lookup
  (call_meets F.slot_int_rmul (typeIs_int s k t) F.entry_int_rmul (F.args_int_rmul_2 _ _) (int___rmul___int_list k t l b.toArray n)
    ⟨e,rfl,⟨_,e,rfl⟩,call_meets F.slot_list_mul ⟨_,e,rfl⟩ F.entry_list_mul (F.args_list_mul_2 _ _) (AutoListH.list___mul___list_int_3 l b.toArray n k t d f c) ⟨e,?_⟩⟩)
 rw [i]
 exact⟨.ref _,_,I.kJ (r.rep k.toNat) (by rw [Hz,Al];exact j),rfl,q _ I.fresh⟩
theorem ab.rep (z:ab Y G H ds vs): ∀k:Nat,ab Y G H (Aa3 k ds).flatten (Aa3 k vs).flatten
 | 0=>rfl
 | k+1=>by
  exact z.append (ab.rep z k)
def Wc (a b:Nat):Builtin.bitAnd (a:Int) (b:Int)=((a &&& b:Nat):Int):=by
 rfl
def Bv (a:Nat) (j) (b: ¬0<=j):Builtin.bitAnd (a:Int) j=((a-(a &&& (-j-1).toNat):Nat):Int):=by
 have e:(Builtin.bitNot j).toNat=(-j-1).toNat:=by unfold Builtin.bitNot;lia
 unfold Builtin.bitAnd
 rw [decide_eq_true (Ao5 a),decide_eq_false b]
 show a-((a &&& (Builtin.bitNot j).toNat:Nat):Int)=_
 rw [e]
 have:= @Nat.and_le_left a (-j-1).toNat
 omega
def qm (a b:Nat):Builtin.bitOr (a:Int) (b:Int)=((a ||| b:Nat):Int):=by
 have c: ¬ 0<=Builtin.bitNot a:=by unfold Builtin.bitNot;lia
 have d: ¬ 0<=Builtin.bitNot b:=by unfold Builtin.bitNot;lia
 have e1:(Builtin.bitNot (Builtin.bitNot a)).toNat=a:=by unfold Builtin.bitNot;lia
 have e2:(Builtin.bitNot (Builtin.bitNot b)).toNat=b:=by unfold Builtin.bitNot;lia
 unfold Builtin.bitOr Builtin.bitAnd
 rw [decide_eq_false c,decide_eq_false d]
 show Builtin.bitNot (Builtin.bitNot _)=_
 rw [e1,e2]
 unfold Builtin.bitNot
 lia
def Bz (h:M.G9 i j=k0 k):Builtin.bitAnd i j=k:=by
 unfold M.G9 at h
 split at h
 ·rename_i d
  obtain⟨a,rfl⟩:=Ah d
  split at h
  ·rename_i c
   obtain⟨b,rfl⟩:=Ah c
   cases h
   exact Wc a b
  ·rename_i c
   cases h
   exact Bv a j c
 ·cases h
def yt (h:M.i8 i j=k0 k):Builtin.bitOr i j=k:=by
 unfold M.i8 at h
 split at h
 ·rename_i c
  obtain⟨a,rfl⟩:=Ah c.1
  obtain⟨b,rfl⟩:=Ah c.2
  cases h
  exact qm a b
 ·cases h
def Mj: ∀a b:Nat,(a ||| b)=(a ^^^ b)+(a &&& b):=by
 intro a
 induction a using Nat.strongRecOn with
 | ind a d=>
  intro b
  by_cases h:a=0
  ·subst h;simp
  ·have i:=d (a / 2) (by lia) (b / 2)
   have f:= @Nat.or_div_two_pow a b 1
   have c:= @Nat.xor_div_two_pow a b 1
   have g:= @Nat.and_div_two_pow a b 1
   have k:= @Nat.or_mod_two_pow a b 1
   have l:= @Nat.xor_mod_two_pow a b 1
   have j:= @Nat.and_mod_two_pow a b 1
   rw [← f,←c,←g]at i
   have e:(a ||| b) % 2=(a ^^^ b) % 2+(a &&& b) % 2:=by
    rw [k,l,j]
    rcases Nat.mod_two_eq_zero_or_one a with u | u<;>rcases Nat.mod_two_eq_zero_or_one b with v | v<;>rw [u,v]<;>rfl
   lia
def F9 (h:M.Ky i j=k0 k):Builtin.bitXor i j=k:=by
 unfold M.Ky at h
 split at h
 ·rename_i c
  obtain⟨a,rfl⟩:=Ah c.1
  obtain⟨b,rfl⟩:=Ah c.2
  cases h
  show Builtin.bitOr a b-Builtin.bitAnd a b=((a ^^^ b))
  rw [qm,Wc,Mj]
  lia
 ·cases h
noncomputable def ml:M.Op->Operator
 | .add=> .Add | .sub=> .Sub | .mul=> .Mult | .fdiv=> .FloorDiv | .mod=> .Mod | .pow=> .Pow | .shl=> .LShift | .shr=> .RShift | .band=> .BitAnd | .bor=> .BitOr | .bxor=> .BitXor
def AZ (Y:Ge) (E:XK) (o:M.Op):R2:=λx y H Q=> ∃G h a b,ag Y G h H/\ai Y G H a x/\ai Y G H b y/\az Y E G H (M.GV o a b h) Q
def Mi (s t):aD s++aD t=aD (s++t):=by
 show Str.mk _=Str.mk _
 simp [aD]
def ze (s):(aD s).length=s.length:=by
 show s.toArray.size=s.length
 simp
def lI:M.Op->Bool
 | _=>u0
def DN (d:lI o=u0)(e:M.Gi o i j=k0 k)(I:Inv X pins U H s) (b:RelV (.int i) v) (a:RelV (.int j) u) (q:Q (.int k) H):
 wpAny (model X.prog X.w) X.A (binaryOp (ml o) v u) (EP X pins U Q) X.xe s:=by
 cases o with
 | add=>cases e;exact Hk pins s U H _ _ v u Q I b a ⟨i,j,rfl,rfl,q⟩
 | sub=>cases e;exact yo pins s U H _ _ v u Q I b a ⟨i,j,rfl,rfl,q⟩
 | mul=>
  simp only [M.Gi,M.GY,M.GD]at e
  split at e
  ·rename_i c;cases e;exact LY pins s U H _ _ v u Q I b a ⟨i,j,rfl,rfl,c,q⟩
  ·cases e
 | fdiv=>
  simp only [M.Gi,M.GS,M.GD]at e
  split at e
  ·rename_i c;cases e;exact Lm pins s U H _ _ v u Q I b a ⟨i,j,rfl,rfl,c,q⟩
  ·cases e
 | mod=>
  simp only [M.Gi,M.GD]at e
  split at e
  ·rename_i c;cases e;exact Ib pins s U H _ _ v u Q I b a ⟨i,j,rfl,rfl,c,q⟩
  ·cases e
 | pow=>
  simp only [M.Gi,M.G8,M.GD]at e
  split at e
  ·rename_i c;cases e;exact yy pins s U H _ _ v u Q I b a ⟨i,j,rfl,rfl,c,q⟩
  ·cases e
 | shl=>
  simp only [M.Gi,M.G8,M.GD]at e
  split at e
  ·rename_i c;cases e;exact yA pins s U H _ _ v u Q I b a ⟨i,j,rfl,rfl,c,q⟩
  ·cases e
 | shr=>
  simp only [M.Gi,M.GD]at e
  split at e
  ·rename_i c;cases e;exact yQ pins s U H _ _ v u Q I b a ⟨i,j,rfl,rfl,c,q⟩
  ·cases e
 | band=>exact F8 pins s U H _ _ v u Q I b a ⟨i,j,rfl,rfl,by dsimp only;rw [Bz e];exact q⟩
 | bor=>exact DY pins s U H _ _ v u Q I b a ⟨i,j,rfl,rfl,by dsimp only;rw [yt e];exact q⟩
 | bxor=>exact Cs pins s U H _ _ v u Q I b a ⟨i,j,rfl,rfl,by dsimp only;rw [F9 e];exact q⟩
theorem ai.int (z:ai Y G H w v) (e:w.int? =k0 i):v= .int i:=by
 cases w with
 | v d=>
  cases d with
  | int j=>cases e;exact z
  | _=>cases e
 | _=>cases e
theorem ai.str (z:ai Y G H w v) (e:w.bH =k0 i):v= .str (aD i):=by
 cases w with
 | v d=>
  cases d with
  | str j=>cases e;exact z
  | _=>cases e
 | _=>cases e
theorem ai.tup (z:ai Y G H w v) (e:w.eN =k0 xs): ∃a vs,v= .ref a/\e3 Y G H a vs/\ab Y G H xs vs:=by
 cases w with
 | v d=>
  cases d with
  | tup j=>cases e;exact z
  | _=>cases e
 | _=>cases e
def Lz (o) (N:lI o=u0) (t:X.K=Y.K):bG X (binaryOp (ml o)) (AZ Y E o):=by
 intro d s U H x y v u Q I l n ⟨G,h,O,R,f,r,w,p⟩
 have P:=Qj
 unfold M.GV at p
 split at p
 ·rename_i i j e1 e2
  obtain⟨k,e,p⟩:=p.of
  cases r.int e1
  cases w.int e2
  exact DN N e I l n (p.v f rfl)
 ·split at p
  · -- add
    unfold M.KB at p
    split at p
    ·rename_i a b e1 e2
     cases r.str e1
     cases w.str e2
     split at p
     ·rename_i c
      exact F2 d s U H _ _ v u Q I l n ⟨_,_,rfl,rfl,by rw [ze,ze];lia,by rw [Mi];exact p.v f rfl⟩
     ·exact p.elim
    ·split at p
     ·rename_i K L e1 e2
      obtain⟨a,m,rfl,q,g⟩:=r.tup e1
      obtain⟨b,C,rfl,F,A⟩:=w.tup e2
      split at p
      ·rename_i c
       have J:=g.length
       have l2:=A.length
       by_cases ex:m= []
       ·subst ex
        have:K= []:=Ai5 J
        subst this
        exact C4 d s U H _ _ v u Q I l n ⟨a,b,C,rfl,rfl,t▸q.sq,t▸F.sq,p.v f ⟨b,C,rfl,F,A⟩⟩
       refine Dw d s U H _ _ v u Q I l n ⟨a,b,m,C,rfl,rfl,t▸q.sq,t▸F.sq,ex,by lia,λe=> ?_,λe B D=>p.tup f (g.append A) B D⟩
       ·subst e
        have:L= []:=Ai5 l2
        subst this
        rw [Af1]at p
        exact p.v f ⟨a,m,rfl,q,g⟩
      ·exact p.elim
     ·split at p
      ·rename_i K L e1 e2
       obtain⟨a,m,rfl,q,g⟩:=r.lst f e1
       obtain⟨b,C,rfl,F,A⟩:=w.lst f e2
       unfold M.KC at p
       split at p
       ·have J:=g.length
        have l2:=A.length
        exact EK d s U H _ _ v u Q I l n ⟨a,b,m,C,rfl,rfl,t▸q,t▸F,by lia,λB D=>p.own f (g.append A) B D⟩
       ·exact p.elim
      ·exact p.elim
  · -- mul
    unfold M.KD at p
    split at p
    ·rename_i z j e1 e2
     cases r.str e1
     cases w.int e2
     split at p
     ·rename_i c
      rw [M.Gg]at c
      refine LJ d s U H _ _ v u Q I l n ⟨_,j,rfl,rfl,c.1,c.2.1,by rw [ze];exact c.2.2,?_⟩
      have e:gR (aD z) j.toNat=aD (Aa3 j.toNat z).flatten:=by
       apply rM
       rw [wH]
       rfl
      rw [e]
      exact p.v f rfl
     ·exact p.elim
    split at p
    ·rename_i K j e1 e2
     obtain⟨a,m,rfl,q,g⟩:=r.o7 f e1
     cases w.int e2
     unfold M.Kw at p
     split at p
     ·rename_i c
      have J:=g.length
      exact Hf d s U H _ _ v u Q I l n ⟨a,j,m,rfl,rfl,q,by lia,by lia,by rw [← J];lia,λB D=>p.own f (g.rep j.toNat) B D⟩
     ·exact p.elim
    ·exact p.elim
  ·exact p.elim
noncomputable def fb:M.Cp->CmpOp
 | .eq=> .Eq | .ne=> .NotEq | .lt=> .Lt | .le=> .LtE | .gt=> .Gt | .ge=> .GtE | .mem=> .In | .eR=> .NotIn | .cR=> .Is | .iR=> .IsNot
def hU (Y:Ge) (o:M.Cp):R2:=λx y H Q=> ∃G h a c b,ag Y G h H/\ai Y G H a x/\ai Y G H c y/\M.Gr o a c h=k0 b/\Q (.bl b) H
def qM:M.Cp->Bool
 | .mem=>u0
 | .eR=>u0
 | _=>u0
def EJ (e:M.Kz o i j=k0 b)(I:Inv X pins U H s) (c:RelV (.int i) v) (a:RelV (.int j) u) (q:Q (.bl b) H):
 wpAny (model X.prog X.w) X.A (compareOp (fb o) v u) (EP X pins U Q) X.xe s:=by
 cases o with
 | lt=>cases e;exact yC pins s U H _ _ v u Q I c a ⟨i,j,rfl,rfl,q⟩
 | le=>cases e;exact Ih pins s U H _ _ v u Q I c a ⟨i,j,rfl,rfl,q⟩
 | gt=>cases e;exact FJ pins s U H _ _ v u Q I c a ⟨i,j,rfl,rfl,q⟩
 | ge=>cases e;exact FN pins s U H _ _ v u Q I c a ⟨i,j,rfl,rfl,q⟩
 | _=>cases e
def C2 (d:X.K=Y.K)(l:a9 k X.A):bG X (compareOp .Eq) (hU Y .eq):=by
 intro f s U H x y v u Q I j m ⟨G,h,o,p,b,a,i,n,e,q⟩
 simp only [M.Gr]at e
 split at e
 ·rename_i c
  cases e
  have g:=by simpa [M.G6]using c
  exact(o8 150 _ _ X.A v u (by lia) (by have:=l.un;lia) (i.rv I d a j g.1.1) (n.rv I d a m g.1.2)).rc _ _ _ _ ⟨.bl _,H,I,rfl,q⟩
 ·cases e
def BL (d:X.K=Y.K)(l:a9 k X.A):bG X (compareOp .NotEq) (hU Y .ne):=by
 intro f s U H x y v u Q I j m ⟨G,h,o,p,b,a,i,n,e,q⟩
 simp only [M.Gr]at e
 split at e
 ·rename_i c
  cases e
  have g:=by simpa [M.G6]using c
  exact(o8 150 _ _ X.A v u (by lia) (by have:=l.un;lia) (i.rv I d a j g.1.1) (n.rv I d a m g.1.2)).ne _ _ _ _ ⟨.bl _,H,I,rfl,q⟩
 ·cases e
end
def PE.imp (h:PE X e t) (k: ∀U H Q,t' U H Q->t U H Q):PE X e t':=λa s U H Q I q=>h a s U H Q I (k _ _ _ q)
def PT.imp (h:PT X e t) (k: ∀U H Q,t' U H Q->t U H Q):PT X e t':=λa s U H Q I q=>h a s U H Q I (k _ _ _ q)
def PA.imp (h:PA X e t) (k: ∀U H Q,t' U H Q->t U H Q):PA X e t':=λb a s U H Q I q=>h b a s U H Q I (k _ _ _ q)
section
variable {X:Cx}{Y:Ge}{G:Gh}{H:Hp}{h:M.AH}{pins:List (Addr×Obj)}{U:St}{s:Shared}{Q:VK}{E:XK}
def bh.one (z:bh Y G H [w] vs): ∃v,vs= [v]/\ai Y G H w v:=by
 obtain⟨v,r,rfl,a,b⟩:=z
 cases (show r= []from b)
 exact⟨v,rfl,a⟩
def bh.two (z:bh Y G H [w,w'] vs): ∃v v',vs= [v,v']/\ai Y G H w v/\ai Y G H w' v':=by
 obtain⟨v,r,rfl,b,c⟩:=z
 obtain⟨v',rfl,a⟩:=c.one
 exact⟨v,v',rfl,b,a⟩
def nA (Y:Ge) (E:XK) (b:M.Bi):List V->Hp->VK->Prop:=λxs H Q=> ∃G h a,ag Y G h H/\bh Y G H a xs/\az Y E G H (M.dG b a h) Q
def lX {K:Aa9}(h:br K H a vs\/cJ K H a vs):br K H a vs\/cJ K H a vs:=h
noncomputable def lR:M.Bi->Bool
 | .len=>u0 | .int=>u0 | .list=>u0 | .tuple=>u0 | .divmod=>u0 | .sum=>u0 | .all=>u0 | .any=>u0 | .sorted=>u0
 | _=>k9
noncomputable def rD:M.Bi->Value
 | .len=> .builtin "len" | .int=> .type "int" | .list=> .type "list" | .tuple=> .type "tuple" | .sum=> .builtin "sum" | .all=> .builtin "all" | .any=> .builtin "any"
 | .sorted=> .builtin "sorted" | .divmod=> .builtin "divmod" | .str=> .type "str" | .min=> .builtin "min" | .max=> .builtin "max" | .abs=> .builtin "abs"
def az.of2 {f:α->β->M.AH->M.R M.W}(p:az Y E G H ((M.R.of h o).bind λa h=>(M.R.of h o').bind λb h=>f a b h) Q): ∃a b,o=k0 a/\o'=k0 b/\az Y E G H (f a b h) Q:=by
 obtain⟨a,e,p⟩:=p.of
 obtain⟨b,c,p⟩:=p.of
 exact⟨a,b,e,c,p⟩
theorem J8 : ∀ {xs}{vs}{bs},M.Kl xs=k0 bs->ab Y G H xs vs->vs=bs.map V.bl
 | [],_,_,e,z=>by cases e;exact z
 | x::xs,_,bs,e,⟨v,r,c,d,a⟩=>by
  subst c
  cases x with
  | bl b=>
   obtain⟨f,e1,rfl⟩:=Ag2.mp (e)
   cases (d)
   rw [J8 e1 a];rfl
  | _=>cases e
theorem sH : ∀ {xs}{vs}{n},M.Kj xs=k0 n->ab Y G H xs vs-> ∃ns:List Int,vs=ns.map V.int/\n=gi ns
 | [],_,_,e,z=>by cases e;exact⟨[],z,rfl⟩
 | x::xs,_,n,e,⟨v,r,d,f,c⟩=>by
  subst d
  cases x with
  | int i=>
   have e:=e
   obtain⟨k,e1,rfl⟩:=Ag2.mp e
   obtain⟨ns,b,a⟩:=sH e1 c
   cases (f)
   exact⟨i::ns,by rw [b];rfl,by rw [a];rfl⟩
  | _=>cases e
theorem zJ : ∀ {xs}{vs}{ns},M.GM xs=k0 ns->ab Y G H xs vs->vs=ns.map V.int
 | [],_,_,e,z=>by cases e;exact z
 | x::xs,_,ns,e,⟨v,r,c,d,a⟩=>by
  subst c
  cases x with
  | int b=>
   obtain⟨f,e1,rfl⟩:=Ag2.mp (e)
   cases (d)
   rw [zJ e1 a];rfl
  | _=>cases e
theorem JQ : ∀ {xs}{vs}{ns},M.GQ xs=k0 ns->ab Y G H xs vs->vs=(ns.map aD).map V.str
 | [],_,_,e,z=>by cases e;exact z
 | x::xs,_,ns,e,⟨v,r,c,d,a⟩=>by
  subst c
  cases x with
  | str b=>
   obtain⟨f,e1,rfl⟩:=Ag2.mp (e)
   cases (show v= .str (aD b)from d)
   rw [JQ e1 a];rfl
  | _=>cases e
theorem qU : ∀(a:List M.Tx),ab Y G H (a.map .str) ((a.map aD).map V.str)
 | []=>rfl
 | t::a=>⟨_,_,rfl,rfl,qU a⟩
theorem tP (x): ∀ {ys},ys.Pairwise (λa b=> ¬b<a)->(M.Kf x ys).Pairwise (λa b=> ¬b<a)
 | [],_=>List.pairwise_singleton _ _
 | y::ys,h=>by
  have e:=Ak1.mp h
  unfold M.Kf
  split
  ·rename_i q
   refine Ak1.mpr ⟨λz d=> ?_,tP x e.2⟩
   have:z=x\/z∈ys:=by
    have g: ∀ {x}{ys},z∈M.Kf x ys->z=x\/z∈ys:=by
     intro x ys
     induction ys with
     | nil=>intro h;simp [M.Kf]at h;exact .inl h
     | cons y ys f=>
      intro h
      unfold M.Kf at h
      split at h
      ·rcases Ac.mp h with h | h
       ·exact .inr (h▸Aa4)
       ·exact(f h).imp id (Aa2 _)
      ·rcases Ac.mp h with h | h
       ·exact .inl h
       ·exact .inr h
    exact g d
   rcases this with rfl | d
   ·exact λc=>List.lt_irrefl _ (List.lt_trans c q)
   ·exact e.1 z d
  ·rename_i q
   refine Ak1.mpr ⟨λz d=> ?_,h⟩
   rcases Ac.mp d with rfl | d
   ·exact q
   ·exact List.le_trans q (e.1 z d)
theorem sm: ∀xs:List M.Tx,(M.GB xs).Pairwise (λa b=> ¬b<a)
 | []=> .nil
 | x::xs=>tP x (sm xs)
theorem Zr (x): ∀ys:List M.Tx,(M.Kf x ys).Perm (x::ys)
 | []=> .refl _
 | y::ys=>by
  unfold M.Kf
  by_cases q:y<x
  ·rw [if_pos q]
   exact((Zr x ys).cons y).trans (.swap x y ys)
  ·rw [if_neg q]
theorem Jj: ∀xs:List M.Tx,(M.GB xs).Perm xs
 | []=> .refl _
 | x::xs=>(Zr x (M.GB xs)).trans ((Jj xs).cons x)
theorem pJ: ∀ {l}{p},risingS p l=u0->(p::l).Pairwise (λa b=> ¬b.cps.toList<a.cps.toList)
 | [],p,_=>List.pairwise_singleton _ _
 | x::r,p,h=>by
  have h:(!ltCps x.cps.toList p.cps.toList&&risingS x r)=true:=h
  rw [Aa0,ltCps_eq]at h
  have d:=by simpa using h.1
  have e:=pJ h.2
  refine Ak1.mpr ⟨λz c=> ?_,e⟩
  rcases Ac.mp c with rfl | c
  ·exact d
  ·exact List.le_trans d ((Ak1.mp e).1 z c)
def IZ (s):aD s.cps.toList=s:=by cases s;simp [aD]
def Du (c:ss.Perm (ts.map aD)) (d:sortedS ss=u0):ss=(M.GB ts).map aD:=by
 have f:=by
  have:=c.map (λs=>s.cps.toList)
  rw [Ad6]at this
  have e:((λs:Str=>s.cps.toList)∘aD)=id:=by funext t;simp [aD]
  rw [e,List.map_id]at this
  exact this
 have g:(ss.map λs=>s.cps.toList).Pairwise (λa b=> ¬b<a):=by
  rw [List.pairwise_map]
  cases ss with
  | nil=>exact .nil
  | cons p l=>exact pJ d
 have h:=List.Perm.eq_of_pairwise (λa b _ _ x y=>List.le_antisymm x y) g (sm ts) (f.trans (Jj ts).symm)
 rw [← h,Ad6]
 have e:(aD∘λs:Str=>s.cps.toList)=id:=by funext t;exact IZ t
 rw [e,List.map_id]
def yr (b:M.Bi) (B:lR b=u0) (A:X.K=Y.K) (J:X.calm=u0):zu X (rD b) (nA Y E b):=by
 intro f s U H xs x Q I r ⟨G,h,ws,g,D,p⟩
 have W:=Qj
 unfold M.dG at p
 split at p
 ·rename_i w
  obtain⟨v,rfl,z⟩:=D.one
  cases b with
  | len=>
   simp only [M.gz]at p
   split at p
   ·rename_i y e
    cases z.str e
    split at p
    ·exact XZ f s U H _ x Q I r ⟨_,rfl,by rw [ze];omega,by rw [ze];exact p.v g rfl⟩
    ·exact p.elim
   ·obtain⟨C,e,p⟩:=p.of
    obtain⟨a,t,rfl,m,o⟩:=z.seq g e
    refine x3 f s U H _ x Q I r ⟨a,t,rfl,A▸lX m,?_⟩
    rw [← o.length]
    exact p.v g rfl
  | int=>
   simp only [M.gz]at p
   split at p
   ·cases (show v= .int _ from z)
    exact jY f s U H _ x Q I r (.inl ⟨_,rfl,p.v g rfl⟩)
   ·rename_i k
    cases (show v= .bl _ from z)
    refine jY f s U H _ x Q I r (.inr ⟨_,rfl,?_⟩)
    have:=p.v g (v:= .int (k.toNat:Int)) rfl
    cases k<;>exact this
   ·exact p.elim
  | list=>
   simp only [M.gz]at p
   obtain⟨C,e,p⟩:=p.of
   obtain⟨a,t,rfl,m,o⟩:=z.seq g e
   exact qY f s U H _ x Q I r ⟨a,t,rfl,A▸lX m,λl u=>p.own g o l u⟩
  | tuple=>
   simp only [M.gz]at p
   obtain⟨C,e,F⟩:=p.of
   clear p
   cases w with
   | v d=>
    cases d with
    | tup K=>
     cases e
     obtain⟨a,t,rfl,m,o⟩:=z
     exact Xg f s U H _ x Q I r ⟨a,t,rfl,.inr ⟨A▸m.sq,F.v g ⟨a,t,rfl,m,o⟩⟩⟩
    | lst K=>
     obtain⟨a,t,rfl,m,o⟩:=ai.lst g z e
     exact Xg f s U H _ x Q I r ⟨a,t,rfl,.inl ⟨A▸m,λl u=>F.tup g o l u⟩⟩
    | ref q=>
     obtain⟨a,t,rfl,m,o⟩:=ai.lst g z e
     exact Xg f s U H _ x Q I r ⟨a,t,rfl,.inl ⟨A▸m,λl u=>F.tup g o l u⟩⟩
    | aj=>cases e
    | bl _=>cases e
    | int _=>cases e
    | str _=>cases e
   | own K=>
    obtain⟨a,t,rfl,m,o⟩:=ai.lst g z e
    exact Xg f s U H _ x Q I r ⟨a,t,rfl,.inl ⟨A▸m,λl u=>F.tup g o l u⟩⟩
   | bor K=>
    obtain⟨a,t,rfl,m,o⟩:=ai.lst g z e
    exact Xg f s U H _ x Q I r ⟨a,t,rfl,.inl ⟨A▸m,λl u=>F.tup g o l u⟩⟩
  | divmod=>exact p.elim
  | min=>cases B
  | max=>cases B
  | sum=>
   simp only [M.gz]at p
   obtain⟨n,e,p⟩:=p.of
   obtain⟨C,e1,e2⟩:=Ag7.mp e
   split at e2
   rotate_left
   ·cases e2
   obtain⟨a,t,rfl,m,o⟩:=ai.lst g z e1
   obtain⟨S,rfl,rfl⟩:=sH e2 o
   exact IK J f s U H _ x Q I r ⟨a,S,rfl,A▸m,p.v g rfl⟩
  | all=>
   simp only [M.gz]at p
   obtain⟨bs,e,p⟩:=p.of
   obtain⟨C,e1,e2⟩:=Ag7.mp e
   obtain⟨a,t,rfl,m,o⟩:=ai.lst g z e1
   cases J8 e2 o
   exact CZ J f s U H _ x Q I r ⟨a,bs,rfl,A▸m,p.v g rfl⟩
  | any=>
   simp only [M.gz]at p
   obtain⟨bs,e,p⟩:=p.of
   obtain⟨C,e1,e2⟩:=Ag7.mp e
   obtain⟨a,t,rfl,m,o⟩:=ai.lst g z e1
   cases J8 e2 o
   exact II J f s U H _ x Q I r ⟨a,bs,rfl,A▸m,p.v g rfl⟩
  | sorted=>
   simp only [M.gz]at p
   obtain⟨O,e,p⟩:=p.of
   obtain⟨C,e1,e2⟩:=Ag7.mp e
   obtain⟨a,t,rfl,m,o⟩:=ai.lst g z e1
   cases JQ e2 o
   split at p
   ·rename_i u
    refine XW f s U H _ x Q I r ⟨a,O.map aD,rfl,A▸m,by rw [Aa];exact u,λP L T l u=> ?_⟩
    rw [Du L T]
    exact p.own g (qU _) l u
   ·exact p.elim
  | str=>cases B
  | abs=>cases B
 ·rename_i w Z
  obtain⟨v,V,rfl,z,N⟩:=D.two
  obtain⟨i,j,e,R,p⟩:=p.of2
  cases z.int e
  cases N.int R
  cases b with
  | divmod=>
   simp only [M.pL,M.GS]at p
   split at p
   ·rename_i c
    exact j8 f s U H _ x Q I r ⟨i,j,rfl,c,λl u=>p.tup g (vs:= [.int (i / j),.int (i % j)]) ⟨_,_,rfl,rfl,_,_,rfl,rfl,rfl⟩ l u⟩
   ·exact p.elim
  | min=>cases B
  | max=>cases B
  | len=>exact p.elim
  | int=>exact p.elim
  | list=>exact p.elim
  | tuple=>exact p.elim
  | sum=>exact p.elim
  | all=>exact p.elim
  | any=>exact p.elim
  | sorted=>exact p.elim
  | str=>cases B
  | abs=>cases B
 ·exact p.elim
noncomputable def c6:M.Ty->String
 | .aj=> "NoneType" | .bool=> "bool" | .int=> "int" | .str=> "str" | .list=> "list" | .tuple=> "tuple"
def xx (K): ∀ u t,t≠ .aj->PySem.W.kitOne K (.type (c6 u)) (.type (c6 t))=k0 (M.Ty.le u t):=by
 intro u t a
 cases u<;>cases t<;>first | exact absurd rfl a | kernel_rfl
def Ls (Y:Ge):List V->Hp->VK->Prop:=λxs H Q=> ∃G h w x t b,xs= [x,.ty (c6 t)]/\t≠ .aj/\ag Y G h H/\ai Y G H w x/\M.b7 t w=k0 b/\Q (.bl b) H
def IU (E:X.K=Y.K):zu X (.builtin "isinstance") (Ls Y):=by
 intro k s U H T R Q I r ⟨G,h,w,x,t,b,N,j,O,z,e,q⟩
 subst N
 obtain⟨u,S,rfl,g,K⟩:=rj r
 cases K
 have fin: ∀B,EP X k U Q (.bool b) { s with toks:=B }:=λB=>⟨.bl b,H,I.tok B,rfl,q⟩
 have lst: ∀ {a:Addr}{l:List V},x= .ref a->Rd H a (.lst l)->M.Ty.le .list t=b->wpAny (model X.prog X.w) X.A (call (.builtin "isinstance") [u,.type (c6 t)]) (EP X k U Q) X.xe s:=by
  intro a l ex rd J
  subst ex J
  rcases rd with rd | ⟨o,rd⟩
  ·exact Zk I g (.lst rd) (xx _ .list t j) fin
  ·exact Zk I g (.ea rd) (xx _ .list t j) fin
 unfold M.b7 at e
 cases w with
 | v d=>
  cases d with
  | aj=>cases e;cases (show x= .aj from z);exact Zk I g .aj (xx _ .aj t j) fin
  | bl c=>cases e;cases (show x= .bl c from z);exact Zk I g (.bl c) (xx _ .bool t j) fin
  | int i=>cases e;cases (show x= .int i from z);exact Zk I g (.int i) (xx _ .int t j) fin
  | str y=>cases e;cases (show x= .str _ from z);exact Zk I g (.str _) (xx _ .str t j) fin
  | tup A=>
   cases e
   obtain⟨a,l,rfl,f,L⟩:=z
   rcases f with⟨_,f⟩ | ⟨o,D,n,p,C,F,_⟩
   ·exact Zk I g (.tup f) (xx _ .tuple t j) fin
   ·cases g
    exact Af0 PySem.W.kitx_tuple I.cn ⟨o,I.cn a o (E▸p),C⟩ (xx _ .tuple t j) (λz=>nomatch z) fin
  | lst A=>
   cases e
   obtain⟨a,l,m,f,L⟩:=z
   rcases f with f | ⟨o,D,n,p,C,F,_⟩
   ·exact lst m f.2 rfl
   ·subst m
    cases g
    exact Af0 Ao2 I.cn ⟨o,I.cn a o (E▸p),C⟩ (xx _ .list t j) (λz=>nomatch z) fin
  | ref P=>cases e
 | own A=>cases e;obtain⟨a,l,m,_,_,f,_⟩:=z;exact lst m (.inl f) rfl
 | bor A=>cases e;obtain⟨a,l,m,_,f,_⟩:=z;exact lst m f rfl
def mq (m:X.K=Y.K) (o:ag Y G h H){w:M.W}{x:V}{b:Bool}(z:ai Y G H w x) (e:M.GZ h w=k0 b):iE X.K x H b:=by
 have lst: ∀ {a:Addr}{f:List V}{g:List M.D},x= .ref a->br X.K H a f->ab Y G H g f->(!g.isEmpty)=b->iE X.K x H b:=by
  intro a f g ex rd k n
  subst ex n
  refine .inl ⟨f,rd,?_⟩
  cases g with
  | nil=>cases (show f= []from k);rfl
  | cons _ _=>obtain⟨_,_,rfl,_⟩:=k;rfl
 cases w with
 | v d=>
  cases d with
  | aj=>cases e;cases (show x= .aj from z);exact rfl
  | bl _=>cases e;cases (show x= .bl _ from z);exact rfl
  | int _=>cases e;cases (show x= .int _ from z);exact rfl
  | str y=>
   cases (show x= .str _ from z)
   have e:(if y.length<=M.bg then k0 (!y.isEmpty)else y0)=k0 b:=e
   split at e
   ·rename_i c
    cases e
    refine⟨by rw [ze];have:=Qj;omega,?_⟩
    rw [ze]
    cases y with
    | nil=>rfl
    | cons a r=>
     have:((((a::r).length:Nat):Int) != 0)=true:=by
      rw [Aa7,bne_iff_ne];omega
     rw [this];rfl
   ·cases e
  | tup g=>
   cases e
   obtain⟨a,f,rfl,i,k⟩:=z
   refine .inr (.inl ⟨f,m▸i.sq,?_⟩)
   cases g with
   | nil=>cases (show f= []from k);rfl
   | cons _ _=>obtain⟨_,_,rfl,_⟩:=k;rfl
  | lst g=>cases e;obtain⟨a,f,l,i,j⟩:=z;exact lst l (m▸i.sq) j rfl
  | ref p=>cases e
 | own g=>cases e;obtain⟨a,f,l,_,_,i,j⟩:=z;exact lst l (br.of i) j rfl
 | bor g=>cases e;obtain⟨a,f,l,_,i,j⟩:=z;exact lst l (.inl i) j rfl
end
abbrev Xf (x:String):Str:=Str.ofString x
example:("len" :Str)=Xf "len" :=rfl
structure fZ where
 fl:List (String×String)
 mt:List (String×String×String)
 eU:List (String×String)
 ms:List String
 er:List (String×String)
structure Cf where
 sc:Scope
 N:List Str
 fns:List String
 own:List String
 dN:List String
 dY:List String
 ob:fZ
noncomputable def zV (a:Scope) (x:Str):Bool:=match a.names.lookup x with
 | some .local=>u0
 | some .cell=>u0
 | some .free=>u0
 | _=>k9
def kU (a:Scope) (x:Str):Bool:=match a.names.lookup x with
 | some .globalImplicit=>u0
 | _=>k9
def iQ (a:Scope) (x:Str):Bool:=match a.names.lookup x with
 | some .local=>u0
 | some .cell=>u0
 | _=>k9
def bf (x:Str):Bool:= !(x==("__debug__" :Str))&& !(x==("__classdict__" :Str))
noncomputable def mO:M.Bi->String
 | .len=> "len" | .int=> "int" | .list=> "list" | .tuple=> "tuple" | .sum=> "sum" | .all=> "all" | .any=> "any" | .sorted=> "sorted" | .divmod=> "divmod" | .str=> "str" | .min=> "min" | .max=> "max" | .abs=> "abs"
noncomputable def cD:List String:= ["len", "int", "list", "tuple", "sum", "all", "any", "sorted", "divmod", "str", "min", "max", "abs", "isinstance", "bool", "range", "reversed", "zip", "enumerate", "set", "dict", "ValueError"]
def nU:Expr->Str->Bool
 | .Name y _,x=>y==x
 | _,_=>k9
def cG (a:Scope) (x:String) (e:Expr):Bool:=nU e (Xf x)&&kU a (Xf x)&&bf (Xf x)
def p9:M.Mt->String
 | .index=> "index" | .count=> "count" | .b3=> "index"
def uk:M.Mt->Bool
 | .index=>u0 | .count=>u0 | .b3=>u0
def xS:Expr->Bool
 | .Call _ [] _ _=>k9
 | _=>u0
noncomputable def qu (a:Cf):List Nat->List Expr->Bool
 | [],[]=>u0
 | i::is,.Name x _::es=>y9 (a.N[i]? =k0 x)&&iQ a.sc x&&qu a is es
 | _,_=>k9
def jf (a:Cf) (tg:List Nat) (one:Bool) (e:Expr):Bool:=match one,e with
 | true,.Name x p=>(match tg with | [_]=>u0 | _=>k9)&&qu a tg [.Name x p]
 | false,.Tuple es _ _=>qu a tg es
 | _,_=>k9
def Xb:Expr->Bool
 | .Starred .. =>k9
 | _=>u0
def Xc:Expr->Bool
 | .Slice .. =>k9
 | _=>u0
def qh:Expr->Bool
 | .Set .. =>k9
 | _=>u0
noncomputable def QJ (a:Cf):List Nat->List Str->Bool
 | [],[]=>u0
 | j::b,x::xs=>y9 (a.N[j]? =k0 x)&&y9 (a.sc.names.lookup x=k0 .cell\/a.sc.names.lookup x=k0 .free)&&QJ a b xs
 | _,_=>k9
def oq (b:Cf) (a:Scope) (N:List Str) (k:Nat) (aB:List Nat):Bool:=
 y9 (a.kind= .function)&&y9 (a.names.map Prod.fst).Nodup&&a.names.all (λy=>y9 (y.2= .local->a.names.lookup y.1=k0 .local))&&
 a.names.all (λy=>y9 (y.2= .free->b.sc.names.lookup y.1=k0 .cell\/b.sc.names.lookup y.1=k0 .free))&&(N.drop k).all (λx=>y9 (a.names.lookup x=k0 .free))&&
 QJ b aB (N.drop k)&&y9 (k<=N.length)&&decide N.Nodup&&decide aB.Nodup
def EO:Expr->List Str
 | .Name x _=> [x]
 | .Tuple es _ _=>es.filterMap λ| .Name x _=>k0 x | _=>y0
 | _=> []
def Wy (a:Cf) (t:Expr) (aB:List Nat):List Str:=EO t++aB.filterMap λj=>a.N[j]?
def fN:M.E->Bool
 | .share _=>k9
 | .not a=>fN a
 | .and a b=>fN a&&fN b
 | .or a b=>fN a&&fN b
 | _=>u0
def mK (neg:Bool):CmpOp:=if neg then .NotIn else .In
def cq {P:Prop}(h:k9=u0):P:=nomatch h
set_option backward.match.sparseCases false
def lC {a:Type}(l:List a) (f:a->List a->Bool):Bool:=match l with
 | x::r=>f x r
 | _=>k9
def oS {a:Type}(l:Option a) (f:a->Bool):Bool:=match l with
 | some x=>f x
 | _=>k9
@[elab_as_elim] theorem kC {P:List α->Prop}(k: ∀x r,f x r=u0->P (x::r)): ∀l,lC l f=u0->P l:=by rintro (_|_)<;>first | exact cq | exact k _ _
@[elab_as_elim] theorem kS {P:Option α->Prop}(k: ∀x,f x=u0->P (k0 x)): ∀l,oS l f=u0->P l:=by rintro (_|_)<;>first | exact cq | exact k _
def jx (e:Expr) (f:Str->Bool):Bool:=match e with
 | .Name x _=>f x
 | _=>k9
@[elab_as_elim] theorem zy {P:Expr->Prop}(k: ∀x p,f x=u0->P (.Name x p)): ∀e,jx e f=u0->P e:=by rintro (_|_)<;>first | exact cq | exact k _ _
def qA (e:Expr) (f:Const->Bool):Bool:=match e with
 | .Constant x _ _=>f x
 | _=>k9
@[elab_as_elim] theorem wE {P:Expr->Prop}(k: ∀x n p,f x=u0->P (.Constant x n p)): ∀e,qA e f=u0->P e:=by rintro (_|_)<;>first | exact cq | exact k _ _ _
def lH (e:Expr) (f:List Expr->Bool):Bool:=match e with
 | .Tuple x _ _=>f x
 | _=>k9
@[elab_as_elim] theorem n0 {P:Expr->Prop}(k: ∀x n p,f x=u0->P (.Tuple x n p)): ∀e,lH e f=u0->P e:=by rintro (_|_)<;>first | exact cq | exact k _ _ _
def sZ (e:Expr) (f:List Expr->Bool):Bool:=match e with
 | .List x _=>f x
 | _=>k9
@[elab_as_elim] theorem EN {P:Expr->Prop}(k: ∀x p,f x=u0->P (.List x p)): ∀e,sZ e f=u0->P e:=by rintro (_|_)<;>first | exact cq | exact k _ _
def u7 (e:Expr) (f:Expr->Operator->Expr->Bool):Bool:=match e with
 | .BinOp x o y _=>f x o y
 | _=>k9
@[elab_as_elim] theorem KQ {P:Expr->Prop}(k: ∀x o y p,f x o y=u0->P (.BinOp x o y p)): ∀e,u7 e f=u0->P e:=by rintro (_|_)<;>first | exact cq | exact k _ _ _ _
def ll (e:Expr) (f:Expr->List CmpOp->List Expr->Bool):Bool:=match e with
 | .Compare x o y _=>f x o y
 | _=>k9
@[elab_as_elim] theorem lG {P:Expr->Prop}(k: ∀x o y p,f x o y=u0->P (.Compare x o y p)): ∀e,ll e f=u0->P e:=by rintro (_|_)<;>first | exact cq | exact k _ _ _ _
def lT (e:Expr) (f:UnaryOp->Expr->Bool):Bool:=match e with
 | .UnaryOp o x _=>f o x
 | _=>k9
@[elab_as_elim] theorem m6 {P:Expr->Prop}(k: ∀o x p,f o x=u0->P (.UnaryOp o x p)): ∀e,lT e f=u0->P e:=by rintro (_|_)<;>first | exact cq | exact k _ _ _
def oZ (e:Expr) (f:BoolOp->List Expr->Pos->Bool):Bool:=match e with
 | .BoolOp o x p=>f o x p
 | _=>k9
@[elab_as_elim] theorem tx {P:Expr->Prop}(k: ∀o x p,f o x p=u0->P (.BoolOp o x p)): ∀e,oZ e f=u0->P e:=by rintro (_|_)<;>first | exact cq | exact k _ _ _
def jp (e:Expr) (f:Expr->List Expr->List Keyword->Pos->Bool):Bool:=match e with
 | .Call g x l p=>f g x l p
 | _=>k9
@[elab_as_elim] theorem xp {P:Expr->Prop}(k: ∀g x l p,f g x l p=u0->P (.Call g x l p)): ∀e,jp e f=u0->P e:=by rintro (_|_)<;>first | exact cq | exact k _ _ _ _
def fK (e:Expr) (f:Expr->Expr->Bool):Bool:=match e with
 | .Subscript x y _=>f x y
 | _=>k9
@[elab_as_elim] theorem gb {P:Expr->Prop}(k: ∀x y p,f x y=u0->P (.Subscript x y p)): ∀e,fK e f=u0->P e:=by rintro (_|_)<;>first | exact cq | exact k _ _ _
def lK (e:Expr) (f:Option Expr->Option Expr->Option Expr->Bool):Bool:=match e with
 | .Slice x y z _=>f x y z
 | _=>k9
@[elab_as_elim] theorem nR {P:Expr->Prop}(k: ∀x y z p,f x y z=u0->P (.Slice x y z p)): ∀e,lK e f=u0->P e:=by rintro (_|_)<;>first | exact cq | exact k _ _ _ _
def sJ (e:Expr) (f:Expr->List Comprehension->Scope->Bool):Bool:=match e with
 | .ListComp y g s _=>f y g s
 | _=>k9
@[elab_as_elim] theorem ub {P:Expr->Prop}(k: ∀y g s p,f y g s=u0->P (.ListComp y g s p)): ∀e,sJ e f=u0->P e:=by rintro (_|_)<;>first | exact cq | exact k _ _ _ _
def qR (e:Expr) (f:Expr->Str->Pos->Bool):Bool:=match e with
 | .Attribute x n p=>f x n p
 | _=>k9
@[elab_as_elim] theorem xV {P:Expr->Prop}(k: ∀x n p,f x n p=u0->P (.Attribute x n p)): ∀e,qR e f=u0->P e:=by rintro (_|_)<;>first | exact cq | exact k _ _ _
def pb (e:Expr) (f:List (Option Expr)->List Expr->Bool):Bool:=match e with
 | .Dict x y _=>f x y
 | _=>k9
@[elab_as_elim] theorem uC {P:Expr->Prop}(k: ∀x y p,f x y=u0->P (.Dict x y p)): ∀e,pb e f=u0->P e:=by rintro (_|_)<;>first | exact cq | exact k _ _ _
def fW (e:Stmt) (f:List Expr->Expr->Bool):Bool:=match e with
 | .Assign t v _=>f t v
 | _=>k9
@[elab_as_elim] theorem gx {P:Stmt->Prop}(k: ∀t v p,f t v=u0->P (.Assign t v p)): ∀e,fW e f=u0->P e:=by rintro (_|_)<;>first | exact cq | exact k _ _ _
def l3 (e:Stmt) (f:Expr->Bool):Bool:=match e with
 | .Expr v _=>f v
 | _=>k9
@[elab_as_elim] theorem nC {P:Stmt->Prop}(k: ∀v p,f v=u0->P (.Expr v p)): ∀e,l3 e f=u0->P e:=by rintro (_|_)<;>first | exact cq | exact k _ _
def pM (e:Stmt) (f:Option Expr->Bool):Bool:=match e with
 | .Return v _=>f v
 | _=>k9
@[elab_as_elim] theorem DV {P:Stmt->Prop}(k: ∀v p,f v=u0->P (.Return v p)): ∀e,pM e f=u0->P e:=by rintro (_|_)<;>first | exact cq | exact k _ _
def pI (e:Stmt) (f:Expr->List Stmt->List Stmt->Bool):Bool:=match e with
 | .If x y z _=>f x y z
 | _=>k9
@[elab_as_elim] theorem A5 {P:Stmt->Prop}(k: ∀x y z p,f x y z=u0->P (.If x y z p)): ∀e,pI e f=u0->P e:=by rintro (_|_)<;>first | exact cq | exact k _ _ _ _
def vH (e:Stmt) (f:Expr->List Stmt->List Stmt->Bool):Bool:=match e with
 | .While x y z _=>f x y z
 | _=>k9
@[elab_as_elim] theorem EV {P:Stmt->Prop}(k: ∀x y z p,f x y z=u0->P (.While x y z p)): ∀e,vH e f=u0->P e:=by rintro (_|_)<;>first | exact cq | exact k _ _ _ _
def vt (e:Stmt) (f:Expr->Expr->List Stmt->List Stmt->Bool):Bool:=match e with
 | .For t i y z _=>f t i y z
 | _=>k9
@[elab_as_elim] theorem EL {P:Stmt->Prop}(k: ∀t i y z p,f t i y z=u0->P (.For t i y z p)): ∀e,vt e f=u0->P e:=by rintro (_|_)<;>first | exact cq | exact k _ _ _ _ _
set_option backward.match.sparseCases true
def vB (a:Cf) (i:Nat) (x:Str):Bool:=y9 (a.N[i]? =k0 x)&&zV a.sc x&&bf x
def kZ {a:Type}(l:List a) (b:Bool):Bool:=l.isEmpty&&b
def iL (t:M.Tx) (e:Option Expr):Bool:=oS e λe=>qA e λc=>y9 (c= .str (aD t))
def n7 (h:iL t e=u0): ∃j p,e=k0 (.Constant (.str (aD t)) j p):=by
 refine kS (λe h=> ?_) e h
 refine wE (λc n p h=> ?_) e h
 cases of_decide_eq_true h
 exact⟨_,_,rfl⟩
mutual
noncomputable def xc (cf:Cf):M.E->Expr->Bool
 | .var i,e=>jx e (vB cf i)
 | .con c,e=>cG cf.sc c e
 | .int i,e=>qA e λj=>y9 (j= .int i)
 | .bl i,e=>qA e λj=>y9 (j= .bool i)
 | .aj,e=>qA e λj=>y9 (j= .none)
 | .str i,e=>qA e λj=>y9 (j= .str (aD i))
 | .tup es,e=>lH e λxs=>y9 (xs.length<=1000)&&bW cf es xs
 | .lst es,e=>sZ e λxs=>y9 (xs.length<=1000)&&bW cf es xs
 | .bin o a b,e=>u7 e λx p y=>y9 (p=ml o)&&lI o&&xc cf a x&&xc cf b y
 | .cmp o a b,e=>ll e λx p y=>lC y λy r=>y9 (p= [fb o]/\r= [])&&qM o&&qh y&&xc cf a x&&xc cf b y
 | .chain o q a b c,e=>ll e λx p y=>lC y λy r=>lC r λz r=>y9 (p= [fb o,fb q]/\r= [])&&qM o&&qM q&&qh z&&xc cf a x&&xc cf b y&&xc cf c z
 | .eY neg a,e=>ll e λx p y=>lC y λy r=>qA y λj=>y9 (p= [if neg then .IsNot else .Is]/\r= [])&&y9 (j= .none)&&xc cf a x
 | .neg a,e=>lT e λo x=>y9 (o= .USub)&&xc cf a x
 | .inv a,e=>lT e λo x=>y9 (o= .Invert)&&xc cf a x
 | .not a,e=>lT e λo x=>y9 (o= .Not)&&xc cf a x
 | .and a b,e=>oZ e λo x p=>lC x λx r=>lC r λy r=>y9 (o= .And)&&xc cf a x&&bif r.isEmpty then xc cf b y else xc cf b (.BoolOp .And (y::r) p)
 | .or a b,e=>oZ e λo x p=>lC x λx r=>lC r λy r=>y9 (o= .Or)&&xc cf a x&&bif r.isEmpty then xc cf b y else xc cf b (.BoolOp .Or (y::r) p)
 | .call f es,e=>jp e λg xs l _=>kZ l (cG cf.sc f g&&cf.fns.contains f&&bW cf es xs)
 | .bi b es,e=>jp e λg xs l _=>kZ l (lC xs λx r=>cG cf.sc (mO b) g&&lR b&&bW cf es (x::r))
 | .b7 a t,e=>jp e λg xs l _=>kZ l (lC xs λx r=>lC r λy r=>kZ r (cG cf.sc "isinstance" g&&cG cf.sc (c6 t) y&&decide (t≠ .aj)&&Xb x&&xc cf a x))
 | .ix a b,e=>fK e λx y=>Xc y&&xc cf a x&&xc cf b y
 | .sl a lo hi,e=>fK e λx y=>lK y λl u z=>oS l λl=>oS u λu=>z.isNone&&xc cf a x&&xc cf lo l&&xc cf hi u
 | .fu a lo,e=>fK e λx y=>lK y λl u z=>oS l λl=>u.isNone&&z.isNone&&xc cf a x&&xc cf lo l
 | .fU a hi,e=>fK e λx y=>lK y λl u z=>oS u λu=>l.isNone&&z.isNone&&xc cf a x&&xc cf hi u
 | .comp tg one k aB it y7 c elt,e=>sJ e λy g scope=>lC g λg r=>
  y9 (g.is_async=0/\r= [])&&oq cf scope (Wy cf g.target aB) k aB&&tg.all (λi=>y9 (i<k))&&jf { cf with sc:=scope,N:=Wy cf g.target aB } tg one g.target&&dU cf it g.iter&&xc { cf with sc:=scope,N:=Wy cf g.target aB } elt y&&
   bif y7 then(lC g.ifs λz r=>kZ r (fN c&&xc { cf with sc:=scope,N:=Wy cf g.target aB } c z))else g.ifs.isEmpty
 | .c5,e=>pb e λx y=>x.isEmpty&&y.isEmpty
 | .eD i a,e=>fK e λg y=>jx g λx=>vB cf i x&&Xc y&&xc cf a y
 | .cT neg a i,e=>ll e λx p y=>lC y λy r=>jx y λy=>y9 (p= [mK neg]/\r= [])&&vB cf i y&&xc cf a x
 | .fD k1 a k2 b k3 c i,e=>fK e λd y=>pb d λks vs=>jx y λx=>lC ks λq1 ks=>lC ks λq2 ks=>lC ks λq3 ks=>kZ ks (lC vs λv1 vs=>lC vs λv2 vs=>lC vs λv3 vs=>kZ vs ((vB cf i x&&iL k1 q1&&iL k2 q2&&iL k3 q3)&&(decide [k1,k2,k3].Nodup&&xc cf a v1&&xc cf b v2&&xc cf c v3)))
 | .ej i,e=>jp e λg xs l _=>kZ l (lC xs λx r=>kZ r (cG cf.sc "dict" g&&jx x (vB cf i)))
 | .share a,e=>xc cf a e
 | .b0 a,e=>jp e λg xs l _=>kZ l (lC xs λx r=>kZ r (jp x λg2 xs l _=>kZ l (lC xs λx r=>kZ r (cG cf.sc "list" g&&cG cf.sc "range" g2&&Xb x&&xc cf a x))))
 | .dD s ts,e=>jp e λg xs l q=>kZ l (lC xs λx r=>kZ r (qR g λo n p=>qA o λc=>qA x λc2=>decide (n=Xf "split")&&decide (c= .str (aD s))&&decide (c2= .str bP)&&(p.endLine==q.line)&&me (aD s) (ts.map aD)))
 | .dz m a es,e=>jp e λg xs l q=>kZ l (lC xs λx r=>kZ r (qR g λo n p=>y9 (n=Xf (p9 m))&&uk m&&(p.endLine==q.line)&&xS o&&xc cf a o&&bW cf es [x]))
 | .make c q es,e=>jp e λg ys l _=>kZ l (lC ys λx r=>cG cf.sc c g&&cf.ob.eU.contains (c,q)&&bW cf es (x::r))
 | .aJ a c f,e=>qR e λx n _=>y9 (n=Xf f)&&cf.ob.fl.contains (c,f)&&xS x&&xc cf a x
 | .bO a c m q es,e=>jp e λg ys l s=>kZ l (qR g λx n p=>y9 (n=Xf m)&&cf.ob.mt.contains (c,m,q)&&(p.endLine==s.line)&&y9 (ys.length<=20)&&xS x&&xc cf a x&&lC ys λy r=>bW cf es (y::r))
 | .eP a,e=>jp e λg ys l s=>kZ l (kZ ys (qR g λx n p=>y9 (n=Xf "bit_length")&&(p.endLine==s.line)&&xS x&&xc cf a x))
 | .eZ f a,e=>jp e λg ys l _=>lC ys λx r=>kZ r (lC l λw r=>kZ r (y9 (w.arg=k0 (Xf "key"))&&cG cf.sc f w.value&&cf.fns.contains f&&cG cf.sc "min" g&&Xb x&&xc cf a x))
noncomputable def bW (cf:Cf):M.Es->List Expr->Bool
 | .nil,xs=>xs.isEmpty
 | .cons e es,xs=>lC xs λx xs=>Xb x&&xc cf e x&&bW cf es xs
noncomputable def dU (cf:Cf):M.It->Expr->Bool
 | .seq a,e=>qh e&&xc cf a e
 | .ar a,e=>jp e λg xs l _=>kZ l (lC xs λx r=>kZ r (cG cf.sc "range" g&&Xb x&&xc cf a x))
 | .ck _,_=>k9
end
def zD:Expr->Bool
 | .ListComp .. =>k9
 | .SetComp .. =>k9
 | .DictComp .. =>k9
 | _=>u0
def zm:Expr->Bool
 | .Tuple .. =>k9
 | _=>u0
def JF (a:Cf) (i:Nat) (x:Str):Bool:=y9 (a.N[i]? =k0 x)&&iQ a.sc x
def JV (b:Cf) (i:Nat) (m:Str) (e:Expr) (a:Pos):Bool:=qR e λx n p=>jx x λx=>vB b i x&&y9 (n=m)&&(p.endLine==a.line)
def oh (b:Cf):M.It->Expr->Bool
 | .seq a,e=>qh e&&xc b a e
 | .ar a,e=>dU b (.ar a) e
 | .ck a,e=>jp e λg xs l _=>kZ l (lC xs λx r=>kZ r (cG b.sc "enumerate" g&&Xb x&&xc b a x))
def og:M.It->Expr->Bool
 | .ck _,e=> !zm e
 | _,_=>u0
mutual
noncomputable def pq (cf:Cf):M.S->Stmt->Bool
 | .set i e,st=>fW st λts v=>lC ts λt r=>jx t λx=>kZ r (JF cf i x&&xc cf e v)
 | .af i e,st=>fW st λts v=>lC ts λt r=>jx t λx=>kZ r (JF cf i x&&xc cf e v)
 | .eO is e,st=>fW st λts v=>lC ts λt r=>lH t λts=>kZ r (qu cf is ts&&zm v&&xc cf e v)
 | .fm o kx j e,st=>fW st λts v=>lC ts λt r=>kZ r (lH t λts=>lC ts λt1 r=>lC r λt2 r=>kZ r (fK t1 λx y=>jx t2 λa=>Xc y&&zm v&&JF cf j a&&xc cf o x&&(xc cf kx y&&xc cf e v)))
 | .bQ o kx e,st=>fW st λts v=>lC ts λt r=>fK t λx y=>kZ r (Xc y&&zm v&&zD v&&xc cf o x&&xc cf kx y&&xc cf e v)
 | .app i e,st=>l3 st λc=>jp c λf xs l p=>kZ l (lC xs λv r=>kZ r (JV cf i "append" f p&&Xb v&&xc cf e v))
 | .ext i e,st=>l3 st λc=>jp c λf xs l p=>kZ l (lC xs λv r=>kZ r (JV cf i "extend" f p&&Xb v&&xc cf e v))
 | .bS i c f e,st=>fW st λts v=>lC ts λt r=>qR t λx n _=>jx x λx=>kZ r (vB cf i x&&(y9 (n=Xf f)&&cf.ob.fl.contains (c,f)&&xc cf e v))
 | .dP i kx e,st=>fW st λts v=>lC ts λt r=>fK t λx y=>jx x λx=>kZ r (vB cf i x&&Xc y&&xc cf kx y&&xc cf e v)
 | .cm i kx e,st=>fW st λts v=>lC ts λt r=>fK t λx y=>jx x λx=>kZ r (vB cf i x&&Xc y&&xc cf kx y&&xc cf e v)
 | .ex e,st=>l3 st λv=>zD v&&xc cf e v
 | .ret e,st=>pM st λv=>oS v λv=>xc cf e v
 | .iff c a b,st=>pI st λx ys zs=>fN c&&xc cf c x&&cV cf a ys&&cV cf b zs
 | .iN _ c b,st=>vH st λx ys zs=>kZ zs (fN c&&xc cf c x&&cV cf b ys)
 | .for tg one it b,st=>vt st λt iter ys zs=>kZ zs (og it t&&jf cf tg one t&&oh cf it iter&&cV cf b ys)
 | .bI i c f e,st=>fW st λts v=>lC ts λt r=>qR t λx n _=>jx x λx=>kZ r (vB cf i x&&y9 (n=Xf f)&&cf.ob.fl.contains (c,f)&&xc cf e v)
 | .el,_=>u0
noncomputable def cV (cf:Cf):M.Ss->List Stmt->Bool
 | .nil,sts=>sts.isEmpty
 | .cons s ss,sts=>lC sts λst sts=>pq cf s st&&cV cf ss sts
end
structure CP (X:Cx) (k:Nat) (x:Str) (ps:List Str) (sp:Sp):Prop where
 ex: ∃f fd,QF X.prog X.w X.K X.mg X.base (dQ X.prog X.w) k f fd ps sp/\Binds X.K fd ps []/\Ah4 X.K (.ref f)=u0/\X.mg x=k0 (.ref f)
def my:M.W->Bool
 | .own _=>k9
 | _=>u0
def gs (Y:Ge) (m:List M.W->M.AH->M.R M.W):Sp:=λb H Q E=> ∃G h a,ag Y G h H/\bh Y G H a b/\(∀ w∈a,my w=u0)/\az Y E G H (m a h) Q
structure Go (Y:Ge) (F:M.Fx) (X:Cx) (E:XK) (k:Nat) (cf:Cf):Prop where
 N:X.N=cf.N
 K:X.K=Y.K
 cl:F.cl=Y.cl
 ow:cf.own=Y.own
 nd:cf.N.Nodup
 g8: ∀x,zV cf.sc x=u0->mm X.env.scope x
 tK: ∀x,cf.sc.names.lookup x=k0 .local->X.env.scope.names.lookup x=k0 .local
 iU: ∀x,iQ cf.sc x=u0->kf X.env.scope x/\(X.fn x=u0\/X.env.scope.names.lookup x=k0 .local)
 mL: ∀x,(cf.sc.names.lookup x=k0 .cell\/cf.sc.names.lookup x=k0 .free)->X.env.kindOf x=k0 .cell\/X.env.kindOf x=k0 .free
 gl: ∀x,kU cf.sc x=u0->Gl X x
 calm:X.calm=u0
 room:a9 k X.A
 d4:a9 (k+1) X.A
 pass:ZF (dQ X.prog X.w) X E
 blt: ∀x,x∈cD->X.mg (Xf x)=y0
 con: ∀x d,F.con.lookup x=k0 d-> ∃u v,X.mg (Xf x)=k0 u/\RelV v u/\ ∀G H,aA Y G H d v
 fn: ∀f,cf.fns.contains f=u0-> ∃ps,CP X k (Xf f) ps (gs Y (F.call f))
 cls: ∀c,cf.own.contains c=u0->X.mg (Xf c)=k0 (.ref (Y.ca c))
 fld: ∀c f,cf.ob.fl.contains (c,f)=u0->d3 X.K (Y.ca c)/\bZ X.K (Y.ca c) (Xf f)
 iZ: ∀c m q,cf.ob.mt.contains (c,m,q)=u0->d3 X.K (Y.ca c)/\ ∃fa fd ps,lQ X.K (Y.ca c) (Xf m) fa/\QF X.prog X.w X.K X.mg X.base (dQ X.prog X.w) k fa fd ps (gs Y (F.call q))/\Binds X.K fd ps []
 eU: ∀c q,cf.ob.eU.contains (c,q)=u0->X.mg (Xf c)=k0 (.ref (Y.ca c))/\ ∃fa fd ps,Mk X.K (Y.ca c) fa/\QF X.prog X.w X.K X.mg X.base (dQ X.prog X.w) k fa fd ps (gs Y (F.call q))/\Binds X.K fd ps []
@[elab_as_elim] theorem kE {P:List α->Prop}(k:b=u0->P []): ∀l,kZ l b=u0->P l:=by rintro (_|_)<;>first | exact cq | exact k
def a2 (h:(a&&b)=u0):a=u0/\b=true:=Bool.and_eq_true_iff.mp h
def a3 (h:(a&&b&&c)=u0):a=u0/\b=u0/\c=true:=⟨(a2 (a2 h).1).1,(a2 (a2 h).1).2,(a2 h).2⟩
def a4 (h:(a&&b&&c&&d)=u0):a=u0/\b=u0/\c=u0/\d=true:=⟨(a3 (a2 h).1).1,(a3 (a2 h).1).2.1,(a3 (a2 h).1).2.2,(a2 h).2⟩
def a5 (h:(a&&b&&c&&d&&e)=u0):a=u0/\b=u0/\c=u0/\d=u0/\e=true:=⟨(a2 (a4 h).1).1,(a2 (a4 h).1).2,(a4 h).2⟩
def a6 (h:(a&&b&&c&&d&&e&&f)=u0):a=u0/\b=u0/\c=u0/\d=u0/\e=u0/\f=true:=⟨(a2 (a5 h).1).1,(a2 (a5 h).1).2,(a5 h).2⟩
def a7 (h:(a&&b&&c&&d&&e&&f&&g)=u0):a=u0/\b=u0/\c=u0/\d=u0/\e=u0/\f=u0/\g=true:=⟨(a2 (a6 h).1).1,(a2 (a6 h).1).2,(a6 h).2⟩
def nn (h:o.isNone=u0):o=none:=Aj7.mp h
def fM (h:vB cf i x=u0):cf.N[i]? =k0 x/\zV cf.sc x=u0/\bf x=true:=⟨of_decide_eq_true (a3 h).1,(a3 h).2⟩
def zd (h:cG sc x e=true): ∃p,e= .Name (Xf x) p/\kU sc (Xf x)=true/\(Xf x==("__debug__" :Str))=false:=by
 unfold cG at h
 rw [Aa0,Aa0]at h
 obtain⟨⟨b,c⟩,a⟩:=h
 unfold bf at a
 rw [Aa0]at a
 cases e with
 | Name y p=>
  have:y=Xf x:=by simpa [nU]using b
  subst this
  exact⟨p,rfl,c,by simpa using a.1⟩
 | _=>simp [nU]at b
def qz (h:x∈cD):Xf x≠("__name__" :Str):=by
 have:(cD.all λx=>decide (Xf x≠ "__name__"))=true:=by decide +kernel
 exact of_decide_eq_true (Ai6.mp this x h)
section
variable {Y:Ge}{F:M.Fx}{X:Cx}{E:XK}{k:Nat}{cf:Cf}
section
variable {G:Gh}{H:Hp}{h:M.AH}{τ:M.Sl}{U:St}{Q:VK}
def av.val (p:av Y E G0 H0 (.ok w h) λw _ G' H'=> ∀v,ai Y G' H' w v->aH τ U H0 w v->Q v H') (e:Ext G0 H0 G H) (a:ag Y G h H) (z:ai Y G H w v) (f:aH τ U H0 w v):Q v H:=
 p G H e a v z f
end
def HB (c:Go Y F X E k cf)(l:cf.N[i]? =k0 x) (g:zV cf.sc x=u0) (b:bf x=u0):PE X (.Name x pos) (tD Y E (M.eval F (.var i))):=by
 unfold bf at b
 rw [Aa0]at b
 refine PE.imp (jH (by rw [c.N];exact l) (c.g8 x g) (by simpa using b.1) (by simpa using b.2)) λU H Q t=> ?_
 obtain⟨G,u,h,s,p⟩:=t
 rw [M.eval]at p
 cases q:M.Gn u i with
 | none=>simp [M.Gj,q]at p;exact p.elim
 | some w=>
  obtain⟨v,e,r⟩:=s.slot i w q
  refine⟨v,e,?_⟩
  cases w with
  | v d=>
   rw [M.Kt q]at p
   exact av.val p Ext.refl s.heap r trivial
  | own o=>
   rw [M.Kd q]at p
   obtain⟨a,f,y,z,m,n,j⟩:=r
   exact av.val p Ext.refl s.heap ⟨a,f,y,m,.inl n,j⟩ ⟨i,_,q,rfl,e⟩
  | bor o=>
   rw [M.Kc q]at p
   exact av.val p Ext.refl s.heap r ⟨i,_,q,rfl,e⟩
def CA (b:Go Y F X E k cf)(l:cG cf.sc c e=u0):PE X e (tD Y E (M.eval F (.con c))):=by
 obtain⟨p,rfl,i,j⟩:=zd l
 cases q:F.con.lookup c with
 | none=>
  intro f s U H Q I ⟨G,n,h,g,a⟩
  rw [M.eval,q]at a
  exact a.elim
 | some d=>
  obtain⟨u,v,o,rv,rd⟩:=b.con c d q
  refine PE.imp (rP (b.gl _ i) o rv j) λU H Q m=> ?_
  obtain⟨G,n,h,g,a⟩:=m
  rw [M.eval,q]at a
  exact av.val a Ext.refl g.heap (rd G H) trivial
def LO :PE X (.Constant (.int i) j pos) (tD Y E (M.eval F (.int i))):=PE.imp BA λU H Q ⟨G,a,h,s,p⟩=>av.val p Ext.refl s.heap rfl trivial
def BX :PE X (.Constant (.bool i) j pos) (tD Y E (M.eval F (.bl i))):=PE.imp C8 λU H Q ⟨G,a,h,s,p⟩=>av.val p Ext.refl s.heap rfl trivial
def Dg :PE X (.Constant .none j pos) (tD Y E (M.eval F .aj)):=PE.imp L8 λU H Q ⟨G,a,h,s,p⟩=>av.val p Ext.refl s.heap rfl trivial
def Aq :PE X (.Constant (.str (aD i)) j pos) (tD Y E (M.eval F (.str i))):=PE.imp nT λU H Q ⟨G,a,h,s,p⟩=>av.val p Ext.refl s.heap rfl trivial
section
variable {a b c:M.E}{x y z:Expr}{pos:Pos}
def yq (e:Go Y F X E k cf)(q:lI o=u0) (l:PE X x (tD Y E (M.eval F a))) (v:PE X y (tD Y E (M.eval F b))):PE X (.BinOp x (ml o) y pos) (tD Y E (M.eval F (.bin o a b))):=by
 refine PE.imp (Ed (Lz (E:=E) o q e.K) l v) λU H Q z=> ?_
 obtain⟨G,I,h,s,p⟩:=z
 refine Wa s.heap Ext.refl s p λi v1 B A J e1 u d g K w=> ?_
 refine Wa s.heap e1 d w λt v2 f m C e2 c r n D j=> ?_
 exact⟨m,f,i,t,r.heap,g.ext c d.heap,n,az.mk j e2 s.heap⟩
def z9 (z:aA Y G H d v) (f:M.GN d=u0):wM v=true:=by
 cases d with
 | aj=>cases (z);rfl
 | bl _=>cases (z);rfl
 | int _=>cases (z);rfl
 | str _=>cases (z);rfl
 | _=>exact absurd (f) Ab2
theorem WQ : ∀ {ds}{vs},ab Y G H ds vs->ds.all M.GN=u0->vs.all wM=u0
 | [],_,rfl,_=>rfl
 | d::ds,_,⟨v,r,rfl,a,b⟩,f=>by
  rw [Ah5,Aa0]at f ⊢
  exact⟨z9 a f.1,WQ b f.2⟩
def Il (z:aA Y G H d v) (y:aA Y G H e u) (f:M.GN d=u0) (c:M.GN e=u0):gy v u=M.cw d e:=by
 cases d with
 | aj=>
  cases (z)
  cases e with
  | aj=>cases (y);rfl
  | bl _=>cases (y);rfl
  | int _=>cases (y);rfl
  | str _=>cases (y);rfl
  | _=>exact absurd (c) Ab2
 | bl a=>
  cases (z)
  cases e with
  | aj=>cases (y);rfl
  | bl _=>cases (y);rfl
  | int j=>cases (y);show(_==j)=(a.toNat==j);rw [mz]
  | str _=>cases (y);rfl
  | _=>exact absurd (c) Ab2
 | int i=>
  cases (z)
  cases e with
  | aj=>cases (y);rfl
  | bl b=>cases (y);show(i==(if b then(1:Int)else 0))=(i== b.toNat);rw [mz]
  | int _=>cases (y);rfl
  | str _=>cases (y);rfl
  | _=>exact absurd (c) Ab2
 | str i=>
  cases (z)
  cases e with
  | aj=>cases (y);rfl
  | bl _=>cases (y);rfl
  | int _=>cases (y);rfl
  | str j=>cases (y);exact sj i j
  | _=>exact absurd (c) Ab2
 | _=>exact absurd (f) Ab2
theorem rr (z:aA Y G H d v) (b:M.GN d=u0): ∀ {ds}{vs},ab Y G H ds vs->ds.all M.GN=u0->l9 v vs=M.inD d ds
 | [],_,rfl,_=>rfl
 | e::ds,_,⟨u,r,rfl,c,g⟩,f=>by
  rw [Ah5,Aa0]at f
  have a:=rr z b g f.2
  unfold l9 M.inD at a ⊢
  rw [Af3,Af3,a,Il c z f.1 b]
def ai.la (z:ai Y G H w v) (e:w.d=k0 d) (f:M.GN d=u0):aA Y G H d v:=by
 cases w with
 | v b=>cases e;exact z
 | own a=>cases e;exact absurd (f) Ab2
 | bor a=>cases e
theorem yj (b: ∀c y,RV hp c y->ee y=M.cw c d): ∀ {ys}{i},b9 hp ys i->i.any ee=M.inD d ys
 | [],_,rfl=>rfl
 | c::ys,_,⟨u,r,rfl,e,f⟩=>by
  have a:=yj b f
  unfold M.inD at a ⊢
  rw [Af3,Af3,a,b c u e]
def uA (b:a9 k X.A)(r:M.GG ys<140) (n:RV s.heap d v) (o:b9 s.heap ys its): ∃i:Value->Bool,(∀ c y,RV s.heap c y->i y=M.cw c d)/\ ∀y,y∈its.toArray->SeqAt.EqAt X.A.in1 s y v (i y):=by
 have f: ∃i:Value->Bool,∀c y,RV s.heap c y->i y=M.cw c d:=⟨λy=> @y9 (∃ a,RV s.heap a y/\M.cw a d=u0) (Al9 _),λc y z=>by
  cases q:M.cw c d with
  | true=>exact @decide_eq_true _ (Al9 _) ⟨c,z,q⟩
  | false=>exact @decide_eq_false _ (Al9 _) λ⟨d,p,h⟩=>by rw [RV.inj p z,q]at h;cases h⟩
 obtain⟨i,g⟩:=f
 refine⟨i,g,λy m=> ?_⟩
 obtain⟨j,l⟩:=List.getElem?_of_mem (List.mem_toArray.mp m)
 obtain⟨a,e,rd⟩:=o.get l
 rw [g a y rd]
 exact(o8 140 a _ X.A.in1 y v (by have:=XG e;lia) (by have:=b.un;lia) rd n).eq
def FG (l:X.K=Y.K)(d:a9 k X.A) (neg:Bool){x y:V}(I:Inv X pins U H s) (z:RelV x v) (B:RelV y u){b:Bool}(i:ag Y G h H)
 (t:ai Y G H w1 x) (C:ai Y G H w2 y) (e:M.Kv w1 w2 h=k0 b) (q:Q (.bl (if neg then !b else b)) H):wpAny (model X.prog X.w) X.A (compareOp (if neg then .NotIn else .In) v u) (EP X pins U Q) X.xe s:=by
 unfold M.Kv at e
 split at e
 ·rename_i w e2
  split at e
  ·rename_i c
   cases e
   have o:=by simpa using c
   have D:=t.rv I l i z o.1.1
   have r:=C.rv I l i B (by simp_all)
   rw [e2]at r
   obtain⟨a,g,rfl,j,p⟩:=r
   obtain⟨f,A,m⟩:=uA d o.2 D p
   have n:g.toArray.any f=M.inD (w1.dd h) w:=by rw [List.any_toArray];exact yj A p
   cases neg with
   | true=>exact SeqAt.notIn_listAt f j m ⟨.bl _,H,I,rfl,by rw [n];exact q⟩
   | false=>exact SeqAt.in_listAt f j m ⟨.bl _,H,I,rfl,by rw [n];exact q⟩
  ·cases e
 ·cases e
def tI (m:X.K=Y.K)(n:a9 k X.A) (neg:Bool){x y:V}(I:Inv X pins U H s) (f:RelV x v) (g:RelV y u){b:Bool}(r:ag Y G h H)
 (l:ai Y G H w1 x) (o:ai Y G H w2 y) (e:M.Kh w1 w2 h=k0 b) (q:Q (.bl (if neg then !b else b)) H):wpAny (model X.prog X.w) X.A (compareOp (if neg then .NotIn else .In) v u) (EP X pins U Q) X.xe s:=by
 unfold M.Kh at e
 split at e
 ·rename_i i j e1 e2
  split at e
  ·rename_i c
   cases e
   cases l.str e1
   cases o.str e2
   have A:(!(Builtin.Str.occurrences (aD j) (aD [c]) 0 (aD j).length 1).isEmpty)=j.contains c:=by
    have:=PySem.StrLaws.found_one (aD j) c
    refine this.trans ?_
    rw [An2,decide_eq_true_eq,List.contains_iff_mem]
    simp [aD]
   cases neg with
   | true=>exact jX pins s U H _ _ v u Q I f g ⟨_,_,rfl,rfl,by rw [A];exact q⟩
   | false=>exact IF pins s U H _ _ v u Q I f g ⟨_,_,rfl,rfl,by rw [A];exact q⟩
  ·cases e
 ·split at e
  ·rename_i d B e1 e2
   split at e
   ·rename_i c
    rw [Aa0]at c
    cases e
    have z:=l.la e1 c.1
    obtain⟨a,t,rfl,w,p⟩:=o.seq r e2
    rw [← rr z c.1 p c.2]at q
    cases neg with
    | true=>exact xX pins s U H _ _ v u Q I f g ⟨a,t,rfl,m▸lX w,z9 z c.1,WQ p c.2,q⟩
    | false=>exact FK pins s U H _ _ v u Q I f g ⟨a,t,rfl,m▸lX w,z9 z c.1,WQ p c.2,q⟩
   ·exact FG m n neg I f g r l o e q
  ·cases e
def CU:bG X (compareOp .GtE) (λx y H Q=> ∃i j,x= .str i/\y= .str j/\Q (.bl (!y9 (i.cps.toList<j.cps.toList))) H):=by
 intro a s U H x y v u Q I b d ⟨i,j,ex,c,q⟩
 subst ex c
 obtain⟨t,rfl⟩:=b
 obtain⟨e,rfl⟩:=d
 exact PySem.P.ge_str (xI I q rfl)
def xP (r:Go Y F X E k cf) (o) (C:qM o=u0):bG X (compareOp (fb o)) (hU Y o):=by
 have g: ∀ {o},(∀ a d h b,M.Gr o a d h=k0 b->(∃ i j,M.W.int? a=k0 i/\M.W.int? d=k0 j/\M.Kz o i j=k0 b)\/(∃ i j,M.W.bH a=k0 i/\M.W.bH d=k0 j/\M.KA o i j=k0 b))->bG X (compareOp (fb o)) (hU Y o):=by
  intro o B f s U H x y v u Q I l m ⟨G,h,a,d,b,w,n,p,e,q⟩
  obtain⟨i,j,e1,e2,z⟩ | ⟨i,j,e1,e2,z⟩:=B a d h b e
  ·cases n.int e1
   cases p.int e2
   exact EJ z I l m q
  ·cases n.str e1
   cases p.str e2
   cases o with
   | lt=>
    cases z
    refine HC f s U H _ _ v u Q I l m ⟨_,_,rfl,rfl,?_⟩
    have:y9 ((aD i).cps.toList<(aD j).cps.toList)=y9 (i<j):=decide_eq_decide.mpr (by simp [aD])
    exact q
   | ge=>
    cases z
    have:y9 ((aD i).cps.toList<(aD j).cps.toList)=y9 (i<j):=decide_eq_decide.mpr (by simp [aD])
    exact CU f s U H _ _ v u Q I l m ⟨_,_,rfl,rfl,q⟩
   | _=>cases z
 have mk: ∀ {o}{a d}{h:M.AH}{b},(match M.W.int? a,M.W.int? d with
  | some i,k0 j=>M.Kz o i j
  | _,_=>match M.W.bH a,M.W.bH d with
   | some s,k0 t=>M.KA o s t
   | _,_=>y0)=k0 b->(∃ i j,M.W.int? a=k0 i/\M.W.int? d=k0 j/\M.Kz o i j=k0 b)\/(∃ i j,M.W.bH a=k0 i/\M.W.bH d=k0 j/\M.KA o i j=k0 b):=by
  intro o a d h b e
  split at e
  ·rename_i i j e1 e2;exact .inl ⟨i,j,e1,e2,e⟩
  ·split at e
   ·rename_i i j e1 e2;exact .inr ⟨i,j,e1,e2,e⟩
   ·cases e
 cases o with
 | eq=>exact C2 r.K r.room
 | ne=>exact BL r.K r.room
 | lt=>exact g λa d h b e=>mk (h:=h) e
 | le=>exact g λa d h b e=>mk (h:=h) e
 | gt=>exact g λa d h b e=>mk (h:=h) e
 | ge=>exact g λa d h b e=>mk (h:=h) e
 | mem=>
  intro f s U H x y v u Q I l m ⟨G,h,a,d,b,w,n,p,e,q⟩
  exact tI r.K r.room k9 I l m w n p e q
 | eR=>
  intro f s U H x y v u Q I l m ⟨G,h,a,d,b,w,n,p,e,q⟩
  have e:(M.Kh a d h).map (!·)=k0 b:=e
  cases e2:M.Kh a d h with
  | none=>rw [e2]at e;cases e
  | some c=>
   rw [e2]at e
   cases e
   exact tI r.K r.room u0 I l m w n p e2 q
 | cR=>
  intro f s U H x y v u Q I l m ⟨G,h,a,d,b,w,n,p,e,q⟩
  have e:M.Ku a d=k0 b:=e
  unfold M.Ku at e
  split at e
  ·cases e
   cases n
   cases p
   cases l
   obtain⟨t,rfl⟩:=m
   exact wpAny_is_plain rfl (xI I q rfl)
  ·cases e
   cases n
   cases p
   obtain⟨t,rfl⟩:=l
   obtain⟨A,rfl⟩:=m
   exact PyProof.Rows.is_bool (xI I q rfl)
  ·cases e
 | iR=>
  intro f s U H x y v u Q I l m ⟨G,h,a,d,b,w,n,p,e,q⟩
  have e:(M.Ku a d).map (!·)=k0 b:=e
  unfold M.Ku at e
  split at e
  ·cases e
   cases n
   cases p
   cases l
   obtain⟨t,rfl⟩:=m
   exact wpAny_isNot_plain rfl (xI I q rfl)
  ·cases e
   cases n
   cases p
   obtain⟨t,rfl⟩:=l
   obtain⟨A,rfl⟩:=m
   exact PyProof.Rows.isnot_bool (xI I q rfl)
  ·cases e
def Qr (h:qh e=u0):behindInMarks o e=false:=by
 cases e<;>first | rfl | (simp [qh]at h)
def uJ (v:Go Y F X E k cf)(s:ao Y G τ h U H)
 (p:av Y E G H ((M.eval F a τ h).bind λx h=>(M.eval F b τ h).bind λy h=>(M.R.of h (M.Gr o x y h)).bind λc h=> .ok c h) λc _ _ H'=>R (.bl c) H'):
 k5 (hU Y o) (tD Y E (M.eval F a)) (tD Y E (M.eval F b)) U H R:=by
 refine Wa s.heap Ext.refl s p λl v1 z w C e1 t f j D u=> ?_
 refine Wa s.heap e1 f u λr v2 i m A e2 e g n B d=> ?_
 obtain⟨c,q,d⟩:=d.of
 exact⟨m,i,l,r,c,g.heap,j.ext e f.heap,n,q,d.at e2 g.heap⟩
def av.map {b c:Type}{G:Gh}{H:Hp}{r:M.R b}{f:b->c}{P:c->M.AH->Gh->Hp->Prop}(p:av Y E G H (r.bind λa h=> .ok (f a) h) P):av Y E G H r λa h G' H'=>P (f a) h G' H':=by
 cases r with
 | ok a h=>exact p
 | fail=>exact p
def Jh (r:M.R α) (f) (g:β->M.AH->M.R γ):(r.bind f).bind g=r.bind λa h=>(f a h).bind g:=by cases r<;>rfl
def HK (j:Go Y F X E k cf){o:M.Cp}(n:qM o=u0) (r:qh y=u0) (m:PE X x (tD Y E (M.eval F a))) (t:PE X y (tD Y E (M.eval F b))):PE X (.Compare x [fb o] [y] pos) (tD Y E (M.eval F (.cmp o a b))):=by
 refine PE.imp (uj (xP j o n) m t (Qr r)) λU H Q u=> ?_
 obtain⟨G,d,h,s,p⟩:=u
 rw [M.eval]at p
 refine uJ j s ?_
 have z:av Y E G H (((M.eval F a d h).bind λx h=>(M.eval F b d h).bind λy h=>(M.R.of h (M.Gr o x y h)).bind λc h=> .ok c h).bind λc h=> .ok (M.W.v (.bl c)) h) λw _ i f=> ∀v,ai Y i f w v->aH d U H w v->Q v f:=by
  simpa only [Jh,M.R.ae]using p
 have g:=z.map
 cases q:(M.eval F a d h).bind λx h=>(M.eval F b d h).bind λy h=>(M.R.of h (M.Gr o x y h)).bind λc h=> .ok c h with
 | ok c A=>rw [q]at g;exact λi f e l=>g i f e l (.bl c) rfl trivial
 | fail=>rw [q]at g;exact g
def EH (i:Go Y F X E k cf){o:M.Cp}(n:qM o=u0) (r:qh y=u0) (l:PE X x (tD Y E (M.eval F a))) (t:PE X y (tD Y E (M.eval F b))):PT X (.Compare x [fb o] [y] pos) (cU Y E (M.Gm F (.cmp o a b))):=by
 refine PT.imp (pB (xP i o n) l t (Qr r)) λU H Q u=> ?_
 obtain⟨G,d,h,s,p⟩:=u
 unfold M.Gm at p
 rw [M.eval]at p
 refine uJ i s ?_
 have f:av Y E G H ((M.eval F a d h).bind λx h=>(M.eval F b d h).bind λy h=>(M.R.of h (M.Gr o x y h)).bind λc h=> .ok c h) λb _ _ g=>Q b g:=by
  simpa only [Jh,M.R.ae,M.GO,M.R.ak]using p
 cases q:(M.eval F a d h).bind λx h=>(M.eval F b d h).bind λy h=>(M.R.of h (M.Gr o x y h)).bind λc h=> .ok c h with
 | ok c v=>rw [q]at f;exact λm g e j=>⟨c,rfl,f m g e j⟩
 | fail=>rw [q]at f;exact f
end
end
section
variable {Y:Ge}{F:M.Fx}{X:Cx}{E:XK}{k:Nat}{cf:Cf}{a b c:M.E}{x y z:Expr}{pos:Pos}
def zG (r:M.R α):(r.bind λw h=> .ok w h)=r:=by cases r<;>rfl
def HW (d:Go Y F X E k cf) (g:PE X x (tD Y E (M.eval F a))) (l: ∀i,isTrue x X.env i=(do let v ←i;standAt x.pos;holding [v] (truthy v))):PT X x (cU Y E (M.Gm F a)):=by
 refine PT.imp (E9 g l) λU H Q o=> ?_
 obtain⟨G,u,h,s,p⟩:=o
 refine Wa s.heap Ext.refl s p λf v1 m j r e1 n c e w b=> ?_
 cases q:M.GZ m f with
 | none=>rw [q]at b;exact b.elim
 | some t=>
  rw [q]at b
  exact⟨t,mq d.K c.heap e q,b j r e1 c.heap⟩
def LA (g:PE X x ta):PE X (.UnaryOp .Not x pos) (λU H Q=>ta U H λv H1=> ∃t,iE X.K v H1 t/\Q (.bl (!t)) H1):=by
 intro a s U H Q I h
 refine UnaryOp_ (aQ (g a s U H _ I h) ?_)
 rintro v e ⟨x,H1,j,d,t,b,k⟩
 exact not_of (aQ (mC a e U H1 x v (λc f=>Q (.bl (!c)) f) j d ⟨t,b,k⟩) λc m ⟨l,i,q⟩=>⟨.bl (!c),l,i,rfl,q⟩)
def AE (d:Go Y F X E k cf) (f:PE X x (tD Y E (M.eval F a))):PE X (.UnaryOp .Not x pos) (tD Y E (M.eval F (.not a))):=by
 refine PE.imp (LA f) λU H Q i=> ?_
 obtain⟨G,n,h,s,p⟩:=i
 refine Wa s.heap Ext.refl s p λj v1 m l o e1 g c e r b=> ?_
 obtain⟨t,q,b⟩:=b.of
 exact⟨t,mq d.K c.heap e q,av.val b e1 c.heap rfl trivial⟩
def y6 (d:PT X x (cU Y E (M.Gm F a))):PT X (.UnaryOp .Not x pos) (cU Y E (M.Gm F (.not a))):=by
 refine PT.imp (KN d) λU H Q e=> ?_
 obtain⟨G,c,h,s,p⟩:=e
 unfold M.Gm at p
 rw [M.eval]at p
 have f:av Y E G H ((M.Gm F a c h).bind λt h=> .ok (!t) h) λb _ _ g=>Q b g:=by
  unfold M.Gm
  simpa only [Jh,M.R.ae,M.GO,M.R.ak]using p
 exact⟨G,c,h,s,f.map⟩
def Ei {xn:List Expr}(j:PE X x ta) (n:PE X (.BoolOp .And (y::xn) pos) tb):PE X (.BoolOp .And (x::y::xn) pos) (λU H Q=>ta U H λv H1=> ∃t,iE X.K v H1 t/\if t=u0 then tb U H1 Q else Q v H1):=by
 intro a s U H Q I h
 refine BoolOp_and (aQ (j a s U H _ I h) ?_)
 rintro v i ⟨x,H1,k,b,t,g,m⟩
 refine aQ (mC a i U H1 x v (λc d=>if c=u0 then tb U d Q else Q x d) k b ⟨t,g,m⟩) λc l o=> ?_
 obtain⟨f,e,q⟩:=o
 cases c with
 | true=>exact n a l U f Q e q
 | false=>exact⟨x,f,e,b,q⟩
def LZ {xn:List Expr}(j:PE X x ta) (n:PE X (.BoolOp .Or (y::xn) pos) tb):PE X (.BoolOp .Or (x::y::xn) pos) (λU H Q=>ta U H λv H1=> ∃t,iE X.K v H1 t/\if t=u0 then Q v H1 else tb U H1 Q):=by
 intro a s U H Q I h
 refine BoolOp_or (aQ (j a s U H _ I h) ?_)
 rintro v i ⟨x,H1,k,b,t,g,m⟩
 refine aQ (mC a i U H1 x v (λc d=>if c=u0 then Q x d else tb U d Q) k b ⟨t,g,m⟩) λc l o=> ?_
 obtain⟨f,e,q⟩:=o
 cases c with
 | false=>exact n a l U f Q e q
 | true=>exact⟨x,f,e,b,q⟩
def sO (f:Go Y F X E k cf){xn:List Expr}(i:PE X x (tD Y E (M.eval F a))) (r:PE X (.BoolOp .And (y::xn) pos) (tD Y E (M.eval F b))):PE X (.BoolOp .And (x::y::xn) pos) (tD Y E (M.eval F (.and a b))):=by
 refine PE.imp (Ei i r) λU H Q u=> ?_
 obtain⟨G,J,h,s,p⟩:=u
 refine Wa s.heap Ext.refl s p λz v1 C B K e1 n d e v c=> ?_
 obtain⟨t,q,c⟩:=c.of
 refine⟨t,mq f.K d.heap e q,?_⟩
 cases t with
 | true=>
  exact Wa s.heap e1 d (by rw [zG];exact c) λD v2 w A I e2 m l j o g=>av.val g e2 l.heap j (o.back e1 s.heap)
 | false=>
  exact av.val c e1 d.heap e v
def tS (f:Go Y F X E k cf){xn:List Expr}(i:PE X x (tD Y E (M.eval F a))) (r:PE X (.BoolOp .Or (y::xn) pos) (tD Y E (M.eval F b))):PE X (.BoolOp .Or (x::y::xn) pos) (tD Y E (M.eval F (.or a b))):=by
 refine PE.imp (LZ i r) λU H Q u=> ?_
 obtain⟨G,J,h,s,p⟩:=u
 refine Wa s.heap Ext.refl s p λz v1 C B K e1 n d e v c=> ?_
 obtain⟨t,q,c⟩:=c.of
 refine⟨t,mq f.K d.heap e q,?_⟩
 cases t with
 | false=>
  exact Wa s.heap e1 d (by rw [zG];exact c) λD v2 w A I e2 m l j o g=>av.val g e2 l.heap j (o.back e1 s.heap)
 | true=>
  exact av.val c e1 d.heap e v
def LP :M.Gm F (.and a b) τ h=(M.Gm F a τ h).bind λt h=>match t with
 | true=>M.Gm F b τ h
 | false=> .ok k9 h:=by
 unfold M.Gm
 rw [M.eval]
 simp only [Jh]
 congr 1
 funext w h1
 cases q:M.GZ h1 w with
 | none=>rfl
 | some t=>
  cases t with
  | true=>rfl
  | false=>simp [q]
def yN :M.Gm F (.or a b) τ h=(M.Gm F a τ h).bind λt h=>match t with
 | true=> .ok u0 h
 | false=>M.Gm F b τ h:=by
 unfold M.Gm
 rw [M.eval]
 simp only [Jh]
 congr 1
 funext w h1
 cases q:M.GZ h1 w with
 | none=>rfl
 | some t=>
  cases t with
  | false=>rfl
  | true=>simp [q]
def vc {xn:List Expr}(g:PT X x (cU Y E (M.Gm F a))) (q:PW X (.BoolOp .And (y::xn) pos) (cU Y E (M.Gm F b))):PW X (.BoolOp .And (x::y::xn) pos) (cU Y E (M.Gm F (.and a b))):=by
 intro i c r U H Q I ⟨G,C,h,s,p⟩
 refine yu g q i c r U H Q I ?_
 rw [LP]at p
 refine jS s.heap Ext.refl s p λt A k u e1 n d e=> ?_
 cases t with
 | true=>
  exact jS s.heap e1 d (f:=λw h=> .ok w h) (by rw [zG];exact e) λB z j o e2 m l v=>v j o e2 l.heap
 | false=>
  exact e k u e1 d.heap
def pZ {xn:List Expr}(g:PT X x (cU Y E (M.Gm F a))) (q:PW X (.BoolOp .Or (y::xn) pos) (cU Y E (M.Gm F b))):PW X (.BoolOp .Or (x::y::xn) pos) (cU Y E (M.Gm F (.or a b))):=by
 intro i c r U H Q I ⟨G,C,h,s,p⟩
 refine BW g q i c r U H Q I ?_
 rw [yN]at p
 refine jS s.heap Ext.refl s p λt A k u e1 n d e=> ?_
 cases t with
 | false=>
  exact jS s.heap e1 d (f:=λw h=> .ok w h) (by rw [zG];exact e) λB z j o e2 m l v=>v j o e2 l.heap
 | true=>
  exact e k u e1 d.heap
def EG (e:PE X x (tD Y E (M.eval F a))):PE X (.UnaryOp .USub x pos) (tD Y E (M.eval F (.neg a))):=by
 refine PE.imp (uP DK e) λU H Q g=> ?_
 obtain⟨G,l,h,s,p⟩:=g
 refine Wa s.heap Ext.refl s p λi v1 k j m e1 f d c n b=> ?_
 obtain⟨t,q,b⟩:=b.of
 exact⟨t,c.int q,av.val b e1 d.heap rfl trivial⟩
def IA (f:PE X x (tD Y E (M.eval F a))):PE X (.UnaryOp .Invert x pos) (tD Y E (M.eval F (.inv a))):=by
 refine PE.imp (uP Fi f) λU H Q i=> ?_
 obtain⟨G,m,h,s,p⟩:=i
 refine Wa s.heap Ext.refl s p λj v1 l k n e1 g d c o b=> ?_
 obtain⟨t,q,b⟩:=b.of
 refine⟨t,c.int q,?_⟩
 have e:Builtin.bitNot t= -t-1:=by unfold Builtin.bitNot;lia
 exact av.val b e1 d.heap rfl trivial
def sD {G:Gh}{H:Hp}{w:M.W}{v:V}(r:ai Y G H w v):(v= .aj)↔w= .v .aj:=by
 constructor
 ·intro e
  subst e
  cases w with
  | v d=>
   cases d with
   | aj=>rfl
   | bl _=>cases (show V.aj= .bl _ from r)
   | int _=>cases (show V.aj= .int _ from r)
   | str _=>cases (show V.aj= .str _ from r)
   | tup _=>obtain⟨_,_,e,_⟩:=r;cases e
   | lst _=>obtain⟨_,_,e,_⟩:=r;cases e
   | ref _=>obtain⟨_,e⟩:=r;cases e
  | own _=>obtain⟨_,_,e,_⟩:=r;cases e
  | bor _=>obtain⟨_,_,e,_⟩:=r;cases e
 ·intro e
  subst e
  exact r
def nP (neg:Bool):M.W->Bool
 | .v .aj=> !neg
 | _=>neg
def vh :M.eval F (.eY neg a) τ h=(M.eval F a τ h).bind λw h=>M.aq (.bl (nP neg w)) h:=by
 rw [M.eval]
 congr 1
 funext w h1
 cases w with
 | v d=>cases d<;>rfl
 | own _=>rfl
 | bor _=>rfl
def sh (r:ai Y G H w v) (neg:Bool):(if neg then !y9 (v= .aj)else y9 (v= .aj))=nP neg w:=by
 by_cases a:v= .aj
 ·have b:=(sD r).mp a
  subst b a
  cases neg<;>rfl
 ·have b:=λe=>a ((sD r).mpr e)
  have e1:=decide_eq_false a
  rw [e1]
  have e2:nP neg w=neg:=by
   cases w with
   | v d=>cases d<;>first | rfl | exact absurd rfl b
   | own _=>rfl
   | bor _=>rfl
  rw [e2]
  cases neg<;>rfl
def FR (c:PE X x (tD Y E (M.eval F a))):PE X (.Compare x [if neg then .IsNot else .Is] [.Constant .none j pos'] pos) (tD Y E (M.eval F (.eY neg a))):=by
 have b: ∀U H Q,tD Y E (M.eval F (.eY neg a)) U H Q->tD Y E _ U H λv d=>Q (.bl (if neg then !y9 (v= .aj)else decide _)) d:=λU H Q k=>by
  obtain⟨G,o,h,s,p⟩:=k
  rw [vh]at p
  refine Wa s.heap Ext.refl s p λl v1 n m d e1 g f e q i=> ?_
  rw [sh e neg]
  exact av.val i e1 f.heap rfl trivial
 cases neg with
 | true=>exact PE.imp (uQ (rz c)) b
 | false=>exact PE.imp (uQ (tY c)) b
def LN {neg:Bool}{j:Nat}{b:Pos}(k:PE X x (tD Y E (M.eval F a))):PT X (.Compare x [if neg then .IsNot else .Is] [.Constant .none j b] pos) (cU Y E (M.Gm F (.eY neg a))):=by
 have g: ∀U H Q,cU Y E (M.Gm F (.eY neg a)) U H Q->tD Y E (M.eval F a) U H λv d=>Q (if neg then !y9 (v= .aj)else y9 (v= .aj)) d:=λU H Q B=>by
  obtain⟨G,i,h,s,p⟩:=B
  unfold M.Gm at p
  rw [vh,Jh]at p
  refine Wa s.heap Ext.refl s p λC v1 D y d e1 z m l J A=> ?_
  rw [sh l neg]
  exact A y d e1 m.heap
 have fin: ∀U H (Q:Bool->Hp->Prop),cU Y E (M.Gm F (.eY neg a)) U H Q->tD Y E (M.eval F a) U H λv d=> ∃c,V.bl (if neg then !y9 (v= .aj)else y9 (v= .aj))= .bl c/\Q c d:=λU H Q t=>by
  obtain⟨G,i,h,s,p⟩:=g U H Q t
  refine⟨G,i,h,s,?_⟩
  cases q:M.eval F a i h with
  | ok w I=>rw [q]at p;exact λu o e n v r f=>⟨_,rfl,p u o e n v r f⟩
  | fail=>rw [q]at p;exact p
 cases neg with
 | true=>exact PT.imp (vi (rz k)) fin
 | false=>exact PT.imp (vi (tY k)) fin
def rV (h:qh e'=u0):lastMarks [o,o'] [e,e']=false:=Qr h
def vo (J:Go Y F X E k cf)(s:ao Y G τ h U H)
 (m: ∀b h' G' H',P (.v (.bl b)) h' G' H'->R (.bl b) H') (p:av Y E G H (M.eval F (.chain o o' a b c) τ h) P):
 oQ (hU Y o) (hU Y o') (tD Y E (M.eval F a)) (tD Y E (M.eval F b)) (tD Y E (M.eval F c)) U H R:=by
 refine Wa s.heap Ext.refl s p λx v1 O N T e1 D l v V I=> ?_
 refine Wa s.heap e1 l I λr v2 u A Q e2 g e n S d=> ?_
 obtain⟨t,f,d⟩:=d.of
 refine⟨A,u,x,r,t,e.heap,v.ext g l.heap,n,f,t,rfl,?_⟩
 cases t with
 | true=>
  refine Wa s.heap e2 e d λC v3 B z K w j q y L i=> ?_
  obtain⟨t,f,i⟩:=i.of
  exact⟨z,B,r,C,t,q.heap,n.ext j e.heap,y,f,m _ _ _ _ (i.at w q.heap)⟩
 | false=>
  exact m _ _ _ _ (d.at e2 e.heap)
def BK (d:Go Y F X E k cf)(j:qM o=u0) (e:qM o'=u0) (i:qh z=u0) (f:PE X x (tD Y E (M.eval F a))) (l:PE X y (tD Y E (M.eval F b))) (g:PE X z (tD Y E (M.eval F c))):
 PE X (.Compare x [fb o,fb o'] [y,z] pos) (tD Y E (M.eval F (.chain o o' a b c))):=
 PE.imp (AR (xP d o j) (xP d o' e) f l g (rV i)) λU H Q ⟨G,t,h,s,p⟩=>vo d s (λb r n m q=>q _ rfl trivial) p
def AN (g:Go Y F X E k cf){o d:M.Cp}(u:qM o=u0) (i:qM d=u0) (t:qh z=u0) (m:PE X x (tD Y E (M.eval F a))) (v:PE X y (tD Y E (M.eval F b))) (r:PE X z (tD Y E (M.eval F c))):
 PT X (.Compare x [fb o,fb d] [y,z] pos) (cU Y E (M.Gm F (.chain o d a b c))):=by
 refine PT.imp (Iw (xP g o u) (xP g d i) m v r (rV t)) λU H Q B=> ?_
 obtain⟨G,C,h,s,p⟩:=B
 refine vo g s (P:=λw _ _ f=> ∀b,w= .v (.bl b)->Q b f) (λb A j f q=>⟨b,rfl,q b rfl⟩) ?_
 unfold M.Gm at p
 cases q:M.eval F (.chain o d a b c) C h with
 | ok w A=>rw [q]at p;exact λj f e l b n=>by subst n;exact p j f e l
 | fail=>rw [q]at p;exact p
end
def Qb (h:Xb e=u0):starEach (e::es) env=(k9,eval e env)::starEach es env:=by
 cases e<;>first | rfl | (simp [Xb]at h)
def Zq (h: ∀e∈es,Xb e=u0):(backTo pos (starEach es env)).any (·.1)=false:=by
 induction es with
 | nil=>rfl
 | cons e r b=>
  rw [Qb (h e Aa4)]
  show(k9||(backTo pos _).any _)=k9
  rw [b λc a=>h c (Aa2 _ a)]
  rfl
section
variable {Y:Ge}{F:M.Fx}{X:Cx}{E:XK}{k:Nat}{cf:Cf}{a b c:M.E}{x y z:Expr}{pos:Pos}{es:M.Es}{xs:List Expr}
def D0:PA X [] (ij Y E (M.Gv F .nil)):=PA.imp Xs λU H Q ⟨G,a,h,s,p⟩=>p G H Ext.refl s.heap [] rfl
def EU (w:Xb x=u0) (m:PE X x (tD Y E (M.eval F a))) (l:PA X xs (ij Y E (M.Gv F es))):PA X (x::xs) (ij Y E (M.Gv F (.cons a es))):=by
 refine PA.imp (qj m l (Qb w)) λU H Q v=> ?_
 obtain⟨G,J,h,s,p⟩:=v
 refine Wa s.heap Ext.refl s p λz v1 D B K e1 t k i y b=> ?_
 obtain⟨d,q,b⟩:=b.of
 obtain⟨A,e2,f,rd,_⟩:=oB e1 k s i y q
 refine w9 s.heap e2 f b λI e C o g j c r n u=> ?_
 exact u o g j r.heap (v1::e) ⟨v1,e,rfl,rd.ext c f.heap,n⟩
def Bu:PA X [] (fB Y E (M.Gf F .nil)):=PA.imp Xs λU H Q ⟨G,a,h,s,p⟩=>p G H Ext.refl s.heap [] rfl
def Ll (t:Xb x=u0) (j:PE X x (tD Y E (M.eval F a))) (i:PA X xs (fB Y E (M.Gf F es))):PA X (x::xs) (fB Y E (M.Gf F (.cons a es))):=by
 refine PA.imp (qj j i (Qb t)) λU H Q r=> ?_
 obtain⟨G,A,h,s,p⟩:=r
 refine Wa s.heap Ext.refl s p λu v1 y v B e1 n c f C o=> ?_
 refine qr s.heap e1 c o λz d w l e g b m k q=> ?_
 exact q l e g m.heap (v1::d) ⟨v1,d,rfl,f.ext b c.heap,k⟩
def DT {n:Nat}(x:xs.length<=1000) (b: ∀τ h ds h',M.Gv F es τ h= .ok ds h'->ds.length=xs.length) (k:PA X xs (ij Y E (M.Gv F es))):PE X (.Tuple xs n pos) (tD Y E (M.eval F (.tup es))):=by
 refine PE.imp (B1 k) λU H Q t=> ?_
 obtain⟨G,τ,h,s,p⟩:=t
 rw [M.eval]at p
 cases q:M.Gv F es τ h with
 | ok a u=>
  have m:=b _ _ _ _ q
  refine w9 s.heap Ext.refl s (f:=λds h=>if ds.length=xs.length then M.aq (.tup ds) h else .fail) (P:=λw h' l i=> ∀v,ai Y l i w v->aH τ U H w v->Q v i) ?_ λds z A y C e1 r j e c=> ?_
  ·rw [q]at p ⊢
   show av Y E G H (if a.length=xs.length then M.aq (.tup a) u else .fail) _
   rw [if_pos m]
   exact p
  ·by_cases g:ds.length=xs.length
   ·rw [if_pos g]at c
    have B:=e.length
    exact⟨Ag3 (Wp (by omega)),λo d=>az.tup (az.mk c e1 s.heap) j.heap e o d⟩
   ·rw [if_neg g]at c;exact c.elim
 | fail=>rw [q]at p;exact p.elim
def Er (u:xs.length<=1000) (b: ∀τ h ds h',M.Gv F es τ h= .ok ds h'->ds.length=xs.length) (k:PA X xs (ij Y E (M.Gv F es))):PE X (.List xs pos) (tD Y E (M.eval F (.lst es))):=by
 refine PE.imp (LS k) λU H Q r=> ?_
 obtain⟨G,τ,h,s,p⟩:=r
 rw [M.eval]at p
 cases q:M.Gv F es τ h with
 | ok a t=>
  have m:=b _ _ _ _ q
  refine w9 s.heap Ext.refl s (f:=λds h=>if ds.length=xs.length then .ok (.own ds) h else .fail) (P:=λw h' l i=> ∀v,ai Y l i w v->aH τ U H w v->Q v i) ?_ λds y z x B e1 o j e c=> ?_
  ·rw [q]at p ⊢
   show av Y E G H (if a.length=xs.length then .ok (M.W.own a) t else .fail) _
   rw [if_pos m]
   exact p
  ·by_cases g:ds.length=xs.length
   ·rw [if_pos g]at c
    have A:=e.length
    exact⟨Ag3 (Wp (by omega)),λn d=>az.own (az.mk c e1 s.heap) j.heap e n d⟩
   ·rw [if_neg g]at c;exact c.elim
 | fail=>rw [q]at p;exact p.elim
def LR (r:ai Y G H w v):ai Y G H w.arg v:=by
 cases w with
 | v d=>exact r
 | own c=>obtain⟨a,h,g,_,e,f,b⟩:=r;exact⟨a,h,g,e,.inl f,b⟩
 | bor c=>exact r
theorem jz : ∀ {ws}{vs},bh Y G H ws vs->bh Y G H (ws.map M.W.arg) vs
 | [],_,z=>z
 | _::_,_,⟨v,r,c,b,a⟩=>⟨v,r,c,LR b,jz a⟩
def Zy (ws:List M.W): ∀w∈ws.map M.W.arg,my w=true:=λw a=>by
 obtain⟨u,_,rfl⟩:=Ab6.mp a
 cases u<;>rfl
def Fw (a:Go Y F X E k cf)(t:cG cf.sc f g=u0) (l:cf.fns.contains f=u0) (c: ∀e∈x::xs,Xb e=u0) (m:PA X (x::xs) (fB Y E (M.Gf F es))):PE X (.Call g (x::xs) [] pos) (tD Y E (M.eval F (.call f es))):=by
 obtain⟨p,rfl,d,q⟩:=zd t
 obtain⟨z,D,J,b,A,u,C⟩:=(a.fn f l).imp λz h=>h.ex
 refine PE.imp (Hx b a.room (a.gl _ d) C u A .nil a.pass m q (Qb (c _ Aa4)) (Zq λe o=>c e (Aa2 _ o))) λU H Q y=> ?_
 obtain⟨G,K,h,s,p⟩:=y
 refine qr s.heap Ext.refl s p λB I r n L e1 v j i w=> ?_
 rw [Af1]
 exact⟨n,r,_,j.heap,jz i,Zy B,az.mk w e1 s.heap⟩
def B9 (a:Go Y F X E k cf)(i:cG cf.sc f g=u0) (d:cf.fns.contains f=u0):PE X (.Call g [] [] pos) (tD Y E (M.eval F (.call f .nil))):=by
 obtain⟨p,rfl,c,e⟩:=zd i
 obtain⟨m,q,r,b,n,j,o⟩:=(a.fn f d).imp λm h=>h.ex
 refine PE.imp (AK b a.room (a.gl _ c) o j n .nil a.pass e) λU H Q l=> ?_
 obtain⟨G,t,h,s,p⟩:=l
 have p:=p
 exact⟨G,h,_,s.heap,jz (ws:= []) rfl,Zy [],az.mk p Ext.refl s.heap⟩
def Fq (b:M.Bi) (a:lR b=u0):bootBuiltins (Xf (mO b))=k0 (rD b):=by
 cases b<;>first | (exact absurd (show k9=u0 from a) Ab2) | decide +kernel
def yc (b):mO b∈cD:=by cases b<;>decide
def D1 (c:Go Y F X E k cf){b:M.Bi}(q:lR b=u0) (y:cG cf.sc (mO b) g=u0) (r: ∀e∈x::xs,Xb e=u0) (j:PA X (x::xs) (fB Y E (M.Gf F es))):PE X (.Call g (x::xs) [] pos) (tD Y E (M.eval F (.bi b es))):=by
 obtain⟨p,rfl,f,l⟩:=zd y
 have o:=c.blt _ (yc b)
 have i:=qz (yc b)
 have bt:=Fq b q
 have n:zu X _ (nA Y E b):=yr b q c.K c.calm
 have a: ∀U H Q,tD Y E (M.eval F (.bi b es)) U H Q->n9 (nA Y E b) (fB Y E _) U H Q:=λU H Q B=>by
  obtain⟨G,I,h,s,p⟩:=B
  refine qr s.heap Ext.refl s p λC D w u J e1 z d t A=> ?_
  exact⟨u,w,C,d.heap,t,az.mk A e1 s.heap⟩
 have d:=Qb (env:=X.env) (es:=xs) (r _ Aa4)
 have m:=Zq (env:=X.env) (pos:=pos) λe v=>r e (Aa2 _ v)
 cases b with
 | len=>exact PE.imp (Jo n (c.gl _ f) o bt j i l d m) a
 | divmod=>exact PE.imp (Jo n (c.gl _ f) o bt j i l d m) a
 | min=>cases q
 | max=>cases q
 | int=>exact PE.imp (qx n (c.gl _ f) o bt j i l d m) a
 | list=>exact PE.imp (qx n (c.gl _ f) o bt j i l d m) a
 | tuple=>exact PE.imp (qx n (c.gl _ f) o bt j i l d m) a
 | sum=>exact PE.imp (Jo n (c.gl _ f) o bt j i l d m) a
 | all=>exact PE.imp (Jo n (c.gl _ f) o bt j i l d m) a
 | any=>exact PE.imp (Jo n (c.gl _ f) o bt j i l d m) a
 | sorted=>exact PE.imp (Jo n (c.gl _ f) o bt j i l d m) a
 | str=>cases q
 | abs=>cases q
def bx (h:xS o=u0) (w):attributeBase o n env w=w:=by
 cases o with
 | Call f a b p=>
  cases a with
  | nil=>exact absurd (h) Ab2
  | cons x a=>cases f<;>rfl
 | _=>rfl
theorem pG (t): ∀ {ts}{n},M.Ki t ts=k0 n->ke (aD t) (ts.map aD)=k0 n
 | [],_,e=>by cases e
 | y::ys,n,e=>by
  unfold M.Ki at e
  rw [Ab1,ke]
  split at e
  ·rename_i q
   cases e
   rw [if_pos (by rw [q])]
  ·rename_i q
   obtain⟨k,e1,rfl⟩:=Ag2.mp e
   rw [if_neg (λc=>q (by
    have:=congrArg (λs:Str=>s.cps.toList) c
    simpa [aD]using this)),pG t e1]
   rfl
theorem yg {b:Value->Bool}(a: ∀c y,RV hp c y->b y=M.cw c d): ∀ {ys}{L}{j},b9 hp ys L->M.Ks d ys=k0 j-> ∃y,L[j]? =k0 y/\b y=u0/\ ∀m z,m<j->L[m]? =k0 z->b z=k9
 | [],_,_,rfl,h=>by cases h
 | c::ys,_,j,⟨u,r,rfl,g,p⟩,h=>by
  rw [M.Ks]at h
  by_cases q:M.cw c d=u0
  ·rw [if_pos q]at h
   cases h
   exact⟨u,rfl,by rw [a c u g];exact q,λm z k=>absurd k (Ag5 m)⟩
  ·rw [if_neg q]at h
   obtain⟨i,e,rfl⟩:=Ag2.mp h
   obtain⟨y,o,l,n⟩:=yg a p e
   refine⟨y,o,l,λm z k f=> ?_⟩
   cases m with
   | zero=>cases f;rw [a c u g];simpa using q
   | succ m=>exact n m z (by omega) f
def BE (Y:Ge):V->List V->Hp->VK->Prop:=λx c H Q=> ∃G h a b y j,c= [y]/\ag Y G h H/\ai Y G H a x/\ai Y G H b y/\M.Kx b a h=k0 j/\Q (.int (j:Nat)) H
def Bk (r:X.K=Y.K)(f:a9 k X.A):ie X "list.index" (BE Y):=by
 intro w s U H x vs v us Q I E rv ⟨G,h,w1,w2,y,j,R,n,D,P,e,q⟩
 subst R
 obtain⟨u,rfl,V⟩:=rv.one
 unfold M.Kx at e
 split at e
 ·rename_i ys e2
  split at e
  ·rename_i c
   have B:=by simpa using c
   have W:=P.rv I r n V B.1.1.1
   have p:=D.rv I r n E (by simp_all)
   rw [e2]at p
   obtain⟨a,i,rfl,F,g⟩:=p
   obtain⟨S,N,K⟩:=uA f B.1.2 W g
   obtain⟨z,T,Z,O⟩:=yg N g e
   obtain⟨⟨C,dd,l,sl⟩,A,L,k,J⟩:=id F
   subst L J
   have t:=g.length
   obtain⟨hj,h4⟩:=Aa1.mp T
   have hL:=M.Gg
   refine call_meets PySem.F.slot_list_index ⟨_,A,rfl⟩ PySem.F.entry_list_index (PySem.F.args_list_index_2 _ _) (PySem.SeqAt.list_indexAt a i.toArray k dd sl u S j (by simp_all) (by lia) (by simp_all) (λm hm d=> ?_)) ⟨A,K,?_⟩
   ·exact O m _ d (by simp)
   ·exact⟨.int j,H,I.kept λb o e=>e,⟨_,rfl⟩,q⟩
  ·cases e
 ·cases e
def HS (g:Go Y F X E k cf)(hm:uk m=u0) (L:(apos.endLine==k7.line)=u0) (T:xS o=u0) (v:Xb x=u0) (R:PE X o (tD Y E (M.eval F a))) (P:PA X [x] (fB Y E (M.Gf F es))):
 PE X (.Call (.Attribute o (Xf (p9 m)) apos) [x] [] k7) (tD Y E (M.eval F (.dz m a es))):=by
 cases m with
 | index=>
  refine PE.imp (lS PySem.F.plainAttrs_tuple PySem.F.slot_tuple_index PySem.F.type_tuple_index HR Dk R P (bx T _) (by rw [Qb v];rfl) L (Qb v) rfl) λU H Q D=> ?_
  obtain⟨G,τ,h,s,p⟩:=D
  refine Wa s.heap Ext.refl s p λK v1 h1 G1 H1 e1 C f j f1 e=> ?_
  split at e
  ·rename_i y
   obtain⟨xs,ex⟩:=Ah9.mp (y)
   obtain⟨b,z,rfl,r,z3⟩:=j.tup ex
   refine⟨⟨b,rfl,g.K▸r.pl⟩,?_⟩
   refine qr s.heap e1 f e λI us J S H2 e2 d l A c=> ?_
   obtain⟨b',O,V,W,z3'⟩:=ai.ext (w:= .v (.tup xs)) d f.heap ⟨b,z,rfl,r,z3⟩
   cases V
   cases I with
   | nil=>exact c.elim
   | cons w wr=>
    cases wr with
    | cons _ _=>exact c.elim
    | nil=>
     obtain⟨u,rfl,B⟩:=A.one
     have c:=c
     obtain⟨ts,q,c⟩:=c.of
     obtain⟨t,q2,c⟩:=c.of
     obtain⟨n,Z,c⟩:=c.of
     cases B.str q2
     rw [ex,Ag0]at q
     cases JQ q z3'
     split at c
     ·exact⟨b,aD t,n,ts.map aD,rfl,rfl,g.K▸e3.sq W,pG t Z,(az.mk c e2 s.heap).v l.heap rfl⟩
     ·exact c.elim
  ·exact e.elim
 | b3=>
  refine PE.imp (lS PySem.F.plainAttrs_list PySem.F.slot_list_index PySem.F.type_list_index rQ (Bk g.K g.room) R P (bx T _) (by rw [Qb v];rfl) L (Qb v) rfl) λU H Q D=> ?_
  obtain⟨G,τ,h,s,p⟩:=D
  refine Wa s.heap Ext.refl s p λK v1 h1 G1 H1 e1 C f j f1 e=> ?_
  split at e
  ·rename_i y
   obtain⟨ys,N⟩:=Ah9.mp (y)
   obtain⟨b,z,rfl,r,z3⟩:=ai.lst f.heap j N
   refine⟨⟨b,z,rfl,g.K▸r⟩,?_⟩
   refine qr s.heap e1 f e λI us J S H2 e2 d l A c=> ?_
   cases I with
   | nil=>exact c.elim
   | cons w wr=>
    cases wr with
    | cons _ _=>exact c.elim
    | nil=>
     obtain⟨u,rfl,B⟩:=A.one
     have c:=c
     obtain⟨n,q,c⟩:=c.of
     exact⟨S,J,K,w,u,n,rfl,l.heap,j.ext d f.heap,B,q,(az.mk c e2 s.heap).v l.heap rfl⟩
  ·exact e.elim
 | count=>
  refine PE.imp (lS PySem.F.plainAttrs_list PySem.F.slot_list_count PySem.F.type_list_count rQ HF R P (bx T _) (by rw [Qb v];rfl) L (Qb v) rfl) λU H Q D=> ?_
  obtain⟨G,τ,h,s,p⟩:=D
  refine Wa s.heap Ext.refl s p λK v1 h1 G1 H1 e1 C f j f1 e=> ?_
  split at e
  ·rename_i y
   obtain⟨ys,N⟩:=Ah9.mp (y)
   obtain⟨b,z,rfl,r,z3⟩:=ai.lst f.heap j N
   refine⟨⟨b,z,rfl,g.K▸r⟩,?_⟩
   refine qr s.heap e1 f e λI us J S H2 e2 d l A c=> ?_
   cases I with
   | nil=>exact c.elim
   | cons w wr=>
    cases wr with
    | cons _ _=>exact c.elim
    | nil=>
     obtain⟨u,rfl,B⟩:=A.one
     have c:=c
     obtain⟨is,q,c⟩:=c.of
     obtain⟨i,q2,c⟩:=c.of
     obtain⟨ys2,Z,q4⟩:=Ag7.mp q
     obtain⟨b',O,V,y2,y3⟩:=ai.lst l.heap (j.ext d f.heap) Z
     cases V
     cases zJ q4 y3
     cases B.int q2
     split at c
     ·exact⟨b,i,is,rfl,rfl,g.K▸y2,(az.mk c e2 s.heap).v l.heap rfl⟩
     ·exact c.elim
  ·exact e.elim
def CQ: "range" ∈cD:=by decide
def K5: "list" ∈cD:=by decide
def Ik (b:Go Y F X E k cf)(y:cG cf.sc "list" g=true) (e:cG cf.sc "range" g2=true) (j:Xb x=true) (u:PE X x (tD Y E (M.eval F a))):PE X (.Call g [.Call g2 [x] [] pos2] [] pos) (tD Y E (M.eval F (.b0 a))):=by
 obtain⟨p,rfl,m,J⟩:=zd y
 obtain⟨K,rfl,f,B⟩:=zd e
 refine PE.imp (BV b.calm (b.gl _ m) (b.blt _ K5) (b.gl _ f) (b.blt _ CQ) (qj u Xs (Qb j)) (Qb j)) λU H Q C=> ?_
 obtain⟨G,N,h,s,p⟩:=C
 refine Wa s.heap Ext.refl s p λI v1 L v D e1 z r q O d=> ?_
 obtain⟨n,o,d⟩:=d.of
 cases q.int o
 split at d
 ·rename_i c
  refine⟨n.toNat,by rw [Int.toNat_of_nonneg c.1],by lia,λl t=> ?_⟩
  have w:ab Y v D ((Aa8 n.toNat).map λ(i:Nat)=>M.D.int i) ((Aa8 n.toNat).map λ(i:Nat)=>V.int i):=by
   induction Aa8 n.toNat with
   | nil=>rfl
   | cons i is A=>exact⟨_,_,rfl,rfl,A⟩
  exact az.own (az.mk d e1 s.heap) r.heap w l t
 ·exact d.elim
def yM (q:Go Y F X E k cf){s:M.Tx}{d:List M.Tx}{f j:Nat}{m o b c:Pos}(g:(b.endLine==c.line)=u0) (l:me (aD s) (d.map aD)=u0):
 PE X (.Call (.Attribute (.Constant (.str (aD s)) f m) (Xf "split") b) [.Constant (.str bP) j o] [] c) (tD Y E (M.eval F (.dD s d))):=by
 refine PE.imp (lS PySem.F.plainAttrs_str PySem.F.slot_str_split PySem.F.type_str_split Fu Hq nT (qj nT Xs rfl) rfl rfl g rfl rfl) λU H Q n=> ?_
 obtain⟨G,r,h,e,p⟩:=n
 rw [M.eval]at p
 exact⟨⟨_,rfl⟩,aD s,d.map aD,rfl,rfl,l,λa i=>az.own (az.mk p Ext.refl e.heap) e.heap (qU _) a i⟩
def BY (b:Go Y F X E k cf)(e:t≠ .aj) (B:cG cf.sc "isinstance" g=true) (C:cG cf.sc (c6 t) y=true) (l:Xb x=true) (u:PE X x (tD Y E (M.eval F a))):PE X (.Call g [x,y] [] pos) (tD Y E (M.eval F (.b7 a t))):=by
 obtain⟨p,rfl,m,z⟩:=zd B
 obtain⟨q,rfl,J,D⟩:=zd C
 have dC:c6 t∈cD:=by cases t<;>first | exact absurd rfl e | decide
 have bt:bootBuiltins (Xf (c6 t))=k0 (.type (c6 t)):=by cases t<;>first | exact absurd rfl e | decide +kernel
 have bi:bootBuiltins _=k0 _:=boot_isinstance
 have d: "isinstance" ∈cD:=by decide
 have f:PE X (.Name (Xf (c6 t)) q) (tC (.ty (c6 t))):=Eu (b.gl _ J) (b.blt _ dC) bt rfl (qz dC) D
 refine PE.imp (Jo (IU b.K) (b.gl _ m) (b.blt _ d) bi (qj u (qj f Xs) (Qb l)) (qz d) z (Qb l) rfl) λU H Q K=> ?_
 obtain⟨G,L,h,s,p⟩:=K
 rw [M.eval]at p
 refine Wa s.heap Ext.refl s p λo v1 A w N e1 I j n O i=> ?_
 obtain⟨c,r,i⟩:=i.of
 exact⟨w,A,o,v1,t,c,rfl,e,j.heap,n,r,av.val i e1 j.heap (v:= .bl c) rfl trivial⟩
def Mw (xs:List α) (i):M.aU xs i=L2.aU xs i:=rfl
theorem ab.aU (z:ab Y G H ds vs) (e:M.aU ds i=k0 d): ∃v,L2.aU vs i=k0 v/\aA Y G H d v:=by
 unfold M.aU at e
 unfold L2.aU
 rw [z.length]at e
 cases q:M.dv vs.length i with
 | none=>rw [q]at e;cases e
 | some j=>
  rw [q]at e
  obtain⟨v,a,b⟩:=z.get (e)
  refine⟨v,?_,b⟩
  have c:L2.dv vs.length i=k0 j:=q
  rw [c]
  exact a
def JP (a:Xc y=u0):pS y:=by
 intro o i
 cases y<;>first | rfl | (simp [Xc]at a)
def yW (r:Go Y F X E k cf) (K:Xc y=u0) (C:PE X x (tD Y E (M.eval F a))) (N:PE X y (tD Y E (M.eval F b))):PE X (.Subscript x y pos) (tD Y E (M.eval F (.ix a b))):=by
 refine PE.imp (oU DL C N (JP K)) λU H Q R=> ?_
 obtain⟨G,τ,h,s,p⟩:=R
 refine Wa s.heap Ext.refl s p λA v1 W V H1 e1 L t g f1 P=> ?_
 refine Wa s.heap e1 t P λZ v2 z T H2 e2 o n I f2 j=> ?_
 obtain⟨d,q,j⟩:=j.of
 have g:=g.ext o t.heap
 unfold M.dF at q
 split at q
 ·rename_i i O
  cases I.int O
  split at q
  ·rename_i m D
   cases g.str D
   split at q
   ·rename_i S
    cases c:M.aU m i with
    | none=>rw [c]at q;cases q
    | some B=>
     rw [c]at q
     cases q
     refine .inr (.inr ⟨aD m,i,B,rfl,rfl,by rw [ze];have:=Qj;lia,?_,av.val j e2 n.heap rfl trivial⟩)
     have:(aD m).cps.toList=m:=by simp [aD]
     exact c
   ·cases q
  ·cases c:A.seq? z with
   | none=>rw [c]at q;cases q
   | some ds=>
    rw [c]at q
    obtain⟨l,u,rfl,f,J⟩:=g.seq n.heap c
    obtain⟨v,e,rd⟩:=J.aU (q)
    have w:=av.val j e2 n.heap rd trivial
    obtain f | f:=f
    ·exact .inl ⟨l,u,i,v,rfl,rfl,r.K▸f,e,w⟩
    ·exact .inr (.inl ⟨l,u,i,v,rfl,rfl,r.K▸f,e,w⟩)
 ·cases q
end
section
variable {Y:Ge}{F:M.Fx}{X:Cx}{E:XK}{k:Nat}{cf:Cf}{a b c:M.E}{x y z:Expr}{pos p2:Pos}
def oA (xs:List α) (lo hi):M.cut xs lo hi=(xs.drop (HT.aY xs.length 0 lo)).take (HT.aY xs.length xs.length hi-HT.aY xs.length 0 lo):=by
 unfold M.cut
 have e: ∀d o,M.aY xs.length d o=HT.aY xs.length d o:=λd o=>by cases o<;>rfl
 rw [e,e]
theorem ab.cut (z:ab Y G H ds vs) (lo hi):ab Y G H (M.cut ds lo hi) (kG vs lo hi):=by
 rw [oA]
 rw [z.length]
 exact(z.drop _).take _
def nH {b d:Option Int}(n:ag Y G0 h0 H0) (e:Ext G0 H0 G H) (i:ag Y G h H) (r:ai Y G H w v)
 (p:av Y E G0 H0 (M.gf w b d h) λw _ G' H'=> ∀v,ai Y G' H' w v->aH τ U H0 w v->Q v H'):((o9 Y.K v b d H Q\/oD Y.K v b d H Q)\/nJ Y.K v b d H Q)\/ni v b d H Q:=by
 unfold M.gf at p
 split at p
 ·rename_i z q
  cases r.str q
  split at p
  ·rename_i c
   have o:=Qj
   refine .inr ⟨_,rfl,by rw [ze];lia,?_⟩
   have e1:kg (aD z) b d=aD (M.cut z b d):=by
    unfold kg
    rw [ze,oA]
    simp [aD]
   exact az.v (az.mk p e n) i rfl
  ·exact p.elim
 ·split at p
  ·rename_i m q
   obtain⟨l,f,rfl,j,g⟩:=r.tup q
   by_cases c:HT.aY f.length 0 b=0/\HT.aY f.length f.length d=f.length
   ·have e2:M.cut m b d=m:=by
     rw [oA,g.length,c.1,c.2,List.drop_zero,Nat.sub_zero,←g.length,Ap1]
    rw [e2]at p
    exact .inl (.inr ⟨l,f,rfl,j.sq,c.1,c.2,p G H e i _ ⟨l,f,rfl,j,g⟩ trivial⟩)
   ·exact .inl (.inl (.inr ⟨l,f,rfl,j.sq,c,λa k=>az.tup (az.mk p e n) i (g.cut b d) a k⟩))
  ·split at p
   ·rename_i m q
    obtain⟨l,f,rfl,j,g⟩:=r.lst i q
    exact .inl <| .inl <| .inl ⟨l,f,rfl,j,λa k=>az.own (az.mk p e n) i (g.cut b d) a k⟩
   ·exact p.elim
def L0 (K:Aa9):V->Option Int->Option Int->Hp->VK->Prop:=λx lo hi H Q=>((o9 K x lo hi H Q\/oD K x lo hi H Q)\/nJ K x lo hi H Q)\/ni x lo hi H Q
def mZ:gg X (L0 X.K):=((gG.or yL).or FP).or n6
def Ha (n:Go Y F X E k cf){e m:M.E}(v:PE X x (tD Y E (M.eval F a))) (t:PE X l (tD Y E (M.eval F e))) (A:PE X u (tD Y E (M.eval F m))):PE X (.Subscript x (.Slice (k0 l) (k0 u) y0 p2) pos) (tD Y E (M.eval F (.sl a e m))):=by
 refine PE.imp (ZR mZ v (XT t) (XT A)) λU H Q I=> ?_
 obtain⟨G,τ,h,s,p⟩:=I
 refine Wa s.heap Ext.refl s p λL v1 T R H1 e1 B f q f1 D=> ?_
 refine Wa s.heap e1 f D λW v2 K P Z e2 b g y f2 p2=> ?_
 obtain⟨i,C,p2⟩:=p2.of
 refine⟨i,y.int C,?_⟩
 refine Wa s.heap e2 g p2 λV v3 S O J r d z w N c=> ?_
 obtain⟨j,o,c⟩:=c.of
 exact⟨j,w.int o,n.K▸nH s.heap r z.heap ((q.ext b f.heap).ext d g.heap) c⟩
def E6 (e:Go Y F X E k cf){c:M.E}(j:PE X x (tD Y E (M.eval F a))) (g:PE X l (tD Y E (M.eval F c))):PE X (.Subscript x (.Slice (k0 l) y0 y0 p2) pos) (tD Y E (M.eval F (.fu a c))):=by
 refine PE.imp (ZR mZ j (XT g) yb) λU H Q t=> ?_
 obtain⟨G,D,h,s,p⟩:=t
 refine Wa s.heap Ext.refl s p λv v1 z y I e1 o d f J r=> ?_
 refine Wa s.heap e1 d r λA v2 u w B e2 b n m C p2=> ?_
 obtain⟨i,q,p2⟩:=p2.of
 exact⟨i,m.int q,e.K▸nH s.heap e2 n.heap (f.ext b d.heap) p2⟩
def DJ (d:Go Y F X E k cf)(f:PE X x (tD Y E (M.eval F a))) (l:PE X u (tD Y E (M.eval F hi))):PE X (.Subscript x (.Slice y0 (k0 u) y0 p2) pos) (tD Y E (M.eval F (.fU a hi))):=by
 refine PE.imp (ZR mZ f yb (XT l)) λU H Q q=> ?_
 obtain⟨G,C,h,s,p⟩:=q
 refine Wa s.heap Ext.refl s p λt v1 y w D e1 m c e I o=> ?_
 refine Wa s.heap e1 c o λz v2 r v A e2 b j g B p2=> ?_
 obtain⟨i,n,p2⟩:=p2.of
 exact⟨i,g.int n,d.K▸nH s.heap e2 j.heap (e.ext b c.heap) p2⟩
def Gh.cell (G:Gh) (a:Addr):Gh:= { G with aR:=λr=>if r=G.n then a else G.aR r,n:=G.n+1 }
def vf (a):Mon G H (G.cell a) H:=⟨λ_ _ _ z=>z,Ag6 _,λr b=>by show(if r=G.n then a else G.aR r)=_;rw [if_neg (by lia)],λ_ z=>z⟩
def qG {a:Addr}{c:M.Cell}(d:ag Y G h H) (n: ¬G.fz a) (m:dA G a) (z:bw Y G H a c):ag Y (G.cell a) (h++ [c]) H where
 len:=by rw [Aa5,d.len];rfl
 any:=λr g q=>by
  show ¬G.fz (if r=G.n then a else G.aR r)/\bw Y (G.cell a) H (if r=G.n then a else G.aR r) g
  by_cases i:r=G.n
  ·rw [if_pos i]
   rw [i,←d.len,Ad9 (Ab _),Ap]at q
   cases q
   exact⟨n,z.mon (vf a) λ_ e=>e⟩
  ·rw [if_neg i]
   have j:r<G.n:=by
    have:=(Aa1.mp q).1
    rw [Aa5,d.len]at this
    simp at this
    omega
   rw [Ad2 (by rw [d.len];exact j)]at q
   exact⟨(d.any r g q).1,(d.any r g q).2.mon (vf a) λ_ e=>e⟩
 inj:=λr s k l e=>by
  have k:r<G.n+1:=k
  have l:s<G.n+1:=l
  have e:(if r=G.n then a else G.aR r)=(if s=G.n then a else G.aR s):=e
  by_cases f:r=G.n
  ·by_cases b:s=G.n
   ·omega
   ·rw [if_pos f,if_neg b]at e
    exact absurd e.symm (m s (by omega))
  ·by_cases b:s=G.n
   ·rw [if_neg f,if_pos b]at e
    exact absurd e (m r (by omega))
   ·rw [if_neg f,if_neg b]at e
    exact d.inj r s (by omega) (by omega) e
 live:=d.live
def xZ {a:Addr}(d:ag Y G h H) (c: ¬G.fz a) (f:dA G a) (e:H a=k0 (.lst vs)) (z:ab Y G H xs vs) (b:M.Gc xs=u0):ag Y (G.cell a) (h++ [.lst xs]) H:=qG d c f ⟨b,vs,e,z⟩
def EM {a:Addr}(c:ag Y G h H) (b: ¬G.fz a) (d:dA G a)(e:H a=k0 (.ins (Y.ca c0) dx0 [])):ag Y (G.cell a) (h++ [.obj c0 []]) H:=qG c b d ⟨dx0,[],e,rfl⟩
def jA {a:Addr}(e:Ext G0 H0 G H) (d:H0 a=y0):Ext G0 H0 (G.cell a) H where
 keep:=e.keep
 le:=Ab5 e.le (Ag6 _)
 aR:=λr g=>by show(if r=G.n then a else G.aR r)=_;rw [if_neg (by have:=e.le;omega)];exact e.aR r g
 new:=λr f b=>by
  have b:r<G.n+1:=b
  show H0 (if r=G.n then a else G.aR r)=y0
  by_cases c:r=G.n
  ·rw [if_pos c];exact d
  ·rw [if_neg c];exact e.new r f (by omega)
 fz:=e.fz
 old:=e.old
 cells:=e.cells
def F6:PE X (.Dict [] [] pos) (tD Y E (M.eval F .c5)):=by
 refine PE.imp HX λU H Q d=> ?_
 obtain⟨G,e,h,s,p⟩:=d
 intro a b
 have p:=p
 have e1:Ext G H G (aM H a (dS [])):=zr _ b
 have c:=s.heap.new (dS []) b
 refine av.val p (jA e1 b) (qG c (λz=>by obtain⟨o,q⟩:=s.heap.live a z;rw [b]at q;cases q) (s.heap.ft b) ⟨rfl,[],wc,rfl⟩) ?_ trivial
 show h.length<G.n+1/\V.ref a= .ref (if h.length=G.n then a else G.aR h.length)
 rw [s.heap.len,if_pos rfl]
 exact⟨Ag _,rfl⟩
abbrev dm (b:List (M.Tx×M.D)) (a:List V):List (Str×V):=(b.map λp=>aD p.1).zip a
def xU (e:M.GT h o=k0 (r,ks)):o=k0 (.v (.ref r))/\h[r]? =k0 (.aN ks):=by
 unfold M.GT at e
 split at e
 ·split at e
  ·rename_i q
   cases e
   exact⟨rfl,q⟩
  ·cases e
 ·cases e
def qo (s:ao Y G τ h U H)(e:M.GT h (M.Gn τ i)=k0 (r,ks)):U[i]? =k0 (k0 (.ref (G.aR r)))/\M.Gc (ks.map (·.2))=u0/\ ∃j,H (G.aR r)=k0 (dS (dm ks j))/\ab Y G H (ks.map (·.2)) j:=by
 obtain⟨e1,e2⟩:=xU e
 obtain⟨v,b,c⟩:=s.slot i _ e1
 obtain⟨d,a⟩:=(c)
 subst a
 exact⟨b,(s.heap.any r _ e2).2⟩
def ox (a b):(aD a==aD b)=(a==b):=by
 cases q:a==b with
 | true=>rw [eq_of_beq q];exact beq_self_eq_true _
 | false=>exact beq_eq_false_iff_ne.mpr λz=>(beq_eq_false_iff_ne.mp q) (XB z)
section
variable {G:Gh}{H:Hp}
theorem vC {k:M.Tx}: ∀ {ks}{i},ab Y G H (ks.map (·.2)) i->ks.lookup k=k0 d-> ∃v,(dm ks i).lookup (aD k)=k0 v/\aA Y G H d v
 | [],_,_,e=>by cases e
 | (g,x)::fs,_,⟨v,r,rfl,b,a⟩,e=>by
  rw [Ab7]at e
  show ∃w,((aD g,v)::dm fs r).lookup (aD k)=k0 w/\_
  rw [Ab7,ox]
  cases q:k==g with
  | true=>rw [q]at e;cases e;exact⟨v,rfl,b⟩
  | false=>rw [q]at e;exact vC a e
theorem ng {k:M.Tx}: ∀ {ks}{i},ab Y G H (ks.map (·.2)) i->((dm ks i).lookup (aD k)).isSome=(ks.lookup k).isSome
 | [],_,_=>rfl
 | (g,x)::fs,_,⟨v,r,rfl,b,a⟩=>by
  show(((aD g,v)::dm fs r).lookup (aD k)).isSome=_
  rw [Ab7,Ab7,ox]
  cases q:k==g with
  | true=>rfl
  | false=>exact ng a
theorem t7 {k:M.Tx}: ∀ {ks}{i},ab Y G H (ks.map (·.2)) i->((dm ks i).any λp=>y9 (p.1=aD k))=ks.any λp=>y9 (p.1=k)
 | [],_,_=>rfl
 | (g,x)::fs,_,⟨v,r,rfl,b,a⟩=>by
  show(y9 (aD g=aD k)||(dm fs r).any λp=>y9 (p.1=aD k))=(y9 (g=k)||fs.any λp=>y9 (p.1=k))
  rw [t7 a]
  congr 1
  exact decide_eq_decide.mpr ⟨XB,congrArg aD⟩
theorem vn {k:M.Tx}(rv:aA Y G H d v): ∀ {ks}{j},ab Y G H (ks.map (·.2)) j-> ∃i,ab Y G H ((ks.map λp=>if p.1=k then(p.1,d)else p).map (·.2)) i/\((dm ks j).map λp=>if p.1=aD k then(p.1,v)else p)=dm (ks.map λp=>if p.1=k then(p.1,d)else p) i
 | [],_,rfl=>⟨[],rfl,rfl⟩
 | (g,x)::fs,_,⟨u,r,rfl,e,f⟩=>by
  obtain⟨i,a,b⟩:=vn rv f
  by_cases q:g=k
  ·refine⟨v::i,?_,?_⟩
   ·simp only [Ab1,q,if_true]
    exact⟨v,i,rfl,rv,a⟩
   ·show(if aD g=aD k then(aD g,v)else(aD g,u))::(dm fs r).map _=dm ((if g=k then(g,d)else(g,x))::fs.map _) (v::i)
    rw [b,if_pos (congrArg aD q),if_pos q]
    rfl
  ·have c:=λz=>q (XB z)
   refine⟨u::i,?_,?_⟩
   ·simp only [Ab1,q,if_false]
    exact⟨u,i,rfl,e,a⟩
   ·show(if aD g=aD k then(aD g,v)else(aD g,u))::(dm fs r).map _=dm ((if g=k then(g,d)else(g,x))::fs.map _) (u::i)
    rw [b,if_neg c,if_neg q]
    rfl
theorem xR {k:M.Tx}(rv:aA Y G H d v): ∀ {ks}{i},ab Y G H (ks.map (·.2)) i->ab Y G H ((ks++ [(k,d)]).map (·.2)) (i++ [v])/\dm ks i++ [(aD k,v)]=dm (ks++ [(k,d)]) (i++ [v])
 | [],_,rfl=>⟨⟨v,[],rfl,rv,rfl⟩,rfl⟩
 | (g,x)::fs,_,⟨u,r,rfl,b,a⟩=>⟨⟨u,_,rfl,b,(xR rv a).1⟩,congrArg ((aD g,u):: ·) (xR rv a).2⟩
def En {k:M.Tx}(rv:aA Y G H d v)(z:ab Y G H (ks.map (·.2)) us): ∃i,ab Y G H ((M.GE ks k d).map (·.2)) i/\gY (dm ks us) (aD k) v=dm (M.GE ks k d) i:=by
 unfold M.GE gY
 rw [t7 z]
 by_cases c:(ks.any λp=>y9 (p.1=k))=u0
 ·rw [if_pos c,if_pos c];exact vn rv z
 ·rw [if_neg c,if_neg c];exact⟨_,xR rv z⟩
end
theorem jO: ∀ {ds},M.Gc ds=u0↔ ∀d∈ds,M.Gd d=u0
 | []=>⟨λ_ _ h=>absurd h Ai4,λ_=>rfl⟩
 | d::ds=>by
  rw [Aa0,jO,List.forall_mem_cons]
def HZ {k:M.Tx}(b:M.Gd d=u0)(z:M.Gc (ks.map (·.2))=u0):M.Gc ((M.GE ks k d).map (·.2))=true:=by
 rw [jO]at z ⊢
 unfold M.GE
 split
 ·intro y a
  rw [Ad6,Ab6]at a
  obtain⟨p,c,rfl⟩:=a
  dsimp only [Function.comp]
  split
  ·exact b
  ·exact z _ (List.mem_map_of_mem c)
 ·intro y a
  rw [Ae3,Ac5]at a
  obtain a | a:=a
  ·exact z y a
  ·cases Ac3.mp a;exact b
def Io (z:ab Y G H (ks.map (·.2)) us):(dm ks us).length=ks.length:=by
 have:=z.length
 rw [Aa]at this
 rw [Al4,Aa];lia
def FF:R2:=λx y H Q=> ∃k a kvs v,y= .str k/\x= .ref a/\H a=k0 (dS kvs)/\kvs.lookup k=k0 v/\Q v H
def td:gj X FF:=by
 intro c b e s U H x y v u Q I g l ⟨k,a,m,d,h,ex,f,i,q⟩ n
 subst ex h
 cases g
 obtain⟨_,_,_,_,dd⟩:=X9 I f
 exact tail_any dd.mapOf.typeIs slot_dict_getitem.lookup (Cn I f l i λp o j r=>⟨_,H,j,r,q⟩) n
def EB (neg:Bool):R2:=λx y H Q=> ∃k a kvs,x= .str k/\y= .ref a/\H a=k0 (dS kvs)/\Q (.bl (if neg then !(kvs.lookup k).isSome else(kvs.lookup k).isSome)) H
def rC (neg):bG X (compareOp (mK neg)) (EB neg):=by
 intro d j U H x y v u Q I c h ⟨k,a,i,ex,g,e,q⟩
 subst ex g
 cases h
 cases neg with
 | false=>exact Cj I e c λf b=>⟨.bl _,H,b,rfl,q⟩
 | true=>exact Fj I e c λf b=>⟨.bl _,H,b,rfl,q⟩
def Ma:V->V->V->Hp->(Hp->Prop)->Prop:=λo i v H Q=> ∃k a kvs,i= .str k/\o= .ref a/\H a=k0 (dS kvs)/\kvs.length<sizeLine/\Q (aM H a (dS (gY kvs k v)))
def EE:oj X Ma:=by
 intro b r U H o i v p m u Q I h f rv ⟨k,a,n,j,c,g,d,q⟩
 subst j c
 cases h
 exact IY I g f rv d λl e=>⟨_,e,q⟩
def EW:List V->Hp->VK->Prop:=λb H Q=> ∃a kvs,b= [.ref a]/\H a=k0 (dS kvs)/\ ∀p,H p=y0->Q (.ref p) (aM H p (dS kvs))
def AQ:zu X (.type "dict") EW:=by
 intro b m U H l k Q I rv ⟨a,g,i,h,q⟩
 subst i
 cases rv with
 | cons c f=>
  cases f
  cases c
  exact CM I h λp j d e=>⟨.ref p,_,e,rfl,q p d⟩
def yw (o:PE X x (tD Y E (M.eval F a))):PE X x (tD Y E (M.eval F (.share a))):=by
 refine PE.imp o λU H Q w=> ?_
 obtain⟨G,C,h,s,p⟩:=w
 refine Wa s.heap Ext.refl s p λk v1 c g D e1 u i j z b=> ?_
 cases k with
 | own e=>
  obtain⟨l,B,rfl,y,r,t,q⟩:=j
  obtain⟨A,n,m⟩:=z
  cases n
  have b:av Y E G H (if M.Gc e=u0 then M.aq _ (c++ [.lst e])else .fail) _:=b
  by_cases f:M.Gc e=u0
  rotate_left
  ·rw [if_neg f]at b;exact b.elim
  rw [if_pos f]at b
  refine av.val b (jA e1 m) (xZ i.heap y r t q f) ?_ trivial
  show c.length<g.n+1/\V.ref l= .ref (if c.length=g.n then l else g.aR c.length)
  rw [i.heap.len,if_pos rfl]
  exact⟨Ag _,rfl⟩
 | v d=>exact b.elim
 | bor e=>exact b.elim
end
structure XI (Y:Ge) (J:It) (ds:List M.D) (C:Gh->Hp->Prop):Prop where
 go: ∀i G H,C G H->i<ds.length->J.go i H
 fc: ∀i G H x H',C G H->i<ds.length->J.fc i H x H'-> ∃G',Ext G H G' H'/\(∀ h,ag Y G h H->ag Y G' h H')/\ ∃d,ds[i]? =k0 d/\aA Y G' H' d x
 stop: ∀i G H,C G H->ds.length<=i->i<=ds.length->J.stop i H
 keep: ∀G H G' H' h,C G H->Ext G H G' H'->ag Y G h H->C G' H'
noncomputable def Qm (τ:M.Sl) (U:St) (H:Hp):Hp:=λa=>open Classical in if ∃(i:Nat) (xs:List M.D),M.Gn τ i=k0 (.own xs)/\U[i]? =k0 (k0 (.ref a))then y0 else H a
def gC (Y:Ge) (E:XK) (a:Bool) (m:M.Sl->M.AH->M.R (List M.D)):TI:=λU H R=> ∃G τ h,ao Y G τ h U H/\av Y E G H (m τ h) λds _ G' H'=> ∀J C,XI Y J ds C->C G' H'->(a=u0->C G' (Qm τ U H'))->R J H'
def PI.imp (h:PI X tg e t) (k: ∀U H R,t' U H R->t U H R):PI X tg e t':=λa s U H R I q=>h a s U H R I (k _ _ _ q)
section
variable {Y:Ge}{F:M.Fx}{X:Cx}{E:XK}{k:Nat}{cf:Cf}{a b c:M.E}{x y z tg:Expr}{pos p2:Pos}{lp:Bool}
def lr (Y:Ge) (G:Gh) (H:Hp) (l:Addr) (vs:List V):Prop:=(Rd H l (.lst vs)/\dA G l)\/tu Y l vs
def CL (Y:Ge) (ds:List M.D) (l:Addr) (vs:List V) (G:Gh) (H:Hp):Prop:=lr Y G H l vs/\ab Y G H ds vs
def lr.sq (z:lr Y G H l vs):br Y.K H l vs:=z.elim (λz=> .inl z.1) .inr
def iF.nQ (z:iF Y G H l vs) (a:ag Y G h H):lr Y G H l vs:=z.elim (λz=> .inl ⟨z.2,a.off z.1⟩) .inr
def CL.keep (z:CL Y ds l vs G H) (e:Ext G H G' H') (d:ag Y G h H):CL Y ds l vs G' H':=by
 obtain⟨a,c⟩:=z
 refine⟨?_,c.ext e d⟩
 obtain⟨a,b⟩ | a:=a
 ·refine .inl ⟨e.rd a b,?_⟩
  obtain a | ⟨o,a⟩:=a
  ·exact e.off a b
  ·exact e.off a b
 ·exact .inr a
def CL.walk {K:Aa9}(d:K=Y.K):XI Y (ki K l) ds (CL Y ds l vs) where
 go:=by
  rintro i G H ⟨c,b⟩ a
  obtain⟨v,e,_⟩:=b.get (Aa6 a)
  exact⟨vs,v,d▸c.sq,e⟩
 fc:=by
  rintro i G H x g ⟨c,b⟩ a ⟨e,y⟩
  subst e
  obtain⟨v,e,rd⟩:=b.get (Aa6 a)
  have:=y vs (d▸c.sq)
  rw [e]at this
  cases this
  exact⟨G,Ext.refl,λ_ q=>q,_,Aa6 a,rd⟩
 stop:=λi G H ⟨c,b⟩ a _=>⟨vs,d▸c.sq,by rw [← b.length];exact a⟩
 keep:=λG H j g h z e f=>z.keep e f
def CT (Y:Ge) (ds:List M.D) (l:Addr) (vs:List V) (G:Gh) (H:Hp):Prop:=e3 Y G H l vs/\ab Y G H ds vs
def e3.mon (z:e3 Y G H l vs) (e:Mon G H G' H'):e3 Y G' H' l vs:=z.elim (λz=> .inl ⟨e.fz l z.1,e.keep l _ z.1 z.2⟩) λz=> .inr z
def CT.walk {K:Aa9}(d:K=Y.K):XI Y (kj K l) ds (CT Y ds l vs) where
 go:=by
  rintro i G H ⟨c,b⟩ a
  obtain⟨v,e,_⟩:=b.get (Aa6 a)
  exact⟨vs,v,d▸c.sq,e⟩
 fc:=by
  rintro i G H x g ⟨c,b⟩ a ⟨e,y⟩
  subst e
  obtain⟨v,e,rd⟩:=b.get (Aa6 a)
  have:=y vs (d▸c.sq)
  rw [e]at this
  cases this
  exact⟨G,Ext.refl,λ_ q=>q,_,Aa6 a,rd⟩
 stop:=λi G H ⟨c,b⟩ a _=>⟨vs,d▸c.sq,by rw [← b.length];exact a⟩
 keep:=λG H j g h z e f=>⟨z.1.mon (e.mon f),z.2.ext e f⟩
def Cb {b:Int}:XI Y (lO b n) ((Aa8 n).map λ(i:Nat)=>M.D.int (b+(i:Int))) (λ_ _=>True) where
 go:=λi G H _ a=>show i<n by simpa using a
 fc:=λi G H x d _ a c=>by
  obtain⟨e,y⟩:=c
  subst e y
  have a:=by simpa using a
  exact⟨G,Ext.refl,λ_ q=>q,.int (b+i),by simp [a],rfl⟩
 stop:=λi G H _ a _=>show n<=i by simpa using a
 keep:=λ_ _ _ _ _ _ _ _=>trivial
def qH {z:M.Tx}:XI Y (iT (aD z)) (M.gU z) (λ_ _=>True) where
 go:=λi G H _ a=>by
  have a:=by simpa [M.gU]using a
  exact⟨z[i],by simp [aD,a]⟩
 fc:=λi G H x g _ a d=>by
  obtain⟨e,c,b,f⟩:=d
  subst e f
  have a:=by simpa [M.gU]using a
  have b:=by simpa [aD]using b
  exact⟨G,Ext.refl,λ_ q=>q,.str [c],by simp [M.gU,b],rfl⟩
 stop:=λi G H _ a _=>by
  have a:=by simpa [M.gU]using a
  show(aD z).cps[i]? =y0
  simp [aD,a]
 keep:=λ_ _ _ _ _ _ _ _=>trivial
def ql (a: ¬ ∃ i xs,M.Gn τ i=k0 (.own xs)/\U[i]? =k0 (k0 (.ref l))):Qm τ U H l=H l:=by
 unfold Qm
 rw [if_neg a]
def Jp (s:ao Y G τ h U H)(e:M.Gn τ i=k0 (.own xs)) (d:U[i]? =k0 (k0 (.ref l))): ¬G.fz l/\dA G l/\ ∃vs,H l=k0 (.lst vs)/\ab Y G H xs vs:=by
 obtain⟨v,b,a,vs,k,f,g,c,j⟩:=s.slot i _ e
 rw [d]at b
 cases b
 cases k
 exact⟨f,g,vs,c,j⟩
def wz (s:ao Y G τ h U H):Mon G H G (Qm τ U H):=by
 refine⟨λa o z e=> ?_,Ab _,λ_ _=>rfl,λ_ z=>z⟩
 rw [ql λ⟨i,d,b,c⟩=>(Jp s b c).1 z]
 exact e
def F1 (q:Go Y F X E k cf) (B:PE X x (tD Y E (M.eval F a))):PI X tg x (gC Y E k9 (M.Gk F (.seq a))):=by
 refine PI.imp (o4 B) λU H R K=> ?_
 obtain⟨G,L,h,s,p⟩:=K
 rw [M.Gk]at p
 refine Wa s.heap Ext.refl s p λA v1 D n c e1 I r m N f=> ?_
 have lst: ∀ {e:List M.D},av Y E G H (.ok e D) (λe x y t=> ∀J C,XI Y J e C->C y t->(k9=u0->C y (Qm L U t))->R J t)->(∃ l b,v1= .ref l/\lr Y n c l b/\ab Y n c e b) →
  (∃ a,v1= .ref a/\(∃ w,br X.K c a w)/\R (ki X.K a) c)\/(∃ a,v1= .ref a/\(∃ w,cJ X.K c a w)/\R (kj X.K a) c)\/ ∃z,v1= .str z/\R (iT z) c:=λ{e} p ⟨l,b,i,j,o⟩=>
  .inl ⟨l,i,⟨b,q.K▸j.sq⟩,p n c e1 r.heap _ _ (CL.walk (vs:=b) q.K) ⟨j,o⟩ λz=>absurd z Ab2⟩
 cases A with
 | v d=>
  cases d with
  | tup e=>
   obtain⟨l,b,rfl,j,g⟩:=m
   exact .inr (.inl ⟨l,rfl,⟨b,q.K▸j.sq⟩,f n c e1 r.heap _ _ (CT.walk (vs:=b) q.K) ⟨j,g⟩ λz=>absurd z Ab2⟩)
  | lst e=>obtain⟨l,b,i,j,g⟩:=m;exact lst f ⟨l,b,i,j.nQ r.heap,g⟩
  | aj=>exact f.elim
  | bl _=>exact f.elim
  | int _=>exact f.elim
  | str z=>
   cases (show v1= .str (aD z)from m)
   exact .inr (.inr ⟨_,rfl,f n c e1 r.heap _ _ qH trivial λz=>absurd z Ab2⟩)
  | ref _=>exact f.elim
 | own e=>obtain⟨l,b,i,_,g,o,u⟩:=m;exact lst f ⟨l,b,i,.inl ⟨.inl o,g⟩,u⟩
 | bor e=>obtain⟨l,b,i,g,o,u⟩:=m;exact lst f ⟨l,b,i,.inl ⟨o,g⟩,u⟩
def AG (n:Int):((Aa8 n.toNat).map λ(i:Nat)=>M.D.int (i:Int))=(Aa8 n.toNat).map λ(i:Nat)=>M.D.int (0+(i:Int)):=by
 congr 1;funext i;rw [Int.zero_add]
def L9: "range" ∈cD:=by decide
def ZH (d:Go Y F X E k cf)(o:cG cf.sc "range" g=true) (e:Xb x=true) (l:PE X x (tD Y E (M.eval F a))):PI X tg (.Call g [x] [] pos) (gC Y E lp (M.Gk F (.ar a))):=by
 obtain⟨p,rfl,f,w⟩:=zd o
 refine PI.imp (Dd (d.gl _ f) (d.blt _ L9) (qj l Xs (Qb e)) (Qb e)) λU H R t=> ?_
 obtain⟨G,z,h,s,p⟩:=t
 refine Wa s.heap Ext.refl s p λv v1 y m u e1 r j i A b=> ?_
 obtain⟨n,q,b⟩:=b.of
 split at b
 ·rename_i c
  rw [M.GR]at c
  cases i.int q
  rw [AG]at b
  exact⟨n,rfl,c.1,c.2,b m u e1 j.heap _ _ Cb trivial λ_=>trivial⟩
 ·exact b.elim
end
section
variable {Y:Ge}{F:M.Fx}{X:Cx}{E:XK}{k:Nat}{cf:Cf}
theorem jk: ∀(τ) (i j) (w),M.Gn (M.GC τ i w) j=if j=i/\i<τ.length then k0 w else M.Gn τ j
 | [],i,j,w=>by simp
 | x::r,0,0,w=>by simp
 | x::r,0,j+1,w=>by simp
 | x::r,i+1,0,w=>by simp
 | x::r,i+1,j+1,w=>by
  have:=jk r i j w
  simp only [M.GC,M.Gn,this,Aa7]
  by_cases h:j=i/\i<r.length
  ·rw [if_pos h,if_pos (by omega)]
  ·rw [if_neg h,if_neg (by omega)]
theorem Qw: ∀(τ) (i) (w),(M.GC τ i w).length=τ.length
 | [],_,_=>rfl
 | _::_,0,_=>rfl
 | _::r,i+1,w=>by simp [Qw r i w]
theorem zw: ∀ {τ}{i}{w},M.Gn τ i=k0 w->i<τ.length
 | [],_,_,e=>by simp at e
 | _::_,0,_,_=>by simp
 | _::r,i+1,w,e=>by
  have:=zw (by simpa using e)
  simp;omega
theorem ao.set (s:ao Y G τ h U H)(r:ai Y G H w v)
 (m:f9 w=u0-> ∀ j L,j≠i->M.Gn τ j=k0 L->f9 L=u0-> ∀a,v= .ref a->U[j]? ≠k0 (k0 (.ref a))):ao Y G (M.GC τ i w) h (U.set i (k0 v)) H where
 len:=by rw [Qw,Ae4];exact s.len
 slot:=λj L e=>by
  rw [jk]at e
  by_cases c:j=i/\i<τ.length
  ·rw [if_pos c]at e
   cases e
   obtain⟨rfl,c⟩:=c
   exact⟨v,Ab9 (by rw [← s.len];exact c),r⟩
  ·rw [if_neg c]at e
   have t:=λz=>c ⟨z,by subst z;exact zw e⟩
   obtain⟨n,x,y⟩:=s.slot j L e
   exact⟨n,by rw [Ae0 (Ne.symm t)];exact x,y⟩
 apart:=λp q u L a b e1 e2 k g=>by
  rw [jk]at e1 e2
  by_cases d:p=i/\i<τ.length
  ·rw [if_pos d]at e1
   cases e1
   obtain⟨rfl,d⟩:=d
   rw [if_neg (λz=>b z.1.symm)]at e2
   rw [Ab9 (by rw [← s.len];exact d)]at g
   cases g
   rw [Ae0 b]
   exact m rfl q L (Ne.symm b) e2 k a rfl
  ·rw [if_neg d]at e1
   have l:=λz=>d ⟨z,by subst z;exact zw e1⟩
   rw [Ae0 (Ne.symm l)]at g
   by_cases f:q=i/\i<τ.length
   ·rw [if_pos f]at e2
    cases e2
    obtain⟨rfl,f⟩:=f
    rw [Ab9 (by rw [← s.len];exact f)]
    intro z
    cases z
    exact m k p _ l e1 rfl a rfl g
   ·rw [if_neg f]at e2
    have o:=λz=>f ⟨z,by subst z;exact zw e2⟩
    rw [Ae0 (Ne.symm o)]
    exact s.apart p q u L a b e1 e2 k g
 heap:=s.heap
def ao.eA (s:ao Y G τ h U H)(r:aA Y G H d v):ao Y G (M.GC τ i (.v d)) h (U.set i (k0 v)) H:=s.set r λz=>by cases z
def gN:List Nat->List V->St->St
 | i::is,v::a,U=>gN is a (U.set i (k0 v))
 | _,_,U=>U
theorem JM : ∀ {is}{ds}{vs}{τ j}{U},M.aX is ds τ=k0 j->ab Y G H ds vs->ao Y G τ h U H->ao Y G j h (gN is vs U) H/\is.length=vs.length
 | [],[],_,_,_,_,e,rfl,s=>by cases e;exact⟨s,rfl⟩
 | [],_::_,_,_,_,_,e,_,_=>by simp [M.aX]at e
 | _::_,[],_,_,_,_,e,_,_=>by simp [M.aX]at e
 | i::is,d::ds,_,_,_,_,e,⟨v,r,rfl,c,f⟩,s=>by
  obtain⟨a,b⟩:=JM (by simpa [M.aX]using e) f (s.eA c)
  exact⟨a,congrArg (· +1) b⟩
def gM (Y:Ge) (tg:List Nat) (one:Bool):TG:=λv U H Q=>match one with
 | true=> ∃i,tg= [i]/\Q (U.set i (k0 v)) H
 | false=> ∃G ds b a,v= .ref a/\e3 Y G H a b/\ab Y G H ds b/\tg.length=b.length/\Q (gN tg b U) H
theorem WZ (b:Go Y F X E k cf): ∀ {is}{es},qu cf is es=u0->lE X es (λvs U H Q=>vs.length=is.length/\Q (gN is vs U) H)
 | [],[],_=>λa s U H vs f Q I r h=>by
  have c:=Ai5 h.1
  subst c
  exact uZ a s U H [] f Q I r ⟨rfl,h.2⟩
 | [],_::_,h=>by simp [qu]at h
 | _::_,[],h=>by simp [qu]at h
 | i::is,e::es,h=>by
  cases e with
  | Name x p=>
   simp only [qu,Aa0,decide_eq_true_eq]at h
   obtain⟨⟨l,g⟩,j⟩:=h
   have m:=WZ b j
   have c:=b.iU x g
   have d:=QP (Z8 (pos:=p) (by rw [b.N];exact b.nd) (by rw [b.N];exact l) c.1 c.2) m
   intro a s U H vs f Q I r q
   refine d a s U H vs f Q I r ?_
   cases vs with
   | nil=>simp at q
   | cons v vs=>
    refine⟨v,vs,rfl,?_⟩
    exact⟨by simpa using q.1,q.2⟩
  | _=>simp [qu]at h
theorem sP : ∀ {is}{es},qu cf is es=u0->(assignEach es env).length=is.length/\(assignEach es env).findIdx? (·.1)=y0
 | [],[],_=>⟨rfl,rfl⟩
 | [],_::_,h=>by simp [qu]at h
 | _::_,[],h=>by simp [qu]at h
 | i::is,e::es,h=>by
  cases e with
  | Name x p=>
   simp only [qu,Aa0]at h
   obtain⟨a,b⟩:=sP h.2
   have e1:assignEach (.Name x p::es) env=(k9,assign (.Name x p) env)::assignEach es env:=rfl
   rw [e1]
   refine⟨congrArg (· +1) a,?_⟩
   rw [List.findIdx?_cons]
   simp [b]
  | _=>simp [qu]at h
def Jy (c:Go Y F X E k cf)(h:jf cf tg one e=u0):PG X e (gM Y tg one):=by
 cases one with
 | true=>
  cases e with
  | Name x p=>
   simp [jf,Aa0]at h
   cases tg with
   | nil=>simp at h
   | cons i r=>
    cases r with
    | cons _ _=>simp at h
    | nil=>
     simp only [qu,Aa0,decide_eq_true_eq]at h
     obtain⟨_,⟨w,m⟩,_⟩:=h
     have g:=c.iU x m
     have d:=Z8 (pos:=p) (by rw [c.N];exact c.nd) (by rw [c.N];exact w) g.1 g.2
     intro b s U H v u Q I r q
     obtain⟨j,e,q⟩:=q
     cases e
     exact d b s U H v u Q I r q
  | _=>simp [jf]at h
 | false=>
  cases e with
  | Tuple B n p=>
   have h:=h
   obtain⟨o,f⟩:=sP h
   have d:=uo (k:=n) (pos:=p) c.calm (WZ c h) o f
   intro b s U H v u Q I r q
   obtain⟨G,z,t,a,rfl,y,A,l,q⟩:=q
   exact d b s U H _ u Q I r ⟨a,t,rfl,c.K▸y.sq,l.symm,l.symm,q⟩
  | _=>simp [jf]at h
def jn (k) (l): ∀ i,M.Gn (Aa3 k y0++l) (k+i)=M.Gn l i:=by
 induction k with
 | zero=>intro i;simp
 | succ k a=>intro i;rw [Ae5,show k+1+i=(k+i)+1 by lia];exact a i
def xu (k) (l): ∀ {i},i<k->M.Gn (Aa3 k y0++l) i=none:=by
 induction k with
 | zero=>intro i h;lia
 | succ k a=>
  intro i h
  cases i with
  | zero=>rfl
  | succ i=>rw [Ae5];exact a (by lia)
theorem WF: ∀(l) (i),M.Gn l i=(l[i]?).join
 | [],_=>by simp
 | _::_,0=>by simp
 | _::r,i+1=>by simpa using WF r i
def XO (s:ao Y G τ h U H)(e:M.Gj τ j=k0 w): ∃v,U[j]? =k0 (k0 v)/\ai Y G H w v/\(f9 w=u0-> ∃i,M.Gn τ j=k0 i/\f9 i=u0)/\my w=true:=by
 unfold M.Gj at e
 cases q:M.Gn τ j with
 | none=>rw [q]at e;cases e
 | some i=>
  obtain⟨v,b,c⟩:=s.slot j i q
  rw [q]at e
  cases i with
  | v d=>cases e;exact⟨v,b,c,λz=>(by cases z),rfl⟩
  | own g=>cases e;obtain⟨a,n,f,o,k,l,m⟩:=c;exact⟨v,b,⟨a,n,f,k,.inl l,m⟩,λ_=>⟨_,rfl,rfl⟩,rfl⟩
  | bor g=>cases e;exact⟨v,b,c,λ_=>⟨_,rfl,rfl⟩,rfl⟩
def gr (k:Nat) (aB:List Nat) (τ:M.Sl):M.Sl:=Aa3 k y0++aB.map λj=>M.Gj τ j
def Ds (s:ao Y G τ h U H) (kk) (aB)(d:Ub.length=kk+aB.length) (b: ∀i,i<aB.length->Ub[kk+i]? =k0 ((U[aB.getD i 0]?).join)):
 ao Y G (gr kk aB τ) h Ub H where
 len:=by unfold gr;rw [Aa5,Ad3,Aa,d]
 slot:=λi w e=>by
  unfold gr at e
  by_cases f:i<kk
  ·rw [xu kk _ f]at e;cases e
  ·obtain⟨j,rfl⟩: ∃j,i=kk+j:=⟨i-kk,by omega⟩
   rw [jn,WF,Ac2]at e
   cases q:aB[j]? with
   | none=>rw [q]at e;cases e
   | some c=>
    rw [q]at e
    have e:=e
    obtain⟨v,l,m,_⟩:=XO s e
    have g:=(Aa1.mp q).1
    refine⟨v,?_,m⟩
    rw [b j g,Ac8,q]
    show k0 ((U[c]?).join)=_
    rw [l]
    rfl
 apart:=λi j r w a n e1 e2 p o=>by
  exfalso
  unfold gr at e1
  by_cases f:i<kk
  ·rw [xu kk _ f]at e1;cases e1
  ·obtain⟨k,rfl⟩: ∃j,i=kk+j:=⟨i-kk,by omega⟩
   rw [jn,WF,Ac2]at e1
   cases q:aB[k]? with
   | none=>rw [q]at e1;cases e1
   | some c=>
    rw [q]at e1
    have e1:=e1
    obtain⟨_,_,_,_,z⟩:=XO s e1
    cases z
 heap:=s.heap
end
theorem zf {env:Env}{d:NameKind}(g:d≠ .free): ∀ {a:List (Str×NameKind)}{x},a.lookup x=k0 d →
 (a.map λ(n,k)=>if(k==NameKind.free&&env.scope.kind== .function&&env.kindOf n==k0 .cell)then(n,NameKind.cell)else(n,k)).lookup x=k0 d
 | [],_,h=>by simp at h
 | (n,k)::r,x,h=>by
  have i:= @zf env d g r x
  rw [Ab1]
  rw [Ab7]at h
  cases c:x==n with
  | true=>
   rw [c]at h
   have e:=by simpa using h
   subst e
   have j:(k==NameKind.free)=false:=by simpa using g
   simp only [j,Ae8,Ak3,if_false,Ab7,c]
  | false=>
   rw [c]at h
   have q:=i h
   by_cases b:(k==NameKind.free&&env.scope.kind== .function&&env.kindOf n==k0 .cell)=u0
   ·simp only [b,if_true,Ab7,c]
    exact q
   ·have f:=Ak6.mpr b
    simp only [f,Ak3,if_false,Ab7,c]
    exact q
section
variable {Y:Ge}{F:M.Fx}{X:Cx}{E:XK}{k:Nat}{cf:Cf}
structure kn (cf:Cf) (scope:Scope) (N:List Str) (k:Nat) (aB:List Nat):Prop where
 kind:scope.kind= .function
 Hl:(scope.names.map Prod.fst).Nodup
 names: ∀y∈scope.names,y.2= .local->scope.names.lookup y.1=k0 .local
 free: ∀y∈scope.names,y.2= .free->cf.sc.names.lookup y.1=k0 .cell\/cf.sc.names.lookup y.1=k0 .free
 gB: ∀x∈N.drop k,scope.names.lookup x=k0 .free
 aB:QJ cf aB (N.drop k)=u0
 le:k<=N.length
 nd:N.Nodup
def QH (h:oq cf scope N kk aB=u0):kn cf scope N kk aB:=by
 simp only [oq,Aa0,decide_eq_true_eq,Ai6]at h
 obtain⟨⟨⟨⟨⟨⟨⟨⟨b,c⟩,i⟩,d⟩,k⟩,j⟩,g⟩,f⟩,l⟩:=h
 exact⟨b,c,λy a=>i y a,λy a=>d y a,λx e=>k x e,j,g,f⟩
theorem JX (a:Go Y F X E k cf): ∀ {aB}{xs},QJ cf aB xs=u0->cH X aB xs
 | [],[],_=>trivial
 | [],_::_,h=>by simp [QJ]at h
 | _::_,[],h=>by simp [QJ]at h
 | j::e,x::xs,h=>by
  simp only [QJ,Aa0,decide_eq_true_eq]at h
  obtain⟨⟨b,c⟩,d⟩:=h
  exact⟨by rw [a.N];exact b,a.mL x c,JX a d⟩
def qX (a:Go Y F X E k cf)(h:kn cf scope N kk aB):W4 X scope N kk aB:=
 ⟨h.kind,h.Hl,h.names,λy c b=>a.mL y.1 (h.free y c b),h.gB,JX a h.aB,h.le⟩
def sN (h:zV sc x=u0):sc.names.lookup x=k0 .local\/sc.names.lookup x=k0 .cell\/sc.names.lookup x=k0 .free:=by
 unfold zV at h
 split at h
 ·rename_i q;exact .inl q
 ·rename_i q;exact .inr (.inl q)
 ·rename_i q;exact .inr (.inr q)
 ·cases h
def tH (h:iQ sc x=u0):sc.names.lookup x=k0 .local\/sc.names.lookup x=k0 .cell:=by
 unfold iQ at h
 split at h
 ·rename_i q;exact .inl q
 ·rename_i q;exact .inr q
 ·cases h
def pC (h:kU sc x=u0):sc.names.lookup x=k0 .globalImplicit:=by
 unfold kU at h
 split at h
 ·rename_i q;exact q
 ·cases h
def XA (b:Go Y F X E k cf){a:Scope}{N:List Str}{n:Nat}{aB:List Nat}(h:kn cf a N n aB) (C:Addr) (p:List Addr) (s:Shared) (H:Hp):Go Y F (je X N a C p s H) E0 k { cf with sc:=a,N:=N } where
 N:=rfl
 K:=b.K
 cl:=b.cl
 ow:=b.ow
 nd:=h.nd
 g8:=λx c=>by
  rcases sN c with q | q | q
  ·exact .inl (zf (by decide) q)
  ·exact .inr (.inl (zf (by decide) q))
  ·exact .inr (wj q)
 tK:=λx c=>zf (by decide) c
 iU:=λx c=>by
  rcases tH c with q | q
  ·exact⟨.inl (zf (by decide) q),.inr (zf (by decide) q)⟩
  ·exact⟨.inr (zf (by decide) q),.inl (decide_eq_true q)⟩
 mL:=λx c=>by
  rcases c with q | q
  ·exact .inl (zf (by decide) q)
  ·exact wj q
 gl:=λx c=>zf (by decide) (pC c)
 calm:=b.calm
 room:=b.room
 d4:=b.d4
 pass:=λd U y w e v _ m=>m.elim
 blt:=b.blt
 con:=b.con
 fn:=λf j=>by
  obtain⟨g,l,t,r,i,o,u⟩:=(b.fn f j).imp λg h=>h.ex
  exact⟨g,⟨l,t,r,i,o,u⟩⟩
 cls:=b.cls
 fld:=b.fld
 iZ:=b.iZ
 eU:=b.eU
theorem sQ: ∀(is) (vs) (U) (j),j∉is->(gN is vs U)[j]? =U[j]?
 | [],_,_,_,_=>rfl
 | _::_,[],_,_,_=>rfl
 | i::is,v::vs,U,j,h=>by
  show(gN is vs (U.set i (k0 v)))[j]? =U[j]?
  rw [sQ is vs _ j λz=>h (Aa2 _ z),Ae0 (λz:i=j=>h (by rw [z];exact Aa4))]
theorem ZJ: ∀(is) (vs) (U),(gN is vs U).length=U.length
 | [],_,_=>rfl
 | _::_,[],_=>rfl
 | i::is,v::vs,U=>by
  show(gN is vs (U.set i (k0 v))).length=U.length
  rw [ZJ is vs,Ae4]
def ae (e:M.Gp tg one d τ=k0 τ') (r:aA Y G H d x) (s:ao Y G τ h U H)
 (f: ∀L,ao Y G τ' h L H->(∀ j,j∉tg->L[j]? =U[j]?)->L.length=U.length->Q L H):gM Y tg one x U H Q:=by
 cases one with
 | true=>
  cases tg with
  | nil=>cases e
  | cons i m=>
   cases m with
   | cons _ _=>cases e
   | nil=>
    cases e
    exact⟨i,rfl,f _ (s.eA r) (λj c=>Ae0 λz=>c (by simp [z])) (Ae4 ..)⟩
 | false=>
  cases d with
  | tup n=>
   obtain⟨a,b,rfl,o,g⟩:=r
   obtain⟨k,l⟩:=JM (e) g s
   exact⟨G,n,b,a,rfl,o,g,l,f _ k (λj c=>sQ tg b U j c) (ZJ tg b U)⟩
  | _=>cases e
def Bj {step:M.D->M.AH->M.R (Option M.D)}(e:M.Gy step (x::ds) h= .ok ys hf): ∃o h1 r,step x h= .ok o h1/\M.Gy step ds h1= .ok r hf/\ys=(match o with | some y=>y::r | none=>r):=by
 rw [M.Gy]at e
 split at e
 ·rename_i o h1 e1
  split at e
  ·rename_i r a e2
   cases e
   exact⟨o,h1,r,e1,e2,rfl⟩
  ·cases e
 ·cases e
def kX (F:M.Fx) (tg:List Nat) (one:Bool) (f:M.Sl) (a:Bool) (c elt:M.E):M.D->M.AH->M.R (Option M.D):=λd h=>match M.Gp tg one d f with
 | none=> .fail
 | some e=>(if a then(M.eval F c e h).bind λx h=>M.R.of h (M.GZ h x)else .ok u0 h).bind λb h=>match b with
  | true=>(M.eval F elt e h).bind λy h=>(M.R.of h y.d).bind λy h=> .ok (k0 y) h
  | false=> .ok y0 h
def Hh :M.eval F (.comp tg one kk aB it y7 c elt) τ h=(M.Gk F it τ h).bind λds h=>
 if ds.length<=M.bg then(M.Gy (kX F tg one (gr kk aB τ) y7 c elt) ds h).bind λys h=> .ok (.own ys) h else .fail:=by
 rw [M.eval];rfl
noncomputable def kb (F:M.Fx) (a:Bool) (c:M.E):M.Sl->M.AH->M.R Bool:=λτ h=>if a then M.Gm F c τ h else .ok u0 h
def Zh {c d:Type}{r:M.R c}{f:c->M.AH->M.R d}{b:d}{h:M.AH}(e:r.bind f= .ok b h): ∃a h1,r= .ok a h1/\f a h1= .ok b h:=by
 cases r with
 | ok a h1=>exact⟨a,h1,rfl,e⟩
 | fail=>cases e
def X6 (a:qh iter=u0): ∀v,foldedSetIterable iter env v=pure v:=λv=>by cases iter<;>first | rfl | (simp [qh]at a)
def p6 {tg:List Nat}{one e:Bool}{t:Nat}{aB:List Nat}{it:M.It}{c elt:M.E}(htk: ∀i∈tg,i<t){U:St}{H:Hp}{Q:VK}(h0:tD Y E (M.eval F (.comp tg one t aB it e c elt)) U H Q):
 mi t aB (gC Y E k9 (M.Gk F it)) (λ_ _ _ _=>gM Y tg one) (λ_ _ _ _=>cU Y E0 (kb F e c)) (λ_ _ _ _=>tD Y E0 (M.eval F elt)) U H Q:=by
 obtain⟨G,L,h,s,p⟩:=h0
 rw [Hh]at p
 refine⟨G,L,h,s,?_⟩
 cases qi:M.Gk F it L h with
 | fail=>rw [qi]at p;exact p
 | ok k h1=>
  rw [qi]at p
  intro G1 H1 e1 I J C R c0 _ Ca fp st
  have p:av Y E G H (if k.length<=M.bg then(M.Gy (kX F tg one (gr t aB L) e c elt) k h1).bind λS h=> .ok (.own S) h else .fail) λw q l g=> ∀v,ai Y l g w v->aH L U H w v->Q v g:=p
  by_cases hL:k.length<=M.bg
  rotate_left
  ·rw [if_neg hL]at p;exact p.elim
  rw [if_pos hL]at p
  cases qc:M.Gy (kX F tg one (gr t aB L) e c elt) k h1 with
  | fail=>rw [qc]at p;exact p.elim
  | ok S hf=>
   rw [qc]at p
   have p:av Y E G H (.ok (M.W.own S) hf) λw q l g=> ∀v,ai Y l g w v->aH L U H w v->Q v g:=p
   have hLs:=Qj
   refine⟨λi m yv Ub g=> ∃l q done xn,(m=k.length-i/\i<=k.length/\done.length<=i)/\Ext G1 H1 l g/\ag Y l q g/\C l g/\ab Y l g done yv ∧
    M.Gy (kX F tg one (gr t aB L) e c elt) (k.drop i) q= .ok xn hf/\S=done++xn/\Ub.length=t+aB.length/\ ∀j,j<aB.length->Ub[t+j]? =k0 ((U[aB.getD j 0]?).join),⟨k.length,?_⟩,?_⟩
   ·refine⟨G1,h1,[],S,⟨by simp,Af4 _,Ab _⟩,Ext.refl,I,c0,rfl,qc,rfl,?_,λj hj=> ?_⟩
    ·unfold l4;rw [Aa5,Ad3,Aa]
    ·unfold l4
     rw [Ad9 (by simp),Ad3,Am5,Ac2,Aa6 hj,Ac8,Aa6 hj]
     rfl
   ·rintro i m yv Ub g ⟨l,q,done,xn,⟨rfl,hi',hd⟩,e2,f,O,rd,qg,A,n,K⟩
    have ldone:=rd.length
    by_cases B:i<k.length
    ·refine .inr ⟨R.go i l g O B,by omega,_,λyv' Ub' W w=>⟨k.length-(i+1),by omega,w⟩,λx W hy=> ?_⟩
     obtain⟨G4,x4,hx4,d,ed,rdx⟩:=R.fc i l g x W O B hy
     have O:=R.keep _ _ _ _ q O x4 f
     have rd:=rd.ext x4 f
     have e2:=e2.trans I x4
     have f:=hx4 _ f
     have edr:k.drop i=d::k.drop (i+1):=by
      rw [Am1 B]
      rw [Aa6 B]at ed
      cases ed
      rfl
     rw [edr]at qg
     obtain⟨o,h2,r,V,qg2,er⟩:=Bj qg
     unfold kX at V
     cases qb:M.Gp tg one d (gr t aB L)with
     | none=>rw [qb]at V;cases V
     | some y=>
      rw [qb]at V
      have so:=s.ext (e1.trans s.heap e2) f
      have sb:=Ds so t aB n K
      refine ae qb rdx sb λU2 s2 same X=> ?_
      have u: ∀j,j<aB.length->U2[t+j]? =k0 ((U[aB.getD j 0]?).join):=λj hj=>by
       rw [same _ λz=>by have:=htk _ z;omega];exact K j hj
      obtain⟨b,h3,N,a⟩:=Zh (show (kb F e c y q).bind _=_ from V)
      refine⟨G4,y,q,s2,?_⟩
      rw [N]
      intro G3 H3 T Z
      have s3:=s2.ext T Z
      cases b with
      | false=>
       refine oN ?_
       have a:M.R.ok (none:Option M.D) h3= .ok o h2:=a
       cases a
       exact⟨G3,_,done,r,⟨rfl,by omega,by omega⟩,e2.trans I T,Z,R.keep _ _ _ _ q O T f,rd.ext T f,qg2,by rw [A,er],by rw [X];exact n,u⟩
      | true=>
       refine nX ?_
       obtain⟨w,h4,qe,a⟩:=Zh (show (M.eval F elt y h3).bind _=_ from a)
       refine⟨G3,y,h3,s3,?_⟩
       rw [qe]
       intro G4 H4 e4 hr4 v rw' fw
       obtain⟨dd,h5,qd,a⟩:=Zh (show (M.R.of h4 w.d).bind _=_ from a)
       cases qw:w.d with
       | none=>rw [qw]at qd;cases qd
       | some d'=>
        rw [qw]at qd
        cases qd
        cases (show M.R.ok (k0 dd) h4= .ok o h2 from a)
        have s4:=s3.ext e4 hr4
        obtain⟨G5,e5,s5,rdv,m5⟩:=oB e4 s4 s3 rw' fw qw
        have P:=T.trans f e5
        refine⟨G5,_,done++ [dd],r,⟨rfl,by omega,by rw [Aa5,List.length_singleton];omega⟩,e2.trans I P,s5.heap,R.keep _ _ _ _ q O P f,(rd.ext P f).append ⟨v,[],rfl,rdv,rfl⟩,qg2,?_,by rw [X];exact n,u⟩
        rw [A,er]
        simp
    ·have ei:i=k.length:=by omega
     subst ei
     rw [List.drop_length]at qg
     cases (show M.R.ok ([]:List M.D) q= .ok xn hf from qg)
     rw [Af1]at A
     subst A
     exact .inl ⟨R.stop _ l g O (Ab _) (Ab _),by omega,λD hD=>az.own (az.mk p (e1.trans s.heap e2) s.heap) f rd D hD⟩
def DF (d:Go Y F X E k cf)(a:kn cf scope N kk aB)
 (g:aB.length=(N.drop kk).length) (f:jf { cf with sc:=scope,N:=N } tg one t=u0) (e: ∀i∈tg,i<kk) (b:qh iter=u0)
 (h:PI X t iter (gC Y E k9 (M.Gk F it)))
 (m: ∀C fp s H,PE (je X N scope C fp s H) y (tD Y E0 (M.eval F elt)))
 (j: ∀C fp s H,gv (je X N scope C fp s H) ifs (cU Y E0 (kb F y7 c))):
 PE X (.ListComp y [⟨t,iter,ifs,0⟩] scope pos) (tD Y E (M.eval F (.comp tg one kk aB it y7 c elt))):=
 PE.imp (IE (qX d a) h (λC fp s H=>Jy (XA d a C fp s H) f) j m d.calm (X6 b)) λU H Q l=>p6 e l
def J9 (a:Go Y F X E k cf)(p:cf.N[i]? =k0 x) (u:iQ cf.sc x=u0)(h:swapsWith (.ListComp y [⟨t,iter,ifs,0⟩] scope p0) (k0 (.Name x pos2)) pos.line X.env=pure u0) (b:kn cf scope N kk aB)
 (m:aB.length=(N.drop kk).length) (g:jf { cf with sc:=scope,N:=N } tg one t=u0) (j: ∀i∈tg,i<kk) (d:qh iter=u0)
 (r:PI X t iter (gC Y E k9 (M.Gk F it)))
 (o: ∀C fp s H,PE (je X N scope C fp s H) y (tD Y E0 (M.eval F elt)))
 (n: ∀C fp s H,gv (je X N scope C fp s H) ifs (cU Y E0 (kb F y7 c))):
 PS X (.Assign [.Name x pos2] (.ListComp y [⟨t,iter,ifs,0⟩] scope p0) pos) (gX (tD Y E (M.eval F (.comp tg one kk aB it y7 c elt))) (ZY i)):=by
 have l:=a.iU x u
 have f:=ES (by rw [a.N];exact a.nd) (by rw [a.N];exact p) l.1 (qX a b) r (λC fp s H=>Jy (XA a b C fp s H) g) n o h a.calm (X6 d) l.2
 exact λe s U H D I q=>f e s U H D I (p6 j q)
def xr (b:Go Y F X E k cf)(h1:cf.N[i]? =k0 x) (c:zV cf.sc x=u0) (a:bf x=u0):PE X (.Name x p) (mN i):=by
 unfold bf at a
 rw [Aa0]at a
 exact jH (by rw [b.N];exact h1) (b.g8 x c) (by simpa using a.1) (by simpa using a.2)
def rh: "dict" ∈cD:=by decide
def Iz (c:Go Y F X E k cf)(h1:cf.N[i]? =k0 y) (d:zV cf.sc y=u0) (m:bf y=u0) (f:PE X x (tD Y E (M.eval F a))):PE X (.Compare x [mK neg] [.Name y j] pos) (tD Y E (M.eval F (.cT neg a i))):=by
 refine PE.imp (uj (rC neg) f (xr c h1 d m) (Qr rfl)) λU H Q u=> ?_
 obtain⟨G,B,h,s,p⟩:=u
 refine Wa s.heap Ext.refl s p λw v1 h1 l D e1 t b e I j=> ?_
 unfold M.cT at j
 split at j
 ·rename_i g r A q
  cases e
  obtain⟨v,C,z,n,o⟩:=qo b q
  exact⟨_,v,aD g,_,_,rfl,rfl,n,by rw [ng o];exact j l _ e1 b.heap _ rfl trivial⟩
 ·exact j.elim
def Di (c:Go Y F X E k cf)(h1:cf.N[i]? =k0 y) (d:zV cf.sc y=u0) (m:bf y=u0) (f:PE X x (tD Y E (M.eval F a))):PT X (.Compare x [mK neg] [.Name y j] pos) (cU Y E (M.Gm F (.cT neg a i))):=by
 refine PT.imp (pB (rC neg) f (xr c h1 d m) (Qr rfl)) λU H Q u=> ?_
 obtain⟨G,B,h,s,p⟩:=u
 unfold M.Gm at p
 rw [M.eval,Jh]at p
 refine Wa s.heap Ext.refl s p λw v1 h1 l D e1 t b e I j=> ?_
 unfold M.cT at j
 split at j
 ·rename_i g r A q
  cases e
  obtain⟨v,C,z,n,o⟩:=qo b q
  exact⟨_,v,aD g,_,_,rfl,rfl,n,_,rfl,by rw [ng o];exact j l _ e1 b.heap⟩
 ·exact j.elim
def IJ (f:Go Y F X E k cf)(h1:cf.N[i]? =k0 y) (g:zV cf.sc y=u0) (u:bf y=u0) (D:Xc x=u0) (o:PE X x (tD Y E (M.eval F a))):PE X (.Subscript (.Name y j) x pos) (tD Y E (M.eval F (.eD i a))):=by
 refine PE.imp (oU td (xr f h1 g u) o (JP D)) λU H Q J=> ?_
 obtain⟨G,K,h,s,p⟩:=J
 rw [M.eval]at p
 cases q:M.GT h (M.Gn K i)with
 | none=>rw [q]at p;exact p.elim
 | some m=>
  obtain⟨R,n⟩:=m
  rw [q]at p
  have sl:=(qo s q).1
  refine⟨_,sl,?_⟩
  refine Wa s.heap Ext.refl s p λL v1 h1 P T e1 C c l V j=> ?_
  unfold M.eD at j
  split at j
  ·rename_i t r O B
   cases l
   obtain⟨e,S,N,z,A⟩:=qo c B
   have b:=by rw [sl]at e;exact Ad5.inj (Ad5.inj e)
   split at j
   ·rename_i d w
    obtain⟨v,I,rv⟩:=vC A w
    exact⟨aD t,_,_,v,rfl,b,z,I,(az.mk j e1 s.heap).v c.heap rv⟩
   ·exact j.elim
  ·exact j.elim
def yU (c:Go Y F X E k cf)(w:cG cf.sc "dict" g=true) (h1:cf.N[i]? =some y) (j:zV cf.sc y=true) (t:bf y=true):PE X (.Call g [.Name y p1] [] pos) (tD Y E (M.eval F (.ej i))):=by
 obtain⟨p,rfl,n,m⟩:=zd w
 refine PE.imp (qx AQ (c.gl _ n) (c.blt _ rh) (by decide +kernel) (qj (xr c h1 j t) Xs rfl) (qz rh) m rfl rfl) λU H Q x=> ?_
 obtain⟨G,A,h,s,p⟩:=x
 rw [M.eval]at p
 cases q:M.GT h (M.Gn A i)with
 | none=>rw [q]at p;exact p.elim
 | some l=>
  obtain⟨r,f⟩:=l
  rw [q]at p
  obtain⟨B,C,d,u,v⟩:=qo s q
  refine⟨_,B,_,_,rfl,u,λa b=> ?_⟩
  have p:=p
  have e1:Ext G H G (aM H a (dS (dm f d))):=zr _ b
  have e:=s.heap.new (dS (dm f d)) b
  refine av.val p (jA e1 b) (qG e (λz=>by obtain⟨o,q⟩:=s.heap.live a z;rw [b]at q;cases q) (s.heap.ft b) ⟨C,d,wc,v.ext e1 s.heap⟩) ?_ trivial
  show h.length<G.n+1/\V.ref a= .ref (if h.length=G.n then a else G.aR h.length)
  rw [s.heap.len,if_pos rfl]
  exact⟨Ag _,rfl⟩
def BQ (a:M.GN d=u0) (z:aA Y G H d v):aA Y G' H' d v:=by
 cases d<;>first | exact z | exact absurd a (by simp)
def Ba (e:Ext G H G1 H1) (d:H a=y0):Ext G H G1 (aM H1 a o):=
 ⟨λb u z c=>by rw [Qa (λq:b=a=>by rw [q,d]at z;cases z)];exact e.keep b u z c,e.le,e.aR,e.new,e.fz,e.old,λr g z=>by
   obtain⟨u,z⟩:=z
   obtain⟨h,f⟩:=e.cells r g ⟨u,z⟩
   exact⟨h,by rw [Qa (λq:G.aR r=a=>by rw [q,d]at z;cases z)];exact f⟩⟩
def Lj (d:ag Y G h H) (f: ¬G.fz a) (of:dA G a):ag Y G h (aM H a o):=by
 have mon:Mon G H G (aM H a o):=⟨λb u z q=>by rw [Qa (λe:b=a=>f (e▸z))];exact q,Ab _,λ_ _=>rfl,λ_ z=>z⟩
 refine⟨d.len,λq c e=>⟨(d.any q c e).1,(d.any q c e).2.mon mon λu z=>by rw [Qa (of q (d.lt e))];exact z⟩,d.inj,λb z=> ?_⟩
 obtain⟨u,q⟩:=d.live b z
 exact⟨u,by rw [Qa (λe:b=a=>f (e▸z))];exact q⟩
def gD (G:Gh) (H:Hp) (a:Addr) (o:HO):Prop:=H a=k0 o/\ ¬G.fz a/\dA G a
def gD.ext (l:gD G H a o) (e:Ext G H G1 H1):gD G1 H1 a o:=
 ⟨e.keep a o l.1 l.2.2,λz=>(e.old a z).elim l.2.1 (λq=>by rw [l.1]at q;cases q),e.off l.1 l.2.2⟩
def Ck {a b c k:M.Tx}(j:ai Y G H w1 v1) (i:ai Y G H w2 v2) (h:ai Y G H w3 v3) (e: [(a,w1),(b,w2),(c,w3)].lookup k=k0 w): ∃v,[(aD a,v1),(aD b,v2),(aD c,v3)].lookup (aD k)=k0 v/\ai Y G H w v:=by
 simp [Ab7,List.lookup_nil]at e ⊢
 simp [ox]
 cases d:k==a with
 | true=>rw [d]at e;cases e;exact⟨v1,rfl,j⟩
 | false=>
  rw [d]at e
  cases f:k==b with
  | true=>rw [f]at e;cases e;exact⟨v2,rfl,i⟩
  | false=>
   rw [f]at e
   cases g:k==c with
   | true=>rw [g]at e;cases e;exact⟨v3,rfl,h⟩
   | false=>rw [g]at e;cases e
def ED (go:Go Y F X E k cf)(h1:cf.N[i]? =k0 x) (C:zV cf.sc x=u0) (B:bf x=u0) (m:iL k1 q1=u0) (t:iL k2 q2=u0) (y:iL k3 q3=u0) (hn: [k1,k2,k3].Nodup)
 (Z:PE X y1 (tD Y E (M.eval F a))) (hb:PE X y2 (tD Y E (M.eval F b))) (hc:PE X y3 (tD Y E (M.eval F c))):PE X (.Subscript (.Dict [q1,q2,q3] [y1,y2,y3] L) (.Name x p2) pos) (tD Y E (M.eval F (.fD k1 a k2 b k3 c i))):=by
 obtain⟨j1,o1,rfl⟩:=n7 m
 obtain⟨j2,o2,rfl⟩:=n7 t
 obtain⟨K,R,rfl⟩:=n7 y
 have ok:lh X [aD k1,aD k2,aD k3] [tD Y E _,tD Y E _,tD Y E _] [k0 (.Constant (.str (aD k1)) j1 o1),k0 (.Constant (.str (aD k2)) j2 o2),k0 (.Constant (.str (aD k3)) K R)] [y1,y2,y3]:=
  ⟨_,_,_,_,_,_,_,rfl,rfl,rfl,Z,_,_,_,_,_,_,_,rfl,rfl,rfl,hb,_,_,_,_,_,_,_,rfl,rfl,rfl,hc,rfl,rfl,rfl⟩
 refine PE.imp (oU td (C0 ok (by simp) (show 3<=15 by decide) (Ao3.map (l:= [k1,k2,k3]) aD (λa b z q=>z (XB q)) hn)) (xr go h1 C B) (JP rfl)) λU H Q S=> ?_
 obtain⟨G,τ,h,s,p⟩:=S
 rw [M.eval]at p
 intro w e
 have I:Ext G H G (aM H w (dS [])):=zr _ e
 have P:ao Y G τ h U _:=s.ext I (s.heap.new _ e)
 have l0:gD G (aM H w (dS [])) w _:=⟨wc,s.heap.iO e,s.heap.ft e⟩
 refine Wa s.heap I P p λw1 v1 h1 G1 H1 e1 r A V f1 L=> ?_
 refine Wa s.heap e1 A L λw2 v2 C G2 H2 e2 j o r2 f2 p2=> ?_
 refine Wa s.heap e2 o p2 λw3 v3 B G3 H3 W g J r3 f3 f=> ?_
 have n:=((l0.ext r).ext j).ext g
 refine⟨n.1,?_⟩
 unfold M.fD at f
 split at f
 ·rename_i D T
  obtain⟨v,ev,rv⟩:=J.slot i _ T
  cases (show v= .str (aD D)from rv)
  split at f
  ·rename_i d N
   split at f
   ·rename_i hf
    obtain⟨u,O,ru⟩:=Ck ((V.ext j A.heap).ext g o.heap) (r2.ext g o.heap) r3 N
    exact⟨_,ev,aD D,_,_,u,rfl,rfl,wc,O,av.val f (Ba W e) (Lj J.heap n.2.1 n.2.2) (v:=u) (show aA Y G3 _ d u from BQ hf ru) trivial⟩
   ·exact f.elim
  ·exact f.elim
 ·exact f.elim
def sd (h:Str.ofString a=Str.ofString b):a=b:=by
 rw [Str.ofString_eq_toList,Str.ofString_eq_toList]at h
 have e:=by
  have:=congrArg (λs:Str=>s.cps.toList) h
  simpa using this
 have inj: ∀(l m:List Char),l.map Char.toNat=m.map Char.toNat->l=m:=by
  intro l
  induction l with
  | nil=>intro m q;cases m with | nil=>rfl | cons _ _=>cases q
  | cons c l f=>
   intro m q
   cases m with
   | nil=>cases q
   | cons d m=>
    simp [List.cons.injEq]at q
    rw [Char.toNat_inj.mp q.1,f m q.2]
 exact String.toList_inj.mp (inj _ _ e)
def xJ (e:M.GX h o=k0 (r,c,fs)):o=k0 (.v (.ref r))/\h[r]? =k0 (.obj c fs):=by
 unfold M.GX at e
 split at e
 ·split at e
  ·rename_i q
   cases e
   exact⟨rfl,q⟩
  ·cases e
 ·cases e
def yi (s:ao Y G τ h U H)(e:M.GX h (M.Gn τ i)=k0 (r,c,fs)):U[i]? =k0 (k0 (.ref (G.aR r))):=by
 obtain⟨e1,e2⟩:=xJ e
 obtain⟨v,b,d⟩:=s.slot i _ e1
 obtain⟨_,a⟩:=(show r<G.n/\v= .ref (G.aR r)from d)
 rw [b,a]
abbrev gp (fs:List (String×M.D)):List Str:=fs.map λp=>Str.ofString p.1
section
variable {G:Gh}{H:Hp}
def vA (a b):(Xf a==Str.ofString b)=(a==b):=by
 cases q:a==b with
 | true=>rw [eq_of_beq q];exact beq_self_eq_true _
 | false=>exact beq_eq_false_iff_ne.mpr λz=>(beq_eq_false_iff_ne.mp q) (sd z)
theorem pQ : ∀ {fs}{i},ab Y G H (fs.map (·.2)) i->fs.lookup f=k0 d-> ∃v,((gp fs).zip i).lookup (Xf f)=k0 v/\aA Y G H d v
 | [],_,_,e=>by cases e
 | (g,x)::fs,_,⟨v,r,rfl,b,a⟩,e=>by
  rw [Ab7]at e
  show ∃w,(((Str.ofString g),v)::(gp fs).zip r).lookup (Xf f)=k0 w/\_
  rw [Ab7,vA]
  cases q:f==g with
  | true=>rw [q]at e;cases e;exact⟨v,rfl,b⟩
  | false=>rw [q]at e;exact pQ a e
theorem J4 : ∀ {fs}{a:List V},fs.lookup f=y0->((gp fs).zip a).lookup (Xf f)=y0
 | [],_,_=>rfl
 | (g,x)::fs,[],_=>rfl
 | (g,x)::fs,v::r,e=>by
  rw [Ab7]at e
  show(((Str.ofString g),v)::(gp fs).zip r).lookup (Xf f)=y0
  rw [Ab7,vA]
  cases q:f==g with
  | true=>rw [q]at e;cases e
  | false=>rw [q]at e;exact J4 e
theorem zT (rv:aA Y G H d v): ∀ {fs}{j},ab Y G H (fs.map (·.2)) j-> ∃i,ab Y G H ((M.aW f d fs).map (·.2)) i/\L2.aW (Xf f) v ((gp fs).zip j)=(gp (M.aW f d fs)).zip i
 | [],_,z=>by cases z;exact⟨[v],⟨v,[],rfl,rv,rfl⟩,rfl⟩
 | (g,x)::fs,_,⟨u,r,rfl,e,c⟩=>by
  show ∃i,ab Y G H ((if g=f then(g,d)::fs else(g,x)::M.aW f d fs).map (·.2)) i/\(if Str.ofString g=Xf f then(Str.ofString g,v)::(gp fs).zip r else(Str.ofString g,u)::L2.aW (Xf f) v ((gp fs).zip r))=(gp (if g=f then(g,d)::fs else(g,x)::M.aW f d fs)).zip i
  by_cases q:g=f
  ·rw [if_pos q,if_pos (congrArg Str.ofString q)]
   exact⟨v::r,⟨v,r,rfl,rv,c⟩,rfl⟩
  ·rw [if_neg q,if_neg λz=>q (sd z)]
   obtain⟨i,a,b⟩:=zT rv c
   exact⟨u::i,⟨u,i,rfl,e,a⟩,by rw [b];rfl⟩
end
def AX (e:Ext G H G1 H1) (a:r<G.n):ai Y G1 H1 (.v (.ref r)) (.ref (G.aR r)):=⟨Ab4 a e.le,by rw [e.aR r a]⟩
def Hb (b:attributeBase o name env (eval o env)=eval o env) (c:methodCallForm args.length (backTo pos (starEach args env)) (backToKw pos (keywordEach [] env))=u0) (a:(apos.endLine==pos.line)=u0):
 eval (.Call (.Attribute o name apos) args [] pos) env=(do
  let i ←eval o env
  standAt apos.atName
  let (f,first) ←holding [i] (getMethod i name (do return (← importBound o env).getD u0))
  callWith pos f first (backTo pos (starEach args env)) (backToKw pos (keywordEach [] env))):=by
 have e1:methodCallForm (args.length+([]:List Keyword).length) _ _=true:=c
 have e2:methodCallPos u0 o env apos pos=pure pos:=by unfold methodCallPos;simp [a]
 rw [arm_eval_Call,b]
 unfold methodCall
 rw [e1]
 simp only [e2,calleeOf,if_true,pure_bind]
def Lx (h: ∀e∈args,Xb e=u0) (b:args.length<29):methodCallForm args.length (backTo pos (starEach args env)) (backToKw pos (keywordEach [] env))=true:=by
 unfold methodCallForm
 have e1:(backTo pos (starEach args env)).all (λx=> !x.1)=true:=by
  have:=Zq (env:=env) (pos:=pos) h
  rw [Ai6]
  intro x a
  rw [Aj4]at this
  simpa using this x a
 rw [e1]
 have e2:(backToKw pos (keywordEach [] env))= []:=rfl
 rw [e2]
 simp
 lia
def Lc (n:Go Y F X E k cf){c q:String}{g y:Expr}{r:List Expr}{pos:Pos}{es:M.Es}(hg:cG cf.sc c g=u0) (hm:cf.ob.eU.contains (c,q)=u0) (N: ∀e∈y::r,Xb e=u0) (W:PA X (y::r) (fB Y E (M.Gf F es))):
 PE X (.Call g (y::r) [] pos) (tD Y E (M.eval F (.make c q es))):=by
 obtain⟨p0,rfl,Z,R⟩:=zd hg
 obtain⟨z,fa,fd,ps,mk,B,bd⟩:=n.eU c q hm
 refine PE.imp (Fp mk B n.d4 (n.gl _ Z) z bd .nil n.pass W R (Qb (N _ Aa4)) (Zq λe he=>N e (Aa2 _ he))) λU H Q qq=> ?_
 obtain⟨G,τ,h,s,p⟩:=qq
 rw [M.eval]at p
 refine qr s.heap Ext.refl s p λC vs i b l e1 e1' m P j=> ?_
 intro a f o K ne
 rw [Af1]
 have I:aM l f (.own a) a=none:=by rw [Qa (Ne.symm ne)];exact o
 have x1:Ext b l b (aM l f (.own a)):=zr _ K
 have r2:=m.heap.new (.own a) K
 have S:Ext b (aM l f (.own a)) b (aM (aM l f (.own a)) a (.ins (Y.ca c) f [])):=zr _ I
 have r3:=r2.new (.ins (Y.ca c) f []) I
 have lj: ¬b.fz a:=m.heap.iO o
 have O:ag Y (b.cell a) (i++ [.obj c []]) (aM (aM l f (.own a)) a (.ins (Y.ca c) f [])):=EM r3 lj (m.heap.ft o) wc
 have J:Ext b l (b.cell a) (aM (aM l f (.own a)) a (.ins (Y.ca c) f [])):=jA (x1.trans m.heap S) o
 have A:ai Y (b.cell a) (aM (aM l f (.own a)) a (.ins (Y.ca c) f [])) (.v (.ref i.length)) (.ref a):=by
  show i.length<b.n+1/\V.ref a= .ref (if i.length=b.n then a else b.aR i.length)
  rw [m.heap.len,if_pos rfl]
  exact⟨Ag _,rfl⟩
 refine⟨b.cell a,i++ [.obj c []],.v (.ref i.length)::C.map M.W.arg,O,⟨.ref a,vs,rfl,A,bh.ext J m.heap (jz P)⟩,λw t=> ?_,?_⟩
 ·rcases Ac.mp t with rfl | t
  ·rfl
  ·exact Zy C w t
 ·cases L:F.call q (.v (.ref i.length)::C.map M.W.arg) (i++ [.obj c []])with
  | fail=>rw [L]at j;exact j.elim
  | ok w h'=>
   rw [L]at j
   intro G' T x u v rv _
   cases w with
   | own _=>exact j.elim
   | bor _=>exact j.elim
   | v d=>
    cases d with
    | aj=>
     refine⟨rv,?_⟩
     have j:av Y E G H (M.aq (.ref i.length) h') _:=j
     have D:i.length<(b.cell a).n:=A.1
     exact j G' T ((e1.trans s.heap J).trans s.heap x) u (.ref a) ⟨Ab4 D x.le,by rw [x.aR _ D];exact A.2⟩ trivial
    | _=>exact j.elim
def Bf (i:Go Y F X E k cf)(l:cf.ob.fl.contains (c,f)=u0) (e:xS x=u0) (t:PE X x (tD Y E (M.eval F a))):PE X (.Attribute x (Xf f) pos) (tD Y E (M.eval F (.aJ a c f))):=by
 refine PE.imp (D2 t (bx e _)) λU H Q L=> ?_
 obtain⟨G,P,h,s,p⟩:=L
 refine Wa s.heap Ext.refl s p λw v A g R e1 I j n S b=> ?_
 cases q:M.GX A (k0 w)with
 | none=>rw [q]at b;exact b.elim
 | some o=>
  obtain⟨r,J,fs⟩:=o
  rw [q]at b
  dsimp only at b
  split at b
  ·rename_i e
   subst e
   obtain⟨d,B,b⟩:=b.of
   obtain⟨z,e2⟩:=xJ q
   cases z
   obtain⟨_,D⟩:=(show r<g.n/\v= .ref (g.aR r)from n)
   obtain⟨O,m,N,y,C⟩:=j.heap.obj r _ fs e2
   obtain⟨u,K,rv⟩:=pQ C B
   exact⟨g.aR r,Y.ca J,m,_,u,D,y,(i.fld _ _ l).1,(i.fld _ _ l).2,K,av.val b e1 j.heap rv trivial⟩
  ·exact b.elim
def yZ (d:Go Y F X E k cf)(hm:cf.ob.mt.contains (c,m,q0)=u0) (I:(apos.endLine==pos.line)=u0) (u:(y::ys).length<=20) (i:xS x=u0) (T:PE X x (tD Y E (M.eval F a))) (t: ∀e∈y::ys,Xb e=u0) (K:PA X (y::ys) (fB Y E (M.Gf F es))):
 PE X (.Call (.Attribute x (Xf m) apos) (y::ys) [] pos) (tD Y E (M.eval F (.bO a c m q0 es))):=by
 obtain⟨cl,fa,fd,ps,V,n,bd⟩:=d.iZ c m q0 hm
 refine PE.imp (C3 T cl V n d.room bd .nil d.pass K (Qb (t _ Aa4)) (Zq λe N=>t e (Aa2 _ N)) (Hb (bx i _) (Lx t (by lia)) I)) λU H Q qq=> ?_
 obtain⟨G,τ,h,s,p⟩:=qq
 refine Wa s.heap Ext.refl s p λw v W j H1 e1 e1' z D f1 b=> ?_
 cases q:M.GX W (k0 w)with
 | none=>rw [q]at b;exact b.elim
 | some o=>
  obtain⟨r,c',fs⟩:=o
  rw [q]at b
  dsimp only at b
  split at b
  ·rename_i i
   obtain⟨rfl,u⟩:=i
   obtain⟨S,e2⟩:=xJ q
   cases S
   obtain⟨g,rfl⟩:=(show r<j.n/\v= .ref (j.aR r)from D)
   obtain⟨nf,B,us,P,ru⟩:=z.heap.obj r _ fs e2
   refine⟨j.aR r,B,_,rfl,P,J4 (Aj7.mp u),?_⟩
   refine qr s.heap e1 z b λA O C L H2 e2 l Z R J=> ?_
   rw [Af1]
   refine⟨L,C,.v _::A.map M.W.arg,Z.heap,⟨.ref _,O,rfl,AX l g,jz R⟩,λw f=> ?_,az.mk J e2 s.heap⟩
   obtain rfl | f:=Ac.mp f
   ·rfl
   ·exact Zy A w f
  ·exact b.elim
def Lh (o:Go Y F X E k cf)(e:(apos.endLine==pos.line)=u0) (g:xS x=u0) (j:PE X x (tD Y E (M.eval F a))):
 PE X (.Call (.Attribute x (Xf "bit_length") apos) [] [] pos) (tD Y E (M.eval F (.eP a))):=by
 refine PE.imp (Ii PySem.F.plainAttrs_int slot_int_bit_length type_int_bit_length A3 j (bx g _) e) λU H Q n=> ?_
 obtain⟨G,u,h,s,p⟩:=n
 refine Wa s.heap Ext.refl s p λw v t r y e1 l d c z b=> ?_
 obtain⟨i,m,b⟩:=b.of
 cases c.int m
 have f:Builtin.Int.intBits i=M.Kg i:=by
  unfold Builtin.Int.intBits M.Kg
  by_cases q:i=0
  ·rw [if_pos q,if_pos (by rw [q];rfl)]
  ·rw [if_neg q,if_neg (by simpa using q)]
 refine⟨rfl,i,rfl,rfl,?_⟩
 rw [f]
 exact av.val b e1 d.heap rfl trivial
def Au (b:ag Y G h H) (l:de H H'):Ext G H G H'/\ag Y G h H':=
 ⟨⟨λa o e _=>l a o e,Ab _,λ_ _=>rfl,λr f g=>absurd f (An5.mpr g),λ_ h=>h,λ_ h=> .inl h,λr _ ⟨o,e⟩=>⟨o,l _ _ e⟩⟩,
  ⟨b.len,λr c e=>⟨(b.any r c e).1,(b.any r c e).2.mon ⟨λa o _ e=>l a o e,Ab _,λ_ _=>rfl,λ_ h=>h⟩ λo e=>l _ _ e⟩,b.inj,λa d=>(b.live a d).imp λo e=>l _ _ e⟩⟩
def fV (key:Int->M.R M.W) (m:Int):Int:=(M.G7 (key m)).getD 0
theorem J5 : ∀ {is}{b i},M.GW key b (fV key b) is=k0 i->(∀ m∈is,∃y,M.G7 (key m)=k0 y)/\i=fg (fV key) b is
 | [],b,i,h=>⟨λm a=>absurd a Ai4,(Ad5.inj h).symm⟩
 | x::is,b,i,h=>by
  rw [M.GW]at h
  cases q:M.G7 (key x)with
  | none=>rw [q]at h;cases h
  | some y=>
   have e:fV key x=y:=by rw [fV,q];rfl
   rw [q,Ag0]at h
   rw [fg,e]
   by_cases c:y<fV key b
   ·rw [if_pos c,←e]at h
    rw [if_pos c]
    obtain⟨d,f⟩:=J5 h
    exact⟨λm a=>(Ac.mp a).elim (λz=>z▸⟨y,q⟩) (d m),f⟩
   ·rw [if_neg c]at h
    rw [if_neg c]
    obtain⟨d,f⟩:=J5 h
    exact⟨λm a=>(Ac.mp a).elim (λz=>z▸⟨y,q⟩) (d m),f⟩
def Ig (h:M.Ka key o=k0 i): ∃n is,o=k0 (n::is)/\(∀ m∈n::is,∃y,M.G7 (key m)=k0 y)/\i=fg (fV key) n is:=by
 match o,h with
 | some (n::is),h=>
  rw [M.Ka]at h
  cases q:M.G7 (key n)with
  | none=>rw [q]at h;cases h
  | some y=>
   have e:fV key n=y:=by rw [fV,q];rfl
   rw [q,Ag0,←e]at h
   obtain⟨a,b⟩:=J5 h
   exact⟨n,is,rfl,λm c=>(Ac.mp c).elim (λz=>z▸⟨y,q⟩) (a m),b⟩
def rY: "min" ∈cD:=by decide
def Fb (h:M.G7 r=k0 y):r= .ok (.v (.int y)) []:=by
 unfold M.G7 at h
 split at h
 ·cases h;rfl
 ·cases h
def Eg (b:Go Y F X E k cf){f:String}{a:M.E}{g x:Expr}{w:Keyword}{pos:Pos}(d:w.arg=some (Xf "key")) (u:cG cf.sc f w.value=true) (hf:cf.fns.contains f=true) (T:cG cf.sc "min" g=true) (hx:Xb x=true) (W:PE X x (tD Y E (M.eval F a))):
 PE X (.Call g [x] [w] pos) (tD Y E (M.eval F (.eZ f a))):=by
 obtain⟨p0,rfl,J,g3⟩:=zd T
 obtain⟨wa,wv,wq⟩:=w
 obtain⟨j,e1,f2,f3⟩:=zd u
 have e1:wv= .Name (Xf f) j:=e1
 have d:wa=k0 (Xf "key"):=d
 subst e1 d
 obtain⟨ps,fa,fd,B,bd,kp,C⟩:=(b.fn f hf).imp λps h=>h.ex
 refine PE.imp (FE (E:=E0) b.calm b.room.hd (b.gl _ J) (b.blt _ rY) (by decide +kernel) B b.d4 (b.gl _ f2) C bd (λA H s e s' hq=>hq.elim) W (qz rY) g3 f3 (Qb hx)) λU H Q L=> ?_
 obtain⟨G,τ,h,s,p⟩:=L
 rw [M.eval]at p
 refine Wa s.heap Ext.refl s p λw v h1 G1 H1 e1 Z D O f1 j=> ?_
 obtain⟨i,ei,j⟩:=j.of
 obtain⟨n,is,V,N,rfl⟩:=Ig ei
 obtain⟨xs,ex,z⟩:=Ag7.mp V
 obtain⟨l,vs,rfl,sq,rd⟩:=O.lst D.heap ex
 cases zJ z rd
 refine⟨l,n,is,fV λx=>F.call f [.v (.int x)] [],rfl,b.K▸sq,λm C K _=> ?_,λK le=> ?_⟩
 ·obtain⟨y,I⟩:=N m C
  have P:fV (λx=>F.call f [.v (.int x)] []) m=y:=by rw [fV,I];rfl
  refine⟨⟨λ_=>False,λ_=>0,0⟩,[],[.v (.int m)],⟨rfl,λr c e=>by simp at e,λr s t=>absurd t (Ag5 _),λa S=>S.elim⟩,⟨.int m,[],rfl,rfl,rfl⟩,λw d=>by rw [Ac3.mp d];rfl,?_⟩
  rw [Fb I]
  intro G' H' e t v rv _
  have rv:v= .int y:=rv
  exact⟨by rw [rv,P],λa o q=>e.keep a o q λr t=>absurd t (Ag5 _)⟩
 ·obtain⟨x1,R⟩:=Au D.heap le
  exact av.val j (e1.trans s.heap x1) R (w:= .v (.int _)) rfl trivial
end
def PW.eM (h:PT X (.BoolOp op vs pos) t):PW X (.BoolOp op vs pos) t:=λb a s U H Q I q=>by
 have:=h a s U H Q I q
 exact this
theorem WC : ∀ {es}{xs}{τ}{h}{ds}{h'},bW cf es xs=u0->M.Gv F es τ h= .ok ds h'->ds.length=xs.length
 | .nil,xs,_,_,_,_,c,e=>by
  cases Af8.mp c
  rw [M.Gv]at e;cases e;rfl
 | .cons a es,xs,τ,h,ds,h',c,e=>by
  refine kC (λx r c=> ?_) xs c
  obtain⟨w,i,e1,e⟩:=Zh e
  obtain⟨d,f,e2,e⟩:=Zh e
  obtain⟨r,g,b,e⟩:=Zh e
  cases e
  rw [Aa7,Aa7,WC (a2 c).2 b]
theorem xh : ∀ {es}{xs},bW cf es xs=u0-> ∀e∈xs,Xb e=u0
 | .nil,xs,c=>by
  cases Af8.mp c
  intro e b;cases b
 | .cons a es,xs,c=>by
  refine kC (λx r c=> ?_) xs c
  intro e b
  rcases Ac.mp b with rfl | b
  ·exact(a3 c).1
  ·exact xh (a2 c).2 e b
theorem wL : ∀ {aB}{xs},QJ cf aB xs=u0->aB.length=xs.length
 | [],[],_=>rfl
 | [],_::_,h=>by simp [QJ]at h
 | _::_,[],h=>by simp [QJ]at h
 | j::a,x::xs,h=>by
  simp only [QJ,Aa0]at h
  exact congrArg (· +1) (wL h.2)
def yK (h:jp e f=u0):qh e=true:=by
 refine xp (λg x l p h=> ?_) e h
 rfl
def qZ {b:Cf}{it:M.It}{e:Expr}(h:dU b it e=u0):qh e=true:=by
 cases it with
 | seq a=>exact(a2 h).1
 | ar a=>exact yK h
 | ck a=>exact cq h
section
variable {Y:Ge}{F:M.Fx}{k:Nat}
def bo (a:Go Y F X E k cf) (r:PE X x (tD Y E (M.eval F m))) (b: ∀i,isTrue x X.env i=(do let v ←i;standAt x.pos;holding [v] (truthy v))):PE X x (tD Y E (M.eval F m))/\(fN m=u0->PT X x (cU Y E (M.Gm F m))):=⟨r,λ_=>HW a r b⟩
mutual
theorem Qc: ∀(m:M.E){X:Cx}{E:XK}{cf:Cf}{e:Expr},Go Y F X E k cf->xc cf m e=u0->PE X e (tD Y E (M.eval F m))/\(fN m=u0->PT X e (cU Y E (M.Gm F m)))
 | .var i,X,E,cf,e,go,h=>by
  refine zy (λx p h=> ?_) e h
  obtain⟨h1,h2,h3⟩:=fM h
  exact bo go (HB go h1 h2 h3) λ_=>rfl
 | .con c,X,E,cf,e,go,h=>by
  have r:=CA go h
  obtain⟨p,rfl,_,_⟩:=zd h
  exact bo go r λ_=>rfl
 | .int i,X,E,cf,e,go,h=>by
  refine wE (λx n p h=> ?_) e h
  cases of_decide_eq_true h;exact bo go LO λ_=>rfl
 | .bl i,X,E,cf,e,go,h=>by
  refine wE (λx n p h=> ?_) e h
  cases of_decide_eq_true h;exact bo go BX λ_=>rfl
 | .aj,X,E,cf,e,go,h=>by
  refine wE (λx n p h=> ?_) e h
  cases of_decide_eq_true h;exact bo go Dg λ_=>rfl
 | .str i,X,E,cf,e,go,h=>by
  refine wE (λx n p h=> ?_) e h
  cases of_decide_eq_true h;exact bo go Aq λ_=>rfl
 | .tup es,X,E,cf,e,go,h=>by
  refine n0 (λx n p h=> ?_) e h
  obtain⟨h1,h2⟩:=a2 h
  exact bo go (DT (of_decide_eq_true h1) (λτ hh ds h' q=>WC h2 q) (iH es go h2)) λ_=>rfl
 | .lst es,X,E,cf,e,go,h=>by
  refine EN (λx p h=> ?_) e h
  obtain⟨h1,h2⟩:=a2 h
  exact bo go (Er (of_decide_eq_true h1) (λτ hh ds h' q=>WC h2 q) (iH es go h2)) λ_=>rfl
 | .bin o a b,X,E,cf,e,go,h=>by
  refine KQ (λx o y p h=> ?_) e h
  obtain⟨h0,ho,h1,h2⟩:=a4 h
  cases of_decide_eq_true h0
  exact bo go (yq go ho (Qc a go h1).1 (Qc b go h2).1) λ_=>rfl
 | .cmp o a b,X,E,cf,e,go,h=>by
  refine lG (λx o y p h=> ?_) e h
  refine kC (λy r h=> ?_) y h
  obtain⟨h0,ho,hs,h1,h2⟩:=a5 h
  obtain⟨rfl,rfl⟩:=of_decide_eq_true h0
  exact⟨HK go ho hs (Qc a go h1).1 (Qc b go h2).1,λ_=>EH go ho hs (Qc a go h1).1 (Qc b go h2).1⟩
 | .chain o q a b c,X,E,cf,e,go,h=>by
  refine lG (λx o y p h=> ?_) e h
  refine kC (λy r h=> ?_) y h
  refine kC (λz r h=> ?_) r h
  obtain⟨h0,ho,hq,hs,h1,h2,h3⟩:=a7 h
  obtain⟨rfl,rfl⟩:=of_decide_eq_true h0
  exact⟨BK go ho hq hs (Qc a go h1).1 (Qc b go h2).1 (Qc c go h3).1,λ_=>AN go ho hq hs (Qc a go h1).1 (Qc b go h2).1 (Qc c go h3).1⟩
 | .eY neg a,X,E,cf,e,go,h=>by
  refine lG (λx o y p h=> ?_) e h
  refine kC (λy r h=> ?_) y h
  refine wE (λj n p h=> ?_) y h
  obtain⟨h0,h1,h2⟩:=a3 h
  obtain⟨rfl,rfl⟩:=of_decide_eq_true h0
  cases of_decide_eq_true h1
  exact⟨FR (Qc a go h2).1,λ_=>LN (Qc a go h2).1⟩
 | .neg a,X,E,cf,e,go,h=>by
  refine m6 (λo x p h=> ?_) e h
  cases of_decide_eq_true (a2 h).1
  exact bo go (EG (Qc a go (a2 h).2).1) λ_=>rfl
 | .inv a,X,E,cf,e,go,h=>by
  refine m6 (λo x p h=> ?_) e h
  cases of_decide_eq_true (a2 h).1
  exact bo go (IA (Qc a go (a2 h).2).1) λ_=>rfl
 | .not a,X,E,cf,e,go,h=>by
  refine m6 (λo x p h=> ?_) e h
  cases of_decide_eq_true (a2 h).1
  exact⟨AE go (Qc a go (a2 h).2).1,λt=>y6 ((Qc a go (a2 h).2).2 t)⟩
 | .and a b,X,E,cf,e,go,h=>by
  refine tx (λo x p h=> ?_) e h
  refine kC (λx r h=> ?_) x h
  refine kC (λy r h=> ?_) r h
  obtain⟨h0,h1,h2⟩:=a3 h
  cases of_decide_eq_true h0
  cases r with
  | nil=>exact⟨sO go (Qc a go h1).1 (tU (Qc b go h2).1),λt=>(vc ((Qc a go h1).2 (a2 t).1) (Bh ((Qc b go h2).2 (a2 t).2))).pt⟩
  | cons z r=>exact⟨sO go (Qc a go h1).1 (Qc b go h2).1,λt=>(vc ((Qc a go h1).2 (a2 t).1) (PW.eM ((Qc b go h2).2 (a2 t).2))).pt⟩
 | .or a b,X,E,cf,e,go,h=>by
  refine tx (λo x p h=> ?_) e h
  refine kC (λx r h=> ?_) x h
  refine kC (λy r h=> ?_) r h
  obtain⟨h0,h1,h2⟩:=a3 h
  cases of_decide_eq_true h0
  cases r with
  | nil=>exact⟨tS go (Qc a go h1).1 (tU (Qc b go h2).1),λt=>(pZ ((Qc a go h1).2 (a2 t).1) (DO ((Qc b go h2).2 (a2 t).2))).pt⟩
  | cons z r=>exact⟨tS go (Qc a go h1).1 (Qc b go h2).1,λt=>(pZ ((Qc a go h1).2 (a2 t).1) (PW.eM ((Qc b go h2).2 (a2 t).2))).pt⟩
 | .call f es,X,E,cf,e,go,h=>by
  refine xp (λg x l p h=> ?_) e h
  refine kE (λh=> ?_) l h
  obtain⟨h1,h2,h3⟩:=a3 h
  cases x with
  | nil=>
   cases es with
   | cons _ _=>exact cq h3
   | nil=>
    have r:=B9 (pos:=p) go h1 h2
    obtain⟨p,rfl,_,_⟩:=zd h1
    exact bo go r λ_=>rfl
  | cons x r=>
   have r:=Fw (pos:=p) go h1 h2 (xh h3) (dr es go h3)
   obtain⟨p,rfl,_,_⟩:=zd h1
   exact bo go r λ_=>rfl
 | .bi b es,X,E,cf,e,go,h=>by
  refine xp (λg x l p h=> ?_) e h
  refine kE (λh=> ?_) l h
  refine kC (λx r h=> ?_) x h
  obtain⟨h1,h2,h3⟩:=a3 h
  have r:=D1 (pos:=p) go h2 h1 (xh h3) (dr es go h3)
  obtain⟨p,rfl,_,_⟩:=zd h1
  exact bo go r λ_=>rfl
 | .b7 a t,X,E,cf,e,go,h=>by
  refine xp (λg x l p h=> ?_) e h
  refine kE (λh=> ?_) l h
  refine kC (λx r h=> ?_) x h
  refine kC (λy r h=> ?_) r h
  refine kE (λh=> ?_) r h
  obtain⟨h1,h2,h3,h4,h5⟩:=a5 h
  have r:=BY (pos:=p) go (of_decide_eq_true h3) h1 h2 h4 (Qc a go h5).1
  obtain⟨p,rfl,_,_⟩:=zd h1
  exact bo go r λ_=>rfl
 | .ix a b,X,E,cf,e,go,h=>by
  refine gb (λx y p h=> ?_) e h
  obtain⟨h1,h2,h3⟩:=a3 h
  exact bo go (yW go h1 (Qc a go h2).1 (Qc b go h3).1) λ_=>rfl
 | .sl a lo hi,X,E,cf,e,go,h=>by
  refine gb (λx y p h=> ?_) e h
  refine nR (λl u z p2 h=> ?_) y h
  refine kS (λl h=> ?_) l h
  refine kS (λu h=> ?_) u h
  obtain⟨h0,h1,h2,h3⟩:=a4 h
  cases nn h0
  exact bo go (Ha go (Qc a go h1).1 (Qc lo go h2).1 (Qc hi go h3).1) λ_=>rfl
 | .fu a lo,X,E,cf,e,go,h=>by
  refine gb (λx y p h=> ?_) e h
  refine nR (λl u z p2 h=> ?_) y h
  refine kS (λl h=> ?_) l h
  obtain⟨h0,h1,h2,h3⟩:=a4 h
  cases nn h0;cases nn h1
  exact bo go (E6 go (Qc a go h2).1 (Qc lo go h3).1) λ_=>rfl
 | .fU a hi,X,E,cf,e,go,h=>by
  refine gb (λx y p h=> ?_) e h
  refine nR (λl u z p2 h=> ?_) y h
  refine kS (λu h=> ?_) u h
  obtain⟨h0,h1,h2,h3⟩:=a4 h
  cases nn h0;cases nn h1
  exact bo go (DJ go (Qc a go h2).1 (Qc hi go h3).1) λ_=>rfl
 | .comp tg one kk aB it y7 c elt,X,E,cf,e,go,h=>by
  refine ub (λy g s p h=> ?_) e h
  refine kC (λg r h=> ?_) g h
  obtain⟨t,iter,ifs,z⟩:=g
  obtain⟨h0,h1,h2,h3,h4,h5,h6⟩:=a7 h
  obtain⟨rfl,rfl⟩:=of_decide_eq_true h0
  simp only [Ai6,decide_eq_true_eq]at h2
  have sc:=QH h1
  have ht: ∀C fp w H,gv (je X (Wy cf t aB) s C fp w H) ifs (cU Y E0 (kb F y7 c)):=λC fp w H=>by
   have gc:=XA go sc C fp w H
   cases y7 with
   | true=>
    refine kC (λz r h=> ?_) ifs h6
    refine kE (λh=> ?_) r h
    exact uz ((Qc c gc (a2 h).2).2 (a2 h).1)
   | false=>
    cases Af8.mp h6
    intro pins s1 U H1 Q I ⟨G,τ,h,st,p⟩
    exact ue pins s1 U H1 Q I (p G H1 Ext.refl st.heap)
  exact bo go (DF go sc (wL sc.aB) h3 h2 (qZ h4) (lg it go h4) (λC fp s H=>(Qc elt (XA go sc C fp s H) h5).1) ht) λ_=>rfl
 | .c5,X,E,cf,e,go,h=>by
  refine uC (λx y p h=> ?_) e h
  cases Af8.mp (a2 h).1
  cases Af8.mp (a2 h).2
  exact bo go F6 λ_=>rfl
 | .eD i a,X,E,cf,e,go,h=>by
  refine gb (λg y p h=> ?_) e h
  refine zy (λx p1 h=> ?_) g h
  obtain⟨h0,h4,h5⟩:=a3 h
  obtain⟨h1,h2,h3⟩:=fM h0
  exact bo go (IJ go h1 h2 h3 h4 (Qc a go h5).1) λ_=>rfl
 | .cT neg a i,X,E,cf,e,go,h=>by
  refine lG (λx o y p h=> ?_) e h
  refine kC (λy r h=> ?_) y h
  refine zy (λy p1 h=> ?_) y h
  obtain⟨h0,h1,h4⟩:=a3 h
  obtain⟨rfl,rfl⟩:=of_decide_eq_true h0
  obtain⟨h1,h2,h3⟩:=fM h1
  exact⟨Iz go h1 h2 h3 (Qc a go h4).1,λ_=>Di go h1 h2 h3 (Qc a go h4).1⟩
 | .fD k1 a k2 b k3 c i,X,E,cf,e,go,h=>by
  refine gb (λd y p h=> ?_) e h
  refine uC (λks vs p0 h=> ?_) d h
  refine zy (λx p1 h=> ?_) y h
  refine kC (λq1 ks h=> ?_) ks h
  refine kC (λq2 ks h=> ?_) ks h
  refine kC (λq3 ks h=> ?_) ks h
  refine kE (λh=> ?_) ks h
  refine kC (λv1 vs h=> ?_) vs h
  refine kC (λv2 vs h=> ?_) vs h
  refine kC (λv3 vs h=> ?_) vs h
  refine kE (λh=> ?_) vs h
  obtain⟨g1,g2⟩:=a2 h
  obtain⟨h0,h4,h5,h6⟩:=a4 g1
  obtain⟨h7,h8,h9,h10⟩:=a4 g2
  obtain⟨h1,h2,h3⟩:=fM h0
  exact bo go (ED go h1 h2 h3 h4 h5 h6 (of_decide_eq_true h7) (Qc a go h8).1 (Qc b go h9).1 (Qc c go h10).1) λ_=>rfl
 | .ej i,X,E,cf,e,go,h=>by
  refine xp (λg x l p h=> ?_) e h
  refine kE (λh=> ?_) l h
  refine kC (λx r h=> ?_) x h
  refine kE (λh=> ?_) r h
  obtain⟨h0,h1⟩:=a2 h
  refine zy (λx p1 h=> ?_) x h1
  obtain⟨h1,h2,h3⟩:=fM h
  exact bo go (yU go h0 h1 h2 h3) λ_=>rfl
 | .share a,X,E,cf,e,go,h=>⟨yw (Qc a go h).1,λt=>cq t⟩
 | .b0 a,X,E,cf,e,go,h=>by
  refine xp (λg x l p h=> ?_) e h
  refine kE (λh=> ?_) l h
  refine kC (λx r h=> ?_) x h
  refine kE (λh=> ?_) r h
  refine xp (λg2 x l p2 h=> ?_) x h
  refine kE (λh=> ?_) l h
  refine kC (λx r h=> ?_) x h
  refine kE (λh=> ?_) r h
  obtain⟨h1,h2,h3,h4⟩:=a4 h
  exact bo go (Ik go h1 h2 h3 (Qc a go h4).1) λ_=>rfl
 | .dD s ts,X,E,cf,e,go,h=>by
  refine xp (λg x l p h=> ?_) e h
  refine kE (λh=> ?_) l h
  refine kC (λx r h=> ?_) x h
  refine kE (λh=> ?_) r h
  refine xV (λo n q h=> ?_) g h
  refine wE (λc k1 p1 h=> ?_) o h
  refine wE (λc2 k2 p2 h=> ?_) x h
  obtain⟨h1,h2,h3,h4,h5⟩:=a5 h
  cases of_decide_eq_true h1
  cases of_decide_eq_true h2
  cases of_decide_eq_true h3
  exact bo go (yM go h4 h5) λ_=>rfl
 | .make c q es,X,E,cf,e,go,h=>by
  refine xp (λg x l p h=> ?_) e h
  refine kE (λh=> ?_) l h
  refine kC (λx r h=> ?_) x h
  obtain⟨h1,h2,h3⟩:=a3 h
  exact bo go (Lc go h1 h2 (xh h3) (dr es go h3)) λ_=>rfl
 | .aJ a c f,X,E,cf,e,go,h=>by
  refine xV (λx n q h=> ?_) e h
  obtain⟨h0,h1,h2,h3⟩:=a4 h
  cases of_decide_eq_true h0
  exact bo go (Bf go h1 h2 (Qc a go h3).1) λ_=>rfl
 | .bO a c m q es,X,E,cf,e,go,h=>by
  refine xp (λg ys l p h=> ?_) e h
  refine kE (λh=> ?_) l h
  refine xV (λx n p2 h=> ?_) g h
  obtain⟨h0,h1,h2,h3,h4,h5,h6⟩:=a7 h
  cases of_decide_eq_true h0
  revert h3
  refine kC (λy ys h6 h3=> ?_) ys h6
  exact bo go (yZ go h1 h2 (of_decide_eq_true h3) h4 (Qc a go h5).1 (xh h6) (dr es go h6)) λ_=>rfl
 | .eP a,X,E,cf,e,go,h=>by
  refine xp (λg ys l p h=> ?_) e h
  refine kE (λh=> ?_) l h
  refine kE (λh=> ?_) ys h
  refine xV (λx n p2 h=> ?_) g h
  obtain⟨h0,h1,h2,h3⟩:=a4 h
  cases of_decide_eq_true h0
  exact bo go (Lh go h1 h2 (Qc a go h3).1) λ_=>rfl
 | .eZ f a,X,E,cf,e,go,h=>by
  refine xp (λg ys l p h=> ?_) e h
  refine kC (λx r h=> ?_) ys h
  refine kE (λh=> ?_) r h
  refine kC (λw r h=> ?_) l h
  refine kE (λh=> ?_) r h
  obtain⟨h0,h1,h2,h3,h4,h5⟩:=a6 h
  exact bo go (Eg go (of_decide_eq_true h0) h1 h2 h3 h4 (Qc a go h5).1) λ_=>rfl
 | .dz m a es,X,E,cf,e,go,h=>by
  refine xp (λg x l p h=> ?_) e h
  refine kE (λh=> ?_) l h
  refine kC (λx r h=> ?_) x h
  refine kE (λh=> ?_) r h
  refine xV (λo n q h=> ?_) g h
  obtain⟨h1,h2,h3,h4,h5,h6⟩:=a6 h
  cases of_decide_eq_true h1
  exact bo go (HS go h2 h3 h4 (xh h6 _ Aa4) (Qc a go h5).1 (dr es go h6)) λ_=>rfl
theorem iH: ∀(es:M.Es){X:Cx}{E:XK}{cf:Cf}{xs:List Expr},Go Y F X E k cf->bW cf es xs=u0->PA X xs (ij Y E (M.Gv F es))
 | .nil,X,E,cf,xs,go,h=>by
  cases Af8.mp h
  exact D0
 | .cons a es,X,E,cf,xs,go,h=>by
  refine kC (λx r h=> ?_) xs h
  obtain⟨h1,h2,h3⟩:=a3 h
  exact EU h1 (Qc a go h2).1 (iH es go h3)
theorem dr: ∀(es:M.Es){X:Cx}{E:XK}{cf:Cf}{xs:List Expr},Go Y F X E k cf->bW cf es xs=u0->PA X xs (fB Y E (M.Gf F es))
 | .nil,X,E,cf,xs,go,h=>by
  cases Af8.mp h
  exact Bu
 | .cons a es,X,E,cf,xs,go,h=>by
  refine kC (λx r h=> ?_) xs h
  obtain⟨h1,h2,h3⟩:=a3 h
  exact Ll h1 (Qc a go h2).1 (dr es go h3)
theorem lg: ∀(it:M.It){X:Cx}{E:XK}{cf:Cf}{tg e:Expr},Go Y F X E k cf->dU cf it e=u0->PI X tg e (gC Y E k9 (M.Gk F it))
 | .seq a,X,E,cf,tg,e,go,h=>F1 go (Qc a go (a2 h).2).1
 | .ar a,X,E,cf,tg,e,go,h=>by
  refine xp (λg x l p h=> ?_) e h
  refine kE (λh=> ?_) l h
  refine kC (λx r h=> ?_) x h
  refine kE (λh=> ?_) r h
  obtain⟨h1,h2,h3⟩:=a3 h
  exact ZH go h1 h2 (Qc a go h3).1
 | .ck a,X,E,cf,tg,e,go,h=>cq h
end
end
structure Bs where
 G:Gh
 H:Hp
 h:M.AH
structure bq (Y:Ge) (B:Bs) (G:Gh) (τ:M.Sl) (h:M.AH) (U:St) (H:Hp):Prop where
 st:ao Y G τ h U H
 ext:Ext B.G B.H G H
 hr:ag Y B.G B.h B.H
 own: ∀i xs a,M.Gn τ i=k0 (.own xs)->U[i]? =k0 (k0 (.ref a))->B.H a=y0
def Zs (Y:Ge) (E:XK) (B:Bs) (o:M.O) (D:iB):Prop:=match o with
 | .next τ h=> ∀G U H,bq Y B G τ h U H->D.nx U H
 | .ret w h=> ∀G v H,Ext B.G B.H G H->ag Y G h H->ai Y G H w v->aH [] [] B.H w v->D.rt v H
 | .brk τ h=> ∀G U H,bq Y B G τ h U H->D.bk U H
 | .cont τ h=> ∀G U H,bq Y B G τ h U H->D.ct U H
 | .fail=>False
def cN (Y:Ge) (E:XK) (m:M.Sl->M.AH->M.O):TS:=λD U H=> ∃B G τ h,bq Y B G τ h U H/\Zs Y E B (m τ h) D
def PS.imp {st:Stmt}(h:PS X st t) (k: ∀D U H,t' D U H->t D U H):PS X st t':=λa s U H D I q=>h a s U H D I (k _ _ _ q)
def dc.imp {st:List Stmt}(h:dc X st t) (k: ∀D U H,t' D U H->t D U H):dc X st t':=λa s U H D I q=>h a s U H D I (k _ _ _ q)
section
variable {Y:Ge}{E:XK}{B:Bs}{G G1:Gh}{τ:M.Sl}{h h1:M.AH}{U:St}{H H1:Hp}{D:iB}
def bq.on (s:bq Y B G τ h U H) (e:Ext G H G1 H1) (a:ag Y G1 h1 H1):bq Y B G1 τ h1 U H1:=⟨s.st.ext e a,s.ext.trans s.hr e,s.hr,s.own⟩
def Xd {m:M.Sl->M.AH->M.R M.W}{f:M.W->M.AH->M.O}{Q:VK}(s:bq Y B G τ h U H) (p:Zs Y E B ((m τ h).cS f) D)
 (k: ∀w v h1 G1 H1,Ext G H G1 H1->bq Y B G1 τ h1 U H1->ai Y G1 H1 w v->aH τ U H w v->Zs Y E B (f w h1) D->Q v H1):tD Y E m U H Q:=by
 refine⟨G,τ,h,s.st,?_⟩
 cases q:m τ h with
 | ok w h1=>rw [q]at p;exact λG1 H1 e a v b c=>k w v h1 G1 H1 e (s.on e a) b c p
 | fail=>rw [q]at p;exact p
def tL {m:M.Sl->M.AH->M.R Bool}{f:Bool->M.AH->M.O}{Q:Bool->Hp->Prop}(s:bq Y B G τ h U H) (p:Zs Y E B ((m τ h).cS f) D)
 (k: ∀b h1 G1 H1,Ext G H G1 H1->bq Y B G1 τ h1 U H1->Zs Y E B (f b h1) D->Q b H1):cU Y E m U H Q:=by
 refine⟨G,τ,h,s.st,?_⟩
 cases q:m τ h with
 | ok w h1=>rw [q]at p;exact λG1 H1 e a=>k w h1 G1 H1 e (s.on e a) p
 | fail=>rw [q]at p;exact p
theorem bq.set (m:bq Y B G τ h U H) (e:Ext G H G1 H1) (s:bq Y B G1 τ h1 U H1) (r:ai Y G1 H1 w v) (f:aH τ U H w v) (u: ∀xs,w≠ .bor xs):bq Y B G1 (M.GC τ i w) h1 (U.set i (k0 v)) H1:=by
 refine⟨s.st.set r λq j x p e1 g a t z=> ?_,s.ext,s.hr,λj xs a e1 e2=> ?_⟩
 ·cases w with
  | v d=>cases q
  | bor xs=>exact u xs rfl
  | own xs=>
   obtain⟨b,l,k⟩:=f
   subst t
   cases l
   obtain⟨o,n⟩:=m.st.cQ e1 g z
   rw [k]at n;cases n
 ·rw [jk]at e1
  by_cases c:j=i/\i<τ.length
  ·rw [if_pos c]at e1
   cases e1
   obtain⟨rfl,c⟩:=c
   rw [Ab9 (by rw [← s.st.len];exact c)]at e2
   cases e2
   obtain⟨b,l,k⟩:=f
   cases l
   exact m.ext.none m.hr k
  ·rw [if_neg c]at e1
   have p:=λz=>c ⟨z,by subst z;exact zw e1⟩
   rw [Ae0 (Ne.symm p)]at e2
   exact s.own j xs a e1 e2
def bq.fz (a:bq Y B G τ h U H) (e:Ext G H G1 H1) (s:bq Y B G1 τ h1 U H1) (r:ai Y G1 H1 w v) (f:aH τ U H w v) (c:w.d=k0 d): ∃G2,Ext G H G2 H1/\bq Y B G2 τ h1 U H1/\aA Y G2 H1 d v:=by
 obtain⟨G2,e2,b,rd,_⟩:=oB e s.st a.st r f c
 exact⟨G2,e2,⟨b,a.ext.trans a.hr e2,s.hr,s.own⟩,rd⟩
def bq.eA (s:bq Y B G τ h U H) (r:aA Y G H d v):bq Y B G (M.GC τ i (.v d)) h (U.set i (k0 v)) H:=bq.set s Ext.refl s r trivial λa z=>by cases z
theorem bq.aX: ∀ {is}{ds}{vs}{τ j}{U},M.aX is ds τ=k0 j->ab Y G H ds vs->bq Y B G τ h U H->bq Y B G j h (gN is vs U) H/\is.length=vs.length
 | [],[],_,_,_,_,e,rfl,s=>by cases e;exact⟨s,rfl⟩
 | [],_::_,_,_,_,_,e,_,_=>by simp [M.aX]at e
 | _::_,[],_,_,_,_,e,_,_=>by simp [M.aX]at e
 | i::is,d::ds,_,_,_,_,e,⟨v,r,rfl,c,f⟩,s=>by
  obtain⟨a,b⟩:=bq.aX (by simpa [M.aX]using e) f (s.eA c)
  exact⟨a,congrArg (· +1) b⟩
def pP (e:M.Gp tg one d τ=k0 τ') (r:aA Y G H d x) (s:bq Y B G τ h U H) (c: ∀j,bq Y B G τ' h j H->Q j H):gM Y tg one x U H Q:=by
 cases one with
 | true=>
  cases tg with
  | nil=>cases e
  | cons i f=>
   cases f with
   | cons _ _=>cases e
   | nil=>
    cases e
    exact⟨i,rfl,c _ (s.eA r)⟩
 | false=>
  cases d with
  | tup g=>
   obtain⟨a,n,rfl,m,b⟩:=r
   obtain⟨k,l⟩:=bq.aX (e) b s
   exact⟨G,g,n,a,rfl,m,b,l,c _ k⟩
  | _=>cases e
def bq.write (s:bq Y B G τ h U H) (l:M.Gn τ i=k0 (.own xs)) (n:U[i]? =k0 (k0 (.ref a))) (r:ab Y G H ys us):bq Y B G (M.GC τ i (.own ys)) h U (aM H a (.lst us)):=by
 obtain⟨I,of,vs,Z,_⟩:=Jp s.st l n
 have Q:=s.own i xs a l n
 have mon:Mon G H G (aM H a (.lst us)):=⟨λb o z q=>by rw [Qa (λe:b=a=>I (e▸z))];exact q,Ab _,λ_ _=>rfl,λ_ z=>z⟩
 have W:=zw l
 have E:ag Y G h (aM H a (.lst us)):=by
  refine⟨s.st.heap.len,λq c e=>⟨(s.st.heap.any q c e).1,(s.st.heap.any q c e).2.mon mon λo z=>by rw [Qa (of q (s.st.heap.lt e))];exact z⟩,s.st.heap.inj,λb z=> ?_⟩
  obtain⟨o,q⟩:=s.st.heap.live b z
  exact⟨o,by rw [Qa (λe:b=a=>I (e▸z))];exact q⟩
 refine⟨⟨by rw [Qw];exact s.st.len,λj w e=> ?_,λp q J w b D f k R T=> ?_,E⟩,⟨λb o q F=> ?_,s.ext.le,s.ext.aR,s.ext.new,s.ext.fz,s.ext.old,λq A z=> ?_⟩,s.hr,λj J b f k=> ?_⟩
 ·rw [jk]at e
  by_cases c:j=i/\i<τ.length
  ·rw [if_pos c]at e
   cases e
   obtain⟨rfl,_⟩:=c
   exact⟨.ref a,n,a,us,rfl,I,of,wc,r.mon mon⟩
  ·rw [if_neg c]at e
   have P:=λz=>c ⟨z,by subst z;exact zw e⟩
   obtain⟨v,N,O⟩:=s.st.slot j w e
   refine⟨v,N,?_⟩
   cases w with
   | v d=>exact aA.mon mon O
   | own X=>
    obtain⟨b,bs,rfl,V,L,g,y⟩:=O
    have u:b≠a:=λz=>s.st.apart i j xs _ a (Ne.symm P) l e rfl n (z▸N)
    exact⟨b,bs,rfl,V,L,by rw [Qa u];exact g,y.mon mon⟩
   | bor X=>
    obtain⟨b,bs,rfl,L,g,y⟩:=O
    have u:b≠a:=λz=>s.st.apart i j xs _ a (Ne.symm P) l e rfl n (z▸N)
    refine⟨b,bs,rfl,L,?_,y.mon mon⟩
    obtain g | ⟨o,g⟩:=g
    ·exact .inl (by rw [Qa u];exact g)
    ·exact .inr ⟨o,by rw [Qa u];exact g⟩
 ·rw [jk]at f k
  have C: ∃m,M.Gn τ p=k0 (.own m):=by
   by_cases c:p=i/\i<τ.length
   ·exact⟨xs,by rw [c.1];exact l⟩
   ·rw [if_neg c]at f;exact⟨J,f⟩
  have K: ∃t,M.Gn τ q=k0 t/\f9 t=true:=by
   by_cases c:q=i/\i<τ.length
   ·exact⟨.own xs,by rw [c.1];exact l,rfl⟩
   ·rw [if_neg c]at k;exact⟨w,k,R⟩
  obtain⟨m,C⟩:=C
  obtain⟨t,K,x⟩:=K
  exact s.st.apart p q m t b D C K x T
 ·rw [Qa (λe:b=a=>by rw [e,Q]at q;cases q)]
  exact s.ext.keep b o q F
 ·obtain⟨o,S⟩:=s.ext.cells q A z
  have:B.G.aR q≠a:=λe=>by
   have:=of q (Ab4 A s.ext.le)
   rw [s.ext.aR q A]at this
   exact this e
  exact⟨o,by rw [Qa this];exact S⟩
 ·rw [jk]at f
  by_cases c:j=i/\i<τ.length
  ·obtain⟨rfl,_⟩:=c
   rw [n]at k
   cases k
   exact Q
  ·rw [if_neg c]at f;exact s.own j J b f k
theorem jD: ∀(xs) (n){d},M.Gc xs=u0->M.Gd d=u0->M.Gc (xs.set n d)=u0
 | [],_,_,_,_=>rfl
 | x::xs,0,d,h,a=>by
  have h:=h
  rw [Aa0]at h
  show(M.Gd d&&M.Gc xs)=u0
  rw [a,h.2];rfl
 | x::xs,n+1,d,h,a=>by
  have h:=h
  rw [Aa0]at h
  show(M.Gd x&&M.Gc (xs.set n d))=u0
  rw [h.1,jD xs n h.2 a];rfl
def bq.fE (s:bq Y B G τ h U H) (p:h[r]? =k0 c0) (z:bw Y G (aM H (G.aR r) o1) (G.aR r) c1):bq Y B G τ (h.set r c1) U (aM H (G.aR r) o1):=by
 have t:=(Aa1.mp p).1
 have f:=s.st.heap.lt p
 have m:=s.st.heap.lj f
 have mon:Mon G H G (aM H _ o1):=⟨λb o w q=>by rw [Qa (λe:b=G.aR r=>m (e▸w))];exact q,Ab _,λ_ _=>rfl,λ_ w=>w⟩
 have l:ag Y G (h.set r c1) (aM H (G.aR r) o1):=by
  refine⟨by rw [Ae4];exact s.st.heap.len,λq c e=> ?_,s.st.heap.inj,λb w=> ?_⟩
  ·by_cases c:q=r
   ·subst c
    rw [Ab9 t]at e
    cases e
    exact⟨m,z⟩
   ·rw [Ae0 (Ne.symm c)]at e
    exact⟨(s.st.heap.any q _ e).1,(s.st.heap.any q _ e).2.mon mon λo w=>by rw [Qa λx=>c (s.st.heap.inj q r (s.st.heap.lt e) f x)];exact w⟩
  ·obtain⟨o,q⟩:=s.st.heap.live b w
   exact⟨o,by rw [Qa (λe:b=G.aR r=>m (e▸w))];exact q⟩
 refine⟨⟨s.st.len,λj w e=> ?_,s.st.apart,l⟩,⟨λb o q i=> ?_,s.ext.le,s.ext.aR,s.ext.new,s.ext.fz,s.ext.old,λq u w=> ?_⟩,s.hr,s.own⟩
 ·obtain⟨v,E,n⟩:=s.st.slot j w e
  refine⟨v,E,?_⟩
  cases w with
  | v d=>exact aA.mon mon n
  | own D=>
   obtain⟨b,bs,rfl,A,g,a,k⟩:=n
   exact⟨b,bs,rfl,A,g,by rw [Qa (Ne.symm (g r f))];exact a,k.mon mon⟩
  | bor D=>
   obtain⟨b,bs,rfl,g,a,k⟩:=n
   refine⟨b,bs,rfl,g,?_,k.mon mon⟩
   obtain a | ⟨o,a⟩:=a
   ·exact .inl (by rw [Qa (Ne.symm (g r f))];exact a)
   ·exact .inr ⟨o,by rw [Qa (Ne.symm (g r f))];exact a⟩
 ·have C:b≠G.aR r:=λe=>by
   by_cases c:r<B.G.n
   ·exact i r c (by rw [← s.ext.aR r c];exact e.symm)
   ·have:=s.ext.new r (Nat.not_lt.mp c) f
    rw [← e,q]at this
    cases this
  rw [Qa C]
  exact s.ext.keep b o q i
 ·by_cases c:B.G.aR q=G.aR r
  ·exact⟨_,by rw [c];exact wc⟩
  ·obtain⟨o,y⟩:=s.ext.cells q u w
   exact⟨o,by rw [Qa c];exact y⟩
def jQ (c:ag Y G h H) (a:r<G.n) (o):Mon G H G (aM H (G.aR r) o):=⟨λb o w q=>by rw [Qa (λe:b=G.aR r=>c.lj a (e▸w))];exact q,Ab _,λ_ _=>rfl,λ_ w=>w⟩
def bq.cell (s:bq Y B G τ h U H) (a:h[r]? =k0 (.lst xs)) (b:M.Gc ys=u0) (z:ab Y G H ys us):bq Y B G τ (h.set r (.lst ys)) U (aM H (G.aR r) (.lst us)):=
 s.fE a ⟨b,us,wc,z.mon (jQ s.st.heap (s.st.heap.lt a) _)⟩
def bq.gW (s:bq Y B G τ h U H) (a:h[r]? =k0 (.obj c0 xs)) (z:ab Y G H (ys.map (·.2)) us):bq Y B G τ (h.set r (.obj c0 ys)) U (aM H (G.aR r) (.ins (Y.ca c0) dx0 ((ys.map λp=>Str.ofString p.1).zip us))):=
 s.fE a ⟨dx0,us,wc,z.mon (jQ s.st.heap (s.st.heap.lt a) _)⟩
end
structure mr (Y:Ge) (F:M.Fx) (X:Cx) (E:XK) (k:Nat) (cf:Cf):Prop extends Go Y F X E k cf where
 ic:PassesOwn (model X.prog X.w) X.A X.env X.xe
 mI:X.stack=X.env::X.outer
 Be:X.env.frame=k0 X.env.locals
 ex:X.ex= []
section
variable {Y:Ge}{F:M.Fx}{X:Cx}{E:XK}{k:Nat}{cf:Cf}
def xH (h:JF cf i x=u0):cf.N[i]? =k0 x/\iQ cf.sc x=true:=by
 simpa [JF]using h
def D6 (u:tD Y E (M.eval F (.share a)) U H Q):tD Y E (M.eval F a) U H Q:=by
 obtain⟨G,A,h,s,p⟩:=u
 refine Wa s.heap Ext.refl s p λk v1 c g B e1 t i j x b=> ?_
 cases k with
 | own e=>
  obtain⟨l,z,rfl,w,q,r,o⟩:=j
  obtain⟨y,n,m⟩:=x
  cases n
  have b:av Y E G H (if M.Gc e=u0 then M.aq _ (c++ [.lst e])else .fail) _:=b
  by_cases f:M.Gc e=u0
  rotate_left
  ·rw [if_neg f]at b;exact b.elim
  rw [if_pos f]at b
  refine av.val b (jA e1 m) (xZ i.heap w q r o f) ?_ trivial
  show c.length<g.n+1/\V.ref l= .ref (if c.length=g.n then l else g.aR c.length)
  rw [i.heap.len,if_pos rfl]
  exact⟨Ag _,rfl⟩
 | v d=>exact b.elim
 | bor e=>exact b.elim
def zo (h:zD v=u0):swapsWith v t l env=pure false:=by
 cases v<;>first | rfl | (simp [zD]at h)
def WM :swapsWith v (k0 (.Attribute o n p)) l env=pure false:=by cases v<;>rfl
def W2 (a:Go Y F X E k cf)(b:JF cf i x=u0) (f:PE X v (tD Y E (M.eval F m))) (e:swapsWith v (k0 (.Name x p)) pos.line X.env=pure k9):
 PS X (.Assign [.Name x p] v pos) (gX (tD Y E (M.eval F m)) (ZY i)):=by
 obtain⟨c,d⟩:=xH b
 have b:=a.iU x d
 exact CC (by rw [a.N];exact a.nd) (by rw [a.N];exact c) b.1 f e b.2
def pW:M.E->Bool
 | .share _=>u0
 | .comp .. =>u0
 | _=>k9
def Bl (h:xc cf m v=u0) (a:pW m=k9):zD v=true:=by
 cases v with
 | ListComp _ _ _ _=>cases m<;>first | exact cq h | (exact absurd (a) Ap3)
 | SetComp _ _ _ _=>cases m<;>first | exact cq h | (exact absurd (a) Ap3)
 | DictComp _ _ _ _ _=>cases m<;>first | exact cq h | (exact absurd (a) Ap3)
 | _=>rfl
def LF (d:Cf) (a:Bool) (b:List Expr) (c:M.E):Bool:=bif a then(lC b λz r=>kZ r (fN c&&xc d c z))else b.isEmpty
def HL (h:xc cf (.comp tg one kk aB it y7 c elt) v=u0): ∃y t iter ifs scope p0,v= .ListComp y [⟨t,iter,ifs,0⟩] scope p0 ∧
 kn cf scope (Wy cf t aB) kk aB/\(∀ i∈tg,i<kk)/\jf { cf with sc:=scope,N:=Wy cf t aB } tg one t=u0/\dU cf it iter=u0/\xc { cf with sc:=scope,N:=Wy cf t aB } elt y=u0 ∧
 LF { cf with sc:=scope,N:=Wy cf t aB } y7 ifs c=true:=by
 refine ub (λy g s p h=> ?_) v h
 refine kC (λg r h=> ?_) g h
 obtain⟨t,iter,ifs,z⟩:=g
 obtain⟨k,e,a,d,j,f,b⟩:=a7 h
 obtain⟨rfl,rfl⟩:=of_decide_eq_true k
 simp [decide_eq_true_eq]at a
 exact⟨y,t,iter,ifs,s,p,rfl,QH e,a,d,j,f,b⟩
def Bd (e:Go Y F X E k cf)(m:JF cf i x=u0)(h:xc cf (.comp tg one kk aB it y7 c elt) v=u0):
 PS X (.Assign [.Name x p] v pos) (gX (tD Y E (M.eval F (.comp tg one kk aB it y7 c elt))) (ZY i)):=by
 have N:=(Qc _ e h).1
 obtain⟨y,t,f,d,a,J,rfl,l,w,L,q,O,n⟩:=HL h
 obtain⟨b,o⟩: ∃b,swapsWith (.ListComp y [⟨t,f,d,0⟩] a J) (k0 (.Name x p)) pos.line X.env=pure b:=⟨_,rfl⟩
 cases b with
 | false=>exact W2 e m N o
 | true=>
  obtain⟨B,D⟩:=xH m
  have K: ∀C g s H,gv (je X _ a C g s H) d (cU Y E0 (kb F y7 c)):=λC g s H=>by
   have R:=XA e l C g s H
   cases y7 with
   | true=>
    refine kC (λz r h=> ?_) d n
    refine kE (λh=> ?_) r h
    exact uz ((Qc c R (a2 h).2).2 (a2 h).1)
   | false=>
    cases Af8.mp n
    intro j A U u Q I ⟨G,S,h,P,p⟩
    exact ue j A U u Q I (p G u Ext.refl P.heap)
  exact J9 e B D o l (wL l.aB) L w (qZ q) (lg it e q) (λC g s H=>(Qc elt (XA e l C g s H) O).1) K
def Jb (a:Go Y F X E k cf)(c:JF cf i x=u0)(h:xc cf m v=u0) (b:pW m=k9):PS X (.Assign [.Name x p] v pos) (gX (tD Y E (M.eval F m)) (ZY i)):=
 W2 a c (Qc m a h).1 (zo (Bl h b))
theorem oF (b:Go Y F X E k cf)(c:JF cf i x=u0): ∀ m,xc cf m v=u0->PS X (.Assign [.Name x p] v pos) (gX (tD Y E (M.eval F m)) (ZY i))
 | .share a,h=>PS.imp (oF b c a h) λD U H q=>D6 q
 | .comp ..,h=>Bd b c h
 | .c5,h=>Jb b c h rfl
 | .eD ..,h=>Jb b c h rfl
 | .cT ..,h=>Jb b c h rfl
 | .ej _,h=>Jb b c h rfl
 | .fD ..,h=>Jb b c h rfl
 | .var _,h=>Jb b c h rfl
 | .con _,h=>Jb b c h rfl
 | .int _,h=>Jb b c h rfl
 | .bl _,h=>Jb b c h rfl
 | .aj,h=>Jb b c h rfl
 | .str _,h=>Jb b c h rfl
 | .tup _,h=>Jb b c h rfl
 | .lst _,h=>Jb b c h rfl
 | .bin ..,h=>Jb b c h rfl
 | .cmp ..,h=>Jb b c h rfl
 | .chain ..,h=>Jb b c h rfl
 | .eY ..,h=>Jb b c h rfl
 | .neg _,h=>Jb b c h rfl
 | .inv _,h=>Jb b c h rfl
 | .not _,h=>Jb b c h rfl
 | .and ..,h=>Jb b c h rfl
 | .or ..,h=>Jb b c h rfl
 | .call ..,h=>Jb b c h rfl
 | .bi ..,h=>Jb b c h rfl
 | .b7 ..,h=>Jb b c h rfl
 | .ix ..,h=>Jb b c h rfl
 | .sl ..,h=>Jb b c h rfl
 | .fu ..,h=>Jb b c h rfl
 | .fU ..,h=>Jb b c h rfl
 | .b0 _,h=>Jb b c h rfl
 | .dD ..,h=>Jb b c h rfl
 | .dz ..,h=>Jb b c h rfl
 | .make ..,h=>Jb b c h rfl
 | .aJ ..,h=>Jb b c h rfl
 | .bO ..,h=>Jb b c h rfl
 | .eP ..,h=>Jb b c h rfl
 | .eZ ..,h=>Jb b c h rfl
def Bq (l:Go Y F X E k cf)(n:JF cf i x=u0)(h:xc cf m v=u0):PS X (.Assign [.Name x p] v pos) (cN Y E (M.exec F (.set i m))):=by
 refine PS.imp (oF l n m h) λD U H o=> ?_
 obtain⟨B,G,t,h,s,p⟩:=o
 refine Xd s p λw v r e g e1 c b j a=> ?_
 cases w with
 | bor f=>exact a.elim
 | v d=>exact a e _ g (bq.set s e1 c b j λf z=>by cases z)
 | own q=>exact a e _ g (bq.set s e1 c b j λf z=>by cases z)
def Cw (b:Go Y F X E k cf)(f:JF cf i x=u0)(h:xc cf m v=u0):PS X (.Assign [.Name x p] v pos) (cN Y E (M.exec F (.af i m))):=by
 refine PS.imp (oF b f m h) λD U H l=> ?_
 obtain⟨B,G,u,h,s,p⟩:=l
 refine Xd s p λw v t r n e1 e c o a=> ?_
 cases q:w.d with
 | none=>rw [q]at a;exact a.elim
 | some d=>
  rw [q]at a
  obtain⟨g,e2,j,rd⟩:=bq.fz s e1 e c o q
  exact a g _ n (j.eA rd)
def QV :swapsWithSole [.Tuple ts n p] v l env=pure false:=by
 cases v<;>rfl
def zH (h:zm v=u0):swappedStores [.Tuple ts n p] v env=pure none:=by
 cases v<;>first | rfl | (simp [zm]at h)
def DZ (f:Go Y F X E k cf)(o:qu cf is ts=u0) (i:zm v=u0)(h:xc cf m v=u0):PS X (.Assign [.Tuple ts n p] v pos) (cN Y E (M.exec F (.eO is m))):=by
 refine PS.imp (J2 (Qc m f h).1 (Jy f (one:=k9) o) QV (zH i) rfl) λD U H x=> ?_
 obtain⟨B,G,e,h,s,p⟩:=x
 refine Xd s p λw v u r y e1 j g z a=> ?_
 cases w with
 | v d=>
  cases d with
  | tup c=>
   have a:Zs Y E B (match M.aX is c e with | some b=> .next b u | none=> .fail) D:=a
   cases q:M.aX is c e with
   | none=>rw [q]at a;exact a.elim
   | some b=>
    rw [q]at a
    exact pP (show M.Gp is k9 (.tup c) e=k0 b from q) g j λt l=>a r t y l
  | _=>exact a.elim
 | own _=>exact a.elim
 | bor _=>exact a.elim
def XJ :swapsWithSole [.Subscript x y p] v l env=pure false:=by
 cases v<;>rfl
def QB :swappedStores [.Subscript x y p] v env=pure none:=by
 cases v<;>rfl
def XQ (a:Xc y=u0) (v):assign (.Subscript x y p) env v=(do
 let i ←holding [v] (eval x env)
 let j ←holding [v,i] (eval y env)
 standAt p
 holding [v,i,j] (setItem i j v)
 release [v,i,j] []):=by
 cases y<;>first | rfl | (simp [Xc]at a)
def jT (a:M.GN d=u0) (z:aA Y G H d v):aA Y G' H' d v:=by
 cases d with
 | aj=>exact z
 | bl _=>exact z
 | int _=>exact z
 | str _=>exact z
 | _=>exact absurd (a) Ab2
def wP (a:M.GN d=u0):M.Gd d=true:=by
 cases d<;>first | rfl | exact absurd (a) Ab2
def Ml (b:Go Y F X E k cf)(O:Xc y=u0)(N:xc cf o x=u0) (S:xc cf kx y=u0) (h:xc cf m v=u0):PS X (.Assign [.Subscript x y p] v pos) (cN Y E (M.exec F (.bQ o kx m))):=by
 refine PS.imp (J2 (Qc m b h).1 (l1 (Qc o b N).1 (Qc kx b S).1 zR (XQ O)) XJ QB rfl) λD U H R=> ?_
 obtain⟨B,G,τ,h,s,p⟩:=R
 refine Xd s p λw v h1 G1 H1 e1 z t f1 Q=> ?_
 refine Xd z Q λow ov T G2 H2 e2 i L f2 A=> ?_
 refine Xd i A λZ W h3 g l u c C V a=> ?_
 unfold M.Km at a
 split at a
 ·rename_i d r j
  split at a
  ·rename_i e q
   split at a
   ·rename_i n I
    split at a
    ·rename_i f
     obtain⟨h4,P⟩:=(ai.ext u i.st.heap L)
     subst P
     cases (C)
     have rd:aA Y g l d v:=jT f t
     obtain⟨_,J,K,rv⟩:=c.st.heap.cell r e q
     refine⟨_,J,j,n,rfl,rfl,K,by rw [← rv.length];exact I,?_⟩
     exact a g U _ (c.cell q (jD e n (c.st.heap.pure r e q) (wP f)) (ab.set rd n rv))
    ·exact a.elim
   ·exact a.elim
  ·exact a.elim
 ·exact a.elim
def Dx (h:M.fF w=k0 (a,b)):w= .v (.tup [a,b]):=by
 unfold M.fF at h
 split at h
 ·cases h;rfl
 ·cases h
def LQ (f:Go Y F X E k cf){x y v:Expr}{a:Str}{j n:Nat}{p pa pt pos:Pos}(hy:Xc y=u0) (hn:zm v=u0) (hj:JF cf j a=u0){o t m:M.E}(ho:xc cf o x=u0) (V:xc cf t y=u0) (h:xc cf m v=u0):PS X (.Assign [.Tuple [.Subscript x y p,.Name a pa] n pt] v pos) (cN Y E (M.exec F (.fm o t j m))):=by
 obtain⟨j1,j2⟩:=xH hj
 have P:=f.iU a j2
 refine PS.imp (J2 (Qc m f h).1 (uo f.calm (QP (l1 (Qc o f ho).1 (Qc t f V).1 zR (XQ hy)) (QP (Z8 (i:=j) (X:=X) (by rw [f.N];exact f.nd) (by rw [f.N];exact j1) P.1 P.2) uZ))) QV (zH hn) rfl) λD U H T=> ?_
 obtain⟨B,G,τ,h,s,p⟩:=T
 rw [M.exec]at p
 refine Xd s p λw v h1 G1 H1 e1 s1 W f1 g=> ?_
 cases l:M.fF w with
 | none=>rw [l]at g;exact g.elim
 | some dd=>
  obtain⟨u,Q⟩:=dd
  rw [l]at g
  dsimp only at g
  cases Dx l
  obtain⟨b,K,rfl,z2,v1,r',rfl,S,v2,r'',rfl,z4,rfl⟩:=(show aA Y G1 H1 (.tup [u,Q]) v from W)
  refine⟨b,[v1,v2],rfl,f.K▸z2.sq,rfl,v1,[v2],rfl,?_⟩
  refine Xd s1 g λR ov h2 G2 H2 e2 L r2 f2 p2=> ?_
  refine Xd L p2 λkw iv h3 z J Z I r3 f3 e=> ?_
  split at e
  rotate_left
  ·exact e.elim
  rename_i C
  cases c:M.Km (.v u) R kw τ h3 with
  | next τ' h'=>
   rw [c]at e
   dsimp only at e
   unfold M.Km at c
   split at c
   ·rename_i d r N e1
    cases e1
    split at c
    ·rename_i A q
     split at c
     ·rename_i n qn
      split at c
      ·rename_i O
       cases c
       obtain⟨h4,h5⟩:=(show aA Y z J (.ref r) ov from ai.ext (w:= .v (.ref r)) Z L.st.heap r2)
       subst h5
       cases (show iv= .int N from r3)
       have rd:aA Y z J u v1:=jT O S
       obtain⟨_,K,hv,rv⟩:=I.st.heap.cell r A q
       refine⟨_,K,N,n,rfl,rfl,hv,by rw [← rv.length];exact qn,?_⟩
       have s4:=I.cell q (jD A n (I.st.heap.pure r A q) (wP O)) (ab.set rd n rv)
       exact⟨v2,[],rfl,rfl,e z _ _ (s4.eA (jT C z4))⟩
      ·cases c
     ·cases c
    ·cases c
   ·cases c
  | ret _ _=>rw [c]at e;exact e.elim
  | brk _ _=>rw [c]at e;exact e.elim
  | cont _ _=>rw [c]at e;exact e.elim
  | fail=>rw [c]at e;exact e.elim
def pw (h:JV cf i m e k7=u0): ∃x p apos,e= .Attribute (.Name x p) m apos/\cf.N[i]? =k0 x/\zV cf.sc x=u0/\bf x=u0/\(apos.endLine==k7.line)=true:=by
 refine xV (λx n q h=> ?_) e h
 refine zy (λx p h=> ?_) x h
 obtain⟨h,c,f⟩:=a3 h
 obtain⟨a,b,d⟩:=fM h
 cases of_decide_eq_true c
 exact⟨_,_,_,rfl,a,b,d,f⟩
def Fm (e:Go Y F X E k cf)(J:JV cf i "append" f k7=true) (j:Xb v=true)(h:xc cf m v=true):PS X (.Expr (.Call f [v] [] k7) pos) (cN Y E (M.exec F (.app i m))):=by
 obtain⟨x,p,r,rfl,n,A,c,R⟩:=pw J
 unfold bf at c
 rw [Aa0]at c
 have pv:=jH (pos:=p) (by rw [e.N];exact n) (e.g8 x A) (by simpa using c.1) (by simpa using c.2)
 refine PS.imp (Z9 (tN PySem.F.plainAttrs_list PySem.F.slot_list_append PySem.F.type_list_append yz pv (qj (Qc m e h).1 Xs (Qb j)) rfl (by rw [Qb j];rfl) R (Qb j) rfl) (zo rfl)) λD U H S=> ?_
 obtain⟨B,G,T,h,s,p⟩:=S
 rw [M.exec]at p
 cases q:M.Gn T i with
 | none=>rw [q]at p;exact p.elim
 | some P=>
  rw [q]at p
  cases P with
  | v d=>exact p.elim
  | bor g=>exact p.elim
  | own g=>
   obtain⟨v0,l,a,O,rfl,z2,z3,Q,Z⟩:=s.st.slot i _ q
   refine⟨.ref a,l,.inl ⟨rfl,O,br.of Q⟩,?_⟩
   refine Xd s p λw v n W H1 e1 I C V b=> ?_
   cases o:w.d with
   | none=>rw [o]at b;exact b.elim
   | some d=>
    rw [o]at b
    obtain⟨N,e2,y,rd⟩:=bq.fz s e1 I C V o
    have b:Zs Y E B (if g.length<M.bg then .next _ n else .fail) D:=b
    by_cases t:g.length<M.bg
    ·rw [if_pos t]at b
     obtain⟨nf,of,K,L,z⟩:=Jp y.st q l
     have u:=z.length
     exact⟨a,K,v,rfl,rfl,L,by have:=Qj;lia,b N U _ (y.write q l (z.append ⟨v,[],rfl,rd,rfl⟩))⟩
    ·rw [if_neg t]at b;exact b.elim
def HY (j:Go Y F X E k cf)(N:JV cf i "extend" f k7=true) (r:Xb v=true)(h:xc cf m v=true):PS X (.Expr (.Call f [v] [] k7) pos) (cN Y E (M.exec F (.ext i m))):=by
 obtain⟨x,p,A,rfl,u,K,g,W⟩:=pw N
 unfold bf at g
 rw [Aa0]at g
 have pv:=jH (pos:=p) (by rw [j.N];exact u) (j.g8 x K) (by simpa using g.1) (by simpa using g.2)
 refine PS.imp (Z9 (tN PySem.F.plainAttrs_list PySem.F.slot_list_extend PySem.F.type_list_extend AS pv (qj (Qc m j h).1 Xs (Qb r)) rfl (by rw [Qb r];rfl) W (Qb r) rfl) (zo rfl)) λD U H Z=> ?_
 obtain⟨B,G,τ,h,s,p⟩:=Z
 rw [M.exec]at p
 cases q:M.Gn τ i with
 | none=>rw [q]at p;exact p.elim
 | some S=>
  rw [q]at p
  cases S with
  | v d=>exact p.elim
  | bor l=>exact p.elim
  | own l=>
   obtain⟨v0,t,a,R,rfl,z2,z3,T,z5⟩:=s.st.slot i _ q
   refine⟨.ref a,t,.inl ⟨rfl,R,br.of T⟩,?_⟩
   refine Xd s p λw v u Q H1 e1 z L f1 c=> ?_
   cases w with
   | v d=>exact c.elim
   | bor y=>exact c.elim
   | own y=>
    obtain⟨b,n,rfl,_,_,V,e⟩:=L
    have c:Zs Y E B (if l.length+y.length<M.bg then .next _ u else .fail) D:=c
    by_cases C:l.length+y.length<M.bg
    ·rw [if_pos C]at c
     obtain⟨nf,of,O,P,J⟩:=Jp z.st q t
     have I:=J.length
     have o:=e.length
     exact⟨a,b,O,n,rfl,rfl,P,V,by have:=Qj;lia,c Q U _ (z.write q t (J.append e))⟩
    ·rw [if_neg C]at c;exact c.elim
def Z6 (a:Go Y F X E k cf)(h1:cf.N[i]? =k0 x) (u:zV cf.sc x=u0) (C:bf x=u0) (l:cf.ob.fl.contains (c,f)=u0) (h:xc cf m v=u0):PS X (.Assign [.Attribute (.Name x j) (Xf f) p2] v pos) (cN Y E (M.exec F (.bI i c f m))):=by
 refine PS.imp (vR (xr a h1 u C) (Qc m a h).1 WM) λD U H N=> ?_
 obtain⟨B,G,O,h,s,p⟩:=N
 refine Xd s p λw v h1 n S e1 b y T j=> ?_
 cases w with
 | own _=>exact j.elim
 | bor _=>exact j.elim
 | v d=>
  cases q:M.GX h1 (M.Gn O i)with
  | none=>rw [q]at j;exact j.elim
  | some o=>
   obtain⟨r,L,fs⟩:=o
   rw [q]at j
   dsimp only at j
   split at j
   ·rename_i A
    obtain⟨rfl,P⟩:=A
    obtain⟨e2,g⟩:=xJ q
    obtain⟨R,t,Q,z,J⟩:=b.st.heap.obj r _ fs g
    obtain⟨K,e,I⟩:=zT (y) J
    refine⟨_,yi b.st q,n.aR r,Y.ca L,t,_,rfl,z,(a.fld _ _ l).1,(a.fld _ _ l).2,?_,?_⟩
    ·rw [Al4,Aa];lia
    ·rw [I]
     exact j n U _ (b.gW g e)
   ·exact j.elim
def Z0 (a:Go Y F X E k cf)(h1:cf.N[i]? =k0 x) (y:zV cf.sc x=u0) (J:bf x=u0) (n:cf.ob.fl.contains (c,f)=u0) (h:xc cf m v=u0):PS X (.Assign [.Attribute (.Name x j) (Xf f) p2] v pos) (cN Y E (M.exec F (.bS i c f m))):=by
 refine PS.imp (vR (xr a h1 y J) (Qc m a h).1 WM) λD U H P=> ?_
 obtain⟨B,G,Q,h,s,p⟩:=P
 refine Xd s p λw v h1 W H1 e1 A z R j=> ?_
 cases g:w.d with
 | none=>rw [g]at j;exact j.elim
 | some d=>
  rw [g]at j
  obtain⟨t,e2,b,rd⟩:=bq.fz s e1 A z R g
  cases q:M.GX h1 (M.Gn Q i)with
  | none=>rw [q]at j;exact j.elim
  | some o=>
   obtain⟨r,O,fs⟩:=o
   rw [q]at j
   dsimp only at j
   split at j
   ·rename_i I
    obtain⟨rfl,S,T⟩:=I
    obtain⟨e2,l⟩:=xJ q
    obtain⟨Z,u,V,C,L⟩:=b.st.heap.obj r _ fs l
    obtain⟨N,e,K⟩:=zT rd L
    refine⟨_,yi b.st q,t.aR r,Y.ca O,u,_,rfl,C,(a.fld _ _ n).1,(a.fld _ _ n).2,?_,?_⟩
    ·rw [Al4,Aa];lia
    ·rw [K]
     exact j t U _ (b.gW l e)
   ·exact j.elim
def LI (f:Go Y F X E k cf)(h1:cf.N[i]? =k0 x) (o:zV cf.sc x=u0) (N:bf x=u0) (Q:Xc y=u0)(T:xc cf kx y=u0) (h:xc cf m v=u0):PS X (.Assign [.Subscript (.Name x p) y p2] v pos) (cN Y E (M.exec F (.cm i kx m))):=by
 refine PS.imp (J2 (Qc m f h).1 (l1 (xr f h1 o N) (Qc kx f T).1 EE (XQ Q)) XJ QB rfl) λD U H R=> ?_
 obtain⟨B,G,S,h,s,p⟩:=R
 refine Xd s p λw v h1 G1 H1 e1 g A f1 e=> ?_
 cases q:M.GT h1 (M.Gn S i)with
 | none=>rw [q]at e;exact e.elim
 | some C=>
  obtain⟨r0,I⟩:=C
  rw [q]at e
  have sl:=(qo g.st q).1
  refine⟨_,sl,?_⟩
  refine Xd g e λZ V o L H2 e2 c O f2 p2=> ?_
  split at p2
  ·rename_i d t r ks n
   split at p2
   ·rename_i J
    obtain⟨z,K,W,P,u⟩:=qo c.st n
    have j:=by rw [sl]at z;exact Ad5.inj (Ad5.inj z)
    cases O
    have rd:=(A).ext e2 g.st.heap
    obtain⟨l,a,b⟩:=En rd u
    refine⟨aD t,_,_,rfl,j,P,by rw [Io u];have:=Qj;lia,?_⟩
    rw [b]
    exact p2 L U _ (c.fE (xU n).2 ⟨HZ J.2 K,l,wc,a.mon (jQ c.st.heap (c.st.heap.lt (xU n).2) _)⟩)
   ·exact p2.elim
  ·exact p2.elim
def IS (c:Go Y F X E k cf)(h1:cf.N[i]? =k0 x) (l:zV cf.sc x=u0) (e:bf x=u0) (L:Xc y=u0)(P:xc cf kx y=u0) (h:xc cf m v=u0):PS X (.Assign [.Subscript (.Name x p) y p2] v pos) (cN Y E (M.exec F (.dP i kx m))):=by
 unfold bf at e
 rw [Aa0]at e
 have pv:=jH (pos:=p) (by rw [c.N];exact h1) (c.g8 x l) (by simpa using e.1) (by simpa using e.2)
 refine PS.imp (J2 (Qc m c h).1 (l1 pv (Qc kx c P).1 zR (XQ L)) XJ QB rfl) λD U H N=> ?_
 obtain⟨B,G,O,h,s,p⟩:=N
 refine Xd s p λw v h1 T H1 e1 f t f1 b=> ?_
 cases q:M.Gn O i with
 | none=>rw [q]at b;exact b.elim
 | some J=>
  rw [q]at b
  cases J with
  | v d=>exact b.elim
  | bor u=>exact b.elim
  | own u=>
   obtain⟨v0,g,a,V,rfl,S,Z,z4,W⟩:=f.st.slot i _ q
   refine⟨.ref a,g,?_⟩
   refine Xd f b λR Q l C H2 e2 o K f2 p2=> ?_
   split at p2
   ·rename_i d j
    split at p2
    ·rename_i n I
     cases (K)
     have rd:=(t).ext e2 f.st.heap
     obtain⟨nf,of,z,A,r⟩:=Jp o.st q g
     refine⟨_,z,j,n,rfl,rfl,A,by rw [← r.length];exact I,?_⟩
     exact p2 C U _ (o.write q g (ab.set rd n r))
    ·exact p2.elim
   ·exact p2.elim
end
section
variable {Y:Ge}{E:XK}{B:Bs}{G:Gh}{τ:M.Sl}{h:M.AH}{U:St}{H:Hp}{D:iB}
def Fy (b:M.Gn τ i=k0 (.own xs)) (c:U[i]? =k0 (k0 (.ref a))):Qm τ U H a=none:=by
 unfold Qm
 rw [if_pos ⟨i,xs,b,c⟩]
def sr (e:Qm τ U H a=k0 o):H a=k0 o:=by
 unfold Qm at e
 split at e
 ·cases e
 ·exact e
def KG (s:ao Y G τ h U H):ag Y G h (Qm τ U H) where
 len:=s.heap.len
 any:=λr c e=>⟨(s.heap.any r c e).1,(s.heap.any r c e).2.mon (wz s) λo z=>by rw [ql λ⟨i,f,b,d⟩=>(Jp s b d).2.1 r (s.heap.lt e) rfl];exact z⟩
 inj:=s.heap.inj
 live:=λa z=>by
  obtain⟨o,q⟩:=s.heap.live a z
  exact⟨o,by rw [ql λ⟨i,f,b,d⟩=>(Jp s b d).1 z];exact q⟩
def gP (G:Gh) (τ:M.Sl) (h:M.AH) (U:St) (H:Hp):Bs:=⟨G,Qm τ U H,h⟩
def QQ (s:bq Y B G τ h U H):Ext B.G B.H G (Qm τ U H) where
 keep:=λa o e b=>by
  rw [ql λ⟨i,d,c,f⟩=>by rw [s.own i d a c f]at e;cases e]
  exact s.ext.keep a o e b
 le:=s.ext.le
 aR:=s.ext.aR
 new:=s.ext.new
 fz:=s.ext.fz
 old:=s.ext.old
 cells:=λr j z=>by
  obtain⟨o,q⟩:=s.ext.cells r j z
  refine⟨o,?_⟩
  rw [ql λg=>by
   obtain⟨i,d,c,f⟩:=g
   obtain⟨u,z⟩:=z
   rw [s.own i d _ c f]at z
   cases z]
  exact q
def A9 (s:bq Y B G τ h U H):bq Y (gP G τ h U H) G τ h U H where
 st:=s.st
 ext:=⟨λa o e _=>sr e,Ab _,λ_ _=>rfl,λr h1 h2=>absurd h1 (An5.mpr h2),λ_ z=>z,λ_ z=> .inl z,λr hr ⟨o,z⟩=>⟨o,sr z⟩⟩
 hr:=KG s.st
 own:=λi xs a e1 e2=>Fy e1 e2
def QU (s:bq Y B G τ h U H)(b:bq Y (gP G τ h U H) G2 τ2 h2 U2 H2):bq Y B G2 τ2 h2 U2 H2:=
 ⟨b.st,(QQ s).trans s.hr b.ext,s.hr,λi c a e1 e2=>(QQ s).none s.hr (b.own i c a e1 e2)⟩
def Mc (s:bq Y B G τ h U H){o:M.O}(p:Zs Y E B o D):Zs Y E (gP G τ h U H) o D:=by
 cases o with
 | next i k=>exact λc j b g=>p c j b (QU s g)
 | brk i k=>exact λc j b g=>p c j b (QU s g)
 | cont i k=>exact λc j b g=>p c j b (QU s g)
 | ret w k=>
  refine λc v b e l r f=>p c v b ((QQ s).trans s.hr e) l r ?_
  cases w with
  | v d=>trivial
  | own m=>obtain⟨a,n,q⟩:=f;exact⟨a,n,(QQ s).none s.hr q⟩
  | bor m=>exact f
 | fail=>exact p
end
section
variable {Y:Ge}{F:M.Fx}{X:Cx}{E:XK}{k:Nat}{cf:Cf}
def CL.hide (s:ao Y G τ h U H) (c:CL Y ds l vs G H) (b: ¬ ∃ i xs,M.Gn τ i=k0 (.own xs)/\U[i]? =k0 (k0 (.ref l))):CL Y ds l vs G (Qm τ U H):=by
 obtain⟨a,d⟩:=c
 refine⟨?_,d.mon (wz s)⟩
 obtain⟨a,e⟩ | a:=a
 ·refine .inl ⟨?_,e⟩
  obtain a | ⟨o,a⟩:=a
  ·exact .inl (by rw [ql b];exact a)
  ·exact .inr ⟨o,by rw [ql b];exact a⟩
 ·exact .inr a
def CL.hG (s:ao Y G τ h U H) (a:iF Y G H l vs) (b:ab Y G H ds vs):CL Y ds l vs G (Qm τ U H):=by
 refine⟨?_,b.mon (wz s)⟩
 obtain a | a:=a
 ·exact(CL.hide s ⟨.inl ⟨a.2,s.heap.off a.1⟩,b⟩ λ⟨j,e,d,c⟩=>(Jp s d c).1 a.1).1
 ·exact .inr a
def CT.hide (s:ao Y G τ h U H) (c:CT Y ds l vs G H):CT Y ds l vs G (Qm τ U H):=⟨c.1.mon (wz s),c.2.mon (wz s)⟩
def wY (h:M.GJ a=k0 i):a= .var i:=by
 cases a<;>first | (cases h;rfl) | cases h
def CV (h:xc cf (.var i) e=u0): ∃x p,e= .Name x p/\cf.N[i]? =k0 x/\zV cf.sc x=u0/\bf x=true:=by
 refine zy (λx p h=> ?_) e h
 exact⟨_,_,rfl,fM h⟩
def vU (b:Go Y F X E k cf)(h:xc cf (.var i) e=u0):PE X e (mN i):=by
 obtain⟨x,p,rfl,c,d,a⟩:=CV h
 unfold bf at a
 rw [Aa0]at a
 exact jH (by rw [b.N];exact c) (b.g8 x d) (by simpa using a.1) (by simpa using a.2)
def FA (s:ao Y G τ h U H)(e:M.Gn τ i=k0 w) (k:w= .v (.lst xs)\/w= .bor xs):
 ∃l vs,U[i]? =k0 (k0 (.ref l))/\CL Y xs l vs G H/\CL Y xs l vs G (Qm τ U H):=by
 obtain⟨v,e2,r⟩:=s.slot i w e
 obtain rfl | rfl:=k
 ·obtain⟨l,vs,rfl,b,a⟩:=r
  exact⟨l,vs,e2,⟨b.nQ s.heap,a⟩,CL.hG s b a⟩
 ·obtain⟨l,vs,rfl,b,a,n⟩:=r
  have c:CL Y xs l vs G H:=⟨.inl ⟨a,b⟩,n⟩
  refine⟨l,vs,e2,c,c.hide s λ⟨j,g,f,m⟩=> ?_⟩
  have d:j≠i:=λz=>by rw [z,e]at f;cases f
  exact s.apart j i g _ l d f e rfl m e2
def Z4 (p:ao Y G0 τ h0 U H0) (s:ao Y G τ h U H)(r:ai Y G H w v) (f:aH τ U H0 w v) (g:w= .v (.lst xs)\/w= .own xs):
 ∃l vs,v= .ref l/\CL Y xs l vs G H/\CL Y xs l vs G (Qm τ U H):=by
 obtain rfl | rfl:=g
 ·obtain⟨l,vs,rfl,b,a⟩:=r
  exact⟨l,vs,rfl,⟨b.nQ s.heap,a⟩,CL.hG s b a⟩
 ·obtain⟨l,vs,rfl,b,a,n,k⟩:=r
  obtain⟨t,i,e⟩:=f
  cases i
  have c:CL Y xs l vs G H:=⟨.inl ⟨.inl n,a⟩,k⟩
  refine⟨l,vs,rfl,c,c.hide s λ⟨j,q,d,m⟩=> ?_⟩
  obtain⟨o,z⟩:=p.cQ d rfl m
  rw [e]at z;cases z
def K6 (j:Go Y F X E k cf){a:M.E}{e tg:Expr}(Q:xc cf a e=u0):PI X tg e (gC Y E u0 (M.Gs F (.seq a))):=by
 cases q:M.GJ a with
 | some i=>
  cases wY q
  refine PI.imp (o4 (vU j Q)) λU H R P=> ?_
  obtain⟨G,t,h,s,p⟩:=P
  have p:av Y E G H (M.R.of h ((M.Gn t i).bind M.kA)) λu _ g f=> ∀J C,XI Y J u C->C g f->(u0=u0->C g (Qm t U f))->R J f:=p
  cases x:M.Gn t i with
  | none=>rw [x]at p;exact p.elim
  | some w=>
   rw [x]at p
   have lst: ∀ {b:List M.D},(w= .v (.lst b)\/w= .bor b)->av Y E G H (.ok b h) (λu _ g f=> ∀J C,XI Y J u C->C g f->(u0=u0->C g (Qm t U f))->R J f) →
    ∃v,U[i]? =k0 (k0 v)/\((∃ a,v= .ref a/\(∃ b,br X.K H a b)/\R (ki X.K a) H)\/(∃ a,v= .ref a/\(∃ b,cJ X.K H a b)/\R (kj X.K a) H)\/ ∃z,v= .str z/\R (iT z) H):=λ{b} N p=>by
    obtain⟨l,m,e2,A,L⟩:=FA s x N
    exact⟨_,e2,.inl ⟨l,rfl,⟨m,j.K▸A.1.sq⟩,p G H Ext.refl s.heap _ _ (CL.walk j.K) A λ_=>L⟩⟩
   cases w with
   | v d=>
    cases d with
    | lst b=>exact lst (.inl rfl) p
    | tup b=>
     obtain⟨v,e2,l,m,rfl,B,O⟩:=s.slot i _ x
     have c:CT Y b l m G H:=⟨B,O⟩
     exact⟨_,e2,.inr (.inl ⟨l,rfl,⟨m,j.K▸B.sq⟩,p G H Ext.refl s.heap _ _ (CT.walk j.K) c λ_=>c.hide s⟩)⟩
    | aj=>exact p.elim
    | bl _=>exact p.elim
    | int _=>exact p.elim
    | str z=>
     obtain⟨v,e2,r⟩:=s.slot i _ x
     cases (show v= .str (aD z)from r)
     exact⟨_,e2,.inr (.inr ⟨_,rfl,p G H Ext.refl s.heap _ _ qH trivial λ_=>trivial⟩)⟩
    | ref _=>exact p.elim
   | bor b=>exact lst (.inr rfl) p
   | own b=>exact p.elim
 | none=>
  refine PI.imp (o4 (Qc a j Q).1) λU H R P=> ?_
  obtain⟨G,t,h,s,p⟩:=P
  have p:av Y E G H ((M.eval F a t h).bind λw h=>M.R.of h (M.lz w)) λu _ g f=> ∀J C,XI Y J u C->C g f->(u0=u0->C g (Qm t U f))->R J f:=by
   unfold M.Gs at p
   dsimp only at p
   rw [q]at p
   exact p
  refine Wa s.heap Ext.refl s p λK v1 S D o e1 T y I V n=> ?_
  have lst: ∀ {b:List M.D},(K= .v (.lst b)\/K= .own b)->av Y E G H (.ok b S) (λu _ g f=> ∀J C,XI Y J u C->C g f->(u0=u0->C g (Qm t U f))->R J f) →
   ((∃ a,v1= .ref a/\(∃ b,br X.K o a b)/\R (ki X.K a) o)\/(∃ a,v1= .ref a/\(∃ b,cJ X.K o a b)/\R (kj X.K a) o)\/ ∃z,v1= .str z/\R (iT z) o):=λ{b} N p=>by
   obtain⟨l,m,e2,A,L⟩:=Z4 s y I V N
   exact .inl ⟨l,e2,⟨m,j.K▸A.1.sq⟩,p D o e1 y.heap _ _ (CL.walk j.K) A λ_=>L⟩
  cases K with
  | v d=>
   cases d with
   | lst b=>exact lst (.inl rfl) n
   | tup b=>
    obtain⟨l,m,rfl,B,O⟩:=I
    have c:CT Y b l m D o:=⟨B,O⟩
    exact .inr (.inl ⟨l,rfl,⟨m,j.K▸B.sq⟩,n D o e1 y.heap _ _ (CT.walk j.K) c λ_=>c.hide y⟩)
   | aj=>exact n.elim
   | bl _=>exact n.elim
   | int _=>exact n.elim
   | str z=>
    cases (show v1= .str (aD z)from I)
    exact .inr (.inr ⟨_,rfl,n D o e1 y.heap _ _ qH trivial λ_=>trivial⟩)
   | ref _=>exact n.elim
  | own b=>exact lst (.inr rfl) n
  | bor b=>exact n.elim
theorem QG: ∀(ds) (i),(M.Kk i ds).length=ds.length
 | [],_=>rfl
 | d::ds,i=>congrArg (· +1) (QG ds (i+1))
theorem rH: ∀(ds) (j i) (h:i<ds.length),(M.Kk j ds)[i]? =k0 (.tup [.int ((j+i:Nat):Int),ds[i]])
 | d::ds,j,0,_=>rfl
 | d::ds,j,i+1,h=>by
  have:=rH ds (j+1) i (by simpa using h)
  rw [show j+1+i=j+(i+1)by omega]at this
  simpa [M.Kk]using this
def K1: "enumerate" ∈cD:=by decide
def CL.kH {l:Addr}{vs:List V}{K:Aa9}(g:K=Y.K):XI Y (oY K l) (M.Kk 0 ds) (CL Y ds l vs) where
 go:=by
  rintro i G H ⟨d,c⟩ b
  rw [QG]at b
  obtain⟨v,e,_⟩:=c.get (Aa6 b)
  exact⟨vs,v,g▸d.sq,e⟩
 fc:=by
  rintro i G H x m ⟨d,c⟩ b ⟨p,y,j,ex,t,s⟩
  rw [QG]at b
  subst ex t
  obtain⟨v,e,rd⟩:=c.get (Aa6 b)
  have:=s vs (g▸d.sq)
  rw [e]at this
  cases this
  refine⟨G.more p,wG _ j,λh f=>f.kY _ j,.tup [.int i,ds[i]],by rw [rH ds 0 i b,Am0],⟨p,[.int i,y],rfl,.inl ⟨.inr rfl,wc⟩,⟨.int i,[y],rfl,rfl,⟨y,[],rfl,?_,rfl⟩⟩⟩⟩
  have n:Mon G H (G.more p) (aM H p (.tup [.int i,y])):=⟨λa o u q=>by rw [Qa (wb q j)];exact q,Ab _,λ_ _=>rfl,λ_ z=>Or.inl z⟩
  exact rd.mon n
 stop:=by
  rintro i G H ⟨d,c⟩ r k
  rw [QG]at r k
  exact⟨vs,g▸d.sq,by rw [← c.length];omega⟩
 keep:=λG H w m h z e f=>z.keep e f
def Ew (b:Go Y F X E k cf)(w:cG cf.sc "enumerate" g=true) (j:Xb x=true) (t:xc cf a x=true):PI X (.Tuple elts x1 tp) (.Call g [x] [] pos) (gC Y E true (M.Gs F (.ck a))):=by
 obtain⟨C,rfl,m,D⟩:=zd w
 refine PI.imp (B2 (b.gl _ m) (b.blt _ K1) (qj (Qc a b t).1 Xs (Qb j)) (Qb j)) λU H R z=> ?_
 obtain⟨G,J,h,s,p⟩:=z
 have p:=p
 refine Wa s.heap Ext.refl s p λd v1 I u A e1 y e n B c=> ?_
 obtain⟨i,q,c⟩:=c.of
 have r:d= .v (.lst i)\/d= .own i:=by
  unfold M.vk at q
  split at q
  ·cases q;exact .inl rfl
  ·cases q;exact .inr rfl
  ·cases q
 obtain⟨l,v,e2,f,o⟩:=Z4 s e n B r
 subst e2
 exact⟨l,v,rfl,b.K▸f.1.sq,c u A e1 e.heap _ _ (CL.kH b.K) f λ_=>o⟩
def AA (b:Go Y F X E k cf){it:M.It}{e tg:Expr}(j:og it tg=u0) (h:oh cf it e=u0):PI X tg e (gC Y E u0 (M.Gs F it))/\qh e=true:=by
 cases it with
 | seq a=>exact⟨K6 b (a2 h).2,(a2 h).1⟩
 | ar a=>
  refine xp (λg x l p h=> ?_) e h
  refine kE (λh=> ?_) l h
  refine kC (λx r h=> ?_) x h
  refine kE (λh=> ?_) r h
  obtain⟨c,d,f⟩:=a3 h
  exact⟨ZH b c d (Qc a b f).1,rfl⟩
 | ck a=>
  cases tg with
  | Tuple i m n=>
   refine xp (λg x l p h=> ?_) e h
   refine kE (λh=> ?_) l h
   refine kC (λx r h=> ?_) x h
   refine kE (λh=> ?_) r h
   obtain⟨c,d,f⟩:=a3 h
   exact⟨Ew b c d f,rfl⟩
  | _=>exact cq j
end
section
variable {Y:Ge}{G G0:Gh}{H H0:Hp}{h:M.AH}
def Gh.cut (G:Gh) (n:Nat):Gh:= { G with n:=n }
mutual
theorem aA.cut (n:Nat): ∀ {d:M.D}{v:V},M.Gd d=u0->aA Y G H d v->aA Y (G.cut n) H d v
 | .aj,_,_,z=>z
 | .bl _,_,_,z=>z
 | .int _,_,_,z=>z
 | .str _,_,_,z=>z
 | .tup _,_,q,⟨a,vs,z1,z2,z3⟩=>⟨a,vs,z1,z2,ab.eg n (by simpa [M.Gd]using q) z3⟩
 | .lst _,_,q,⟨a,vs,z1,z2,z3⟩=>⟨a,vs,z1,z2,ab.eg n (by simpa [M.Gd]using q) z3⟩
 | .ref r,_,q,_=>by simp [M.Gd]at q
theorem ab.eg (n:Nat): ∀ {ds:List M.D}{vs:List V},M.Gc ds=u0->ab Y G H ds vs->ab Y (G.cut n) H ds vs
 | [],_,_,z=>z
 | d::ds,_,q,⟨v,r,z1,z2,z3⟩=>by
  have q':M.Gd d=u0/\M.Gc ds=true:=by simpa [M.Gc]using q
  exact⟨v,r,z1,aA.cut n q'.1 z2,ab.eg n q'.2 z3⟩
end
theorem ag.cut (r:ag Y G h H){n:Nat}(f:n<=G.n) (o:M.Gx (h.take n)=u0):ag Y (G.cut n) (h.take n) H where
 len:=by rw [Af6,r.len];exact Ak4 f
 any:=λi c e=>by
  have t:i<n:=by
   have:=(Aa1.mp e).1
   rw [Af6]at this
   omega
  have p:c.pure=true:=Ai6.mp o c (Ac4 e)
  rw [Am3 t]at e
  obtain⟨u,k⟩:=r.any i c e
  refine⟨u,?_⟩
  cases c with
  | lst w=>obtain⟨d,q,a,b⟩:=k;exact⟨d,q,a,ab.eg n d b⟩
  | aN v=>obtain⟨d,g,a,b⟩:=k;exact⟨d,g,a,ab.eg n d b⟩
  | obj c fs=>obtain⟨l,g,a,b⟩:=k;exact⟨l,g,a,ab.eg n p b⟩
 inj:=λi j s m e=>r.inj i j (Ab4 s f) (Ab4 m f) e
 live:=r.live
theorem Ext.cut (e:Ext G0 H0 G H):Ext G0 H0 (G.cut G0.n) H:=⟨e.keep,Ab _,e.aR,λr b a=>absurd b (An5.mpr a),e.fz,e.old,e.cells⟩
theorem ai.cut (n) (e:n<=G.n)(q:w.keep=u0) (b: ∀xs,w≠ .bor xs) (z:ai Y G H w v):ai Y (G.cut n) H w v:=by
 cases w with
 | v d=>exact aA.cut n q z
 | own xs=>
  obtain⟨a,k,j,g,f,i,c⟩:=z
  exact⟨a,k,j,g,λr h=>f r (Ab4 h e),i,ab.eg n q c⟩
 | bor xs=>exact absurd rfl (b xs)
end
section
variable {Y:Ge}{F:M.Fx}{X:Cx}{E:XK}{k:Nat}{cf:Cf}
def C1 (a:Go Y F X E k cf)(b:zD v=u0)(h:xc cf m v=u0):PS X (.Expr v pos) (cN Y E (M.exec F (.ex m))):=by
 refine PS.imp (Z9 (Qc m a h).1 (zo b)) λD U H f=> ?_
 obtain⟨B,G,l,h,s,p⟩:=f
 exact Xd s p λw v j d g e1 c i n e=>e d U g c
def E8 (s:bq Y B G τ h U H)(f:aH τ U H w v) (b: ∀xs,w≠ .bor xs):aH [] [] B.H w v:=by
 cases w with
 | v d=>trivial
 | own xs=>obtain⟨a,c,e⟩:=f;exact⟨a,c,s.ext.none s.hr e⟩
 | bor xs=>exact absurd rfl (b xs)
def yx (l:Go Y F X E k cf)(h:xc cf m v=u0):PS X (.Return (k0 v) pos) (cN Y E (M.exec F (.ret m))):=by
 cases q:M.GJ m with
 | some i=>
  cases wY q
  refine PS.imp (uV (vU l h)) λD U H g=> ?_
  obtain⟨B,G,j,h,s,p⟩:=g
  rw [M.exec,q]at p
  dsimp only at p
  cases c:M.Gn j i with
  | none=>rw [c]at p;exact p.elim
  | some w=>
   rw [c]at p
   obtain⟨v,e2,r⟩:=s.st.slot i w c
   refine⟨v,e2,?_⟩
   cases w with
   | bor b=>exact p.elim
   | v d=>exact p G v H s.ext s.st.heap r trivial
   | own b=>
    have u:=r
    obtain⟨a,y,rfl,_⟩:=u
    exact p G _ H s.ext s.st.heap r ⟨a,rfl,s.own i b a c e2⟩
 | none=>
  refine PS.imp (uV (Qc m l h).1) λD U H g=> ?_
  obtain⟨B,G,j,h,s,p⟩:=g
  have p:Zs Y E B ((M.eval F m j h).cS λw h=>match w with
   | .bor _=> .fail
   | w=> .ret w h) D:=by
   rw [M.exec,q]at p;exact p
  refine Xd s p λw v A o t e1 e n x f=> ?_
  cases w with
  | bor b=>exact f.elim
  | v d=>exact f o v t e.ext e.st.heap n trivial
  | own b=>exact f o v t e.ext e.st.heap n (E8 s x λb z=>by cases z)
def Ff (k:PT X x (cU Y E (M.Gm F c))) (j:dc X ys (cN Y E (M.execs F a))) (l:dc X zs (cN Y E (M.execs F b))):PS X (.If x ys zs pos) (cN Y E (M.exec F (.iff c a b))):=by
 refine PS.imp (Dv k j l) λD U H m=> ?_
 obtain⟨B,G,i,h,s,p⟩:=m
 refine tL s p λt f e n e1 d g=> ?_
 cases t with
 | true=>exact nX ⟨B,e,i,f,d,g⟩
 | false=>exact oN ⟨B,e,i,f,d,g⟩
def yO {s:M.S}{d:M.Ss}{st:Stmt}{b:List Stmt}(h1:PS X st (cN Y E (M.exec F s))) (f:dc X b (cN Y E (M.execs F d))):dc X (st::b) (cN Y E (M.execs F (.cons s d))):=by
 refine dc.imp (D7 h1 f) λD U H k=> ?_
 obtain⟨B,G,e,h,g,p⟩:=k
 rw [M.execs]at p
 refine⟨B,G,e,h,g,?_⟩
 cases q:M.exec F s e h with
 | next a c=>rw [q]at p;exact λi m l j=>⟨B,i,a,c,j,p⟩
 | ret w c=>rw [q]at p;exact p
 | brk a c=>rw [q]at p;exact p
 | cont a c=>rw [q]at p;exact p
 | fail=>rw [q]at p;exact p
def LK:dc X [] (cN Y E (M.execs F .nil)):=dc.imp Aw λD U H ⟨B,G,a,h,s,p⟩=>p G U H s
def Lp (C:mr Y F X E k cf){n:Nat}{c:M.E}{b:M.Ss}{x:Expr}{u:List Stmt}{pos:Pos}(I:PT X x (cU Y E (M.Gm F c))) (J:dc X u (cN Y E (M.execs F b))):PS X (.While x u [] pos) (cN Y E (M.exec F (.iN n c b))):=by
 refine PS.imp (D4 C.ic I J) λD U H K=> ?_
 obtain⟨B,G,a,h,s,p⟩:=K
 rw [M.exec]at p
 refine⟨λm U H=> ∃G a h,bq Y B G a h U H/\Zs Y E B (M.GF (λa h=>M.Gm F c a h) (λa h=>M.execs F b a h) m a h) D,⟨n,G,a,h,s,p⟩,?_⟩
 rintro m U H ⟨G,a,h,s,p⟩
 cases m with
 | zero=>exact p.elim
 | succ m=>
  rw [M.GF]at p
  refine tL s p λt l z L e1 v d=> ?_
  cases t with
  | false=>exact oN (d z U L v)
  | true=>
   refine nX ⟨_,λA y w=>⟨m,Ag _,w⟩,B,z,a,l,v,?_⟩
   have d:Zs Y E B (match M.execs F b a l with
    | .next e g=>M.GF (λa h=>M.Gm F c a h) (λa h=>M.execs F b a h) m e g
    | .cont e g=>M.GF (λa h=>M.Gm F c a h) (λa h=>M.execs F b a h) m e g
    | .brk e g=> .next e g
    | o=>o) D:=d
   cases q:M.execs F b a l with
   | next f i=>rw [q]at d;exact λj A y r=>⟨j,f,i,r,d⟩
   | cont f i=>rw [q]at d;exact λj A y r=>⟨j,f,i,r,d⟩
   | ret w i=>rw [q]at d;exact d
   | brk f i=>rw [q]at d;exact d
   | fail=>rw [q]at d;exact d
def CY (O:mr Y F X E k cf){tg:List Nat}{one:Bool}{it:M.It}{b:M.Ss}{t u:Expr}{ys:List Stmt}{pos:Pos}(he:og it t=u0) (ht:jf cf tg one t=u0) (hi:oh cf it u=u0) (hb:dc X ys (cN Y E (M.execs F b))):
 PS X (.For t u ys [] pos) (cN Y E (M.exec F (.for tg one it b))):=by
 obtain⟨li,ls⟩:=AA (tg:=t) O.toGo he hi
 refine PS.imp (Lq O.ic O.calm li (Jy O.toGo ht) hb (X6 ls)) λD U H qq=> ?_
 obtain⟨B,G,f,h,s,p⟩:=qq
 rw [M.exec]at p
 refine⟨G,f,h,s.st,?_⟩
 cases q:M.Gs F it f h with
 | fail=>rw [q]at p;exact p
 | ok g r=>
  rw [q]at p
  intro y K e hr J C N c0 V
  have s1:=s.on e hr
  have p1:Zs Y E (gP y f r U K) (M.Gq (M.Gp tg one) (λf h=>M.execs F b f h) g f r) D:=Mc s1 p
  have cB:C (gP y f r U K).G (gP y f r U K).H:=V rfl
  have s2:=A9 s1
  refine⟨λi m S A=> ∃L l I,(m=g.length-i/\i<=g.length)/\bq Y (gP y f r U K) L l I S A/\Zs Y E (gP y f r U K) (M.Gq (M.Gp tg one) (λf h=>M.execs F b f h) (g.drop i) l I) D,
   ⟨g.length,y,f,r,⟨by simp,Af4 _⟩,s2,p1⟩,?_⟩
  rintro i m S A ⟨L,l,I,⟨rfl,hi'⟩,z,c⟩
  have c':=N.keep _ _ _ _ _ cB z.ext z.hr
  by_cases n:i<g.length
  ·refine .inr ⟨N.go i L A c' n,_,λU2 H2 w=>⟨g.length-(i+1),by omega,w⟩,λx H'' hy=> ?_⟩
   obtain⟨G4,x4,W,d,ed,R⟩:=N.fc i L A x H'' c' n hy
   have z:=z.on x4 (W _ z.st.heap)
   have P:g.drop i=d::g.drop (i+1):=by
    rw [Am1 n]
    rw [Aa6 n]at ed
    cases ed
    rfl
   rw [P,M.Gq]at c
   cases Q:M.Gp tg one d l with
   | none=>rw [Q]at c;exact c.elim
   | some v=>
    rw [Q]at c
    refine pP Q R z λU2 s3=>⟨_,G4,v,I,s3,?_⟩
    have c:Zs Y E (gP y f r U K) (match M.execs F b v I with
     | .next a j=>M.Gq (M.Gp tg one) (λf h=>M.execs F b f h) (g.drop (i+1)) a j
     | .cont a j=>M.Gq (M.Gp tg one) (λf h=>M.execs F b f h) (g.drop (i+1)) a j
     | .brk a j=> .next a j
     | o=>o) D:=c
    cases q:M.execs F b v I with
    | next a j=>rw [q]at c;exact λZ U3 H3 T=>⟨Z,a,j,⟨rfl,by omega⟩,T,c⟩
    | cont a j=>rw [q]at c;exact λZ U3 H3 T=>⟨Z,a,j,⟨rfl,by omega⟩,T,c⟩
    | ret w j=>rw [q]at c;exact c
    | brk a j=>rw [q]at c;exact c
    | fail=>rw [q]at c;exact c
  ·have ei:i=g.length:=by omega
   subst ei
   rw [List.drop_length]at c
   exact .inl ⟨N.stop _ L A c' (Ab _) (Ab _),c L S A z⟩
end
section
variable {Y:Ge}{F:M.Fx}{k:Nat}{X:Cx}{E:XK}{cf:Cf}
mutual
theorem Mg (go:mr Y F X E k cf): ∀(m:M.S){st:Stmt},pq cf m st=u0->PS X st (cN Y E (M.exec F m))
 | .set i e,st,h=>by
  refine gx (λts v p h=> ?_) st h
  refine kC (λt r h=> ?_) ts h
  refine zy (λx p1 h=> ?_) t h
  refine kE (λh=> ?_) r h
  exact Bq go.toGo (a2 h).1 (a2 h).2
 | .af i e,st,h=>by
  refine gx (λts v p h=> ?_) st h
  refine kC (λt r h=> ?_) ts h
  refine zy (λx p1 h=> ?_) t h
  refine kE (λh=> ?_) r h
  exact Cw go.toGo (a2 h).1 (a2 h).2
 | .eO is e,st,h=>by
  refine gx (λts v p h=> ?_) st h
  refine kC (λt r h=> ?_) ts h
  refine n0 (λx n p1 h=> ?_) t h
  refine kE (λh=> ?_) r h
  obtain⟨h1,h2,h3⟩:=a3 h
  exact DZ go.toGo h1 h2 h3
 | .bS i c f e,st,h=>by
  refine gx (λts v p h=> ?_) st h
  refine kC (λt r h=> ?_) ts h
  refine xV (λx n p1 h=> ?_) t h
  refine zy (λx p2 h=> ?_) x h
  refine kE (λh=> ?_) r h
  obtain⟨h0,h⟩:=a2 h
  obtain⟨hn,h4,h6⟩:=a3 h
  obtain⟨h1,h2,h3⟩:=fM h0
  cases of_decide_eq_true hn
  exact Z0 go.toGo h1 h2 h3 h4 h6
 | .dP i kx e,st,h=>by
  refine gx (λts v p h=> ?_) st h
  refine kC (λt r h=> ?_) ts h
  refine gb (λx y p1 h=> ?_) t h
  refine zy (λx p2 h=> ?_) x h
  refine kE (λh=> ?_) r h
  obtain⟨h0,h4,h6,h7⟩:=a4 h
  obtain⟨h1,h2,h3⟩:=fM h0
  exact IS go.toGo h1 h2 h3 h4 h6 h7
 | .cm i kx e,st,h=>by
  refine gx (λts v p h=> ?_) st h
  refine kC (λt r h=> ?_) ts h
  refine gb (λx y p1 h=> ?_) t h
  refine zy (λx p2 h=> ?_) x h
  refine kE (λh=> ?_) r h
  obtain⟨h0,h4,h6,h7⟩:=a4 h
  obtain⟨h1,h2,h3⟩:=fM h0
  exact LI go.toGo h1 h2 h3 h4 h6 h7
 | .fm o kx j e,st,h=>by
  refine gx (λts v p h=> ?_) st h
  refine kC (λt r h=> ?_) ts h
  refine kE (λh=> ?_) r h
  refine n0 (λts n p h=> ?_) t h
  refine kC (λt1 r h=> ?_) ts h
  refine kC (λt2 r h=> ?_) r h
  refine kE (λh=> ?_) r h
  refine gb (λx y p1 h=> ?_) t1 h
  refine zy (λa p2 h=> ?_) t2 h
  obtain⟨h1,h2,h3,h4,h5⟩:=a5 h
  obtain⟨h5,h6⟩:=a2 h5
  exact LQ go.toGo h1 h2 h3 h4 h5 h6
 | .bQ o kx e,st,h=>by
  refine gx (λts v p h=> ?_) st h
  refine kC (λt r h=> ?_) ts h
  refine gb (λx y p1 h=> ?_) t h
  refine kE (λh=> ?_) r h
  obtain⟨h1,_,_,h4,h5,h6⟩:=a6 h
  exact Ml go.toGo h1 h4 h5 h6
 | .app i e,st,h=>by
  refine nC (λc p h=> ?_) st h
  refine xp (λf x l q h=> ?_) c h
  refine kE (λh=> ?_) l h
  refine kC (λv r h=> ?_) x h
  refine kE (λh=> ?_) r h
  obtain⟨h1,h2,h3⟩:=a3 h
  exact Fm go.toGo h1 h2 h3
 | .ext i e,st,h=>by
  refine nC (λc p h=> ?_) st h
  refine xp (λf x l q h=> ?_) c h
  refine kE (λh=> ?_) l h
  refine kC (λv r h=> ?_) x h
  refine kE (λh=> ?_) r h
  obtain⟨h1,h2,h3⟩:=a3 h
  exact HY go.toGo h1 h2 h3
 | .bI i c f e,st,h=>by
  refine gx (λts v p h=> ?_) st h
  refine kC (λt r h=> ?_) ts h
  refine xV (λx n p1 h=> ?_) t h
  refine zy (λx p2 h=> ?_) x h
  refine kE (λh=> ?_) r h
  obtain⟨h0,hn,h4,h6⟩:=a4 h
  obtain⟨h1,h2,h3⟩:=fM h0
  cases of_decide_eq_true hn
  exact Z6 go.toGo h1 h2 h3 h4 h6
 | .el,st,h=>λpins s U H D I ⟨B,G,τ,h,s',p⟩=>p.elim
 | .ex e,st,h=>by
  refine nC (λv p h=> ?_) st h
  exact C1 go.toGo (a2 h).1 (a2 h).2
 | .ret e,st,h=>by
  refine DV (λv p h=> ?_) st h
  refine kS (λv h=> ?_) v h
  exact yx go.toGo h
 | .iff c a b,st,h=>by
  refine A5 (λx y z p h=> ?_) st h
  obtain⟨h0,h1,h2,h3⟩:=a4 h
  exact Ff ((Qc c go.toGo h1).2 h0) (dq go a h2) (dq go b h3)
 | .iN n c b,st,h=>by
  refine EV (λx y z p h=> ?_) st h
  refine kE (λh=> ?_) z h
  obtain⟨h0,h1,h2⟩:=a3 h
  exact Lp go ((Qc c go.toGo h1).2 h0) (dq go b h2)
 | .for tg one it b,st,h=>by
  refine EL (λt i y z p h=> ?_) st h
  refine kE (λh=> ?_) z h
  obtain⟨h1,h2,h3,h4⟩:=a4 h
  exact CY go h1 h2 h3 (dq go b h4)
theorem dq (go:mr Y F X E k cf): ∀(m:M.Ss){sts:List Stmt},cV cf m sts=u0->dc X sts (cN Y E (M.execs F m))
 | .nil,sts,h=>by
  cases Af8.mp h
  exact LK
 | .cons s ss,sts,h=>by
  refine kC (λst r h=> ?_) sts h
  exact yO (Mg go s (a2 h).1) (dq go ss (a2 h).2)
end
end
section
variable {P:Program}{w:World}{K:Aa9}{mg:Str->Option Value}{base:Heap}{N:List Str}{y8:Str}{scope:Scope}{f:Addr}{cd:Value}{A:Around}{outer:List Env}{s:Shared}{H:Hp}{E:XK}
def IX:ZF (dQ P w) (gQ (dQ P w) P w K mg base N y8 scope f cd A outer s H E) E:=λ_ _ _ _ _ _ _ z=>z.elim
end
structure Txt (K:Aa9) (mg:Str->Option Value) (f:String) where
 st:Stmt
 fa:Addr
 fd:FuncData
 N:List Str
 ps:List Str
structure lM {K:Aa9}{mg:Str->Option Value}{f:String}(t:Txt K mg f) (d:M.Fn) (fns own dN dY:List String) (ob:fZ):Prop where
 fn: ∃x y8,mU K x y8 t.st t.fa t.fd
 bd:Binds K t.fd t.ps []
 sc:QD t.N t.ps (Jl t.st)
 n:t.N.length=d.n
 p:t.ps.length=d.ps
 le:d.ps<=d.n
 Dp:cV ⟨Jl t.st,t.N,fns,own,dN,dY,ob⟩ d.body (qK t.st)=u0
structure om (Y:Ge) (p:M.Prog) (mg:Str->Option Value) (own dN dY:List String) (ob:fZ):Prop where
 cl:p.cl=Y.cl
 ow:own=Y.own
 blt: ∀x,x∈cD->mg (Xf x)=y0
 con: ∀x d,p.con.lookup x=k0 d-> ∃u v,mg (Xf x)=k0 u/\RelV v u/\ ∀G H,aA Y G H d v
 cls: ∀c,own.contains c=u0->mg (Xf c)=k0 (.ref (Y.ca c))
 fld: ∀c f,ob.fl.contains (c,f)=u0->d3 Y.K (Y.ca c)/\bZ Y.K (Y.ca c) (Xf f)
 iZ: ∀c m q,ob.mt.contains (c,m,q)=u0->d3 Y.K (Y.ca c)/\ob.ms.contains q=u0/\lQ Y.K (Y.ca c) (Xf m) (Y.ma q)
 eU: ∀c q,ob.eU.contains (c,q)=u0->mg (Xf c)=k0 (.ref (Y.ca c))/\ob.ms.contains q=u0/\Mk Y.K (Y.ca c) (Y.ma q)
section
variable {P:Program}{w:World}{Y:Ge}{mg:Str->Option Value}{base:Heap}{p:M.Prog}{own dN dY fns:List String}{ob:fZ}
def Ep (k:ag Y G h H) (r:bh Y G H ws vs) (no: ∀w∈ws,my w=u0) (m:N.length=n):bq Y ⟨G,H,h⟩ G (ws.map k0++Aa3 (n-ws.length) y0) h (start N vs) H:=by
 have p:=r.length
 have get: ∀ {i}{w},M.Gn (ws.map k0++Aa3 (n-ws.length) y0) i=k0 w->ws[i]? =k0 w:=λ{i w} e=>by
  rw [WF]at e
  by_cases g:i<ws.length
  ·rw [Ad2 (by simpa using g),Ac2]at e
   cases q:ws[i]? with
   | none=>rw [q]at e;cases e
   | some A=>rw [q]at e;exact e
  ·rw [Ad9 (by simpa using g),Ai2]at e
   split at e<;>cases e
 have f: ∀ {ws}{vs}{i:Nat}{w},bh Y G H ws vs->ws[i]? =k0 w-> ∃v,vs[i]? =k0 v/\ai Y G H w v:=by
  intro ws
  induction ws with
  | nil=>intro vs i w _ e;simp at e
  | cons a r t=>
   intro vs i w ⟨v,z,e1,u,x⟩ e
   subst e1
   cases i with
   | zero=>simp at e;subst e;exact⟨v,rfl,u⟩
   | succ i=>
    obtain⟨o,s,l⟩:=t x (by assumption)
    exact⟨o,by simpa using s,l⟩
 have b: ∀ {i}{c},M.Gn _ i≠k0 (.own c):=λ{i c} e=>by
  have:=no _ (Ac4 (get e))
  cases this
 refine⟨⟨?_,λi w e=> ?_,λi j c w a y e1=>absurd e1 b,k⟩,Ext.refl,k,λi c a e1=>absurd e1 b⟩
 ·unfold start
  rw [Aa5,Aa5,Aa,Aa,Ad3,Ad3,m,p]
 ·obtain⟨v,e2,d⟩:=f r (get e)
  refine⟨v,?_,d⟩
  unfold start
  have g:=(Aa1.mp e2).1
  rw [Ad2 (by simp_all),Ac2,e2]
  rfl
def EZ {E:XK}{G:Gh}{H:Hp}{h:M.AH}{Q:VK}{o:M.O}(k:ag Y G h H) (p:az Y E G H (M.Gw h.length o) Q):Zs Y E ⟨G,H,h⟩ o { nx:=λ_ H'=>Q .aj H',rt:=Q }:=by
 have c: ∀ {w:M.W}{g:M.AH}{b:Gh}{H':Hp}{v:V},(∀ i,w≠ .bor i)->az Y E G H (M.fin h.length w g) Q->Ext G H b H'->ag Y b g H'->ai Y b H' w v->aH [] [] H w v->Q v H':=λ{w g b H' v} q p e a r f=>by
  unfold M.fin at p
  split at p
  ·exact p b H' e a v r f
  ·split at p
   ·rename_i j
    rw [Aa0,k.len]at j
    have n:=e.cut
    rw [k.len]at p
    exact p (b.cut G.n) H' n (a.cut e.le j.2) v (r.cut G.n e.le j.1 q) f
   ·exact p b H' e a v r f
 cases o with
 | next m g=>exact λb s H' l=>c (w:= .v .aj) (v:= .aj) (λi z=>by cases z) p l.ext l.st.heap rfl trivial
 | ret w g=>
  cases w with
  | bor i=>exact p.elim
  | v d=>exact λb v H' e a r f=>c (λi z=>by cases z) p e a r f
  | own i=>exact λb v H' e a r f=>c (λi z=>by cases z) p e a r f
 | brk m g=>exact p.elim
 | cont m g=>exact p.elim
 | fail=>exact p.elim
end
section
variable {P:Program}{w:World}{Y:Ge}{mg:Str->Option Value}{base:Heap}{p:M.Prog}{own dN dY fns:List String}{ob:fZ}
def u1 (P:Program) (w:World) (Y:Ge) (b:Str->Option Value) (base:Heap) (p:M.Prog) (k:Nat) (f:String):Prop:=
 ∃ps a fd,QF P w Y.K b base (dQ P w) (2*k+1) a fd ps (gs Y (M.call p k f))/\Binds Y.K fd ps []/\Ah4 Y.K (.ref a)=u0/\b (Xf f)=k0 (.ref a)
def pU (P:Program) (w:World) (Y:Ge) (a:Str->Option Value) (base:Heap) (p:M.Prog) (k:Nat) (q:String):Prop:=
 ∃ps fd,QF P w Y.K a base (dQ P w) (2*k+1) (Y.ma q) fd ps (gs Y (M.call p k q))/\Binds Y.K fd ps []
def m8 (l:om Y p mg own dN dY ob){f:String}{d:M.Fn}{t:Txt Y.K mg f}(ok:lM t d fns own dN dY ob) (S:p.fns.lookup f=k0 d) (k:Nat) (ih: ∀g,fns.contains g=u0->u1 P w Y mg base p k g) (T: ∀q,ob.ms.contains q=u0->pU P w Y mg base p k q):
 QF P w Y.K mg base (dQ P w) (2*(k+1)+1) t.fa t.fd t.ps (gs Y (M.call p (k+1) f)):=by
 have a: ∀ {b:List M.W}{h:M.AH},b.length≠d.ps->M.call p (k+1) f b h= .fail:=λ{b h} v=>by
  rw [M.call,S]
  simp [M.run,v]
 have i: ∀ {b:List M.W}{h:M.AH},b.length=d.ps->M.call p (k+1) f b h=M.Gw h.length (M.execs ⟨M.call p k,p.cl,p.con⟩ d.body (b.map k0++Aa3 (d.n-d.ps) y0) h):=λ{b h} v=>M.Gb S k b h v
 obtain⟨x,R,F⟩:=ok.fn
 rw [show 2*(k+1)+1=(2*k+1+1)+1 by omega]
 refine Hc F ok.sc (λX H Q E ⟨G,h,b,y,I,no,q⟩=> ?_) λU A B s H X Q E e ⟨G,h,b,y,I,no,q⟩=> ?_
 ·by_cases o:b.length=d.ps
  ·rw [← I.length,o,ok.p]
  ·rw [a o]at q;exact q.elim
 ·by_cases o:b.length=d.ps
  rotate_left
  ·rw [a o]at q;exact q.elim
  rw [i o]at q
  refine⟨cN Y E (M.execs ⟨M.call p k,p.cl,p.con⟩ d.body),dq (k:=2*k+1) ?_ d.body ok.Dp,?_⟩
  ·refine { N:=rfl,K:=rfl,cl:=l.cl,ow:=l.ow,nd:=ok.sc.nd,g8:=λx j=>sN j,tK:=λx j=>j,iU:=λx j=>⟨tH j,.inl rfl⟩,mL:=λx j=>j,gl:=λx j=>pC j,calm:=rfl,room:=e.mono (by omega),d4:=e,pass:=IX,blt:=l.blt,con:=l.con,fn:=λg Z=> ?_,cls:=l.cls,fld:=l.fld,iZ:=λc m q z=> ?_,eU:=λc q z=> ?_,ic:=Cd,mI:=rfl,Be:=rfl,ex:=rfl }
   ·obtain⟨O,V,L,u,r,W,h4⟩:=ih g Z
    exact⟨O,⟨V,L,u,r,W,h4⟩⟩
   ·obtain⟨J,C,D⟩:=l.iZ c m q z
    obtain⟨O,L,u,r⟩:=T q C
    exact⟨J,_,L,O,D,u,r⟩
   ·obtain⟨J,C,D⟩:=l.eU c q z
    obtain⟨O,L,u,r⟩:=T q C
    exact⟨J,_,L,O,D,u,r⟩
  ·refine⟨⟨G,H,h⟩,G,b.map k0++Aa3 (d.n-d.ps) y0,h,?_,EZ y q⟩
   have:=Ep (N:=t.N) (n:=d.n) y I no ok.n
   rw [o]at this
   exact this
def ri (f:String) (d:Addr) (g:FuncData) (ps:List Str):QF P w Y.K mg base (dQ P w) (2*0+1) d g ps (gs Y (M.call p 0 f)):=
 ⟨λe H Q E ⟨G,h,j,c,i,no,q⟩=>q.elim,λA a s H b k e Q E _ _ _ _ ⟨G,h,j,c,i,no,q⟩=>q.elim⟩
def LG (j:om Y p mg own dN dY ob) (all: ∀f,fns.contains f=u0-> ∃d,p.fns.lookup f=k0 d/\ ∃t:Txt Y.K mg f,lM t d fns own dN dY ob/\Ah4 Y.K (.ref t.fa)=u0/\mg (Xf f)=k0 (.ref t.fa))
 (a: ∀q,ob.ms.contains q=u0-> ∃d,p.fns.lookup q=k0 d/\ ∃t:Txt Y.K mg q,lM t d fns own dN dY ob/\t.fa=Y.ma q): ∀k,(∀ f,fns.contains f=u0->u1 P w Y mg base p k f)/\ ∀q,ob.ms.contains q=u0->pU P w Y mg base p k q:=by
 intro k
 induction k with
 | zero=>
  refine⟨λf e=> ?_,λq i=> ?_⟩
  ·obtain⟨d,b,t,ok,g,h⟩:=all f e
   exact⟨t.ps,t.fa,t.fd,ri f _ _ _,ok.bd,g,h⟩
  ·obtain⟨d,b,t,ok,l⟩:=a q i
   exact⟨t.ps,t.fd,ri q _ _ _,ok.bd⟩
 | succ k c=>
  refine⟨λf e=> ?_,λq i=> ?_⟩
  ·obtain⟨d,b,t,ok,g,h⟩:=all f e
   exact⟨t.ps,t.fa,t.fd,m8 j ok b k c.1 c.2,ok.bd,g,h⟩
  ·obtain⟨d,b,t,ok,l⟩:=a q i
   exact⟨t.ps,t.fd,l▸m8 j ok b k c.1 c.2,ok.bd⟩
def oi (K:Aa9):Sp:=λc H Q _=> ∃(a:Addr) (b:List Int),c= [.ref a]/\br K H a (b.map V.int)/\b.length<=63/\ ∀H',Q (.bl u0) H'
theorem uU : ∀(ns:List Int),ab Y G H (ns.map M.D.int) (ns.map V.int)
 | []=>rfl
 | n::ns=>⟨_,_,rfl,rfl,uU ns⟩
def yV {n k:Nat}{h:Addr}{i:FuncData}{ps:List Str}(F:QF P w Y.K mg base (dQ P w) n h i ps (gs Y (M.call p k "law"))) (fi: ∀ns:List Int,ns.length<=63-> ∃h',M.call p k "law" [.v (.lst (ns.map .int))] []= .ok (.v (.bl true)) h'):
 QF P w Y.K mg base lB n h i ps (oi Y.K):=by
 refine Ef F ?_
 rintro B H Q E ⟨a,ns,x,d,j,q⟩
 subst x
 obtain⟨h',u⟩:=fi ns j
 have fin: ∀G:Gh,ag Y G [] H->iF Y G H a (ns.map V.int)->gs Y (M.call p k "law") [.ref a] H Q (fun _ _ _=>False):=fun G l y=>by
  refine⟨G,[],[.v (.lst (ns.map .int))],l,⟨.ref a,[],rfl,⟨a,ns.map V.int,rfl,y,uU ns⟩,rfl⟩,λw t=> ?_,?_⟩
  ·cases Ac3.mp t;rfl
  ·rw [u]
   intro A m _ _ v r _
   cases (show v= .bl u0 from r)
   exact q m
 rcases d with d | d
 ·refine fin ⟨λb=>b=a,λ_=>0,0⟩ ⟨rfl,λr c e=>by simp at e,λr s f=>absurd f (Ag5 _),λb g=> ?_⟩ (.inl ⟨rfl,d⟩)
  subst g
  rcases d with z | ⟨o,z⟩
  ·exact⟨_,z⟩
  ·exact⟨_,z⟩
 ·exact fin ⟨λ_=>False,λ_=>0,0⟩ ⟨rfl,λr c e=>by simp at e,λr s f=>absurd f (Ag5 _),λb g=>g.elim⟩ (.inr d)
def walk {l:PySem.W.OpenLaw}{K:Params->Aa9}(k) (n:a9 k callerA) (e:l.most=k0 63) (b:d.params.defaults= [])
 (c: ∀ w h,YP w h->(K w.params).In h)
 (F: ∀ w mg i h,(K w.params).In h->h.Ns mainGlobals mg->mg d.name=k0 (.ref i) →
   ∃fd:FuncData,(∀ s u,BindsTo s fd ⟨[u],[]⟩ [(x,u)])/\ ∀base:Heap,(K w.params).In base->base.Ns mainGlobals mg->QF l.prog w (K w.params) mg base lB k i fd [x] (oi (K w.params))):
 PySem.W.WalkO q loose XP YP l.row.toRowW d [] (λf vs=>PySem.call f vs):=
 L2.gO e (by decide) b n c F (λ_ _ a m g _ j=>⟨a,m,rfl,j,g,λ_=>rfl⟩) λ_ _ _ _ _ z=>z
end
open PySem PySem.W PyProof.Rows KTD
theorem rG {f g:Str->Option (Str×Value)}: ∀ {l:List Str},(∀ n∈l,f n=g n)->l.filterMap f=l.filterMap g
 | [],_=>rfl
 | a::l,h=>by rw [Aj9,Aj9,h a Aa4,rG λn b=>h n (Aa2 _ b)]
theorem pR: ∀ {ps:List Str}{b:List Value},ps.Nodup->b.length=ps.length->ps.filterMap (λn=>((ps.zip b).lookup n).map (n, ·))=ps.zip b
 | [],b,_,_=>rfl
 | p::ps,[],_,h=>by cases h
 | p::ps,u::b,d,h=>by
  have a:=Ai.mp d
  rw [List.zip_cons_cons,List.filterMap_cons_some (by rw [List.lookup_cons_self];rfl)]
  congr 1
  refine(rG λn c=> ?_).trans (pR a.2 (Nat.succ.inj h))
  rw [Ab7,beq_eq_false_iff_ne.mpr (λe=>a.1 (e▸c):n≠p)]
def Dh {ps:List Str}{a:List Value}(h:a.length=ps.length)(b:n∈ps):((ps.zip a).lookup n).isSome=true:=by
 induction ps generalizing a with
 | nil=>cases b
 | cons p ps c=>
  cases a with
  | nil=>cases h
  | cons u a=>
   rw [List.zip_cons_cons,Ab7]
   cases e:n==p with
   | true=>rfl
   | false=>exact c (Nat.succ.inj h) ((Ac.mp b).resolve_left (beq_eq_false_iff_ne.mp e))
abbrev d5 (a:FuncData):List Str:=a.params.args.map (·.arg)
def Hr (h1:fd.params.posonlyargs= []) (h2:fd.params.vararg=y0) (h3:fd.params.kwonlyargs= []) (h4:fd.params.kwarg=y0) (h5:fd.defaults= .none) (nd:(d5 fd).Nodup)(hl:us.length=(d5 fd).length):bindArgs fd ⟨us,[]⟩=pure ((d5 fd).zip us):=by
 have e: ∀k,((d5 fd).take k).filter (λn=>(((d5 fd).zip us).lookup n).isNone)= []:=λk=>List.filter_eq_nil_iff.mpr λn hn=>by
  have:=Dh hl (List.mem_of_mem_take hn)
  cases q:((d5 fd).zip us).lookup n with
  | none=>rw [q]at this;cases this
  | some _=>simp
 have f:=pR nd hl
 obtain⟨n,q,⟨po,as,va,ko,kd,ka,df⟩,b,sc,g,cl,d,kV,doc,pm,an,cd,ct,bi⟩:=fd
 cases h1
 cases h2
 cases h3
 cases h4
 cases h5
 refine(if_neg ?_).trans ((if_neg ?_).trans ?_)
 ·simpa using Al0 hl
 ·exact λz=>by
   have z':=(congrArg (λl:List Str=> !l.isEmpty) (e _)).symm.trans z
   cases z'
 ·refine Eq.trans ?_ (congrArg pure f)
  rw [show ∀k,List.drop k (none.getD #[]).toList= []from λk=>List.drop_nil,List.zip_nil_right]
  exact congrArg (λl:List Str=>(pure _:Sem _)) (Af1 _)
noncomputable def mQ (K:Frag) (a:Addr) (f:FuncData->List Stmt->Bool):Bool:=match K.lookup a with
 | some ⟨_,_,.func fd,_⟩=>(match fd.body with
  | .stmts b=>f fd b
  | _=>k9)
 | _=>k9
def uH {K:Frag}(h:mQ K a f=u0): ∃oc i fd sl b,K.lookup a=k0 ⟨oc,i,.func fd,sl⟩/\fd.body= .stmts b/\f fd b=true:=by
 unfold mQ at h
 split at h
 ·rename_i e
  split at h
  ·rename_i e2
   exact⟨_,_,_,_,_,e,e2,h⟩
  ·cases h
 ·cases h
def mD (K:Frag) (a:Addr) (b:FuncData) (N:List Str):Prop:=
 (b.globals=mainGlobals/\b.builtins=builtinsNs/\b.closure= []/\b.defaults= .none)/\codeIn K b.code b.qualname=u0/\keepIn K (.ref a)=u0 ∧
 (b.params.posonlyargs.isEmpty=u0/\b.params.vararg.isNone=u0/\b.params.kwonlyargs.isEmpty=u0/\b.params.kwarg.isNone=u0) ∧
 b.scope.kind= .function/\b.scope.isCoroutine=k9/\b.scope.isGenerator=k9/\N.Nodup/\N.take (d5 b).length=d5 b/\(∀ x∈d5 b,b.scope.names.lookup x=k0 .local\/b.scope.names.lookup x=k0 .cell)/\ ∀y∈b.scope.names,y.2≠ .free
instance {K:Frag}{a:Addr}{fd:FuncData}{N:List Str}:Decidable (mD K a fd N):=by unfold mD;infer_instance
def DM {K:Frag}(l:K.lookup a=k0 ⟨oc,od,.func fd,sl⟩) (s:fd.body= .stmts b) (p:mD K a fd N):
 ∃st x q,qK st=b/\Jl st=fd.scope/\mU K x q st a fd/\QD N (d5 fd) fd.scope/\ ∀i:List Value,i.length=(d5 fd).length->bindArgs fd ⟨i,[]⟩=pure ((d5 fd).zip i):=by
 obtain⟨⟨g,bi,t,c⟩,h,r,⟨k,a2,a3,a4⟩,f,m,n,e,d,o,u⟩:=p
 refine⟨.FunctionDef fd.name fd.params b [] y0 [] fd.scope y0 fd.name ⟨0,0,0,0⟩,fd.name,fd.qualname,rfl,rfl,⟨⟨oc,od,fd.kwdefaults,fd.doc,fd.pyModule,fd.annotations,fd.code,fd.closureTuple,sl,?_,l,h⟩,r⟩,⟨f,m,n,e,d,o,u⟩,λi j=>Hr (Af8.mp k) (Aj7.mp a2) (Af8.mp a3) (Aj7.mp a4) c (d▸(List.take_sublist _ _).nodup e) j⟩
 cases fd
 cases s
 cases g
 cases bi
 cases t
 cases c
 rfl
def oy:Option (Option Value)->Addr
 | some (k0 (.ref a))=>a
 | _=>0
abbrev et (K:Frag) (c:String):Addr:=oy (nsIn K mainGlobals (Xf c))
abbrev oP (K:Frag) (c:String):Prop:=nsIn K mainGlobals (Xf c)=k0 (k0 (.ref (et K c)))
noncomputable def hC (K:Frag) (a:fZ) (q:String):Addr:=match a.mt.find? (·.2.2==q)with
 | some (c,m,_)=>oy (findIn K (.ref (et K c)) (Xf m))
 | none=>match a.eU.find? (·.2==q)with
  | some (c,_)=>oy (findIn K (.ref (et K c)) "__init__")
  | none=>0
def CJ (a:Scope):List Str:=a.names.filterMap λy=>if y.2= .local\/y.2= .cell then k0 y.1 else y0
def m1 (K:Frag) (p:M.Prog) (c own g e:List String) (h:fZ) (nm:List (String×List String)) (a:Addr) (f:String):Bool:=mQ K a λfd b=>match p.fns.lookup f with
 | some d=>(λN=>y9 (mD K a fd N/\N.length=d.n/\(d5 fd).length=d.ps/\d.ps<=d.n)&&cV ⟨fd.scope,N,c,own,g,e,h⟩ d.body b) (((nm.lookup f).map λl=>l.map Xf).getD (CJ fd.scope))
 | none=>k9
def nv {K:Frag}(mg) (h:m1 K p fns own dN dY ob nm a f=u0):
 ∃d,p.fns.lookup f=k0 d/\ ∃t:Txt K mg f,lM t d fns own dN dY ob/\t.fa=a/\keepIn K (.ref a)=u0/\ ∃oc j sl,K.lookup a=k0 ⟨oc,j,.func t.fd,sl⟩/\t.ps=d5 t.fd/\ ∀i:List Value,i.length=t.ps.length->bindArgs t.fd ⟨i,[]⟩=pure (t.ps.zip i):=by
 obtain⟨oc,j,L,sl,b,l,s,h⟩:=uH h
 cases e:p.fns.lookup f with
 | none=>rw [e]at h;cases h
 | some d=>
  rw [e]at h
  generalize ((nm.lookup f).map λl=>l.map Xf).getD _=N at h
  obtain⟨n,c⟩:=(Aa0 _ _).mp h
  obtain⟨q,m,u,o⟩:=of_decide_eq_true n
  obtain⟨r,x,v,rfl,w,F,g,k⟩:=DM l s q
  rw [← w]at g c
  exact⟨d,rfl,⟨r,a,L,_,d5 L⟩,⟨⟨x,v,F⟩,.all k,g,m,u,o,c⟩,rfl,F.kp,oc,j,sl,l,rfl,k⟩
noncomputable def nL (K:Frag) (a:Addr) (f:List Value->Bool):Bool:=match K.lookup a with
 | some o=>(match o.data with
  | .seq b _=>y9 (o.cls= .type "tuple" /\o.dict=none/\b.size<=100)&&f b.toList
  | _=>k9)
 | none=>k9
def Lg (h:nL Y.K a f=u0): ∃i,f i=u0/\ ∀vs,Vals vs i-> ∀G H,e3 Y G H a vs:=by
 unfold nL at h
 split at h
 ·rename_i o e
  split at h
  ·rename_i b n e2
   obtain⟨c,d⟩:=(Aa0 _ _).mp h
   obtain⟨g,j,k⟩:=of_decide_eq_true c
   exact⟨_,d,λvs r G H=> .inr ⟨o,b,n,e,g,j,e2,Ab5 k (by rw [sizeLine_eq];decide),r⟩⟩
  ·cases h
 ·cases h
mutual
noncomputable def nI (K:Frag):M.D->Value->Bool
 | .int i,.int j _=>y9 (i=j)
 | .str s,.str t _=>y9 (aD s=t)
 | .tup ds,.ref a=>nL K a λus=>fP K ds us
 | _,_=>k9
noncomputable def fP (K:Frag):List M.D->List Value->Bool
 | [],[]=>u0
 | d::ds,u::us=>nI K d u&&fP K ds us
 | _,_=>k9
end
def sG (K:Frag) (x:String) (d:M.D):Bool:=match nsIn K mainGlobals (Xf x)with
 | some (k0 u)=>nI K d u
 | _=>k9
mutual
theorem uf {Y:Ge}: ∀ {d:M.D}{u:Value},nI Y.K d u=u0-> ∃v,RelV v u/\ ∀G H,aA Y G H d v
 | .int _,.int _ _,h=>by cases of_decide_eq_true h;exact⟨.int _,⟨_,rfl⟩,λ_ _=>rfl⟩
 | .str _,.str _ _,h=>by cases of_decide_eq_true h;exact⟨.str _,⟨_,rfl⟩,λ_ _=>rfl⟩
 | .tup ds,.ref a,h=>by
  obtain⟨us,h1,h2⟩:=Lg h
  obtain⟨vs,r,h3⟩:=eG h1
  exact⟨.ref a,rfl,λG H=>⟨a,vs,rfl,h2 vs r G H,h3 G H⟩⟩
theorem eG {Y:Ge}: ∀ {ds:List M.D}{us:List Value},fP Y.K ds us=u0-> ∃vs,Vals vs us/\ ∀G H,ab Y G H ds vs
 | [],[],_=>⟨[],.nil,λ_ _=>rfl⟩
 | d::ds,u::us,h=>by
  obtain⟨h1,h2⟩:=(Aa0 _ _).mp h
  obtain⟨v,r1,h3⟩:=uf h1
  obtain⟨vs,r2,h4⟩:=eG h2
  exact⟨v::vs,.cons r1 r2,λG H=>⟨v,vs,rfl,h3 G H,h4 G H⟩⟩
end
theorem u3 : ∀ {l:List (String×α)}{x}{d},l.lookup x=k0 d->(x,d)∈l
 | (k,v)::l,x,d,h=>by
  rw [Ab7]at h
  by_cases q:(x==k)=u0
  ·rw [q]at h;cases h;rw [eq_of_beq q];exact Aa4
  ·rw [eq_false_of_ne_true q]at h;exact Aa2 _ (u3 h)
abbrev tQ (K:Frag) (C:Addr):Prop:=plainGet K C Str.empty=true/\hasDictIn K C=true/\plainOver K C=true/\findIn K (.ref C) "__setattr__" =some (some (.builtin "object.__setattr__"))
def nZ (K:Frag) (p:M.Prog) (b own e d:List String) (a:fZ) (nm:List (String×List String)):Prop:=
 (∀ x∈cD,nsIn K mainGlobals (Xf x)=k0 y0)/\(∀ x∈p.con,sG K x.1 x.2=u0)/\(∀ c∈own,oP K c) ∧
 (∀ c∈a.fl,tQ K (et K c.1)/\findIn K (.ref (et K c.1)) (Xf c.2)=k0 y0) ∧
 (∀ c∈a.mt,tQ K (et K c.1)/\a.ms.contains c.2.2=u0/\findIn K (.ref (et K c.1)) (Xf c.2.1)=k0 (k0 (.ref (hC K a c.2.2)))/\isFn K (.ref (hC K a c.2.2))=u0/\keepIn K (.ref (hC K a c.2.2))=u0) ∧
 (∀ c∈a.eU,oP K c.1/\a.ms.contains c.2=true/\makesIn K (et K c.1)=true/\findIn K (.ref (et K c.1)) "__init__" =some (some (.ref (hC K a c.2)))/\isFn K (.ref (hC K a c.2))=true/\keepIn K (.ref (et K c.1))=true) ∧
 (∀ f∈b,oP K f/\m1 K p b own e d a nm (et K f) f=true)/\(∀ q∈a.ms,m1 K p b own e d a nm (hC K a q) q=true)/\b.contains "law" =true/\mQ K (et K "law") (fun fd _=>decide (d5 fd= [("_law_script" :Str)]))=true
set_option synthInstance.maxSize 1000 in
instance {K:Frag}{p:M.Prog}{fns own dN dY:List String}{ob:fZ}{nm:List (String×List String)}:Decidable (nZ K p fns own dN dY ob nm):=by unfold nZ;infer_instance
def wZ  [BEq α] [LawfulBEq α] {l:List α}(h:l.contains x=u0):x∈l:=List.contains_iff_mem.mp h
def hO {l:OpenLaw}{K:Frag}(p) (fns own dN dY) (ob) (nm) (k) (X:K.In h) (G:h.Ns mainGlobals mg) (H:mg "law" =some (.ref fa)) (T:decide (nZ K p fns own dN dY ob nm)=true)
 (fi: ∀ns:List Int,ns.length<=63-> ∃h',M.call p (k+1) "law" [.v (.lst (ns.map .int))] []= .ok (.v (.bl true)) h'):
 ∃fd:FuncData,(∀ s v,BindsTo s fd ⟨[v],[]⟩ [("_law_script",v)])/\ ∀base:Heap,K.In base->base.Ns mainGlobals mg->QF l.prog w K mg base lB (2*(k+1)+1) fa fd ["_law_script"] (oi K):=by
 obtain⟨R,Z,t2,S,O,t8,C,F,y,E⟩:=of_decide_eq_true T
 have I:om ⟨K,et K,p.cl,own,hC K ob⟩ p mg own dN dY ob:=by
  refine⟨rfl,rfl,λx W=>mg_none_of X G (R x W),λx d a=> ?_,λc b=>mg_of X G (t2 c (wZ b)),λc f b=> ?_,λc m q b=> ?_,λc q b=> ?_⟩
  ·have z:=Z _ (u3 a)
   unfold sG at z
   split at z
   ·rename_i u e
    obtain⟨v,r⟩:=uf (Y:=⟨K,et K,p.cl,own,hC K ob⟩) z
    exact⟨u,v,mg_of X G e,r⟩
   ·cases z
  ·obtain⟨⟨e1,e2,i,j⟩,n⟩:=S _ (wZ b)
   exact⟨⟨e1,e2,i,j⟩,n⟩
  ·obtain⟨⟨e1,e2,i,j⟩,n,D,e7,V⟩:=O (c,m,q) (wZ b)
   exact⟨⟨e1,e2,i,j⟩,n,D,e7,V⟩
  ·obtain⟨e1,e2,i,j,n,D⟩:=t8 (c,q) (wZ b)
   exact⟨mg_of X G e1,e2,i,j,n,D⟩
 have A:=λf B=>mg_of X G (C f (wZ B)).1
 have e:et K "law" =fa:=by
  have:=(A "law" y).symm.trans H
  cases this
  rfl
 obtain⟨d,a,t,ok,g,L,oc,od,sl,U,Q,bd⟩:=nv mg (C "law" (wZ y)).2
 obtain⟨_,_,fd,_,_,o,_,z⟩:=uH E
 rw [U]at o
 cases o
 have z:=Q.trans (of_decide_eq_true z)
 refine⟨t.fd,λs v=> .of_eq ((bd [v] (by rw [z];rfl)).trans (by rw [z];rfl)),λbase _ _=> ?_⟩
 have J:=LG (P:=l.prog) (w:=w) (base:=base) I (λf B=>by
  obtain⟨d,a,t,ok,g,L,_⟩:=nv mg (C f (wZ B)).2
  exact⟨d,a,t,ok,g▸L,g▸A f B⟩) (λq N=>by
  obtain⟨d,a,t,ok,g,_⟩:=nv mg (F q (wZ N))
  exact⟨d,a,t,ok,g⟩) k
 have:=yV (m8 I ok a k J.1 J.2) fi
 rw [g,e,z]at this
 exact this
end L2.MS
namespace Wf
def gu (t k):t / 2 ^ k % 2=(t.testBit k).toNat:=(Nat.toNat_testBit t k).symm
theorem wO: ∀(n a b:Nat),a<=n->(a ||| b)+(a &&& b)=a+b
 | 0,a,b,h=>by
  have:a=0:=by omega
  subst this;simp
 | n+1,a,b,h=>by
  by_cases c:a=0
  ·subst c;simp
  have g:=wO n (a / 2) (b / 2) (by omega)
  have e1:=Al6 (a ||| b) 2
  have e2:=Al6 (a &&& b) 2
  rw [Nat.or_div_two]at e1
  rw [Nat.and_div_two]at e2
  have f:(a ||| b) % 2=1↔a % 2=1\/b % 2=1:=Nat.or_mod_two_eq_one
  have e:(a &&& b) % 2=1↔a % 2=1/\b % 2=1:=Nat.and_mod_two_eq_one
  have i:=Al6 a 2
  have j:=Al6 b 2
  have l:(a ||| b) % 2<2:=Aj6 _ (by decide)
  have k:(a &&& b) % 2<2:=Aj6 _ (by decide)
  generalize (a ||| b) % 2=p at*
  generalize (a &&& b) % 2=q at*
  by_cases c:a % 2=1<;>by_cases d:b % 2=1
  ·have:p=1:=f.mpr (.inl c)
   have:q=1:=e.mpr ⟨c,d⟩
   omega
  ·have:p=1:=f.mpr (.inl c)
   have: ¬q=1:=λh=>d (e.mp h).2
   omega
  ·have:p=1:=f.mpr (.inr d)
   have: ¬q=1:=λh=>c (e.mp h).1
   omega
  ·have: ¬p=1:=λh=>(f.mp h).elim c d
   have: ¬q=1:=λh=>c (e.mp h).1
   omega
def Mb (a b:Nat):a-(a &&& b)=a ^^^ (a &&& b):=by
 have h:=wO _ (a ^^^ (a &&& b)) (a &&& b) (Ab _)
 have e1:(a ^^^ (a &&& b)) ||| (a &&& b)=a:=Aj8 λk=>by
  simp [Ah1]
  cases a.testBit k<;>cases b.testBit k<;>rfl
 have e2:(a ^^^ (a &&& b)) &&& (a &&& b)=0:=Aj8 λk=>by
  simp only [Nat.testBit_xor,Ah1,Af9]
  cases a.testBit k<;>cases b.testBit k<;>rfl
 lia
def aP (a b k:Nat):(a-(a &&& b)).testBit k=(a.testBit k&& !b.testBit k):=by
 rw [Mb]
 simp [Ah1]
 cases a.testBit k<;>cases b.testBit k<;>rfl
def ay (n t:Nat):List (Nat×Nat):=((Aa8 (n*n)).filter t.testBit).map λk=>(k / n,k % n)
def cO (n:Nat) (ps:List (Nat×Nat)):Nat:=ps.foldl (λt p=>t ||| 2 ^ (p.1*n+p.2)) 0
def f6 (n:Nat) (ps:List (Nat×Nat)):Prop:= ∀p∈ps,p.1<n/\p.2<n
def place_lt {n a b:Nat}(c:a<n) (d:b<n):a*n+b<n*n:=by
 have:a*n+n<=n*n:=by
  have:=An9 n (Nat.succ_le_of_lt c)
  rwa [Nat.succ_mul]at this
 omega
def aF {n a b:Nat}(c:b<n):(a*n+b) / n=a:=by
 rw [Al,Nat.mul_add_div (by lia),Nat.div_eq_of_lt c,Nat.add_zero]
def aK {n a b:Nat}(c:b<n):(a*n+b) % n=b:=by
 rw [Al,Nat.mul_add_mod,Nat.mod_eq_of_lt c]
def bb {n k:Nat}(h:k<n*n):k / n<n:=Nat.div_lt_of_lt_mul h
def aV {n k:Nat}(h:k<n*n):k % n<n:=Aj6 _ (by
 cases n with
 | zero=>simp at h
 | succ m=>lia)
def bp (n k:Nat):k / n*n+k % n=k:=by rw [Al];exact Al6 k n
theorem sy (n): ∀(ps:List (Nat×Nat)) (t k:Nat),(ps.foldl (λt p=>t ||| 2 ^ (p.1*n+p.2)) t).testBit k=(t.testBit k||ps.any λp=>y9 (p.1*n+p.2=k))
 | [],t,k=>by simp
 | p::r,t,k=>by
  rw [Ak2,sy n r,Ae9,Ad7,Af3,Bool.or_assoc]
def cz (n) (ps) (k):(cO n ps).testBit k=ps.any λp=>y9 (p.1*n+p.2=k):=by
 unfold cO;rw [sy];simp
def cZ (h:f6 n ps):cO n ps<2 ^ (n*n):=by
 refine Nat.lt_pow_two_of_testBit _ λi b=> ?_
 rw [cz,Aj4]
 intro p a
 have:=h p a
 have:=place_lt this.1 this.2
 simp;omega
def bz :p∈ay n t↔ ∃k,k<n*n/\t.testBit k=u0/\p=(k / n,k % n):=by
 unfold ay
 simp [Ab8]
 constructor
 ·rintro ⟨k,⟨b,a⟩,rfl⟩;exact⟨k,b,a,rfl⟩
 ·rintro ⟨k,b,a,rfl⟩;exact⟨k,⟨b,a⟩,rfl⟩
def bV (n t):f6 n (ay n t):=λp b=>by
 obtain⟨k,a,c,rfl⟩:=bz.mp b
 exact⟨bb a,aV a⟩
def kQ (ps:List (Nat×Nat)):List (Nat×Nat):=ps.map λp=>(p.2,p.1)
def eI (h:f6 n ps):f6 n (kQ ps):=λp b=>by
 obtain⟨q,a,rfl⟩:=Ab6.mp b
 exact⟨(h q a).2,(h q a).1⟩
def bF (n t:Nat):Nat:=cO n (kQ (ay n t))
def fh (n t):bF n t<2 ^ (n*n):=cZ (eI (bV n t))
def eQ (g:k<n*n):(bF n t).testBit k=t.testBit (k % n*n+k / n):=by
 unfold bF
 rw [cz]
 have c:=bb g
 have l:=aV g
 by_cases h:t.testBit (k % n*n+k / n)=u0
 ·rw [h,Ad1]
  refine⟨(k / n,k % n),?_,?_⟩
  ·refine Ab6.mpr ⟨(k % n,k / n),bz.mpr ⟨k % n*n+k / n,place_lt l c,h,?_⟩,rfl⟩
   rw [aF c,aK c]
  ·simp [decide_eq_true_eq];exact bp n k
 ·have d:=by simpa using h
  rw [d,Aj4]
  intro p i
  obtain⟨q,m,rfl⟩:=Ab6.mp i
  obtain⟨j,a,b,rfl⟩:=bz.mp m
  simp [decide_eq_true_eq]
  intro e
  subst e
  have f:=bb a
  have a2:=aV a
  rw [aF f,aK f,bp]at d
  rw [d]at b
  cases b
def bA (n:Nat):Nat:=cO n ((Aa8 n).map λa=>(a,a))
def dR (n):f6 n ((Aa8 n).map λa=>(a,a)):=λp c=>by
 obtain⟨a,b,rfl⟩:=Ab6.mp c
 exact⟨Ab8.mp b,Ab8.mp b⟩
def Cg (c:k<n*n):(bA n).testBit k=y9 (k / n=k % n):=by
 unfold bA
 rw [cz]
 have f:=bb c
 have g:=aV c
 by_cases h:k / n=k % n
 ·rw [decide_eq_true h,Ad1]
  refine⟨_,Ab6.mpr ⟨k / n,Ab8.mpr f,rfl⟩,?_⟩
  simp [decide_eq_true_eq]
  have:=bp n k
  rw [← h]at this
  exact this
 ·rw [decide_eq_false h,Aj4]
  intro p d
  obtain⟨a,b,rfl⟩:=Ab6.mp d
  simp [decide_eq_true_eq]
  intro e
  subst e
  have b:=Ab8.mp b
  exact h (by rw [aF b,aK b])
def cb (n p b:Nat):Nat:=p / 2 ^ (b*n) % 2 ^ n
def joinM (n o p:Nat):Nat:=(ay n o).foldl (λt q=>t ||| cb n p q.2*2 ^ (q.1*n)) 0
def cW (n p b):cb n p b<2 ^ n:=Aj6 _ (Nat.pow_pos (by decide))
def rT (a:c<n):(cb n p b).testBit c=p.testBit (b*n+c):=by
 unfold cb
 rw [Ag8,decide_eq_true a,Ae1,Ag9,Ap0]
def IT (c:x<2 ^ n) (d:0<n):(x*2 ^ (a*n)).testBit k=(y9 (k / n=a)&&x.testBit (k % n)):=by
 rw [Nat.testBit_mul_two_pow]
 have e:=bp n k
 by_cases h:k / n=a
 ·subst h
  rw [decide_eq_true rfl,Ae1]
  have:k / n*n<=k:=by lia
  rw [decide_eq_true (this),Ae1]
  rw [show k-k / n*n=k % n by lia]
 ·rw [decide_eq_false h,Ae8]
  by_cases b:k>=a*n
  ·rw [decide_eq_true b,Ae1]
   refine Ai8 (Ab4 c (Ac9 (by decide) ?_))
   have f:a<k / n:=by
    have:a<=k / n:=(Nat.le_div_iff_mul_le d).mpr b
    lia
   have g:=An9 n f
   lia
  ·rw [decide_eq_false b,Ae8]
theorem pj (n p) (a:0<n): ∀(ps:List (Nat×Nat)) t k,(ps.foldl (λt q=>t ||| cb n p q.2*2 ^ (q.1*n)) t).testBit k=(t.testBit k||ps.any λq=>y9 (k / n=q.1)&&(cb n p q.2).testBit (k % n))
 | [],t,k=>by simp
 | q::r,t,k=>by
  rw [Ak2,pj n p a r,Ae9,IT (cW n p q.2) a,Af3,Bool.or_assoc]
def BU (h:k<n*n):0<n:=by
 cases n with
 | zero=>simp at h
 | succ m=>omega
def JB (n o p k:Nat):Bool:=(Aa8 n).any λb=>o.testBit (k / n*n+b)&&p.testBit (b*n+k % n)
def b5 (g:k<n*n):(joinM n o p).testBit k=JB n o p k:=by
 have l:=BU g
 have i:=bb g
 have h:=aV g
 unfold joinM JB
 rw [pj n p l]
 simp [Bool.false_or]
 rw [An2,Ad1,Ad1]
 constructor
 ·rintro ⟨q,m,a⟩
  obtain⟨j,c,d,rfl⟩:=bz.mp m
  rw [Aa0,decide_eq_true_eq]at a
  obtain⟨e,a⟩:=a
  refine⟨j % n,Ab8.mpr (aV c),?_⟩
  rw [rT h]at a
  have e:=e
  rw [e,bp,d,a];rfl
 ·rintro ⟨b,a,f⟩
  have a:=Ab8.mp a
  rw [Aa0]at f
  refine⟨_,bz.mpr ⟨k / n*n+b,place_lt i a,f.1,by rw [aF a,aK a]⟩,?_⟩
  rw [rT h,f.2]
  simp
def c4 (n o p):joinM n o p<2 ^ (n*n):=by
 have b: ∀(a:List (Nat×Nat)) t,(∀ q∈a,q.1<n)->t<2 ^ (n*n)->a.foldl (λt q=>t ||| cb n p q.2*2 ^ (q.1*n)) t<2 ^ (n*n):=by
  intro a
  induction a with
  | nil=>intro t _ h;exact h
  | cons q r f=>
   intro t d g
   refine f _ (λz i=>d z (Aa2 _ i)) (Ak7 g ?_)
   have c:=d q Aa4
   have:=cW n p q.2
   have e:2 ^ n*2 ^ (q.1*n)<=2 ^ (n*n):=by
    rw [← Nat.pow_add]
    refine Ac9 (by decide) ?_
    have:=An9 n (Nat.succ_le_of_lt c)
    lia
   exact Ab4 (Nat.mul_lt_mul_of_pos_right this (Nat.pow_pos (by decide))) e
 exact b _ _ (λq c=>(bV n o q c).1) (Nat.pow_pos (by decide))
def ek (a:s<2 ^ n) (b:t<2 ^ n) (h: ∀k,k<n->s.testBit k=t.testBit k):s=t:=
 Aj8 λk=>by
  by_cases c:k<n
  ·exact h k c
  ·rw [Ai8 (Ab4 a (Ac9 (by decide) (by lia))),Ai8 (Ab4 b (Ac9 (by decide) (by lia)))]
def d8 (d:a<n) (c:b<n):(bA n).testBit (a*n+b)=y9 (a=b):=by
 rw [Cg (place_lt d c),aF c,aK c]
def fy (n):bA n<2 ^ (n*n):=cZ (dR n)
inductive TC (n t a:Nat):Nat->Prop
 | step {b:Nat}:a<n->b<n->t.testBit (a*n+b)=u0->TC n t a b
 | more {b c:Nat}:TC n t a b->b<n->c<n->t.testBit (b*n+c)=u0->TC n t a c
def TC.trans (h1:TC n t a b) (e:TC n t b c):TC n t a c:=by
 induction e with
 | step x y z=>exact .more h1 x y z
 | more _ x y z d=>exact .more d x y z
structure eX (n t r:Nat):Prop where
 lt:r<2 ^ (n*n)
 bit: ∀a b,a<n->b<n->(r.testBit (a*n+b)=u0↔TC n t a b)
structure fR (n t r:Nat):Prop where
 lt:r<2 ^ (n*n)
 sub: ∀a b,a<n->b<n->r.testBit (a*n+b)=u0->TC n t a b
 sup: ∀k,t.testBit k=u0->r.testBit k=u0
def fR.start (h:t<2 ^ (n*n)):fR n t t:=⟨h,λ_ _ a b h=> .step a b h,λ_ h=>h⟩
def cF (d:c<n):JB n o p (a*n+c)=(Aa8 n).any λb=>o.testBit (a*n+b)&&p.testBit (b*n+c):=by
 unfold JB
 rw [aF d,aK d]
def fR.next (h:fR n t r):fR n t (r ||| joinM n r r):=by
 refine⟨Ak7 h.lt (c4 _ _ _),λa b g e d=> ?_,λk i=> ?_⟩
 ·rw [Ae9,Ae6]at d
  obtain d | d:=d
  ·exact h.sub a b g e d
  ·rw [b5 (place_lt g e),cF e,Ad1]at d
   obtain⟨c,f,d⟩:=d
   have f:=Ab8.mp f
   rw [Aa0]at d
   exact(h.sub a c g f d.1).trans (h.sub c b f e d.2)
 ·rw [Ae9,h.sup k i,Am]
def FL {a b:Nat}(h:a ||| b=a) (k) (c:b.testBit k=u0):a.testBit k=true:=by
 rw [← h,Ae9,c,Bool.or_true]
def fR.done (h:fR n t r) (e:r ||| joinM n r r=r):eX n t r:=by
 refine⟨h.lt,λa b i k=>⟨h.sub a b i k,λj=> ?_⟩⟩
 induction j with
 | step d f g=>exact h.sup _ g
 | more j d f g c=>
  have c:=c d
  refine FL e _ ?_
  rw [b5 (place_lt i f),cF f,Ad1]
  exact⟨_,Ab8.mpr d,by rw [c,h.sup _ g];rfl⟩
def fR.grow (h:fR n t r) (ne:r ||| joinM n r r≠r):r<r ||| joinM n r r:=by
 have:= @Nat.left_le_or r (joinM n r r)
 lia
structure Mz (n t a:Nat) (re wa:List Nat):Prop where
 an:a<n
 nd:re.Nodup
 tc: ∀x∈re,TC n t a x
 wl: ∀x∈wa,x<n/\(x=a\/x∈re)
 cl: ∀x,(x=a\/x∈re)->x∉wa-> ∀b,b<n->t.testBit (x*n+b)=u0->b∈re
structure Lk (n t a:Nat) (re wa:List Nat) (h b:Nat):Prop where
 an:a<n
 nd:re.Nodup
 tc: ∀x∈re,TC n t a x
 wl: ∀x∈wa,x<n/\(x=a\/x∈re)
 cl: ∀x,(x=a\/x∈re)->x∉wa->x≠h-> ∀b,b<n->t.testBit (x*n+b)=u0->b∈re
 hn:h<n
 hr:h=a\/h∈re
 hb: ∀b',b'<b->t.testBit (h*n+b')=u0->b'∈re
end Wf
namespace M
noncomputable abbrev t6:Tx:=[115,111,109,101,32,110,111,32,108,101,97,115,116,32,109,111,115,116,32,101,97,99,104,32,105,110,32,97,110,100,32,111,114,32,110,111,116,32,115,97,109,101,32,97,108,108,32,110,111,110,101,32,107,105,110,100,32,116,105,101,32,115,97,121]
abbrev fL:Tx:=[108,101,97,115,116]
abbrev fT:Tx:=[112,97,112,101,114]
abbrev d6:Tx:=[110,111,116]
abbrev rf:Tx:=[97,98,99,100,101,102,103,104,105,106,107,108,109,110,111,112,113,114,115,116,117,118,119,120,121,122]
abbrev hZ:Tx:=[98,114,111,107,101,110]
abbrev hB:Tx:=[119,111,114,108,100]
abbrev fX:Tx:=[115,111,109,101]
abbrev gL:Tx:=[109,111,115,116]
abbrev mJ:Tx:=[101,97,99,104,108,101,97,115,116]
abbrev iJ:Tx:=[101,113,117,97,108]
abbrev iV:Tx:=[110,111,110,101]
abbrev iP:Tx:=[115,97,109,101]
abbrev kO:Tx:=[115,112,108,105,116]
abbrev hF:Tx:=[97,110,100]
abbrev fj:Tx:=[111,114]
abbrev fq:Tx:=[105,110]
abbrev oM:Tx:=[106,111,105,110,101,100]
abbrev n8:Tx:=[116,117,114,110,101,100]
abbrev iK:Tx:=[97,108,108]
abbrev t5:Tx:=[101,97,99,104,109,111,115,116]
abbrev mv:Tx:=[108,101,115,115]
abbrev hI:Tx:=[110,111]
abbrev lU:Tx:=[110,97,109,101]
abbrev t9:Tx:=[99,108,111,115,101,100]
abbrev nj:Tx:=[112,108,117,115]
abbrev n3:Tx:=[98,111,116,104]
abbrev S.r (c x:E):S:= .iff c (.cons (.ret x) .nil) .nil
abbrev E.v0:E:= .var 0
abbrev E.v1:E:= .var 1
abbrev E.v2:E:= .var 2
abbrev E.v3:E:= .var 3
abbrev E.v4:E:= .var 4
abbrev E.v5:E:= .var 5
abbrev E.v6:E:= .var 6
abbrev E.v7:E:= .var 7
abbrev E.v8:E:= .var 8
abbrev E.v9:E:= .var 9
abbrev E.i0:E:= .int 0
abbrev E.i1:E:= .int 1
abbrev E.i2:E:= .int 2
abbrev E.i3:E:= .int 3
abbrev E.i4:E:= .int 4
abbrev Es.a (x:E):Es:= .cons x .nil
abbrev Es.b (x y:E):Es:= .cons x (.cons y .nil)
abbrev Es.c (x y z:E):Es:= .cons x (.cons y (.cons z .nil))
abbrev Es.d (x y z u:E):Es:= .cons x (.cons y (.cons z (.cons u .nil)))
abbrev Es.f (x y z u v:E):Es:= .cons x (.cons y (.cons z (.cons u (.cons v .nil))))
abbrev Es.g (x y z u v w:E):Es:= .cons x (.cons y (.cons z (.cons u (.cons v (.cons w .nil)))))
abbrev Ss.a (x:S):Ss:= .cons x .nil
def Bt:Fn:=⟨1,1,.cons (.ret (.and (.b7 .v0 .int) (.not (.b7 .v0 .bool)))) .nil⟩
def JC:Fn:=⟨2,2,.cons (.ret (.and (.call "is_whole" (.a .v0)) (.chain .le .lt .i0 .v0 .v1))) .nil⟩
noncomputable def JE:E:= .comp [0] u0 1 [1,0] (.ar (.bin .mul .v0 .v0)) u0 (.bin .band (.bin .shr .v1 .v0) .i1) (.bi .divmod (.b .v0 .v2))
def XN:Fn:=⟨2,2,.cons (.ret JE) .nil⟩
def Qi:Ss:= .cons (.af 2 (.bin .bor .v2 (.bin .shl .i1 (.bin .add (.bin .mul .v3 .v0) .v4)))) .nil
def ZN:Fn:=⟨2,5,.cons (.af 2 .i0) (.cons (.for [3,4] k9 (.seq .v1) Qi) (.a (.ret .v2)))⟩
def rK:Fn:=⟨2,2,.cons (.ret (.bin .band .v0 .v1)) .nil⟩
def uL:Fn:=⟨2,2,.cons (.ret (.bin .bor .v0 .v1)) .nil⟩
def Q3:Fn:=⟨2,2,.cons (.ret (.bin .band .v0 (.inv .v1))) .nil⟩
def zB:E:= .comp [0,1] false 2 [] (.seq (.call "pairs_of" (.b .v0 .v1))) false (.bl true) (.tup (.b .v1 .v0))
def uN:Fn:=⟨2,2,.cons (.ret (.call "gathered" (.b .v0 zB))) .nil⟩
noncomputable def jt:Ss:= .cons (.af 7 (.bin .band (.bin .shr .v2 (.bin .mul .v6 .v0)) .v3)) (.a (.af 4 (.bin .bor .v4 (.bin .shl .v7 (.bin .mul .v5 .v0)))))
def sT:Fn:=⟨3,8,.cons (.af 3 (.bin .sub (.bin .shl .i1 .v0) .i1)) (.cons (.af 4 .i0) (.cons (.for [5,6] k9 (.seq (.call "pairs_of" (.b .v0 .v1))) jt) (.a (.ret .v4))))⟩
def Wt:E:= .cmp .ne .v3 .v2
def wt:Ss:= .cons (.af 2 .v3) (.a (.af 3 (.call "either" (.b .v2 (.call "joined" (.c .v0 .v2 .v2))))))
def sU:Fn:=⟨2,4,.cons (.af 2 .v1) (.cons (.af 3 (.call "either" (.b .v2 (.call "joined" (.c .v0 .v2 .v2))))) (.cons (.iN 100000 Wt wt) (.a (.ret .v2))))⟩
def qT:E:= .comp [0] u0 1 [] (.ar .v0) k9 (.bl u0) (.tup (.b .v0 .v0))
def uh:Fn:=⟨1,1,.cons (.ret (.call "gathered" (.b .v0 qT))) .nil⟩
def rW:Fn:=⟨1,1,.cons (.ret (.bin .sub (.bin .shl .i1 (.bin .mul .v0 .v0)) .i1)) .nil⟩
def jh:E:= .comp [0] u0 1 [4] (.ar .v3) u0 (.bin .band (.bin .shr .v1 .v0) .i1) (.tup (.b .v0 .v0))
def Xq:Fn:=⟨3,5,.cons (.r (.cmp .mem .v2 (.ix .v0 .i1)) (.ix (.ix .v1 .i2) (.dz .index (.ix .v0 .i1) (.a .v2)))) (.cons (.af 3 (.ix .v1 .i0)) (.cons (.af 4 (.ix (.ix .v1 .i1) (.dz .index (.ix .v0 .i0) (.a .v2)))) (.a (.ret (.call "gathered" (.b .v3 jh))))))⟩
def jy:Fn:=⟨3,3,.cons (.r (.cmp .eq .v1 (.str iP)) (.call "same" (.a .v0))) (.cons (.r (.cmp .eq .v1 (.str iK)) (.call "every" (.a .v0))) (.cons (.r (.cmp .eq .v1 (.str iV)) .i0) (.cons (.r (.cmp .eq .v1 (.str nj)) (.call "either" (.b (.ix .v2 .i0) (.ix .v2 .i1)))) (.cons (.r (.cmp .eq .v1 (.str mv)) (.call "without" (.b (.ix .v2 .i0) (.ix .v2 .i1)))) (.cons (.r (.cmp .eq .v1 (.str n3)) (.call "common" (.b (.ix .v2 .i0) (.ix .v2 .i1)))) (.cons (.r (.cmp .eq .v1 (.str oM)) (.call "joined" (.c .v0 (.ix .v2 .i0) (.ix .v2 .i1)))) (.cons (.r (.cmp .eq .v1 (.str n8)) (.call "turned" (.b .v0 (.ix .v2 .i0)))) (.a (.ret (.call "closed" (.b .v0 (.ix .v2 .i0))))))))))))⟩
def wC:E:= .comp [0] u0 1 [4] (.ar .v0) k9 (.bl u0) (.dz .count .v1 (.a .v0))
def xB:E:= .comp [0,1] k9 2 [] (.seq .v3) k9 (.bl u0) .v0
def tT:Fn:=⟨3,5,.cons (.af 3 (.call "pairs_of" (.b .v0 .v2))) (.cons (.r (.cmp .mem .v1 (.tup (.b (.str fL) (.str gL)))) (.lst (.a (.bi .len (.a .v3))))) (.cons (.af 4 xB) (.a (.ret wC))))⟩
def qD:E:= .comp [0,1] k9 2 [] (.seq .v5) k9 (.bl u0) .v1
def wA:E:= .comp [0,1] k9 2 [] (.seq .v5) k9 (.bl u0) .v0
def Xt:E:= .comp [0] u0 1 [0,1] (.seq (.fu .v2 .i1)) k9 (.bl u0) (.call "bounds" (.c .v1 .v2 .v0))
def bB:Fn:=⟨3,9,.cons (.af 3 (.ix .v2 .i0)) (.cons (.iff (.cmp .eq .v3 (.str lU)) (.cons (.af 4 (.ix .v2 .i1)) (.a (.ret (.tup (.b (.call "value_of_name" (.c .v0 (.ix .v1 .i0) .v4)) (.call "value_of_name" (.c .v0 (.ix .v1 .i1) .v4))))))) .nil) (.cons (.af 5 Xt) (.cons (.af 6 wA) (.cons (.af 7 qD) (.cons (.r (.cmp .eq .v3 (.str mv)) (.tup (.b (.call "without" (.b (.ix .v6 .i0) (.ix .v7 .i1))) (.call "without" (.b (.ix .v7 .i0) (.ix .v6 .i1)))))) (.cons (.af 8 (.ix (.ix .v1 .i0) .i0)) (.a (.ret (.tup (.b (.call "made" (.c .v8 .v3 .v6)) (.call "made" (.c .v8 .v3 .v7))))))))))))⟩
def JY:Fn:=⟨2,2,.cons (.r .v0 (.bl u0)) (.cons (.r .v1 (.bl k9)) (.a (.ret .aj)))⟩
def xO:Fn:=⟨1,1,.cons (.ret (.call "settled" (.b (.cmp .cR .v0 (.bl false)) (.cmp .cR .v0 (.bl true))))) .nil⟩
def wN:Fn:=⟨2,2,.cons (.ret (.call "settled" (.b (.and (.cmp .cR .v0 (.bl true)) (.cmp .cR .v1 (.bl true))) (.or (.cmp .cR .v0 (.bl false)) (.cmp .cR .v1 (.bl false)))))) .nil⟩
def j4:Fn:=⟨2,2,.cons (.ret (.call "settled" (.b (.or (.cmp .cR .v0 (.bl true)) (.cmp .cR .v1 (.bl true))) (.and (.cmp .cR .v0 (.bl false)) (.cmp .cR .v1 (.bl false)))))) .nil⟩
def X0:Fn:=⟨2,2,.cons (.ret (.call "settled" (.b (.cmp .eq (.call "without" (.b (.ix .v0 .i1) (.ix .v1 .i0))) .i0) (.cmp .ne (.call "without" (.b (.ix .v0 .i0) (.ix .v1 .i1))) .i0)))) .nil⟩
def wu:E:= .comp [0] u0 1 [2] (.seq .v5) k9 (.bl u0) (.cmp .le .v0 .v1)
def jv:E:= .comp [0] u0 1 [2] (.seq .v4) k9 (.bl u0) (.cmp .gt .v0 .v1)
def Ju:E:= .comp [0] u0 1 [2] (.seq .v4) k9 (.bl u0) (.cmp .ge .v0 .v1)
def Wu:E:= .comp [0] u0 1 [2] (.seq .v5) k9 (.bl u0) (.cmp .lt .v0 .v1)
def QE:Fn:=⟨4,6,.cons (.af 4 (.call "counts" (.c .v0 .v1 (.ix .v3 .i0)))) (.cons (.af 5 (.call "counts" (.c .v0 .v1 (.ix .v3 .i1)))) (.cons (.r (.cmp .mem .v1 (.tup (.b (.str fL) (.str mJ)))) (.call "settled" (.b (.bi .all (.a Ju)) (.bi .any (.a Wu))))) (.a (.ret (.call "settled" (.b (.bi .all (.a wu)) (.bi .any (.a jv))))))))⟩
def cu:Fn:=⟨3,4,.cons (.af 3 (.ix .v2 .i0)) (.cons (.r (.cmp .eq .v3 (.str d6)) (.call "not_told" (.a (.call "told" (.c .v0 .v1 (.ix .v2 .i1)))))) (.cons (.r (.cmp .eq .v3 (.str hF)) (.call "and_told" (.b (.call "told" (.c .v0 .v1 (.ix .v2 .i1))) (.call "told" (.c .v0 .v1 (.ix .v2 .i2)))))) (.cons (.r (.cmp .eq .v3 (.str fj)) (.call "or_told" (.b (.call "told" (.c .v0 .v1 (.ix .v2 .i1))) (.call "told" (.c .v0 .v1 (.ix .v2 .i2)))))) (.a (.ret (.call "fact_told" (.c .v0 .v1 .v2)))))))⟩
def aS:Fn:=⟨3,7,.cons (.af 3 (.ix .v2 .i0)) (.cons (.af 4 (.ix (.ix .v1 .i0) .i0)) (.cons (.af 5 (.call "bounds" (.c .v0 .v1 (.ix .v2 (.neg .i1))))) (.cons (.r (.cmp .eq .v3 (.str fX)) (.call "count_told" (.d .v4 (.str fL) .i1 .v5))) (.cons (.r (.cmp .eq .v3 (.str hI)) (.call "count_told" (.d .v4 (.str gL) .i0 .v5))) (.cons (.r (.cmp .eq .v3 (.str fq)) (.call "in_told" (.b (.call "bounds" (.c .v0 .v1 (.ix .v2 .i1))) .v5))) (.cons (.iff (.cmp .eq .v3 (.str iJ)) (.cons (.af 6 (.call "bounds" (.c .v0 .v1 (.ix .v2 .i1)))) (.a (.ret (.call "and_told" (.b (.call "in_told" (.b .v6 .v5)) (.call "in_told" (.b .v5 .v6))))))) .nil) (.a (.ret (.call "count_told" (.d .v4 .v3 (.ix .v2 .i1) .v5))))))))))⟩
def zW:Fn:=⟨1,1,.cons (.ret (.call "is_below" (.b .v0 (.bin .add (.con "GREATEST_SIZE") .i1)))) .nil⟩
noncomputable def vP:Fn:=⟨2,2,.cons (.ret (.bin .add (.bin .mul (.lst (.a .v1)) (.bi .len (.a (.ix .v0 .i0)))) (.bin .mul (.lst (.a (.bin .mul .v1 .v1))) (.bi .len (.a (.ix .v0 .i1)))))) .nil⟩
def pz:Fn:=⟨2,2,.cons (.ret (.bi .sum (.a (.call "widths" (.b .v0 .v1))))) .nil⟩
def jE:Fn:=⟨1,1,.cons (.iff (.not (.call "is_size" (.a .v0))) (.cons .el .nil) .nil) .nil⟩
def zE:Fn:=⟨3,4,.cons (.ex (.call "check_size" (.a .v1))) (.cons (.af 3 (.call "bits" (.b .v0 .v1))) (.a (.iff (.cmp .gt .v3 .v2) (.cons .el .nil) .nil)))⟩
def Ws:Ss:= .cons (.app 3 (.bin .band .v4 (.bin .sub (.bin .shl .i1 .v5) .i1))) (.a (.af 4 (.bin .shr .v4 .v5)))
def ZM:Fn:=⟨3,7,.cons (.ex (.call "check_size" (.a .v1))) (.cons (.iff (.not (.call "is_below" (.b .v2 (.bin .shl .i1 (.call "bits" (.b .v0 .v1)))))) (.cons .el .nil) .nil) (.cons (.set 3 (.lst .nil)) (.cons (.af 4 .v2) (.cons (.for [5] true (.seq (.call "widths" (.b .v0 .v1))) Ws) (.cons (.af 6 (.bi .len (.a (.ix .v0 .i0)))) (.a (.ret (.tup (.c .v1 (.bi .tuple (.a (.fU .v3 .v6))) (.bi .tuple (.a (.fu .v3 .v6))))))))))))⟩
def Wn:E:= .comp [0,1] false 2 [3] (.seq (.call "pairs_of" (.b .v1 (.call "every" (.a .v1))))) false (.bl true) (.tup (.c .v2 .v0 .v1))
def Qz:Ss:= .cons (.ext 2 Wn) .nil
def xo:E:= .comp [0] u0 1 [3] (.ar .v1) k9 (.bl u0) (.tup (.c .v1 .v0 .v0))
def Jz:Ss:= .cons (.ext 2 xo) .nil
noncomputable def jw:Fn:=⟨2,4,.cons (.set 2 (.lst .nil)) (.cons (.for [3] u0 (.seq (.ix .v0 .i0)) Jz) (.cons (.for [3] u0 (.seq (.ix .v0 .i1)) Qz) (.a (.ret .v2))))⟩
noncomputable def Wz:Fn:=⟨3,3,.cons (.r (.or (.not (.b7 .v0 .tuple)) (.cmp .ne (.bi .len (.a .v0)) .v2)) (.bl k9)) (.a (.ret (.and (.b7 (.ix .v0 .i0) .str) (.cmp .eq (.ix .v0 .i0) .v1))))⟩
def Wi:Fn:=⟨3,3,.cons (.bI 0 "Cases" "words" (.ix .v1 .i0)) (.cons (.bI 0 "Cases" "sayings" (.ix .v1 .i1)) (.cons (.bI 0 "Cases" "size" .v2) (.cons (.bS 0 "Cases" "places" (.call "places_of" (.b (.ix .v1 .i0) .v2))) (.a (.bI 0 "Cases" "whole" (.bin .sub (.bin .shl .i1 (.bi .len (.cons (.aJ .v0 "Cases" "places") .nil))) .i1))))))⟩
def Ji:Fn:=⟨2,2,.cons (.ret (.call "world_of" (.cons (.aJ .v0 "Cases" "words") (.cons (.aJ .v0 "Cases" "size") (.a .v1))))) .nil⟩
def xy:Fn:=⟨4,5,.cons (.af 4 (.tup (.cons (.bO .v0 "Cases" "world_of_code" "Cases.world_of_code" (.a .v2)) (.cons (.bO .v0 "Cases" "world_of_code" "Cases.world_of_code" (.a .v3)) .nil)))) (.a (.ret (.call "told" (.cons (.aJ .v0 "Cases" "words") (.b .v4 (.ix (.aJ .v0 "Cases" "sayings") .v1))))))⟩
def ju:Fn:=⟨4,4,.cons (.r (.or (.not (.b7 .v1 .str)) (.or (.not (.call "is_whole" (.a .v2))) (.not (.call "is_whole" (.a .v3))))) .i0) (.cons (.r (.cmp .eR (.tup (.c .v1 .v2 .v3)) (.aJ .v0 "Cases" "places")) .i0) (.a (.ret (.bin .shl .i1 (.dz .b3 (.aJ .v0 "Cases" "places") (.a (.tup (.c .v1 .v2 .v3))))))))⟩
def xf:Fn:=⟨4,6,.cons (.iff (.call "is_tuple_of" (.c .v1 (.str hZ) .i2)) (.cons (.af 4 (.ix .v1 .i1)) (.a (.ret (.and (.call "is_below" (.b .v4 (.bi .len (.cons (.aJ .v0 "Cases" "sayings") .nil)))) (.cmp .cR (.bO .v0 "Cases" "truth" "Cases.truth" (.c .v4 .v2 .v3)) (.bl false)))))) .nil) (.cons (.r (.not (.call "is_tuple_of" (.c .v1 (.str kO) (.int 6)))) (.bl false)) (.cons (.af 5 (.bO .v0 "Cases" "bit_of" "Cases.bit_of" (.c (.ix .v1 .i1) (.ix .v1 .i2) (.ix .v1 .i3)))) (.cons (.r (.cmp .eq (.bin .band (.bin .band .v5 .v3) (.inv .v2)) .i0) (.bl false)) (.a (.ret (.and (.bO .v0 "Cases" "is_shown" "Cases.is_shown" (.c (.ix .v1 .i4) (.bin .bor .v2 .v5) .v3)) (.bO .v0 "Cases" "is_shown" "Cases.is_shown" (.c (.ix .v1 (.int 5)) .v2 (.bin .band .v3 (.inv .v5))))))))))⟩
def Zl:Ss:= .cons (.iff (.b7 .v2 .tuple) (.a (.ext 1 (.call "names_in" (.a .v2)))) .nil) .nil
noncomputable def WA:Fn:=⟨1,3,.cons (.r (.cmp .eq (.ix .v0 .i0) (.str lU)) (.lst (.a (.ix .v0 .i1)))) (.cons (.set 1 (.lst .nil)) (.cons (.for [2] u0 (.seq (.fu .v0 .i1)) Zl) (.a (.ret .v1))))⟩
def xl:Ss:= .cons (.iff (.cmp .mem (.ix .v5 .i0) .v2) (.a (.af 3 (.bin .bor .v3 (.bin .shl .i1 .v4)))) .nil) .nil
def wR:Fn:=⟨2,6,.cons (.af 2 (.call "names_in" (.a .v1))) (.cons (.af 3 .i0) (.cons (.for [4,5] false (.ck (.aJ .v0 "Cases" "places")) xl) (.a (.ret .v3))))⟩
def Wd:E:= .cmp .gt .v0 .i0
def zj:Ss:= .cons (.af 0 (.bin .band .v0 (.bin .sub .v0 .i1))) (.a (.af 1 (.bin .add .v1 .i1)))
def WL:Fn:=⟨1,2,.cons (.af 1 .i0) (.cons (.iN 100000 Wd zj) (.a (.ret .v1)))⟩
def Jf:E:= .comp [0] u0 1 [0] (.seq (.ix .v1 .i1)) k9 (.bl u0) (.call "needed_bits" (.cons (.aJ .v1 "Search" "cases") (.a .v0)))
def Qh:Fn:=⟨3,3,.cons (.bI 0 "Search" "cases" (.make "Cases" "Cases.__init__" (.b .v1 .v2))) (.cons (.bS 0 "Search" "needs" Jf) .nil)⟩
noncomputable def wg:Fn:=⟨2,2,.cons (.ret (.bO .v0 "Search" "told_of_case" "Search.told_of_case" (.cons .v1 (.cons .i0 (.cons (.aJ (.aJ .v0 "Search" "cases") "Cases" "whole") .nil))))) .nil⟩
noncomputable def Jg:E:= .comp [0] u0 1 [0,3,2] (.seq .v1) k9 (.bl u0) (.bin .band (.bin .band (.ix (.aJ .v1 "Search" "needs") .v0) .v2) (.inv .v3))
def Je:Fn:=⟨4,6,.cons (.af 4 Jg) (.cons (.af 5 (.eZ "how_many_set" .v4)) (.a (.ret (.bin .sub (.eP (.bin .band .v5 (.neg .v5))) .i1))))⟩
noncomputable def ja:Ss:= .cons (.af 6 (.bO (.aJ .v0 "Search" "cases") "Cases" "truth" "Cases.truth" (.c .v5 .v2 .v3))) (.cons (.r (.cmp .cR .v6 (.bl false)) (.tup (.b (.str fT) (.tup (.b (.str hZ) .v5))))) (.a (.iff (.eY false .v6) (.a (.app 4 .v5)) .nil)))
def aL:Fn:=⟨4,7,.cons (.set 4 (.lst .nil)) (.cons (.for [5] u0 (.seq .v1) ja) (.cons (.r (.cmp .eq .v4 (.lst .nil)) (.tup (.cons (.str hB) (.cons (.bO (.aJ .v0 "Search" "cases") "Cases" "world_of_code" "Cases.world_of_code" (.a .v2)) .nil)))) (.a (.ret (.bO .v0 "Search" "told_of_halves" "Search.told_of_halves" (.c .v4 .v2 .v3))))))⟩
noncomputable def aE:Fn:=⟨4,11,.cons (.af 4 (.bO .v0 "Search" "chosen_place" "Search.chosen_place" (.c .v1 .v2 .v3))) (.cons (.af 5 (.bin .shl .i1 .v4)) (.cons (.af 6 (.bO .v0 "Search" "told_of_case" "Search.told_of_case" (.c .v1 (.bin .bor .v2 .v5) .v3))) (.cons (.r (.or (.cmp .eq (.ix .v6 .i0) (.str hB)) (.bO (.aJ .v0 "Search" "cases") "Cases" "is_shown" "Cases.is_shown" (.c (.ix .v6 .i1) .v2 .v3))) .v6) (.cons (.af 7 (.bO .v0 "Search" "told_of_case" "Search.told_of_case" (.c .v1 .v2 (.bin .band .v3 (.inv .v5))))) (.cons (.r (.cmp .eq (.ix .v7 .i0) (.str hB)) .v7) (.cons (.eO [8,9,10] (.ix (.aJ (.aJ .v0 "Search" "cases") "Cases" "places") .v4)) (.a (.ret (.tup (.b (.str fT) (.tup (.g (.str kO) .v8 .v9 (.var 10) (.ix .v6 .i1) (.ix .v7 .i1)))))))))))))⟩
def W6:Fn:=⟨2,2,.cons (.ex (.call "check_bits" (.c (.ix .v0 .i0) .v1 (.con "MOST_BITS")))) (.a (.ret (.bO (.make "Search" "Search.__init__" (.b .v0 .v1)) "Search" "told_of_sayings" "Search.told_of_sayings" (.a (.b0 (.bi .len (.a (.ix .v0 .i1))))))))⟩
noncomputable def Wr:Fn:=⟨1,1,.cons (.iff (.cmp .ge (.bi .len (.a (.ix .v0 .i1))) (.con "MOST_SAYINGS")) (.cons .el .nil) .nil) .nil⟩
def QK:Fn:=⟨3,5,.cons (.eO [3,4] .v0) (.cons (.ex (.call "check_bits" (.c .v3 .v1 (.con "MOST_BITS")))) (.cons (.ex (.call "check_room" (.a .v0))) (.a (.ret (.call "found" (.b (.tup (.b .v3 (.bin .add .v4 (.tup (.a (.tup (.b (.str d6) .v2))))))) .v1))))))⟩
def JI:Fn:=⟨1,1,.cons (.ret (.lst (.c .v0 .i0 (.bi .sum (.a (.fU .v0 .i1)))))) .nil⟩
noncomputable def jN:Fn:=⟨1,1,.cons (.bQ .v0 .i1 (.bin .add (.ix .v0 .i1) .i1)) (.cons (.bQ .v0 .i2 (.bin .mod (.bin .add (.bin .mul (.int 7) (.ix .v0 .i1)) (.bi .sum (.a (.fU (.ix .v0 .i0) (.int 9))))) (.int 16777213))) (.a (.iff (.cmp .lt (.ix .v0 .i1) (.bi .len (.a (.ix .v0 .i0)))) (.a (.bQ .v0 .i2 (.ix (.ix .v0 .i0) (.ix .v0 .i1)))) .nil)))⟩
noncomputable def wB:Fn:=⟨2,3,.cons (.iff (.not (.chain .le .lt .i0 (.ix .v0 .i2) (.bin .pow (.int 10) (.int 18)))) (.cons (.fm .v0 .i2 2 (.bi .divmod (.b (.ix .v0 .i2) .v1))) (.a (.ret .v2))) .nil) (.cons (.bQ .v0 .i2 (.bin .mod (.bin .add (.bin .add (.bin .mul (.ix .v0 .i2) (.int 742939)) (.bin .mul (.ix .v0 .i1) (.int 65063))) (.int 40503)) (.int 16777213))) (.a (.ret (.bin .mod (.bin .fdiv (.bin .mul (.ix .v0 .i2) (.bin .add (.bin .mod (.ix .v0 .i2) (.int 4093)) (.int 7))) (.int 64)) .v1))))⟩
def Zj:Ss:= .cons (.af 8 (.bin .add (.bin .add (.fU .v4 .v6) (.ix .v2 (.bin .mod (.bin .add .v3 (.bin .mul (.int 5) .v5)) (.int 26)))) (.fu .v4 .v6))) (.cons (.iff (.cmp .mem .v8 (.dD t6 [fX,hI,fL,gL,[101,97,99,104],fq,hF,fj,d6,iP,iK,iV,[107,105,110,100],[116,105,101],[115,97,121]])) (.a (.af 8 (.bin .add .v8 (.str [113])))) .nil) (.a (.app 7 .v8)))
def Xn:Ss:= .cons (.af 4 (.bin .add .v4 (.ix .v2 (.call "_law_draw" (.b .v0 (.int 26)))))) .nil
def Xy:E:= .comp [0] u0 1 [2,3] (.ar .v1) k9 (.bl u0) (.bin .mul (.ix .v1 .v2) (.bin .add .v0 .i1))
def xv:Fn:=⟨2,9,.cons (.af 2 (.str rf)) (.cons (.af 3 (.call "_law_draw" (.b .v0 (.int 26)))) (.cons (.r (.cmp .eq (.call "_law_draw" (.b .v0 .i3)) .i0) Xy) (.cons (.af 4 (.str [])) (.cons (.for [5] true (.ar (.call "_law_draw" (.b .v0 (.int 6)))) Xn) (.cons (.af 6 (.call "_law_draw" (.b .v0 (.bin .add (.bi .len (.a .v4)) .i1)))) (.cons (.set 7 (.lst .nil)) (.cons (.for [5] true (.ar .v1) Zj) (.a (.ret .v7)))))))))⟩
def wI:Fn:=⟨1,6,.cons (.af 1 (.lst (.cons (.tup (.c .i0 .i1 .i2)) (.cons (.tup (.c .i1 .i1 .i1)) (.cons (.tup (.c .i0 .i1 .i2)) (.g (.tup (.c .i2 .i0 .i2)) (.tup (.c .i1 .i0 .i3)) (.tup (.c .i0 .i2 .i1)) (.tup (.c .i0 .i1 .i1)) (.tup (.c .i3 .i2 .i1)) (.tup (.c .i1 .i0 .i4)))))))) (.cons (.af 1 (.bin .add .v1 (.lst (.c (.tup (.c .i0 .i1 .i2)) (.tup (.c .i1 .i1 .i0)) (.tup (.c .i1 .i1 .i1)))))) (.cons (.eO [2,3,4] (.ix .v1 (.call "_law_draw" (.b .v0 (.bi .len (.a .v1)))))) (.cons (.af 5 (.call "_law_names" (.b .v0 (.bin .add .v2 .v3)))) (.a (.ret (.tup (.b .v4 (.tup (.b (.bi .tuple (.a (.bi .sorted (.a (.fU .v5 .v2))))) (.bi .tuple (.a (.bi .sorted (.a (.fu .v5 .v2))))))))))))))⟩
def we:E:= .comp [0] u0 1 [] (.seq .v1) k9 (.bl u0) (.tup (.b (.str lU) .v0))
def Qf:Fn:=⟨3,7,.cons (.af 3 (.call "_law_draw" (.b .v0 (.int 10)))) (.cons (.iff (.or (.cmp .eq .v2 .i0) (.cmp .lt .v3 .i3)) (.cons (.af 4 (.bin .add (.bin .mul we .i2) (.lst (.c (.tup (.a (.str iP))) (.tup (.a (.str iK))) (.tup (.a (.str iV))))))) (.a (.ret (.ix .v4 (.call "_law_draw" (.b .v0 (.bi .len (.a .v4)))))))) .nil) (.cons (.af 5 (.call "_law_expression" (.c .v0 .v1 (.bin .sub .v2 .i1)))) (.cons (.r (.cmp .lt .v3 (.int 5)) (.tup (.b (.ix (.lst (.b (.str n8) (.str t9))) (.bin .sub .v3 .i3)) .v5))) (.cons (.af 6 (.call "_law_expression" (.c .v0 .v1 (.bin .sub .v2 .i1)))) (.a (.ret (.tup (.c (.ix (.lst (.f (.str nj) (.str mv) (.str n3) (.str oM) (.str oM))) (.bin .sub .v3 (.int 5))) .v5 .v6))))))))⟩
def bc:Fn:=⟨3,6,.cons (.af 3 (.call "_law_draw" (.b .v0 (.int 11)))) (.cons (.iff (.and (.cmp .gt .v2 .i0) (.cmp .gt .v3 (.int 7))) (.cons (.af 4 (.call "_law_saying" (.c .v0 .v1 (.bin .sub .v2 .i1)))) (.cons (.r (.cmp .eq .v3 (.int 8)) (.tup (.b (.str d6) .v4))) (.a (.ret (.tup (.c (.ix (.lst (.b (.str hF) (.str fj))) (.bin .sub .v3 (.int 9))) .v4 (.call "_law_saying" (.c .v0 .v1 (.bin .sub .v2 .i1))))))))) .nil) (.cons (.af 5 (.ix (.lst (.cons (.str fq) (.cons (.str iJ) (.g (.str fX) (.str hI) (.str fL) (.str gL) (.str mJ) (.str t5))))) (.bin .mod .v3 (.int 8)))) (.cons (.af 4 (.call "_law_expression" (.c .v0 .v1 .i1))) (.cons (.r (.or (.cmp .eq .v5 (.str fq)) (.cmp .eq .v5 (.str iJ))) (.tup (.c .v5 .v4 (.call "_law_expression" (.c .v0 .v1 .i1))))) (.cons (.r (.or (.cmp .eq .v5 (.str fX)) (.cmp .eq .v5 (.str hI))) (.tup (.b .v5 .v4))) (.a (.ret (.tup (.c .v5 (.ix (.lst (.cons .i0 (.cons .i1 (.g .i1 .i2 .i2 .i3 .i4 (.bin .add (.int 10) (.call "_law_draw" (.b .v0 (.int 90)))))))) (.call "_law_draw" (.b .v0 (.int 8)))) .v4)))))))))⟩
def zi:Ss:= .cons (.ex (.call "_law_turn" (.a .v0))) (.cons (.app 4 (.call "_law_saying" (.c .v0 .v3 .i1))) (.a (.iff (.and (.cmp .gt .v5 .i0) (.cmp .eq (.call "_law_draw" (.b .v0 (.int 9))) .i0)) (.cons (.dP 4 (.neg .i1) (.tup (.b (.str d6) (.ix .v4 (.call "_law_draw" (.b .v0 .v5)))))) .nil) .nil)))
def qF:Fn:=⟨3,6,.cons (.af 3 (.bi .list (.a (.bin .add (.ix .v1 .i0) (.ix .v1 .i1))))) (.cons (.set 4 (.lst .nil)) (.cons (.for [5] u0 (.ar (.call "_law_draw" (.b .v0 (.bin .add .v2 .i1)))) zi) (.a (.ret (.tup (.b .v1 (.bi .tuple (.a .v4))))))))⟩
noncomputable def Xh:Ss:= .cons (.iff (.cmp .eq (.bin .band (.bin .shr .v1 (.bin .add (.bin .mul .v4 .v0) .v5)) .i1) .i1) (.cons (.af 6 (.bin .band (.bin .shr .v2 (.bin .mul .v5 .v0)) (.bin .sub (.bin .shl .i1 .v0) .i1))) (.a (.af 3 (.bin .bor .v3 (.bin .shl .v6 (.bin .mul .v4 .v0)))))) .nil) .nil
def Xu:Ss:= .cons (.for [5] u0 (.ar .v0) Xh) .nil
def JD:Fn:=⟨3,7,.cons (.af 3 .i0) (.cons (.for [4] u0 (.ar .v0) Xu) (.a (.ret .v3)))⟩
noncomputable def Wm:Ss:= .cons (.iff (.cmp .eq (.bin .band (.bin .shr .v1 (.bin .add (.bin .mul .v3 .v0) .v4)) .i1) .i1) (.a (.af 2 (.bin .bor .v2 (.bin .shl .i1 (.bin .add (.bin .mul .v4 .v0) .v3))))) .nil) .nil
def Qu:Ss:= .cons (.for [4] u0 (.ar .v0) Wm) .nil
def Wq:Fn:=⟨2,5,.cons (.af 2 .i0) (.cons (.for [3] u0 (.ar .v0) Qu) (.a (.ret .v2)))⟩
def Xm:Ss:= .cons (.af 2 (.bin .bor .v2 (.call "_law_joined" (.c .v0 .v2 .v1)))) .nil
def xF:Fn:=⟨2,4,.cons (.af 2 .v1) (.cons (.for [3] u0 (.ar .v0) Xm) (.a (.ret .v2)))⟩
def xq:E:= .comp [0] u0 1 [0] (.ar .v0) k9 (.bl u0) (.bin .shl .i1 (.bin .add (.bin .mul .v0 .v1) .v0))
def qO:Fn:=⟨1,1,.cons (.ret (.bi .sum (.a xq))) .nil⟩
def QX:Fn:=⟨4,4,.cons (.r (.cmp .eq .v0 (.str nj)) (.bin .bor .v2 .v3)) (.cons (.r (.cmp .eq .v0 (.str n3)) (.bin .band .v2 .v3)) (.a (.ret (.call "_law_joined" (.c .v1 .v2 .v3)))))⟩
def ax:Fn:=⟨3,10,.cons (.af 3 (.ix .v2 .i0)) (.cons (.af 4 (.bin .sub (.bin .shl .i1 (.bin .mul .v0 .v0)) .i1)) (.cons (.r (.cmp .eq .v3 (.str lU)) (.eD 1 (.ix .v2 .i1))) (.cons (.iff (.cmp .mem .v3 (.lst (.c (.str iP) (.str iK) (.str iV)))) (.cons (.af 5 (.fD iP (.call "_law_same" (.a .v0)) iK .v4 iV .i0 3)) (.a (.ret (.tup (.b .v5 .v5))))) .nil) (.cons (.eO [6,7] (.call "_law_bounds" (.c .v0 .v1 (.ix .v2 .i1)))) (.cons (.r (.cmp .eq .v3 (.str n8)) (.tup (.b (.call "_law_turned" (.b .v0 .v6)) (.call "_law_turned" (.b .v0 .v7))))) (.cons (.r (.cmp .eq .v3 (.str t9)) (.tup (.b (.call "_law_closed" (.b .v0 .v6)) (.call "_law_closed" (.b .v0 .v7))))) (.cons (.eO [8,9] (.call "_law_bounds" (.c .v0 .v1 (.ix .v2 .i2)))) (.cons (.r (.cmp .eq .v3 (.str mv)) (.tup (.b (.bin .band .v6 (.bin .bxor .v4 .v9)) (.bin .band .v7 (.bin .bxor .v4 .v8))))) (.a (.ret (.tup (.b (.call "_law_two" (.d .v3 .v0 .v6 .v8)) (.call "_law_two" (.d .v3 .v0 .v7 .v9))))))))))))))⟩
def Xl:E:= .cmp .gt .v0 .i0
def Ql:Ss:= .cons (.af 1 (.bin .add .v1 (.bin .mod .v0 .i2))) (.a (.af 0 (.bin .fdiv .v0 .i2)))
def zO:Fn:=⟨1,2,.cons (.af 1 .i0) (.cons (.iN 100000 Xl Ql) (.a (.ret .v1)))⟩
def Zx:E:= .comp [0,1] k9 2 [1] (.seq .v2) k9 (.bl u0) (.cmp .gt .v0 .v2)
def Xx:E:= .comp [0,1] k9 2 [1] (.seq .v2) k9 (.bl u0) (.cmp .le .v1 .v2)
def Jx:E:= .comp [0,1] k9 2 [1] (.seq .v2) k9 (.bl u0) (.cmp .lt .v1 .v2)
def Zz:E:= .comp [0,1] k9 2 [1] (.seq .v2) k9 (.bl u0) (.cmp .ge .v0 .v2)
noncomputable def ww:Fn:=⟨3,3,.cons (.iff .v0 (.cons (.r (.bi .all (.a Zz)) (.bl u0)) (.a (.ret (.ix (.lst (.b .aj (.bl k9))) (.bi .int (.a (.bi .any (.a Jx)))))))) .nil) (.cons (.r (.bi .all (.a Xx)) (.bl u0)) (.a (.ret (.ix (.lst (.b .aj (.bl k9))) (.bi .int (.a (.bi .any (.a Zx))))))))⟩
noncomputable def XD:Fn:=⟨2,2,.cons (.r (.cmp .eq (.bin .band (.ix .v0 .i1) (.ix .v1 .i0)) (.ix .v0 .i1)) (.bl u0)) (.a (.ret (.ix (.lst (.b .aj (.bl k9))) (.bi .int (.a (.cmp .ne (.bin .band (.ix .v0 .i0) (.ix .v1 .i1)) (.ix .v0 .i0)))))))⟩
def jq:E:= .comp [0] u0 1 [4,0,6,5] (.ar .v0) k9 (.bl u0) (.tup (.b (.call "_law_many" (.a (.bin .band (.bin .shr .v1 (.bin .mul .v0 .v2)) .v3))) (.call "_law_many" (.a (.bin .band (.bin .shr .v4 (.bin .mul .v0 .v2)) .v3)))))
def bj:Fn:=⟨3,8,.cons (.af 3 (.ix .v2 .i0)) (.cons (.iff (.or (.cmp .eq .v3 (.str fX)) (.cmp .eq .v3 (.str hI))) (.cons (.af 2 (.tup (.c (.ix (.lst (.b (.str gL) (.str fL))) (.bi .int (.a (.cmp .eq .v3 (.str fX))))) (.bi .int (.a (.cmp .eq .v3 (.str fX)))) (.ix .v2 .i1)))) (.a (.af 3 (.ix .v2 .i0)))) .nil) (.cons (.eO [4,5] (.call "_law_bounds" (.c .v0 .v1 (.ix .v2 .i2)))) (.cons (.r (.or (.cmp .eq .v3 (.str fL)) (.cmp .eq .v3 (.str gL))) (.call "_law_ruled" (.c (.cmp .eq .v3 (.str fL)) (.ix .v2 .i1) (.lst (.a (.tup (.b (.call "_law_many" (.a .v4)) (.call "_law_many" (.a .v5))))))))) (.cons (.af 6 (.bin .sub (.bin .shl .i1 .v0) .i1)) (.cons (.af 7 jq) (.a (.ret (.call "_law_ruled" (.c (.cmp .eq .v3 (.str mJ)) (.ix .v2 .i1) .v7)))))))))⟩
def zq:E:= .comp [0] u0 1 [0,1] (.seq .v5) k9 (.bl u0) (.call "_law_told" (.c .v1 .v2 .v0))
def ba:Fn:=⟨3,7,.cons (.af 3 (.ix .v2 .i0)) (.cons (.iff (.cmp .eq .v3 (.str d6)) (.cons (.af 4 (.call "_law_told" (.c .v0 .v1 (.ix .v2 .i1)))) (.cons (.r (.eY false .v4) .aj) (.a (.ret (.not .v4))))) .nil) (.cons (.iff (.cmp .mem .v3 (.lst (.c (.str hF) (.str fj) (.str iJ)))) (.cons (.af 5 (.lst (.b (.ix .v2 .i1) (.ix .v2 .i2)))) (.cons (.iff (.cmp .eq .v3 (.str iJ)) (.a (.af 5 (.lst (.b (.tup (.c (.str fq) (.ix .v2 .i1) (.ix .v2 .i2))) (.tup (.c (.str fq) (.ix .v2 .i2) (.ix .v2 .i1))))))) .nil) (.cons (.af 6 zq) (.cons (.r (.cmp .mem (.cmp .eq .v3 (.str fj)) .v6) (.cmp .eq .v3 (.str fj))) (.cons (.r (.cmp .mem .aj .v6) .aj) (.a (.ret (.cmp .ne .v3 (.str fj))))))))) .nil) (.cons (.r (.cmp .eq .v3 (.str fq)) (.call "_law_within" (.b (.call "_law_bounds" (.c .v0 .v1 (.ix .v2 .i1))) (.call "_law_bounds" (.c .v0 .v1 (.ix .v2 .i2)))))) (.a (.ret (.call "_law_fact" (.c .v0 .v1 .v2)))))))⟩
def W8:Fn:=⟨1,1,.cons (.ret (.and (.b7 .v0 .int) (.not (.b7 .v0 .bool)))) .nil⟩
noncomputable def Zm:E:= .comp [0] u0 1 [1,0] (.ar .v0) k9 (.bl u0) (.bin .shl (.bin .band (.bin .shr .v1 .v0) .i1) (.bin .add (.bin .mul .v0 .v2) .v0))
def xE:Fn:=⟨2,2,.cons (.ret (.bi .sum (.a Zm))) .nil⟩
def Xr:Ss:= .cons (.cm 3 (.ix (.ix .v0 .i1) .v4) (.tup (.b (.ix (.ix .v1 .i2) .v4) (.ix (.ix .v1 .i2) .v4)))) .nil
def Xp:Ss:= .cons (.af 5 (.call "_law_spread" (.b .v2 (.ix (.ix .v1 .i1) .v4)))) (.cons (.cm 3 (.ix (.ix .v0 .i0) .v4) (.tup (.b .v5 .v5))) .nil)
def ZC:Fn:=⟨2,6,.cons (.af 2 (.ix .v1 .i0)) (.cons (.set 3 .c5) (.cons (.for [4] u0 (.ar (.bi .len (.a (.ix .v0 .i0)))) Xp) (.cons (.for [4] u0 (.ar (.bi .len (.a (.ix .v0 .i1)))) Xr) (.a (.ret .v3)))))⟩
def jj:Ss:= .cons (.r (.or (.not (.call "_law_whole" (.a .v5))) (.not (.chain .le .lt .i0 .v5 (.bin .shl .i1 (.ix (.lst (.b .v1 (.bin .mul .v1 .v1))) .v3))))) (.bl false)) .nil
def zp:Ss:= .cons (.af 4 (.ix .v2 (.bin .add .i1 .v3))) (.cons (.r (.or (.not (.b7 .v4 .tuple)) (.cmp .ne (.bi .len (.a .v4)) (.bi .len (.a (.ix .v0 .v3))))) (.bl k9)) (.a (.for [5] u0 (.seq .v4) jj)))
def Zu:Fn:=⟨3,6,.cons (.r (.or (.not (.b7 .v2 .tuple)) (.or (.cmp .ne (.bi .len (.a .v2)) .i3) (.or (.not (.call "_law_whole" (.a (.ix .v2 .i0)))) (.cmp .ne (.ix .v2 .i0) .v1)))) (.bl false)) (.cons (.for [3] true (.ar .i2) zp) (.a (.ret (.bl true))))⟩
def xz:E:= .comp [0] true 1 [1,2] (.seq (.ix .v0 .i1)) false (.bl true) (.cmp .cR (.call "_law_told" (.c (.ix .v1 .i0) .v2 .v0)) (.bl true))
def Zv:Fn:=⟨2,3,.cons (.af 2 (.call "_law_seen" (.b (.ix .v0 .i0) .v1))) (.a (.ret (.bi .all (.a xz))))⟩
def Zp:Ss:= .cons (.cm 2 .v3 (.tup (.b .i0 (.bin .sub (.bin .shl .i1 (.bin .mul .v1 .v1)) .i1)))) .nil
def jr:Ss:= .cons (.cm 2 .v3 (.tup (.b .i0 (.call "_law_same" (.a .v1))))) .nil
noncomputable def jC:Fn:=⟨2,4,.cons (.set 2 .c5) (.cons (.for [3] u0 (.seq (.ix .v0 .i0)) jr) (.cons (.for [3] u0 (.seq (.ix .v0 .i1)) Zp) (.a (.ret .v2))))⟩
def xw:Fn:=⟨3,11,.cons (.eO [3,4,5] .v2) (.cons (.r (.or (.not (.b7 .v3 .str)) (.or (.cT u0 .v3 1) (.or (.not (.call "_law_whole" (.a .v4))) (.not (.call "_law_whole" (.a .v5)))))) .aj) (.cons (.r (.or (.not (.chain .le .lt .i0 .v4 .v0)) (.not (.chain .le .lt .i0 .v5 .v0))) .aj) (.cons (.eO [6,7] (.eD 1 .v3)) (.cons (.af 8 (.bin .shl .i1 (.bin .add (.bin .mul .v4 .v0) .v5))) (.cons (.r (.or (.cmp .ne (.bin .band .v6 .v8) .i0) (.cmp .eq (.bin .band .v7 .v8) .i0)) .aj) (.cons (.set 9 (.ej 1)) (.cons (.cm 9 .v3 (.tup (.b (.bin .bor .v6 .v8) .v7))) (.cons (.set 10 (.ej 1)) (.cons (.cm 10 .v3 (.tup (.b .v6 (.bin .sub .v7 .v8)))) (.a (.ret (.lst (.b .v9 (.var 10))))))))))))))⟩
def Jn:Fn:=⟨4,5,.cons (.r (.or (.not (.b7 .v3 .tuple)) (.cmp .eq (.bi .len (.a .v3)) .i0)) (.bl false)) (.cons (.iff (.and (.cmp .eq (.ix .v3 .i0) (.str hZ)) (.cmp .eq (.bi .len (.a .v3)) .i2)) (.cons (.r (.or (.not (.call "_law_whole" (.a (.ix .v3 .i1)))) (.not (.chain .le .lt .i0 (.ix .v3 .i1) (.bi .len (.a (.ix .v0 .i1)))))) (.bl false)) (.a (.ret (.cmp .cR (.call "_law_told" (.c .v1 .v2 (.ix (.ix .v0 .i1) (.ix .v3 .i1)))) (.bl false))))) .nil) (.cons (.r (.or (.cmp .ne (.ix .v3 .i0) (.str kO)) (.cmp .ne (.bi .len (.a .v3)) (.int 6))) (.bl false)) (.cons (.af 4 (.call "_law_split" (.c .v1 .v2 (.sl .v3 .i1 .i4)))) (.cons (.r (.eY false .v4) (.bl false)) (.a (.ret (.and (.call "_law_walks" (.d .v0 .v1 (.ix .v4 .i0) (.ix .v3 .i4))) (.call "_law_walks" (.d .v0 .v1 (.ix .v4 .i1) (.ix .v3 (.int 5)))))))))))⟩
def Jv:Fn:=⟨4,5,.cons (.r (.or (.not (.b7 .v3 .tuple)) (.cmp .ne (.bi .len (.a .v3)) .i2)) (.bl k9)) (.cons (.af 4 (.tup (.b (.ix .v0 .i0) (.bin .add (.ix .v0 .i1) (.tup (.a .v1)))))) (.cons (.r (.cmp .eq (.ix .v3 .i0) (.str fT)) (.call "_law_walks" (.d .v4 .v2 (.call "_law_open" (.b (.ix .v0 .i0) .v2)) (.ix .v3 .i1)))) (.a (.ret (.and (.cmp .eq (.ix .v3 .i0) (.str hB)) (.and (.call "_law_is_world" (.c (.ix .v0 .i0) .v2 (.ix .v3 .i1))) (.call "_law_keeps" (.b .v4 (.ix .v3 .i1)))))))))⟩
noncomputable def jo:Ss:= .cons (.app 5 (.bin .mod .v2 (.bin .shl .i1 (.bin .mul .v1 .v1)))) (.a (.af 2 (.bin .shr .v2 (.bin .mul .v1 .v1))))
def Xo:Ss:= .cons (.app 3 (.bin .mod .v2 (.bin .shl .i1 .v1))) (.a (.af 2 (.bin .shr .v2 .v1)))
def zL:Fn:=⟨3,6,.cons (.set 3 (.lst .nil)) (.cons (.for [4] u0 (.seq (.ix .v0 .i0)) Xo) (.cons (.set 5 (.lst .nil)) (.cons (.for [4] u0 (.seq (.ix .v0 .i1)) jo) (.a (.ret (.tup (.c .v1 (.bi .tuple (.a .v3)) (.bi .tuple (.a .v5)))))))))⟩
def bE:Fn:=⟨2,5,.cons (.af 2 (.bi .list (.a (.bin .add (.ix (.ix .v1 .i0) .i0) (.ix (.ix .v1 .i0) .i1))))) (.cons (.af 3 (.call "_law_draw" (.b .v0 .i4))) (.cons (.r (.or (.cmp .eq (.ix .v1 .i1) (.tup .nil)) (.cmp .lt .v3 .i2)) (.call "_law_saying" (.c .v0 .v2 .i1))) (.cons (.af 4 (.ix (.ix .v1 .i1) (.call "_law_draw" (.b .v0 (.bi .len (.a (.ix .v1 .i1))))))) (.cons (.r (.cmp .eq .v3 .i2) .v4) (.a (.ret (.tup (.c (.ix (.lst (.b (.str fj) (.str hF))) (.call "_law_draw" (.b .v0 .i2))) .v4 (.call "_law_saying" (.c .v0 .v2 .i0))))))))))⟩
def w6:E:= .comp [0] u0 1 [4] (.seq .v9) k9 (.bl u0) (.call "_law_keeps" (.b .v1 .v0))
def ZS:E:= .comp [0] u0 1 [3,2] (.ar .v8) k9 (.bl u0) (.call "_law_world" (.c .v1 .v2 .v0))
def dZ:Fn:=⟨1,10,.cons (.set 1 (.share (.call "_law_start" (.a .v0)))) (.cons (.eO [2,3] (.call "_law_words" (.a .v1))) (.cons (.af 4 (.call "_law_theory" (.c .v1 .v3 (.int 5)))) (.cons (.ex (.call "_law_turn" (.a .v1))) (.cons (.af 5 (.call "_law_asked" (.b .v1 .v4))) (.cons (.af 6 (.call "follows" (.c .v4 .v2 .v5))) (.cons (.af 7 (.call "follows" (.c .v4 .v2 (.tup (.b (.str d6) .v5))))) (.cons (.r (.not (.call "_law_shows" (.d .v4 (.tup (.b (.str d6) .v5)) .v2 .v6))) (.bl false)) (.cons (.r (.not (.call "_law_shows" (.d .v4 (.tup (.b (.str d6) (.tup (.b (.str d6) .v5)))) .v2 .v7))) (.bl false)) (.cons (.iff (.and (.cmp .eq (.ix .v6 .i0) (.str fT)) (.cmp .eq (.ix .v7 .i0) (.str fT))) (.cons (.af 8 (.bin .shl .i1 (.bin .add (.bin .mul .v2 (.bi .len (.a (.ix .v3 .i0)))) (.bin .mul (.bin .mul .v2 .v2) (.bi .len (.a (.ix .v3 .i1))))))) (.cons (.af 9 ZS) (.a (.ret (.not (.bi .any (.a w6))))))) .nil) (.a (.ret (.call "_law_shows" (.d .v4 (.tup (.b (.str d6) .v5)) .v2 (.call "follows" (.c .v4 .v2 .v5)))))))))))))))⟩
def prog:Prog:=⟨[("is_whole",Bt),("is_below",JC),("pairs_of",XN),("gathered",ZN),("common",rK),("either",uL),("without",Q3),("turned",uN),("joined",sT),("closed",sU),("same",uh),("every",rW),("value_of_name",Xq),("made",jy),("counts",tT),("bounds",bB),("settled",JY),("not_told",xO),("and_told",wN),("or_told",j4),("in_told",X0),("count_told",QE),("told",cu),("fact_told",aS),("is_size",zW),("widths",vP),("bits",pz),("check_size",jE),("check_bits",zE),("world_of",ZM),("places_of",jw),("is_tuple_of",Wz),("Cases.__init__",Wi),("Cases.world_of_code",Ji),("Cases.truth",xy),("Cases.bit_of",ju),("Cases.is_shown",xf),("names_in",WA),("needed_bits",wR),("how_many_set",WL),("Search.__init__",Qh),("Search.told_of_sayings",wg),("Search.chosen_place",Je),("Search.told_of_case",aL),("Search.told_of_halves",aE),("found",W6),("check_room",Wr),("follows",QK),("_law_start",JI),("_law_turn",jN),("_law_draw",wB),("_law_names",xv),("_law_words",wI),("_law_expression",Qf),("_law_saying",bc),("_law_theory",qF),("_law_joined",JD),("_law_turned",Wq),("_law_closed",xF),("_law_same",qO),("_law_two",QX),("_law_bounds",ax),("_law_many",zO),("_law_ruled",ww),("_law_within",XD),("_law_fact",bj),("_law_told",ba),("_law_whole",W8),("_law_spread",xE),("_law_seen",ZC),("_law_is_world",Zu),("_law_keeps",Zv),("_law_open",jC),("_law_split",xw),("_law_walks",Jn),("_law_shows",Jv),("_law_world",zL),("_law_asked",bE),("law",dZ)],[("WorldError", "ValueError"),("NoSize", "WorldError"),("NoCode", "WorldError"),("Crowded", "WorldError"),("TooBig", "WorldError")],[("GREATEST_SIZE",.int 4),("MOST_BITS",.int 16),("MOST_SAYINGS",.int 12)]⟩
abbrev u9 (m:Nat):Fx:=⟨call prog m,prog.cl,prog.con⟩
abbrev W.i (n:Nat):W:= .v (.int (n:Int))
abbrev W.r (n:Nat):W:= .v (.ref n)
abbrev W.s (t:Tx):W:= .v (.str t)
abbrev W.b (b:Bool):W:= .v (.bl b)
abbrev W.t (t:List D):W:= .v (.tup t)
abbrev W.l (t:List D):W:= .v (.lst t)
abbrev sv (d:D):Option W:=k0 (.v d)
abbrev si (n:Nat):Option W:=k0 (.i n)
def nk (m j:Nat) (h:j<=m): ∃k,m=k+j:=⟨m-j,by omega⟩
abbrev D.n (n:Nat):D:= .int (n:Int)
theorem JA (f): ∀ ds,(∀ d∈ds,step d h= .ok (f d) h)->Gy step ds h= .ok (ds.filterMap f) h
 | [],_=>rfl
 | d::ds,a=>by
  have b:=JA f ds λd c=>a d (Aa2 _ c)
  rw [Gy,a d Aa4]
  simp only [b]
  cases q:f d<;>simp [q]
def vy (f) (g:Gk F it τ h= .ok ds h) (o:ds.length<=bg)
 (e: ∀d∈ds,∃i b,Gp tg one d (Aa3 k y0++aB.map λj=>Gj τ j)=k0 i/\Gm F c i h= .ok b h/\(if b=u0 then ∃w y,eval F elt i h= .ok w h/\w.d=k0 y/\f d=k0 y else f d=y0)):
 eval F (.comp tg one k aB it u0 c elt) τ h= .ok (.own (ds.filterMap f)) h:=by
 rw [eval,g,R.ae,if_pos o,JA f]
 ·rfl
 intro d p
 obtain⟨i,b,l,m,a⟩:=e d p
 rw [l]
 show((Gm F c i h).bind _)=_
 rw [m]
 cases b with
 | true=>
  obtain⟨w,y,e1,e2,n⟩:=a
  simp [e1,e2,n]
 | false=>
  rw [if_neg (by simp)]at a
  simp [a]
def qk (f) (b:Gk F it τ h= .ok ds h) (g:ds.length<=bg)
 (a: ∀d∈ds,∃i,Gp tg one d (Aa3 k y0++aB.map λj=>Gj τ j)=k0 i/\ ∃w,eval F elt i h= .ok w h/\w.d=k0 (f d)):
 eval F (.comp tg one k aB it k9 c elt) τ h= .ok (.own (ds.map f)) h:=by
 rw [eval,b,R.ae,if_pos g,JA (λd=>k0 (f d))]
 ·simp [List.filterMap_eq_map']
 intro d l
 obtain⟨i,e,w,e1,e2⟩:=a d l
 rw [e]
 simp [e1,e2]
def CG (bnd) (body) (d) (ds) (τ) (h):Gq bnd body (d::ds) τ h=match bnd d τ with
 | none=> .fail
 | some c=>match body c h with
  | .next a b=>Gq bnd body ds a b
  | .cont a b=>Gq bnd body ds a b
  | .brk a b=> .next a b
  | o=>o:=rfl
@[simp] theorem JK (bnd) (body) (τ) (h):Gq bnd body [] τ h= .next τ h:=rfl
def zb (a:bnd d τ=k0 τ1) (b:body τ1 h= .next τ2 h2):Gq bnd body (d::ds) τ h=Gq bnd body ds τ2 h2:=by
 rw [CG,a];simp [b]
@[simp] theorem GA (i) (d) (τ):Gp [i] u0 d τ=k0 (GC τ i (.v d)):=rfl
@[simp] theorem Ke (tg) (ds) (τ):Gp tg k9 (.tup ds) τ=aX tg ds τ:=rfl
def Wc (a b:Nat):G9 (a:Int) (b:Int)=k0 ((a &&& b:Nat):Int):=by simp [G9]
def qm (a b:Nat):i8 (a:Int) (b:Int)=k0 ((a ||| b:Nat):Int):=by simp [i8]
@[simp] theorem Bw (i j):Gi .mod i j=if 0<j then k0 (i % j)else none:=rfl
@[simp] theorem Hj (i j):Gi .fdiv i j=if 0<j/\j<iW then k0 (i / j)else none:=rfl
@[simp] theorem jc (i j):Gi .band i j=G9 i j:=rfl
@[simp] theorem Jm (i j):Gi .bor i j=i8 i j:=rfl
def Zc (a b:Nat) (h:a<2 ^ 64):Gi .mul (a:Int) (b:Int)=k0 ((a*b:Nat):Int):=by
 have c:(-dH< a/\ a<dH)\/(-dH< b/\ b<dH):=by rw [GY];omega
 show(if _ then _ else _)=_
 rw [if_pos c,Int.natCast_mul]
def qV (k:Nat) (h:k<=1000000):Gi .shl 1 (k:Int)=k0 ((2 ^ k:Nat):Int):=by
 have a: 0<=(k:Int)/\ k<=BP/\(1:Int).natAbs<kl:=by rw [G8,GD];exact⟨by lia,by lia,by decide⟩
 show(if _ then _ else _)=_
 rw [if_pos a,Int.one_mul,Ad4]
 simp
def Jk (t k:Nat):Gi .shr (t:Int) (k:Int)=k0 ((t / 2 ^ k:Nat):Int):=by
 simp [Gi,Int.natCast_pow]
def zU (t k):(t / 2 ^ k &&& 1)=(t.testBit k).toNat:=by
 have:=Af5 (t / 2 ^ k) 1
 rw [this]
 exact Wf.gu t k
def pD (p:Nat×Nat):D:= .tup [.int (p.1:Nat),.int (p.2:Nat)]
def Dl (n t:Nat) (m):(((Aa8 m).map λi=>D.n i).filterMap λd=>match d with
 | .int i=>if t.testBit i.toNat then k0 (.tup [.int (i / (n:Int)),.int (i % (n:Int))])else y0
 | _=>y0)=(((Aa8 m).filter t.testBit).map λk=>(k / n,k % n)).map pD:=by
 induction Aa8 m with
 | nil=>rfl
 | cons x c a=>
  by_cases b:t.testBit x=u0
  ·simp [b,pD,a]
  ·simp [b,a]
def hV (m)(a:d∈(Aa8 m).map λi=>D.n i): ∃i:Nat,i<m/\d= .n i:=by
 obtain⟨i,b,rfl⟩:=Ab6.mp a
 exact⟨i,Ab8.mp b,rfl⟩
def ji (a:n<=20):n*n<=400:=Ab5 (Af2 a a) (by decide)
def sE (a:n<=20):n*n<=bg:=Ab5 (ji a) (by rw [Gg];decide)
def Zt (e:eval F a τ h= .ok (.i m) h) (c:m<=1000000):Gk F (.ar a) τ h= .ok ((Aa8 m).map λi=> .n i) h:=by
 have b: -fv<= m/\ m<fv:=by rw [GR];lia
 rw [Gk,e,R.ae,int?_int,R.ak,R.ae,if_pos b,Ad4]
def DU (b:n<=20) (e:Gj τ i=si n/\Gj τ j=si n):Gk F (.ar (.bin .mul (.var i) (.var j))) τ h= .ok ((Aa8 (n*n)).map λi=> .n i) h:=by
 have c:=ji b
 refine Zt ?_ (by lia)
 have a:=Zc n n (by lia)
 simp [e.1,e.2,a]
def zt (k n t) (h) (c:n<=20):call prog (k+1) "pairs_of" [.i n,.i t] h= .ok (.own ((Wf.ay n t).map pD)) h:=by
 rw [Gb rfl _ _ _ rfl]
 simp only [XN,execs,exec,JE,GJ]
 rw [vy (λd=>match d with
  | .int i=>if t.testBit i.toNat then k0 (.tup [.int _,.int (i % n)])else y0
  | _=>y0) (DU c (by simp [Gj])) (by simpa using sE c)]
 ·rw [Dl]
  simp [Wf.ay]
 ·intro d j
  obtain⟨i,g,rfl⟩:=hV _ j
  have b:0<n:=by cases n with
   | zero=>simp at g
   | succ m=>lia
  have a:0< n/\ n<iW:=by rw [GS];lia
  have f:G9 ((t / 2 ^ i:Nat)) 1=k0 (((t.testBit i).toNat:Nat):Int):=by
   rw [show 1=((1:Nat):Int)from rfl,Wc,zU]
  refine⟨_,t.testBit i,rfl,?_,?_⟩
  ·unfold Gm
   simp only [eval,Gj,Ae5,List.replicate_zero,Ab1,Al2,Ae2,GC,Gn,R.ae,GH,Jk,jc,f,R.ak,ui]
   cases t.testBit i<;>rfl
  ·by_cases e:t.testBit i=u0
   ·simp [e,Gj,a,b]
   ·simp [e]
end M
local macro_rules | `(tactic| simp_all [$xs,*]) => `(tactic| simp only [M.exec, M.execs, M.Gm, M.eval, M.Gf, M.Gv, M.Gk, M.Gs, M.GJ, M.Gj, M.Gn, M.GC, M.aX, M.R.ae, M.R.au, M.R.ak, M.O.bK, M.O.cC, M.W.mn, M.W.fG, M.W.bY, M.W.eC, M.W.gH, Ab1, Af, Al2, Ae2, Nat.reduceSub, Ae5, List.replicate_zero, M.GO, Ao4, Ao, M.GH, Ag0, M.Kr, M.Kn, M.Kp, M.Kb, M.Ko, M.Kq, M.int?_int, M.Ga, M.Gu, M.Gz, M.GA, M.Ke, $xs,*])
namespace M
def D9 (g:n<=20)(d:a<n) (e:b<n) (h):
 execs F Qi [si n,k0 l,si t,si a,si b] h=
  .next [si n,k0 l,si (t ||| 2 ^ (a*n+b)),si a,si b] h:=by
 have i:=Zc a n (by lia)
 have c:Gi .shl 1 _=k0 ((2 ^ (a*n+b):Nat):Int):=qV _ (by
  have:=Wf.place_lt d e
  have:=ji g
  lia)
 have f:=qm t (2 ^ (a*n+b))
 rw [Int.natCast_add]at c
 simp only [Qi,execs,exec,eval,Gj,Gn,R.ae,R.ak,R.au,O.bK,GH,i,Jc,c,Jm,f,W.mn,GC]
theorem uE (c:n<=20)(h): ∀ ps t r x y,Wf.f6 n ps-> ∃i j,
 Gq (Gp [3,4] k9) (λτ h=>execs F Qi τ h) (ps.map pD++r) [si n,k0 l,si t,x,y] h=
  Gq (Gp [3,4] k9) (λτ h=>execs F Qi τ h) r [si n,k0 l,sv (.int ((ps.foldl (λt p=>t ||| 2 ^ (p.1*n+p.2)) t:Nat):Int)),i,j] h
 | [],t,r,x,y,_=>⟨x,y,rfl⟩
 | p::ps,t,r,x,y,a=>by
  have b:=a p Aa4
  obtain⟨i,j,e⟩:=uE c h ps (t ||| 2 ^ (p.1*n+p.2)) r (sv (.int p.1)) (sv (.int p.2)) λq d=>a q (Aa2 _ d)
  refine⟨i,j,?_⟩
  rw [Ab1,Al2,zb rfl (D9 c b.1 b.2 h),e]
  rfl
def BJ (k n) (ps) (l) (c:kA l=k0 (ps.map pD)) (h) (b:n<=20) (a:Wf.f6 n ps):call prog (k+1) "gathered" [.i n,l] h= .ok (.i (Wf.cO n ps)) h:=by
 rw [Gb rfl _ _ _ rfl]
 obtain⟨d,f,e⟩:=uE b h ps 0 [] y0 y0 a
 rw [Af1,JK]at e
 simp [ZN,c,R.ak]
 rw [show (0)=((0:Nat):Int)from rfl,e]
 simp [Wf.cO]
def WI (k n) (ps) (h) (b:n<=20) (a:Wf.f6 n ps):call prog (k+3) "gathered" [.i n,.bor (ps.map pD)] h= .ok (.i (Wf.cO n ps)) h:=BJ _ n ps _ rfl h b a
def ZQ (k s t) (h):call prog (k+1) "either" [.i s,.i t] h= .ok (.i (s ||| t)) h:=by
 rw [Gb rfl _ _ _ rfl]
 simp_all [uL,Jm,qm]
def FQ (k s t) (h):call prog (k+1) "common" [.i s,.i t] h= .ok (.i (s &&& t)) h:=by
 rw [Gb rfl _ _ _ rfl]
 simp_all [rK,jc,Wc]
def WG (s t:Nat):G9 (s:Int) (-(t:Int)-1)=k0 ((s-(s &&& t):Nat):Int):=by
 have a: ¬(0<= -(t:Int)-1):=by lia
 have b: 0<=(s:Int):=by lia
 have c:(-(-(t:Int)-1)-1).toNat=t:=by lia
 rw [G9,if_pos b,if_neg a,c,Ad4]
def qy (k s t) (h):call prog (k+1) "without" [.i s,.i t] h= .ok (.i (s-(s &&& t))) h:=by
 rw [Gb rfl _ _ _ rfl]
 simp_all [Q3,jc,WG]
def ET (q:eval F e τ h= .ok (.own xs) h):Gk F (.seq e) τ h= .ok xs h:=by
 rw [Gk,q];rfl
def Fo (q:eval F e τ h= .ok (.t xs) h):Gk F (.seq e) τ h= .ok xs h:=by
 rw [Gk,q];rfl
def WJ (n t) (a:n<=20):((Wf.ay n t).map pD).length<=bg:=by
 refine Ab5 ?_ (sE a)
 simp only [Wf.ay,Aa]
 exact Ab5 (Aj0 _ _) (by simp)
def FY (k n t) (h) (a:n<=20):call prog (k+4) "turned" [.i n,.i t] h= .ok (.i (Wf.bF n t)) h:=by
 rw [Gb rfl _ _ _ rfl]
 have b: ∀h,eval (u9 (k+3)) zB [si n,si t] h= .ok (.own ((Wf.kQ (Wf.ay n t)).map pD)) h:=by
  intro h
  rw [zB,qk (λd=>match d with | .tup [x,y]=> .tup [y,x] | d=>d) (ET ?_) (WJ n t a)]
  ·simp [Wf.kQ,pD,Function.comp_def]
  ·intro d c
   obtain⟨p,e,rfl⟩:=Ab6.mp c
   exact⟨_,rfl,_,rfl,rfl⟩
  ·simp_all [zt _ n t h a]
 simp_all [uN,b,WI k n _ h a (Wf.eI (Wf.bV n t))]
 rfl
def EA (k n) (h) (b:n<=20):call prog (k+4) "same" [.i n] h= .ok (.i (Wf.bA n)) h:=by
 rw [Gb rfl _ _ _ rfl]
 have c: ∀h,eval (u9 (k+3)) qT [si n] h= .ok (.own (((Aa8 n).map λa=>(a,a)).map pD)) h:=by
  intro h
  rw [qT,qk (λd=> .tup [d,d]) (Zt (m:=n) (by simp_all []) (by lia)) (by simp;rw [Gg];lia)]
  ·simp [pD,Function.comp_def]
  ·intro d e
   exact⟨_,rfl,_,rfl,rfl⟩
 simp_all [uh,c,WI k n _ h b (Wf.dR n)]
 rfl
def vO (k n) (h) (b:n<=20):call prog (k+1) "every" [.i n] h= .ok (.i (2 ^ (n*n)-1)) h:=by
 rw [Gb rfl _ _ _ rfl]
 have a:=Zc n n (by lia)
 have d:=qV (n*n) (by have:=ji b;lia)
 have c:((2 ^ (n*n):Nat))-1=((2 ^ (n*n)-1:Nat):Int):=by
  have:=Ad (n*n)
  omega
 simp_all [rW,a,d,We,c]
def xQ (x k:Nat) (b:x<2 ^ 64) (h:k<=1000000):Gi .shl (x:Int) (k:Int)=k0 ((x*2 ^ k:Nat):Int):=by
 have a: 0<=(k:Int)/\ k<=BP/\(x:Int).natAbs<kl:=by rw [G8,GD];exact⟨by lia,by lia,by simpa using b⟩
 show(if _ then _ else _)=_
 rw [if_pos a,Ad4,Int.natCast_mul,Int.natCast_pow]
 rfl
def AB (d:n<=20) (e:a<n) (k:b<n)(h):
 execs F jt [si n,si o,si p,si (2 ^ n-1),si t,si a,si b,x7] h=
  .next [si n,si o,si p,si (2 ^ n-1),si (t ||| Wf.cb n p b*2 ^ (a*n)),si a,si b,si (Wf.cb n p b)] h:=by
 have j:=Zc a n (by lia)
 have c:=Zc b n (by lia)
 have i:(p / 2 ^ (b*n) &&& (2 ^ n-1))=Wf.cb n p b:=by rw [Af5];rfl
 have g:=Ab5 (Af2 (Ag3 e) (Ab n)) (ji d)
 have f:=xQ _ (a*n) (Ab4 (Wf.cW n p b) (Ab5 (Ac9 (by decide) d) (by decide))) (by lia)
 simp_all [jt,j,c,Jk,jc,Wc,i,f,Jm,qm]
theorem rO (c:n<=20) (h): ∀ ps t x y z,Wf.f6 n ps-> ∃j L i,
 Gq (Gp [5,6] k9) (λτ h=>execs F jt τ h) (ps.map pD) [si n,si o,si p,si (2 ^ n-1),si t,x,y,z] h=
  .next [si n,si o,si p,si (2 ^ n-1),sv (.int ((ps.foldl (λt q=>t ||| Wf.cb n p q.2*2 ^ (q.1*n)) t:Nat):Int)),j,L,i] h
 | [],t,x,y,z,_=>⟨x,y,z,rfl⟩
 | q::ps,t,x,y,z,a=>by
  have b:=a q Aa4
  obtain⟨j,L,i,e⟩:=rO c h ps (t ||| Wf.cb n p q.2*2 ^ (q.1*n)) (sv (.int q.1)) (sv (.int q.2)) (si (Wf.cb n p q.2)) λq d=>a q (Aa2 _ d)
  refine⟨j,L,i,?_⟩
  rw [Ab1,zb rfl (AB c b.1 b.2 h),e]
  rfl
def JR (k n o p) (h) (a:n<=20):call prog (k+2) "joined" [.i n,.i o,.i p] h= .ok (.i (Wf.joinM n o p)) h:=by
 rw [Gb rfl _ _ _ rfl]
 have b:=qV n (by lia)
 have c:((2 ^ n:Nat))-1=((2 ^ n-1:Nat):Int):=by
  have:=Ad n
  lia
 obtain⟨f,g,d,e⟩:=rO a h _ 0 y0 y0 y0 (Wf.bV n o)
 simp_all [sT,b,We,c,zt k n o h a]
 rw [show (0)=((0:Nat):Int)from rfl,e]
 simp_all []
 rfl
theorem wW (d:n<=20) (h): ∀ f r,2 ^ (n*n)-r<f->Wf.fR n t r-> ∃r',Wf.eX n t r' ∧
 GF (λτ h=>Gm (u9 (k+2)) Wt τ h) (λτ h=>execs (u9 (k+2)) wt τ h) f [si n,si t,si r,si (r ||| Wf.joinM n r r)] h=
  .next [si n,si t,si r',si r'] h
 | 0,r,g,_=>absurd g (Ag5 _)
 | f+1,r,g,c=>by
  have j: ∀ a b,Gm (u9 (k+2)) Wt [si n,si t,si a,si b] h= .ok (!y9 (b=a)) h:=by
   intro a b
   simp [Gm,Wt,Gj,G6]
   by_cases q:b=a
   ·simp [q]
   ·have: ¬(b=(a:Int)):=by omega
    simp [q,this]
  rw [GF,j,R.au]
  by_cases e:r ||| Wf.joinM n r r=r
  ·refine⟨r,c.done e,?_⟩
   simp only [e,decide_true,Ao4]
  ·have p:=c.grow e
   have l:=c.next.lt
   obtain⟨r',m,i⟩:=wW d h f (r ||| Wf.joinM n r r) (by omega) c.next
   refine⟨r',m,?_⟩
   simp only [e,decide_false,Ao]
   have o:execs (u9 (k+2)) wt [si n,si t,si r,si (r ||| Wf.joinM n r r)] h=
    .next [si n,si t,si (r ||| Wf.joinM n r r),si ((r ||| Wf.joinM n r r) ||| Wf.joinM n (r ||| Wf.joinM n r r) (r ||| Wf.joinM n r r))] h:=by
    simp_all [wt,JR k n _ _ h d,ZQ (k+1) _ _ h]
   simp only [o]
   exact i
def AW (k n t) (h) (b:n<=4) (d:t<2 ^ (n*n)): ∃r,Wf.eX n t r/\call prog (k+3) "closed" [.i n,.i t] h= .ok (.i r) h:=by
 rw [Gb rfl _ _ _ rfl]
 have e:2 ^ (n*n)-t<100000:=by
  have:n*n<=16:=Af2 b b
  have:2 ^ _<=2 ^ 16:=Ac9 (by decide) this
  lia
 obtain⟨r,c,a⟩:=wW (by lia) h 100000 t e (Wf.fR.start d)
 refine⟨r,c,?_⟩
 simp [Gm]at a
 simp_all [sU,JR k n _ _ h (by lia),ZQ _ _ _ h]
 rw [a]
 simp_all []
def za (e:exec F s τ h= .next τ1 h1):execs F (.cons s ss) τ h=execs F ss τ1 h1:=by rw [execs,e,O.bK]
def fx (e:exec F s τ h= .next τ1 h1) (g:Gw n (execs F ss τ1 h1)=r):Gw n (execs F (.cons s ss) τ h)=r:=by rw [za e];exact g
def qa (e:exec F s τ h= .ret w h1):execs F (.cons s ss) τ h= .ret w h1:=by rw [execs,e,O.cC]
def Jr (e:Gm F c τ h= .ok u0 h1):exec F (.iff c a b) τ h=execs F a τ h1:=by rw [exec,e,R.au]
def m4 (e:Gm F c τ h= .ok k9 h1):exec F (.iff c a b) τ h=execs F b τ h1:=by rw [exec,e,R.au]
def QA (a:GJ e=y0) (q:eval F e τ h= .ok (.own xs) h1):exec F (.ret e) τ h= .ret (.own xs) h1:=by
 rw [exec,a];simp [q,R.au]
def Ja (a:GJ e=y0) (q:eval F e τ h= .ok (.v d) h1):exec F (.ret e) τ h= .ret (.v d) h1:=by
 rw [exec,a];simp [q,R.au]
def zv (e:h[r]? =k0 (.lst xs)) (i):dF (.r r) (.v (.int i)) h=aU xs i:=by
 simp [dF,W.bH,W.seq?,e]
def mB (x y z:D):aU [x,y,z] 0=k0 x:=rfl
def WY (x y z:D):aU [x,y,z] 1=k0 y:=rfl
def i6 (x y z:D):aU [x,y,z] 2=k0 z:=rfl
def EY:dv 3 2=k0 2:=rfl
def zA (c:eval F e τ h= .ok (.v d) h) (g:Gj τ i=k0 (.r r)) (b:h[r]? =k0 (.lst xs)) (f:dv xs.length j=k0 n) (k:GN d=u0) (a:h2=h.set r (.lst (xs.set n d))):
 exec F (.bQ (.var i) (.int j) e) τ h= .next τ h2:=by
 subst a
 simp only [exec,c,R.au,eval,g,Km,b,f,k,if_true]
def X5 (a b) (h: -(2:Int) ^ 64<b/\b<2 ^ 64):Gi .mul a b=k0 (a*b):=by
 have c:(-dH<a/\a<dH)\/(-dH<b/\b<dH):=by rw [GY];exact .inr h
 show(if _ then _ else _)=_
 rw [if_pos c]
def HI (a b) (h: -(2:Int) ^ 64<a/\a<2 ^ 64):Gi .mul a b=k0 (a*b):=by
 have c:(-dH<a/\a<dH)\/(-dH<b/\b<dH):=by rw [GY];exact .inl h
 show(if _ then _ else _)=_
 rw [if_pos c]
def ZI (a b) (h:0<b):Gi .mod a b=k0 (a % b):=by
 rw [Bw,if_pos h]
def uv (a b) (h:0<b) (c:b<1073741824):Gi .fdiv a b=k0 (a / b):=by
 rw [Hj,if_pos ⟨h,by rw [GS];exact c⟩]
def DX (i j) (h):Gr .eq (.v (.int i)) (.v (.int j)) h=k0 (y9 (i=j)):=by
 rfl
theorem Z1: ∀xs:List Int,Kj (xs.map .int)=k0 xs.sum
 | []=>rfl
 | x::xs=>by simp [Kj,Z1 xs]
def AF (f:α->β) (xs) (lo hi):cut (xs.map f) lo hi=(cut xs lo hi).map f:=by
 simp [cut,List.map_take]
def IW (xs:List α) (lo hi):(cut xs lo hi).length<=xs.length:=by
 simp [cut,Af7]
 lia
abbrev ly:Tx:= rf
noncomputable def AY:List Tx:= [fX,hI,fL,gL,[101,97,99,104],fq,hF,fj,d6,iP,iK,iV,[107,105,110,100],[116,105,101],[115,97,121]]
structure Dm (t:Tx):Prop where
 lo:1<=t.length
 hi:t.length<=8
 KO: ∀c∈t,97<=c/\c<=122
 free:t∉AY
def DS (i:Nat) (h:i<26):aU ly (i:Int)=k0 (97+i):=by
 have: ∀i:Nat,i<26->aU ly i=k0 (97+i):=by decide
 exact this i h
def pd (xs:List α) (n:Nat):cut xs y0 (k0 (n:Int))=xs.take n:=by
 have a: ¬((n:Int)<0):=by lia
 simp only [cut,aY,a,if_false,Ad4,List.drop_zero,Nat.sub_zero]
 by_cases q:n<=xs.length
 ·rw [Ak4 q]
 ·rw [Nat.min_eq_right (by lia),Ai7 (Ab _),Ai7 (by lia)]
def zX (xs:List α) (n:Nat):cut xs (k0 (n:Int)) y0=xs.drop n:=by
 have a: ¬((n:Int)<0):=by lia
 simp [cut,aY,a,Ad4]
 by_cases q:n<=xs.length
 ·rw [Ak4 q,Ai7 (by simp)]
 ·rw [Nat.min_eq_right (by lia),List.drop_of_length_le (Ab _),List.drop_of_length_le (by lia),List.take_nil]
def n6 (s) (lo hi) (h) (a:s.length<=bg):gf (.s s) lo hi h= .ok (.s (cut s lo hi)) h:=by
 show(if s.length<=bg then _ else _)=_
 rw [if_pos a]
def mul_str (s) (n) (h) (b:n<=1000) (a:s.length*n<=1000000):GV .mul (.s s) (.i n) h= .ok (.v (.str (Aa3 n s).flatten)) h:=by
 show(if 0<=(n:Int)/\(n:Int)<=1000/\s.length*(n:Int).toNat<=bg then _ else _)=_
 rw [if_pos ⟨by lia,by lia,by rw [Gg,Ad4];exact a⟩,Ad4]
def add_str (s u) (h) (a:s.length+u.length<=1000000):GV .add (.s s) (.s u) h= .ok (.s (s++u)) h:=by
 rw [Fz,if_pos (by rw [Gg];exact a)]
def XC (i) (a:i<26) (h):dF (.s ly) (.i i) h=k0 (.str [97+i]):=by
 rw [oa,if_pos (by rw [Gg];decide),DS i a]
 rfl
def rS (f:Nat->α) (m) (h:m<=8) (g: ∀i,i<8-> ∀j,j<8->i≠j->f i≠f j):((Aa8 m).map f).Nodup:=by
 rw [List.Nodup,List.pairwise_map]
 refine Ao3.imp_of_mem ?_ (List.nodup_range)
 intro a b d e c
 exact g a (by have:=Ab8.mp d;lia) b (by have:=Ab8.mp e;lia) c
def lF (a b:Nat) (c:0<b):Gi .mod (a:Int) (b:Int)=k0 ((a % b:Nat):Int):=by
 rw [ZI _ _ (by lia)];rfl
def Iy (a b:Nat) (d:0<b) (c:b<1073741824):Gi .fdiv (a:Int) (b:Int)=k0 ((a / b:Nat):Int):=by
 rw [uv _ _ (by lia) (by lia)];rfl
def BZ (a b:Nat):Gi .add (a:Int) (b:Int)=k0 ((a+b:Nat):Int):=rfl
def jg (xs:List α) (i) (h:i<xs.length):aU xs (i:Int)=xs[i]? :=by
 have:(i)< xs.length:=by omega
 simp [aU,dv,this]
def zn (i j) (h):Gr .eq (.i i) (.i j) h=k0 (y9 (i=j)):=by
 rw [DX]
 congr 1
 exact decide_eq_decide.mpr (by lia)
theorem xC: ∀i:List Tx,GQ (i.map .str)=k0 i
 | []=>rfl
 | t::i=>by simp [GQ,xC i]
theorem rJ (s): ∀i:List Tx,inD (.str s) (i.map .str)=y9 (s∈i)
 | []=>rfl
 | t::i=>by
  have a:=rJ s i
  simp only [inD]at a
  by_cases q:t=s
  ·subst q
   simp [inD]
  ·have b: ¬s=t:=λe=>q e.symm
   simp only [inD,Ab1,Af3,a,Ac,b,false_or]
   simp [q]
def DR (a:List Tx):(a.map D.str).all GN=true:=by simp
def Qy (s) (a:List Tx) (w) (h) (c:w.seq? h=k0 (a.map .str)) (b:w.bH =y0):Kh (.s s) w h=k0 (y9 (s∈a)):=by
 unfold Kh
 rw [b]
 simp only [W.bH,W.mn,c,DR,Ae1,if_true,rJ]
structure Nm (ts:List Tx):Prop where
 nd:ts.Nodup
 good: ∀t∈ts,Dm t
def Ze (x) (r:List α):aU (x::r) 0=k0 x:=by
 have: 0< (x::r).length:=by simp
 simp [aU,dv,this]
def LB (xs) (n) (h) (b:n<=1000) (a:xs.length*n<=1000000):GV .mul (.own xs) (.i n) h= .ok (.own (Aa3 n xs).flatten) h:=by
 show Kw xs n h=_
 rw [Kw,if_pos ⟨by lia,by lia,by rw [Ad4,Gg];exact a⟩,Ad4]
def mT (b:Gd d=u0) (c:n<=h.length) (a:Gx (h.take n)=u0): ∃h',Gw n (.ret (.v d) h)= .ok (.v d) h'/\h'=h.take n:=by
 by_cases q:h.length=n
 ·exact⟨h,by simp [Gw,fin,q],by rw [← q,Ap1]⟩
 ·exact⟨h.take n,by simp [Gw,fin,q,W.keep,b,a],rfl⟩
theorem Qv: ∀i:List Tx,Gc (i.map .str)=u0
 | []=>rfl
 | t::i=>by simp [Qv i]
def yT (b:Gf F es τ h= .ok ws h) (c:F.call f (ws.map W.arg) h= .ok (.own xs) h) (a:Gc xs=u0):eval F (.share (.call f es)) τ h= .ok (.r h.length) (h++ [.lst xs]):=by
 simp only [eval,b,R.ae,c,a,if_true]
theorem Zr (x): ∀ys:List Tx,(Kf x ys).Perm (x::ys)
 | []=> .refl _
 | y::ys=>by
  unfold Kf
  by_cases q:y<x
  ·rw [if_pos q]
   exact((Zr x ys).cons y).trans (.swap x y ys)
  ·rw [if_neg q]
theorem Jj: ∀xs:List Tx,(GB xs).Perm xs
 | []=> .refl _
 | x::xs=>(Zr x (GB xs)).trans ((Jj xs).cons x)
abbrev g0 (a:List Tx):D:= .tup (a.map .str)
abbrev wD (K T:List Tx):D:= .tup [g0 K,g0 T]
def zN (ts) (h) (a:ts.length<64):dG .sorted [.own (ts.map .str)] h= .ok (.own ((GB ts).map .str)) h:=by
 show(R.of h ((k0 _).bind GQ)).bind _=_
 rw [Ag0,xC,R.ak,R.ae,if_pos a]
abbrev aw (l:List Nat):List D:=l.map λ(x:Nat)=> .n x
abbrev hY (n:Nat) (a b:List Nat):D:= .tup [.n n,.tup (aw a),.tup (aw b)]
structure Mh (n K T:Nat) (ks ts:List Nat):Prop where
 n4:n<=4
 lk:ks.length=K
 lt:ts.length=T
 bk: ∀x∈ks,x<2 ^ n
 bt: ∀x∈ts,x<2 ^ (n*n)
inductive Ex where
 | name (t:Tx)
 | same
 | all
 | none
 | turned (a:Ex)
 | closed (a:Ex)
 | plus (a b:Ex)
 | less (a b:Ex)
 | both (a b:Ex)
 | joined (a b:Ex)
abbrev Qg:Tx:= [110,97,109,101]
abbrev xg:Tx:= [115,97,109,101]
abbrev Zn:Tx:= [97,108,108]
abbrev zh:Tx:= [110,111,110,101]
abbrev wF:Tx:= [112,108,117,115]
abbrev qp:Tx:= [108,101,115,115]
abbrev Jw:Tx:= [98,111,116,104]
abbrev Zf:Tx:= [106,111,105,110,101,100]
abbrev xi:Tx:= [116,117,114,110,101,100]
abbrev Wh:Tx:= [99,108,111,115,101,100]
noncomputable def aT:Ex->D
 | .name t=> .tup [.str Qg,.str t]
 | .same=> .tup [.str xg]
 | .all=> .tup [.str Zn]
 | .none=> .tup [.str zh]
 | .turned a=> .tup [.str xi,aT a]
 | .closed a=> .tup [.str Wh,aT a]
 | .plus a b=> .tup [.str wF,aT a,aT b]
 | .less a b=> .tup [.str qp,aT a,aT b]
 | .both a b=> .tup [.str Jw,aT a,aT b]
 | .joined a b=> .tup [.str Zf,aT a,aT b]
def Ex.wf (N:List Tx):Ex->Prop
 | .name t=>t∈N
 | .turned a=>a.wf N
 | .closed a=>a.wf N
 | .plus a b=>a.wf N/\b.wf N
 | .less a b=>a.wf N/\b.wf N
 | .both a b=>a.wf N/\b.wf N
 | .joined a b=>a.wf N/\b.wf N
 | _=>True
noncomputable def Ex.dp:Ex->Nat
 | .turned a=>a.dp+1
 | .closed a=>a.dp+1
 | .plus a b=>max a.dp b.dp+1
 | .less a b=>max a.dp b.dp+1
 | .both a b=>max a.dp b.dp+1
 | .joined a b=>max a.dp b.dp+1
 | _=>0
end M
namespace Wf
def wr (g:Nat->Nat->Bool):Nat->Nat->Nat->Bool
 | 0,a,b=>g a b
 | k+1,a,b=>wr g k a b||(wr g k a k&&wr g k k b)
theorem nF : ∀k,g a b=u0->wr g k a b=u0
 | 0,h=>h
 | k+1,h=>by rw [wr,nF k h,Am]
theorem vj : ∀ k m,m<k-> ∀a b,wr g k a m=u0->wr g k m b=u0->wr g k a b=u0
 | 0,m,f=>absurd f (Ag5 _)
 | k+1,m,f=>λa b c d=>by
  rw [wr,Ae6,Aa0]at c d
  rw [wr,Ae6,Aa0]
  by_cases q:m=k
  ·subst q
   have c:=c.elim id And.left
   have d:=d.elim id And.right
   exact .inr ⟨c,d⟩
  ·have h:m<k:=by omega
   have e:=vj (g:=g) k m h
   rcases c with c | c<;>rcases d with d | d
   ·exact .inl (e a b c d)
   ·exact .inr ⟨e a k c d.1,d.2⟩
   ·exact .inr ⟨c.1,e k b c.2 d⟩
   ·exact .inr ⟨c.1,d.2⟩
theorem xG (e: ∀a b,a<n->b<n->(g a b=u0↔t.testBit (a*n+b)=u0)): ∀k,k<=n-> ∀a b,a<n->b<n->wr g k a b=u0->TC n t a b
 | 0,_,a,b,c,d,h=> .step c d ((e a b c d).mp h)
 | k+1,f,a,b,c,d,h=>by
  rw [wr,Ae6,Aa0]at h
  rcases h with h | h
  ·exact xG e k (by omega) a b c d h
  ·exact(xG e k (by omega) a k c (by omega) h.1).trans (xG e k (by omega) k b (by omega) d h.2)
def KJ (f: ∀a b,a<n->b<n->(g a b=u0↔t.testBit (a*n+b)=u0))(h:TC n t a b):wr g n a b=true:=by
 induction h with
 | step c d e=>exact nF n ((f _ _ c d).mpr e)
 | more j c d e i=>exact vj n _ c _ _ i (nF n ((f _ _ c d).mpr e))
def iz (c: ∀a b,a<n->b<n->(g a b=u0↔t.testBit (a*n+b)=u0))(d:a<n) (e:b<n):wr g n a b=u0↔TC n t a b:=⟨xG c n (Ab n) a b d e,KJ c⟩
end Wf
namespace M
def cY (t:Tx) (a:List Tx):Nat:=(Ki t a).getD 0
theorem xm : ∀ {i},t∈i->Ki t i=k0 (cY t i)/\cY t i<i.length
 | y::b,h=>by
  unfold cY
  by_cases q:y=t
  ·simp [Ki,q]
  ·have a:t∈b:=by
    rcases Ac.mp h with e | e
    ·exact absurd e.symm q
    ·exact e
   obtain⟨e,l⟩:=xm a
   simp only [Ki,q,if_false,e,Option.map_some,Ak9,Aa7]at l ⊢
   exact⟨trivial,by omega⟩
structure Wo where
 n:Nat
 K:List Tx
 T:List Tx
 ks:List Nat
 ts:List Nat
structure Wo.Ok (w:Wo):Prop where
 hK:w.K.length<=4
 hT:w.T.length<=4
 nd:(w.K++w.T).Nodup
 wl:Mh w.n w.K.length w.T.length w.ks w.ts
def Wo.at (w:Wo) (t:Tx) (a b:Nat):Prop:=if t∈w.T then(w.ts.getD (cY t w.T) 0).testBit (a*w.n+b)=u0 else a=b/\(w.ks.getD (cY t w.K) 0).testBit a=u0
def zev (w:Wo):Ex->Nat->Nat->Prop
 | .name t,a,b=>w.at t a b
 | .same,a,b=>a=b
 | .all,_,_=>True
 | .none,_,_=>False
 | .turned e,a,b=>zev w e b a
 | .closed e,a,b=> ∃t,t<2 ^ (w.n*w.n)/\(∀ x y,x<w.n->y<w.n->(t.testBit (x*w.n+y)=u0↔zev w e x y))/\Wf.TC w.n t a b
 | .plus e f,a,b=>zev w e a b\/zev w f a b
 | .less e f,a,b=>zev w e a b/\ ¬zev w f a b
 | .both e f,a,b=>zev w e a b/\zev w f a b
 | .joined e f,a,b=> ∃c,c<w.n/\zev w e a c/\zev w f c b
def Is (w:Wo) (e:Ex) (v:Nat):Prop:=v<2 ^ (w.n*w.n)/\ ∀a b,a<w.n->b<w.n->(v.testBit (a*w.n+b)=u0↔zev w e a b)
def ny (b:s<2 ^ n) (a:t<2 ^ n):s ||| t<2 ^ n:=Ak7 b a
def Wo.words (w:Wo):D:=wD w.K w.T
def Wo.aI (w:Wo):D:=hY w.n w.ks w.ts
def mP (l) (i:Nat) (h:i<l.length):aU (aw l) (i:Int)=k0 (.n (l.getD i 0)):=by
 rw [jg _ _ (by simp_all),Ac2,Aa6 h,Ac8,Aa6 h]
 rfl
def XV (ts) (t) (h) (a:t∈ts) (b:ts.length<=1000):mG .index (.v (g0 ts)) [.s t] h= .ok (.i (cY t ts)) h:=by
 show(R.of h ((k0 _).bind GQ)).bind _=_
 rw [Ag0,xC,R.ak,R.ae]
 show(R.of h (k0 t)).bind _=_
 rw [R.ak,R.ae,(xm a).1,R.ak,R.ae,if_pos (by rw [Gg];lia)]
def La (x y z:D):aU [x,y,z] 0=k0 x:=rfl
def zg (x y:D):aU [x,y] 0=k0 x:=rfl
def Jd (x y:D):aU [x,y] 1=k0 y:=rfl
def F5 (x:D):aU [x] 0=k0 x:=rfl
def z7 (n x:Nat):List (Nat×Nat):=((Aa8 n).filter x.testBit).map λa=>(a,a)
def zS (n x):Wf.f6 n (z7 n x):=λp c=>by
 obtain⟨a,b,rfl⟩:=Ab6.mp c
 have:=Ab8.mp (Ai9.mp b).1
 exact⟨this,this⟩
def rN (h:a<n) (f:b<n):(Wf.cO n (z7 n x)).testBit (a*n+b)=u0↔a=b/\x.testBit a=true:=by
 rw [Wf.cz,Ad1]
 refine⟨λ⟨p,i,e⟩=> ?_,λ⟨e,j⟩=> ?_⟩
 ·obtain⟨c,d,rfl⟩:=Ab6.mp i
  have g:=Ai9.mp d
  have d:=Ab8.mp g.1
  have e:=of_decide_eq_true e
  have e1:=congrArg (· / n) e
  have e2:=congrArg (· % n) e
  simp [Wf.aF d,Wf.aF f,Wf.aK d,Wf.aK f]at e1 e2
  subst e1
  exact⟨e2,g.2⟩
 ·subst e
  exact⟨_,Ab6.mpr ⟨a,Ai9.mpr ⟨Ab8.mpr h,j⟩,rfl⟩,decide_eq_true rfl⟩
def AO (n x) (o:n<=4) (h):eval F jh [a,b,c,si n,si x] h= .ok (.own ((z7 n x).map pD)) h:=by
 rw [jh,vy (λd=>match d with
  | .int i=>if x.testBit i.toNat then k0 (.tup [.int i,.int i])else y0
  | _=>y0) (Zt (m:=n) (by simp_all []) (by lia)) (by simp;rw [Gg];lia)]
 ·congr 2
  rw [List.filterMap_map,z7,Ad6]
  induction Aa8 n with
  | nil=>rfl
  | cons y l f=>
   by_cases e:x.testBit y=u0
   ·simp [e,pD,f]
   ·simp [e,f]
 ·intro d j
  obtain⟨i,k,rfl⟩:=hV _ j
  have g:G9 ((x / 2 ^ i:Nat)) 1=k0 (((x.testBit i).toNat:Nat):Int):=by
   rw [show 1=((1:Nat):Int)from rfl,Wc,zU]
  refine⟨[si i,si x],x.testBit i,rfl,?_,?_⟩
  ·unfold Gm
   simp only [eval,Gj,Gn,R.ae,GH,Jk,jc,g,R.ak,ui]
   cases x.testBit i<;>rfl
  ·by_cases e:x.testBit i=u0
   ·simp [e,Gj]
   ·simp [e]
def uW (t) (ts) (h):Gr .mem (.s t) (.v (g0 ts)) h=k0 (y9 (t∈ts)):=Qy t ts (.v (g0 ts)) h rfl rfl
def Qs (k)(ok:w.Ok) (t) (g:t∈w.K++w.T) (h): ∃v,Is w (.name t) v/\call prog (k+4) "value_of_name" [.v w.words,.v w.aI,.s t] h= .ok (.i v) h:=by
 rw [Gb rfl _ _ _ rfl]
 simp only [Xq]
 show ∃v,_/\Gw _ (execs _ _ [sv (wD w.K w.T),sv (hY w.n w.ks w.ts),k0 _,y0,y0] h)=_
 have i:=ok.hK
 have j:=ok.hT
 by_cases q:t∈w.T
 ·have c:=(xm q).2
  refine⟨w.ts.getD (cY t w.T) 0,⟨?_,λa b d e=> ?_⟩,?_⟩
  ·rw [Ac8,Aa6 (by rw [ok.wl.lt];exact c)]
   exact ok.wl.bt _ (Am7 _)
  ·show _↔w.at t a b
   rw [Wo.at,if_pos q]
  ·rw [qa,Ga _ _ _ rfl]
   rw [Jr (h1:=h) (by simp_all [aa,Jd,uW,decide_eq_true q])]
   exact qa (Ja rfl (by simp only [eval,Gf,Gj,Gn,R.ae,aa,Jd,i6,R.ak,pE,if_true,XV w.T t h q (by omega)];rw [mP _ _ (by rw [ok.wl.lt];exact c)];rfl))
 ·have f:=(Ac5.mp g).resolve_right q
  have c:=(xm f).2
  have n4:=ok.wl.n4
  refine⟨Wf.cO w.n (z7 w.n (w.ks.getD (cY t w.K) 0)),⟨Wf.cZ (zS _ _),λa b d e=> ?_⟩,?_⟩
  ·show _↔w.at t a b
   rw [Wo.at,if_neg q]
   exact rN d e
  ·rw [za (τ1:= [sv (wD w.K w.T),sv (hY w.n w.ks w.ts),k0 (.s t),y0,y0]) (h1:=h) (by simp_all [aa,Jd,uW,decide_eq_false q])]
   rw [za (τ1:= [sv _,sv _,k0 _,si w.n,y0]) rfl]
   rw [za (τ1:= [sv _,sv _,k0 _,si w.n,si _]) (by simp only [exec,eval,Gf,Gj,Gn,R.ae,aa,zg,WY,R.ak,pE,if_true,XV w.K t h f (by omega)];rw [mP _ _ (by rw [ok.wl.lk];exact c)];rfl)]
   rw [qa (Ja rfl ?_),Ga _ _ _ rfl]
   simp only [eval,Gf,Gj,Gn,R.ae,AO w.n _ n4 h,Ab1,Af,W.bY,W.eC,WI k w.n _ h (by omega) (zS _ _)]
def Xa (s t:Tx) (h:AH):Gr .eq (.s s) (.s t) h=k0 (s==t):=by simp [G6]
def xa (e:Gm F c τ h= .ok k9 h):execs F (.cons (.iff c a .nil) ss) τ h=execs F ss τ h:=za (m4 e)
def Xe (e:Gm F c τ h= .ok u0 h) (r:exec F s τ h= .ret w h):execs F (.cons (.iff c (.cons s .nil) .nil) ss) τ h= .ret w h:=qa ((Jr e).trans (qa r))
def xb (s X) (h):Gm F (.cmp .eq .v1 (.str X)) [a,k0 (.s s),c] h= .ok (s==X) h:=by
 simp only [Gm,eval,Gj,Gn,R.ae,Xa,R.ak,GO]
abbrev ku (n:Nat) (s:Tx) (l:List D):Sl:= [si n,k0 (.s s),k0 (.l l)]
def Lb (k n) (l) (h) (a:n<=4):call prog (k+5) "made" [.i n,.s xg,.l l] h= .ok (.i (Wf.bA n)) h:=by
 rw [Gb rfl _ _ _ rfl]
 simp only [jy]
 show Gw _ (execs _ _ (ku n xg l) h)=_
 rw [Xe (xb _ _ _) (Ja rfl (by simp only [eval,Gf,Gj,Gn,R.ae,Ab1,Af,W.bY,EA k n h (by lia)];rfl)),Ga _ _ _ rfl]
def DE (k n) (l) (h) (a:n<=4):call prog (k+5) "made" [.i n,.s Zn,.l l] h= .ok (.i (2 ^ (n*n)-1)) h:=by
 rw [Gb rfl _ _ _ rfl]
 simp only [jy]
 show Gw _ (execs _ _ (ku n Zn l) h)=_
 rw [xa (xb _ _ _),Xe (xb _ _ _) (Ja rfl (by simp only [eval,Gf,Gj,Gn,R.ae,Ab1,Af,W.bY,vO _ n h (by lia)];rfl)),Ga _ _ _ rfl]
def Az (k n) (l) (h):call prog (k+5) "made" [.i n,.s zh,.l l] h= .ok (.i (0)) h:=by
 rw [Gb rfl _ _ _ rfl]
 simp only [jy]
 rw [xa (xb _ _ _),xa (xb _ _ _),Xe (xb _ _ _) _,Ga _ _ _ rfl]
 rfl
abbrev l2 (s t:Nat):List D:= [.n s,.n t]
def JW (k n s t) (h):call prog (k+5) "made" [.i n,.s wF,.l (l2 s t)] h= .ok (.i (s ||| t)) h:=by
 rw [Gb rfl _ _ _ rfl]
 simp only [jy]
 show Gw _ (execs _ _ (ku n wF _) h)=_
 rw [xa (xb _ _ _),xa (xb _ _ _),xa (xb _ _ _),Xe (xb _ _ _) (Ja rfl (by simp only [eval,Gf,Gj,Gn,R.ae,Jq,zg,Jd,R.ak,Ab1,Af,W.bY,ZQ _ s t h];rfl)),Ga _ _ _ rfl]
def wX (k n s t) (h):call prog (k+5) "made" [.i n,.s Jw,.l (l2 s t)] h= .ok (.i (s &&& t)) h:=by
 rw [Gb rfl _ _ _ rfl]
 simp only [jy]
 show Gw _ (execs _ _ (ku n Jw _) h)=_
 rw [xa (xb _ _ _),xa (xb _ _ _),xa (xb _ _ _),xa (xb _ _ _),xa (xb _ _ _),Xe (xb _ _ _) (Ja rfl (by simp only [eval,Gf,Gj,Gn,R.ae,Jq,zg,Jd,R.ak,Ab1,Af,W.bY,FQ _ s t h];rfl)),Ga _ _ _ rfl]
def QL (k n s t) (h) (a:n<=4):call prog (k+5) "made" [.i n,.s Zf,.l (l2 s t)] h= .ok (.i (Wf.joinM n s t)) h:=by
 rw [Gb rfl _ _ _ rfl]
 simp only [jy]
 show Gw _ (execs _ _ (ku n Zf _) h)=_
 rw [xa (xb _ _ _),xa (xb _ _ _),xa (xb _ _ _),xa (xb _ _ _),xa (xb _ _ _),xa (xb _ _ _),Xe (xb _ _ _) (Ja rfl (by simp only [eval,Gf,Gj,Gn,R.ae,Jq,zg,Jd,R.ak,Ab1,Af,W.bY,JR _ n s t h (by lia)];rfl)),Ga _ _ _ rfl]
def JL (k n s) (h) (a:n<=4):call prog (k+5) "made" [.i n,.s xi,.l [.n s]] h= .ok (.i (Wf.bF n s)) h:=by
 rw [Gb rfl _ _ _ rfl]
 simp only [jy]
 show Gw _ (execs _ _ (ku n xi [.n s]) h)=_
 rw [xa (xb _ _ _),xa (xb _ _ _),xa (xb _ _ _),xa (xb _ _ _),xa (xb _ _ _),xa (xb _ _ _),xa (xb _ _ _),Xe (xb _ _ _) (Ja rfl (by simp only [eval,Gf,Gj,Gn,R.ae,Jq,F5,R.ak,Ab1,Af,W.bY,FY k n s h (by lia)];rfl)),Ga _ _ _ rfl]
def jJ (k n s) (h) (b:n<=4) (a:s<2 ^ (n*n)): ∃r,Wf.eX n s r/\call prog (k+5) "made" [.i n,.s Wh,.l [.n s]] h= .ok (.i r) h:=by
 obtain⟨r,c,e⟩:=AW (k+1) n s h b a
 refine⟨r,c,?_⟩
 rw [Gb rfl _ _ _ rfl]
 simp only [jy]
 rw [xa (xb _ _ _),xa (xb _ _ _),xa (xb _ _ _),xa (xb _ _ _),xa (xb _ _ _),xa (xb _ _ _),xa (xb _ _ _),xa (xb _ _ _),qa (Ja rfl (by assumption)),Ga _ _ _ rfl]
def DA (a:Gk F it τ h= .ok [] h):eval F (.comp tg one k aB it k9 c elt) τ h= .ok (.own []) h:=by
 rw [eval,a,R.ae,if_pos (show [].length<=bg from Af4 _)]
 rfl
def su (a:Gk F it τ h= .ok [d] h) (e:eval F elt (GC (Aa3 k y0++aB.map λj=>Gj τ j) 0 (.v d)) h= .ok (.v y) h):eval F (.comp [0] u0 k aB it k9 c elt) τ h= .ok (.own [y]) h:=by
 have b: [d].length<=bg:=by rw [Gg];simp
 rw [eval,a,R.ae,if_pos b]
 simp [Gy,e,R.ak]
def J3 (a:Gk F it τ h= .ok [d1,d2] h) (d:eval F elt (GC (Aa3 k y0++aB.map λj=>Gj τ j) 0 (.v d1)) h= .ok (.v y1) h) (e:eval F elt (GC (Aa3 k y0++aB.map λj=>Gj τ j) 0 (.v d2)) h= .ok (.v y2) h):eval F (.comp [0] u0 k aB it k9 c elt) τ h= .ok (.own [y1,y2]) h:=by
 have b: [d1,d2].length<=bg:=by rw [Gg];simp
 rw [eval,a,R.ae,if_pos b]
 simp [Gy,d,e,R.ak]
def Qo (f) (l:eval F e τ h= .ok (.i n) h) (m:n<=1000)
 (a: ∀i,i<n-> ∃w,eval F elt (si i::aB.map λj=>Gj τ j) h= .ok w h/\w.d=k0 (f i)):eval F (.comp [0] u0 1 aB (.ar e) k9 (.bl u0) elt) τ h= .ok (.own ((Aa8 n).map f)) h:=by
 rw [qk (λd=>match d with | .int i=>f i.toNat | d=>d) (Zt l (by lia)) (by simp;rw [Gg];lia)]
 ·simp [Function.comp_def]
 ·intro d k
  obtain⟨i,b,rfl⟩:=hV _ k
  obtain⟨w,c,g⟩:=a i b
  exact⟨_,rfl,w,c,by simpa using g⟩
def Qq (x y) (r:List D):aU (x::y::r) 1=k0 y:=by
 have:=jg (x::y::r) 1 (by simp)
 exact this
abbrev tb (n v:Nat) (a b:Nat):Bool:=v.testBit (a*n+b)
def q5 (n:Nat) (g:Nat->Nat->Bool) (a:Nat):Nat:=((Aa8 n).map λb=>(g a b).toNat).sum
theorem Qt (g): ∀l:List Nat,(l.filter g).length=(l.map λb=>(g b).toNat).sum
 | []=>rfl
 | x::l=>by
  have a:=Qt g l
  by_cases q:g x=u0
  ·rw [List.filter_cons_of_pos q,Aa7,Ab1,Al3,a,q];simp;omega
  ·have c:=by simpa using q
   rw [List.filter_cons_of_neg q,Ab1,Al3,a,c];simp
def WB (m n):Aa8 ((m+1)*n)=Aa8 (m*n)++(Aa8 n).map (m*n+ ·):=by
 rw [Nat.succ_mul,List.range_add]
def A8 {b:Nat}(a:b<n):(m*n+b) / n=m:=Wf.aF a
theorem pY (n v) (a): ∀m,((((Aa8 (m*n)).filter v.testBit).map (· / n)).count a)=if a<m then q5 n (tb n v) a else 0
 | 0=>by simp
 | m+1=>by
  have f:=pY n v a m
  rw [WB,List.filter_append,Ae3,List.count_append,f,An0,Ad6]
  have e:((Aa8 n).filter (v.testBit∘(m*n+ ·))).map ((· / n)∘(m*n+ ·))=Aa3 ((Aa8 n).filter (v.testBit∘(m*n+ ·))).length m:=by
   rw [List.eq_replicate_iff]
   refine⟨by simp,λx h=> ?_⟩
   obtain⟨b,d,rfl⟩:=Ab6.mp h
   exact A8 (Ab8.mp (Ai9.mp d).1)
  rw [e,List.count_replicate,Qt]
  by_cases q:a=m
  ·subst q
   simp [q5,tb]
  ·have g: ¬(m==a)=true:=by simp;exact λe=>q e.symm
   rw [if_neg g]
   by_cases c:a<m
   ·rw [if_pos c,if_pos (by omega)];omega
   ·rw [if_neg c,if_neg (by omega)]
def A0 (b:a<n):((Wf.ay n v).map (·.1)).count a=q5 n (tb n v) a:=by
 have:=pY n v a n
 rw [if_pos b]at this
 rw [← this,Wf.ay,Ad6]
 rfl
theorem jG (n v): ∀m,((Aa8 (m*n)).filter v.testBit).length=((Aa8 m).map (q5 n (tb n v))).sum
 | 0=>by simp
 | m+1=>by
  have a:=jG n v m
  rw [WB,List.filter_append,Aa5,a,An0,Aa,Qt,List.range_succ,Ae3,List.sum_append]
  simp [q5,tb]
def KU (n v):(Wf.ay n v).length=((Aa8 n).map (q5 n (tb n v))).sum:=by
 rw [Wf.ay,Aa,jG]
abbrev Za:Tx:= [108,101,97,115,116]
abbrev zc:Tx:= [109,111,115,116]
abbrev jb:Tx:= [101,97,99,104,108,101,97,115,116]
abbrev wh:Tx:= [101,97,99,104,109,111,115,116]
abbrev XF:Tx:= [105,110]
abbrev Zb:Tx:= [101,113,117,97,108]
abbrev xj:Tx:= [115,111,109,101]
abbrev Q0:Tx:= [110,111]
def wU (s a b) (h):Gr .mem (.s s) (.t [.str a,.str b]) h=k0 (y9 (s∈ [a,b])):=Qy s [a,b] (.t [.str a,.str b]) h rfl rfl
def ZA (n v:Nat):List Nat:=(Aa8 n).map (q5 n (tb n v))
def Xj (n v:Nat) (s:Tx):List Nat:=if s∈ [Za,zc]then [(ZA n v).sum]else ZA n v
theorem Q5: ∀l:List Nat,GM (aw l)=k0 (l.map λ(x:Nat)=>(x:Int))
 | []=>rfl
 | x::l=>by
  have:=Q5 l
  simp only [Ab1,GM]at this ⊢
  rw [this];rfl
def FX (l:List Nat) (a:Nat):(l.map λ(x:Nat)=>(x:Int)).count (a:Int)=l.count a:=by
 induction l with
 | nil=>rfl
 | cons x l b=>
  rw [Ab1,List.count_cons,List.count_cons,b]
  by_cases q:x=a
  ·simp [q]
  ·have: ¬(x=(a:Int)):=by lia
   simp [q,this]
def tX (k n v) (s) (i:n<=4) (h):call prog (k+2) "counts" [.i n,.s s,.i v] h= .ok (.own (aw (Xj n v s))) h:=by
 rw [Gb rfl _ _ _ rfl]
 simp only [tT]
 refine fx (by simp_all [zt k n v h (by omega)];rfl) ?_
 by_cases q:s∈ [Za,zc]
 ·rw [qa,Gu _ _ _ rfl]
  rw [Jr (h1:=h) (by simp_all [wU,decide_eq_true q])]
  refine qa (QA rfl ?_)
  simp only [eval,Gv,Gf,Gj,Gn,R.ae,JJ,W.mn,R.ak,Aa,KU]
  rw [Xj,if_pos q]
  rfl
 ·refine fx (by simp_all [wU,decide_eq_false q];rfl) ?_
  have e2:eval (u9 (k+1)) xB [si n,k0 (.s s),si v,k0 (.l ((Wf.ay n v).map pD)),y0] h= .ok (.own (aw ((Wf.ay n v).map (·.1)))) h:=by
   rw [xB,qk (λd=>match d with | .tup [x,_]=>x | d=>d) (by simp_all []) (WJ n v (by omega))]
   ·simp [pD,aw,Function.comp_def]
   ·intro d e
    obtain⟨p,_,rfl⟩:=Ab6.mp e
    exact⟨_,rfl,_,rfl,rfl⟩
  have e1:eval (u9 (k+1)) wC [si n,k0 (.s s),si v,k0 (.l ((Wf.ay n v).map pD)),k0 (.l (aw ((Wf.ay n v).map (·.1))))] h= .ok (.own (aw (ZA n v))) h:=by
   rw [wC,Qo (λa=> .n _) rfl (by omega) λa b=>⟨.i _,?_,rfl⟩]
   ·rw [aw,ZA,Ad6];rfl
   ·have f:((((Wf.ay n v).map (·.1)).map λ(x:Nat)=>(x:Int))).length<=bg:=by
     have:=WJ n v (show n<=20 by omega)
     simpa using this
    have c:mG .count (.l (aw ((Wf.ay n v).map (·.1)))) [.i a] h= .ok (.i (q5 n (tb n v) a)) h:=by
     show(R.of h ((k0 (aw ((Wf.ay n v).map (·.1)))).bind GM)).bind _=_
     rw [Ag0,Q5,R.ak,R.ae]
     show(R.of h (k0 (a:Int))).bind _=_
     rw [R.ak,R.ae,if_pos f,FX,A0 b]
    have g:mS .count (.l (aw ((Wf.ay n v).map (·.1)))) h=true:=rfl
    simp only [eval,Gf,Gj,Gn,Ab1,Af,R.ae,g,if_true,c]
  rw [za (τ1:= [si n,k0 (.s s),si v,k0 (.l ((Wf.ay n v).map pD)),k0 (.l (aw ((Wf.ay n v).map (·.1))))]) (by rw [exec,e2];rfl)]
  rw [qa (QA rfl e1),Gu _ _ _ rfl,Xj,if_neg q]
inductive Fc where
 | du (a b:Ex)
 | dJ (a b:Ex)
 | dX (a:Ex)
 | aj (a:Ex)
 | cnt (s:Tx) (k:Nat) (a:Ex)
def dk:Fc->D
 | .du a b=> .tup [.str XF,aT a,aT b]
 | .dJ a b=> .tup [.str Zb,aT a,aT b]
 | .dX a=> .tup [.str xj,aT a]
 | .aj a=> .tup [.str Q0,aT a]
 | .cnt s k a=> .tup [.str s,.n k,aT a]
def Fc.wf (N:List Tx):Fc->Prop
 | .du a b=>a.wf N/\b.wf N
 | .dJ a b=>a.wf N/\b.wf N
 | .dX a=>a.wf N
 | .aj a=>a.wf N
 | .cnt s _ a=>s∈ [Za,zc,jb,wh]/\a.wf N
def Fc.dp:Fc->Nat
 | .du a b=>max a.dp b.dp
 | .dJ a b=>max a.dp b.dp
 | .dX a=>a.dp
 | .aj a=>a.dp
 | .cnt _ _ a=>a.dp
theorem oO: ∀bs:List Bool,Kl (bs.map .bl)=k0 bs
 | []=>rfl
 | b::bs=>by simp [Kl,oO bs]
def Xz {bs:List Bool}(q:eval F e τ h= .ok (.own (bs.map .bl)) h):eval F (.bi .all (.cons e .nil)) τ h= .ok (.b (bs.all id)) h:=by
 rw [eval,Gf,q]
 simp [oO,R.ak]
def mY (p) (l:List α):(l.map p).all id=l.all p:=by
 rw [An1];rfl
theorem qQ: ∀l:List Nat,Kj (aw l)=k0 ((l.sum:Nat):Int)
 | []=>rfl
 | x::l=>by
  have:=qQ l
  simp only [Ab1,Kj]at this ⊢
  rw [this,Al3]
  simp
def Mq :eval F (.neg (.int 1)) τ h= .ok (.v (.int (-1))) h:=rfl
def yl (x y:D):aU [x,y] (-1)=k0 y:=rfl
def QT (x y z:D):aU [x,y,z] (-1)=k0 z:=rfl
def sg (s:Tx) (k:Nat) (l:List Nat):Bool:=if s∈ [Za,jb]then l.all λx=>y9 (k<=x)else l.all λx=>y9 (x<=k)
def WD (x y z:D):aU [x,y,z] 2=k0 z:=rfl
def zk (X)(e:Gn τ i=k0 (.s s)):Gm F (.cmp .eq (.var i) (.str X)) τ h= .ok (s==X) h:=by
 simp only [Gm,eval,Gj,e,R.ae,Xa,R.ak,GO]
structure V (n v:Nat) (g:Nat->Nat->Bool):Prop where
 lt:v<2 ^ (n*n)
 bit: ∀a b,a<n->b<n->(v.testBit (a*n+b)=u0↔g a b=u0)
section
variable {n s t:Nat}{g f:Nat->Nat->Bool}
def V.plus (h:V n s g) (q:V n t f):V n (s ||| t) λa b=>g a b||f a b:=⟨ny h.1 q.1,λa b c d=>by
 rw [Ae9,Ae6,h.2 a b c d,q.2 a b c d,Ae6]⟩
def V.both (h:V n s g) (q:V n t f):V n (s &&& t) λa b=>g a b&&f a b:=⟨Nat.and_lt_two_pow s q.1,λa b c d=>by
 rw [Ah1,Aa0,h.2 a b c d,q.2 a b c d,Aa0]⟩
def V.less (h:V n s g) (q:V n t f):V n (s-(s &&& t)) λa b=>g a b&& !f a b:=⟨Ah6 (Ao7 _ _) h.1,λa b c d=>by
 have e:=An2.mpr (q.2 a b c d)
 rw [Wf.aP,Aa0,h.2 a b c d,e,Aa0]⟩
def V.turned (h:V n s g):V n (Wf.bF n s) λa b=>g b a:=⟨Wf.fh _ _,λa b d c=>by
 rw [Wf.eQ (Wf.place_lt d c),Wf.aF c,Wf.aK c,h.2 b a c d]⟩
def V.joined (h:V n s g) (q:V n t f):V n (Wf.joinM n s t) λa b=>(Aa8 n).any λc=>g a c&&f c b:=⟨Wf.c4 _ _ _,λa b j i=>by
 rw [Wf.b5 (Wf.place_lt j i),Wf.cF i,Ad1,Ad1]
 constructor
 ·rintro ⟨c,e,z⟩
  have d:=Ab8.mp e
  rw [Aa0]at z
  exact⟨c,e,by rw [Aa0];exact⟨(h.2 a c j d).mp z.1,(q.2 c b d i).mp z.2⟩⟩
 ·rintro ⟨c,e,z⟩
  have d:=Ab8.mp e
  rw [Aa0]at z
  exact⟨c,e,by rw [Aa0];exact⟨(h.2 a c j d).mpr z.1,(q.2 c b d i).mpr z.2⟩⟩⟩
def V.closed (h:V n s g)(q:Wf.eX n s r):V n r (Wf.wr g n):=⟨q.lt,λa b c d=>(q.bit a b c d).trans (Wf.iz (λx y e f=>(h.2 x y e f).symm) c d).symm⟩
end
abbrev ZV (s:Tx):Nat->Nat->Bool:=λa b=>(s==Zn)||((s==xg)&&y9 (a=b))
abbrev bX (a b:Wo):D:= .tup [a.aI,b.aI]
structure Pt (a b:Wo):Prop where
 oG:a.Ok
 BD:b.Ok
 en:b.n=a.n
 eK:b.K=a.K
 eT:b.T=a.T
def Pt.ew (p:Pt a b):b.words=a.words:=by rw [Wo.words,Wo.words,p.eK,p.eT]
abbrev fH (a b:Wo) (d:D) (s:Tx) (e c f h g:Option W):Sl:= [sv a.words,sv (bX a b),sv d,k0 (.s s),e,c,f,h,g]
abbrev aZ (v u:Nat):D:= .tup [.n v,.n u]
section
variable {m:Nat}{a b:Wo}{h:AH}
def q9 :Gk F (.seq (.fu .v2 (.int 1))) (fH a b (.tup (s::ds)) z x4 x5 x6 x7 x8) h= .ok ds h:=by
 have e:cut (s::ds) (k0 1) y0=ds:=zX (s::ds) 1
 refine Fo ?_
 show(if aY (s::ds).length 0 (k0 1)=0/\aY (s::ds).length (s::ds).length y0=(s::ds).length then R.fail else R.ok _ h)=_
 rw [if_neg (λc=>by have:=c.1;simp [aY]at this),e]
def qv (q:call prog m "bounds" [.v a.words,.v (bX a b),.v d] h= .ok (.v y) h):eval (u9 m) (.call "bounds" (.c .v1 .v2 .v0)) (GC (List.replicate 1 none++ [0,1].map fun j=>Gj (fH a b v z x4 x5 x6 x7 x8) j) 0 (.v d)) h= .ok (.v y) h:=by simp_all
def sI {s:Tx}{ds:List D}{x:W}(f:(s==Qg)=k9){ps:List (Nat×Nat)}(i:ps.length<=2)
 (h1:eval (u9 m) Xt (fH a b (.tup (.str s::ds)) s y0 y0 y0 y0 y0) h= .ok (.own (ps.map pD)) h){d:D}
 (q:execs (u9 m) (match bB.body with | .cons _ (.cons _ (.cons _ (.cons _ (.cons _ r))))=>r | r=>r) (fH a b (.tup (.str s::ds)) s y0 (k0 (.l (ps.map pD))) (k0 (.l (aw (ps.map (·.1))))) (k0 (.l (aw (ps.map (·.2))))) y0) h= .ret (.v d) h):
 call prog (m+1) "bounds" [.v a.words,.v (bX a b),.t (.str s::ds)] h= .ok (.v d) h:=by
 rw [Gb (d:=bB) rfl _ _ _ rfl]
 simp only [bB]at q ⊢
 refine fx (by simp_all [aa,Ze];rfl) ?_
 rw [xa (by simp_all [Xa,f])]
 have e:(ps.map pD).length<=bg:=by rw [Gg];simp;omega
 rw [za (τ1:=fH a b _ s y0 _ y0 y0 y0) (h1:=h) (by rw [exec,h1];rfl)]
 have e2:eval (u9 m) wA (fH a b (.tup (.str s::ds)) s y0 (k0 (.l (ps.map pD))) y0 y0 y0) h= .ok (.own (aw (ps.map (·.1)))) h:=by
  rw [wA,qk (h:=h) (ds:=ps.map pD) (λd=>match d with | .tup [x,_]=>x | d=>d) (by simp_all []) e]
  ·simp [pD,aw,Function.comp_def]
  ·intro d c
   obtain⟨p,_,rfl⟩:=Ab6.mp c
   exact⟨_,rfl,_,rfl,rfl⟩
 rw [za (τ1:=fH a b _ s y0 _ _ y0 y0) (h1:=h) (by rw [exec,e2];rfl)]
 have g:eval (u9 m) qD (fH a b (.tup (.str s::ds)) s y0 (k0 (.l (ps.map pD))) (k0 (.l (aw (ps.map (·.1))))) y0 y0) h= .ok (.own (aw (ps.map (·.2)))) h:=by
  rw [qD,qk (h:=h) (ds:=ps.map pD) (λd=>match d with | .tup [_,x]=>x | d=>d) (by simp_all []) e]
  ·simp [pD,aw,Function.comp_def]
  ·intro d c
   obtain⟨p,_,rfl⟩:=Ab6.mp c
   exact⟨_,rfl,_,rfl,rfl⟩
 rw [za (τ1:=fH a b _ s y0 _ _ _ y0) (h1:=h) (by rw [exec,g];rfl)]
 rw [q,Ga _ _ _ rfl]
def jB {s:Tx}{ds:List D}(d:(s==Qg)=k9) (c:(s==qp)=k9){ps:List (Nat×Nat)}(f:ps.length<=2){v u:Nat}
 (h1:eval (u9 m) Xt (fH a b (.tup (.str s::ds)) s y0 y0 y0 y0 y0) h= .ok (.own (ps.map pD)) h)
 (e:call prog m "made" [.i a.n,.s s,.l (aw (ps.map (·.1)))] h= .ok (.i v) h) (g:call prog m "made" [.i a.n,.s s,.l (aw (ps.map (·.2)))] h= .ok (.i u) h):
 call prog (m+1) "bounds" [.v a.words,.v (bX a b),.t (.str s::ds)] h= .ok (.v (aZ v u)) h:=by
 refine sI (x:= .v .aj) d f h1 ?_
 simp only [bB]
 rw [xa (by simp_all [Xa,c])]
 have i:dF (.v (bX a b)) (.v (.int 0)) h=k0 a.aI:=rfl
 have e1:dF (.v a.aI) (.v (.int 0)) h=k0 _:=rfl
 refine(za (by simp_all [e1];rfl)).trans ?_
 rw [qa (Ja rfl (by simp_all [e,g];rfl))]
def Ax 
 (h1:eval (u9 (k+1)) Xt (fH a b (.tup (.str qp::ds)) qp y0 y0 y0 y0 y0) h= .ok (.own ([(s,s'),(t,t')].map pD)) h):
 call prog (k+2) "bounds" [.v a.words,.v (bX a b),.t (.str qp::ds)] h= .ok (.v (aZ (s-(s &&& t')) (s'-(s' &&& t)))) h:=by
 refine sI (x:= .v .aj) rfl (by simp) h1 ?_
 refine qa ((Jr (h1:=h) ?_).trans (qa (Ja rfl ?_)))
 ·simp_all [Xa];rfl
 ·simp_all [Jq,zg,Jd,qy k s t' h,qy k s' t h]
end
abbrev wK:Tx:= [110,111,116]
abbrev Zw:Tx:= [97,110,100]
abbrev Qx:Tx:= [111,114]
inductive Sy where
 | fact (f:Fc)
 | neg (a:Sy)
 | cg (a b:Sy)
 | cj (a b:Sy)
def aC:Sy->D
 | .fact f=>dk f
 | .neg a=> .tup [.str wK,aC a]
 | .cg a b=> .tup [.str Zw,aC a,aC b]
 | .cj a b=> .tup [.str Qx,aC a,aC b]
def Sy.wf (N:List Tx):Sy->Prop
 | .fact f=>f.wf N
 | .neg a=>a.wf N
 | .cg a b=>a.wf N/\b.wf N
 | .cj a b=>a.wf N/\b.wf N
def Sy.dp:Sy->Nat
 | .fact f=>f.dp
 | .neg a=>a.dp+1
 | .cg a b=>max a.dp b.dp+1
 | .cj a b=>max a.dp b.dp+1
def F4 (f) (wf:f.wf N): ∃s ds,dk f= .tup (.str s::ds)/\(s==wK)=k9/\(s==Zw)=k9/\(s==Qx)=false:=by
 cases f with
 | du a b=>exact⟨XF,_,rfl,rfl,rfl,rfl⟩
 | dJ a b=>exact⟨Zb,_,rfl,rfl,rfl,rfl⟩
 | dX a=>exact⟨xj,_,rfl,rfl,rfl,rfl⟩
 | aj a=>exact⟨Q0,_,rfl,rfl,rfl,rfl⟩
 | cnt s j a=>
  have: ∀s∈ [Za,zc,jb,wh],(s==wK)=k9/\(s==Zw)=k9/\(s==Qx)=false:=by decide
  exact⟨s,_,rfl,this s wf.1⟩
def aG:Option Bool->D
 | none=> .aj
 | some b=> .bl b
def JT (a b:Bool):Option Bool:=if a then k0 u0 else if b then k0 k9 else y0
def X8 (r q:Option Bool):Option Bool:=JT (r==k0 u0&&q==k0 u0) (r==k0 k9||q==k0 k9)
def e6 (r q:Option Bool):Option Bool:=JT (r==k0 u0||q==k0 u0) (r==k0 k9&&q==k0 k9)
def wn (k) (a b) (h):call prog (k+1) "settled" [.b a,.b b] h= .ok (.v (aG (JT a b))) h:=by
 rw [Gb rfl _ _ _ rfl]
 simp [JY]
 cases a
 ·cases b
  ·simp_all []
   rfl
  ·simp_all []
   rfl
 ·simp_all []
  rfl
def Bc (r) (b):Ku (.v (aG r)) (.b b)=k0 (r==k0 b):=by
 cases r with
 | none=>rfl
 | some c=>cases c<;>cases b<;>rfl
def ky (r) (b) (h):Gr .cR (.v (aG r)) (.b b) h=k0 (r==k0 b):=Bc r b
section
variable {k:Nat}{r q:Option Bool}{h:AH}
def Hm:call prog (k+2) "not_told" [.v (aG r)] h= .ok (.v (aG (r.map (!·)))) h:=by
 rw [Gb rfl _ _ _ rfl]
 simp only [xO]
 rw [qa (Ja (d:=aG (JT (r==k0 k9) (r==k0 u0))) (h1:=h) rfl (by simp_all [ky,wn])),Ga _ _ _ rfl]
 cases r with
 | none=>rfl
 | some c=>cases c<;>rfl
def km (h1:eval F e τ h= .ok (.b a) h) (c:eval F f τ h= .ok (.b b) h):eval F (.or e f) τ h= .ok (.b (a||b)) h:=by
 rw [eval,h1]
 cases a
 ·simp [c,Bool.false_or]
 ·simp [Am]
def WW (h1:eval F e τ h= .ok (.b a) h) (c:eval F f τ h= .ok (.b b) h):eval F (.and e f) τ h= .ok (.b (a&&b)) h:=by
 rw [eval,h1]
 cases a
 ·simp [Ae8]
 ·simp [c,Ae1]
def ZE (b) (e:Gj τ i=sv (aG r)):eval F (.cmp .cR (.var i) (.bl b)) τ h= .ok (.b (r==k0 b)) h:=by
 simp [e,ky,R.ak]
def WN:call prog (k+2) "and_told" [.v (aG r),.v (aG q)] h= .ok (.v (aG (X8 r q))) h:=by
 rw [Gb rfl _ _ _ rfl]
 simp only [wN]
 show Gw _ (execs _ _ [sv _,sv _] h)=_
 have e1:=WW (F:=(u9 (k+1))) (ZE (h:=h) (τ:= [sv (aG r),sv (aG q)]) (i:=0) u0 rfl) (ZE (i:=1) u0 rfl)
 have e2:=km (F:=(u9 (k+1))) (ZE (h:=h) (τ:= [sv (aG r),sv (aG q)]) (i:=0) k9 rfl) (ZE (i:=1) k9 rfl)
 rw [qa (Ja (d:=aG (X8 r q)) rfl (by
  rw [eval,Gf,e1,R.ae,Gf,e2]
  simp only [R.ae,Gf,Ab1,Af,W.bY,wn]
  rfl)),Ga _ _ _ rfl]
def Iu:call prog (k+2) "or_told" [.v (aG r),.v (aG q)] h= .ok (.v (aG (e6 r q))) h:=by
 rw [Gb rfl _ _ _ rfl]
 simp only [j4]
 show Gw _ (execs _ _ [sv _,sv _] h)=_
 have e1:=km (F:=(u9 (k+1))) (ZE (h:=h) (τ:= [sv (aG r),sv (aG q)]) (i:=0) u0 rfl) (ZE (i:=1) u0 rfl)
 have e2:=WW (F:=(u9 (k+1))) (ZE (h:=h) (τ:= [sv (aG r),sv (aG q)]) (i:=0) k9 rfl) (ZE (i:=1) k9 rfl)
 rw [qa (Ja (d:=aG (e6 r q)) rfl (by
  rw [eval,Gf,e1,R.ae,Gf,e2]
  simp only [R.ae,Gf,Ab1,Af,W.bY,wn]
  rfl)),Ga _ _ _ rfl]
end
def xA {bs:List Bool}(q:eval F e τ h= .ok (.own (bs.map .bl)) h):eval F (.bi .any (.cons e .nil)) τ h= .ok (.b (bs.any id)) h:=by
 rw [eval,Gf,q]
 simp [oO,R.ak]
def nO (p) (l:List α):(l.map p).any id=l.any p:=by
 rw [Ao9];rfl
def Mf (n) (h):Gr .ne (.i n) (.v (.int 0)) h=k0 (!y9 (n=0)):=by
 have this:Gr .eq _ (.v (.int 0)) h=k0 _:=zn n 0 h
 rw [Ea]at this
 rw [Me]
 split at this
 ·rename_i c
  rw [if_pos c]
  have:=Ad5.inj this
  rw [← this]
 ·cases this
def w5 (n) (h):Gr .eq (.i n) (.v (.int 0)) h=k0 (y9 (n=0)):=zn n 0 h
def dC (v u a b:Nat):Option Bool:=JT (y9 (u-(u &&& a)=0)) (!y9 (v-(v &&& b)=0))
def ZW (k v u v' u') (h):call prog (k+2) "in_told" [.v (aZ v u),.v (aZ v' u')] h= .ok (.v (aG (dC v u v' u'))) h:=by
 rw [Gb rfl _ _ _ rfl]
 simp only [X0]
 rw [qa (Ja (d:=aG (dC v u v' u')) rfl (by simp_all [aa,zg,Jd,qy k u v' h,qy k v u' h,w5,Mf,wn];rfl)),Ga _ _ _ rfl]
noncomputable def XL (s:Tx) (j:Nat) (l u:List Nat):Option Bool:=if s∈ [Za,jb]then JT (l.all λx=>y9 (j<=x)) (u.any λx=>y9 (x<j))else JT (u.all λx=>y9 (x<=j)) (l.any λx=>y9 (j<x))
def lY (p) (k:l.length<=4) (e:Gj τ i=k0 (.l (aw l))) (f:Gj τ c=si j) (a: ∀x:Nat,Gr o (.i x) (.i j) h=k0 (p x)):
 eval F (.comp [0] u0 1 [c] (.seq (.var i)) k9 (.bl u0) (.cmp o .v0 .v1)) τ h= .ok (.own ((l.map p).map .bl)) h:=by
 have b:Gk F (.seq (.var i)) τ h= .ok (aw l) h:=by
  simp [e,R.ae]
 rw [qk (λd=>match d with | .int x=> .bl (p x.toNat) | d=>d) b (by rw [Gg,aw,Aa];lia)]
 ·simp [Function.comp_def]
 ·intro m g
  obtain⟨x,_,rfl⟩:=Ab6.mp g
  refine⟨[si x,si j],by simp only [Ab1,f];rfl,.b (p x),?_,by simp⟩
  simp_all [a]
def tf (j x) (h):Gr .le (.i x) (.i j) h=k0 (y9 (x<=j)):=by
 rw [W3];congr 1;exact decide_eq_decide.mpr (by lia)
def vM (j x) (h):Gr .ge (.i x) (.i j) h=k0 (y9 (j<=x)):=by
 rw [Hi];congr 1;exact decide_eq_decide.mpr (by lia)
def mW (j x) (h):Gr .lt (.i x) (.i j) h=k0 (y9 (x<j)):=by
 rw [jZ];congr 1;exact decide_eq_decide.mpr (by omega)
def gw (j x) (h):Gr .gt (.i x) (.i j) h=k0 (y9 (j<x)):=by
 rw [K3];congr 1;exact decide_eq_decide.mpr (by omega)
def uR (n v) (s) (a:n<=4):(Xj n v s).length<=4:=by
 rw [Xj]
 split
 ·simp
 ·simp [ZA];omega
abbrev lW (n:Nat) (s:Tx) (j v u:Nat) (b a:Option W):Sl:= [si n,k0 (.s s),si j,sv (aZ v u),b,a]
def qs (k n) (s) (j v u) (a:n<=4) (h):call prog (k+3) "count_told" [.i n,.s s,.i j,.v (aZ v u)] h= .ok (.v (aG (XL s j (Xj n v s) (Xj n u s)))) h:=by
 rw [Gb rfl _ _ _ rfl]
 simp only [QE]
 refine fx (by simp_all [aa,zg,tX k n v s a h];rfl) ?_
 refine fx (by simp_all [aa,Jd,tX k n u s a h];rfl) ?_
 have e:=uR n v s a
 have b:=uR n u s a
 rw [XL]
 by_cases q:s∈ [Za,jb]
 ·have e1:=lY (F:=(u9 (k+2))) (τ:=lW n s j v u (k0 (.l _)) (k0 (.l (aw (Xj n u s))))) (i:=4) (c:=2) _ e rfl rfl λx=>vM j x h
  have e2:=lY (F:=(u9 (k+2))) (τ:=lW n s j v u (k0 (.l (aw (Xj n v s)))) (k0 (.l _))) (i:=5) (c:=2) (h:=h) _ b rfl rfl λx=>mW j x h
  rw [if_pos q,Xe (by simp_all [wU,decide_eq_true q]) (Ja (d:=aG (JT ((Xj n v s).all λx=>y9 (j<=x)) ((Xj n u s).any λx=>y9 (x<j)))) rfl (by
   rw [eval,Gf,Ju,Xz e1,R.ae,Gf,Wu,xA e2,mY,nO]
   simp only [R.ae,Gf,Ab1,Af,W.bY,wn])),Ga _ _ _ rfl]
 ·have e1:=lY (F:=(u9 (k+2))) (τ:=lW n s j v u (k0 (.l (aw (Xj n v s)))) (k0 (.l (aw (Xj n u s))))) (i:=5) (c:=2) (o:= .le) (h:=h) _ b rfl rfl λx=>tf j x h
  have e2:=lY (F:=(u9 (k+2))) (τ:=lW n s j v u (k0 (.l (aw (Xj n v s)))) (k0 (.l (aw (Xj n u s))))) (i:=4) (c:=2) (o:= .gt) (h:=h) _ e rfl rfl λx=>gw j x h
  rw [if_neg q,xa (by simp_all [wU,decide_eq_false q]),qa (Ja (d:=aG (JT ((Xj n u s).all λx=>y9 (x<=j)) ((Xj n v s).any λx=>y9 (j<x)))) (h1:=h) rfl (by
   rw [eval,Gf,wu,Xz e1,R.ae,Gf,jv,xA e2,mY,nO]
   simp only [R.ae,Gf,Ab1,Af,W.bY,wn])),Ga _ _ _ rfl]
noncomputable abbrev ua (a b:Wo) (d:D) (s:Tx) (v u:Nat) (c:Option W):Sl:= [sv a.words,sv (bX a b),sv d,k0 (.s s),si a.n,sv (aZ v u),c]
section
variable {k m:Nat}{a b:Wo}{h:AH}{v u v' u':Nat}{e e':Ex}
def wy (f:aU (.str s::ds) (-1)=k0 (aT e)) (c:call prog m "bounds" [.v a.words,.v (bX a b),.v (aT e)] h= .ok (.v (aZ v u)) h)
 (q:execs (u9 m) (match aS.body with | .cons _ (.cons _ (.cons _ r))=>r | r=>r) (ua a b (.tup (.str s::ds)) s v u y0) h= .ret (.v d) h):call prog (m+1) "fact_told" [.v a.words,.v (bX a b),.t (.str s::ds)] h= .ok (.v d) h:=by
 rw [Gb rfl _ _ _ rfl]
 simp only [aS]at q ⊢
 have i0:dF (.v (bX a b)) (.v (.int 0)) h=k0 a.aI:=rfl
 have i1:dF (.v a.aI) (.v (.int 0)) h=k0 _:=rfl
 refine fx (by simp_all [aa,Ze];rfl) ?_
 refine fx (by simp_all [i1];rfl) ?_
 rw [za (τ1:=ua a b (.tup (.str s::ds)) s v u y0) (h1:=h) (by simp_all [aa,f,c]),q,Ga _ _ _ rfl]
variable (n4:a.n<=4) (e1:call prog (k+3) "bounds" [.v a.words,.v (bX a b),.v (aT e)] h= .ok (.v (aZ v u)) h) (e2:call prog (k+3) "bounds" [.v a.words,.v (bX a b),.v (aT e')] h= .ok (.v (aZ v' u')) h)
include n4 e1
def FH:call prog (k+4) "fact_told" [.v a.words,.v (bX a b),.v (dk (.dX e))] h= .ok (.v (aG (XL Za 1 (Xj a.n v Za) (Xj a.n u Za)))) h:=by
 refine wy (yl _ _) e1 ?_
 have c:=qs k a.n Za 1 v u n4 h
 have c:=c
 simp only [aS]
 rw [Xe (zk (s:=xj) _ rfl) (Ja rfl (by assumption))]
def C5:call prog (k+4) "fact_told" [.v a.words,.v (bX a b),.v (dk (.aj e))] h= .ok (.v (aG (XL zc 0 (Xj a.n v zc) (Xj a.n u zc)))) h:=by
 refine wy (yl _ _) e1 ?_
 have c:=qs k a.n zc 0 v u n4 h
 have c:=c
 simp only [aS]
 rw [xa (zk (s:=Q0) _ rfl),Xe (zk (s:=Q0) _ rfl) (Ja rfl (by assumption))]
def B5 (d:s∈ [Za,zc,jb,wh]):call prog (k+4) "fact_told" [.v a.words,.v (bX a b),.v (dk (.cnt s j e))] h= .ok (.v (aG (XL s j (Xj a.n v s) (Xj a.n u s)))) h:=by
 refine wy (QT _ _ _) e1 ?_
 have c:=qs k a.n s j v u n4 h
 have ne:=by
  have: ∀s∈ [Za,zc,jb,wh],(s==xj)=k9/\(s==Q0)=k9/\(s==XF)=k9/\(s==Zb)=false:=by decide
  exact this s d
 simp only [aS]
 rw [xa ((zk _ rfl).trans (by rw [ne.1])),xa ((zk _ rfl).trans (by rw [ne.2.1])),xa ((zk _ rfl).trans (by rw [ne.2.2.1])),xa ((zk _ rfl).trans (by rw [ne.2.2.2])),qa (Ja rfl (by assumption))]
include e2
theorem Dq:call prog (k+4) "fact_told" [.v a.words,.v (bX a b),.v (dk (.du e' e))] h= .ok (.v (aG (dC v' u' v u))) h:=by
 refine wy (QT _ _ _) e1 ?_
 simp only [aS]
 rw [xa (zk (s:=XF) _ rfl),xa (zk (s:=XF) _ rfl),Xe (zk (s:=XF) _ rfl) (Ja rfl (by simp_all [aa,Qq,e2,ZW];rfl))]
theorem Cc:call prog (k+4) "fact_told" [.v a.words,.v (bX a b),.v (dk (.dJ e' e))] h= .ok (.v (aG (X8 (dC v' u' v u) (dC v u v' u')))) h:=by
 refine wy (QT _ _ _) e1 ?_
 simp only [aS]
 rw [xa (zk (s:=Zb) _ rfl),xa (zk (s:=Zb) _ rfl),xa (zk (s:=Zb) _ rfl)]
 refine qa ((Jr (zk (s:=Zb) _ rfl)).trans ?_)
 refine(za (by simp_all [aa,Qq,e2];rfl)).trans ?_
 exact qa (Ja rfl (by simp_all [ZW,WN]))
end
def V.leaf :V n (Wf.bA n) (ZV xg)/\V n (2 ^ (n*n)-1) (ZV Zn)/\V n 0 (ZV zh):=by
 refine⟨⟨Wf.fy _,λa b c d=> ?_⟩,⟨Nat.sub_lt (Ad _) (by decide),λa b c d=> ?_⟩,⟨Ad _,λa b c d=> ?_⟩⟩
 ·rw [Wf.d8 c d,decide_eq_true_eq]
  show _↔(k9||(u0&&decide _))=u0
  simp
 ·rw [Ag1,decide_eq_true (Wf.place_lt c d)]
  show _↔(u0||(k9&&decide _))=u0
  simp
 ·rw [Af9]
  show _↔(k9||(k9&&decide _))=u0
  simp
noncomputable def bf (w:Wo) (t:Tx) (x y:Nat):Bool:=if t∈w.T then(w.ts.getD (cY t w.T) 0).testBit (x*w.n+y)else y9 (x=y)&&(w.ks.getD (cY t w.K) 0).testBit x
def p5 (w) (t) (x y):bf w t x y=u0↔zev w (.name t) x y:=by
 show _↔w.at t x y
 unfold bf Wo.at
 split
 ·exact Iff.rfl
 ·rw [Aa0,decide_eq_true_eq]
def bt (a b:Wo):Bool->Ex->Nat->Nat->Bool
 | false,.name t=>bf a t
 | true,.name t=>bf b t
 | _,.same=>ZV xg
 | _,.all=>ZV Zn
 | _,.none=>ZV zh
 | p,.turned e=>λx y=>bt a b p e y x
 | p,.closed e=>Wf.wr (bt a b p e) a.n
 | p,.plus e f=>λx y=>bt a b p e x y||bt a b p f x y
 | p,.less e f=>λx y=>bt a b p e x y&& !bt a b (!p) f x y
 | p,.both e f=>λx y=>bt a b p e x y&&bt a b p f x y
 | p,.joined e f=>λx y=>(Aa8 a.n).any λc=>bt a b p e x c&&bt a b p f c y
def HQ (w): ∀ e p,bt w w p e=bt w w u0 e:=by
 intro e
 induction e with
 | name t=>intro p;cases p<;>rfl
 | turned e b=>intro p;simp [bt,b p]
 | closed e b=>intro p;simp [bt,b p]
 | plus e f b a=>intro p;simp [bt,b p,a p]
 | less e f b a=>intro p;simp [bt,b p,a _]
 | both e f b a=>intro p;simp [bt,b p,a p]
 | joined e f b a=>intro p;simp [bt,b p,a p]
 | _=>intro p;cases p<;>rfl
structure Le (a c:Wo):Prop where
 en:c.n=a.n
 nm: ∀t x y,bf a t x y=u0->bf c t x y=u0
def Le.refl (a):Le a a:=⟨rfl,λ_ _ _ h=>h⟩
theorem kN (h: ∀x y,g x y=u0->g' x y=u0): ∀k x y,Wf.wr g k x y=u0->Wf.wr g' k x y=u0
 | 0,x,y,z=>h x y z
 | k+1,x,y,z=>by
  rw [Wf.wr,Ae6,Aa0]at z ⊢
  exact z.elim (λz=> .inl (kN h k x y z)) λz=> .inr ⟨kN h k _ _ z.1,kN h k _ _ z.2⟩
def rl (h: ∀c,f c=u0->g c=u0) (l:List Nat) (z:l.any f=u0):l.any g=true:=by
 rw [Ad1]at z ⊢
 exact let ⟨c,a,b⟩:=z; ⟨c,a,h c b⟩
def jR (L:Le a a') (h:Le b' b): ∀ e x y,(bt a b k9 e x y=u0->bt a' b' k9 e x y=u0)/\(bt a' b' u0 e x y=u0->bt a b u0 e x y=u0):=by
 intro e
 induction e with
 | name t=>exact λx y=>⟨L.nm t x y,h.nm t x y⟩
 | same=>exact λx y=>⟨id,id⟩
 | all=>exact λx y=>⟨id,id⟩
 | none=>exact λx y=>⟨id,id⟩
 | turned e g=>exact λx y=>g y x
 | closed e g=>
  intro x y
  simp [bt,L.en]
  exact⟨kN (λx y=>(g x y).1) _ x y,kN (λx y=>(g x y).2) _ x y⟩
 | plus e f g d=>
  intro x y
  simp [bt,Ae6]
  exact⟨λz=>z.elim (λz=> .inl ((g x y).1 z)) λz=> .inr ((d x y).1 z),λz=>z.elim (λz=> .inl ((g x y).2 z)) λz=> .inr ((d x y).2 z)⟩
 | less e f g d=>
  intro x y
  simp only [bt,Aa0,Ag4,←Ap2]
  exact⟨λz=>⟨(g x y).1 z.1,λq=>z.2 ((d x y).2 q)⟩,λz=>⟨(g x y).2 z.1,λq=>z.2 ((d x y).1 q)⟩⟩
 | both e f g d=>
  intro x y
  simp only [bt,Aa0]
  exact⟨λz=>⟨(g x y).1 z.1,(d x y).1 z.2⟩,λz=>⟨(g x y).2 z.1,(d x y).2 z.2⟩⟩
 | joined e f g d=>
  intro x y
  simp only [bt,L.en]
  exact⟨rl (λc z=>by rw [Aa0]at z ⊢;exact⟨(g x c).1 z.1,(d c y).1 z.2⟩) _,rl (λc z=>by rw [Aa0]at z ⊢;exact⟨(g x c).2 z.1,(d c y).2 z.2⟩) _⟩
def Sub (v w:Nat):Prop:= ∀k,v.testBit k=u0->w.testBit k=u0
def V.sub (h:V n v g) (q:V n w f) (d: ∀x y,g x y=u0->f x y=u0):Sub v w:=λk z=>by
 by_cases a:k<n*n
 ·have b:=h.2 _ _ (Wf.bb a) (Wf.aV a)
  have c:=q.2 _ _ (Wf.bb a) (Wf.aV a)
  rw [Wf.bp]at b c
  exact c.mpr (d _ _ (b.mp z))
 ·rw [Ai8 (Ab4 h.1 (Ac9 (by decide) (Nat.not_lt.mp a)))]at z
  cases z
def Sub.and (h:Sub v w):v &&& w=v:=Aj8 λk=>by
 rw [Ah1]
 cases q:v.testBit k with
 | false=>rfl
 | true=>rw [h k q];rfl
def sub_zero :v-(v &&& w)=0↔Sub v w:=by
 refine⟨λh k z=> ?_,λh=>by rw [h.and,Ap]⟩
 have e:=congrArg (·.testBit k) h
 simp [Wf.aP,z,Ae1]at e
 simpa using e
structure B (a b:Wo) (e:Ex) (v u:Nat):Prop where
 lo:V a.n v (bt a b k9 e)
 hi:V a.n u (bt a b u0 e)
section
variable {a b a' b':Wo}{e:Ex}{v u w z:Nat}
def B.mono (h:B a b e v u) (q:B a' b' e w z) (L:Le a a') (c:Le b' b):Sub v w/\Sub z u:=
 ⟨V.sub h.lo (L.en▸q.lo) λx y=>(jR L c e x y).1,V.sub (L.en▸q.hi) h.hi λx y=>(jR L c e x y).2⟩
def B.in (h:B a b e v u) (L:Le a b):Sub v u:=V.sub h.lo h.hi λx y q=>(jR (Le.refl a) L e x y).2 (HQ a e k9▸(jR (Le.refl a) L e x y).1 q)
end
def jK (h:a=u0->a'=u0) (q:b=u0->b'=u0) (n:a'=u0->b'=u0->False) (e:JT a b=k0 x):JT a' b'=k0 x:=by
 cases a with
 | true=>rw [h rfl];exact e
 | false=>
  cases b with
  | false=>cases e
  | true=>
   rw [q rfl]
   cases a' with
   | true=>exact(n rfl (q rfl)).elim
   | false=>exact e
def pA (a):JT a (!a)=k0 a:=by cases a<;>rfl
def xT (h:Sub v w/\Sub z u) (q:Sub v' w'/\Sub z' u') (h1:Sub w z) (c:Sub w' z') (e:dC v u v' u'=k0 x):dC w z w' z'=k0 x:=by
 refine jK (λk=> ?_) (λk=> ?_) (λk b=> ?_) e
 ·rw [decide_eq_true_eq,sub_zero]at k ⊢
  exact λi a=>q.1 i (k i (h.2 i a))
 ·rw [Ag4,decide_eq_false_iff_not,sub_zero]at k ⊢
  exact λl=>k λi a=>q.2 i (l i (h.1 i a))
 ·rw [decide_eq_true_eq,sub_zero]at k
  rw [Ag4,decide_eq_false_iff_not,sub_zero]at b
  exact b λi a=>c i (k i (h1 i a))
def di:List Nat->List Nat->Prop
 | [],[]=>True
 | x::xs,y::ys=>x<=y/\di xs ys
 | _,_=>False
theorem di.map (h: ∀x,f x<=g x): ∀l:List Nat,di (l.map f) (l.map g)
 | []=>trivial
 | x::l=>⟨h x,di.map h l⟩
theorem di.sum: ∀ {l m},di l m->l.sum<=m.sum
 | [],[],_=>Ab _
 | x::a,y::b,h=>by
  exact Nat.add_le_add h.1 (di.sum h.2)
 | [],_::_,h=>h.elim
 | _::_,[],h=>h.elim
theorem di.all (a: ∀x y,x<=y->p x=u0->q y=u0): ∀ {l m},di l m->l.all p=u0->m.all q=u0
 | [],[],_,_=>rfl
 | x::b,y::c,h,z=>by
  rw [Ah5,Aa0]at z ⊢
  exact⟨a x y h.1 z.1,di.all a h.2 z.2⟩
 | [],_::_,h,_=>h.elim
 | _::_,[],h,_=>h.elim
theorem di.dn (a: ∀x y,x<=y->p y=u0->q x=u0): ∀ {l m},di l m->m.all p=u0->l.all q=u0
 | [],[],_,_=>rfl
 | x::b,y::c,h,z=>by
  rw [Ah5,Aa0]at z ⊢
  exact⟨a x y h.1 z.1,di.dn a h.2 z.2⟩
 | [],_::_,h,_=>h.elim
 | _::_,[],h,_=>h.elim
def tj (p q) (h: ∀x,p x= !q x) (l:List Nat):l.any p= !l.all q:=by
 induction l with
 | nil=>rfl
 | cons x l a=>rw [Af3,Ah5,a,h x,Bool.not_and]
def pK (j x:Nat):y9 (x<j)= !y9 (j<=x):=by grind
def pO (s) (j) (l u):XL s j l u=if s∈ [Za,jb]then JT (l.all λx=>y9 (j<=x)) (!u.all λx=>y9 (j<=x))else JT (u.all λx=>y9 (x<=j)) (!l.all λx=>y9 (x<=j)):=by
 rw [XL,tj _ (λx=>decide _) (λx=>pK j x),tj (λx=>decide _) (λx=>decide _) (λx=>pK x j)]
def yp (h:di l l') (q:di u' u) (n:di l' u') (e:XL s j l u=k0 x):XL s j l' u'=k0 x:=by
 have up: ∀x y:Nat,x<=y->y9 (j<=x)=u0->y9 (j<=y)=true:=λx y h k=>by
  rw [decide_eq_true_eq]at k ⊢;lia
 have dn: ∀x y:Nat,x<=y->y9 (y<=j)=u0->y9 (x<=j)=true:=λx y h k=>by
  rw [decide_eq_true_eq]at k ⊢;lia
 rw [pO]at e ⊢
 split at e
 ·rename_i c
  rw [if_pos c]
  refine jK (λk=>h.all up k) (λk=> ?_) (λk a=> ?_) e
  ·rw [Ag4,←Ap2]at k ⊢
   exact λl=>k (q.all up l)
  ·rw [n.all up k]at a;cases a
 ·rename_i c
  rw [if_neg c]
  refine jK (λk=>q.dn dn k) (λk=> ?_) (λk a=> ?_) e
  ·rw [Ag4,←Ap2]at k ⊢
   exact λl=>k (h.dn dn l)
  ·rw [n.dn dn k]at a;cases a
def j7 (s) (h:Sub v w):di (Xj n v s) (Xj n w s):=by
 have r:di (ZA n v) (ZA n w):=di.map (λa=>di.sum (di.map (λb=>by
  unfold tb
  cases q:v.testBit (a*n+b)with
  | false=>exact Af4 _
  | true=>rw [h _ q];exact Ab _) _)) _
 unfold Xj
 split
 ·exact⟨r.sum,trivial⟩
 ·exact r
def ZK (s) (j) (l):XL s j l l=k0 (sg s j l):=by
 rw [pO,sg]
 split<;>exact pA _
def XS (v u):dC v v u u=k0 (y9 (v-(v &&& u)=0)):=pA _
def f7 (a b:Wo):Fc->Option Bool->Prop
 | .du x y,r=> ∃v u v' u',B a b x v u/\B a b y v' u'/\r=dC v u v' u'
 | .dJ x y,r=> ∃v u v' u',B a b x v u/\B a b y v' u'/\r=X8 (dC v u v' u') (dC v' u' v u)
 | .dX x,r=> ∃v u,B a b x v u/\r=XL Za 1 (Xj a.n v Za) (Xj a.n u Za)
 | .aj x,r=> ∃v u,B a b x v u/\r=XL zc 0 (Xj a.n v zc) (Xj a.n u zc)
 | .cnt s j x,r=> ∃v u,B a b x v u/\r=XL s j (Xj a.n v s) (Xj a.n u s)
def Td (a b:Wo):Sy->Option Bool->Prop
 | .fact f,r=>f7 a b f r
 | .neg s,r=> ∃q,Td a b s q/\r=q.map (!·)
 | .cg s t,r=> ∃p q,Td a b s p/\Td a b t q/\r=X8 p q
 | .cj s t,r=> ∃p q,Td a b s p/\Td a b t q/\r=e6 p q
def zZ (h: ∀x,p=k0 x->p'=k0 x) (k: ∀x,q=k0 x->q'=k0 x) (e:X8 p q=k0 x):X8 p' q'=k0 x:=by
 rcases p with _ | _ | _<;>rcases q with _ | _ | _<;>cases e<;>(first | rw [h _ rfl] | skip)<;>(first | rw [k _ rfl] | skip)<;>first | rfl | (rcases p' with _ | _ | _<;>rfl) | (rcases q' with _ | _ | _)
def E3 (h: ∀x,p=k0 x->p'=k0 x) (k: ∀x,q=k0 x->q'=k0 x) (e:e6 p q=k0 x):e6 p' q'=k0 x:=by
 rcases p with _ | _ | _<;>rcases q with _ | _ | _<;>cases e<;>(first | rw [h _ rfl] | skip)<;>(first | rw [k _ rfl] | skip)<;>first | rfl | (rcases p' with _ | _ | _<;>rfl) | (rcases q' with _ | _ | _)
theorem f7.mono (L:Le a a') (g:Le b' b) (k:Le a' b')(h:f7 a b f r) (q:f7 a' b' f r') (e:r=k0 x):r'=k0 x:=by
 have cnt: ∀ {y}{v u n o}{s}{j},B a b y v u->B a' b' y n o->XL s j _ _=k0 x->XL s j (Xj a'.n n s) (Xj a'.n o s)=k0 x:=λd c e=>by
  have m:=d.mono c L g
  rw [L.en]
  exact yp (j7 _ m.1) (j7 _ m.2) (j7 _ (c.in k)) e
 cases f with
 | du y z=>
  obtain⟨v,u,n,o,d,l,rfl⟩:=h
  obtain⟨w,t,A,p,c,i,rfl⟩:=q
  exact xT (d.mono c L g) (l.mono i L g) (c.in k) (i.in k) e
 | dJ y z=>
  obtain⟨v,u,n,o,d,l,rfl⟩:=h
  obtain⟨w,t,A,p,c,i,rfl⟩:=q
  exact zZ (λx=>xT (d.mono c L g) (l.mono i L g) (c.in k) (i.in k)) (λx=>xT (l.mono i L g) (d.mono c L g) (i.in k) (c.in k)) e
 | dX y=>
  obtain⟨v,u,d,rfl⟩:=h
  obtain⟨w,t,c,rfl⟩:=q
  exact cnt d c e
 | aj y=>
  obtain⟨v,u,d,rfl⟩:=h
  obtain⟨w,t,c,rfl⟩:=q
  exact cnt d c e
 | cnt s j y=>
  obtain⟨v,u,d,rfl⟩:=h
  obtain⟨w,t,c,rfl⟩:=q
  exact cnt d c e
theorem Td.mono (L:Le a a') (d:Le b' b) (g:Le a' b'): ∀ s r r' x,Td a b s r->Td a' b' s r'->r=k0 x->r'=k0 x
 | .fact f,r,r',x,h,q,e=>f7.mono L d g h q e
 | .neg s,r,r',x,⟨p,h,i⟩,⟨w,q,c⟩,e=>by
  rw [c] ;rw [i]at e
  cases p with
  | none=>cases e
  | some y=>rw [Td.mono L d g s _ _ y h q rfl];exact e
 | .cg s t,r,r',x,⟨u,v,l,k,i⟩,⟨n,o,j,m,c⟩,e=>by
  rw [c];rw [i]at e
  exact zZ (λy z=>Td.mono L d g s _ _ y l j z) (λy z=>Td.mono L d g t _ _ y k m z) e
 | .cj s t,r,r',x,⟨u,v,l,k,i⟩,⟨n,o,j,m,c⟩,e=>by
  rw [c];rw [i]at e
  exact E3 (λy z=>Td.mono L d g s _ _ y l j z) (λy z=>Td.mono L d g t _ _ y k m z) e
def Qn (P:Pt a b) (h): ∀ e m,e.dp+7<=m->e.wf (a.K++a.T)-> ∃v u,B a b e v u/\call prog m "bounds" [.v a.words,.v (bX a b),.v (aT e)] h= .ok (.v (aZ v u)) h:=by
 have n4:=P.oG.wl.n4
 have ew:=P.ew
 have leaf: ∀ e s k v,aT e= .tup [.str s]->(s==Qg)=k9->(s==qp)=k9->V a.n v (bt a b k9 e)->V a.n v (bt a b u0 e)->(∀ l,call prog (k+5) "made" [.i a.n,.s s,.l l] h= .ok (.i v) h)-> ∃v u,B a b e v u/\call prog (k+6) "bounds" [.v a.words,.v (bX a b),.v (aT e)] h= .ok (.v (aZ v u)) h:=by
  intro e s k v N F K z A f
  rw [N]
  exact⟨v,v,⟨z,A⟩,jB (ps:= []) F K (by simp) (DA q9) (f _) (f _)⟩
 intro e
 induction e with
 | name t=>
  intro m f wf
  obtain⟨k,rfl⟩: ∃k,m=k+6:=⟨m-6,by simp [Ex.dp]at f;omega⟩
  have D:t∈b.K++b.T:=by rw [P.eK,P.eT];exact wf
  obtain⟨v,z,e1⟩:=Qs (k+1) P.oG t wf h
  obtain⟨u,A,e2⟩:=Qs (k+1) P.BD t D h
  have L:V a.n v _:=⟨z.1,λx y I G=>(z.2 x y I G).trans (p5 a t x y).symm⟩
  have J:V b.n u _:=⟨A.1,λx y I G=>(A.2 x y I G).trans (p5 b t x y).symm⟩
  rw [P.en]at J
  rw [ew]at e2
  refine⟨v,u,⟨L,J⟩,?_⟩
  rw [Gb (d:=bB) rfl _ _ _ rfl]
  simp only [bB,aT]
  have i0:dF (.v (bX a b)) (.v (.int 0)) h=k0 a.aI:=rfl
  have i1:dF (.v (bX a b)) (.v (.int 1)) h=k0 b.aI:=rfl
  refine fx (by simp_all [aa,Ze];rfl) ?_
  rw [qa (w:= .v (aZ v u)) (h1:=h) ((Jr (h1:=h) (zk (s:=Qg) _ rfl)).trans ?_),Ga _ _ _ rfl]
  refine(za (by simp_all [aa,Jd];rfl)).trans ?_
  exact qa (Ja rfl (by simp_all [i0,i1,e1,e2]))
 | same=>
  intro m f wf
  obtain⟨k,rfl⟩: ∃k,m=k+6:=⟨m-6,by simp [Ex.dp]at f;omega⟩
  exact leaf .same xg k _ rfl rfl rfl V.leaf.1 V.leaf.1 λl=>Lb k a.n l h n4
 | all=>
  intro m f wf
  obtain⟨k,rfl⟩: ∃k,m=k+6:=⟨m-6,by simp [Ex.dp]at f;omega⟩
  exact leaf .all Zn k _ rfl rfl rfl V.leaf.2.1 V.leaf.2.1 λl=>DE k a.n l h n4
 | none=>
  intro m f wf
  obtain⟨k,rfl⟩: ∃k,m=k+6:=⟨m-6,by simp [Ex.dp]at f;omega⟩
  exact leaf .none zh k _ rfl rfl rfl V.leaf.2.2 V.leaf.2.2 λl=>Az k a.n l h
 | turned c H=>
  intro m f wf
  simp only [Ex.dp]at f
  obtain⟨k,rfl⟩:=nk m 6 (by omega)
  obtain⟨v,u,q,e1⟩:=H (k+5) (by omega) wf
  exact⟨_,_,⟨q.lo.turned,q.hi.turned⟩,jB (ps:= [(v,u)]) rfl rfl (by simp) (su q9 (qv e1)) (JL k a.n v h n4) (JL k a.n u h n4)⟩
 | closed c H=>
  intro m f wf
  simp only [Ex.dp]at f
  obtain⟨k,rfl⟩:=nk m 6 (by omega)
  obtain⟨v,u,q,e1⟩:=H (k+5) (by omega) wf
  obtain⟨r,M,O⟩:=jJ k a.n v h n4 q.lo.1
  obtain⟨Q,E,C⟩:=jJ k a.n u h n4 q.hi.1
  exact⟨_,_,⟨q.lo.closed M,q.hi.closed E⟩,jB (ps:= [(v,u)]) rfl rfl (by simp) (su q9 (qv e1)) O C⟩
 | plus c d j g=>
  intro m f wf
  simp only [Ex.dp]at f
  obtain⟨k,rfl⟩:=nk m 6 (by omega)
  obtain⟨v,u,q,e1⟩:=j (k+5) (by omega) wf.1
  obtain⟨o,p,n,i⟩:=g (k+5) (by omega) wf.2
  exact⟨_,_,⟨q.lo.plus n.lo,q.hi.plus n.hi⟩,jB (ps:= [(v,u),(o,p)]) rfl rfl (by simp) (J3 q9 (qv e1) (qv i)) (JW k a.n v o h) (JW k a.n u p h)⟩
 | less c d j g=>
  intro m f wf
  simp only [Ex.dp]at f
  obtain⟨k,rfl⟩:=nk m 6 (by omega)
  obtain⟨v,u,q,e1⟩:=j (k+5) (by omega) wf.1
  obtain⟨o,p,n,i⟩:=g (k+5) (by omega) wf.2
  exact⟨_,_,⟨q.lo.less n.hi,q.hi.less n.lo⟩,Ax (J3 q9 (qv e1) (qv i))⟩
 | both c d j g=>
  intro m f wf
  simp only [Ex.dp]at f
  obtain⟨k,rfl⟩:=nk m 6 (by omega)
  obtain⟨v,u,q,e1⟩:=j (k+5) (by omega) wf.1
  obtain⟨o,p,n,i⟩:=g (k+5) (by omega) wf.2
  exact⟨_,_,⟨q.lo.both n.lo,q.hi.both n.hi⟩,jB (ps:= [(v,u),(o,p)]) rfl rfl (by simp) (J3 q9 (qv e1) (qv i)) (wX k a.n v o h) (wX k a.n u p h)⟩
 | joined c d j g=>
  intro m f wf
  simp only [Ex.dp]at f
  obtain⟨k,rfl⟩:=nk m 6 (by omega)
  obtain⟨v,u,q,e1⟩:=j (k+5) (by omega) wf.1
  obtain⟨o,p,n,i⟩:=g (k+5) (by omega) wf.2
  exact⟨_,_,⟨q.lo.joined n.lo,q.hi.joined n.hi⟩,jB (ps:= [(v,u),(o,p)]) rfl rfl (by simp) (J3 q9 (qv e1) (qv i)) (QL k a.n v o h n4) (QL k a.n u p h n4)⟩
def AJ (P:Pt a b) (h) (f) (m) (c:f.dp+7<=m) (wf:f.wf (a.K++a.T)): ∃r,f7 a b f r/\call prog (m+1) "fact_told" [.v a.words,.v (bX a b),.v (dk f)] h= .ok (.v (aG r)) h:=by
 have n4:=P.oG.wl.n4
 obtain⟨k,rfl⟩:=nk m 3 (by lia)
 cases f with
 | du x y=>
  simp [Fc.dp]at c
  obtain⟨d,l,g,i⟩:=Qn P h x (k+3) (by lia) wf.1
  obtain⟨v,u,q,e⟩:=Qn P h y (k+3) (by lia) wf.2
  exact⟨_,⟨d,l,v,u,g,q,rfl⟩,Dq n4 e i⟩
 | dJ x y=>
  simp [Fc.dp]at c
  obtain⟨d,l,g,i⟩:=Qn P h x (k+3) (by lia) wf.1
  obtain⟨v,u,q,e⟩:=Qn P h y (k+3) (by lia) wf.2
  exact⟨_,⟨d,l,v,u,g,q,rfl⟩,Cc n4 e i⟩
 | dX x=>
  obtain⟨v,u,q,e⟩:=Qn P h x _ c wf
  exact⟨_,⟨v,u,q,rfl⟩,FH n4 e⟩
 | aj x=>
  obtain⟨v,u,q,e⟩:=Qn P h x _ c wf
  exact⟨_,⟨v,u,q,rfl⟩,C5 n4 e⟩
 | cnt s j x=>
  obtain⟨v,u,q,e⟩:=Qn P h x _ c wf.2
  exact⟨_,⟨v,u,q,rfl⟩,B5 n4 e wf.1⟩
abbrev tO (a b:Wo) (d:D) (s:Tx):Sl:= [sv a.words,sv (bX a b),sv d,k0 (.s s)]
section
variable {m k:Nat}{a b:Wo}{h:AH}{x y:D}{r q:Option Bool}
def ZG (z:execs (u9 m) (match cu.body with | .cons _ r=>r | r=>r) (tO a b (.tup (.str s::ds)) s) h= .ret (.v d) h):call prog (m+1) "told" [.v a.words,.v (bX a b),.t (.str s::ds)] h= .ok (.v d) h:=by
 rw [Gb rfl _ _ _ rfl]
 simp only [cu]at z ⊢
 rw [za (τ1:=tO a b (.tup (.str s::ds)) s) (h1:=h) (by simp_all [aa,Ze]),z,Ga _ _ _ rfl]
def DW (c:call prog (k+2) "told" [.v a.words,.v (bX a b),.v x] h= .ok (.v (aG r)) h):call prog (k+3) "told" [.v a.words,.v (bX a b),.t [.str wK,x]] h= .ok (.v (aG (r.map (!·)))) h:=by
 refine ZG ?_
 simp only [cu]
 rw [Xe (zk (s:=wK) _ rfl) (Ja rfl (by simp_all [aa,Qq,c,Hm];rfl))]
def BM (c:call prog (k+2) "told" [.v a.words,.v (bX a b),.v x] h= .ok (.v (aG r)) h) (d:call prog (k+2) "told" [.v a.words,.v (bX a b),.v y] h= .ok (.v (aG q)) h):call prog (k+3) "told" [.v a.words,.v (bX a b),.t [.str Zw,x,y]] h= .ok (.v (aG (X8 r q))) h:=by
 refine ZG ?_
 simp only [cu]
 rw [xa (zk (s:=Zw) _ rfl),Xe (zk (s:=Zw) _ rfl) (Ja rfl (by simp_all [aa,Qq,WD,c,d,WN];rfl))]
def DH (c:call prog (k+2) "told" [.v a.words,.v (bX a b),.v x] h= .ok (.v (aG r)) h) (d:call prog (k+2) "told" [.v a.words,.v (bX a b),.v y] h= .ok (.v (aG q)) h):call prog (k+3) "told" [.v a.words,.v (bX a b),.t [.str Qx,x,y]] h= .ok (.v (aG (e6 r q))) h:=by
 refine ZG ?_
 simp only [cu]
 rw [xa (zk (s:=Qx) _ rfl),xa (zk (s:=Qx) _ rfl),Xe (zk (s:=Qx) _ rfl) (Ja rfl (by simp_all [aa,Qq,WD,c,d,Iu];rfl))]
def IG (wf:f.wf N) (e:call prog m "fact_told" [.v a.words,.v (bX a b),.v (dk f)] h= .ok (.v (aG r)) h):call prog (m+1) "told" [.v a.words,.v (bX a b),.v (dk f)] h= .ok (.v (aG r)) h:=by
 obtain⟨s,j,g,c,d,i⟩:=F4 f wf
 rw [g]at e ⊢
 refine ZG ?_
 simp only [cu]
 rw [xa ((zk _ rfl).trans (by rw [c])),xa ((zk _ rfl).trans (by rw [d])),xa ((zk _ rfl).trans (by rw [i])),qa (Ja rfl (by assumption))]
end
def IM (P:Pt a b) (h): ∀ s m,s.dp+9<=m->s.wf (a.K++a.T)-> ∃r,Td a b s r/\call prog m "told" [.v a.words,.v (bX a b),.v (aC s)] h= .ok (.v (aG r)) h:=by
 intro s
 induction s with
 | fact f=>
  intro m g wf
  simp [Sy.dp]at g
  obtain⟨k,rfl⟩:=nk m 2 (by lia)
  obtain⟨r,t,e⟩:=AJ P h f k (by lia) wf
  exact⟨r,t,IG wf e⟩
 | neg x l=>
  intro m g wf
  simp [Sy.dp]at g
  obtain⟨k,rfl⟩:=nk m 3 (by lia)
  obtain⟨r,t,e⟩:=l (k+2) (by lia) wf
  exact⟨_,⟨r,t,rfl⟩,DW e⟩
 | cg x y d c=>
  intro m g wf
  simp [Sy.dp]at g
  obtain⟨k,rfl⟩:=nk m 3 (by lia)
  obtain⟨r,t,e⟩:=d (k+2) (by lia) wf.1
  obtain⟨q,i,j⟩:=c (k+2) (by lia) wf.2
  exact⟨_,⟨r,q,t,i,rfl⟩,BM e j⟩
 | cj x y d c=>
  intro m g wf
  simp [Sy.dp]at g
  obtain⟨k,rfl⟩:=nk m 3 (by lia)
  obtain⟨r,t,e⟩:=d (k+2) (by lia) wf.1
  obtain⟨q,i,j⟩:=c (k+2) (by lia) wf.2
  exact⟨_,⟨r,q,t,i,rfl⟩,DH e j⟩
mutual
theorem HU: ∀ {d:D},Gd d=u0->cw d d=u0
 | .aj,_=>rfl
 | .bl b,_=>by simp
 | .int i,_=>by simp
 | .str s,_=>by simp
 | .tup xs,h=>by
  rw [cw];exact GI (by simpa [Gd]using h)
 | .lst xs,h=>by
  rw [cw];exact GI (by simpa [Gd]using h)
 | .ref _,h=>by simp at h
theorem GI: ∀ {xs:List D},Gc xs=u0->GK xs xs=u0
 | [],_=>rfl
 | x::xs,h=>by
  have h':Gd x=u0/\Gc xs=true:=by simpa [Gc]using h
  rw [GK,HU h'.1,GI h'.2];rfl
end
mutual
theorem md {h:AH}: ∀ {d:D},Gd d=u0->res h d=d
 | .aj,_=>rfl
 | .bl b,_=>rfl
 | .int i,_=>rfl
 | .str s,_=>rfl
 | .tup xs,q=>by
  rw [res,GL (by simpa [Gd]using q)]
 | .lst xs,q=>by
  rw [res,GL (by simpa [Gd]using q)]
 | .ref _,q=>by simp at q
theorem GL {h:AH}: ∀ {xs:List D},Gc xs=u0->GU h xs=xs
 | [],_=>rfl
 | x::xs,q=>by
  have h':Gd x=u0/\Gc xs=true:=by simpa [Gc]using q
  rw [GU,md h'.1,GL h'.2]
end
theorem Wj (f) (a: ∀x,Gd (f x)=u0): ∀l:List α,Gc (l.map f)=u0
 | []=>rfl
 | x::l=>by simp [a x,Wj f a l]
theorem ZT (f) (k) (a: ∀x,dep (f x)<=k): ∀l:List α,GG (l.map f)<=k
 | []=>Af4 _
 | x::l=>by
  have b:=a x
  have c:=ZT f k a l
  exact Nat.max_le.mpr ⟨b,c⟩
def Xw:D->Bool
 | .int _=>u0
 | _=>k9
def Qp (d:D) (e:Int):Bool:=match d with
 | .int i=>y9 (0<=i)&&y9 (i<e)
 | _=>k9
def ZB (k) (d) (h) (a:Gd d=u0):call prog (k+1) "is_whole" [.v d] h= .ok (.b (Xw d)) h:=by
 cases d<;>first | exact Ga _ _ _ rfl | cases a
def qC (k) (d) (e) (h) (a:Gd d=u0):call prog (k+2) "is_below" [.v d,.v (.int e)] h= .ok (.b (Qp d e)) h:=by
 rw [Gb rfl _ _ _ rfl]
 have b:=ZB k d h a
 cases d with
 | int i=>
  simp [b,JC,Xw,Qp,Gj]
  by_cases c:0<=i<;>simp [c]
 | _=>first | (simp [b,JC,Xw,Qp,Gj]) | (simp at a)
def mf (l):Gc (aw l)=true:=Wj _ (λ_=>rfl) l
def HM (l):GG (aw l)<=0:=ZT _ 0 (λ_=>Ab _) l
def IB (k) (d) (h) (c:Gd d=u0):call prog (k+3) "is_size" [.v d] h= .ok (.b (Qp d 5)) h:=by
 rw [Gb rfl _ _ _ rfl]
 have a:=qC k d 5 h c
 have e:prog.con.lookup "GREATEST_SIZE" =some _:=rfl
 have b:(4:Int)+1=5:=rfl
 simp only [zW]
 simp_all [e,Jc,b,a]
def tm (k) (d) (h) (c:Gd d=u0) (b:Qp d 5=u0):call prog (k+4) "check_size" [.v d] h= .ok (.v .aj) h:=by
 rw [Gb rfl _ _ _ rfl]
 have a:=IB k d h c
 rw [b]at a
 simp only [jE]
 rw [xa (by simp_all [a])]
 simp_all []
def cd:List (Nat×Nat)->Nat
 | []=>0
 | q::r=>q.2+2 ^ q.1*cd r
def dg:List Nat->Nat->List Nat
 | [],_=> []
 | w::a,c=>c % 2 ^ w::dg a (c / 2 ^ w)
def cL (n K T:Nat):List Nat:=Aa3 K n++Aa3 T (n*n)
structure Wl (n:Nat) (ks ts:List Nat):Prop where
 n4:n<=4
 k4:ks.length<=4
 t4:ts.length<=4
 bk: ∀x∈ks,x<2 ^ n
 bt: ∀x∈ts,x<2 ^ (n*n)
def mh (n K T):(cL n K T).length=K+T:=by simp [cL]
abbrev l7 (A B:List D):D:= .tup [.tup A,.tup B]
def L5 (n K T):aw (cL n K T)=Aa3 K (.n n)++Aa3 T (.n (n*n)):=by simp [cL]
theorem Xv (x): ∀m,(Aa3 m x).sum=m*x
 | 0=>by simp
 | m+1=>by rw [Ae5,Al3,Xv x m,Nat.succ_mul,Ap0]
def nq (n K T):(cL n K T).sum=K*n+T*(n*n):=by rw [cL,List.sum_append,Xv,Xv]
theorem rE (h): ∀ ws c i j,(∀ w∈ws,w<=16)->i.length+ws.length<=1000-> ∃L M,
 Gq (Gp [5] u0) (λτ h=>execs F Ws τ h) (aw ws) [x0,x1,x2,k0 (.own (aw i)),si c,j,x6] h= .next [x0,x1,x2,k0 (.own (aw (i++dg ws c))),L,M,x6] h
 | [],c,i,j,_,_=>⟨si c,j,by simp [dg]⟩
 | w::ws,c,i,j,b,g=>by
  rw [Aa7]at g
  have m:=b w Aa4
  obtain⟨L,M,e⟩:=rE h ws (c / 2 ^ w) (i++ [c % 2 ^ w]) (si w) (λx o=>b x (Aa2 _ o)) (by simp;omega)
  refine⟨L,M,?_⟩
  have d:=qV w (by omega)
  have p:0<2 ^ w:=Nat.pow_pos (by decide)
  have f:((2 ^ w:Nat))-1=((2 ^ w-1:Nat):Int):=by omega
  have a:=Wc c (2 ^ w-1)
  rw [Af5]at a
  have n:=Jk c w
  have l:(aw i).length<bg:=by rw [Gg,Aa];omega
  have k:aw (i++ [c % 2 ^ w])=aw i++ [.n (c % 2 ^ w)]:=by simp
  rw [show aw (w::ws)= .n w::aw ws from rfl,zb rfl ?_,e,Ae7]
  ·rfl
  ·rw [k]
   simp_all [Ws,d,We,f,jc,a,l,if_true,n]
def vD (x) (m) (a:m<=1000) (h):GV .mul (.own [x]) (.i m) h= .ok (.own (Aa3 m x)) h:=by
 show Kw [x] m h=_
 have c: -1000<=(m:Int)/\(m:Int)<=1000/\ [x].length*(m:Int).toNat<=bg:=by rw [Gg,Ad4];simp;lia
 rw [Kw,if_pos c,Ad4,show(Aa3 m [x]).flatten=Aa3 m x by simp]
def sS (k n) (A B) (h) (g:n<=4) (f:A.length<=4) (e:B.length<=4):call prog (k+1) "widths" [.v (l7 A B),.i n] h= .ok (.own (aw (cL n A.length B.length))) h:=by
 rw [Gb rfl _ _ _ rfl]
 have d:=Zc n n (by lia)
 have b:=vD (.n n) A.length (by lia) h
 have c:=vD (.n (n*n)) B.length (by lia) h
 have a:(Aa3 A.length (D.n n)).length+(Aa3 B.length (D.n (n*n))).length<=bg:=by rw [Gg];simp;lia
 rw [L5]
 simp only [vP]
 simp_all [aa,zg,Jd,Qe,b,d,c,yJ,a,if_true]
def rb (k n) (A B) (h) (d:n<=4) (c:A.length<=4) (a:B.length<=4):call prog (k+2) "bits" [.v (l7 A B),.i n] h= .ok (.i ((cL n A.length B.length).sum)) h:=by
 rw [Gb rfl _ _ _ rfl]
 have e:=sS k n A B h d c a
 have b:(aw (cL n A.length B.length)).length<=bg:=by rw [Gg,Aa,mh];lia
 simp only [pz]
 simp_all [e,ud,b,if_true,qQ]
theorem ra (n): ∀m,Aa8 (m*n)=(Aa8 m).flatMap λa=>(Aa8 n).map (a*n+ ·)
 | 0=>by simp
 | m+1=>by rw [WB,ra n m,List.range_succ,List.flatMap_append];simp
def AU (n t):Wf.ay n t=(Aa8 n).flatMap λa=>((Aa8 n).filter λb=>t.testBit (a*n+b)).map λb=>(a,b):=by
 unfold Wf.ay
 rw [ra n n,List.filter_flatMap,List.map_flatMap]
 rw [List.flatMap_def,List.flatMap_def]
 congr 1
 refine Ai1 λa d=> ?_
 rw [An0,Ad6]
 refine Ai1 λb c=> ?_
 have c:=Ab8.mp (Ai9.mp c).1
 show(_ / n,_ % n)=_
 rw [Wf.aF c,Wf.aK c]
def XY (n t) (f) (z:α):(Wf.ay n t).foldl f z=(Aa8 n).foldl (λz a=>(Aa8 n).foldl (λz b=>if t.testBit (a*n+b)then f z (a,b)else z) z) z:=by
 rw [AU,List.foldl_flatMap]
 congr 1
 funext z a
 rw [List.foldl_map,List.foldl_filter]
def kT (e:Gj τ i=si n) (a:n<=1000000):Gs F (.ar (.var i)) τ h= .ok ((Aa8 n).map λi=> .n i) h:=Zt (by rw [eval,e]) a
def pV {st:Nat->Option W->Option W->Option W->Sl}{f:Nat->Nat->Nat->Nat}(w:n<=1000)
 (m:b2= .cons (.for [j] u0 (.ar .v0) b1) .nil) (v: ∀t x y z,Gj (st t x y z) 0=si n)
 (u: ∀d t x y z,GC (st t x y z) i (.v d)=st t (sv d) y z) (A: ∀d t x y z,GC (st t x y z) j (.v d)=st t x (sv d) z)
 (s: ∀a b t z,a<n->b<n-> ∃L,execs F b1 (st t (si a) (si b) z) h= .next (st (f a b t) (si a) (si b) L) h):
 ∀(l:List Nat) t x y z,(∀ a∈l,a<n)-> ∃V M L,Gq (Gp [i] u0) (λτ h=>execs F b2 τ h) (l.map λa=>D.n a) (st t x y z) h= .next (st (l.foldl (λt a=>(Aa8 n).foldl (λt b=>f a b t) t) t) V M L) h:=by
 have du: ∀ a,a<n-> ∀(l:List Nat) t y z,(∀ b∈l,b<n)-> ∃M L,Gq (Gp [j] u0) (λτ h=>execs F b1 τ h) (l.map λb=>D.n b) (st t (si a) y z) h= .next (st (l.foldl (λt b=>f a b t) t) (si a) M L) h:=by
  intro a r l
  induction l with
  | nil=>exact λt y z _=>⟨y,z,rfl⟩
  | cons b l o=>
   intro t y z g
   obtain⟨p,e1⟩:=s a b t z r (g b Aa4)
   obtain⟨M,L,e⟩:=o _ _ p λc k=>g c (Aa2 _ k)
   refine⟨M,L,?_⟩
   rw [Ab1,zb (by simp_all) e1,e]
   rfl
 intro l
 induction l with
 | nil=>exact λt x y z _=>⟨x,y,z,rfl⟩
 | cons a l o=>
  intro t x y z g
  obtain⟨q,p,e1⟩:=du a (g a Aa4) _ t y z λb m=>Ab8.mp m
  obtain⟨V,M,L,e⟩:=o _ _ q p λc k=>g c (Aa2 _ k)
  refine⟨V,M,L,?_⟩
  rw [Ab1,zb (by rw [GA,u]) (by
   rw [m,execs,exec]
   rw [kT (v _ _ _ _) (by lia),R.au,e1,O.bK,execs]),e]
  rfl
def ou (o c):Gi .band ((o / 2 ^ c:Nat):Int) 1=k0 ((((o.testBit c).toNat:Nat)):Int):=by
 rw [jc,show 1=((1:Nat):Int)from rfl,Wc,zU]
def yd (x) (h):Gr .eq (.i (x.toNat)) (.v (.int 1)) h=k0 x:=by
 cases x<;>rfl
abbrev kP (n o p t:Nat) (x y z:Option W):Sl:= [si n,si o,si p,si t,x,y,z]
def ZZ (k n o p) (h) (j:n<=20):call prog (k+1) "_law_joined" [.i n,.i o,.i p] h= .ok (.i (Wf.joinM n o p)) h:=by
 rw [Gb rfl _ _ _ rfl]
 have step: ∀a b t z,a<n->b<n-> ∃d,execs (u9 k) Xh (kP n o p t (si a) (si b) z) h= .next (kP n o p (if o.testBit (a*n+b)then t ||| Wf.cb n p b*2 ^ (a*n)else t) (si a) (si b) d) h:=by
  intro a b t z c B
  have m:Gi .mul (a:Int) (n:Int)=k0 _:=Zc a n (by omega)
  have g:Gi .mul (b:Int) (n:Int)=k0 _:=Zc b n (by omega)
  have u:(p / 2 ^ (b*n) &&& (2 ^ n-1))=Wf.cb n p b:=by rw [Af5];rfl
  have r:a*n<=400:=Ab5 (Af2 (Ag3 c) (Ab n)) (ji j)
  have A:=xQ _ (a*n) (Ab4 (Wf.cW n p b) (Ab5 (Ac9 (by decide) j) (by decide))) (by omega)
  have s:=qV n (by omega)
  have f:((2 ^ n:Nat):Int)-1=((2 ^ n-1:Nat):Int):=by
   have:=Ad n
   omega
  have l:Gm (u9 k) (.cmp .eq (.bin .band (.bin .shr .v1 (.bin .add (.bin .mul .v4 .v0) .v5)) (.int 1)) (.int 1)) (kP n o p t (si a) (si b) z) h= .ok (o.testBit (a*n+b)) h:=by
   have v:(((a*n:Nat):Int)+(b:Int))=((a*n+b:Nat):Int):=rfl
   simp_all [m,Jc,v,Jk,ou,yd]
  cases q:o.testBit (a*n+b)with
  | false=>
   refine⟨z,?_⟩
   unfold Xh
   rw [xa (by rw [l,q]),execs]
   rfl
  | true=>
   refine⟨si (Wf.cb n p b),?_⟩
   unfold Xh
   rw [execs,Jr (by rw [l,q])]
   simp_all [m,g,Jk,s,We,f,jc,Wc,u,A,Jm,qm,if_true]
 obtain⟨x,y,d,e⟩:=pV (i:=4) (b2:=Xu) (by omega) rfl (λ_ _ _ _=>rfl) (λ_ _ _ _ _=>rfl) (λ_ _ _ _ _=>rfl) step _ 0 y0 y0 y0 λa c=>Ab8.mp c
 simp only [JD]
 rw [za (τ1:=kP n o p 0 y0 y0 y0) rfl]
 rw [za (τ1:=kP n o p (Wf.joinM n o p) x y d) (h1:=h) (by
  rw [exec,kT (n:=n) rfl (by omega),R.au,e]
  rw [Wf.joinM,XY])]
 rw [qa (w:= .i (Wf.joinM n o p)) (h1:=h) rfl,Ga _ _ _ rfl]
abbrev i7 (n o t:Nat) (x y:Option W):Sl:= [si n,si o,si t,x,y]
def pk (k n o) (h) (l:n<=20):call prog (k+1) "_law_turned" [.i n,.i o] h= .ok (.i (Wf.bF n o)) h:=by
 rw [Gb (d:=Wq) rfl _ _ _ rfl]
 have step: ∀a b t (z:Option W),a<n->b<n-> ∃r:Option W,execs (u9 k) Wm (i7 n o t (si a) (si b)) h= .next (i7 n o (if o.testBit (a*n+b)then t ||| 2 ^ (b*n+a)else t) (si a) (si b)) h:=by
  intro a b t z c B
  refine⟨y0,?_⟩
  have C:Gi .mul (a:Int) (n:Int)=k0 _:=Zc a n (by omega)
  have f:Gi .mul (b:Int) (n:Int)=k0 _:=Zc b n (by omega)
  have m:b*n+a<=400:=Ab5 (Ag3 (Wf.place_lt B c)) (ji l)
  have p:=qV (b*n+a) (by omega)
  have s:(((b*n:Nat):Int)+(a:Int))=((b*n+a:Nat):Int):=rfl
  have g:Gm (u9 k) (.cmp .eq (.bin .band (.bin .shr .v1 (.bin .add (.bin .mul .v3 .v0) .v4)) (.int 1)) (.int 1)) (i7 n o t (si a) (si b)) h= .ok (o.testBit (a*n+b)) h:=by
   have u:(((a*n:Nat):Int)+(b:Int))=((a*n+b:Nat):Int):=rfl
   simp_all [C,Jc,u,Jk,ou,yd]
  unfold Wm
  cases q:o.testBit (a*n+b)with
  | false=>
   rw [xa (by rw [g,q]),execs]
   rfl
  | true=>
   rw [execs,Jr (h1:=h) (by rw [g,q])]
   simp_all [f,Jc,s,p,Jm,qm,if_true]
 obtain⟨v,A,r,e⟩:=pV (st:=λt x y _=>i7 n o t x y) (i:=3) (j:=4) (b2:=Qu) (by omega) rfl (λ_ _ _ _=>rfl) (λ_ _ _ _ _=>rfl) (λ_ _ _ _ _=>rfl) step _ 0 y0 y0 y0 λa c=>Ab8.mp c
 simp only [Wq]
 rw [za (τ1:=i7 n o 0 y0 y0) (h1:=h) rfl]
 rw [za (τ1:=i7 n o (Wf.bF n o) v A) (h1:=h) (by
  rw [exec,kT (n:=n) rfl (by omega),R.au,e]
  rw [Wf.bF,Wf.cO,Wf.kQ,List.foldl_map,XY])]
 rw [qa (w:= .i (Wf.bF n o)) (h1:=h) rfl,Ga _ _ _ rfl]
def cK (n t:Nat):Nat->Nat
 | 0=>t
 | i+1=>cK n t i ||| Wf.joinM n (cK n t i) t
theorem lZ : ∀ {l:List Nat},(∀ x∈l,p x=u0->q x=u0)->(∃ x∈l,q x=u0/\p x=k9)->(l.filter p).length<(l.filter q).length
 | [],_,h=>by obtain⟨x,a,_⟩:=h;cases a
 | y::l,h,f=>by
  have le: ∀l:List Nat,(∀ x∈l,p x=u0->q x=u0)->(l.filter p).length<=(l.filter q).length:=by
   intro l
   induction l with
   | nil=>exact λ_=>Ab _
   | cons z l b=>
    intro d
    have j:=b λx a=>d x (Aa2 _ a)
    have i:=d z Aa4
    rw [Al1,Al1]
    cases e1:p z with
    | true=>rw [i e1,if_pos rfl,if_pos rfl,Aa7,Aa7];omega
    | false=>
     rw [if_neg Ab2]
     cases q z with
     | true=>rw [if_pos rfl,Aa7];omega
     | false=>rw [if_neg Ab2];exact j
  have k:=le l λx a=>h x (Aa2 _ a)
  have g:=h y Aa4
  obtain⟨x,a,c,e⟩:=f
  rw [Al1,Al1]
  rcases Ac.mp a with rfl | a
  ·rw [c,e,if_pos rfl,if_neg Ab2,Aa7];omega
  ·have b:=lZ (λx a=>h x (Aa2 _ a)) ⟨x,a,c,e⟩
   cases e1:p y with
   | true=>rw [g e1,if_pos rfl,if_pos rfl,Aa7,Aa7];omega
   | false=>
    rw [if_neg Ab2]
    cases q y with
    | true=>rw [if_pos rfl,Aa7];omega
    | false=>rw [if_neg Ab2];exact b
section
variable {n t:Nat}
def Jt (e:a<n) (d:b<n):(cK n t (i+1)).testBit (a*n+b)=((cK n t i).testBit (a*n+b)||(Aa8 n).any λc=>(cK n t i).testBit (a*n+c)&&t.testBit (c*n+b)):=by
 rw [cK,Ae9,Wf.b5 (Wf.place_lt e d),Wf.cF d]
def i9 (n t i a:Nat):Prop:= ∀b,b<n->(cK n t (i+1)).testBit (a*n+b)=(cK n t i).testBit (a*n+b)
def jV (d:a<n) (h:i9 n t i a):i9 n t (i+1) a:=λb e=>by
 rw [Jt d e]
 cases q:(Aa8 n).any λc=>(cK n t _).testBit _&&t.testBit (c*n+b)with
 | false=>rw [Bool.or_false]
 | true=>
  rw [Bool.or_true,Jt d e,Ao1.mpr (.inr ?_)]
  rw [Ad1]at q ⊢
  obtain⟨c,f,z⟩:=q
  rw [h c (Ab8.mp f)]at z
  exact⟨c,f,z⟩
abbrev lJ (n t i a:Nat):Nat:=((Aa8 n).filter λb=>(cK n t i).testBit (a*n+b)).length
def uy (d:a<n) (h: ¬i9 n t i a):lJ n t i a<lJ n t (i+1) a:=by
 have h: ∃b,b<n/\(cK n t _).testBit _≠(cK n t i).testBit _:=Aj1 λz=>h λb c=>Aj1 λq=>z ⟨b,c,q⟩
 obtain⟨b,c,ne⟩:=h
 refine lZ (λx e z=>by rw [Jt d (Ab8.mp e),z,Am]) ⟨b,Ab8.mpr c,?_⟩
 cases q:(cK n t i).testBit (a*n+b)with
 | false=>rw [q]at ne;exact⟨by simpa using ne,rfl⟩
 | true=>exact absurd (by rw [Jt d c,q,Am]) ne
theorem uu (b:a<n): ∀i,i9 n t i a\/i<=lJ n t i a
 | 0=> .inr (Af4 _)
 | i+1=>(uu b i).elim (λz=> .inl (jV b z)) λz=>by
  by_cases q:i9 n t i a
  ·exact .inl (jV b q)
  ·have:=uy b q
   exact .inr (by omega)
def KW (b:a<n):i9 n t n a:=(uu b n).elim id λz=>Aj1 λq=>by
 have c:=uy b q
 have d:lJ n t (n+1) a<=n:=Ab5 (Aj0 _ _) (by simp)
 omega
theorem z6: ∀(i a b),a<n->b<n->(cK n t i).testBit (a*n+b)=u0->Wf.TC n t a b
 | 0,a,b,d,e,z=> .step d e z
 | i+1,a,b,d,e,z=>by
  rw [Jt d e,Ae6,Ad1]at z
  rcases z with z | ⟨c,f,z⟩
  ·exact z6 i a b d e z
  ·rw [Aa0]at z
   have f:=Ab8.mp f
   exact .more (z6 i a c d f z.1) f e z.2
theorem tZ: ∀(i k),t.testBit k=u0->(cK n t i).testBit k=u0
 | 0,_,z=>z
 | i+1,k,z=>by rw [cK,Ae9,tZ i k z,Am]
theorem sk (a:t<2 ^ (n*n)): ∀i,cK n t i<2 ^ (n*n)
 | 0=>a
 | i+1=>Ak7 (sk a i) (Wf.c4 _ _ _)
def vb (j:t<2 ^ (n*n)):Wf.eX n t (cK n t n):=⟨sk j n,λa b c h=>⟨z6 n a b c h,λg=>by
 induction g with
 | step d e f=>exact tZ n _ f
 | more g d e f i=>
  rw [← KW c _ e,Jt c e,Ao1,Ad1]
  exact .inr ⟨_,Ab8.mpr d,by rw [i d,f];rfl⟩⟩⟩
end
abbrev mE (n t r:Nat) (x:Option W):Sl:= [si n,si t,si r,x]
theorem qP (k n t) (a:n<=20) (h): ∀ m i x,∃L,Gq (Gp [3] u0) (λτ h=>execs (u9 (k+1)) Xm τ h) ((Aa8 m).map λj=>D.n (i+j)) (mE n t (cK n t i) x) h= .next (mE n t (cK n t (i+m)) L) h
 | 0,i,x=>⟨x,rfl⟩
 | m+1,i,x=>by
  obtain⟨L,e⟩:=qP k n t a h m (i+1) (si (i))
  refine⟨L,?_⟩
  rw [Ah2,Ab1,Ad6,zb (τ1:=mE n t (cK n t i) (si (i))) rfl (by
   unfold Xm
   rw [za (τ1:=mE n t (cK n t (i+1)) (si (i))) (by simp_all [ZZ k n (cK n t i) t h a,qm];rfl),execs])]
  have:((λj=>D.n (i+j))∘Nat.succ)=λj=>D.n (i+1+j):=by
   funext j
   show D.n (i+(j+1))=_
   rw [show i+(j+1)=i+1+j by omega]
  rw [this,e,show i+1+m=i+(m+1)by omega]
def vG (k n t) (h) (a:n<=20):call prog (k+2) "_law_closed" [.i n,.i t] h= .ok (.i (cK n t n)) h:=by
 rw [Gb rfl _ _ _ rfl]
 obtain⟨b,e⟩:=qP k n t a h n 0 y0
 simp [Am0]at e
 simp only [xF]
 rw [za rfl]
 rw [za (by rw [exec,kT rfl (by lia),R.au];exact e)]
 rw [qa rfl,Ga _ _ _ rfl]
def HG (a b:Nat):Ky (a:Int) (b:Int)=k0 ((a ^^^ b:Nat):Int):=rfl
def vv (k n) (h) (l:n<=4):call prog (k+1) "_law_same" [.i n] h= .ok (.i (Wf.bA n)) h:=by
 rw [Gb rfl _ _ _ rfl]
 have e:eval (u9 k) xq [si n] h= .ok (.own (aw ((Aa8 n).map λa=>2 ^ (a*n+a)))) h:=by
  unfold xq
  rw [Qo (λa=> .n _) rfl (by omega) λa b=>⟨.i _,?_,rfl⟩]
  ·rw [aw,Ad6];rfl
  ·have i:=Zc a n (by omega)
   have g:=qV (a*n+a) (by have:=Wf.place_lt b b;have:=ji (show n<=20 by omega);omega)
   have j:(((a*n:Nat):Int)+(a:Int))=((a*n+a:Nat):Int):=rfl
   simp_all [i,Jc,j,g]
 have f:((Aa8 n).map λa=>2 ^ (a*n+a)).sum=Wf.bA n:=by
  have:n=0\/n=1\/n=2\/n=3\/n=4:=by omega
  rcases this with rfl | rfl | rfl | rfl | rfl<;>decide +kernel
 have d:dG .sum [.own (aw ((Aa8 n).map λa=>2 ^ (a*n+a)))] h= .ok (.i (Wf.bA n)) h:=by
  show(R.of h ((k0 (aw ((Aa8 n).map λa=>2 ^ (a*n+a)))).bind λc=>if c.length<=bg then Kj c else y0)).bind _=_
  rw [Ag0,if_pos (by rw [Gg,aw,Aa,Aa,Ah0];omega),qQ,f]
  rfl
 simp only [qO]
 rw [qa (w:= .i (Wf.bA n)) (h1:=h) (Ja rfl (by simp_all [e,d])),Ga _ _ _ rfl]
def xN (k n s t) (h) (a:n<=20):(call prog (k+2) "_law_two" [.s wF,.i n,.i s,.i t] h= .ok (.i (s ||| t)) h ∧
 call prog (k+2) "_law_two" [.s Jw,.i n,.i s,.i t] h= .ok (.i (s &&& t)) h) ∧
 call prog (k+2) "_law_two" [.s Zf,.i n,.i s,.i t] h= .ok (.i (Wf.joinM n s t)) h:=by
 refine⟨⟨?_,?_⟩,?_⟩
 all_goals
  rw [Gb rfl _ _ _ rfl]
  simp only [QX]
 ·show Gw _ (execs _ _ [k0 _,si n,si s,si t] h)=_
  rw [Xe (w:= .i (s ||| t)) (zk (s:=wF) _ rfl) (Ja rfl (by simp_all [Jm,qm])),Ga _ _ _ rfl]
 ·show Gw _ (execs _ _ [k0 _,si n,si s,si t] h)=_
  rw [xa (zk (s:=Jw) _ rfl),Xe (w:= .i (s &&& t)) (zk (s:=Jw) _ rfl) (Ja rfl (by simp_all [jc,Wc])),Ga _ _ _ rfl]
 ·show Gw _ (execs _ _ [k0 (.s Zf),si n,si s,si t] h)=_
  rw [xa (zk (s:=Zf) _ rfl),xa (zk (s:=Zf) _ rfl),qa (w:= .i (Wf.joinM n s t)) (h1:=h) (Ja rfl (by simp_all [ZZ k n s t h a])),Ga _ _ _ rfl]
def V.gZ (h:V n s g) (q:V n t f):V n (s &&& ((2 ^ (n*n)-1) ^^^ t)) λa b=>g a b&& !f a b:=⟨Ah6 Nat.and_le_left h.1,λa b d i=>by
 have l:=h.2 a b d i
 have k:=q.2 a b d i
 rw [Ah1,Nat.testBit_xor,Ag1,decide_eq_true (Wf.place_lt d i),Bool.true_xor,Aa0,Aa0,l]
 constructor
 ·rintro ⟨j,c⟩
  refine⟨j,?_⟩
  cases e:f a b with
  | false=>rfl
  | true=>rw [k.mpr e]at c;cases c
 ·rintro ⟨j,c⟩
  refine⟨j,?_⟩
  cases e:t.testBit (a*n+b)with
  | false=>rfl
  | true=>rw [k.mp e]at c;cases c⟩
def aO (N:List Tx) (f:Tx->Nat×Nat):List (Tx×D):=N.map λt=>(t,aZ (f t).1 (f t).2)
theorem nY : ∀ {N},t∈N->(aO N f).lookup t=k0 (aZ (f t).1 (f t).2)
 | y::N,h=>by
  show Aj t ((y,_)::aO N f)=_
  rw [Ab7]
  by_cases e:t=y
  ·subst e;rw [beq_self_eq_true]
  ·rw [beq_eq_false_iff_ne.mpr e]
   exact nY ((Ac.mp h).resolve_left e)
structure Dc (a b:Wo) (f:Tx->Nat×Nat) (r:Nat) (h:AH):Prop where
 ad:h[r]? =k0 (.aN (aO (a.K++a.T) f))
 n4:a.n<=4
 lo: ∀t∈a.K++a.T,V a.n (f t).1 (bf a t)
 hi: ∀t∈a.K++a.T,V a.n (f t).2 (bf b t)
abbrev iM (n r:Nat) (d:D) (s:Tx) (a b f e c:Option W):Sl:= [si n,k0 (.r r),sv d,k0 (.s s),si (2 ^ (n*n)-1),a,b,f,e,c]
def JU (s) (a:List Tx) (h):Gr .mem (.s s) (.own (a.map .str)) h=k0 (y9 (s∈a)):=Qy s a (.own _) h rfl rfl
section
variable {m n r:Nat}{h:AH}
def jU (e:n<=4) (z:execs (u9 m) (match ax.body with | .cons _ (.cons _ r)=>r | r=>r) (iM n r (.tup (.str s::ds)) s y0 y0 y0 y0 y0) h= .ret w h) (d:Gw h.length (.ret w h)= .ok w h):call prog (m+1) "_law_bounds" [.i n,.r r,.t (.str s::ds)] h= .ok w h:=by
 rw [Gb rfl _ _ _ rfl]
 simp only [ax]at z ⊢
 have c:=Zc n n (by lia)
 have b:=qV (n*n) (by have:=ji (show n<=20 by lia);lia)
 have a:((2 ^ (n*n):Nat):Int)-1=((2 ^ (n*n)-1:Nat):Int):=by
  have:=Ad (n*n)
  lia
 refine fx (by simp_all [aa,Ze];rfl) ?_
 rw [za (τ1:=iM n r (.tup (.str s::ds)) s y0 y0 y0 y0 y0) (h1:=h) (by simp_all [c,b,We,a]),z]
 exact d
def DQ (a:n<=4) (e:h[r]? =k0 (.aN kvs)) (l:kvs.lookup t=k0 d):call prog (m+1) "_law_bounds" [.i n,.r r,.t [.str Qg,.str t]] h= .ok (.v d) h:=by
 refine jU a ?_ (Ga _ _ _ rfl)
 simp only [ax]
 have dd:GT h (k0 (.r r))=k0 (r,kvs):=by unfold GT;simp [e]
 have dg:eD (.s t) (k0 (r,kvs)) h=aq d h:=by unfold eD;simp [l]
 rw [Xe (w:= .v d) (zk (s:=Qg) _ rfl) (Ja rfl (by simp_all [dd,aa,Jd,dg]))]
def Q9 (d:n<=4) (g:(s==Qg)=k9) (i:s∈ [xg,Zn,zh]) (a:List.lookup s [(xg,Wf.bA n),(Zn,2 ^ (n*n)-1),(zh,0)]=k0 v):call prog (m+2) "_law_bounds" [.i n,.r r,.t [.str s]] h= .ok (.v (aZ v v)) h:=by
 refine jU d ?_ (Ga _ _ _ rfl)
 simp only [ax]
 have j:Gm (u9 (m+1)) (.cmp .mem .v3 (.lst (.c (.str xg) (.str Zn) (.str zh)))) (iM n r (.tup [.str s]) s y0 y0 y0 y0 y0) h= .ok u0 h:=by
  have:=JU s [xg,Zn,zh] h
  simp only [Ab1,Af]at this
  simp_all [this,decide_eq_true i]
 have f:fD [(xg,.i (Wf.bA n)),(Zn,.i (2 ^ (n*n)-1)),(zh,.v (.int 0))] (k0 (.s s)) h= .ok (.i v) h:=by
  unfold fD
  simp only [Ab7,List.lookup_nil]at a ⊢
  cases b:s==xg with
  | true=>rw [b]at a;cases a;rfl
  | false=>
   rw [b]at a
   cases c:s==Zn with
   | true=>rw [c]at a;cases a;rfl
   | false=>
    rw [c]at a
    cases e:s==zh with
    | true=>rw [e]at a;cases a;rfl
    | false=>rw [e]at a;cases a
 rw [xa ((zk _ rfl).trans (by rw [g]))]
 rw [qa]
 refine(Jr j).trans ?_
 refine(za (by simp_all [vv m n h d,f];rfl)).trans ?_
 rw [qa (w:= .v (aZ v v)) (h1:=h) (Ja rfl (by simp_all []))]
def pX (a:aU (.str s::ds) i=k0 d) (e:call prog m "_law_bounds" [.i n,.r r,.v d] h= .ok (.v (aZ v u)) h):eval (u9 m) (.call "_law_bounds" (.c .v0 .v1 (.ix .v2 (.int i)))) (iM n r (.tup (.str s::ds)) s x5 x6 x7 x8 x9) h= .ok (.v (aZ v u)) h:=by
 simp_all [aa,a,e]
def nG (b:n<=4) (a:(s==Qg)=k9) (c:s∉ [xg,Zn,zh]) (e:call prog m "_law_bounds" [.i n,.r r,.v d] h= .ok (.v (aZ v u)) h)
 (z:execs (u9 m) (match ax.body with | .cons _ (.cons _ (.cons _ (.cons _ (.cons _ r))))=>r | r=>r) (iM n r (.tup (.str s::d::ds)) s y0 (si v) (si u) y0 y0) h= .ret w h) (g:Gw h.length (.ret w h)= .ok w h):call prog (m+1) "_law_bounds" [.i n,.r r,.t (.str s::d::ds)] h= .ok w h:=by
 refine jU b ?_ g
 simp only [ax]at z ⊢
 have f:Gm (u9 m) (.cmp .mem .v3 (.lst (.c (.str xg) (.str Zn) (.str zh)))) (iM n r (.tup (.str s::d::ds)) s y0 y0 y0 y0 y0) h= .ok k9 h:=by
  have:=JU s [xg,Zn,zh] h
  simp only [Ab1,Af]at this
  simp_all [this,decide_eq_false c]
 rw [xa ((zk _ rfl).trans (by rw [a])),xa f]
 refine(za (by rw [exec,pX (Qq _ _ _) e,R.au];rfl)).trans ?_
 exact z
def L7 (a:n<=4) (e:call prog (m+1) "_law_bounds" [.i n,.r r,.v d] h= .ok (.v (aZ v u)) h):call prog (m+2) "_law_bounds" [.i n,.r r,.t [.str xi,d]] h= .ok (.v (aZ (Wf.bF n v) (Wf.bF n u))) h:=by
 refine nG a rfl (by decide) e ?_ (Ga _ _ _ rfl)
 simp only [ax]
 rw [Xe (w:= .v (aZ (Wf.bF n v) (Wf.bF n u))) (zk (s:=xi) _ rfl) (Ja rfl (by simp_all [pk m n v h (by lia),pk m n u h (by lia)]))]
def KI (a:n<=4) (e:call prog (m+2) "_law_bounds" [.i n,.r r,.v d] h= .ok (.v (aZ v u)) h):call prog (m+3) "_law_bounds" [.i n,.r r,.t [.str Wh,d]] h= .ok (.v (aZ (cK n v n) (cK n u n))) h:=by
 refine nG a rfl (by decide) e ?_ (Ga _ _ _ rfl)
 simp only [ax]
 rw [xa (zk (s:=Wh) _ rfl),Xe (w:= .v (aZ (cK n v n) (cK n u n))) (zk (s:=Wh) _ rfl) (Ja rfl (by simp_all [vG m n v h (by lia),vG m n u h (by lia)]))]
def pN (f:n<=4) (b:(s==Qg)=k9) (g:s∉ [xg,Zn,zh]) (h1:(s==xi)=k9) (a:(s==Wh)=k9) (e:call prog m "_law_bounds" [.i n,.r r,.v d] h= .ok (.v (aZ v u)) h) (c:call prog m "_law_bounds" [.i n,.r r,.v d'] h= .ok (.v (aZ v' u')) h)
 (z:execs (u9 m) (match ax.body with | .cons _ (.cons _ (.cons _ (.cons _ (.cons _ (.cons _ (.cons _ (.cons _ r)))))))=>r | r=>r) (iM n r (.tup [.str s,d,d']) s y0 (si v) (si u) (si v') (si u')) h= .ret w h) (i:Gw h.length (.ret w h)= .ok w h):call prog (m+1) "_law_bounds" [.i n,.r r,.t [.str s,d,d']] h= .ok w h:=by
 refine nG f b g e ?_ i
 simp only [ax]at z ⊢
 rw [xa ((zk _ rfl).trans (by rw [h1])),xa ((zk _ rfl).trans (by rw [a]))]
 refine(za (by rw [exec,pX (WD _ _ _) c,R.au];rfl)).trans ?_
 exact z
def By (c:n<=4) (e:call prog m "_law_bounds" [.i n,.r r,.v d] h= .ok (.v (aZ v u)) h) (a:call prog m "_law_bounds" [.i n,.r r,.v d'] h= .ok (.v (aZ v' u')) h):call prog (m+1) "_law_bounds" [.i n,.r r,.t [.str qp,d,d']] h= .ok (.v (aZ (v &&& ((2 ^ (n*n)-1) ^^^ u')) (u &&& ((2 ^ (n*n)-1) ^^^ v')))) h:=by
 refine pN c rfl (by decide) rfl rfl e a ?_ (Ga _ _ _ rfl)
 simp only [ax]
 have b: ∀i j:Int,Gi .bxor i j=Ky i j:=λ_ _=>rfl
 rw [Xe (w:= .v (aZ (v &&& ((2 ^ (n*n)-1) ^^^ u')) (u &&& ((2 ^ (n*n)-1) ^^^ v')))) (zk (s:=qp) _ rfl) (Ja rfl (by simp_all [b,HG,jc,Wc]))]
def oT (f:n<=4) (b:(s==Qg)=k9) (j:s∉ [xg,Zn,zh]) (h1:(s==xi)=k9) (a:(s==Wh)=k9) (k:(s==qp)=k9) (e:call prog m "_law_bounds" [.i n,.r r,.v d] h= .ok (.v (aZ v u)) h) (c:call prog m "_law_bounds" [.i n,.r r,.v d'] h= .ok (.v (aZ v' u')) h)
 (g:call prog m "_law_two" [.s s,.i n,.i v,.i v'] h= .ok (.i x) h) (i:call prog m "_law_two" [.s s,.i n,.i u,.i u'] h= .ok (.i y) h):call prog (m+1) "_law_bounds" [.i n,.r r,.t [.str s,d,d']] h= .ok (.v (aZ x y)) h:=by
 refine pN f b j h1 a e c ?_ (Ga _ _ _ rfl)
 simp only [ax]
 rw [xa ((zk _ rfl).trans (by rw [k])),qa (w:= .v (aZ x y)) (h1:=h) (Ja rfl (by simp_all [g,i]))]
end
def zl (P:Dc a b f r h): ∀ e m,e.dp+4<=m->e.wf (a.K++a.T)-> ∃v u,B a b e v u/\call prog m "_law_bounds" [.i a.n,.r r,.v (aT e)] h= .ok (.v (aZ v u)) h:=by
 have n4:=P.n4
 intro e
 induction e with
 | name t=>
  intro m l wf
  obtain⟨k,rfl⟩:=nk m 1 (by omega)
  exact⟨_,_,⟨P.lo t wf,P.hi t wf⟩,DQ n4 P.ad (nY wf)⟩
 | same=>
  intro m l wf
  obtain⟨k,rfl⟩:=nk m 2 (by omega)
  exact⟨_,_,⟨V.leaf.1,V.leaf.1⟩,Q9 n4 rfl (by decide) rfl⟩
 | all=>
  intro m l wf
  obtain⟨k,rfl⟩:=nk m 2 (by omega)
  exact⟨_,_,⟨V.leaf.2.1,V.leaf.2.1⟩,Q9 n4 rfl (by decide) rfl⟩
 | none=>
  intro m l wf
  obtain⟨k,rfl⟩:=nk m 2 (by omega)
  exact⟨_,_,⟨V.leaf.2.2,V.leaf.2.2⟩,Q9 n4 rfl (by decide) rfl⟩
 | turned c s=>
  intro m l wf
  simp only [Ex.dp]at l
  obtain⟨k,rfl⟩:=nk m 2 (by omega)
  obtain⟨v,u,q,e1⟩:=s (k+1) (by omega) wf
  exact⟨_,_,⟨q.lo.turned,q.hi.turned⟩,L7 n4 e1⟩
 | closed c s=>
  intro m l wf
  simp only [Ex.dp]at l
  obtain⟨k,rfl⟩:=nk m 3 (by omega)
  obtain⟨v,u,q,e1⟩:=s (k+2) (by omega) wf
  exact⟨_,_,⟨q.lo.closed (vb q.lo.1),q.hi.closed (vb q.hi.1)⟩,KI n4 e1⟩
 | plus c d j g=>
  intro m l wf
  simp only [Ex.dp]at l
  obtain⟨k,rfl⟩:=nk m 3 (by omega)
  obtain⟨v,u,q,e1⟩:=j (k+2) (by omega) wf.1
  obtain⟨o,p,n,i⟩:=g (k+2) (by omega) wf.2
  exact⟨_,_,⟨q.lo.plus n.lo,q.hi.plus n.hi⟩,oT n4 rfl (by decide) rfl rfl rfl e1 i (xN k a.n v o h (by omega)).1.1 (xN k a.n u p h (by omega)).1.1⟩
 | less c d j g=>
  intro m l wf
  simp only [Ex.dp]at l
  obtain⟨k,rfl⟩:=nk m 3 (by omega)
  obtain⟨v,u,q,e1⟩:=j (k+2) (by omega) wf.1
  obtain⟨o,p,n,i⟩:=g (k+2) (by omega) wf.2
  exact⟨_,_,⟨q.lo.gZ n.hi,q.hi.gZ n.lo⟩,By n4 e1 i⟩
 | both c d j g=>
  intro m l wf
  simp only [Ex.dp]at l
  obtain⟨k,rfl⟩:=nk m 3 (by omega)
  obtain⟨v,u,q,e1⟩:=j (k+2) (by omega) wf.1
  obtain⟨o,p,n,i⟩:=g (k+2) (by omega) wf.2
  exact⟨_,_,⟨q.lo.both n.lo,q.hi.both n.hi⟩,oT n4 rfl (by decide) rfl rfl rfl e1 i (xN k a.n v o h (by omega)).1.2 (xN k a.n u p h (by omega)).1.2⟩
 | joined c d j g=>
  intro m l wf
  simp only [Ex.dp]at l
  obtain⟨k,rfl⟩:=nk m 3 (by omega)
  obtain⟨v,u,q,e1⟩:=j (k+2) (by omega) wf.1
  obtain⟨o,p,n,i⟩:=g (k+2) (by omega) wf.2
  exact⟨_,_,⟨q.lo.joined n.lo,q.hi.joined n.hi⟩,oT n4 rfl (by decide) rfl rfl rfl e1 i (xN k a.n v o h (by omega)).2 (xN k a.n u p h (by omega)).2⟩
def kr:Nat->Nat->Nat
 | 0,_=>0
 | L+1,v=>v % 2+kr L (v / 2)
theorem oH: ∀(L v),kr L v=((Aa8 L).filter v.testBit).length
 | 0,_=>rfl
 | L+1,v=>by
  rw [kr,oH L,Ah2,Al1,An0]
  have e:(v.testBit∘Nat.succ)=(v / 2).testBit:=by
   funext i
   exact Nat.testBit_succ v i
  rw [e]
  by_cases q:v % 2=1
  ·rw [if_pos (by rw [Nat.testBit_zero,decide_eq_true q]),Aa7,Aa,q];omega
  ·rw [if_neg (by rw [Nat.testBit_zero,decide_eq_false q];exact Ab2),Aa];omega
abbrev kW (v a:Nat):Sl:= [si v,si a]
theorem r9 (h): ∀ L f v a,v<2 ^ L->L<f->GF (λτ h=>Gm F Xl τ h) (λτ h=>execs F Ql τ h) f (kW v a) h= .next (kW 0 (a+kr L v)) h
 | L,0,v,a,_,b=>absurd b (Ag5 _)
 | L,f+1,v,a,c,b=>by
  have i:Gm F Xl (kW v a) h= .ok (y9 (0<v)) h:=by
   have:Gr .gt (.i v) (.v (.int 0)) h=k0 (y9 (0<v)):=by
    show k0 (y9 (0<(v:Int)))=_
    congr 1
    exact decide_eq_decide.mpr (by omega)
   unfold Xl
   simp_all [this]
  rw [GF,i,R.au]
  by_cases q:0<v
  ·cases L with
   | zero=>simp at c;omega
   | succ L=>
    have d:execs F Ql (kW v a) h= .next (kW (v / 2) (a+v % 2)) h:=by
     have g:Gi .mod v 2=k0 ((v % 2:Nat):Int):=lF v 2 (by decide)
     have e:Gi .fdiv v 2=k0 ((v / 2:Nat):Int):=Iy v 2 (by decide) (by decide)
     unfold Ql
     simp_all [g,e,BZ]
    rw [decide_eq_true q]
    simp only [d]
    rw [r9 h L f (v / 2) (a+v % 2) (by rw [Nat.pow_succ]at c;omega) (by omega),kr,Nat.add_assoc]
  ·have v0:v=0:=by omega
   subst v0
   have z:kr L 0=0:=by rw [oH];simp
   rw [decide_eq_false q,z]
   rfl
def JS (k L v) (h) (b:L<=16) (a:v<2 ^ L):call prog (k+1) "_law_many" [.i v] h= .ok (.v (.int ((((List.range L).filter v.testBit).length:Nat):Int))) h:=by
 rw [Gb rfl _ _ _ rfl]
 simp only [zO]
 rw [za rfl]
 rw [za (by rw [exec];exact r9 h L 100000 v 0 a (by lia))]
 rw [qa rfl,Ga _ _ _ rfl,Am0,oH]
def Q7 {F:Fx}{e:E}{τ:Sl}{h:AH}{b:Bool}(q:eval F e τ h= .ok (.b b) h):eval F (.ix (.lst (.b .aj (.bl k9))) (.bi .int (.cons e .nil))) τ h= .ok (.v (aG (JT k9 b))) h:=by
 have e1:eval F (.bi .int (.cons e .nil)) τ h= .ok (.i b.toNat) h:=by
  rw [eval,Gf,q];rfl
 rw [eval,show eval F _ τ h= .ok _ h from rfl,R.ae,e1,R.ae,qN]
 cases b<;>rfl
def mF {F:Fx}{τ:Sl}{i j:Nat}{ps:List (Nat×Nat)}{h:AH}{o:Cp}(p:Nat->Bool) (g:ps.length<=4) (b:Gk F (.seq .v2) τ h= .ok (ps.map pD) h) (e:Gj τ 1=si j) (f:i=0\/i=1) (a: ∀x:Nat,Gr o (.i x) (.i j) h=k0 (p x)):
 eval F (.comp [0,1] k9 2 [1] (.seq .v2) k9 (.bl u0) (.cmp o (.var i) .v2)) τ h= .ok (.own ((ps.map λq=>p (if i=0 then q.1 else q.2)).map .bl)) h:=by
 rw [qk (h:=h) (ds:=ps.map pD) (λd=>match d with | .tup [.int x,.int y]=> .bl (p (if i=0 then x.toNat else y.toNat)) | d=>d) b (by rw [Gg,Aa];lia)]
 ·simp [Function.comp_def,pD]
 ·intro k c
  obtain⟨q,_,rfl⟩:=Ab6.mp c
  refine⟨[si (q.1),si (q.2),si j],?_,?_⟩
  ·rw [Ab1,Af,e];rfl
  ·obtain rfl | rfl:=f
   ·exact⟨.b (p q.1),by simp_all [a],by simp [pD]⟩
   ·exact⟨.b (p q.2),by simp_all [a],by simp [pD]⟩
def oo {F:Fx}{e:E}{a:Ss}{b:Ss}{τ:Sl}{h:AH}{x y:Bool}(c:eval F e τ h= .ok (.b x) h) (z:execs F b τ h= .ret (.v (aG (JT k9 y))) h):execs F (.cons (.r e (.bl u0)) b) τ h= .ret (.v (aG (JT x y))) h:=by
 have t:Gm F e τ h= .ok x h:=by rw [Gm,c,R.ae];rfl
 cases x with
 | true=>exact qa ((Jr t).trans (qa rfl))
 | false=>rw [xa t];exact z
def Ie (k j:Nat) (up:Bool){w:W}{ps:List (Nat×Nat)}(h:AH) (c:ps.length<=4) (e: ∀a b:Option W,Gk (u9 k) (.seq .v2) [a,b,k0 w] h= .ok (ps.map pD) h):
 call prog (k+1) "_law_ruled" [.b up,.i j,w] h= .ok (.v (aG (if up then JT ((ps.map (·.1)).all fun x=>decide (j<=x)) ((ps.map (·.2)).any fun x=>decide (x<j))else JT ((ps.map (·.2)).all fun x=>decide (x<=j)) ((ps.map (·.1)).any fun x=>decide (j<x))))) h:=by
 rw [Gb (d:=ww) rfl _ _ _ rfl]
 show Gw _ (execs _ _ [k0 _,si j,k0 w] h)=_
 simp only [ww,Zx,Xx,Jx,Zz]
 have g:=Xz (mF (F:=(u9 k)) (τ:= [k0 (.b up),si j,k0 w]) (i:=0) (λx=>y9 (j<=x)) c (e _ _) rfl (.inl rfl) (λx=>vM j x h))
 have f:=xA (mF (F:=(u9 k)) (τ:= [k0 (.b up),si j,k0 w]) (i:=1) (λx=>y9 (x<j)) c (e _ _) rfl (.inr rfl) (λx=>mW j x h))
 have e2:=Xz (mF (F:=(u9 k)) (τ:= [k0 (.b up),si j,k0 w]) (i:=1) (λx=>y9 (x<=j)) c (e _ _) rfl (.inr rfl) (λx=>tf j x h))
 have e1:=xA (mF (F:=(u9 k)) (τ:= [k0 (.b up),si j,k0 w]) (i:=0) (λx=>y9 (j<x)) c (e _ _) rfl (.inl rfl) (λx=>gw j x h))
 rw [mY]at g e2
 rw [nO]at f e1
 rw [An1,Ao9,An1,Ao9]
 cases up with
 | true=>
  rw [qa (w:= .v _) (h1:=h) ((Jr (h1:=h) rfl).trans (oo (a:= .nil) g (qa (Ja rfl (Q7 f))))),Ga _ _ _ rfl]
  rfl
 | false=>
  rw [xa rfl,oo (a:= .nil) e2 (qa (Ja rfl (Q7 e1))),Ga _ _ _ rfl]
  rfl
def sM (u v):y9 (u &&& v=u)=y9 (u-(u &&& v)=0):=by
 have:= @Nat.and_le_left u v
 exact decide_eq_decide.mpr (by lia)
def rq (i j) (h):Gr .ne (.i i) (.i j) h=k0 (!y9 (i=j)):=by
 have this:=zn i j h
 exact congrArg (Option.map (!·)) this
def Ey (k v u v' u') (h):call prog (k+1) "_law_within" [.v (aZ v u),.v (aZ v' u')] h= .ok (.v (aG (dC v u v' u'))) h:=by
 rw [Gb rfl _ _ _ rfl]
 simp only [XD]
 rw [oo (a:= .nil) (x:=y9 (u &&& v'=u)) (y:= !y9 (v &&& u'=v)) (by simp_all [aa,zg,Jd,jc,Wc,zn]) (qa (Ja rfl (Q7 (by simp_all [aa,zg,Jd,jc,Wc,rq])))),Ga _ _ _ rfl,dC,sM,sM]
abbrev lD (n r:Nat) (d:D) (s:Tx) (b a c e:Option W):Sl:= [si n,k0 (.r r),sv d,k0 (.s s),b,a,c,e]
def pH (n v a):((Aa8 n).filter (v / 2 ^ (a*n) &&& (2 ^ n-1)).testBit).length=q5 n (tb n v) a:=by
 rw [Qt,q5]
 congr 1
 refine Ai1 λb c=> ?_
 have c:=Ab8.mp c
 rw [Af5,Ag8,decide_eq_true c,Ae1,Ag9,Ap0]
section
variable {m n r:Nat}{h:AH}
def n5 (y:n<=4) (J:s∈ [Za,zc,jb,wh]) (F:v<2 ^ (n*n)) (G:u<2 ^ (n*n)) (e:call prog (m+1) "_law_bounds" [.i n,.r r,.v x] h= .ok (.v (aZ v u)) h):
 execs (u9 (m+1)) (match bj.body with | .cons _ (.cons _ r)=>r | r=>r) (lD n r (.tup [.str s,.n j,x]) s y0 y0 y0 y0) h= .ret (.v (aG (XL s j (Xj n v s) (Xj n u s)))) h:=by
 have i:n*n<=16:=Af2 y y
 simp only [bj]
 refine(za (by rw [exec];simp_all [aa,WD,e];rfl)).trans ?_
 have B:Gm (u9 (m+1)) (.or (.cmp .eq .v3 (.str Za)) (.cmp .eq .v3 (.str zc))) (lD n r (.tup [.str s,.n j,x]) s (si v) (si u) y0 y0) h= .ok (s==Za||s==zc) h:=by
  rw [Gm,km (a:=s==Za) (b:=s==zc) (by simp_all [Xa]) (by simp_all [Xa]),R.ae];rfl
 have g: ∀(w:W) (p:List (Nat×Nat)) (X:Tx),p.length<=4->(∀ a b:Option W,Gk (u9 m) (.seq .v2) [a,b,k0 w] h= .ok (p.map pD) h)->call prog _ "_law_ruled" [.b _,.i j,w] h= .ok _ h:=fun w p X f D=>Ie m j (s==X) h f D
 have up:(s∈ [Za,jb])↔(s==Za)=u0\/(s==jb)=true:=by simp
 by_cases c:(s==Za||s==zc)=u0
 ·have d:s∈ [Za,zc]:=by simpa using c
  have ne:(s==jb)=false:=by
   have: ∀s∈ [Za,zc],(s==jb)=false:=by decide
   exact this s d
  have k:=g (.bor [aZ (ZA n v).sum (ZA n u).sum]) [((ZA n v).sum,(ZA n u).sum)] Za (by simp) (λa b=>rfl)
  have l:call prog (m+1) "_law_many" [.i v] h= .ok (.i ((ZA n v).sum)) h:=by rw [JS m _ v h i F,jG n v n,ZA]
  have t:call prog (m+1) "_law_many" [.i u] h= .ok (.i ((ZA n u).sum)) h:=by rw [JS m _ u h i G,jG n u n,ZA]
  rw [qa (w:= .v (aG (XL s j (Xj n v s) (Xj n u s)))) (h1:=h)]
  refine(Jr (h1:=h) (by rw [B,c])).trans (qa (Ja rfl ?_))
  rw [XL,Xj,Xj,if_pos d,if_pos d]
  simp_all [Xa,aa,Qq,l,t,k]
  have iff:(s∈ [Za,jb])↔(s==Za)=true:=up.trans (by rw [ne];simp)
  by_cases q:s∈ [Za,jb]
  ·rw [if_pos q,if_pos (iff.mp q)]
  ·rw [if_neg q,if_neg λz=>q (iff.mpr z)]
 ·have o:(s==Za||s==zc)=false:=by simpa using c
  have d:s∉ [Za,zc]:=by simpa using c
  have ne:(s==Za)=false:=by
   rw [Bool.or_eq_false_iff]at o
   exact o.1
  rw [xa (by rw [B,o])]
  have E:=qV n (by omega)
  have f:((2 ^ n:Nat):Int)-1=((2 ^ n-1:Nat):Int):=by
   have:=Ad n
   omega
  refine(za (by simp_all [E,We,f];rfl)).trans ?_
  have C:eval (u9 (m+1)) jq (lD n r (.tup [.str s,.n j,x]) s (si v) (si u) (si (2 ^ n-1)) y0) h= .ok (.own (((ZA n v).zip (ZA n u)).map pD)) h:=by
   unfold jq
   rw [Qo (n:=n) (λa=>aZ (q5 n (tb n v) a) (q5 n (tb n u) a)) rfl (by omega) λa I=>⟨.v (aZ (q5 n (tb n v) a) (q5 n (tb n u) a)),?_,rfl⟩]
   ·rw [ZA,ZA,List.zip_map',Ad6];rfl
   ·have H:Gi .mul (a:Int) (n:Int)=k0 ((a*n:Nat):Int):=Zc a n (by omega)
    have lt: ∀w:Nat,(w / 2 ^ (a*n) &&& (2 ^ n-1))<2 ^ n:=λw=>by rw [Af5];exact Aj6 _ (Ad n)
    have l:call prog (m+1) "_law_many" [.i (v / 2 ^ (a*n) &&& (2 ^ n-1))] h= .ok (.i (q5 n (tb n v) a)) h:=by rw [JS m n _ h (by omega) (lt v),pH]
    have t:call prog (m+1) "_law_many" [.i (u / 2 ^ (a*n) &&& (2 ^ n-1))] h= .ok (.i (q5 n (tb n u) a)) h:=by rw [JS m n _ h (by omega) (lt u),pH]
    simp_all [H,Jk,jc,Wc,l,t]
  have A:(ZA n v).length=(ZA n u).length:=by simp [ZA]
  have k:=g (.l (((ZA n v).zip (ZA n u)).map pD)) ((ZA n v).zip (ZA n u)) jb (by rw [Al4];simp [ZA];omega) (λa b=>rfl)
  rw [List.map_fst_zip (Al0 A),List.map_snd_zip (Al0 A.symm)]at k
  refine(za (by rw [exec,C];rfl)).trans ?_
  rw [qa (w:= .v (aG (XL s j (Xj n v s) (Xj n u s)))) (h1:=h)]
  refine Ja rfl ?_
  rw [XL,Xj,Xj,if_neg d,if_neg d]
  simp_all [Xa,aa,Qq,k]
  have iff:(s∈ [Za,jb])↔(s==jb)=true:=up.trans (by rw [ne];simp)
  by_cases q:s∈ [Za,jb]
  ·rw [if_pos q,if_pos (iff.mp q)]
  ·rw [if_neg q,if_neg λz=>q (iff.mpr z)]
def Cy (f:n<=4) (c:s∈ [Za,zc,jb,wh]) (i:v<2 ^ (n*n)) (g:u<2 ^ (n*n)) (e:call prog (m+1) "_law_bounds" [.i n,.r r,.v x] h= .ok (.v (aZ v u)) h):call prog (m+2) "_law_fact" [.i n,.r r,.t [.str s,.n j,x]] h= .ok (.v (aG (XL s j (Xj n v s) (Xj n u s)))) h:=by
 have z:=n5 (j:=j) f c i g e
 rw [Gb rfl _ _ _ rfl]
 simp only [bj]at z ⊢
 have d:=by
  have: ∀s∈ [Za,zc,jb,wh],(s==xj)=k9/\(s==Q0)=false:=by decide
  exact this s c
 refine fx (by simp_all [Ze];rfl) ?_
 rw [xa (by rw [Gm,km (a:=s==xj) (b:=s==Q0) (by simp_all [Xa]) (by simp_all [Xa]),R.ae,d.1,d.2];rfl),z,Ga _ _ _ rfl]
def vr {b:Bool}(a:n<=4) (f:v<2 ^ (n*n)) (c:u<2 ^ (n*n)) (e:call prog (m+1) "_law_bounds" [.i n,.r r,.v x] h= .ok (.v (aZ v u)) h):call prog (m+2) "_law_fact" [.i n,.r r,.t [.str (if b then xj else Q0),x]] h= .ok (.v (aG (XL (if b then Za else zc) b.toNat (Xj n v (if b then Za else zc)) (Xj n u (if b then Za else zc))))) h:=by
 cases b with
 | true=>
  have z:=n5 (s:=Za) (j:=1) a (by decide) f c e
  rw [Gb rfl _ _ _ rfl]
  simp only [bj]at z ⊢
  refine fx (by simp_all [aa,Ze];rfl) ?_
  rw [za (τ1:=lD n r (.tup [.str Za,.n (1),x]) Za y0 y0 y0 y0) rfl,z,Ga _ _ _ rfl]
  rfl
 | false=>
  have z:=n5 (s:=zc) (j:=0) a (by decide) f c e
  rw [Gb (d:=bj) rfl _ _ _ rfl]
  simp only [bj]at z ⊢
  refine fx (by simp_all [aa,Ze];rfl) ?_
  rw [za (τ1:=lD n r (.tup [.str zc,.n (0),x]) zc y0 y0 y0 y0) (h1:=h) rfl,z,Ga _ _ _ rfl]
  rfl
end
abbrev gk (n r:Nat) (d:D) (s:Tx) (b a c:Option W):Sl:= [si n,k0 (.r r),sv d,k0 (.s s),b,a,c]
def E7 (b) (p q) (h):Gr .mem (.b b) (.l [aG p,aG q]) h=k0 (p==k0 b||q==k0 b):=by
 cases b<;>rcases p with _ | _ | _<;>rcases q with _ | _ | _<;>rfl
def B3 (p q) (h):Gr .mem (.v .aj) (.l [aG p,aG q]) h=k0 (p==y0||q==y0):=by
 rcases p with _ | _ | _<;>rcases q with _ | _ | _<;>rfl
def yY (b) (p q:Option Bool) (c:(p==k0 b||q==k0 b)=u0):k0 b=if b then e6 p q else X8 p q:=by
 cases b<;>rcases p with _ | _ | _<;>rcases q with _ | _ | _<;>first | rfl | cases c
def BC (b) (p q:Option Bool) (a:(p==k0 b||q==k0 b)=k9) (c:(p==y0||q==y0)=u0):y0=if b then e6 p q else X8 p q:=by
 cases b<;>rcases p with _ | _ | _<;>rcases q with _ | _ | _<;>first | rfl | exact absurd a (by decide) | exact absurd c (by decide)
def Dy (b) (p q) (c:(p==k0 b||q==k0 b)=k9) (a:(p==y0||q==y0)=k9):k0 (!b)=if b then e6 p q else X8 p q:=by
 cases b<;>rcases p with _ | _ | _<;>rcases q with _ | _ | _<;>first | rfl | exact absurd c (by decide) | exact absurd a (by decide)
section
variable {m n r:Nat}{h:AH}
def Wx (z:execs (u9 m) (match ba.body with | .cons _ r=>r | r=>r) (gk n r (.tup (.str s::ds)) s y0 y0 y0) h= .ret (.v d) h):call prog (m+1) "_law_told" [.i n,.r r,.t (.str s::ds)] h= .ok (.v d) h:=by
 rw [Gb rfl _ _ _ rfl]
 simp only [ba]at z ⊢
 rw [za (τ1:=gk n r (.tup (.str s::ds)) s y0 y0 y0) (h1:=h) (by simp_all [aa,Ze]),z,Ga _ _ _ rfl]
def LM (e:call prog m "_law_told" [.i n,.r r,.v x] h= .ok (.v (aG p)) h):call prog (m+1) "_law_told" [.i n,.r r,.t [.str wK,x]] h= .ok (.v (aG (p.map (!·)))) h:=by
 refine Wx ?_
 simp only [ba]
 rw [qa]
 refine(Jr (zk (s:=wK) _ rfl)).trans ?_
 refine(za (by simp_all [aa,Qq,e];rfl)).trans ?_
 cases p with
 | none=>exact qa ((Jr rfl).trans (qa rfl))
 | some b=>
  rw [xa rfl]
  exact qa (Ja rfl (by simp_all [];rfl))
def C7 (a:call prog m "_law_told" [.i n,.r r,.v x] h= .ok (.v (aG p)) h) (b:call prog m "_law_told" [.i n,.r r,.v y] h= .ok (.v (aG q)) h):eval (u9 m) zq (gk n r d s x4 (some (.l [x,y])) none) h= .ok (.own [aG p,aG q]) h:=by
 exact J3 rfl (by assumption) (by assumption)
def vw (f:call prog m "_law_told" [.i n,.r r,.v x] h= .ok (.v (aG p)) h) (g:call prog m "_law_told" [.i n,.r r,.v y] h= .ok (.v (aG q)) h):execs (u9 m) (.cons (.af 6 zq) (.cons (.r (.cmp .mem (.cmp .eq .v3 (.str Qx)) .v6) (.cmp .eq .v3 (.str Qx))) (.cons (.r (.cmp .mem .aj .v6) .aj) (.a (.ret (.cmp .ne .v3 (.str Qx))))))) (gk n r d s none (some (.l [x,y])) none) h= .ret (.v (aG (if s==Qx then e6 p q else X8 p q))) h:=by
 rw [za (τ1:=gk n r d s y0 _ _) (by rw [exec,C7 f g];rfl)]
 have c:Gm (u9 m) (.cmp .mem (.cmp .eq .v3 (.str Qx)) .v6) (gk n r d s y0 (k0 (.l [x,y])) (k0 (.l [aG p,aG q]))) h= .ok (p==k0 (s==Qx)||q==k0 (s==Qx)) h:=by
  simp_all [Xa,E7]
 have e:Gm (u9 m) (.cmp .mem .aj .v6) (gk n r d s y0 (k0 (.l [x,y])) (k0 (.l [aG p,aG q]))) h= .ok (p==y0||q==y0) h:=by
  simp_all [B3]
 have ne:Gr .ne (.s s) (.s Qx) h=k0 (!(s==Qx)):=by
  have this:=Xa s Qx h
  exact congrArg (Option.map (!·)) this
 cases a:(p==k0 _||q==k0 _)with
 | true=>
  rw [Xe (w:= .b (s==Qx)) (by rw [c,a]) (Ja rfl (by simp_all [Xa]))]
  rw [← yY _ p q a]
  rfl
 | false=>
  rw [xa (by rw [c,a])]
  cases b:(p==y0||q==y0)with
  | true=>
   rw [Xe (by rw [e,b]) rfl]
   rw [← BC _ p q a b]
   rfl
  | false=>
   rw [xa (by rw [e,b]),qa (w:= .b (!(s==Qx))) (h1:=h) (Ja rfl (by simp_all [ne]))]
   rw [← Dy _ p q a b]
   rfl
def mV :Gm (u9 m) (.cmp .mem .v3 (.lst (.c (.str Zw) (.str Qx) (.str Zb)))) (gk n r d s y0 y0 y0) h= .ok (y9 (s∈ [Zw,Qx,Zb])) h:=by
 have:=JU s [Zw,Qx,Zb] h
 simp only [Ab1,Af]at this
 simp_all [this]
def sx (b:(s==wK)=k9) (a:s∈ [Zw,Qx,Zb]) (e:(s==Zb)=k9) (d:call prog m "_law_told" [.i n,.r r,.v x] h= .ok (.v (aG p)) h) (c:call prog m "_law_told" [.i n,.r r,.v y] h= .ok (.v (aG q)) h):call prog (m+1) "_law_told" [.i n,.r r,.t [.str s,x,y]] h= .ok (.v (aG (if s==Qx then e6 p q else X8 p q))) h:=by
 refine Wx ?_
 simp only [ba]
 rw [xa ((zk _ rfl).trans (by rw [b])),qa]
 refine(Jr (by rw [mV,decide_eq_true a])).trans ?_
 refine(za (by simp_all [WD];rfl)).trans ?_
 rw [xa ((zk _ rfl).trans (by rw [e]))]
 exact vw d c
def LD (a:call prog m "_law_told" [.i n,.r r,.t [.str XF,x,y]] h= .ok (.v (aG p)) h) (b:call prog m "_law_told" [.i n,.r r,.t [.str XF,y,x]] h= .ok (.v (aG q)) h):call prog (m+1) "_law_told" [.i n,.r r,.t [.str Zb,x,y]] h= .ok (.v (aG (X8 p q))) h:=by
 refine Wx ?_
 simp only [ba]
 rw [xa (zk (s:=Zb) _ rfl),qa]
 refine(Jr (by rw [mV];rfl)).trans ?_
 refine(za (by simp_all [WD];rfl)).trans ?_
 rw [za ((Jr (zk (s:=Zb) _ rfl)).trans (by
  rw [za (τ1:=gk n r (.tup [.str Zb,x,y]) Zb y0 (k0 (.l [.tup [.str XF,x,y],.tup [.str XF,y,x]])) y0) (h1:=h) (by simp_all [aa,Qq,WD]),execs]))]
 exact vw a b
def nD (a:call prog (m+1) "_law_bounds" [.i n,.r r,.v x] h= .ok (.v (aZ v u)) h) (b:call prog (m+1) "_law_bounds" [.i n,.r r,.v y] h= .ok (.v (aZ v' u')) h):call prog (m+2) "_law_told" [.i n,.r r,.t [.str XF,x,y]] h= .ok (.v (aG (dC v u v' u'))) h:=by
 refine Wx ?_
 simp only [ba]
 rw [xa (zk (s:=XF) _ rfl),xa (by rw [mV];rfl),Xe (w:= .v (aG (dC v u v' u'))) (zk (s:=XF) _ rfl) (Ja rfl (by simp_all [aa,Qq,WD,a,b,Ey]))]
def nc (h1:(s==wK)=k9) (a:s∉ [Zw,Qx,Zb]) (b:(s==XF)=k9) (e:call prog m "_law_fact" [.i n,.r r,.t (.str s::ds)] h= .ok (.v d) h):call prog (m+1) "_law_told" [.i n,.r r,.t (.str s::ds)] h= .ok (.v d) h:=by
 refine Wx ?_
 simp only [ba]
 rw [xa ((zk _ rfl).trans (by rw [h1])),xa (by rw [mV,decide_eq_false a]),xa ((zk _ rfl).trans (by rw [b])),qa (w:= .v d) (h1:=h) (Ja rfl (by assumption))]
end
def uM (P:Dc a b f r h): ∀ s m,s.dp+8<=m->s.wf (a.K++a.T)-> ∃q,Td a b s q/\call prog m "_law_told" [.i a.n,.r r,.v (aC s)] h= .ok (.v (aG q)) h:=by
 have n4:=P.n4
 intro s
 induction s with
 | fact f=>
  intro m c wf
  simp only [Sy.dp]at c
  cases f with
  | du x y=>
   simp only [Fc.dp]at c
   obtain⟨k,rfl⟩:=nk m 2 (by lia)
   obtain⟨v,u,q,e⟩:=zl P x (k+1) (by lia) wf.1
   obtain⟨l,w,n,d⟩:=zl P y (k+1) (by lia) wf.2
   exact⟨_,⟨v,u,l,w,q,n,rfl⟩,nD e d⟩
  | dJ x y=>
   simp only [Fc.dp]at c
   obtain⟨k,rfl⟩:=nk m 3 (by lia)
   obtain⟨v,u,q,e⟩:=zl P x (k+1) (by lia) wf.1
   obtain⟨l,w,n,d⟩:=zl P y (k+1) (by lia) wf.2
   exact⟨_,⟨v,u,l,w,q,n,rfl⟩,LD (nD e d) (nD d e)⟩
  | dX x=>
   simp only [Fc.dp]at c
   obtain⟨k,rfl⟩:=nk m 3 (by lia)
   obtain⟨v,u,q,e⟩:=zl P x (k+1) (by lia) wf
   exact⟨_,⟨v,u,q,rfl⟩,nc rfl (by decide) rfl (vr (b:=u0) n4 q.lo.1 q.hi.1 e)⟩
  | aj x=>
   simp only [Fc.dp]at c
   obtain⟨k,rfl⟩:=nk m 3 (by lia)
   obtain⟨v,u,q,e⟩:=zl P x (k+1) (by lia) wf
   exact⟨_,⟨v,u,q,rfl⟩,nc rfl (by decide) rfl (vr (b:=k9) n4 q.lo.1 q.hi.1 e)⟩
  | cnt s j x=>
   simp only [Fc.dp]at c
   obtain⟨k,rfl⟩:=nk m 3 (by lia)
   obtain⟨v,u,q,e⟩:=zl P x (k+1) (by lia) wf.2
   have z: ∀s∈ [Za,zc,jb,wh],(s==wK)=k9/\s∉ [Zw,Qx,Zb]/\(s==XF)=false:=by decide
   obtain⟨C,A,B⟩:=z s wf.1
   exact⟨_,⟨v,u,q,rfl⟩,nc C A B (Cy n4 wf.1 q.lo.1 q.hi.1 e)⟩
 | neg x D=>
  intro m c wf
  simp only [Sy.dp]at c
  obtain⟨k,rfl⟩:=nk m 1 (by lia)
  obtain⟨q,t,e⟩:=D k (by lia) wf
  exact⟨_,⟨q,t,rfl⟩,LM e⟩
 | cg x y i g=>
  intro m c wf
  simp only [Sy.dp]at c
  obtain⟨k,rfl⟩:=nk m 1 (by lia)
  obtain⟨p,t,e⟩:=i k (by lia) wf.1
  obtain⟨q,o,d⟩:=g k (by lia) wf.2
  exact⟨_,⟨p,q,t,o,rfl⟩,sx (s:=Zw) rfl (by decide) rfl e d⟩
 | cj x y i g=>
  intro m c wf
  simp only [Sy.dp]at c
  obtain⟨k,rfl⟩:=nk m 1 (by lia)
  obtain⟨p,t,e⟩:=i k (by lia) wf.1
  obtain⟨q,o,d⟩:=g k (by lia) wf.2
  exact⟨_,⟨p,q,t,o,rfl⟩,sx (s:=Qx) rfl (by decide) rfl e d⟩
abbrev ah (ns:List Int) (i:Nat) (v:Int):Cell:= .lst [.lst (ns.map .int),.n i,.int v]
def FV:Gi .pow 10 18=k0 1000000000000000000:=by
 have:(0:Int)<=18/\ 18<=BP/\(10:Int).natAbs<kl:=by rw [G8,GD];decide
 show(if _ then _ else _)=_
 rw [if_pos this]
 rfl
def KP (v)(e:eval F (.ix .v0 (.int 2)) τ h= .ok (.v (.int v)) h):Gm F (.not (.chain .le .lt (.int 0) (.ix .v0 (.int 2)) (.bin .pow (.int 10) (.int 18)))) τ h= .ok (!(y9 (0<=v)&&y9 (v<1000000000000000000))) h:=by
 rw [Gm,eval]
 rw [show eval F _ τ h= .ok (.b (y9 (0<=v)&&y9 (v<1000000000000000000))) h by
  rw [eval,eval,R.ae,e,R.ae]
  by_cases q: 0<=v
  ·simp_all [W3,jZ,FV,q,decide_true,Ae1]
  ·simp_all [W3,q,decide_false,Ae8]]
 simp_all []
def Wg (k:Nat){ns:List Int}{i:Nat}{v:Int}{h:AH}{r m:Nat}(e:h[r]? =k0 (ah ns i v)) (G:0<m) (E:m<1073741824):
 ∃(d:Nat) (g:Int),d<m/\call prog (k+1) "_law_draw" [.r r,.i m] h= .ok (.i d) (h.set r (ah ns i g)):=by
 rw [Gb (d:=wB) rfl _ _ _ rfl]
 have a:(0:Int)<(m:Int):=by omega
 have q:r<h.length:=(Aa1.mp e).1
 have i2:eval (u9 k) (.ix .v0 (.int 2)) [k0 (.r r),si m,y0] h= .ok (.v (.int v)) h:=by simp_all [zv e,i6]
 have l:=KP v i2
 show ∃d g,_/\Gw _ (execs _ _ [k0 (.r r),si m,y0] h)=_
 simp only [wB]
 have o: ∀x:Int,∃d:Nat,d<m/\x % (m:Int)=(d:Int):=λx=>⟨(x % (m:Int)).toNat,by have:=Ao6 x a;have:=An4 x (Int.ne_of_gt a);omega,by have:=An4 x (Int.ne_of_gt a);omega⟩
 cases c:(y9 (0<=v)&&y9 (v<1000000000000000000))with
 | false=>
  obtain⟨d,b,f⟩:=o v
  refine⟨d,v / (m:Int),b,?_⟩
  have y:dG .divmod [.v (.int v),.i m] h=aq (.tup [.int (v / (m:Int)),.n d]) h:=by
   rw [W5,if_pos ⟨a,by rw [GS];omega⟩,f]
  rw [qa (w:= .i d) (h1:=h.set r (ah ns i (v / (m:Int))))]
  ·exact Ga _ h _ (by rw [Ae4])
  refine(Jr (h1:=h) (by rw [l,c];rfl)).trans ?_
  refine(za (by
   rw [exec,show eval (u9 k) (.bi .divmod (.b (.ix .v0 (.int 2)) .v1)) [k0 (.r r),si m,y0] h=aq (.tup [.int (v / (m:Int)),.n d]) h by simp_all [zv e,i6,y]]
   simp_all [aq,fF,Km,e,EY,GN,if_true]
   rfl)).trans ?_
  exact qa rfl
 | true=>
  rw [Aa0,decide_eq_true_eq,decide_eq_true_eq]at c
  have s:Gi .mul v 742939=k0 (v*742939):=X5 _ _ (by decide)
  have B:Gi .mul (i:Int) 65063=k0 ((i:Int)*65063):=X5 _ _ (by decide)
  have j:Gi .mod (v*742939+(i:Int)*65063+40503) 16777213=k0 ((v*742939+(i:Int)*65063+40503) % 16777213):=ZI _ _ (by decide)
  have u:=An4 (v*742939+(i:Int)*65063+40503) (show (16777213:Int)≠0 by decide)
  have p:=Ao6 (v*742939+(i:Int)*65063+40503) (show (0:Int)<16777213 by decide)
  generalize D:(v*742939+(i:Int)*65063+40503) % 16777213=w at j u p
  have i1:eval (u9 k) (.ix .v0 (.int 1)) [k0 (.r r),si m,y0] h= .ok (.i i) h:=by simp_all [zv e,WY]
  have e2:(h.set r (ah ns i w))[r]? =k0 (ah ns i w):=Ab9 q
  obtain⟨d,b,f⟩:=o (w*(w % 4093+7) / 64)
  refine⟨d,w,b,?_⟩
  rw [xa (by rw [l,decide_eq_true c.1,decide_eq_true c.2];rfl)]
  rw [za (τ1:= [k0 (.r r),si m,y0]) (h1:=h.set r (ah ns i w)) (zA (d:= .int w) (xs:= [.lst (ns.map .int),.n i,.int v]) (n:=2) (by
   simp_all [zv e,WY,i6,s,B,Jc,j]) rfl e rfl rfl rfl)]
  have F:=An4 w (show (4093:Int)≠0 by decide)
  have C:=Ao6 w (show (0:Int)<4093 by decide)
  have A:Gi .mod w 4093=k0 (w % 4093):=ZI _ _ (by decide)
  have t:Gi .mul w (w % 4093+7)=k0 (w*(w % 4093+7)):=X5 _ _ (by omega)
  have z:Gi .fdiv (w*(w % 4093+7)) 64=k0 (w*(w % 4093+7) / 64):=uv _ _ (by decide) (by decide)
  have n4:Gi .mod (w*(w % 4093+7) / 64) (m:Int)=k0 ((d:Nat):Int):=by rw [ZI _ _ a,f]
  rw [qa (w:= .i d) (h1:=h.set r (ah ns i w)) (Ja rfl (by simp_all [zv e2,i6,A,Jc,t,z,n4]))]
  exact Ga _ h _ (by rw [Ae4])
def ur {ns:List Int}(b:ns.length<=63) (q:eval F e τ h= .ok (.l (ns.map .int)) h): ∃s,eval F (.bi .sum (.a (.fU e (.int j)))) τ h= .ok (.v (.int s)) h:=by
 have a:(cut ns y0 (k0 j)).length<=bg:=by
  have:=IW ns y0 (k0 j)
  rw [Gg];lia
 refine⟨(cut ns y0 (k0 j)).sum,?_⟩
 simp_all [q,rp,AF,ud,Z1,Aa,a,if_true]
def B6 (k) (ns:List Int) (a:ns.length<=63) (h): ∃v,call prog (k+1) "_law_start" [.l (ns.map .int)] h= .ok (.own [.lst (ns.map .int),.n (0),.int v]) h:=by
 show ∃v,Gw _ (execs _ _ [k0 _] h)=_
 obtain⟨s,e⟩:=ur (F:=(u9 k)) (e:= .var 0) (τ:= [k0 (.l (ns.map .int))]) (h:=h) (j:=1) a (by simp_all [])
 refine⟨s,?_⟩
 simp only [JI]
 rw [qa (w:= .own [.lst (ns.map .int),.n (0),.int s]) (h1:=h) (QA rfl (by
  generalize E.bi _ _=X at e ⊢
  simp_all [e]
  rfl)),Gu _ _ _ rfl]
def rk (k)(j:ns.length<=63) (e:h[r]? =k0 (ah ns i v)):
 ∃v':Int,call prog (k+1) "_law_turn" [.r r] h= .ok (.v .aj) (h.set r (ah ns (i+1) v')):=by
 rw [Gb rfl _ _ _ rfl]
 have c:r<h.length:=(Aa1.mp e).1
 have e1:(h.set r (ah ns (i+1) v))[r]? =k0 _:=Ab9 c
 show ∃v',Gw _ (execs _ _ [k0 (.r r)] h)=_
 simp only [jN]
 obtain⟨s,g⟩:=ur (F:=(u9 k)) (e:= .ix .v0 (.int 0)) (τ:= [k0 (.r r)]) (h:=h.set r (ah ns (i+1) v)) j (by simp_all [zv e1,mB])
 have l:Gi .mul 7 _=k0 (7*((i+1:Nat):Int)):=HI _ _ (by decide)
 have o: ∀x:Int,Gi .mod x 16777213=k0 _:=λx=>ZI _ _ (by decide)
 have a: ∀x y,(h.set r (ah ns (i+1) x)).set r _=h.set r (ah ns (i+1) y):=λx y=>Ad8 ..
 have i1:((i:Int)+1)=((i+1:Nat):Int):=rfl
 generalize m:(7*((i+1:Nat):Int)+s) % 16777213=w
 have e2:(h.set r (ah ns (i+1) w))[r]? =k0 _:=Ab9 c
 rw [za (h1:=h.set r (ah ns (i+1) v)) (zA (d:= .n (i+1)) (xs:= [.lst (ns.map .int),.n i,.int v]) (n:=1) (by simp_all [zv e,WY,Jc,i1]) rfl e rfl rfl rfl)]
 rw [za (τ1:= [k0 (.r r)]) (h1:=h.set r (ah ns (i+1) w)) (zA (d:= .int w) (xs:= [.lst (ns.map .int),.n (i+1),.int v]) (n:=2) (by
  generalize E.bi _ _=X at g ⊢
  simp_all [g,zv e1,WY,l,Jc,o,m]) rfl e1 rfl rfl (a v w).symm)]
 have f:Gm (u9 k) (.cmp .lt (.ix .v0 (.int 1)) (.bi .len (.a (.ix .v0 (.int 0))))) [k0 (.r r)] (h.set r (ah ns (i+1) w))= .ok (y9 (i+1<ns.length)) (h.set r (ah ns (i+1) w)):=by
  have:(y9 (((i+1:Nat):Int)<(ns.length:Int)))=y9 (i+1<ns.length):=decide_eq_decide.mpr (by omega)
  simp_all [zv e2,WY,mB,JJ,aq,Aa,jZ,this]
 by_cases q:i+1<ns.length
 ·refine⟨ns[i+1],?_⟩
  have b:aU (ns.map D.int) ((i+1:Nat):Int)=k0 (.int ns[i+1]):=by
   rw [jg _ _ (by rw [Aa];exact q),Ac2,Aa6 q];rfl
  rw [za (τ1:= [k0 (.r r)]) (h1:=h.set r (ah ns (i+1) ns[i+1])) ((Jr (h1:=h.set r (ah ns (i+1) w)) (by rw [f,decide_eq_true q])).trans (by
   rw [za (τ1:= [k0 (.r r)]) (h1:=h.set r (ah ns (i+1) ns[i+1])) (zA (d:= .int ns[i+1]) (xs:= [.lst (ns.map .int),.n (i+1),.int w]) (n:=2) (by
    simp_all [zv e2,mB,WY,Jq,b]) rfl e2 rfl rfl (a w _).symm),execs]))]
  rw [execs]
  exact Gz _ h _ (by rw [Ae4])
 ·refine⟨w,?_⟩
  rw [xa (by rw [f,decide_eq_false q]),execs]
  exact Gz _ h _ (by rw [Ae4])
def V.uniq (h:V n v g) (q:V n w g):v=w:=Wf.ek h.lt q.lt λk a=>by
 have b:=h.2 _ _ (Wf.bb a) (Wf.aV a)
 have c:=q.2 _ _ (Wf.bb a) (Wf.aV a)
 rw [Wf.bp]at b c
 rw [An2,b,c]
theorem B.uniq (h:B a b e v u) (q:B a b e v' u'):v=v'/\u=u':=⟨h.lo.uniq q.lo,h.hi.uniq q.hi⟩
theorem f7.uniq (h:f7 a b f p) (k:f7 a b f q):p=q:=by
 cases f with
 | du x y=>
  obtain⟨v,u,i,n,d,e,rfl⟩:=h
  obtain⟨w,t,m,l,c,g,rfl⟩:=k
  obtain⟨rfl,rfl⟩:=d.uniq c
  obtain⟨rfl,rfl⟩:=e.uniq g
  rfl
 | dJ x y=>
  obtain⟨v,u,i,n,d,e,rfl⟩:=h
  obtain⟨w,t,m,l,c,g,rfl⟩:=k
  obtain⟨rfl,rfl⟩:=d.uniq c
  obtain⟨rfl,rfl⟩:=e.uniq g
  rfl
 | dX x=>
  obtain⟨v,u,d,rfl⟩:=h
  obtain⟨w,t,c,rfl⟩:=k
  obtain⟨rfl,rfl⟩:=d.uniq c
  rfl
 | aj x=>
  obtain⟨v,u,d,rfl⟩:=h
  obtain⟨w,t,c,rfl⟩:=k
  obtain⟨rfl,rfl⟩:=d.uniq c
  rfl
 | cnt s j x=>
  obtain⟨v,u,d,rfl⟩:=h
  obtain⟨w,t,c,rfl⟩:=k
  obtain⟨rfl,rfl⟩:=d.uniq c
  rfl
theorem Td.uniq : ∀ {s}{p q},Td a b s p->Td a b s q->p=q
 | .fact _,_,_,h,k=>f7.uniq h k
 | .neg _,_,_,⟨p,h,e⟩,⟨q,k,c⟩=>by rw [e,c,Td.uniq h k]
 | .cg _ _,_,_,⟨p,q,h,d,e⟩,⟨g,i,k,f,c⟩=>by rw [e,c,Td.uniq h k,Td.uniq d f]
 | .cj _ _,_,_,⟨p,q,h,d,e⟩,⟨g,i,k,f,c⟩=>by rw [e,c,Td.uniq h k,Td.uniq d f]
theorem vY : ∀ {N},((aO N f).lookup t).isSome=y9 (t∈N)
 | []=>rfl
 | y::N=>by
  show(Aj t ((y,_)::aO N f)).isSome=_
  rw [Ab7]
  by_cases e:t=y
  ·subst e;rw [beq_self_eq_true,decide_eq_true Aa4];rfl
  ·rw [beq_eq_false_iff_ne.mpr e]
   rw [vY]
   exact decide_eq_decide.mpr ⟨Aa2 _,λh=>(Ac.mp h).resolve_left e⟩
def WU (f:Tx->Nat×Nat) (t:Tx) (p:Nat×Nat):Tx->Nat×Nat:=λx=>if x=t then p else f x
def s9 (h:t∈N):GE (aO N f) t (aZ p.1 p.2)=aO N (WU f t p):=by
 unfold GE aO
 rw [if_pos (Ad1.mpr ⟨_,Ab6.mpr ⟨t,h,rfl⟩,by simp⟩)]
 rw [Ad6]
 refine Ai1 λx a=> ?_
 show(if x=t then(x,aZ p.1 p.2)else(x,aZ (f x).1 (f x).2))=(x,aZ (WU f t p x).1 (WU f t p x).2)
 unfold WU
 by_cases e:x=t
 ·rw [if_pos e,if_pos e]
 ·rw [if_neg e,if_neg e]
def zx (k) (d) (h) (a:Gd d=u0):call prog (k+1) "_law_whole" [.v d] h= .ok (.b (Xw d)) h:=by
 cases d<;>first | exact Ga _ _ _ rfl | cases a
abbrev um (n r:Nat) (b dn d c:D) (e h g f a:Option W):Sl:= [si n,k0 (.r r),sv b,sv dn,sv d,sv c,e,h,g,f,a]
def Js (e:h[r]? =k0 (.aN ks)):GT h (k0 (.r r))=k0 (r,ks):=by unfold GT;simp [e]
def J7 (v p:Nat):Gi .band (v:Int) ((2 ^ p:Nat):Int)=k0 ((if v.testBit p then 2 ^ p else 0:Nat):Int):=by
 rw [jc,Wc]
 congr 2
 refine Aj8 λk=> ?_
 rw [Ah1,Ad7]
 by_cases e:p=k
 ·subst e
  rw [decide_eq_true rfl,Bool.and_true]
  cases v.testBit p with
  | true=>rw [if_pos rfl,Ak0]
  | false=>rw [if_neg Ab2,Af9]
 ·rw [decide_eq_false e,Ah7]
  cases v.testBit p with
  | true=>rw [if_pos rfl,Ad7,decide_eq_false e]
  | false=>rw [if_neg Ab2,Af9]
def Bx (k)(e:h[r]? =k0 (.aN (aO N f))) (D:n<=4) (i:t∈N) (hN:N.length<=100) (o:a<n) (s:b<n) (l:(f t).1.testBit (a*n+b)=k9) (j:(f t).2.testBit (a*n+b)=u0):
 call prog (k+2) "_law_split" [.i n,.r r,.t [.str t,.n a,.n b]] h= .ok (.own [.ref h.length,.ref (h.length+1)]) (h++ [.aN (aO N (WU f t ((f t).1 ||| 2 ^ (a*n+b),(f t).2))),.aN (aO N (WU f t ((f t).1,(f t).2-2 ^ (a*n+b))))]):=by
 rw [Gb (d:=xw) rfl _ _ _ rfl]
 have J:r<h.length:=(Aa1.mp e).1
 have u:a*n+b<16:=by
  have:=Wf.place_lt o s
  have:n*n<=16:=Af2 D D
  omega
 have ge:2 ^ _<=(f t).2:=Nat.ge_two_pow_of_testBit j
 generalize M:a*n+b=p at l j u ge ⊢
 have G:(aO N f).length<bg:=by rw [Gg,aO,Aa];omega
 generalize O:(f t).1=A at l ⊢
 generalize X:(f t).2=c at j ge ⊢
 have B:aO N _=GE (aO N f) t _:=(s9 (p:=(A ||| 2 ^ p,c)) i).symm
 have S:aO N _=GE (aO N f) t _:=(s9 (p:=(A,c-2 ^ p)) i).symm
 have q:(aO N f).lookup t=k0 (aZ A c):=by rw [nY i,O,X]
 simp only [xw]
 have dd:=Js e
 refine fx (by simp_all [];rfl) ?_
 have T:cT u0 (.s t) (k0 (r,aO N f)) h= .ok (.b k9) h:=by
  unfold cT
  simp only [vY,decide_eq_true i,if_true]
  rfl
 have H:=zx k (.n a) h rfl
 have V:=zx k (.n b) h rfl
 have v:b7 .str (.s t)=k0 true:=rfl
 rw [xa (by simp_all [v,dd,T,H,V,Xw])]
 have g: ∀x:Nat,x<n->((0:Int)<=(x:Int)/\(x:Int)<(n:Int)):=λx hx=>by omega
 rw [xa (by simp_all [W3,jZ,decide_eq_true (g a o).1,decide_eq_true (g a o).2,decide_eq_true (g b s).1,decide_eq_true (g b s).2,aq])]
 have dg:eD (.s t) (k0 (r,aO N f)) h= .ok (.v (aZ A c)) h:=by unfold eD;simp only [q]
 refine fx (by simp_all [dd,dg];rfl) ?_
 have hm:Gi .mul (a:Int) (n:Int)=k0 ((a*n:Nat):Int):=Zc a n (by omega)
 have P:(((a*n:Nat):Int)+(b:Int))=((p:Nat):Int):=by rw [← M];rfl
 have I:=qV p (by omega)
 refine fx (by simp_all [hm,Jc,P,I];rfl) ?_
 have C:=J7 A p
 have F:=J7 c p
 rw [l,if_neg Ab2]at C
 rw [j,if_pos rfl]at F
 have p0:0<2 ^ p:=Ad p
 have Y:Gr .ne (.i (0)) (.v (.int 0)) h=k0 false:=rfl
 have Z:Gr .eq (.i (2 ^ p)) (.v (.int 0)) h=k0 false:=by
  have:=zn (2 ^ p) 0 h
  rw [decide_eq_false (by omega)]at this
  exact this
 rw [xa (by simp_all [C,F,Y,Z])]
 have R:((c:Int)-((2 ^ p:Nat):Int))=((c-2 ^ p:Nat):Int):=by omega
 have K:(h++ [Cell.aN (aO N f)])[h.length]? =k0 (.aN (aO N f)):=by simp
 have m:(h++ [Cell.aN (aO N f)]).set h.length (.aN (GE (aO N f) t (aZ (A ||| 2 ^ p) c)))=h++ [.aN (GE (aO N f) t (aZ (A ||| 2 ^ p) c))]:=by simp
 have nr:Gd (aZ (A ||| 2 ^ p) c)=true:=rfl
 have z:Gd (aZ A (c-2 ^ p))=true:=rfl
 refine fx (by simp_all [dd,aq];rfl) ?_
 rw [za (τ1:=um n r (.tup [.str t,.n a,.n b]) (.str t) (.n a) (.n b) (si A) (si c) (si (2 ^ p)) (k0 (.r h.length)) y0) (h1:=h++ [.aN (GE (aO N f) t (aZ (A ||| 2 ^ p) c))]) (by
  simp_all [Jm,qm,Js K,aq]
  rw [if_pos ⟨G,nr⟩,m])]
 have E:(h++ [Cell.aN (GE (aO N f) t (aZ (A ||| 2 ^ p) c))])[r]? =k0 (.aN (aO N f)):=by rw [Ad2 J,e]
 generalize GE (aO N f) t (aZ (A ||| 2 ^ p) c)=U at E B ⊢
 have L:(h++ [Cell.aN U]++ [Cell.aN (aO N f)])[h.length+1]? =k0 (.aN (aO N f)):=by simp
 have y:(h++ [Cell.aN U]++ [Cell.aN (aO N f)]).set (h.length+1) (.aN (GE (aO N f) t (aZ A (c-2 ^ p))))=h++ [Cell.aN U,.aN (GE (aO N f) t (aZ A (c-2 ^ p)))]:=by simp [List.set_append]
 have Q:(h++ [Cell.aN U]).length=h.length+1:=by simp
 refine fx (by simp_all [Js E,aq,Q];rfl) ?_
 rw [za (τ1:=um n r (.tup [.str t,.n a,.n b]) (.str t) (.n a) (.n b) (si A) (si c) (si (2 ^ p)) (k0 (.r h.length)) (k0 (.r (h.length+1)))) (h1:=h++ [.aN U,.aN (GE (aO N f) t (aZ A (c-2 ^ p)))]) (by
  simp_all [We,R,Js L,aq]
  rw [if_pos ⟨G,z⟩,y])]
 rw [qa (w:= .own [.ref h.length,.ref (h.length+1)]) (h1:=h++ [.aN U,.aN (GE (aO N f) t (aZ A (c-2 ^ p)))]) (QA rfl (by simp_all [])),B,S]
 show fin h.length (.own [.ref h.length,.ref (h.length+1)]) _=_
 unfold fin
 rw [if_neg (by simp),if_neg (by simp [W.keep])]
abbrev Pl:=Tx×Nat×Nat
def bM (p:Pl):D:= .tup [.str p.1,.n (p.2.1),.n (p.2.2)]
def eJ (n:Nat) (t:Tx):List Pl:=(Aa8 n).map λa=>(t,a,a)
def fA (n:Nat) (t:Tx):List Pl:=(Wf.ay n (2 ^ (n*n)-1)).map λq=>(t,q.1,q.2)
abbrev eF (K T:List Tx) (n:Nat) (l:List Pl) (x:Option W):Sl:= [sv (wD K T),si n,k0 (.own (l.map bM)),x]
theorem m9 (g) (d: ∀t,(g t).length<=16) (c: ∀ t l,l.length<=200->execs F b (eF K T n l (k0 (.s t))) h= .next (eF K T n (l++g t) (k0 (.s t))) h):
 ∀(a:List Tx) l x,l.length+16*a.length<=200-> ∃i,Gq (Gp [3] u0) (λτ h=>execs F b τ h) (a.map .str) (eF K T n l x) h= .next (eF K T n (l++a.flatMap g) i) h
 | [],l,x,_=>⟨x,by simp [Gq]⟩
 | t::a,l,x,f=>by
  rw [Aa7]at f
  have:=d t
  obtain⟨i,e⟩:=m9 g d c a (l++g t) (k0 (.s t)) (by rw [Aa5];omega)
  refine⟨i,?_⟩
  rw [Ab1,zb rfl (c t l (by omega)),e,Aj3,Ae7]
def Fd (k n) (K T) (h) (p:n<=4) (E:K.length<=4) (G:T.length<=4):call prog (k+3) "places_of" [.v (wD K T),.i n] h= .ok (.own ((K.flatMap (eJ n)++T.flatMap (fA n)).map bM)) h:=by
 rw [Gb (d:=jw) rfl _ _ _ rfl]
 have i:n*n<=16:=Af2 p p
 simp only [jw]
 have m: ∀t,(eJ n t).length<=16:=λt=>by simp [eJ];omega
 have lt: ∀t,(fA n t).length<=16:=λt=>by
  rw [fA,Aa,Wf.ay,Aa]
  exact Ab5 (Aj0 _ _) (by rw [Ah0];exact i)
 have f: ∀(c:List Tx) (g:Tx->List Pl),(∀ t,(g t).length<=16)->(c.flatMap g).length<=16*c.length:=λc g j=>by
  induction c with
  | nil=>simp
  | cons t c H=>rw [Aj3,Aa5,Aa7];have:=j t;omega
 have ext: ∀ e b (g:Tx->List Pl),(∀ t,(g t).length<=16)->b= .cons (.ext 2 e) .nil->(∀ (t:Tx) (l:List Pl),eval (u9 (k+2)) e (eF K T n l (k0 (.s t))) h= .ok (.own ((g t).map bM)) h)-> ∀(t:Tx) (l:List Pl),l.length<=200->execs (u9 (k+2)) b (eF K T n l (k0 (.s t))) h= .next (eF K T n (l++g t) (k0 (.s t))) h:=λe b g j B A t l D=>by
  have C:(l.map bM).length+((g t).map bM).length<bg:=by rw [Gg,Aa,Aa];have:=j t;omega
  rw [B,za (τ1:=eF K T n (l++g t) (k0 (.s t))) (h1:=h) (by rw [exec];simp_all [A,C,if_true];rw [← Ae3]),execs]
 have z:=ext xo Jz _ m rfl λt l=>by
  unfold xo
  rw [Qo (n:=n) (λa=>bM (t,a,a)) rfl (by omega) λa F=>⟨.v _,by simp_all [];rfl,rfl⟩]
  rw [eJ,Ad6];rfl
 have v:=ext Wn Qz _ lt rfl λt l=>by
  unfold Wn
  have r:Gk (u9 (k+2)) (.seq (.call "pairs_of" (.b .v1 (.call "every" (.a .v1))))) (eF K T n l (some (.s t))) h= .ok ((Wf.ay n (2 ^ (n*n)-1)).map pD) h:=by
   simp_all [vO _ n h (by omega),zt _ n _ h (by omega)]
  rw [qk (h:=h) (ds:=(Wf.ay n (2 ^ (n*n)-1)).map pD) (λd=>match d with | .tup [x,y]=> .tup [.str t,x,y] | d=>d) r (by rw [Gg,Aa,Wf.ay,Aa];have:=Aj0 (2 ^ (n*n)-1).testBit (Aa8 (n*n));rw [Ah0]at this;omega)]
  ·rw [fA,Ad6,Ad6];rfl
  ·intro d s
   obtain⟨q,_,rfl⟩:=Ab6.mp s
   exact⟨[si _,si _,k0 _],rfl,.t [.str t,.n _,.n _],by simp_all [],rfl⟩
 obtain⟨o,e1⟩:=m9 _ m z K [] y0 (by simp;omega)
 obtain⟨u,e2⟩:=m9 _ lt v T (K.flatMap (eJ n)) o (by have:=f K (eJ n) m;omega)
 rw [Ae2]at e1
 rw [za (τ1:=eF K T n [] y0) (h1:=h) rfl]
 rw [za (τ1:=eF K T n (K.flatMap (eJ n)) o) (h1:=h) (by
  rw [exec,show Gs (u9 (k+2)) (.seq (.ix .v0 (.int 0))) (eF K T n [] y0) h= .ok (K.map .str) h by simp_all [aa,zg],R.au];exact e1)]
 rw [za (τ1:=eF K T n (K.flatMap (eJ n)++T.flatMap (fA n)) u) (h1:=h) (by
  rw [exec,show Gs (u9 (k+2)) (.seq (.ix .v0 (.int 1))) (eF K T n (K.flatMap (eJ n)) o) h= .ok (T.map .str) h by simp_all [aa,Jd],R.au];exact e2)]
 rw [qa (w:= .own ((K.flatMap (eJ n)++T.flatMap (fA n)).map bM)) (h1:=h) rfl,Gu _ _ _ rfl]
noncomputable abbrev kK:List Tx:= [fX,hI,fL,gL,[101,97,99,104],fq,hF,fj,d6,iP,iK,iV,[107,105,110,100],[116,105,101],[115,97,121]]
def XU (st:Tx) (at' f k:Nat):Tx:=st.take at'++ [97+(f+5*k) % 26]++st.drop at'
def cM (st:Tx) (at' f k:Nat):Tx:=if XU st at' f k∈kK then XU st at' f k++ [113]else XU st at' f k
def tM (h:at'<=st.length):(cM st at' f k)[at']? =k0 (97+(f+5*k) % 26):=by
 have b:(XU st at' f k)[at']? =k0 (97+(f+5*k) % 26):=by
  unfold XU
  rw [Ae7,Ad9 (by simp_all),Af6,Ak4 h,Ap]
  rfl
 unfold cM
 split
 ·rw [Ad2 (Aa1.mp b).1];exact b
 ·exact b
def BR (a:st.length<=6):(cM st at' f k).length<=8:=by
 have b:(XU st at' f k).length<=7:=by
  unfold XU
  rw [Aa5,Aa5,Af6,Af7]
  simp only [Aa7,Ae]
  lia
 unfold cM
 split
 ·rw [Aa5];simp [Ae];lia
 ·lia
def Em (st) (at' f m) (h:at'<=st.length) (a:m<=8):((Aa8 m).map (cM st at' f)).Nodup:=rS _ m a λi b j c ne z=>by
 have e1:=tM (f:=f) (k:=i) h
 have e2:=tM (f:=f) (k:=j) h
 rw [z,e2]at e1
 have:=Ad5.inj e1
 lia
abbrev c3 (r m:Nat) (f:Nat) (b a c e d:Option W):Sl:= [k0 (.r r),si m,k0 (.s ly),si f,b,a,c,e,d]
theorem yh (k): ∀(l:List Nat) h v st x,h[r]? =k0 (ah ns i v)->st.length+l.length<=6-> ∃ L v' M,L.length<=6 ∧
 Gq (Gp [5] u0) (λτ h=>execs (u9 (k+1)) Xn τ h) (l.map λj=>D.n j) (c3 r m f (k0 (.s st)) x y0 y0 y0) h= .next (c3 r m f (k0 (.s L)) M y0 y0 y0) (h.set r (ah ns i v'))
 | [],h,v,st,x,e,a=>⟨st,v,x,by simpa using a,by
  rw [show h.set r (ah ns i v)=h by
   refine List.ext_getElem? λj=> ?_
   by_cases q:r=j
   ·subst q
    rw [Ab9 (Aa1.mp e).1,e]
   ·rw [Ae0 q]]
  rfl⟩
 | j::l,h,v,st,x,e,a=>by
  rw [Aa7]at a
  obtain⟨d,v1,c,e1⟩:=Wg k e (m:=26) (by decide) (by decide)
  have b:=(Aa1.mp e).1
  obtain⟨L,v',M,g,e2⟩:=yh k l (h.set r (ah ns i v1)) v1 (st++ [97+d]) (si j) (Ab9 b) (by rw [Aa5];simp;omega)
  rw [Ad8]at e2
  refine⟨L,v',M,g,?_⟩
  have e1:call prog (k+1) "_law_draw" [.r r,.v (.int 26)] h= .ok (.i d) (h.set r (ah ns i v1)):=e1
  rw [Ab1,zb (τ1:=c3 r m f (k0 (.s st)) (si j) y0 y0 y0) rfl (by
   unfold Xn
   rw [za (τ1:=c3 r m f (k0 (.s (st++ [97+d]))) (si j) y0 y0 y0) (h1:=h.set r (ah ns i v1)) (by simp_all [e1,XC d c,add_str st [97+d] _ (by simp;omega)]),execs]),e2]
theorem sX (z:st.length<=6) (h): ∀ c j M L,j+c<=100-> ∃O V,Gq (Gp [5] u0) (λτ h=>execs F Zj τ h) ((Aa8 c).map λi=>D.n (j+i)) (c3 r m f (k0 (.s st)) M (si at') (k0 (.own (((Aa8 j).map (cM st at' f)).map .str))) L) h= .next (c3 r m f (k0 (.s st)) O (si at') (k0 (.own (((Aa8 (j+c)).map (cM st at' f)).map .str))) V) h
 | 0,j,M,L,_=>⟨M,L,rfl⟩
 | c+1,j,M,L,C=>by
  obtain⟨l,A,e⟩:=sX z h c (j+1) (si (j)) (k0 (.s (cM st at' f j))) (by omega)
  refine⟨l,A,?_⟩
  have y:execs F Zj (c3 r m f (k0 (.s st)) (si (j)) (si at') (k0 (.own (((Aa8 j).map (cM st at' f)).map .str))) L) h= .next (c3 r m f (k0 (.s st)) (si (j)) (si at') (k0 (.own (((Aa8 (j+1)).map (cM st at' f)).map .str))) (k0 (.s (cM st at' f j)))) h:=by
   have d:Gi .mul 5 (j:Int)=k0 ((5*j:Nat):Int):=Zc 5 j (by decide)
   have v:((f:Int)+((5*j:Nat):Int))=((f+5*j:Nat):Int):=rfl
   have x:Gi .mod ((f+5*j:Nat):Int) 26=k0 (((f+5*j) % 26:Nat):Int):=lF _ 26 (by decide)
   have w:=XC ((f+5*j) % 26) (Aj6 _ (by decide)) h
   have s:st.length<=bg:=by rw [Gg];omega
   have p:cut st y0 (k0 (at':Int))=st.take at':=pd st at'
   have g:cut st (k0 (at':Int)) y0=st.drop at':=zX st at'
   have G:(st.take at').length<=6:=by rw [Af6];omega
   have l2:(st.drop at').length<=6:=by rw [Af7];omega
   have k:=add_str (st.take at') [97+(f+5*j) % 26] h (by simp only [Aa7,Ae];omega)
   have a2:=add_str (st.take at'++ [97+(f+5*j) % 26]) (st.drop at') h (by rw [Aa5];simp only [Aa7,Ae];omega)
   have E:(XU st at' f j).length<=13:=by
    unfold XU
    rw [Aa5,Aa5]
    simp only [Aa7,Ae]
    omega
   have a3:=add_str (XU st at' f j) [113] h (by simp only [Aa7,Ae];omega)
   have n:=JU (XU st at' f j) kK h
   have B:(((Aa8 j).map (cM st at' f)).map D.str).length<bg:=by rw [Gg,Aa,Aa,Ah0];omega
   have o:((Aa8 (j+1)).map (cM st at' f)).map D.str=((Aa8 j).map (cM st at' f)).map D.str++ [.str (cM st at' f j)]:=by rw [List.range_succ];simp
   unfold Zj
   rw [za (τ1:=c3 r m f (k0 (.s st)) (si (j)) (si at') (k0 (.own (((Aa8 j).map (cM st at' f)).map .str))) (k0 (.s (XU st at' f j)))) (by
    simp_all [n6,s,p,g,d,Jc,v,x,w,k,a2]
    rfl)]
   have b:Gm F (.cmp .mem .v8 (.dD t6 kK)) (c3 r m f (k0 (.s st)) (si (j)) (si at') (k0 (.own (((Aa8 j).map (cM st at' f)).map .str))) (k0 (.s (XU st at' f j)))) h= .ok (y9 (XU st at' f j∈kK)) h:=by
    rw [Gm,eval,eval]
    rw [show Gj (c3 r m f (k0 (.s st)) (si (j)) (si at') (k0 (.own (((Aa8 j).map (cM st at' f)).map .str))) (k0 (.s (XU st at' f j)))) 8=k0 (.s (XU st at' f j))from rfl,R.ae,eval,R.ae,n]
    rfl
   have a: ∀t:Tx,t=cM st at' f j->execs F (.a (.app 7 .v8)) (c3 r m f (k0 (.s st)) (si (j)) (si at') (k0 (.own (((Aa8 j).map (cM st at' f)).map .str))) (k0 (.s t))) h= .next (c3 r m f (k0 (.s st)) (si (j)) (si at') (k0 (.own (((Aa8 (j+1)).map (cM st at' f)).map .str))) (k0 (.s (cM st at' f j)))) h:=λt u=>by
    subst u
    rw [o]
    simp_all [B,if_true]
   by_cases q:XU st at' f j∈kK
   ·rw [za (τ1:=c3 r m f (k0 (.s st)) (si (j)) (si at') (k0 (.own (((Aa8 j).map (cM st at' f)).map .str))) (k0 (.s (XU st at' f j++ [113])))) (h1:=h) ((Jr (by rw [b,decide_eq_true q])).trans (by simp_all [a3]))]
    exact a _ (by rw [cM,if_pos q])
   ·rw [xa (by rw [b,decide_eq_false q])]
    exact a _ (by rw [cM,if_neg q])
  rw [Ah2,Ab1,Ad6,zb rfl y]
  have:((λi=>D.n (j+i))∘Nat.succ)=λi=>D.n (j+1+i):=by
   funext i
   show D.n (j+(i+1))=_
   rw [show j+(i+1)=j+1+i by omega]
  rw [this,e,show j+1+c=j+(c+1)by omega]
def BH (c k:Nat):(Aa3 k [c]).flatten=Aa3 k c:=by simp
def LC (k)(e:h[r]? =k0 (ah ns i v)) (J:m<=8): ∃(N:List Tx) (C:Int),N.length=m/\N.Nodup/\(∀ t∈N,t.length<=8)/\call prog (k+2) "_law_names" [.r r,.i m] h= .ok (.own (N.map .str)) (h.set r (ah ns i C)):=by
 have K:r<h.length:=(Aa1.mp e).1
 have s: ∀w,_[r]? =k0 (ah ns i w):=λw=>Ab9 K
 have G: ∀w,(h.set r (ah ns i w)).length=h.length:=λw=>Ae4 ..
 rw [Gb (d:=xv) rfl _ _ _ rfl]
 show ∃N C,_/\_/\_/\Gw _ _=_
 simp only [xv]
 obtain⟨f,v1,L,e1⟩:=Wg k e (m:=26) (by decide) (by decide)
 have e1:call prog _ "_law_draw" [.r r,.v (.int 26)] h= .ok _ _:=e1
 obtain⟨d,v2,U,e2⟩:=Wg k (s v1) (m:=3) (by decide) (by decide)
 rw [Ad8]at e2
 have e2:call prog _ "_law_draw" [.r r,.v (.int 3)] _= .ok _ _:=e2
 rw [za (τ1:= [k0 (.r r),si m,k0 (.s ly),y0,y0,y0,y0,y0,y0]) (h1:=h) rfl]
 rw [za (τ1:=c3 r m f y0 y0 y0 y0 y0) (h1:=h.set r (ah ns i v1)) (by simp_all [e1])]
 have S: ∀h,Gr .eq _ (.v (.int 0)) h=k0 (y9 (d=0)):=λh=>zn d 0 h
 have H:Gm (u9 (k+1)) (.cmp .eq (.call "_law_draw" (.b .v0 (.int 3))) (.int 0)) (c3 r m f none none none none none) (h.set r (ah ns i v1))= .ok (decide (d=0)) (h.set r (ah ns i v2)):=by simp_all [e2,S]
 by_cases q:d=0
 ·refine⟨(Aa8 m).map λj=>Aa3 (j+1) (97+f),v2,by simp,rS _ m J (λa O b I ne z=>by have:=congrArg List.length z;simp at this;omega),λt u=> ?_,?_⟩
  ·obtain⟨j,y,rfl⟩:=Ab6.mp u
   rw [Ad3]
   have:=Ab8.mp y
   omega
  ·rw [qa (w:= .own (((Aa8 m).map λj=>Aa3 (j+1) (97+f)).map .str)) (h1:=h.set r (ah ns i v2)) ((Jr (h1:=h.set r (ah ns i v2)) (by rw [H,decide_eq_true q])).trans (qa (QA rfl ?_)))]
   ·exact Gu _ h _ (G v2)
   ·unfold Xy
    rw [Qo (n:=m) (λj=> .str (Aa3 (j+1) (97+f))) rfl (by omega) λj y=>⟨.s (Aa3 (j+1) (97+f)),?_,rfl⟩]
    ·rw [Ad6];rfl
    ·have x:((j:Int)+1)=((j+1:Nat):Int):=rfl
     have A:=mul_str [97+f] (j+1) (h.set r (ah ns i v2)) (by omega) (by simp;omega)
     rw [BH]at A
     simp_all [XC f L,Jc,x,A]
 ·rw [za (τ1:=c3 r m f y0 y0 y0 y0 y0) (h1:=h.set r (ah ns i v2)) ((m4 (h1:=h.set r (ah ns i v2)) (by rw [H,decide_eq_false q])).trans rfl)]
  rw [za (τ1:=c3 r m f (k0 (.s [])) y0 y0 y0 y0) (h1:=h.set r (ah ns i v2)) rfl]
  obtain⟨c,v3,V,p⟩:=Wg k (s v2) (m:=6) (by decide) (by decide)
  rw [Ad8]at p
  have p:call prog (k+1) "_law_draw" [.r r,.v (.int 6)] (h.set r (ah ns i v2))= .ok (.i c) (h.set r (ah ns i v3)):=p
  obtain⟨g,v4,o,l,D⟩:=yh k (ns:=ns) (i:=i) (r:=r) (m:=m) (f:=f) (Aa8 c) (h.set r (ah ns i v3)) v3 [] y0 (s v3) (by simp;omega)
  rw [Ad8]at D
  have Q:Gs (u9 (k+1)) (.ar (.call "_law_draw" (.b .v0 (.int 6)))) (c3 r m f (some (.s [])) none none none none) (h.set r (ah ns i v2))= .ok ((List.range c).map fun i=> .n i) (h.set r (ah ns i v3)):=by
   have I: -fv<=(c:Int)/\(c:Int)<fv:=by rw [GR];omega
   simp_all [p]
   rw [if_pos I,Ad4]
  rw [za (τ1:=c3 r m f (k0 (.s g)) o y0 y0 y0) (h1:=h.set r (ah ns i v4)) (by rw [exec,Q,R.au];exact D)]
  obtain⟨a,v5,O,E⟩:=Wg k (s v4) (m:=g.length+1) (by omega) (by omega)
  rw [Ad8]at E
  have P:g.length<=bg:=by rw [Gg];omega
  have x:((g.length:Int)+1)=((g.length+1:Nat):Int):=rfl
  rw [za (τ1:=c3 r m f (k0 (.s g)) o (si a) y0 y0) (h1:=h.set r (ah ns i v5)) (by simp_all [len_str,P,if_true,aq,Jc,x,E])]
  rw [za (τ1:=c3 r m f (k0 (.s g)) o (si a) (k0 (.own [])) y0) (h1:=h.set r (ah ns i v5)) rfl]
  obtain⟨M,T,B⟩:=sX (F:=(u9 (k+1))) (r:=r) (m:=m) (f:=f) (at':=a) l (h.set r (ah ns i v5)) m 0 o y0 (by omega)
  simp only [Am0]at B
  rw [za (τ1:=c3 r m f (k0 (.s g)) M (si a) (k0 (.own (((Aa8 m).map (cM g a f)).map .str))) T) (h1:=h.set r (ah ns i v5)) (by rw [exec,kT (n:=m) rfl (by omega),R.au];exact B)]
  refine⟨(Aa8 m).map (cM g a f),v5,by simp,Em g a f m (by omega) J,λt u=> ?_,?_⟩
  ·obtain⟨j,y,rfl⟩:=Ab6.mp u
   exact BR l
  ·rw [qa (w:= .own (((Aa8 m).map (cM g a f)).map .str)) (h1:=h.set r (ah ns i v5)) rfl]
   exact Gu _ h _ (G v5)
noncomputable abbrev bR:List (Nat×Nat×Nat):= [(0,1,2),(1,1,1),(0,1,2),(2,0,2),(1,0,3),(0,2,1),(0,1,1),(3,2,1),(1,0,4),(0,1,2),(1,1,0),(1,1,1)]
def dE (p:Nat×Nat×Nat):D:= .tup [.n (p.1),.n (p.2.1),.n (p.2.2)]
structure bD (n:Nat) (K T:List Tx):Prop where
 n4:n<=4
 k4:K.length<=4
 t4:T.length<=4
 b6:K.length*n+T.length*(n*n)<=6
 nd:(K++T).Nodup
 l8: ∀t∈K++T,t.length<=8
abbrev kc (r:Nat) (l:List D) (a b c:Option W) (x:Option W):Sl:= [k0 (.r r),k0 (.l l),a,b,c,x]
def Ly (k)(e:h[r]? =k0 (ah ns i v)): ∃ n K T v',bD n K T/\call prog (k+3) "_law_words" [.r r] h= .ok (.t [.n n,wD K T]) (h.set r (ah ns i v')):=by
 have C:r<h.length:=(Aa1.mp e).1
 have P: ∀w,_[r]? =k0 (ah ns i w):=λw=>Ab9 C
 have E: ∀w,(h.set r (ah ns i w)).length=h.length:=λw=>Ae4 ..
 rw [Gb rfl _ _ _ rfl]
 show ∃n K T v',_/\Gw _ _=_
 simp only [wI]
 obtain⟨d,v1,x,e1⟩:=Wg _ e (m:=12) (by decide) (by decide)
 have e1:call prog _ "_law_draw" [.r r,.v _] h= .ok _ _:=e1
 have F: ∀p∈bR,p.1+p.2.1<=8/\p.2.2<=4/\p.1<=4/\p.2.1<=4/\p.1*p.2.2+p.2.1*(p.2.2*p.2.2)<=6:=by decide
 obtain⟨⟨a,b,n⟩,y⟩: ∃p,bR[d]? =k0 p:=⟨bR[d],Aa6 x⟩
 obtain⟨j,g,o,l,J⟩:=F _ (Ac4 y)
 have j:a+b<=8:=j
 have g:n<=4:=g
 have o:a<=4:=o
 have l:b<=4:=l
 have c:aU (bR.map dE) (d:Int)=k0 (dE (a,b,n)):=by
  rw [jg _ _ (by rw [Aa];exact x),Ac2,y];rfl
 obtain⟨N,v2,R,nn,O,e2⟩:=LC k (P v1) j
 rw [Ad8]at e2
 have q:((a:Int)+(b:Int))=((a+b:Nat):Int):=rfl
 refine⟨n,GB (N.take a),GB (N.drop a),v2,?_,?_⟩
 ·have u:=Jj (N.take a)
  have pt:=Jj (N.drop a)
  have z:(GB (N.take a)).length=a:=by rw [u.length_eq,Af6];omega
  have lt:(GB (N.drop a)).length=b:=by rw [pt.length_eq,Af7];omega
  have s:(GB (N.take a)++GB (N.drop a)).Perm N:=(u.append pt).trans (by rw [List.take_append_drop])
  exact⟨g,by rw [z];exact o,by rw [lt];exact l,by rw [z,lt];exact J,s.nodup_iff.mpr nn,λt G=>O t (s.mem_iff.mp G)⟩
 ·rw [za (τ1:=kc r ((bR.take 9).map dE) y0 y0 y0 y0) (h1:=h) rfl]
  have H:GV .add (.l ((bR.take 9).map dE)) (.own ((bR.drop 9).map dE)) h= .ok (.own (bR.map dE)) h:=by
   show(if ((bR.take 9).map dE).length+((bR.drop 9).map dE).length<=bg then _ else _)=_
   rw [if_pos (by rw [Gg];decide)]
   rfl
  rw [za (τ1:=kc r (bR.map dE) y0 y0 y0 y0) (h1:=h) (by
   rw [exec,show eval (u9 (k+2)) (.bin .add .v1 (.lst (.c (.tup (.c (.int 0) (.int 1) (.int 2))) (.tup (.c (.int 1) (.int 1) (.int 0))) (.tup (.c (.int 1) (.int 1) (.int 1)))))) (kc r ((bR.take 9).map dE) y0 y0 y0 y0) h= .ok (.own (bR.map dE)) h from H]
   rfl)]
  rw [za (τ1:=kc r (bR.map dE) (si a) (si b) (si n) y0) (h1:=h.set r (ah ns i v1)) (by
   rw [exec,show eval (u9 (k+2)) (.ix .v1 (.call "_law_draw" (.b .v0 (.bi .len (.a .v1))))) (kc r (bR.map dE) none none none none) h= .ok (.v (dE (a,b,n))) (h.set r (ah ns i v1))by
    have Q:((bR.map dE).length:Int)=12:=rfl
    have f:call prog (k+2) "_law_draw" [.r r,.v (.int ((bR.map dE).length:Int))] h= .ok (.i d) (h.set r (ah ns i v1)):=e1
    generalize bR.map dE=L at c f ⊢
    simp_all [JJ,aq,f,Jq,c]]
   rfl)]
  rw [za (τ1:=kc r (bR.map dE) (si a) (si b) (si n) (k0 (.l (N.map .str)))) (h1:=h.set r (ah ns i v2)) (by simp_all [Jc,q,e2])]
  have B:=zN (N.take a) (h.set r (ah ns i v2)) (by rw [Af6];omega)
  have I:=zN (N.drop a) (h.set r (ah ns i v2)) (by rw [Af7];omega)
  have A:cut (N.map D.str) y0 (k0 (a:Int))=(N.take a).map D.str:=by rw [pd,List.map_take]
  have M:cut (N.map D.str) (k0 (a:Int)) y0=(N.drop a).map D.str:=by rw [zX,List.map_drop]
  rw [qa (w:= .t [.n n,wD (GB (N.take a)) (GB (N.drop a))]) (h1:=h.set r (ah ns i v2)) (Ja rfl (by
   simp_all [rp,A,M,B,I,JZ,aq]))]
  exact Ga _ h _ (E v2)
def KH (s:Nat) (h1:3<=s) (b:s<5): ∃f:Ex->Ex,(∀ a,(f a).dp=a.dp+1)/\(∀ N a,a.wf N->(f a).wf N)/\ ∃t,aU [D.str xi,.str Wh] ((s:Int)-3)=k0 (.str t)/\ ∀a,aT (f a)= .tup [.str t,aT a]:=by
 match s,h1,b with
 | 3,_,_=>exact⟨.turned,λ_=>rfl,λ_ _ h=>h,xi,rfl,λ_=>rfl⟩
 | 4,_,_=>exact⟨.closed,λ_=>rfl,λ_ _ h=>h,Wh,rfl,λ_=>rfl⟩
 | s+5,_,h=>exact absurd h (by lia)
def LX (s:Nat) (h1:5<=s) (c:s<10): ∃f:Ex->Ex->Ex,(∀ a b,(f a b).dp=max a.dp b.dp+1)/\(∀ N a b,a.wf N->b.wf N->(f a b).wf N)/\ ∃t,aU [D.str wF,.str qp,.str Jw,.str Zf,.str Zf] ((s:Int)-5)=k0 (.str t)/\ ∀a b,aT (f a b)= .tup [.str t,aT a,aT b]:=by
 match s,h1,c with
 | 5,_,_=>exact⟨.plus,λ_ _=>rfl,λ_ _ _ h g=>⟨h,g⟩,wF,rfl,λ_ _=>rfl⟩
 | 6,_,_=>exact⟨.less,λ_ _=>rfl,λ_ _ _ h g=>⟨h,g⟩,qp,rfl,λ_ _=>rfl⟩
 | 7,_,_=>exact⟨.both,λ_ _=>rfl,λ_ _ _ h g=>⟨h,g⟩,Jw,rfl,λ_ _=>rfl⟩
 | 8,_,_=>exact⟨.joined,λ_ _=>rfl,λ_ _ _ h g=>⟨h,g⟩,Zf,rfl,λ_ _=>rfl⟩
 | 9,_,_=>exact⟨.joined,λ_ _=>rfl,λ_ _ _ h g=>⟨h,g⟩,Zf,rfl,λ_ _=>rfl⟩
 | s+10,_,h=>exact absurd h (by lia)
abbrev hM (r:Nat) (N:List Tx) (g p:Nat) (b a c:Option W):Sl:= [k0 (.r r),k0 (.l (N.map .str)),si g,si p,b,a,c]
def e8 (N:List Tx):List Ex:=(N++N).map .name++ [.same,.all,.none]
def mx (h:e∈e8 N):e.wf N/\e.dp=0:=by
 obtain h | h:=Ac5.mp h
 ·obtain⟨t,a,rfl⟩:=Ab6.mp h
  exact⟨(Ac5.mp a).elim id id,rfl⟩
 ·have:e= .same\/e= .all\/e= .none:=by simpa using h
  rcases this with rfl | rfl | rfl<;>exact⟨trivial,rfl⟩
def uT (m)(l:N.length<=8) (e:h[r]? =some (ah ns i v)): ∃ x v',x∈e8 N/\execs (u9 (m+1)) (.cons (.af 4 (.bin .add (.bin .mul we (.int 2)) (.lst (.c (.tup (.a (.str xg))) (.tup (.a (.str Zn))) (.tup (.a (.str zh))))))) (.a (.ret (.ix .v4 (.call "_law_draw" (.b .v0 (.bi .len (.a .v4)))))))) (hM r N g p none none none) h= .ret (.v (aT x)) (h.set r (ah ns i v')):=by
 have k:(e8 N).length=2*N.length+3:=by simp [e8];omega
 obtain⟨d,v1,b,e1⟩:=Wg m e (m:=(e8 N).length) (by omega) (by omega)
 refine⟨_[d],v1,Am7 b,?_⟩
 have c:eval (u9 (m+1)) we (hM r N g p y0 y0 y0) h= .ok (.own (N.map λt=>aT (.name t))) h:=by
  unfold we
  rw [qk (ds:=N.map .str) (λd=> .tup [.str Qg,d]) (by simp_all []) (by rw [Gg,Aa];omega)]
  ·rw [Ad6];rfl
  ·intro d b
   exact⟨[sv d],rfl,.t [.str Qg,d],by simp_all [],rfl⟩
 have f:=LB (N.map λt=>aT (.name t)) 2 h (by decide) (by rw [Aa];omega)
 have j:GV .add (.own (Aa3 2 (N.map λt=>aT (.name t))).flatten) (.own [.tup [.str xg],.tup [.str Zn],.tup [.str zh]]) h= .ok (.own ((e8 N).map aT)) h:=by
  show(if ((Aa3 2 (N.map λt=>aT (.name t))).flatten).length+3<=bg then _ else _)=_
  rw [if_pos (by rw [Gg];simp;omega)]
  simp [e8,aT,aq,Ae5,Function.comp_def]
 rw [za (τ1:=hM r N g p (k0 (.l ((e8 N).map aT))) y0 y0) (h1:=h) (by
  have f:GV .mul _ (.v (.int 2)) h= .ok _ h:=f
  generalize (Aa3 2 (N.map λt=>aT (.name t))).flatten=Z at f j
  simp_all [c,f,j])]
 have a:aU ((e8 N).map aT) d=k0 (aT (e8 N)[d]):=by
  rw [jg _ _ (by rw [Aa];exact b),Ac2,Aa6 b];rfl
 have e1:call prog (m+1) "_law_draw" [.r r,.v (.int (((e8 N).map aT).length))] h= .ok (.i d) (h.set r (ah ns i v1)):=by rw [List.length_map];exact e1
 generalize (e8 N).map aT=L at a e1 ⊢
 exact qa (Ja rfl (by simp_all [JJ,aq,e1,Jq,a]))
def uK (H:N.length<=8): ∀ g k h v,h[r]? =k0 (ah ns i v)-> ∃ e v',e.wf N/\e.dp<=g/\call prog (g+k+2) "_law_expression" [.r r,.l (N.map .str),.i g] h= .ok (.v (aT e)) (h.set r (ah ns i v')):=by
 intro g
 induction g with
 | zero=>
  intro k h v e
  have l:r<h.length:=(Aa1.mp e).1
  have j: ∀w,_[r]? =k0 (ah ns i w):=λw=>Ab9 l
  obtain⟨p,v1,E,e1⟩:=Wg _ e (m:=10) (by decide) (by decide)
  have e1:call prog (0+k+1) "_law_draw" [.r r,.v (.int 10)] h= .ok _ _:=e1
  obtain⟨x,v2,c,e2⟩:=uT (0+k) H (j v1)
  rw [Ad8]at e2
  refine⟨x,v2,(mx c).1,Al0 (mx c).2,?_⟩
  rw [Gb rfl _ _ _ rfl]
  simp only [Qf]
  refine fx (by simp_all [e1];rfl) ?_
  rw [qa ((Jr (h1:=h.set r (ah ns i v1)) (by
   have z:Gr .eq (.i (0)) (.v (.int 0)) (h.set r (ah ns i v1))=k0 true:=zn 0 0 _
   simp_all [z])).trans e2)]
  exact Ga _ h _ (Ae4 ..)
 | succ g K=>
  intro k h v e
  have l:r<h.length:=(Aa1.mp e).1
  have j: ∀w,(h.set r (ah ns i w))[r]? =k0 (ah ns i w):=λw=>Ab9 l
  have s: ∀w,(h.set r (ah ns i w)).length=h.length:=λw=>Ae4 ..
  rw [show g+1+k+2=(g+k+2)+1 by omega]
  obtain⟨p,v1,E,e1⟩:=Wg (g+k+1) e (m:=10) (by decide) (by decide)
  have e1:call prog (g+k+2) "_law_draw" [.r r,.v (.int 10)] h= .ok (.i p) (h.set r (ah ns i v1)):=e1
  have J:Gm (u9 (g+k+2)) (.or (.cmp .eq .v2 (.int 0)) (.cmp .lt .v3 (.int 3))) (hM r N (g+1) p y0 y0 y0) (h.set r (ah ns i v1))= .ok (y9 (p<3)) (h.set r (ah ns i v1)):=by
   have z:Gr .eq (.i (g+1)) (.v (.int 0)) (h.set r (ah ns i v1))=k0 false:=by
    have:=zn (g+1) 0 (h.set r (ah ns i v1))
    rw [decide_eq_false (by omega)]at this
    exact this
   have B:=mW 3 p (h.set r (ah ns i v1))
   have B:Gr .lt (.i p) (.v (.int 3)) (h.set r (ah ns i v1))=k0 (y9 (p<3)):=B
   rw [Gm,km (a:=k9) (b:=y9 (p<3)) (by simp_all [z]) (by simp_all [B]),R.ae]
   rfl
  rw [Gb (d:=Qf) rfl _ _ _ rfl]
  show ∃e v',_/\_/\Gw _ (execs _ _ [k0 (.r r),k0 (.l (N.map .str)),si (g+1),y0,y0,y0,y0] h)=_
  simp only [Qf]
  rw [za (τ1:=hM r N (g+1) p y0 y0 y0) (h1:=h.set r (ah ns i v1)) (by simp_all [e1])]
  by_cases q:p<3
  ·obtain⟨x,v2,c,e2⟩:=uT (g+k+1) (g:=g+1) (p:=p) H (j v1)
   rw [Ad8]at e2
   refine⟨x,v2,(mx c).1,by rw [(mx c).2];omega,?_⟩
   rw [qa (w:= .v (aT x)) (h1:=h.set r (ah ns i v2)) ((Jr (h1:=h.set r (ah ns i v1)) (by rw [J,decide_eq_true q])).trans e2)]
   exact Ga _ h _ (s v2)
  ·rw [xa (by rw [J,decide_eq_false q])]
   obtain⟨x,v2,I,M,e2⟩:=K k _ v1 (j v1)
   rw [Ad8]at e2
   have G:(((g+1:Nat):Int)-1)=((g:Nat):Int):=by omega
   rw [za (τ1:=hM r N (g+1) p y0 (sv (aT x)) y0) (h1:=h.set r (ah ns i v2)) (by simp_all [We,G,e2])]
   have F:Gr .lt (.i p) (.v (.int 5)) (h.set r (ah ns i v2))=k0 (y9 (p<5)):=mW 5 p _
   by_cases u:p<5
   ·obtain⟨f,C,A,t,n,o⟩:=KH p (by omega) u
    refine⟨f x,v2,A N x I,by rw [C];omega,?_⟩
    rw [Xe (w:= .v (aT (f x))) (by simp_all [F,decide_eq_true u]) (Ja rfl (by rw [o];simp_all [We,qN,n]))]
    exact Ga _ h _ (s v2)
   ·rw [xa (by simp_all [F,decide_eq_false u])]
    obtain⟨y,v3,L,O,D⟩:=K k _ v2 (j v2)
    rw [Ad8]at D
    rw [za (τ1:=hM r N (g+1) p y0 (sv (aT x)) (sv (aT y))) (h1:=h.set r (ah ns i v3)) (by simp_all [We,G,D])]
    obtain⟨f,C,A,t,n,o⟩:=LX p (by omega) E
    refine⟨f x y,v3,A N x y I L,by rw [C];omega,?_⟩
    rw [qa (w:= .v (aT (f x y))) (h1:=h.set r (ah ns i v3)) (Ja rfl (by rw [o];simp_all [We,qN,n]))]
    exact Ga _ h _ (s v3)
theorem oR: ∀(ws) (c j w),ws[j]? =k0 w->(dg ws c)[j]? =k0 (c / 2 ^ (ws.take j).sum % 2 ^ w)
 | [],_,_,_,h=>by simp at h
 | u::ws,c,0,w,h=>by
  have:u=w:=by simpa using h
  subst this
  simp [dg]
 | u::ws,c,j+1,w,h=>by
  have h:=by simpa using h
  show(dg ws (c / 2 ^ u))[j]? =_
  rw [oR ws _ j w h,List.take_succ_cons,Al3,Am9,←Nat.pow_add]
theorem Q4: ∀(ws) (c),(dg ws c).length=ws.length
 | [],_=>rfl
 | w::ws,c=>by rw [dg,Aa7,Q4 ws,Aa7]
def cy (n a b c:Nat):List Nat:=(dg (cL n a b) c).take a
def cP (n a b c:Nat):List Nat:=(dg (cL n a b) c).drop a
def D3 (n a b j) (h:j<=a):((cL n a b).take j).sum=j*n:=by
 rw [cL,List.take_append_of_le_length (by simp_all),List.take_replicate,Xv,Ak4 h]
def FT (n a b j:Nat) (h:j<=b):((cL n a b).take (a+j)).sum=a*n+j*(n*n):=by
 rw [cL,List.take_append,Ad3,Ai7 (by simp),List.sum_append,List.take_replicate,Xv,Xv,Am5,Ak4 h]
def l6 (h:j<a):(cy n a b c)[j]? =k0 (c / 2 ^ (j*n) % 2 ^ n):=by
 rw [cy,Am3 h,oR _ _ _ n (by rw [cL,Ad2 (by simp_all),Ai2,if_pos h]),D3 _ _ _ _ (Ag3 h)]
def mX (h:j<b):(cP n a b c)[j]? =k0 (c / 2 ^ (a*n+j*(n*n)) % 2 ^ (n*n)):=by
 rw [cP,List.getElem?_drop,oR _ _ _ _ (by rw [cL,Ad9 (by simp),Ad3,Am5,Ai2,if_pos h]),FT _ _ _ _ (Ag3 h)]
def wo (n:Nat) (K T:List Tx) (c:Nat):Wo:=⟨n,K,T,cy n K.length T.length c,cP n K.length T.length c⟩
def wS (n a b c):(cy n a b c).length=a:=by rw [cy,Af6,Q4,mh];lia
def WP (n a b c):(cP n a b c).length=b:=by rw [cP,Af7,Q4,mh];lia
theorem bD.wo (g:bD n K T) (c):(wo n K T c).Ok:=by
 refine⟨g.k4,g.t4,g.nd,g.n4,wS ..,WP ..,λx b=> ?_,λx b=> ?_⟩
 ·obtain⟨j,a,e⟩:=Al5 b
  have:(cy n K.length T.length c)[j]? =k0 x:=by rw [← e];exact Aa6 a
  rw [l6 (by rw [← wS n K.length T.length c];exact a)]at this
  rw [← Ad5.inj this]
  exact Aj6 _ (Ad _)
 ·obtain⟨j,a,e⟩:=Al5 b
  have:(cP n K.length T.length c)[j]? =k0 x:=by rw [← e];exact Aa6 a
  rw [mX (by rw [← WP n K.length T.length c];exact a)]at this
  rw [← Ad5.inj this]
  exact Aj6 _ (Ad _)
def bD.pt (g:bD n K T) (c d):Pt (M.wo n K T c) (M.wo n K T d):=⟨g.wo c,g.wo d,rfl,rfl,rfl⟩
theorem X4 : ∀ {i}{j},i.Nodup->i[j]? =k0 t->cY t i=j
 | [],_,_,h=>by simp at h
 | y::c,0,_,h=>by
  have:y=t:=by simpa using h
  simp [cY,Ki,this]
 | y::c,j+1,a,h=>by
  have h:=by simpa using h
  have m:=Ac4 h
  have a:=Ai.mp a
  have ne:y≠t:=λe=>a.1 (e▸m)
  have b:=X4 a.2 h
  rw [cY]at b ⊢
  rw [Ki,if_neg ne,(xm m).1]
  rw [(xm m).1]at b
  simpa using b
theorem m3 {d e:Type}(g) (m) (a: ∀t,(g t).length=m): ∀(l:List d) i (y:e),(l.flatMap g)[i]? =k0 y-> ∃j t p,l[j]? =k0 t/\(g t)[p]? =k0 y/\p<m/\i=j*m+p
 | [],i,y,h=>by simp at h
 | t::l,i,y,h=>by
  rw [Aj3]at h
  by_cases q:i<m
  ·rw [Ad2 (by rw [a];exact q)]at h
   exact⟨0,t,i,rfl,h,q,by omega⟩
  ·rw [Ad9 (by rw [a];omega),a]at h
   obtain⟨j,u,p,b,c,f,k⟩:=m3 g m a l _ y h
   exact⟨j+1,u,p,b,c,f,by rw [Nat.add_mul];omega⟩
theorem jP {a c:Type}(g:a->List c) (m) (b: ∀t,(g t).length=m): ∀l:List a,(l.flatMap g).length=l.length*m
 | []=>by simp
 | t::l=>by rw [Aj3,Aa5,b,jP g m b l,Aa7,Nat.add_mul];omega
def bT (n:Nat) (K T:List Tx):List Pl:=K.flatMap (eJ n)++T.flatMap (fA n)
def QC (n):Wf.ay n (2 ^ (n*n)-1)=(Aa8 (n*n)).map λk=>(k / n,k % n):=by
 rw [Wf.ay,List.filter_eq_self.mpr λk a=>by rw [Ag1,decide_eq_true (Ab8.mp a)]]
def qJ (n) (t):(eJ n t).length=n:=by simp [eJ]
def rB (n) (t):(fA n t).length=n*n:=by simp [fA,QC]
def WE (n) (K T):(bT n K T).length=K.length*n+T.length*(n*n):=by rw [bT,Aa5,jP _ _ (qJ n),jP _ _ (rB n)]
def xk (g:bD n K T)(h:(bT n K T)[i]? =k0 (t,x,y)) (c):bf (wo n K T c) t x y=c.testBit i/\t∈K++T/\x<n/\y<n:=by
 obtain⟨e,f,o⟩:=Aj2.mp g.nd
 rw [bT]at h
 by_cases q:i<K.length*n
 ·rw [Ad2 (by rw [jP _ _ (qJ n)];exact q)]at h
  obtain⟨j,u,p,d,a,b,m⟩:=m3 _ n (qJ n) _ _ _ h
  rw [eJ,Ac2,List.getElem?_range b]at a
  have a:=Ad5.inj a
  obtain⟨rfl,rfl,rfl⟩:u=t/\p=x/\p=y:=by simpa using a
  have mk:=Ac4 d
  have r:=λz=>o u mk u z rfl
  have k:=(Aa1.mp d).1
  refine⟨?_,Ad0 _ mk,b,b⟩
  rw [bf,if_neg (show u∉(wo n K T c).T from r)]
  show(decide _&&((cy n K.length T.length c).getD (cY u K) 0).testBit p)=_
  rw [X4 e d,Ac8,l6 k,Ak9,Ag8,Ag9,decide_eq_true b,decide_eq_true rfl,m,Ap0]
  rfl
 ·rw [Ad9 (by rw [jP _ _ (qJ n)];omega),jP _ _ (qJ n)]at h
  obtain⟨j,u,p,d,a,b,m⟩:=m3 _ _ (rB n) _ _ _ h
  rw [fA,QC,Ad6,Ac2,List.getElem?_range b]at a
  have a:=Ad5.inj a
  obtain⟨rfl,rfl,rfl⟩:u=t/\p / n=x/\p % n=y:=by simpa using a
  have l:=Ac4 d
  have k:=(Aa1.mp d).1
  refine⟨?_,Ab0 _ l,Wf.bb b,Wf.aV b⟩
  rw [bf,if_pos (show u∈(wo n K T c).T from l)]
  show(((cP n K.length T.length c).getD (cY u T) 0).testBit (p / n*n+p % n))=_
  rw [X4 f d,Ac8,mX k,Ak9,Ag8,Ag9,Wf.bp,decide_eq_true b,Ae1]
  congr 1
  omega
def pf (b:x<n) (a:y<n) (h:t∈T\/(t∈K/\x=y)): ∃i:Nat,(bT n K T)[i]? =k0 (t,x,y):=by
 have:(t,x,y)∈bT n K T:=by
  rw [bT,Ac5,List.mem_flatMap,List.mem_flatMap]
  obtain h | ⟨h,rfl⟩:=h
  ·refine .inr ⟨t,h,?_⟩
   rw [fA,QC,Ad6]
   refine Ab6.mpr ⟨x*n+y,Ab8.mpr (Wf.place_lt b a),?_⟩
   show(t,_ / n,_ % n)=_
   rw [Wf.aF a,Wf.aK a]
  ·exact .inl ⟨t,h,Ab6.mpr ⟨x,Ab8.mpr b,rfl⟩⟩
 obtain⟨i,c,e⟩:=Al5 this
 exact⟨i,by rw [← e];exact Aa6 c⟩
def u5 (b:t∈K++T) (a:x<n) (d:y<n) (h:bf (wo n K T c) t x y=u0): ∃i:Nat,(bT n K T)[i]? =k0 (t,x,y):=by
 refine pf a d ?_
 by_cases q:t∈T
 ·exact .inl q
 ·rw [bf,if_neg (show t∉(wo n K T c).T from q),Aa0,decide_eq_true_eq]at h
  exact .inr ⟨(Ac5.mp b).resolve_right q,h.1⟩
def oK (g:bD n K T){i j:Nat}(h:(bT n K T)[i]? =k0 p) (q:(bT n K T)[j]? =k0 p):i=j:=by
 have b:=(xk g h (2 ^ i)).1
 have a:=(xk g q (2 ^ i)).1
 rw [b,Ak0,Ad7]at a
 simpa using a.symm
def K9 (k n) (A B) (c) (h) (b:n<=4) (h1:A.length<=4) (f:B.length<=4) (lt:c<2 ^ (cL n A.length B.length).sum):call prog (k+5) "world_of" [.v (l7 A B),.i n,.i c] h= .ok (.v (hY n (cy n A.length B.length c) (cP n A.length B.length c))) h:=by
 rw [Gb rfl _ _ _ rfl]
 have d:=Af2 b b
 have l:=tm k (.n n) h rfl (by simp [Qp];omega)
 have o:=rb (k+2) n A B h b h1 f
 have a:=sS (k+3) n A B h b h1 f
 have s:(cL n A.length B.length).sum<=100:=by
  rw [nq]
  have q:A.length*n<=4*4:=Af2 h1 b
  have a2:B.length*(n*n)<=4*16:=Af2 f d
  omega
 have i:=qV (cL n A.length B.length).sum (by omega)
 have g:=qC (k+2) (.n c) ((2 ^ (cL n A.length B.length).sum:Nat):Int) h rfl
 have bt:Qp (.n c) ((2 ^ (cL n A.length B.length).sum:Nat):Int)=true:=by
  simp only [Qp,Aa0,decide_eq_true_eq];omega
 rw [bt]at g
 obtain⟨p,r,e⟩:=rE h (cL n A.length B.length) c [] y0 (λw a=>by
  rcases Ac5.mp a with a | a
  ·rw [(List.mem_replicate.mp a).2];omega
  ·rw [(List.mem_replicate.mp a).2];exact d) (by rw [mh];simp;omega)
 rw [Ae2]at e
 simp only [ZM]
 refine fx (by simp_all [l];rfl) ?_
 rw [xa (by simp_all [o,i,g])]
 refine fx (by simp_all [];rfl) ?_
 refine fx (by simp_all [];rfl) ?_
 have ew:eval (u9 (k+4)) (.call "widths" (.b .v0 .v1)) [sv (l7 A B),si n,si c,some (.own []),si c,none,none] h= .ok (.own (aw (cL n A.length B.length))) h:=by
  simp_all [a]
 rw [za (by
  simp only [exec,Gs,GJ,ew,R.ae,Kb,R.ak,R.au]
  exact e)]
 have j:cut (aw (dg (cL n A.length B.length) c)) y0 (k0 (A.length:Int))=aw (cy n A.length B.length c):=by rw [pd,aw,←List.map_take];rfl
 have m:cut (aw (dg (cL n A.length B.length) c)) (k0 (A.length:Int)) y0=aw (cP n A.length B.length c):=by rw [zX,aw,←List.map_drop];rfl
 refine fx (by simp_all [aa,zg,Qe];rfl) ?_
 rw [qa (w:= .v (hY n (cy n A.length B.length c) (cP n A.length B.length c))) (h1:=h) (Ja rfl (by simp_all [Bg,j,m,JZ]))]
 exact Ga _ _ _ rfl
abbrev bN (n:Nat) (K T:List Tx):Nat:=K.length*n+T.length*(n*n)
def cx (n:Nat) (K T:List Tx) (S:List Sy):List (String×D):= [("words",wD K T),("sayings",.tup (S.map aC)),("size",.n n),("places",.lst ((bT n K T).map bM)),("whole",.n (2 ^ bN n K T-1))]
def Zo (e:h[r]? =k0 (.obj c fs)):GX h (k0 (.r r))=k0 (r,c,fs):=by unfold GX;simp [e]
def Xk (e:h[r]? =k0 (.obj c fs)) (b:Gn τ i=k0 (.r r)) (a:fs.lookup f=k0 d):eval F (.aJ (.var i) c f) τ h= .ok (.v d) h:=by
 rw [eval,eval,Gj,b]
 simp [Zo e,a,aq]
def JH (e:h[r]? =k0 (.obj c fs)) (d:Gn τ i=k0 (.r r)) (b:(fs.lookup m).isNone=u0) (a:Gf F es τ h= .ok ws h):eval F (.bO (.var i) c m q es) τ h=F.call q (.r r::ws.map W.arg) h:=by
 rw [eval,eval,Gj,d]
 simp [Zo e,b,a]
section
variable {n:Nat}{K T:List Tx}{S:List Sy}{ro:Nat}{h:AH}
def Q6 (k c) (g:bD n K T) (C:h[ro]? =k0 (.obj "Cases" (cx n K T S))) (d:c<2 ^ bN n K T):call prog (k+6) "Cases.world_of_code" [.r ro,.i c] h= .ok (.v (wo n K T c).aI) h:=by
 rw [Gb rfl _ _ _ rfl]
 have e:=K9 k n (K.map .str) (T.map .str) c h g.n4 (by rw [Aa];exact g.k4) (by rw [Aa];exact g.t4) (by rw [nq,Aa,Aa];exact d)
 rw [Aa,Aa]at e
 simp only [Ji]
 have b:=Xk (F:=(u9 (k+5))) (τ:= [k0 _,si c]) (i:=0) (f:= "words") C rfl rfl
 have a:=Xk (F:=(u9 (k+5))) (τ:= [k0 _,si c]) (i:=0) (f:= "size") C rfl rfl
 rw [qa (w:= .v (wo n K T c).aI) (h1:=h) (Ja rfl (by
  generalize E.aJ _ _ _=X at b ⊢
  generalize E.aJ _ _ _=Y at a ⊢
  simp_all [b,a,e]
  rfl)),Ga _ _ _ rfl]
def xL (m j c d) (g:bD n K T) (C:h[ro]? =some (.obj "Cases" (cx n K T S))) (x:c<2 ^ bN n K T) (v:d<2 ^ bN n K T)(t:S[j]? =some s) (z:s.dp+9<=m) (wf:s.wf (K++T)): ∃r,Td (wo n K T c) (wo n K T d) s r/\call prog (m+1) "Cases.truth" [.r ro,.i j,.i c,.i d] h= .ok (.v (aG r)) h:=by
 obtain⟨k,rfl⟩:=nk m 6 (by omega)
 obtain⟨r,u,e⟩:=IM (g.pt c d) h s _ z wf
 refine⟨r,u,?_⟩
 rw [Gb rfl _ _ _ rfl]
 simp only [xy]
 have b:=JH (F:=(u9 (k+6))) (τ:= [k0 _,si j,si c,si d,y0]) (i:=0) (m:= "world_of_code") (q:= "Cases.world_of_code") (es:= .cons .v2 .nil) (ws:= [.i c]) C rfl rfl (by simp_all [])
 have a:=JH (F:=(u9 (k+6))) (τ:= [k0 _,si j,si c,si d,y0]) (i:=0) (m:= "world_of_code") (q:= "Cases.world_of_code") (es:= .cons .v3 .nil) (ws:= [.i d]) C rfl rfl (by simp_all [])
 have b:=b.trans (Q6 k c g C x)
 have a:=a.trans (Q6 k d g C v)
 have y:j<S.length:=(Aa1.mp t).1
 have l:aU (S.map aC) (j:Int)=k0 (aC s):=by rw [jg _ _ (by rw [Aa];exact y),Ac2,t];rfl
 rw [za (τ1:= [k0 (.r ro),si j,si c,si d,sv (bX (wo n K T c) (wo n K T d))]) (h1:=h) (by
  generalize E.bO _ _ _ _ _=X at b ⊢
  generalize E.bO _ _ _ _ _=Y at a ⊢
  simp_all [b,a])]
 have o:=Xk (F:=(u9 (k+6))) (τ:= [k0 (.r ro),si j,si c,si d,sv (bX (wo n K T c) (wo n K T d))]) (i:=0) (f:= "words") C rfl rfl
 have p:=Xk (F:=(u9 (k+6))) (τ:= [k0 (.r ro),si j,si c,si d,sv (bX (wo n K T c) (wo n K T d))]) (i:=0) (f:= "sayings") C rfl rfl
 have e:call prog _ "told" [.v (wD K T),.v _,.v _] h= .ok _ h:=e
 rw [qa (w:= .v (aG r)) (h1:=h) (Ja rfl (by
  generalize E.aJ _ _ _=X at o ⊢
  generalize E.aJ _ _ _=Y at p ⊢
  simp_all [o,p,aa,l,e])),Ga _ _ _ rfl]
end
def uw (p) (t) (a b):cw (bM p) (.tup [.str t,.int a,.int b])=u0↔p.1=t/\(p.2.1:Int)=a/\(p.2.2:Int)=b:=by
 simp [bM,GK]
theorem tR (t) (a b): ∀L:List Pl,inD (.tup [.str t,.int a,.int b]) (L.map bM)=u0-> ∃ i x y,Ks (.tup [.str t,.int a,.int b]) (L.map bM)=k0 i/\L[i]? =k0 (t,x,y)/\a=(x:Int)/\b=(y:Int)
 | [],h=>by simp [inD]at h
 | p::L,h=>by
  rw [Ab1,Ks]
  by_cases q:cw (bM p) (.tup [.str t,.int a,.int b])=u0
  ·obtain⟨c,d,e⟩:=(uw p t a b).mp q
   refine⟨0,p.2.1,p.2.2,by rw [if_pos q],?_,d.symm,e.symm⟩
   rw [← c];rfl
  ·rw [if_neg q]
   have h:=by
    rw [inD,Ab1,Af3,Ae6]at h
    exact h.resolve_left q
   obtain⟨i,x,y,c,d,e,f⟩:=tR t a b L h
   exact⟨i+1,x,y,by rw [c];rfl,d,e,f⟩
def tW {x y i:Nat}{L:List Pl}(h:L[i]? =k0 (t,x,y)):inD (.tup [.str t,.n x,.n y]) (L.map bM)=true:=by
 rw [inD,Ad1]
 exact⟨bM _,Ab6.mpr ⟨_,Ac4 h,rfl⟩,(uw _ _ _ _).mpr ⟨rfl,rfl,rfl⟩⟩
def WH (L:List Pl):Gc (L.map bM)=true:=Wj _ (λ_=>rfl) L
def uq (L:List Pl):GG (L.map bM)<140:=Ah6 (ZT bM 1 (λ_=>by simp [bM]) L) (by decide)
def CS (t) (a b) (L:List Pl) (h):Gr .eR (.t [.str t,.int a,.int b]) (.l (L.map bM)) h=k0 (!inD (.tup [.str t,.int a,.int b]) (L.map bM)):=by
 have e:Kh (.t [.str t,.int a,.int b]) (.l _) h=Kv _ (.l (L.map bM)) h:=rfl
 have g:Kv (.t [.str t,.int a,.int b]) (.l (L.map bM)) h=k0 (inD (.tup [.str t,.int a,.int b]) (L.map bM)):=by
  unfold Kv
  rw [W.eV,W.eV,md (by exact WH L)]
  show(if _=u0 then _ else _)=_
  rw [WH,decide_eq_true (uq L)]
  rfl
 show(Kh _ _ h).map (!·)=_
 rw [e,g]
 rfl
def LL {L:List Pl}(h) (c:L.length<=1000) (e:Ks (.tup [.str t,.int a,.int b]) (L.map bM)=k0 i):mG .b3 (.l (L.map bM)) [.t [.str t,.int a,.int b]] h= .ok (.i i) h:=by
 have g:Kx (.t [.str t,.int a,.int b]) (.l (L.map bM)) h=k0 i:=by
  unfold Kx
  rw [W.eV,W.eV,md (by exact WH L)]
  show(if _=u0 then _ else _)=_
  rw [WH,decide_eq_true (uq L),decide_eq_true (by rw [Gg,Aa];lia)]
  exact e
 show(R.of h _).bind _=_
 rw [g]
 rfl
section
variable {n:Nat}{K T:List Tx}{S:List Sy}{ro:Nat}{h:AH}
def A4 (k) (g:bD n K T) (C:h[ro]? =some (.obj "Cases" (cx n K T S)))(a:(bT n K T)[i]? =some (t,x,y)):call prog (k+2) "Cases.bit_of" [.r ro,.s t,.i x,.i y] h= .ok (.i (2 ^ i)) h:=by
 rw [Gb rfl _ _ _ rfl]
 simp only [ju]
 have m:=ZB k (.n x) h rfl
 have q:=ZB k (.n y) h rfl
 have b:b7 .str (.s t)=k0 true:=rfl
 rw [xa (by simp_all [b,m,q,Xw])]
 have c:=Xk (F:=(u9 (k+1))) (τ:= [k0 _,k0 (.s t),si x,si y]) (i:=0) (f:= "places") C rfl rfl
 have d:=CS t x y (bT n K T) h
 rw [tW a]at d
 obtain⟨j,u,v,e,l,e1,e2⟩:=tR t x y _ (tW a)
 obtain rfl:=Int.ofNat.inj e1
 obtain rfl:=Int.ofNat.inj e2
 obtain rfl:=oK g a l
 have s:(bT n K T).length<=100:=by rw [WE];have:=g.b6;lia
 have r:=LL h (by lia) e
 have o:=qV i (by grind)
 have p:mS .b3 (.l ((bT n K T).map bM)) h=true:=rfl
 generalize E.aJ _ _ _=X at c ⊢
 rw [xa (by simp_all [c,d])]
 rw [qa (w:= .i (2 ^ i)) (h1:=h) (Ja rfl (by simp_all [c,p,if_true,r,o])),Ga _ _ _ rfl]
end
def vz (n a b c j p):((cP n a b c).getD j 0).testBit p=(y9 (j<b)&&(y9 (p<n*n)&&c.testBit (p+(a*n+j*(n*n))))):=by
 rw [Ac8]
 by_cases q:j<b
 ·rw [mX q,Ak9,Ag8,Ag9,decide_eq_true q,Ae1]
 ·rw [List.getElem?_eq_none (by rw [WP];omega),Option.getD_none,Af9,decide_eq_false q,Ae8]
def rF (n a b c j p):((cy n a b c).getD j 0).testBit p=(y9 (j<a)&&(y9 (p<n)&&c.testBit (p+j*n))):=by
 rw [Ac8]
 by_cases q:j<a
 ·rw [l6 q,Ak9,Ag8,Ag9,decide_eq_true q,Ae1]
 ·rw [List.getElem?_eq_none (by rw [wS];omega),Option.getD_none,Af9,decide_eq_false q,Ae8]
def kD (h:Sub c d):Le (wo n K T c) (wo n K T d):=⟨rfl,λt x y z=>by
 unfold bf at z ⊢
 by_cases q:t∈T
 ·rw [if_pos (show t∈(wo n K T _).T from q)]at z ⊢
  have z:((cP n K.length T.length c).getD _ 0).testBit _=true:=z
  show((cP n K.length T.length d).getD _ 0).testBit _=u0
  rw [vz,Aa0,Aa0]at z ⊢
  exact⟨z.1,z.2.1,h _ z.2.2⟩
 ·rw [if_neg (show t∉(wo n K T _).T from q)]at z ⊢
  have z:(decide _&&((cy n K.length T.length c).getD (cY t K) 0).testBit x)=true:=z
  show(decide _&&((cy n K.length T.length d).getD (cY t K) 0).testBit x)=u0
  rw [rF,Aa0,Aa0,Aa0]at z ⊢
  exact⟨z.1,z.2.1,z.2.2.1,h _ z.2.2.2⟩⟩
section
variable {n:Nat}{K T:List Tx}
def ZD (c d:Nat)(b:t∈K++T) (a:x<n) (f:y<n) (q: ¬ ∃i:Nat,(bT n K T)[i]? =k0 (t,x,y)):bf (wo n K T c) t x y=false:=by
 cases e:bf _ t x y with
 | false=>rfl
 | true=>exact absurd (u5 b a f e) q
def CI (g:bD n K T)(h:(bT n K T)[i]? =k0 (t,x,y)) (c) (d:t'∈K++T) (b:x'<n) (f:y'<n):bf (wo n K T (c ||| 2 ^ i)) t' x' y'=(bf (wo n K T c) t' x' y'||y9 ((t',x',y')=(t,x,y))):=by
 by_cases q: ∃j:Nat,(bT n K T)[j]? =k0 (t',x',y')
 ·obtain⟨j,a⟩:=q
  rw [(xk g a _).1,(xk g a _).1,Ae9,Ad7]
  congr 1
  refine decide_eq_decide.mpr ⟨λe=> ?_,λe=> ?_⟩
  ·subst e;rw [h]at a;exact(Ad5.inj a).symm
  ·rw [e]at a;exact oK g h a
 ·rw [ZD _ c d b f q,ZD _ c d b f q,decide_eq_false λe=>q ⟨i,by rw [e];exact h⟩]
  rfl
def ID (g:bD n K T)(h:(bT n K T)[i]? =k0 (t,x,y)) (c) (d:t'∈K++T) (b:x'<n) (f:y'<n):bf (wo n K T (c-(c &&& 2 ^ i))) t' x' y'=(bf (wo n K T c) t' x' y'&& !y9 ((t',x',y')=(t,x,y))):=by
 by_cases q: ∃j:Nat,(bT n K T)[j]? =k0 (t',x',y')
 ·obtain⟨j,a⟩:=q
  rw [(xk g a _).1,(xk g a _).1,Wf.aP,Ad7]
  congr 2
  refine decide_eq_decide.mpr ⟨λe=> ?_,λe=> ?_⟩
  ·subst e;rw [h]at a;exact(Ad5.inj a).symm
  ·rw [e]at a;exact oK g h a
 ·rw [ZD _ c d b f q,ZD _ c d b f q]
  rfl
def vm {t t':Tx}(c:y<n) (b:y'<n):y9 ((t',x',y')=(t,x,y))=(y9 (t'=t)&&y9 (x*n+y=x'*n+y')):=by
 by_cases e:t'=t
 ·rw [decide_eq_true e,Ae1]
  refine decide_eq_decide.mpr ⟨λz=> ?_,λz=> ?_⟩
  ·have:x'=x/\y'=y:=by simpa [e]using z
   rw [this.1,this.2]
  ·have d:x=x':=by rw [← Wf.aF (a:=x) c,z,Wf.aF b]
   have f:y=y':=by rw [← Wf.aK c,z,Wf.aK b]
   rw [e,d,f]
 ·rw [decide_eq_false e,Ae8,decide_eq_false]
  exact λz=>e (by injection z)
variable {f:Tx->Nat×Nat}{r low high:Nat}{h:AH}
def Dc.dD (P:Dc (wo n K T low) (wo n K T high) f r h) (g:bD n K T)(c:(bT n K T)[i]? =k0 (t,x,y)) (h1:high.testBit i=u0) (e:low.testBit i=k9):(f t).1.testBit (x*n+y)=k9/\(f t).2.testBit (x*n+y)=true:=by
 obtain⟨e1,d,a,b⟩:=xk g c low
 have e2:=(xk g c high).1
 refine⟨Ak6.mpr λz=> ?_,((P.hi t d).bit x y a b).mpr (by rw [e2,h1])⟩
 have:=((P.lo t d).bit x y a b).mp z
 rw [e1,e]at this
 cases this
def Dc.yes (P:Dc (wo n K T low) (wo n K T high) f r h) (g:bD n K T)(m:(bT n K T)[i]? =k0 (t,x,y))(e:h'[r']? =k0 (.aN (aO (K++T) (WU f t ((f t).1 ||| 2 ^ (x*n+y),(f t).2))))):Dc (wo n K T (low ||| 2 ^ i)) (wo n K T high) (WU f t ((f t).1 ||| 2 ^ (x*n+y),(f t).2)) r' h':=by
 obtain⟨-,s,p,o⟩:=xk g m low
 refine⟨e,g.n4,λd l=> ?_,λd l=> ?_⟩
 ·have v:=P.lo d l
  have k: ∀a b,a<n->b<n->bf _ d a b=(bf (wo n K T low) d a b||(y9 (d=t)&&y9 (x*n+y=a*n+b))):=λa b j k=>by rw [CI g m low l j k,vm o k]
  unfold WU
  by_cases q:d=t
  ·subst q
   rw [if_pos rfl]
   refine⟨ny v.lt (An8 (by decide) (Wf.place_lt p o)),λa b j c=> ?_⟩
   rw [k a b j c,decide_eq_true rfl,Ae1]
   rw [Ae9,Ad7,Ae6,Ae6]
   exact or_congr (v.bit a b j c) Iff.rfl
  ·rw [if_neg q]
   refine⟨v.lt,λa b j c=> ?_⟩
   rw [k a b j c,decide_eq_false q,Ae8,Bool.or_false]
   exact v.bit a b j c
 ·have v:=P.hi d l
  unfold WU
  by_cases q:d=t
  ·subst q;rw [if_pos rfl];exact v
  ·rw [if_neg q];exact v
def Dc.no (P:Dc (wo n K T low) (wo n K T high) f r h) (g:bD n K T)(s:(bT n K T)[i]? =k0 (t,x,y)) (m:high.testBit i=u0)(e:h'[r']? =k0 (.aN (aO (K++T) (WU f t ((f t).1,(f t).2-2 ^ (x*n+y)))))):Dc (wo n K T low) (wo n K T (high-(high &&& 2 ^ i))) (WU f t ((f t).1,(f t).2-2 ^ (x*n+y))) r' h':=by
 obtain⟨o,A,z,p⟩:=xk g s high
 refine⟨e,g.n4,λc l=> ?_,λc l=> ?_⟩
 ·have v:=P.lo c l
  unfold WU
  by_cases q:c=t
  ·subst q;rw [if_pos rfl];exact v
  ·rw [if_neg q];exact v
 ·have v:=P.hi c l
  have k: ∀a b,a<n->b<n->bf _ c a b=(bf (wo n K T high) c a b&& !(y9 (c=t)&&y9 (x*n+y=a*n+b))):=λa b j k=>by rw [ID g s high l j k,vm p k]
  unfold WU
  by_cases q:c=t
  ·subst q
   rw [if_pos rfl]
   have bt:(f c).2.testBit (x*n+y)=true:=(v.bit x y z p).mpr (by rw [o];exact m)
   have w:=by
    have:=J7 (f c).2 (x*n+y)
    rw [jc,Wc,bt,if_pos rfl]at this
    exact Int.ofNat.inj (Ad5.inj this)
   refine⟨Ah6 (Ao7 _ _) v.lt,λa b j d=> ?_⟩
   rw [k a b j d,decide_eq_true rfl,Ae1]
   have u:(f c).2-2 ^ (x*n+y)=(f c).2-((f c).2 &&& 2 ^ (x*n+y)):=by rw [w]
   rw [u,Wf.aP,Ad7,Aa0,Aa0]
   exact and_congr (v.bit a b j d) Iff.rfl
  ·rw [if_neg q]
   refine⟨v.lt,λa b j d=> ?_⟩
   rw [k a b j d,decide_eq_false q,Ae8,Ao,Bool.and_true]
   exact v.bit a b j d
end
abbrev Ww:Tx:= [98,114,111,107,101,110]
abbrev Xi:Tx:= [115,112,108,105,116]
abbrev bC (K T:List Tx) (S:List Sy):D:= .tup [wD K T,.tup (S.map aC)]
def zC (k) (w) (l)(h):call prog (k+1) "is_tuple_of" [.t (.str s::r),.s w,.i l] h= .ok (.b (decide (r.length+1=l)&&s==w)) h:=by
 rw [Gb rfl _ _ _ rfl]
 simp only [Wz]
 have a:b7 .tuple (.t (.str s::r))=k0 true:=rfl
 have c:b7 .str (.s s)=k0 true:=rfl
 have b:=rq (r.length+1) l h
 by_cases e:r.length+1=l
 ·rw [decide_eq_true e]at b ⊢
  rw [xa (by simp_all [a,Qe,aq,Aa7,b])]
  rw [qa (w:= .b (s==w)) (h1:=h) (Ja rfl (by simp_all [aa,Ze,c,Xa])),Ga _ _ _ rfl]
  rfl
 ·rw [decide_eq_false e]at b ⊢
  rw [Xe (by simp_all [a,Qe,aq,Aa7,b]) rfl,Ga _ _ _ rfl]
  rfl
section
variable {n:Nat}{K T:List Tx}{S:List Sy}{h:AH}
def Bm (m r)(c:S[j]? =some s) (e:call prog (m+1) "_law_told" [.i n,.r r,.v (aC s)] h= .ok (.v (aG (some false))) h):call prog (m+2) "_law_walks" [.v (bC K T S),.i n,.r r,.t [.str Ww,.n j]] h= .ok (.b true) h:=by
 rw [Gb rfl _ _ _ rfl]
 simp only [Jn]
 have g:=(Aa1.mp c).1
 have d:=zx m (.n j) h rfl
 have a:aU (S.map aC) (j:Int)=k0 (aC s):=by rw [jg _ _ (by rw [Aa];exact g),Ac2,c];rfl
 have b:b7 .tuple (.t [.str Ww,.n j])=k0 true:=rfl
 have l:Gr .eq (.i (2)) (.v (.int 0)) h=k0 false:=rfl
 have k:Gr .eq (.i (2)) (.v (.int 2)) h=k0 true:=rfl
 have f:((0:Int)<=(j:Int)):=by omega
 have i:((j:Int)<(S.length:Int)):=by omega
 have cR:=ky (k0 k9) k9 h
 rw [xa (by simp_all [b,Qe,aq,Aa7,Ae,l])]
 rw [qa ((Jr (h1:=h) (by simp_all [aa,zg,Xa,aq,show(Ww== hZ)=u0 from rfl,Qe,Aa7,Ae,k])).trans ?_),Ga _ _ _ rfl]
 rw [xa (by simp_all [aa,Jd,d,Xw,aq,W3,jZ,f,i,decide_true,Qe,Aa])]
 exact qa (Ja rfl (by simp_all [aa,Jd,a,e,cR,aq];rfl))
def Ec (m r)(e:call prog (m+1) "_law_split" [.i n,.r r,.t [dn,da,db]] h= .ok (.own [.ref h.length,.ref (h.length+1)]) h2) (b:h2.take h.length=h) (l:h.length<=h2.length) (g:Gx h=true)
 (i:call prog (m+1) "_law_walks" [.v (bC K T S),.i n,.r h.length,.v p1] h2= .ok (.b true) h2) (j:call prog (m+1) "_law_walks" [.v (bC K T S),.i n,.r (h.length+1),.v p2] h2= .ok (.b true) h2):
 call prog (m+2) "_law_walks" [.v (bC K T S),.i n,.r r,.t [.str Xi,dn,da,db,p1,p2]] h= .ok (.b true) h:=by
 rw [Gb (d:=Jn) rfl _ _ _ rfl]
 simp only [Jn]
 have a:b7 .tuple (.t [.str Xi,dn,da,db,p1,p2])=k0 true:=rfl
 have p:Gr .eq (.i (6)) (.v (.int 0)) h=k0 false:=rfl
 have o:Gr .ne (.i (6)) (.v (.int 6)) h=k0 false:=rfl
 have k:Gr .ne (.s Xi) (.s kO) h=k0 false:=rfl
 rw [xa (by simp_all [a,Qe,aq,Aa7,Ae,p])]
 rw [xa (by simp_all [aa,Ze,Xa,aq,show(Xi== hZ)=k9 from rfl]),xa (by simp_all [aa,Ze,k,aq,Qe,Aa7,Ae,o])]
 have c:gf (.t [D.str Xi,dn,da,db,p1,p2]) (k0 1) (k0 4) h= .ok (.t [dn,da,db]) h:=rfl
 refine fx (by simp_all [c,e];rfl) ?_
 rw [xa (by simp_all [])]
 have a4:aU [D.str Xi,dn,da,db,p1,p2] 4=k0 p1:=rfl
 have a5:aU [D.str Xi,dn,da,db,p1,p2] 5=k0 p2:=rfl
 rw [qa (w:= .b u0) (h1:=h2) (Ja rfl (by simp_all [Jq,zg,Jd,aa,a4,a5,i,j]))]
 obtain⟨s,q,f⟩:=mT (d:= .bl u0) (h:=h2) (n:=h.length) rfl l (by rw [b];exact g)
 rw [q,f,b]
end
section
variable {n:Nat}{K T:List Tx}{S:List Sy}{h:AH}{ro low high:Nat}
abbrev hJ (ro:Nat) (p:D) (b a:Nat) (x y:Option W):Sl:= [k0 (.r ro),sv p,si b,si a,x,y]
def Ce (m)(C:h[ro]? =some (.obj "Cases" (cx n K T S))) (g:j<S.length) (e:call prog (m+2) "Cases.truth" [.r ro,.i j,.i low,.i high] h= .ok (.v (aG o)) h):call prog (m+3) "Cases.is_shown" [.r ro,.t [.str Ww,.n j],.i low,.i high] h= .ok (.b (o==some false)) h:=by
 rw [Gb rfl _ _ _ rfl]
 simp only [xf]
 have b:call prog _ "is_tuple_of" [.t [.str Ww,.n j],.s hZ,.v (.int 2)] h= .ok (.b true) h:=zC (m+1) Ww 2 h
 rw [qa ((Jr (h1:=h) (by simp_all [b])).trans ?_),Ga _ _ _ rfl]
 refine(za (by simp_all [aa,Jd];rfl)).trans ?_
 have c:=qC m (.n j) S.length h rfl
 rw [show Qp _ S.length=u0 by rw [Qp,Aa0,decide_eq_true_eq,decide_eq_true_eq];omega]at c
 have d:=Xk (F:=(u9 (m+2))) (τ:=hJ ro (.tup [.str Ww,.n j]) low high (si j) y0) (i:=0) (f:= "sayings") C rfl rfl
 have a:=JH (F:=(u9 (m+2))) (τ:=hJ ro (.tup [.str Ww,.n j]) low high (si j) y0) (i:=0) (m:= "truth") (q:= "Cases.truth") (es:= .cons .v4 (.b .v2 .v3)) (ws:= [.i j,.i low,.i high]) C rfl rfl (by simp_all [])
 have a:=a.trans e
 have cR:=ky o k9 h
 generalize E.aJ _ _ _=X at d ⊢
 generalize E.bO _ _ _ _ _=Y at a ⊢
 exact qa (Ja rfl (by simp_all))
def Hd (i):((2 ^ i &&& high)-((2 ^ i &&& high) &&& low)=0)↔ ¬(high.testBit i=u0/\low.testBit i=k9):=by
 rw [sub_zero]
 constructor
 ·rintro z ⟨c,b⟩
  have:=z i (by simp_all)
  rw [b]at this
  cases this
 ·intro z k a
  rw [Ah1,Ad7,Aa0,decide_eq_true_eq]at a
  obtain⟨rfl,a⟩:=a
  cases q:low.testBit i with
  | true=>rfl
  | false=>exact absurd ⟨a,q⟩ z
def HA (m)(C:h[ro]? =k0 (.obj "Cases" (cx n K T S)))(e:call prog (m+1) "Cases.bit_of" [.r ro,.v dn,.v da,.v db] h= .ok (.i v) h)(g:call prog (m+1) "Cases.is_shown" [.r ro,.v p1,.i (low ||| v),.i high] h= .ok (.b b1) h) (j:call prog (m+1) "Cases.is_shown" [.r ro,.v p2,.i low,.i (high-(high &&& v))] h= .ok (.b b2) h):
 call prog (m+2) "Cases.is_shown" [.r ro,.t [.str Xi,dn,da,db,p1,p2],.i low,.i high] h= .ok (.b (!decide ((v &&& high)-((v &&& high) &&& low)=0)&&(b1&&b2))) h:=by
 rw [Gb (d:=xf) rfl _ _ _ rfl]
 simp only [xf]
 have c:call prog _ "is_tuple_of" [.t [.str Xi,dn,da,db,p1,p2],.s hZ,.v (.int 2)] h= .ok (.b false) h:=zC m Ww 2 h
 have f:call prog _ "is_tuple_of" [.t [.str Xi,dn,da,db,p1,p2],.s kO,.v (.int 6)] h= .ok (.b true) h:=zC m Xi 6 h
 rw [xa (by simp_all [c]),xa (by simp_all [f,aq])]
 have k:aU [D.str Xi,dn,da,db,p1,p2] 1=k0 dn:=rfl
 have a2:aU [D.str Xi,dn,da,db,p1,p2] 2=k0 da:=rfl
 have a3:aU [D.str Xi,dn,da,db,p1,p2] 3=k0 db:=rfl
 have a4:aU [D.str Xi,dn,da,db,p1,p2] 4=k0 p1:=rfl
 have a5:aU [D.str Xi,dn,da,db,p1,p2] 5=k0 p2:=rfl
 have b:=JH (F:=(u9 (m+1))) (τ:=hJ ro (.tup [.str Xi,dn,da,db,p1,p2]) low high y0 y0) (i:=0) (m:= "bit_of") (q:= "Cases.bit_of") (es:= .cons (.ix .v1 (.int 1)) (.b (.ix .v1 (.int 2)) (.ix .v1 (.int 3)))) (ws:= [.v dn,.v da,.v db]) C rfl rfl (by simp_all [aa,k,a2,a3])
 have b:=b.trans e
 rw [za (τ1:=hJ ro (.tup [.str Xi,dn,da,db,p1,p2]) low high y0 (si v)) (h1:=h) (by
  generalize E.bO _ _ _ _ _=X at b ⊢
  simp_all [b])]
 have a:Gm (u9 (m+1)) (.cmp .eq (.bin .band (.bin .band .v5 .v3) (.inv .v2)) (.int 0)) (hJ ro (.tup [.str Xi,dn,da,db,p1,p2]) low high y0 (si v)) h= .ok (y9 ((v &&& high)-((v &&& high) &&& low)=0)) h:=by
  simp_all [jc,Wc,WG,w5]
 cases q:y9 ((v &&& high)-((v &&& high) &&& low)=0)
 ·rw [q]at a
  rw [xa a]
  have o:=JH (F:=(u9 (m+1))) (τ:=hJ ro (.tup [.str Xi,dn,da,db,p1,p2]) low high y0 (si v)) (i:=0) (m:= "is_shown") (q:= "Cases.is_shown") (es:= .cons (.ix .v1 (.int 4)) (.b (.bin .bor .v2 .v5) .v3)) (ws:= [.v p1,.i (low ||| v),.i high]) C rfl rfl (by simp_all [aa,a4,Jm,qm])
  have l:=JH (F:=(u9 (m+1))) (τ:=hJ ro (.tup [.str Xi,dn,da,db,p1,p2]) low high y0 (si v)) (i:=0) (m:= "is_shown") (q:= "Cases.is_shown") (es:= .cons (.ix .v1 (.int 5)) (.b .v2 (.bin .band .v3 (.inv .v5)))) (ws:= [.v p2,.i low,.i (high-(high &&& v))]) C rfl rfl (by simp_all [aa,a5,jc,WG])
  rw [qa (w:= .b (b1&&b2)) (h1:=h) (Ja rfl (WW (o.trans g) (l.trans j))),Ga _ _ _ rfl]
  rfl
 ·rw [q]at a
  rw [Xe (w:= .b k9) a rfl,Ga _ _ _ rfl]
  rfl
end
def uB (h:Sub a w) (q:Sub b w):Sub (a ||| b) w:=λk z=>by
 rw [Ae9,Ae6]at z
 exact z.elim (h k) (q k)
def sF (h:Sub w c) (q:w.testBit i=k9):Sub w (c-(c &&& 2 ^ i)):=λk z=>by
 rw [Wf.aP,h k z,Ad7,Ae1,Ag4]
 refine decide_eq_false λe=> ?_
 rw [← e,q]at z
 cases z
def p8 (p:Gx h=u0) (a b):Gx (h++ [.aN a,.aN b])=true:=by
 rw [Gx,List.all_append,show h.all Cell.pure=u0 from p];rfl
inductive Pp (n:Nat) (K T:List Tx) (S:List Sy):D->Prop where
 | brk {j:Nat}(h:j<S.length):Pp n K T S (.tup [.str Ww,.n j])
 | dD {i x y:Nat}{t:Tx}{p1 p2:D}(h:(bT n K T)[i]? =k0 (t,x,y)) (h1:Pp n K T S p1) (h2:Pp n K T S p2):Pp n K T S (.tup [.str Xi,.str t,.n x,.n y,p1,p2])
def Pp.nr {S:List Sy}(h:Pp n K T S p):Gd p=true:=by
 induction h with
 | brk _=>rfl
 | dD _ _ _ a b=>simp [a,b]
structure Wk (n:Nat) (K T:List Tx) (S:List Sy) (c:Nat) (p:D) (low high r:Nat) (h:AH):Prop where
 mH:Gx h=true-> ∀m,c<=m->call prog m "_law_walks" [.v (bC K T S),.i n,.r r,.v p] h= .ok (.b true) h
 snd: ∀w,Sub low w->Sub w high-> ∃s∈S,∀o,Td (wo n K T w) (wo n K T w) s o->o=k0 k9
def Lw (n:Nat) (K T:List Tx) (S:List Sy) (c:Nat) (p:D) (b a:Nat):Prop:= ∀f r h,Dc (wo n K T b) (wo n K T a) f r h->Wk n K T S c p b a r h
section
variable {n q c low high:Nat}{K T:List Tx}{S:List Sy}
def Lw.up (w:Lw n K T S c p low high) (l:c<=c'):Lw n K T S c' p low high:=λf r h P=>⟨λa m b=>(w f r h P).mH a m (Ab5 l b),(w f r h P).snd⟩
def Lw.brk (l: ∀s∈S,s.wf (K++T)/\s.dp<=q)(d:S[j]? =k0 s) (c:Td (wo n K T low) (wo n K T high) s (k0 k9)):Lw n K T S (q+10) (.tup [.str Ww,.n j]) low high:=λf r h P=>by
 have b:=Ac4 d
 obtain⟨wf,dp⟩:=l s b
 refine⟨λ_ m p=> ?_,λw o i=>⟨s,b,λg a=>Td.mono (kD o) (kD i) (Le.refl _) s _ g k9 c a rfl⟩⟩
 obtain⟨k,rfl⟩:=nk m 2 (by lia)
 obtain⟨g,a,e⟩:=uM P s (k+1) (by lia) wf
 rw [a.uniq c]at e
 exact Bm k r d e
theorem Lw.dD (g:bD n K T)(a:(bT n K T)[i]? =k0 (t,x,y)) (q:high.testBit i=u0) (B:low.testBit i=k9) (E:3<=c) (u:Lw n K T S c p1 (low ||| 2 ^ i) high) (A:Lw n K T S c p2 low (high-(high &&& 2 ^ i))):Lw n K T S (c+1) (.tup [.str Xi,.str t,.n x,.n y,p1,p2]) low high:=λf r h P=>by
 obtain⟨-,z,v,d⟩:=xk g a low
 obtain⟨C,l2⟩:=P.dD g a q B
 have D:(K++T).length<=100:=by rw [Aa5];have:=g.k4;have:=g.t4;omega
 have e:=u _ _ _ (P.yes g a (r':=h.length) (h':=h++ [.aN (aO (K++T) (WU f t ((f t).1 ||| 2 ^ (x*n+y),(f t).2))),.aN (aO (K++T) (WU f t ((f t).1,(f t).2-2 ^ (x*n+y))))]) (by simp))
 have l:=A _ _ _ (P.no g a q (r':=h.length+1) (h':=h++ [.aN (aO (K++T) (WU f t ((f t).1 ||| 2 ^ (x*n+y),(f t).2))),.aN (aO (K++T) (WU f t ((f t).1,(f t).2-2 ^ (x*n+y))))]) (by simp))
 refine⟨λb m F=> ?_,λw p j=> ?_⟩
 ·obtain⟨k,rfl⟩:=nk m 3 (by omega)
  exact Ec _ r (Bx k P.ad g.n4 z D v d C l2) (by simp) (by simp) b (e.mH (p8 b _ _) _ (by omega)) (l.mH (p8 b _ _) _ (by omega))
 ·cases o:w.testBit i with
  | true=>exact e.snd w (uB p λk s=>by
   rw [Ad7,decide_eq_true_eq]at s
   rw [← s];exact o) j
  | false=>exact l.snd w p (sF j o)
def walk (g:bD n K T) (A: ∀s∈S,s.wf (K++T)/\s.dp<=q)(H:Pp n K T S p): ∀d,dep p<=d-> ∀low high:Nat,low<2 ^ bN n K T->high<2 ^ bN n K T-> ∃b:Bool,(∀ m ro (h':AH),d+q+12<=m->h'[ro]? =some (.obj "Cases" (cx n K T S))->call prog m "Cases.is_shown" [.r ro,.v p,.i low,.i high] h'= .ok (.b b) h')/\(b=true->Lw n K T S (d+q+12) p low high):=by
 induction H with
 | @brk j D=>
  intro d w low high a c
  obtain⟨s,f⟩: ∃s,S[j]? =k0 s:=⟨S[j],Aa6 D⟩
  obtain⟨wf,dp⟩:=A s (Ac4 f)
  obtain⟨o,B, -⟩:=xL (q+9) j low high (ro:=0) (h:= [Cell.obj "Cases" _]) g rfl a c f (by lia) wf
  refine⟨o==k0 k9,λm ro h' P C=> ?_,λz=>(Lw.brk A f (eq_of_beq z▸B)).up (by lia)⟩
  obtain⟨k,rfl⟩:=nk m 3 (by lia)
  obtain⟨U,u,e⟩:=xL (k+1) j low high g C a c f (by lia) wf
  rw [u.uniq B]at e
  exact Ce k C D e
 | @dD i x y t R Q v _ _ r l=>
  intro d w low high a c
  simp only [dep,GG]at w
  obtain⟨d,rfl⟩: ∃e,d=e+1:=⟨d-1,by lia⟩
  have G:i<bN n K T:=by
   have:=(Aa1.mp v).1
   rw [WE]at this
   exact this
  obtain⟨F,I,E⟩:=r d (by lia) _ high (ny a (An8 (by decide) G)) c
  obtain⟨L,M,J⟩:=l d (by lia) low _ a (Ah6 (Ao7 _ _) c)
  refine⟨!y9 ((2 ^ i &&& high)-((2 ^ i &&& high) &&& low)=0)&&(F&&L),λm ro h' P C=> ?_,λz=> ?_⟩
  ·obtain⟨k,rfl⟩:=nk m 3 (by lia)
   exact HA _ C (A4 k g C v) (I _ ro h' (by lia) C) (M _ ro h' (by lia) C)
  ·rw [Aa0,Aa0,Ag4,decide_eq_false_iff_not]at z
   obtain⟨N,O⟩:=Classical.not_not.mp λy=>z.1 ((Hd i).mpr y)
   rw [show d+1+q+12=d+q+12+1 by lia]
   exact Lw.dD g v N O (by lia) (E z.2.1) (J z.2.2)
end
abbrev iq:List Tx:= [XF,Zb,xj,Q0,Za,zc,jb,wh]
abbrev gA (r:Nat) (N:List Tx) (g p:Nat) (b a:Option W):Sl:= [k0 (.r r),k0 (.l (N.map .str)),si g,si p,b,a]
def X7 (X Y)(e:Gn τ i=k0 (.s s)):Gm F (.or (.cmp .eq (.var i) (.str X)) (.cmp .eq (.var i) (.str Y))) τ h= .ok (s==X||s==Y) h:=by
 rw [Gm,km (a:=s==X) (b:=s==Y) (by simp only [eval,Gj,e,R.ae,Xa,R.ak,aq]) (by simp only [eval,Gj,e,R.ae,Xa,R.ak,aq]),R.ae]
 rfl
def HJ (k)(F:N.length<=8) (e:h[r]? =k0 (ah ns i v)): ∃ f v',f.wf N/\f.dp<=2/\execs (u9 (k+4)) (match bc.body with | .cons _ (.cons _ r)=>r | r=>r) (gA r N g p y0 y0) h= .ret (.v (dk f)) (h.set r (ah ns i v')):=by
 have H:r<h.length:=(Aa1.mp e).1
 have A: ∀w,_[r]? =k0 (ah ns i w):=λw=>Ab9 H
 obtain⟨a,v1,l,u,e1⟩:=uK F 1 _ h v e
 have e1:call prog (k+4) "_law_expression" [.r r,.l (N.map .str),.v (.int 1)] h= .ok (.v (aT a)) (h.set r (ah ns i v1)):=by
  rw [show 1+(k+1)+2=k+4 by omega]at e1
  exact e1
 have I:Gi .mod (p:Int) 8=k0 _:=lF p 8 (by decide)
 have pl:p % 8<8:=Aj6 _ (by decide)
 obtain⟨w,E⟩: ∃w,iq[p % 8]? =k0 w:=⟨iq[p % 8],Aa6 pl⟩
 have x:aU [D.str XF,.str Zb,.str xj,.str Q0,.str Za,.str zc,.str jb,.str wh] ((p % 8:Nat):Int)=k0 (.str w):=by
  show aU (iq.map D.str) _=_
  rw [jg _ _ (by rw [Aa];exact pl),Ac2,E];rfl
 have t:w=XF\/w=Zb\/w=xj\/w=Q0\/w∈ [Za,zc,jb,wh]:=by
  have:=Ac4 E
  simpa using this
 simp only [bc]
 have L: ∀X,execs (u9 _) X _ _=execs (u9 (k+4)) (.cons (.af 5 (.ix (.lst (.cons (.str fq) (.cons (.str iJ) (.g (.str fX) (.str hI) (.str fL) (.str gL) (.str mJ) (.str t5))))) (.bin .mod .v3 (.int 8)))) (.cons (.af 4 (.call "_law_expression" (.c .v0 .v1 (.int 1)))) X)) (gA r N g p none none) h:=fun X=>by
  rw [za (τ1:=gA r N g p y0 (k0 (.s w))) (h1:=h) (by simp_all [I,qN,x])]
  rw [za (τ1:=gA r N g p (sv (aT a)) (k0 (.s w))) (h1:=h.set r (ah ns i v1)) (by simp_all [e1])]
 rw [← L]
 have two:(w==XF||w==Zb)=true-> ∃ b v',b.wf N/\b.dp<=2/\ ∀X,execs (u9 (k+4)) (.cons (.r (.or (.cmp .eq .v5 (.str fq)) (.cmp .eq .v5 (.str iJ))) (.tup (.c .v5 .v4 (.call "_law_expression" (.c .v0 .v1 (.int 1)))))) X) (gA r N g p (sv (aT a)) (some (.s w))) _= .ret (.t [.str w,aT a,aT b]) (h.set r (ah ns i v')):=fun q=>by
  obtain⟨b,v2,d,B,e2⟩:=uK F 1 (k+1) _ v1 (A v1)
  have e2:call prog (k+4) "_law_expression" [.r r,.l (N.map .str),.v (.int 1)] (h.set r (ah ns i v1))= .ok (.v (aT b)) (h.set r (ah ns i v2)):=by
   rw [show 1+(k+1)+2=k+4 by omega,Ad8]at e2
   exact e2
  refine⟨b,v2,d,by omega,λX=> ?_⟩
  refine qa ((Jr (h1:=h.set r (ah ns i v1)) ?_).trans (qa (Ja rfl ?_)))
  ·rw [X7 XF Zb rfl,q]
  ·simp_all [e2]
 rcases t with rfl | rfl | rfl | rfl | t
 ·obtain⟨b,v2,d,B,e2⟩:=two rfl
  exact⟨.du a b,v2,⟨l,d⟩,by simp only [Fc.dp];omega,e2 _⟩
 ·obtain⟨b,v2,d,B,e2⟩:=two rfl
  exact⟨.dJ a b,v2,⟨l,d⟩,by simp only [Fc.dp];omega,e2 _⟩
 ·refine⟨.dX a,v1,l,Ao8 u,?_⟩
  rw [xa (X7 (s:=xj) XF Zb rfl)]
  exact Xe (X7 (s:=xj) xj Q0 rfl) (Ja rfl (by simp_all [];rfl))
 ·refine⟨.aj a,v1,l,Ao8 u,?_⟩
  rw [xa (X7 (s:=Q0) XF Zb rfl)]
  exact Xe (X7 (s:=Q0) xj Q0 rfl) (Ja rfl (by simp_all [];rfl))
 ·obtain⟨c,v2,y,e2⟩:=Wg (k+3) (A v1) (m:=90) (by decide) (by decide)
  rw [Ad8]at e2
  have e2:call prog (k+4) "_law_draw" [.r r,.v (.int 90)] (h.set r (ah ns i v1))= .ok (.i c) (h.set r (ah ns i v2)):=e2
  obtain⟨o,v3,C,n⟩:=Wg (k+3) (A v2) (m:=8) (by decide) (by decide)
  rw [Ad8]at n
  have n:call prog (k+4) "_law_draw" [.r r,.v (.int 8)] (h.set r (ah ns i v2))= .ok (.i o) (h.set r (ah ns i v3)):=n
  have J:((10:Int)+(c:Int))=((10+c:Nat):Int):=rfl
  obtain⟨j,K⟩: ∃j,[0,1,1,2,2,3,4,10+c][o]? =k0 j:=⟨_,Aa6 (show o< [0,1,1,2,2,3,4,10+c].length from C)⟩
  have z:aU [D.int 0,.int 1,.int 1,.int 2,.int 2,.int 3,.int 4,.n (10+c)] (o:Int)=k0 (.n j):=by
   show aU (aw [0,1,1,2,2,3,4,10+c]) _=_
   rw [jg _ _ (by rw [Aa];exact C),Ac2,K];rfl
  refine⟨.cnt w j a,v3,⟨t,l⟩,Ao8 u,?_⟩
  have G:(w==XF||w==Zb)=k9/\(w==xj||w==Q0)=false:=by
   have:w=Za\/w=zc\/w=jb\/w=wh:=by simpa using t
   rcases this with rfl | rfl | rfl | rfl<;>exact⟨rfl,rfl⟩
  rw [xa (by rw [X7 XF Zb rfl,G.1])]
  rw [xa (by rw [X7 xj Q0 rfl,G.2])]
  exact qa (Ja rfl (by simp_all [e2,Jc,J,n,qN,z];rfl))
def pe (J:N.length<=8): ∀ g k h v,h[r]? =k0 (ah ns i v)-> ∃ s v',s.wf N/\s.dp<=g+2/\call prog (g+k+5) "_law_saying" [.r r,.l (N.map .str),.i g] h= .ok (.v (aC s)) (h.set r (ah ns i v')):=by
 have leaf: ∀ g K h v,h[r]? =k0 (ah ns i v)-> ∀ p v1,(g=0\/ ¬7<p)->call prog (K+4) "_law_draw" [.r r,.v (.int 11)] h= .ok (.i p) (h.set r (ah ns i v1))-> ∃ s v',s.wf N/\s.dp<=g+2/\call prog (K+5) "_law_saying" [.r r,.l (N.map .str),.i g] h= .ok (.v (aC s)) (h.set r (ah ns i v')):=by
  intro g K h v e p v1 q e1
  have j:r<h.length:=(Aa1.mp e).1
  obtain⟨f,v2,wf,S,e2⟩:=HJ K J (Ab9 j)
  rw [Ad8]at e2
  refine⟨.fact f,v2,wf,by simp only [Sy.dp];omega,?_⟩
  rw [Gb rfl _ _ _ rfl]
  simp only [bc]at e2 ⊢
  refine fx (by simp_all [e1];rfl) ?_
  rw [xa (by
   have c:=gw 0 g (h.set r (ah ns i v1))
   have c:Gr .gt (.i g) (.v (.int 0)) (h.set r (ah ns i v1))=k0 (y9 (0<g)):=c
   have l:Gr .gt (.i p) (.v (.int 7)) (h.set r (ah ns i v1))=k0 (y9 (7<p)):=gw 7 p _
   rw [Gm,WW (a:=y9 (0<g)) (b:=y9 (7<p)) (by simp_all [c]) (by simp_all [l]),R.ae]
   have:(y9 (0<g)&&y9 (7<p))=false:=by
    rw [Bool.and_eq_false_iff,decide_eq_false_iff_not,decide_eq_false_iff_not]
    rcases q with q | q
    ·exact .inl (by omega)
    ·exact .inr q
   rw [this]
   rfl),e2]
  exact Ga _ h _ (Ae4 ..)
 intro g
 induction g with
 | zero=>
  intro k h v e
  obtain⟨p,v1,H,e1⟩:=Wg _ e (m:=11) (by decide) (by decide)
  rw [show 0+k+5=k+5 by omega]
  have e1:call prog _ "_law_draw" [.r r,.v _] h= .ok _ _:=e1
  exact leaf 0 k h v e p v1 (.inl rfl) e1
 | succ g B=>
  intro k h v e
  have j:r<h.length:=(Aa1.mp e).1
  have E: ∀w,(h.set r (ah ns i w))[r]? =k0 (ah ns i w):=λw=>Ab9 j
  have x: ∀w,(h.set r (ah ns i w)).length=h.length:=λw=>Ae4 ..
  rw [show g+1+k+5=(g+k+1)+5 by omega]
  obtain⟨p,v1,H,e1⟩:=Wg (g+k+1+3) e (m:=11) (by decide) (by decide)
  by_cases q:7<p
  ·have e1:call prog (g+k+5) "_law_draw" [.r r,.v (.int 11)] h= .ok (.i p) (h.set r (ah ns i v1)):=e1
   obtain⟨s,v2,C,T,e2⟩:=B k _ v1 (E v1)
   rw [Ad8]at e2
   have A:(((g+1:Nat):Int)-1)=((g:Nat):Int):=by omega
   rw [Gb (d:=bc) rfl _ _ _ rfl]
   show ∃s v',_/\_/\Gw _ (execs _ _ [k0 (.r r),k0 (.l (N.map .str)),si (g+1),y0,y0,y0] h)=_
   simp only [bc]
   rw [za (τ1:=gA r N (g+1) p y0 y0) (h1:=h.set r (ah ns i v1)) (by simp_all [e1])]
   have L: ∀a X,execs (u9 (g+k+5)) (.cons (.iff (.and (.cmp .gt .v2 (.int 0)) (.cmp .gt .v3 (.int 7))) a .nil) X) (gA r N (g+1) p y0 y0) (h.set r (ah ns i v1))=(execs (u9 (g+k+5)) a (gA r N (g+1) p y0 y0) (h.set r (ah ns i v1))).seq λP h=>execs (u9 (g+k+5)) X P h:=λa X=>by
    rw [execs,Jr (h1:=h.set r (ah ns i v1))]
    have c:Gr .gt (.i (g+1)) (.v (.int 0)) (h.set r (ah ns i v1))=k0 (y9 (0<g+1)):=gw 0 (g+1) _
    have l:Gr .gt (.i p) (.v (.int 7)) (h.set r (ah ns i v1))=k0 (y9 (7<p)):=gw 7 p _
    rw [Gm,WW (a:=y9 (0<g+1)) (b:=y9 (7<p)) (by simp_all [c]) (by simp_all [l]),R.ae,decide_eq_true q,decide_eq_true (by omega)]
    rfl
   rw [L]
   rw [za (τ1:=gA r N (g+1) p (sv (aC s)) y0) (h1:=h.set r (ah ns i v2)) (by simp_all [We,A,e2])]
   have y:Gr .eq (.i p) (.v (.int 8)) (h.set r (ah ns i v2))=k0 (y9 (p=8)):=zn p 8 _
   by_cases z:p=8
   ·refine⟨.neg s,v2,C,by simp only [Sy.dp];omega,?_⟩
    rw [Xe (w:= .v (aC (.neg s))) (by simp_all [y,decide_eq_true z]) (Ja rfl (by simp_all [];rfl)),O.cC]
    exact Ga _ h _ (x v2)
   ·rw [xa (by simp_all [y,decide_eq_false z])]
    obtain⟨u,v3,n,I,o⟩:=B k _ v2 (E v2)
    rw [Ad8]at o
    obtain⟨f,Q,M,t,F,G⟩: ∃f:Sy->Sy->Sy,(∀ a b,(f a b).dp=max a.dp b.dp+1)/\(∀ a b,a.wf N->b.wf N->(f a b).wf N)/\ ∃t,aU [D.str Zw,.str Qx] ((p:Int)-9)=k0 (.str t)/\ ∀a b,aC (f a b)= .tup [.str t,aC a,aC b]:=by
     have:p=9\/p=10:=by omega
     rcases this with rfl | rfl
     ·exact⟨.cg,λ_ _=>rfl,λ_ _ h g=>⟨h,g⟩,Zw,rfl,λ_ _=>rfl⟩
     ·exact⟨.cj,λ_ _=>rfl,λ_ _ h g=>⟨h,g⟩,Qx,rfl,λ_ _=>rfl⟩
    refine⟨f s u,v3,M _ _ C n,by rw [Q];omega,?_⟩
    rw [qa (w:= .v (aC (f s u))) (h1:=h.set r (ah ns i v3)) (Ja rfl (by rw [G];simp_all [We,qN,F,A,o])),O.cC]
    exact Ga _ h _ (x v3)
  ·have e1:call prog (g+k+1+4) "_law_draw" [.r r,.v (.int 11)] h= .ok (.i p) (h.set r (ah ns i v1)):=e1
   exact leaf (g+1) (g+k+1) h v e p v1 (.inr q) e1
noncomputable abbrev c6 (r:Nat) (w:D) (N:List Tx) (L:List D) (x:Option W):Sl:= [k0 (.r r),sv w,sv (.int 5),k0 (.l (N.map .str)),k0 (.own L),x]
def Ft (k)(B:N.length<=8) (A:ns.length<=63) (e:h[r]? =k0 (ah ns i v)) (I:L.length=j) (H:j<5) (D: ∀s∈L,s.wf N/\s.dp<=4+j): ∃ s M v',s.wf N/\s.dp<=5+j/\execs (u9 (k+7)) zi (c6 r w N (L.map aC) (si j)) h= .next (c6 r w N ((L++ [s]).map aC) (si j)) (h.set r (ah ns M v')):=by
 have y:r<h.length:=(Aa1.mp e).1
 have g: ∀i w,_[r]? =k0 (ah ns i w):=λi w=>Ab9 y
 obtain⟨v1,e1⟩:=rk (k+6) A e
 obtain⟨s,v2,u,J,e2⟩:=pe B 1 _ _ v1 (g (i+1) v1)
 have e2:call prog (k+7) "_law_saying" [.r r,.l (N.map .str),.v (.int 1)] (h.set r (ah ns (i+1) v1))= .ok (.v (aC s)) (h.set r (ah ns (i+1) v2)):=by
  rw [Ad8,show 1+(k+1)+5=k+7 by omega]at e2
  exact e2
 unfold zi
 rw [za (τ1:=c6 r w N (L.map aC) (si j)) (h1:=h.set r (ah ns (i+1) v1)) (by simp_all [e1])]
 have E:(L.map aC).length<bg:=by rw [Gg,Aa];omega
 rw [za (τ1:=c6 r w N ((L++ [s]).map aC) (si j)) (h1:=h.set r (ah ns (i+1) v2)) (by
  simp_all [e2,E,if_true]
  rw [Ae3]
  rfl)]
 have t: ∀z:AH,Gr .gt _ (.v (.int 0)) z=k0 _:=gw 0 j
 by_cases q:0<j
 ·obtain⟨d,v3,G,c⟩:=Wg _ (g (i+1) v2) (m:=9) (by decide) (by decide)
  rw [Ad8]at c
  have c:call prog (k+7) "_law_draw" [.r r,.v (.int 9)] _= .ok _ _:=c
  have o:Gm (u9 (k+7)) (.and (.cmp .gt .v5 (.int 0)) (.cmp .eq (.call "_law_draw" (.b .v0 (.int 9))) (.int 0))) (c6 r w N ((L++ [s]).map aC) (si j)) (h.set r (ah ns (i+1) v2))= .ok (decide (d=0)) (h.set r (ah ns (i+1) v3)):=by
   simp_all [t,decide_eq_true q,c,w5]
  by_cases n:d=0
  ·obtain⟨x,v4,K,l⟩:=Wg (k+6) (g (i+1) v3) (m:=j) q (by omega)
   rw [Ad8]at l
   have f:x<L.length:=by omega
   have b:aU ((L++ [s]).map aC) (x:Int)=k0 (aC L[x]):=by
    rw [jg _ _ (by rw [Aa,Aa5];omega),Ac2,Ad2 f,Aa6 f];rfl
   obtain⟨C,F⟩:=D _ (Am7 f)
   refine⟨.neg L[x],i+1,v4,C,by simp only [Sy.dp];omega,?_⟩
   have a:dv ((L++ [s]).map aC).length (-1)=k0 L.length:=by
    rw [Aa,Aa5]
    simp [dv]
    omega
   have p:((L++ [s]).map aC).set L.length (.tup [.str wK,aC L[x]])=(L++ [Sy.neg L[x]]).map aC:=by
    rw [Ae3,Ae3,List.set_append_right _ _ (by rw [Aa];omega),Aa,Ap]
    rfl
   rw [za (τ1:=c6 r w N ((L++ [Sy.neg L[x]]).map aC) (si j)) (h1:=h.set r (ah ns (i+1) v4)) ((Jr (h1:=h.set r (ah ns (i+1) v3)) (by rw [o,decide_eq_true n])).trans ?_),execs]
   rw [za (τ1:=c6 r w N ((L++ [Sy.neg L[x]]).map aC) (si j)) (h1:=h.set r (ah ns (i+1) v4)),execs]
   generalize (L++ [s]).map aC=Z at b a p ⊢
   simp_all [l,yH,b,a,p,Int.reduceNeg]
  ·refine⟨s,i+1,v3,u,by omega,?_⟩
   rw [za (m4 (h1:=h.set r (ah ns (i+1) v3)) (by rw [o,decide_eq_false n])),execs]
 ·refine⟨s,i+1,v2,u,by omega,?_⟩
  rw [xa (by simp_all [t,decide_eq_false q]),execs]
theorem rZ (k)(t:N.length<=8) (p:ns.length<=63): ∀ c j i v h (L:List Sy) (x:Option W),h[r]? =k0 (ah ns i v)->L.length=j->j+c<=5->(∀ s∈L,s.wf N/\s.dp<=4+j)-> ∃(d:List Sy) (m:Nat) (g:Int) (l:Option W),(∀ s∈d,s.wf N/\s.dp<=4+(j+c))/\d.length=j+c/\Gq (Gp [5] u0) (λτ h=>execs (u9 (k+7)) zi τ h) ((Ao0 j c).map λ(x:Nat)=>D.n x) (c6 r w N (L.map aC) x) h= .next (c6 r w N (d.map aC) l) (h.set r (ah ns m g))
 | 0,j,i,v,h,L,x,e,f,_,b=>⟨L,i,v,x,b,f,by
  rw [List.range'_zero,Af,JK]
  congr 1
  obtain⟨n,e⟩:=Aa1.mp e
  rw [← e,List.set_getElem_self]⟩
 | c+1,j,i,v,h,L,x,e,f,A,b=>by
  have n:r<h.length:=(Aa1.mp e).1
  obtain⟨s,i1,v1,y,B,e1⟩:=Ft k (w:=w) t p e f (by omega) b
  obtain⟨d,m,g,l,u,z,q⟩:=rZ k (w:=w) t p c (j+1) i1 v1 (h.set r (ah ns i1 v1)) (L++ [s]) (si j) (Ab9 n) (by rw [Aa5,f];rfl) (by omega) (λo a=>by
   rcases Ac5.mp a with a | a
   ·exact⟨(b o a).1,by have:=(b o a).2;omega⟩
   ·rw [Ac3.mp a];exact⟨y,by omega⟩)
  rw [Ad8]at q
  refine⟨d,m,g,l,λs b=>by have:=u s b;exact⟨this.1,by omega⟩,by omega,?_⟩
  rw [Am6,Ab1,zb (τ1:=c6 r w N (L.map aC) (si j)) rfl e1,q]
def DC (k)(g:bD n K T) (o:ns.length<=63) (e:h[r]? =k0 (ah ns i v)): ∃ S j v',(∀ s∈S,s.wf (K++T)/\s.dp<=9)/\S.length<=5/\call prog (k+8) "_law_theory" [.r r,.v (wD K T),.v (.int 5)] h= .ok (.v (bC K T S)) (h.set r (ah ns j v')):=by
 have l:r<h.length:=(Aa1.mp e).1
 obtain⟨d,v1,z,e1⟩:=Wg _ e (m:=6) (by decide) (by decide)
 have e1:call prog (k+7) "_law_draw" [.r r,.v (.int 6)] h= .ok _ _:=e1
 have q:(K++T).length<=8:=by rw [Aa5];have:=g.k4;have:=g.t4;omega
 obtain⟨L,j,v',A,c,y,f⟩:=rZ k q o d 0 i v1 _ [] y0 (Ab9 l) rfl (by omega) (λ_ h=>absurd h Ai4)
 rw [Ad8]at f
 refine⟨L,j,v',λs t=>by have:=c s t;exact⟨this.1,by omega⟩,by omega,?_⟩
 rw [Gb rfl _ _ _ rfl]
 simp only [qF]
 have p:(K.map D.str).length+(T.map D.str).length<=bg:=by rw [Gg,Aa,Aa];have:=g.k4;have:=g.t4;omega
 rw [za (τ1:= [k0 _,sv _,sv _,k0 (.l ((K++T).map .str)),y0,y0]) (by
  simp_all [aa,zg,Jd,QS,p,if_true,aq,uF]
  rw [Ae3])]
 refine fx (by simp_all [];rfl) ?_
 have a:((5:Int)+1)=6:=rfl
 have u:Gs (u9 (k+7)) (.ar (.call "_law_draw" (.b .v0 (.bin .add .v2 (.int 1))))) (c6 r (wD K T) (K++T) [] none) h= .ok ((List.range d).map fun x=>D.n x) (h.set r (ah ns i v1)):=by
  have b: -(fv)<=(d:Int)/\(d:Int)<fv:=by rw [GR];omega
  simp_all [Jc,a,e1,b,and_self,if_true,Ad4]
 rw [za (h1:=h.set r (ah ns j v')) (by
  rw [exec,u,R.au,An6]
  exact f)]
 rw [qa (w:= .v (bC K T L)) (h1:=h.set r (ah ns j v')) (Ja rfl (by simp_all [WX,aq]))]
 exact Ga _ h _ (Ae4 ..)
def vW {f:Tx->Nat×Nat}{t:Tx}{N:List Tx}(h:t∉N):GE (aO N f) t (aZ (f t).1 (f t).2)=aO (N++ [t]) f:=by
 unfold GE aO
 rw [if_neg,Ae3]
 ·rfl
 ·rw [Ad1]
  rintro ⟨p,a,e⟩
  obtain⟨x,b,rfl⟩:=Ab6.mp a
  have e:=by simpa using e
  exact h (e▸b)
def xt (h) (a b:Cell):(h++ [a]).set h.length b=h++ [b]:=by simp
def jm (h) (a:Cell):(h++ [a])[h.length]? =k0 a:=by simp
theorem nz {st:Option W->Sl}(c: ∀x d,GC (st x) 3 (.v d)=st (sv d)): ∀(a N:List Tx) (x:Option W),(N++a).Nodup->(∀ t∈a,∀N:List Tx,N.length<=8->execs F b (st (k0 (.s t))) (h++ [.aN (aO N f)])= .next (st (k0 (.s t))) (h++ [.aN (GE (aO N f) t (aZ (f t).1 (f t).2))]))->(N++a).length<=8-> ∃i,Gq (Gp [3] u0) (λτ h=>execs F b τ h) (a.map .str) (st x) (h++ [.aN (aO N f)])= .next (st i) (h++ [.aN (aO (N++a) f)])
 | [],N,x,_,_,_=>⟨x,by rw [Af1];rfl⟩
 | t::a,N,x,j,k,g=>by
  have m:t∉N:=λz=>(Aj2.mp j).2.2 t z t Aa4 rfl
  have e1:=k t Aa4 N (by rw [Aa5]at g;omega)
  rw [vW m]at e1
  obtain⟨i,e⟩:=nz c a (N++ [t]) (k0 (.s t)) (by rw [Ae7];exact j) (λu l=>k u (Aa2 _ l)) (by rw [Ae7];exact g)
  refine⟨i,?_⟩
  rw [Ab1,zb (τ1:=st (k0 (.s t))) (by rw [GA,c]) e1,e,Ae7]
  rfl
def fO (n:Nat) (T:List Tx) (t:Tx):Nat×Nat:=if t∈T then(0,2 ^ (n*n)-1)else(0,Wf.bA n)
def Bb (k)(g:bD n K T) (h):call prog (k+2) "_law_open" [.v (wD K T),.i n] h= .ok (.r h.length) (h++ [.aN (aO (K++T) (fO n T))]):=by
 obtain⟨e,m,q⟩:=Aj2.mp g.nd
 have p:n*n<=16:=Af2 g.n4 g.n4
 have v:Gi .mul (n:Int) (n:Int)=k0 _:=Zc n n (by have:=g.n4;omega)
 have r:=qV (n*n) (by omega)
 have a:((2 ^ (n*n):Nat):Int)-1=((2 ^ (n*n)-1:Nat):Int):=by
  have:=Ad (n*n)
  omega
 rw [Gb (d:=jC) rfl _ _ _ rfl]
 simp only [jC]
 have l: ∀N:List Tx,N.length<=8->(aO N (fO n T)).length<bg:=λN c=>by rw [Gg,aO,Aa];omega
 obtain⟨j,e1⟩:=nz (F:=(u9 (k+1))) (h:=h) (b:=jr) (f:=fO n T) (st:=λx=> [sv (wD K T),si n,k0 (.r h.length),x]) (λ_ _=>rfl) K [] y0 e (λt i N c=>by
  have u:t∉T:=λz=>q t i t z rfl
  have s:=vv k n (h++ [.aN (aO N (fO n T))]) g.n4
  have nr:Gd (aZ (fO n T t).1 (fO n T t).2)=true:=rfl
  have:fO n T t=(0,Wf.bA n):=by rw [fO,if_neg u]
  unfold jr
  rw [za (τ1:= [sv (wD K T),si n,k0 (.r h.length),k0 (.s t)]) (h1:=h++ [.aN (GE (aO N (fO n T)) t (aZ (fO n T t).1 (fO n T t).2))]) (by
   simp_all [s,Js (jm h (.aN (aO N (fO n T)))),aq]
   rw [if_pos ⟨l N c,rfl⟩,xt,this]
   rfl),execs]) (by have:=g.k4;rw [Ae2];omega)
 obtain⟨o,e2⟩:=nz (F:=(u9 (k+1))) (h:=h) (b:=Zp) (f:=fO n T) (st:=λx=> [sv (wD K T),si n,k0 (.r h.length),x]) (λ_ _=>rfl) T K j g.nd (λt i N c=>by
  have:fO n T t=(0,2 ^ (n*n)-1):=by rw [fO,if_pos i]
  unfold Zp
  rw [za (τ1:= [sv (wD K T),si n,k0 (.r h.length),k0 (.s t)]) (h1:=h++ [.aN (GE (aO N (fO n T)) t (aZ (fO n T t).1 (fO n T t).2))]) (by
   simp_all [v,r,We,a,Js (jm h (.aN (aO N (fO n T)))),aq]
   rw [if_pos ⟨l N c,rfl⟩,xt,this]
   rfl),execs]) (by have:=g.k4;have:=g.t4;rw [Aa5];omega)
 rw [Ae2]at e1
 rw [za (τ1:= [sv (wD K T),si n,k0 (.r h.length),y0]) (h1:=h++ [.aN (aO [] (fO n T))]) (by simp_all [aq];rfl)]
 rw [za (τ1:= [sv (wD K T),si n,k0 (.r h.length),j]) (h1:=h++ [.aN (aO K (fO n T))]) (by
  rw [exec,show Gs (u9 (k+1)) (.seq (.ix .v0 (.int 0))) [sv (wD K T),si n,k0 (.r h.length),y0] (h++ [.aN (aO [] (fO n T))])= .ok (K.map .str) (h++ [.aN (aO [] (fO n T))])by simp_all [aa,zg],R.au]
  exact e1)]
 rw [za (τ1:= [sv (wD K T),si n,k0 (.r h.length),o]) (h1:=h++ [.aN (aO (K++T) (fO n T))]) (by
  rw [exec,show Gs (u9 (k+1)) (.seq (.ix .v0 (.int 1))) [sv (wD K T),si n,k0 (.r h.length),j] (h++ [.aN (aO K (fO n T))])= .ok (T.map .str) (h++ [.aN (aO K (fO n T))])by simp_all [aa,Jd],R.au]
  exact e2)]
 rw [qa (w:= .r h.length) (h1:=h++ [.aN (aO (K++T) (fO n T))]) rfl]
 show fin h.length _ _=_
 unfold fin
 rw [if_neg (by simp),if_neg (by simp [W.keep])]
def yB {n:Nat}{K T:List Tx}(g:bD n K T){r:Nat}{h:AH}(e:h[r]? =k0 (.aN (aO (K++T) (fO n T)))):Dc (wo n K T 0) (wo n K T (2 ^ bN n K T-1)) (fO n T) r h:=by
 have a: ∀ {i x y:Nat}{t:Tx},_[i]? =k0 _->bf _ t x y=true:=λ{i x y t} b=>by
  have j:=(Aa1.mp b).1
  rw [WE]at j
  rw [(xk g b _).1,Ag1,decide_eq_true j]
 refine⟨e,g.n4,λt f=> ?_,λt f=> ?_⟩
 ·have:(fO n T t).1=0:=by unfold fO;split<;>rfl
  rw [this]
  refine⟨Ad _,λx y c d=> ?_⟩
  rw [Af9]
  refine⟨(λz=>by cases z),λz=> ?_⟩
  obtain⟨i,b⟩:=u5 f c d z
  rw [(xk g b 0).1,Af9]at z
  cases z
 ·unfold fO
  by_cases q:t∈T
  ·rw [if_pos q]
   refine⟨Nat.sub_lt (Ad _) (by decide),λx y c d=> ?_⟩
   obtain⟨i,b⟩:=pf (K:=K) c d (.inl q)
   have l:x*n+y<n*n:=Wf.place_lt c d
   show(2 ^ _-1).testBit (x*n+y)=u0↔_
   rw [Ag1,decide_eq_true l,a b]
  ·rw [if_neg q]
   have v:=(V.leaf (n:=n)).1
   refine⟨v.lt,λx y c d=>(v.bit x y c d).trans ?_⟩
   have k:=(Ac5.mp f).resolve_right q
   by_cases e:x=y
   ·subst e
    obtain⟨i,b⟩:=pf (T:=T) c c (.inr ⟨k,rfl⟩)
    rw [a b]
    simp [ZV]
   ·rw [bf,if_neg (show t∉(wo n K T _).T from q),decide_eq_false e,Ae8]
    simp [ZV,e]
def eE (n x:Nat):Nat:=((Aa8 n).map λa=>(x.testBit a).toNat*2 ^ (a*n+a)).sum
def sA {n x:Nat}(a:n<=4) (b:x<2 ^ n):eE n x=Wf.cO n (z7 n x):=by
 have: ∀n,n<5-> ∀x,x<16->eE n x=Wf.cO n (z7 n x):=by decide +kernel
 exact this n (by lia) x (Ab4 b (Ac9 (by decide) a))
def LV (k n x) (h) (l:n<=4):call prog (k+1) "_law_spread" [.i n,.i x] h= .ok (.i (eE n x)) h:=by
 rw [Gb rfl _ _ _ rfl]
 have e:eval (u9 k) Zm [si n,si x] h= .ok (.own (aw ((Aa8 n).map λa=>(x.testBit a).toNat*2 ^ (a*n+a)))) h:=by
  unfold Zm
  rw [Qo (λa=> .n _) rfl (by omega) λa b=>⟨.i _,?_,rfl⟩]
  ·rw [aw,Ad6];rfl
  ·have g:=Zc a n (by omega)
   have j:(x.testBit a).toNat<=1:=by cases x.testBit a<;>decide
   have f:=xQ (x.testBit a).toNat (a*n+a) (by omega) (by have:=Wf.place_lt b b;have:=ji (show n<=20 by omega);omega)
   have i:(((a*n:Nat):Int)+(a:Int))=((a*n+a:Nat):Int):=rfl
   simp_all [g,Jc,i,Jk,ou,f]
 have d:dG .sum [.own (aw ((Aa8 n).map λa=>(x.testBit a).toNat*2 ^ (a*n+a)))] h= .ok (.i (eE n x)) h:=by
  show(R.of h ((k0 (aw ((Aa8 n).map λa=>(x.testBit a).toNat*2 ^ (a*n+a)))).bind λc=>if c.length<=bg then Kj c else y0)).bind _=_
  rw [Ag0,if_pos (by rw [Gg,aw,Aa,Aa,Ah0];omega),qQ]
  rfl
 simp only [xE]
 rw [qa (w:= .i (eE n x)) (h1:=h) (Ja rfl (by simp_all [e,d])),Ga _ _ _ rfl]
theorem o3 {st:Option W->Option W->Sl}(g: ∀x y d,GC (st x y) 4 (.v d)=st (sv d) y) (L a:List Tx) (k:(a++L).Nodup) (m:(a++L).length<=8) (o: ∀(j:Nat) (t:Tx) (y:Option W) (N:List Tx),L[j]? =k0 t->N.length<=8-> ∃i,execs F b (st (si j) y) (h++ [.aN (aO N f)])= .next (st (si j) i) (h++ [.aN (GE (aO N f) t (aZ (f t).1 (f t).2))])): ∀(c j:Nat) (x y:Option W),j+c=L.length-> ∃M i,Gq (Gp [4] u0) (λτ h=>execs F b τ h) ((Ao0 j c).map λ(x:Nat)=>D.n x) (st x y) (h++ [.aN (aO (a++L.take j) f)])= .next (st M i) (h++ [.aN (aO (a++L) f)])
 | 0,j,x,y,r=>⟨x,y,by rw [Ai7 (by omega)];rfl⟩
 | c+1,j,x,y,r=>by
  have l:j<L.length:=by omega
  have q:L[j]? =k0 L[j]:=Aa6 l
  have n:a++L=(a++L.take j)++(L[j]::L.drop (j+1)):=by
   rw [Ae7,←Am1 l,List.take_append_drop]
  have s:L[j]∉a++L.take j:=λz=>by
   rw [n]at k
   exact(Aj2.mp k).2.2 _ z _ Aa4 rfl
  obtain⟨p,e1⟩:=o j L[j] y (a++L.take j) q (by rw [n,Aa5]at m;omega)
  rw [vW s,Ae7,show L.take j++ [L[j]]=L.take (j+1)by rw [List.take_append_getElem l]]at e1
  obtain⟨M,i,e⟩:=o3 g L a k m o c (j+1) (si j) p (by omega)
  refine⟨M,i,?_⟩
  rw [Am6,Ab1,zb (τ1:=st (si j) y) (by rw [GA,g]) e1,e]
noncomputable def fS (n:Nat) (K T:List Tx) (c:Nat) (t:Tx):Nat×Nat:=if t∈T then((cP n K.length T.length c).getD (cY t T) 0,(cP n K.length T.length c).getD (cY t T) 0)else(eE n ((cy n K.length T.length c).getD (cY t K) 0),eE n ((cy n K.length T.length c).getD (cY t K) 0))
def z8 {n c:Nat}{K T:List Tx}(g:bD n K T){r:Nat}{h:AH}(e:h[r]? =k0 (.aN (aO (K++T) (fS n K T c)))):Dc (wo n K T c) (wo n K T c) (fS n K T c) r h:=by
 have ok:=g.wo c
 have a: ∀t∈K++T,V n (fS n K T c t).1 (bf _ t)/\(fS n K T c t).2=(fS n K T c t).1:=λt b=>by
  unfold fS
  by_cases q:t∈T
  ·rw [if_pos q]
   have d:=(xm q).2
   refine⟨⟨?_,λx y i f=> ?_⟩,rfl⟩
   ·show(cP n K.length T.length c).getD _ 0<_
    rw [Ac8,mX d]
    exact Aj6 _ (Ad _)
   ·rw [bf,if_pos (show t∈(wo n K T c).T from q)]
    exact Iff.rfl
  ·rw [if_neg q]
   have j:=(Ac5.mp b).resolve_right q
   have d:=(xm j).2
   have lt:(cy n K.length T.length c).getD (cY t K) 0<2 ^ n:=by
    rw [Ac8,l6 d]
    exact Aj6 _ (Ad _)
   refine⟨⟨?_,λx y i f=> ?_⟩,rfl⟩
   ·show eE n _<_
    rw [sA g.n4 lt]
    exact Wf.cZ (zS _ _)
   ·show(eE n _).testBit _=u0↔_
    rw [sA g.n4 lt,rN i f,bf,if_neg (show t∉(wo n K T c).T from q),Aa0,decide_eq_true_eq]
    exact Iff.rfl
 exact⟨e,g.n4,λt b=>(a t b).1,λt b=>by rw [(a t b).2];exact(a t b).1⟩
def Ia (k c)(g:bD n K T) (h):call prog (k+2) "_law_seen" [.v (wD K T),.v (wo n K T c).aI] h= .ok (.r h.length) (h++ [.aN (aO (K++T) (fS n K T c))]):=by
 obtain⟨o,u,S⟩:=Aj2.mp g.nd
 have n4:=g.n4
 have M:=g.k4
 have J:=g.t4
 rw [Gb (d:=ZC) rfl _ _ _ rfl]
 show Gw _ (execs _ _ [sv (wD K T),sv (hY n (cy n K.length T.length c) (cP n K.length T.length c)),y0,y0,y0,y0] h)=_
 simp only [ZC]
 have H: ∀N:List Tx,N.length<=8->(aO N (fS n K T c)).length<bg:=λN r=>by rw [Gg,aO,Aa];omega
 have p: ∀(L:List Tx) (j:Nat) (t:Tx),L[j]? =k0 t->aU (L.map D.str) (j:Int)=k0 _:=λL j t e=>by
  rw [jg _ _ (by rw [Aa];exact(Aa1.mp e).1),Ac2,e];rfl
 generalize m:hY n _ _=a
 have V:aU [D.n n,.tup _,.tup (aw (cP n K.length T.length c))] 1=k0 (.tup (aw (cy n K.length T.length c))):=rfl
 obtain⟨G,s,e1⟩:=o3 (F:=(u9 (k+1))) (h:=h) (b:=Xp) (f:=fS n K T c) (st:=λx y=> [sv (wD K T),sv a,si n,k0 (.r h.length),x,y]) (λ_ _ _=>rfl) K [] o (by rw [Ae2];omega) (λj t y N l r=>by
  have C:=Ac4 l
  have U:t∉T:=λz=>S t C t z rfl
  have E:j<(cy n K.length T.length c).length:=by rw [wS];exact(Aa1.mp l).1
  have P:=LV k n ((cy n K.length T.length c).getD j 0) (h++ [.aN (aO N (fS n K T c))]) n4
  have B:fS n K T c t=(eE n ((cy n K.length T.length c).getD j 0),eE n ((cy n K.length T.length c).getD j 0)):=by rw [fS,if_neg U,X4 o l]
  have v:=mP _ j E
  have a2:=p K j t l
  refine⟨sv (.int ((eE n ((cy n K.length T.length c).getD j 0):Nat):Int)),?_⟩
  unfold Xp
  rw [za (τ1:= [sv (wD K T),sv a,si n,k0 (.r h.length),si j,sv (.int ((eE n ((cy n K.length T.length c).getD j 0):Nat):Int))]) (h1:=h++ [.aN (aO N (fS n K T c))]) (by
   rw [← m]
   simp_all [aa,WY,v,P])]
  rw [za (τ1:= [sv (wD K T),sv a,si n,k0 (.r h.length),si j,sv (.int ((eE n ((cy n K.length T.length c).getD j 0):Nat):Int))]) (h1:=h++ [.aN (GE (aO N (fS n K T c)) t (aZ (fS n K T c t).1 (fS n K T c t).2))]) (by
   simp_all [aa,zg,a2,Js (jm h (.aN (aO N (fS n K T c)))),aq]
   rw [if_pos ⟨H N r,rfl⟩,xt,B]),execs]) K.length 0 y0 y0 (by omega)
 obtain⟨O,Q,e2⟩:=o3 (F:=(u9 (k+1))) (h:=h) (b:=Xr) (f:=fS n K T c) (st:=λx y=> [sv (wD K T),sv a,si n,k0 (.r h.length),x,y]) (λ_ _ _=>rfl) T K g.nd (by rw [Aa5];omega) (λj t y N l r=>by
  have C:=Ac4 l
  have E:j<(cP n K.length T.length c).length:=by rw [WP];exact(Aa1.mp l).1
  have B:fS n K T c t=((cP n K.length T.length c).getD j 0,(cP n K.length T.length c).getD j 0):=by rw [fS,if_pos C,X4 u l]
  have v:=mP _ j E
  have a2:=p T j t l
  refine⟨y,?_⟩
  unfold Xr
  rw [za (τ1:= [sv (wD K T),sv a,si n,k0 (.r h.length),si j,y]) (h1:=h++ [.aN (GE (aO N (fS n K T c)) t (aZ (fS n K T c t).1 (fS n K T c t).2))]) (by
   rw [← m]
   simp_all [aa,Jd,i6,v,a2,Js (jm h (.aN (aO N (fS n K T c)))),aq]
   rw [if_pos ⟨H N r,rfl⟩,xt,B]),execs]) T.length 0 G s (by omega)
 rw [List.take_zero,Ae2]at e1
 rw [List.take_zero,Af1]at e2
 rw [Ae2]at e1
 have I: ∀(i:Int) (L:List Tx) (x y:Option W) (A:AH),L.length<=4->aU [g0 K,g0 T] i=k0 (g0 L)->Gs (u9 (k+1)) (.ar (.bi .len (.a (.ix .v0 (.int i))))) [sv (wD K T),sv a,si n,k0 (.r h.length),x,y] A= .ok ((Ao0 0 L.length).map λ(x:Nat)=>D.n x) A:=λi L x y A X q=>by
  rw [← An6]
  exact Zt (by simp_all [aa,q,Qe,aq,Aa]) (by omega)
 rw [za (τ1:= [sv (wD K T),sv a,si n,y0,y0,y0]) (h1:=h) (by
  rw [← m]
  simp_all [aa,mB])]
 rw [za (τ1:= [sv (wD K T),sv a,si n,k0 (.r h.length),y0,y0]) (h1:=h++ [.aN (aO [] (fS n K T c))]) (by simp_all [aq];rfl)]
 rw [za (τ1:= [sv (wD K T),sv a,si n,k0 (.r h.length),G,s]) (h1:=h++ [.aN (aO K (fS n K T c))]) (by
  rw [exec,I 0 K y0 y0 _ M rfl,R.au]
  exact e1)]
 rw [za (τ1:= [sv (wD K T),sv a,si n,k0 (.r h.length),O,Q]) (h1:=h++ [.aN (aO (K++T) (fS n K T c))]) (by
  rw [exec,I 1 T G s _ J rfl,R.au]
  exact e2)]
 rw [qa (w:= .r h.length) (h1:=h++ [.aN (aO (K++T) (fS n K T c))]) rfl]
 show fin h.length (.r h.length) _=_
 unfold fin
 rw [if_neg (by simp),if_neg (by simp [W.keep])]
def QR {F:Fx}{k:Nat}{aB:List Nat}{it:It}{c elt:E}{τ:Sl}{h:AH}{ds:List D}(Q:D->D->Prop) (i:Gk F it τ h= .ok ds h) (l:ds.length<=1000) (e: ∀d∈ds,∃y,eval F elt (GC (Aa3 k y0++aB.map λj=>Gj τ j) 0 (.v d)) h= .ok (.v y) h/\Q d y): ∃f:D->D,eval F (.comp [0] u0 k aB it k9 c elt) τ h= .ok (.own (ds.map f)) h/\ ∀d∈ds,Q d (f d):=by
 have: ∀d,∃y,d∈ds->eval F elt _ h= .ok _ h/\Q d y:=λd=>by
  by_cases m:d∈ds
  ·obtain⟨y,g⟩:=e d m
   exact⟨y,λ_=>g⟩
  ·exact⟨.aj,λz=>absurd z m⟩
 obtain⟨f,b⟩:=Classical.skolem.mp this
 refine⟨f,?_,λd a=>(b d a).2⟩
 exact qk f i (by rw [Gg];lia) λd a=>⟨_,rfl,_,(b d a).1,rfl⟩
theorem m7 (f:D->D): ∀ds:List D,(∀ d∈ds,∃b,f d= .bl b)-> ∃bs:List Bool,ds.map f=bs.map .bl
 | [],_=>⟨[],rfl⟩
 | d::ds,h=>by
  obtain⟨b,e⟩:=h d Aa4
  obtain⟨bs,e2⟩:=m7 f ds λd a=>h d (Aa2 _ a)
  exact⟨b::bs,by rw [Ab1,e,e2];rfl⟩
section
variable {n q:Nat}{K T:List Tx}{S:List Sy}
def vx (m c) (g:bD n K T) (I: ∀s∈S,s.wf (K++T)/\s.dp<=q) (U:S.length<=100) (W:q+8<=m) (h) (M:Gx h=true): ∃b:Bool,call prog (m+1) "_law_keeps" [.v (bC K T S),.v (wo n K T c).aI] h= .ok (.b b) h/\(b=true↔ ∀s∈S,Td (wo n K T c) (wo n K T c) s (some true)):=by
 obtain⟨k,rfl⟩:=nk m 2 (by omega)
 have e1:=Ia k c g h
 have P:=z8 g (c:=c) (jm h (.aN (aO (K++T) (fS n K T c))))
 rw [Gb (d:=Zv) rfl _ _ _ rfl]
 show ∃b,Gw _ (execs _ _ [sv (bC K T S),sv ((wo n K T c).aI),y0] h)=_/\_
 simp only [Zv]
 have u:(h++ [Cell.aN (aO (K++T) (fS n K T c))]).take h.length=h:=by simp
 have H:h.length<=(h++ [Cell.aN (aO (K++T) (fS n K T c))]).length:=by simp
 generalize h++ [Cell.aN _]=j at e1 P u H
 have C:aU [D.n n,.tup (aw (cy n K.length T.length c)),.tup (aw (cP n K.length T.length c))] 0=k0 _:=rfl
 have J: ∀s∈S,∃o,Td _ _ s o/\eval (u9 (k+2)) (.cmp .cR (.call "_law_told" (.c (.ix .v1 (.int 0)) .v2 .v0)) (.bl true)) [sv (aC s),sv ((wo n K T c).aI),some (.r h.length)] j= .ok (.b (o==some true)) j:=fun s a=>by
  obtain⟨o,r,p⟩:=uM P s (k+2) (by have:=(I s a).2;omega) (I s a).1
  have p:call prog (k+2) "_law_told" [.i n,.r h.length,.v (aC s)] j= .ok (.v (aG o)) j:=p
  have cR:=ky o u0 j
  have Q:(wo n K T c).aI= .tup [.n n,.tup (aw (cy n K.length T.length c)),.tup (aw (cP n K.length T.length c))]:=rfl
  refine⟨o,r,?_⟩
  rw [Q]
  simp_all [aa,C,p,cR]
 obtain⟨f,t,x⟩:=QR (F:=(u9 (k+2))) (k:=1) (aB:= [1,2]) (it:= .seq (.ix .v0 (.int 1))) (c:= .bl true) (elt:= .cmp .cR (.call "_law_told" (.c (.ix .v1 (.int 0)) .v2 .v0)) (.bl true)) (τ:= [sv (bC K T S),sv ((wo n K T c).aI),some (.r h.length)]) (h:=j) (ds:=S.map aC) (fun d y=> ∀s∈S,d=aC s-> ∃o,Td (wo n K T c) (wo n K T c) s o/\y= .bl (o==some true)) (by simp_all [aa,Jd]) (by rw [List.length_map];omega) (fun d l=>by
  obtain⟨s,a,rfl⟩:=Ab6.mp l
  obtain⟨o,r,p⟩:=J s a
  refine⟨.bl (o==k0 u0),p,λL A e=> ?_⟩
  obtain⟨R,E,i⟩:=J L A
  rw [← e]at i
  rw [p]at i
  refine⟨R,E,?_⟩
  injection i with i
  injection i)
 obtain⟨bs,B⟩:=m7 f (S.map aC) λd l=>by
  obtain⟨s,a,e⟩:=Ab6.mp l
  obtain⟨o, -,e2⟩:=x d l s a e.symm
  exact⟨_,e2⟩
 rw [B]at t
 have t:eval (u9 (k+2)) xz [sv (bC K T S),sv ((wo n K T c).aI),k0 (.r h.length)] j= .ok (.own (bs.map .bl)) j:=t
 refine⟨bs.all id,?_,λz s a=> ?_,λz=> ?_⟩
 ·have v:aU [wD K T,D.tup (S.map aC)] 0=k0 (wD K T):=rfl
  refine fx (by simp_all [aa,v,e1];rfl) ?_
  rw [qa (w:= .b (bs.all id)) (h1:=j) (Ja rfl (Xz t))]
  obtain⟨V,N,O⟩:=mT (d:= .bl (bs.all id)) (h:=j) (n:=h.length) rfl H (by rw [u];exact M)
  rw [N,O,u]
 ·obtain⟨o,r,e⟩:=x (aC s) (Ab6.mpr ⟨s,a,rfl⟩) s a rfl
  have m:f (aC s)∈bs.map D.bl:=by rw [← B];exact Ab6.mpr ⟨_,Ab6.mpr ⟨s,a,rfl⟩,rfl⟩
  obtain⟨b,G,e2⟩:=Ab6.mp m
  rw [e]at e2
  have e2:b=(o==k0 u0):=by injection e2
  have:=Ai6.mp z b G
  rw [e2]at this
  have:o=k0 true:=eq_of_beq this
  rw [← this]
  exact r
 ·rw [Ai6]
  intro b G
  have m:D.bl b∈bs.map D.bl:=Ab6.mpr ⟨b,G,rfl⟩
  rw [← B]at m
  obtain⟨d,l,e⟩:=Ab6.mp m
  obtain⟨s,a,rfl⟩:=Ab6.mp l
  obtain⟨o,r,e2⟩:=x (aC s) l s a rfl
  rw [e2,r.uniq (z s a)]at e
  injection e with e
  exact e.symm
end
theorem o5: ∀(u w) (c),dg (u++w) c=dg u c++dg w (c / 2 ^ u.sum)
 | [],w,c=>by simp [dg]
 | x::u,w,c=>by
  rw [Al2,dg,dg,o5 u w,Al2,Al3,Am9,←Nat.pow_add]
def Q8 (l) (x):aw (l++ [x])=aw l++ [.n x]:=by simp
theorem oW {st:Nat->List Nat->Option W->Sl}(f: ∀c i x d,GC (st c i x) 4 (.v d)=st c i (sv d)) (g: ∀ c i t,i.length<=8->execs F b (st c i (k0 (.s t))) h= .next (st (c / 2 ^ w) (i++ [c % 2 ^ w]) (k0 (.s t))) h): ∀(a:List Tx) c i x,i.length+a.length<=8-> ∃j,Gq (Gp [4] u0) (λτ h=>execs F b τ h) (a.map .str) (st c i x) h= .next (st (c / 2 ^ (a.length*w)) (i++dg (Aa3 a.length w) c) j) h
 | [],c,i,x,_=>⟨x,by simp [dg]⟩
 | t::a,c,i,x,k=>by
  rw [Aa7]at k
  obtain⟨j,e⟩:=oW f g a (c / 2 ^ w) (i++ [c % 2 ^ w]) (k0 (.s t)) (by rw [Aa5];simp;omega)
  refine⟨j,?_⟩
  rw [Ab1,zb (by rw [GA,f]) (g c i t (by omega)),e,Am9,←Nat.pow_add,Aa7,Ae5,dg,Ae7,show w+a.length*w=(a.length+1)*w by rw [Nat.add_mul];omega]
  rfl
def EI (k c)(g:bD n K T) (h):call prog (k+1) "_law_world" [.v (wD K T),.i n,.i c] h= .ok (.v (wo n K T c).aI) h:=by
 have n4:=g.n4
 have u:=g.k4
 have s:=g.t4
 have p:n*n<=16:=Af2 n4 n4
 have l:Gi .mul (n:Int) (n:Int)=k0 _:=Zc n n (by omega)
 have o:=qV n (by omega)
 have q:=qV (n*n) (by omega)
 rw [Gb rfl _ _ _ rfl]
 simp only [zL]
 have j: ∀a:List Nat,a.length<=8->(aw a).length<bg:=λa e=>by rw [Gg,aw,Aa];omega
 obtain⟨i,e1⟩:=oW (b:=Xo) (st:=λc a x=> [sv (wD K T),si n,si c,k0 (.own (aw a)),x,y0]) (λ_ _ _ _=>rfl) (λc a t e=>by
  have f:=lF c (2 ^ n) (Ad n)
  unfold Xo
  rw [za (τ1:= [sv (wD K T),si n,si c,k0 (.own (aw (a++ [c % 2 ^ n]))),k0 (.s t),y0]) (h1:=h) (by
   simp_all [o,f,j a e,if_true]
   rw [Q8])]
  rw [za (τ1:= [sv (wD K T),si n,si (c / 2 ^ n),k0 (.own (aw (a++ [c % 2 ^ n]))),k0 (.s t),y0]) (h1:=h) (by simp_all [Jk]),execs]) K c [] y0 (by simp;omega)
 obtain⟨v,e2⟩:=oW (F:=(u9 k)) (h:=h) (b:=jo) (w:=n*n) (st:=λd a x=> [sv (wD K T),si n,si d,k0 (.own (aw (dg (Aa3 K.length n) c))),x,k0 (.own (aw a))]) (λ_ _ _ _=>rfl) (λd a t e=>by
  have f:=lF d (2 ^ (n*n)) (Ad _)
  unfold jo
  rw [za (τ1:= [sv (wD K T),si n,si d,k0 (.own (aw (dg (Aa3 K.length n) c))),k0 (.s t),k0 (.own (aw (a++ [d % 2 ^ (n*n)])))]) (h1:=h) (by
   simp_all [l,q,f,j a e,if_true]
   rw [Q8])]
  rw [za (τ1:= [sv (wD K T),si n,si (d / 2 ^ (n*n)),k0 (.own (aw (dg (Aa3 K.length n) c))),k0 (.s t),k0 (.own (aw (a++ [d % 2 ^ (n*n)])))]) (h1:=h) (by simp_all [l,Jk]),execs]) T _ [] i (by simp;omega)
 rw [Ae2]at e1 e2
 rw [za (τ1:= [sv (wD K T),si n,si c,k0 (.own []),y0,y0]) (h1:=h) (by simp_all [])]
 rw [za (τ1:= [sv (wD K T),si n,si (c / 2 ^ (K.length*n)),k0 (.own (aw (dg (Aa3 K.length n) c))),i,y0]) (h1:=h) (by
  rw [exec,show Gs (u9 k) (.seq (.ix .v0 (.int 0))) [sv (wD K T),si n,si c,k0 (.own []),y0,y0] h= .ok (K.map .str) h by simp_all [aa,zg],R.au]
  exact e1)]
 refine fx (by simp_all [];rfl) ?_
 rw [za (by
  rw [exec,show Gs (u9 k) (.seq (.ix .v0 (.int 1))) [sv (wD K T),si n,si (c / 2 ^ (K.length*n)),k0 (.own (aw (dg (Aa3 K.length n) c))),i,k0 (.own [])] h= .ok (T.map .str) h by simp_all [aa,Jd],R.au]
  exact e2)]
 have m:cy n K.length T.length c=dg (Aa3 K.length n) c:=by
  rw [cy,cL,o5,List.take_left' (by rw [Q4,Ad3])]
 have r:cP n K.length T.length c=dg (Aa3 T.length (n*n)) (c / 2 ^ (K.length*n)):=by
  rw [cP,cL,o5,List.drop_left' (by rw [Q4,Ad3]),Xv]
 have ew:(wo n K T c).aI= .tup [.n n,.tup (aw (dg (Aa3 K.length n) c)),.tup (aw (dg (Aa3 T.length (n*n)) (c / 2 ^ (K.length*n))))]:=by
  rw [← m,←r];rfl
 rw [qa (w:= .v (wo n K T c).aI) (h1:=h) (Ja rfl (by rw [ew];simp_all [WX])),Ga _ _ _ rfl]
noncomputable def b4:Ex->List Tx
 | .name t=> [t]
 | .turned a=>b4 a
 | .closed a=>b4 a
 | .plus a b=>b4 a++b4 b
 | .less a b=>b4 a++b4 b
 | .both a b=>b4 a++b4 b
 | .joined a b=>b4 a++b4 b
 | _=> []
def yD:Fc->List Tx
 | .du a b=>b4 a++b4 b
 | .dJ a b=>b4 a++b4 b
 | .dX a=>b4 a
 | .aj a=>b4 a
 | .cnt _ _ a=>b4 a
def W7:Sy->List Tx
 | .fact f=>yD f
 | .neg a=>W7 a
 | .cg a b=>W7 a++W7 b
 | .cj a b=>W7 a++W7 b
def zF (h:a<=2 ^ x) (g:b<=2 ^ y):a+b<=2 ^ (max x y+1):=by
 have d:2 ^ x<=2 ^ max x y:=Ac9 (by decide) (Nat.le_max_left _ _)
 have c:2 ^ y<=2 ^ max x y:=Ac9 (by decide) (Nat.le_max_right _ _)
 lia
def kv (h:a<=2 ^ x):a<=2 ^ (x+1):=Ab5 h (Ac9 (by decide) (Ag6 _))
theorem Zd: ∀e:Ex,(b4 e).length<=2 ^ e.dp
 | .name _=>Ab _
 | .same=>Af4 _
 | .all=>Af4 _
 | .none=>Af4 _
 | .turned a=>kv (Zd a)
 | .closed a=>kv (Zd a)
 | .plus a b=>by rw [b4,Aa5];exact zF (Zd a) (Zd b)
 | .less a b=>by rw [b4,Aa5];exact zF (Zd a) (Zd b)
 | .both a b=>by rw [b4,Aa5];exact zF (Zd a) (Zd b)
 | .joined a b=>by rw [b4,Aa5];exact zF (Zd a) (Zd b)
theorem wm: ∀s:Sy,(W7 s).length<=2 ^ (s.dp+1)
 | .fact f=>by
  cases f with
  | du a b=>show(b4 a++b4 b).length<=_;rw [Aa5];exact zF (Zd a) (Zd b)
  | dJ a b=>show(b4 a++b4 b).length<=_;rw [Aa5];exact zF (Zd a) (Zd b)
  | dX a=>exact kv (Zd a)
  | aj a=>exact kv (Zd a)
  | cnt _ _ a=>exact kv (Zd a)
 | .neg a=>kv (wm a)
 | .cg a b=>by
  rw [W7,Aa5,Sy.dp]
  have:=zF (wm a) (wm b)
  rw [show max (a.dp+1) (b.dp+1)+1=max a.dp b.dp+1+1 by omega]at this
  exact this
 | .cj a b=>by
  rw [W7,Aa5,Sy.dp]
  have:=zF (wm a) (wm b)
  rw [show max (a.dp+1) (b.dp+1)+1=max a.dp b.dp+1+1 by omega]at this
  exact this
def hA (m:Nat) (h:AH) (p:D×List Tx):Prop:=(∃ i,p.1= .int i/\p.2= [])\/ ∃xs,p.1= .tup xs/\call prog m "names_in" [.v p.1] h= .ok (.own (p.2.map .str)) h
theorem sW : ∀(ps:List (D×List Tx)) j x,(∀ p∈ps,hA m h p)->j.length+(ps.flatMap (·.2)).length<=900000-> ∃L,Gq (Gp [2] u0) (λτ h=>execs (u9 m) Zl τ h) (ps.map (·.1)) [sv th,k0 (.own (j.map .str)),x] h= .next [sv th,k0 (.own ((j++ps.flatMap (·.2)).map .str)),L] h
 | [],j,x,_,_=>⟨x,by simp [Gq]⟩
 | (d,l)::ps,j,x,c,a=>by
  rw [Aj3,Aa5]at a
  have a:j.length+(l.length+(ps.flatMap (·.2)).length)<=900000:=a
  obtain⟨L,e⟩:=sW ps (j++l) (sv d) (λp b=>c p (Aa2 _ b)) (by rw [Aa5];omega)
  refine⟨L,?_⟩
  rw [Ab1,zb (τ1:= [sv th,k0 (.own (j.map .str)),sv d]) rfl,e,Aj3,Ae7]
  show execs _ Zl _ h=_
  unfold Zl
  rcases c (d,l) Aa4 with⟨i,e1,e2⟩ | ⟨f,e1,e2⟩
  ·cases e1
   cases e2
   rw [xa (by simp_all [EX,Ty.kL]),execs,Af1]
  ·cases e1
   have e2:=e2
   have g:(j.map D.str).length+(l.map D.str).length<bg:=by rw [Gg,Aa,Aa];omega
   rw [za ((Jr (h1:=h) (by simp_all [C9,Ty.gq])).trans ?_),execs]
   rw [za (τ1:= [sv th,k0 (.own ((j++l).map .str)),k0 (.t f)]) (by
    simp_all [e2,g,if_true]
    rw [Ae3]),execs]
def nu (b:(s==Qg)=k9) (ps:List (D×List Tx)) (a: ∀p∈ps,hA m h p) (c:(ps.flatMap (·.2)).length<=900000):call prog (m+1) "names_in" [.t (.str s::ps.map (·.1))] h= .ok (.own ((ps.flatMap (·.2)).map .str)) h:=by
 obtain⟨d,e⟩:=sW ps [] y0 a (by simp_all)
 rw [Ae2]at e
 rw [Gb rfl _ _ _ rfl]
 simp only [WA]
 rw [xa (by
  rw [← b]
  simp_all [aa,Ze,Xa])]
 refine fx (by simp_all [];rfl) ?_
 have sl:gf (.t (.str s::ps.map (·.1))) (k0 1) y0 h= .ok (.t (ps.map (·.1))) h:=by
  show aq _ h=_
  rw [show cut _ (k0 1) y0=_ from zX _ 1]
  rfl
 rw [za (by
  rw [exec,show Gs (u9 m) _ [k0 _,k0 _,y0] h= .ok (ps.map (·.1)) h by simp_all [sl],R.au]
  exact e)]
 rw [qa rfl,Gu _ _ _ rfl]
def J6 (a:(s==Qg)=k9):call prog (m+1) "names_in" [.t [.str s]] h= .ok (.own (([]:List Tx).map .str)) h:=nu a [] (fun _ h=>absurd h List.not_mem_nil) (Nat.zero_le _)
def mM (b:(s==Qg)=k9) (c:hA m h (d,l)) (e:l.length<=400000):call prog (m+1) "names_in" [.t [.str s,d]] h= .ok (.own (l.map .str)) h:=by
 have:=nu b [_] (λp a=>by rw [Ac3.mp a];exact c) (by simp;lia)
 simpa using this
def WO (e:(s==Qg)=k9) (f:hA m h (d,l)) (b:hA m h (d',l')) (g:l.length<=400000) (c:l'.length<=400000):call prog (m+1) "names_in" [.t [.str s,d,d']] h= .ok (.own ((l++l').map .str)) h:=by
 have:=nu e [_,_] (λp a=>by
  obtain rfl | a:=Ac.mp a
  ·exact f
  ·rw [Ac3.mp a];exact b) (by simp;lia)
 simpa using this
def vL (e): ∃xs,aT e= .tup xs:=by cases e<;>exact⟨_,rfl⟩
def qW (s): ∃xs,aC s= .tup xs:=by
 cases s with
 | fact f=>cases f<;>exact⟨_,rfl⟩
 | _=>exact⟨_,rfl⟩
def QI (d) (h:d<=17):2 ^ d<=400000:=Ab5 (Ac9 (by decide) h) (by decide)
def Eb (h): ∀ e m,e.dp+1<=m->e.dp<=16->call prog m "names_in" [.v (aT e)] h= .ok (.own ((b4 e).map .str)) h:=by
 intro e
 have ok: ∀ e m,(∀ m,e.dp+1<=m->e.dp<=16->call prog m "names_in" [.v _] h= .ok _ h)->e.dp+1<=m->e.dp<=16->hA m h (aT e,b4 e)/\(b4 e).length<=400000:=fun e m d f i=>by
  obtain⟨o,ex⟩:=vL e
  exact⟨.inr ⟨o,ex,d m f i⟩,Ab5 (Zd e) (QI _ (by omega))⟩
 have one: ∀ s a,_=k9->(∀ m,a.dp+1<=m->a.dp<=16->call prog m "names_in" [.v _] h= .ok _ h)-> ∀m,a.dp+1+1<=m->a.dp+1<=16->call prog m "names_in" [.t [.str s,aT a]] h= .ok _ h:=fun s a l d m f i=>by
  obtain⟨k,rfl⟩:=nk m 1 (by omega)
  obtain⟨g,j⟩:=ok a k d (by omega) (by omega)
  exact mM l g j
 have two: ∀ s a b,_=k9->(∀ m,a.dp+1<=m->a.dp<=16->call prog m "names_in" [.v _] h= .ok _ h)->(∀ m,b.dp+1<=m->b.dp<=16->call prog m "names_in" [.v _] h= .ok _ h)-> ∀m,max a.dp b.dp+1+1<=m->max a.dp b.dp+1<=16->call prog m "names_in" [.t [.str s,aT a,aT b]] h= .ok _ h:=fun s a b l d c m f i=>by
  obtain⟨k,rfl⟩:=nk m 1 (by omega)
  obtain⟨g,j⟩:=ok a k d (by omega) (by omega)
  obtain⟨p,n⟩:=ok b k c (by omega) (by omega)
  exact WO l g p j n
 induction e with
 | name t=>
  intro m f _
  obtain⟨k,rfl⟩: ∃k,m=k+1:=⟨m-1,by simp [Ex.dp]at f;omega⟩
  rw [Gb rfl _ _ _ rfl]
  show Gw _ (execs _ _ [k0 (.t [.str Qg,.str t]),y0,y0] h)=_
  simp only [WA]
  rw [qa (w:= .own [.str t]) (h1:=h) ((Jr (by simp_all [Xa];rfl)).trans (qa (QA rfl (by simp_all [aa,Jd])))),Gu _ _ _ rfl]
  rfl
 | same=>intro m f _;obtain⟨k,rfl⟩:=nk m 1 (by omega);exact J6 rfl
 | all=>intro m f _;obtain⟨k,rfl⟩:=nk m 1 (by omega);exact J6 rfl
 | none=>intro m f _;obtain⟨k,rfl⟩:=nk m 1 (by omega);exact J6 rfl
 | turned a d=>exact one xi a rfl d
 | closed a d=>exact one Wh a rfl d
 | plus a b d c=>exact two wF a b rfl d c
 | less a b d c=>exact two qp a b rfl d c
 | both a b d c=>exact two Jw a b rfl d c
 | joined a b d c=>exact two Zf a b rfl d c
def C6 (h): ∀ s m,s.wf N->s.dp+2<=m->s.dp<=14->call prog m "names_in" [.v (aC s)] h= .ok (.own ((W7 s).map .str)) h:=by
 intro s
 have c: ∀ e m,e.dp+1<=m->e.dp<=14->hA m h (aT e,b4 e)/\(b4 e).length<=400000:=λe m d g=>by
  obtain⟨o,ex⟩:=vL e
  exact⟨.inr ⟨o,ex,Eb h e m d (by omega)⟩,Ab5 (Zd e) (QI _ (by omega))⟩
 induction s with
 | fact f=>
  intro m wf d g
  obtain⟨k,rfl⟩:=nk m 1 (by omega)
  cases f with
  | du a b=>
   simp only [Sy.dp,Fc.dp]at d g
   obtain⟨i,l⟩:=c a k (by omega) (by omega)
   obtain⟨v,u⟩:=c b k (by omega) (by omega)
   exact WO rfl i v l u
  | dJ a b=>
   simp only [Sy.dp,Fc.dp]at d g
   obtain⟨i,l⟩:=c a k (by omega) (by omega)
   obtain⟨v,u⟩:=c b k (by omega) (by omega)
   exact WO rfl i v l u
  | dX a=>
   simp only [Sy.dp,Fc.dp]at d g
   obtain⟨i,l⟩:=c a k (by omega) (by omega)
   exact mM rfl i l
  | aj a=>
   simp only [Sy.dp,Fc.dp]at d g
   obtain⟨i,l⟩:=c a k (by omega) (by omega)
   exact mM rfl i l
  | cnt t j a=>
   simp only [Sy.dp,Fc.dp]at d g
   obtain⟨i,l⟩:=c a k (by omega) (by omega)
   have w:(t==Qg)=false:=by
    have:t=Za\/t=zc\/t=jb\/t=wh:=by simpa using wf.1
    rcases this with rfl | rfl | rfl | rfl<;>rfl
   have:=WO w (.inl ⟨_,rfl,rfl⟩:hA k h (.n j,[])) i (Af4 _) l
   exact this
 | neg a p=>
  intro m wf d g
  obtain⟨k,rfl⟩:=nk m 1 (by omega)
  simp only [Sy.dp]at d g
  obtain⟨o,ex⟩:=qW a
  exact mM rfl (.inr ⟨o,ex,p k wf (by omega) (by omega)⟩) (Ab5 (wm a) (QI _ (by omega)))
 | cg a b p n=>
  intro m wf d g
  obtain⟨k,rfl⟩:=nk m 1 (by omega)
  simp only [Sy.dp]at d g
  obtain⟨o,ex⟩:=qW a
  obtain⟨q,r⟩:=qW b
  exact WO rfl (.inr ⟨o,ex,p k wf.1 (by omega) (by omega)⟩) (.inr ⟨q,r,n k wf.2 (by omega) (by omega)⟩) (Ab5 (wm a) (QI _ (by omega))) (Ab5 (wm b) (QI _ (by omega)))
 | cj a b p n=>
  intro m wf d g
  obtain⟨k,rfl⟩:=nk m 1 (by omega)
  simp only [Sy.dp]at d g
  obtain⟨o,ex⟩:=qW a
  obtain⟨q,r⟩:=qW b
  exact WO rfl (.inr ⟨o,ex,p k wf.1 (by omega) (by omega)⟩) (.inr ⟨q,r,n k wf.2 (by omega) (by omega)⟩) (Ab5 (wm a) (QI _ (by omega))) (Ab5 (wm b) (QI _ (by omega)))
def i5 (L:List Tx):Nat->List Pl->Nat->Nat
 | _,[],v=>v
 | i,p::ps,v=>i5 L (i+1) ps (if p.1∈L then v ||| 2 ^ i else v)
theorem u6 : ∀ ps i v j,(i5 L i ps v).testBit j=u0↔v.testBit j=u0\/ ∃ k p,ps[k]? =k0 p/\j=i+k/\p.1∈L
 | [],i,v,j=>by
  exact⟨.inl,λh=>h.elim id λ⟨k,p,e,_⟩=>by simp at e⟩
 | p::ps,i,v,j=>by
  rw [i5,u6 ps]
  have b:(if p.1∈L then v ||| 2 ^ i else v).testBit j=u0↔v.testBit j=u0\/(j=i/\p.1∈L):=by
   by_cases q:p.1∈L
   ·rw [if_pos q,Ae9,Ad7,Ae6,decide_eq_true_eq]
    exact or_congr Iff.rfl ⟨λz=>⟨z.symm,q⟩,λz=>z.1.symm⟩
   ·rw [if_neg q]
    exact⟨.inl,λz=>z.elim id λz=>absurd z.2 q⟩
  rw [b]
  constructor
  ·rintro ((h | ⟨rfl,h⟩) | ⟨k,a,e,rfl,h⟩)
   ·exact .inl h
   ·exact .inr ⟨0,p,rfl,rfl,h⟩
   ·exact .inr ⟨k+1,a,e,by omega,h⟩
  ·rintro (h | ⟨k,a,e,rfl,h⟩)
   ·exact .inl (.inl h)
   ·cases k with
    | zero=>
     have:p=a:=by simpa using e
     exact .inl (.inr ⟨rfl,this▸h⟩)
    | succ k=>exact .inr ⟨k,a,by simpa using e,by omega,h⟩
abbrev g6 (ro:Nat) (s:D) (L:List Tx) (v:Nat) (x y:Option W):Sl:= [k0 (.r ro),sv s,k0 (.l (L.map .str)),si v,x,y]
def Md (s) (a:List Tx) (h):Gr .mem (.s s) (.l (a.map .str)) h=k0 (y9 (s∈a)):=Qy s a (.l _) h rfl rfl
theorem pF : ∀ ps i v x y,i+ps.length<=1000-> ∃j M,Gq (Gp [4,5] k9) (λτ h=>execs F xl τ h) (Kk i (ps.map bM)) (g6 ro s L v x y) h= .next (g6 ro s L (i5 L i ps v) j M) h
 | [],i,v,x,y,_=>⟨x,y,rfl⟩
 | p::ps,i,v,x,y,c=>by
  rw [Aa7]at c
  obtain⟨j,M,e⟩:=pF ps (i+1) (if p.1∈L then v ||| 2 ^ i else v) (si i) (sv (bM p)) (by omega)
  refine⟨j,M,?_⟩
  rw [Ab1,Kk,zb (τ1:=g6 ro s L v (si i) (sv (bM p))) rfl,e,i5]
  unfold xl
  have i0:dF (.v (bM p)) (.v (.int 0)) h=k0 (.str p.1):=rfl
  have a:Gm F (.cmp .mem (.ix .v5 (.int 0)) .v2) (g6 ro s L v (si i) (sv (bM p))) h= .ok (y9 (p.1∈L)) h:=by simp_all [i0,Md]
  by_cases q:p.1∈L
  ·rw [if_pos q,za ((Jr (by rw [a,decide_eq_true q])).trans ?_),execs]
   have b:=qV i (by omega)
   rw [za (τ1:=g6 ro s L (v ||| 2 ^ i) (si i) (sv (bM p))) (h1:=h) (by simp_all [b,Jm,qm]),execs]
  ·rw [if_neg q,xa (by rw [a,decide_eq_false q]),execs]
def eB (n:Nat) (K T:List Tx) (s:Sy):Nat:=i5 (W7 s) 0 (bT n K T) 0
section
variable {n:Nat}{K T:List Tx}{S:List Sy}{ro:Nat}{h:AH}
def rX (s) (j):(eB n K T s).testBit j=u0↔ ∃p:Pl,(bT n K T)[j]? =k0 p/\p.1∈W7 s:=by
 rw [eB,u6,Af9]
 constructor
 ·rintro (h | ⟨k,p,e,rfl,h⟩)
  ·cases h
  ·exact⟨p,by rw [Am0];exact e,h⟩
 ·rintro ⟨p,e,h⟩
  exact .inr ⟨j,p,e,(Am0 j).symm,h⟩
def B0 (m) (g:bD n K T) (C:h[ro]? =k0 (.obj "Cases" (cx n K T S)))(wf:s.wf (K++T)) (d:s.dp+2<=m) (b:s.dp<=14):call prog (m+1) "needed_bits" [.r ro,.v (aC s)] h= .ok (.i (eB n K T s)) h:=by
 have e1:=C6 h s m wf d b
 have e:0+(bT n K T).length<=1000:=by rw [WE];have:=g.b6;lia
 obtain⟨j,k,e2⟩:=pF _ 0 0 y0 y0 e
 refine fx (by simp_all [e1];rfl) ?_
 rw [za (τ1:=g6 ro _ _ 0 y0 y0) (by simp_all [];rfl)]
 have a:=Xk (F:=(u9 m)) (τ:=g6 ro (aC s) (W7 s) 0 y0 y0) (i:=0) (f:= "places") C rfl rfl
 rw [za (by
  have c:Gs (u9 m) (.ck (.aJ .v0 "Cases" "places")) (g6 ro (aC s) (W7 s) 0 none none) h= .ok (Kk 0 ((bT n K T).map bM)) h:=by
   show(eval _ _ _ h).bind _=_
   rw [a]
   rfl
  rw [exec,c,R.au]
  exact e2)]
 rw [qa (w:= .i (eB n K T s)) (h1:=h) rfl,Ga _ _ _ rfl]
end
theorem yf : ∀ f x a,x<f-> ∃y:Nat,GF (λτ h=>Gm F Wd τ h) (λτ h=>execs F zj τ h) f [si x,si a] h= .next [si (0),si y] h
 | 0,x,a,c=>absurd c (Ag5 _)
 | f+1,x,a,c=>by
  have i:Gm F Wd [si x,si a] h= .ok (y9 (0<x)) h:=by
   have z:Gr .gt (.i x) (.v (.int 0)) h=k0 (y9 (0<x)):=gw 0 x h
   unfold Wd
   simp_all [z]
  show ∃y:Nat,((Gm F Wd _ h).cS _)=_
  rw [i,R.au]
  by_cases q:0<x
  ·obtain⟨y,e⟩:=yf f (x &&& (x-1)) (a+1) (by have:x &&& (x-1)<=x-1:=Nat.and_le_right;omega)
   refine⟨y,?_⟩
   rw [decide_eq_true q]
   have b:execs F zj [si x,si a] h= .next [si (x &&& (x-1)),si (a+1)] h:=by
    have g: x-1=((x-1:Nat):Int):=by omega
    have d: a+1=((a+1:Nat):Int):=rfl
    refine(za (by simp_all [We,g,jc,Wc];rfl)).trans ?_
    rw [za (τ1:= [si (x &&& (x-1)),si (a+1)]) (h1:=h) (by simp_all [Jc,d]),execs]
   simp only [b]
   exact e
  ·refine⟨a,?_⟩
   have:x=0:=by omega
   subst this
   rfl
def Ld (k x) (h) (a:x<100000): ∃y:Nat,call prog (k+1) "how_many_set" [.i x] h= .ok (.i y) h:=by
 obtain⟨y,e⟩:=yf 100000 x 0 a
 refine⟨y,?_⟩
 refine fx (by simp_all [];rfl) ?_
 rw [za (by assumption)]
 rw [qa rfl,Ga _ _ _ rfl]
theorem WR : ∀ xs b j,(∀ m∈xs,∃y,G7 (key m)=k0 y)-> ∃i∈b::xs,GW key b j xs=k0 i
 | [],b,j,_=>⟨b,Aa4,rfl⟩
 | x::xs,b,j,h=>by
  obtain⟨y,e⟩:=h x Aa4
  rw [GW,e,Ag0]
  by_cases q:y<j
  ·obtain⟨i,a,c⟩:=WR xs x y λm d=>h m (Aa2 _ d)
   exact⟨i,Aa2 _ a,by rw [if_pos q];exact c⟩
  ·obtain⟨i,a,c⟩:=WR xs b j λm d=>h m (Aa2 _ d)
   refine⟨i,?_,by rw [if_neg q];exact c⟩
   rcases Ac.mp a with rfl | a
   ·exact Aa4
   ·exact Aa2 _ (Aa2 _ a)
def Dn (c:xs≠ []) (h: ∀m∈xs,∃y,G7 (key m)=k0 y): ∃i∈xs,Ka key (k0 xs)=k0 i:=by
 cases xs with
 | nil=>exact absurd rfl c
 | cons x xs=>
  obtain⟨y,e⟩:=h x Aa4
  obtain⟨i,b,a⟩:=WR xs x y λm d=>h m (Aa2 _ d)
  exact⟨i,b,by rw [Ka,e];exact a⟩
def LH (b:0<f) (h1:f<1024): ∃i:Nat,i<10/\f.testBit i=u0/\f-(f &&& (f-1))=2 ^ i:=by
 have: ∀f,f<1024->0<f->(Aa8 10).any λi=>f.testBit i&&y9 (f-(f &&& (f-1))=2 ^ i):=by decide +kernel
 obtain⟨i,a,e⟩:=Ad1.mp (this f h1 b)
 rw [Aa0,decide_eq_true_eq]at e
 exact⟨i,Ab8.mp a,e.1,e.2⟩
def As {f:Nat}(a:0<f):Gi .band (f:Int) (-(f:Int))=k0 ((f-(f &&& (f-1)):Nat):Int):=by
 rw [jc,G9,if_pos (Ao5 f),if_neg (by lia),Ad4,show(-(-(f:Int))-1).toNat=f-1 by lia]
def K0 (i):Kg ((2 ^ i:Nat):Int)=i+1:=by
 have:(2 ^ i)≠0:=Nat.ne_of_gt (Ad i)
 rw [Kg,if_neg (by lia),Int.natAbs_natCast,Nat.log2_two_pow]
def j9 (e:Ex):Gd (aT e)=u0/\dep (aT e)<=e.dp+1:=by
 induction e with
 | turned a c=>obtain⟨d,g⟩:=c;exact⟨by simp [aT,d],by simp [aT,Ex.dp];lia⟩
 | closed a c=>obtain⟨d,g⟩:=c;exact⟨by simp [aT,d],by simp [aT,Ex.dp];lia⟩
 | plus a b c k=>obtain⟨d,g⟩:=c;obtain⟨f,h⟩:=k;exact⟨by simp [aT,d,f],by simp [aT,Ex.dp];lia⟩
 | less a b c k=>obtain⟨d,g⟩:=c;obtain⟨f,h⟩:=k;exact⟨by simp [aT,d,f],by simp [aT,Ex.dp];lia⟩
 | both a b c k=>obtain⟨d,g⟩:=c;obtain⟨f,h⟩:=k;exact⟨by simp [aT,d,f],by simp [aT,Ex.dp];lia⟩
 | joined a b c k=>obtain⟨d,g⟩:=c;obtain⟨f,h⟩:=k;exact⟨by simp [aT,d,f],by simp [aT,Ex.dp];lia⟩
 | _=>exact⟨rfl,by simp [aT]⟩
def oE (s:Sy):Gd (aC s)=u0/\dep (aC s)<=s.dp+2:=by
 induction s with
 | fact f=>
  cases f with
  | du a b=>obtain⟨c,e⟩:=j9 a;obtain⟨d,h⟩:=j9 b;exact⟨by simp [aC,dk,c,d],by simp [aC,dk,Sy.dp,Fc.dp];lia⟩
  | dJ a b=>obtain⟨c,e⟩:=j9 a;obtain⟨d,h⟩:=j9 b;exact⟨by simp [aC,dk,c,d],by simp [aC,dk,Sy.dp,Fc.dp];lia⟩
  | dX a=>obtain⟨c,e⟩:=j9 a;exact⟨by simp [aC,dk,c],by simp [aC,dk,Sy.dp,Fc.dp];lia⟩
  | aj a=>obtain⟨c,e⟩:=j9 a;exact⟨by simp [aC,dk,c],by simp [aC,dk,GG,Sy.dp,Fc.dp];lia⟩
  | cnt t j a=>obtain⟨c,e⟩:=j9 a;exact⟨by simp [aC,dk,c],by simp [aC,dk,dep,GG,Sy.dp,Fc.dp];lia⟩
 | neg a g=>obtain⟨c,e⟩:=g;exact⟨by simp [aC,c],by simp [aC,dep,GG,Sy.dp];lia⟩
 | cg a b g k=>obtain⟨c,e⟩:=g;obtain⟨d,h⟩:=k;exact⟨by simp [aC,c,d],by simp [aC,dep,GG,Sy.dp];lia⟩
 | cj a b g k=>obtain⟨c,e⟩:=g;obtain⟨d,h⟩:=k;exact⟨by simp [aC,c,d],by simp [aC,dep,GG,Sy.dp];lia⟩
def qE (k)(g:bD n K T) (h):call prog (k+5) "check_bits" [.v (wD K T),.i n,.v (.int 16)] h= .ok (.v .aj) h:=by
 have n4:=g.n4
 have c:=g.b6
 have b:=tm k (.n n) h rfl (by simp [Qp];lia)
 have a:=rb (k+2) n (K.map .str) (T.map .str) h n4 (by rw [Aa];exact g.k4) (by rw [Aa];exact g.t4)
 rw [Aa,Aa,nq]at a
 rw [Gb rfl _ _ _ rfl]
 simp only [zE]
 refine fx (by simp_all [b];rfl) ?_
 refine fx (by simp_all [a];rfl) ?_
 have z:Gr .gt _ (.v (.int 16)) h=k0 _:=gw 16 (bN n K T) h
 rw [decide_eq_false (by lia)]at z
 rw [xa (by simp_all [z]),execs]
 exact Gz _ h _ rfl
def ZU (h:eval F e τ (g++ [.obj c fs])= .ok (.v d) (g++ [.obj c fs])) (j:Gn τ i=k0 (.r g.length)) (b:Gd d=u0) (a:fs.length<100):exec F (.bI i c f e) τ (g++ [.obj c fs])= .next τ (g++ [.obj c (aW f d fs)]):=by
 rw [exec,h,R.au]
 simp only [j,Zo (jm g _),b,a,and_self,if_true,xt]
def Cm (d:eval F e τ (g++ [.obj c fs])= .ok (.own xs) (g++ [.obj c fs])) (h:Gn τ i=k0 (.r g.length)) (b:Gc xs=u0) (a:fs.length<100):exec F (.bS i c f e) τ (g++ [.obj c fs])= .next τ (g++ [.obj c (aW f (.lst xs) fs)]):=by
 rw [exec,d,R.au]
 simp only [W.fG,h,Zo (jm g _),show Gd (.lst xs)=u0 from b,a,and_self,if_true,xt]
def Lf (k){S:List Sy}(g:bD n K T) (h:AH):call prog (k+4) "Cases.__init__" [.r h.length,.v (bC K T S),.i n] (h++ [.obj "Cases" []])= .ok (.v .aj) (h++ [Cell.obj "Cases" (cx n K T S)]):=by
 rw [Gb (d:=Wi) rfl _ _ _ rfl]
 show Gw _ (execs _ _ [k0 (.r h.length),sv (bC K T S),si n] (h++ [.obj "Cases" []]))=_
 simp only [Wi]
 have m:Gd (wD K T)=true:=by
  show(Gc (K.map .str)&&(Gc (T.map .str)&&u0))=u0
  rw [Qv,Qv];rfl
 have c:Gd (.tup (S.map aC))=true:=Wj _ (λs=>(oE s).1) S
 have j: ∀a,eval (u9 (k+3)) (.ix .v1 (.int 0)) [k0 (.r h.length),sv (bC K T S),si n] a= .ok (.v (wD K T)) a:=λa=>by simp_all [aa,zg]
 have p: ∀a,eval (u9 (k+3)) (.ix .v1 (.int 1)) [k0 (.r h.length),sv (bC K T S),si n] a= .ok (.t (S.map aC)) a:=λa=>by simp_all [aa,Jd]
 rw [za (ZU (fs:= []) (j _) rfl m (show 0<100 by decide))]
 rw [za (ZU (fs:=aW "words" (wD K T) []) (p _) rfl c (show 1<100 by decide))]
 rw [za (ZU (fs:=aW "sayings" (.tup (S.map aC)) (aW "words" (wD K T) [])) (d:= .n n) (by simp_all []) rfl rfl (show 2<100 by decide))]
 have pl: ∀a,eval (u9 (k+3)) (.call "places_of" (.b (.ix .v1 (.int 0)) .v2)) [some (.r h.length),sv (bC K T S),si n] a= .ok (.own ((bT n K T).map bM)) a:=fun a=>by
  have e:=Fd k n K T a g.n4 g.k4 g.t4
  simp_all [aa,zg,e]
  rfl
 rw [za (Cm (fs:=aW "size" (.n n) (aW "sayings" (.tup (S.map aC)) (aW "words" (wD K T) []))) (pl _) rfl (WH _) (show 3<100 by decide))]
 have q:aW "places" (.lst ((bT n K T).map bM)) (aW "size" (.n n) (aW "sayings" (.tup (S.map aC)) (aW "words" (wD K T) [])))= [("words",wD K T),("sayings",.tup (S.map aC)),("size",.n n),("places",.lst ((bT n K T).map bM))]:=rfl
 rw [q]
 have r:=g.b6
 have o:=qV (bN n K T) (by show K.length*n+T.length*(n*n)<=_;omega)
 have l:((2 ^ bN n K T:Nat):Int)-1=((2 ^ bN n K T-1:Nat):Int):=by
  have:=Ad (bN n K T)
  omega
 rw [za (ZU (d:= .n (2 ^ bN n K T-1)) (by
  have b:=Xk (F:=(u9 (k+3))) (τ:= [k0 (.r h.length),sv (bC K T S),si n]) (i:=0) (f:= "places") (jm h (.obj "Cases" [("words",wD K T),("sayings",.tup (S.map aC)),("size",.n n),("places",.lst ((bT n K T).map bM))])) rfl rfl
  generalize E.aJ _ _ _=X at b ⊢
  simp_all [b,JJ,aq,Aa,WE,o,We,l]) rfl rfl (by simp))]
 rw [execs]
 exact Gz _ _ _ (by simp)
noncomputable def ef (n:Nat) (K T:List Tx) (S:List Sy) (a:Nat):List (String×D):= [("cases",.ref a),("needs",.lst (aw (S.map (eB n K T))))]
structure Se (n:Nat) (K T:List Tx) (S:List Sy) (rs rc:Nat) (h:AH):Prop where
 se:h[rs]? =k0 (.obj "Search" (ef n K T S rc))
 cs:h[rc]? =k0 (.obj "Cases" (cx n K T S))
theorem tq (f) (P:Nat->Prop): ∀ds:List D,(∀ d∈ds,∃x:Nat,f d= .n x/\P x)-> ∃xs:List Nat,ds.map f=aw xs/\(∀ x∈xs,P x)/\xs.length=ds.length
 | [],_=>⟨[],rfl,λ_ h=>absurd h Ai4,rfl⟩
 | d::ds,h=>by
  obtain⟨x,e,p⟩:=h d Aa4
  obtain⟨xs,e2,c,l2⟩:=tq f P ds λd b=>h d (Aa2 _ b)
  refine⟨x::xs,by rw [Ab1,e,e2];rfl,λy a=> ?_,by rw [Aa7,l2,Aa7]⟩
  rcases Ac.mp a with rfl | a
  ·exact p
  ·exact c y a
section
variable {n q:Nat}{K T:List Tx}{S:List Sy}
def ER (m:Nat) (g:bD n K T) (l: ∀s∈S,s.wf (K++T)/\s.dp<=q) (L:S.length<=100) (N:q+7<=m) (M:q<=14) (h:AH):call prog (m+1) "Search.__init__" [.r h.length,.v (bC K T S),.i n] (h++ [.obj "Search" []])= .ok (.v .aj) (h++ [.obj "Search" (ef n K T S (h.length+1)),.obj "Cases" (cx n K T S)]):=by
 obtain⟨k,rfl⟩:=nk m 4 (by omega)
 have e1:=Lf k (S:=S) g (h++ [Cell.obj "Search" []])
 have p:(h++ [Cell.obj "Search" []]).length=h.length+1:=by simp
 rw [p]at e1
 rw [Gb (d:=Qh) rfl _ _ _ rfl]
 show Gw _ (execs _ _ [k0 (.r h.length),sv (bC K T S),si n] (h++ [.obj "Search" []]))=_
 simp only [Qh]
 have A: ∀fs x,GX (h++ [Cell.obj "Search" fs]++x) _=some (h.length, "Search",fs):=fun fs x=>Zo (by simp)
 have z: ∀fs b x,(h++ [Cell.obj "Search" fs]++x).set h.length (.obj "Search" b)=h++ [Cell.obj "Search" b]++x:=fun fs b x=>by simp
 have mk:eval (u9 (k+4)) (.make "Cases" "Cases.__init__" (.b .v1 .v2)) [some (.r h.length),sv (bC K T S),si n] (h++ [.obj "Search" []])= .ok (.r (h.length+1)) (h++ [.obj "Search" []]++ [.obj "Cases" (cx n K T S)]):=by
  simp_all [p,e1,aq]
 rw [za (τ1:= [k0 (.r h.length),sv (bC K T S),si n]) (h1:=h++ [.obj "Search" [("cases",.ref (h.length+1))]]++ [.obj "Cases" (cx n K T S)]) (by
  rw [exec,mk,R.au]
  simp only [Gn,A,Ae,show(0:Nat)<100 by decide,and_self,if_true,z]
  rfl)]
 have w:(h++ [Cell.obj "Search" [("cases",.ref (h.length+1))]]++ [Cell.obj "Cases" (cx n K T S)])[h.length+1]? =some (.obj "Cases" (cx n K T S)):=by simp
 have j:(h++ [Cell.obj "Search" [("cases",.ref (h.length+1))]]++ [Cell.obj "Cases" (cx n K T S)])[h.length]? =some (.obj "Search" [("cases",.ref (h.length+1))]):=by simp
 have v:=A [("cases",.ref (h.length+1))] [Cell.obj "Cases" (cx n K T S)]
 have u:=z [("cases",.ref (h.length+1))] (ef n K T S (h.length+1)) [Cell.obj "Cases" (cx n K T S)]
 have B:h++ [Cell.obj "Search" (ef n K T S (h.length+1))]++ [Cell.obj "Cases" (cx n K T S)]=h++ [.obj "Search" (ef n K T S (h.length+1)),.obj "Cases" (cx n K T S)]:=by simp
 generalize h++ [Cell.obj "Search" [("cases",.ref (h.length+1))]]++ [Cell.obj "Cases" (cx n K T S)]=H at w j v u ⊢
 have comp:eval (u9 (k+4)) Jf [k0 (.r h.length),sv (bC K T S),si n] H= .ok (.own (aw (S.map (eB n K T)))) H:=by
  unfold Jf
  obtain⟨f,J,G⟩:=QR (F:=(u9 (k+4))) (k:=1) (aB:= [0]) (it:= .seq (.ix .v1 (.int 1))) (c:= .bl true) (elt:= .call "needed_bits" (.cons (.aJ .v1 "Search" "cases") (.a .v0))) (τ:= [some (.r h.length),sv (bC K T S),si n]) (h:=H) (ds:=S.map aC) (fun d y=> ∀s∈S,d=aC s->y= .n (eB n K T s)) (by simp_all [aa,Jd]) (by rw [List.length_map];omega) (fun d D=>by
   have r: ∀s∈S,eval (u9 (k+4)) (.call "needed_bits" (.cons (.aJ .v1 "Search" "cases") (.a .v0))) [sv (aC s),some (.r h.length)] H= .ok (.i (eB n K T s)) H:=fun s a=>by
    have e:=B0 (k+3) g w (l s a).1 (by have:=(l s a).2;omega) (by have:=(l s a).2;omega)
    have t:=Xk (F:=(u9 (k+4))) (τ:= [sv (aC s),k0 (.r h.length)]) (i:=1) (f:= "cases") j rfl rfl
    generalize E.aJ _ _ _=X at t ⊢
    simp_all [t,e]
   obtain⟨s,a,rfl⟩:=Ab6.mp D
   refine⟨_,r s a,λC o e=> ?_⟩
   have e1:=r s a
   rw [e,r C o]at e1
   injection e1 with e1
   injection e1 with e1
   exact e1.symm)
  rw [J]
  congr 2
  rw [Ad6,aw,Ad6]
  exact Ai1 λs a=>G (aC s) (Ab6.mpr ⟨s,a,rfl⟩) s a rfl
 rw [za (τ1:= [k0 (.r h.length),sv (bC K T S),si n]) (h1:=h++ [.obj "Search" (ef n K T S (h.length+1)),.obj "Cases" (cx n K T S)]) (by
  rw [exec,comp,R.au]
  simp only [W.fG,Gn,v,show Gd (.lst (aw (S.map (eB n K T))))=u0 from mf _,Aa7,Ae,show(0+1:Nat)<100 by decide,and_self,if_true]
  rw [show (aW "needs" (.lst (aw (S.map (eB n K T)))) [("cases",.ref (h.length+1))])=ef n K T S (h.length+1)from rfl,u,B]),execs]
 show fin _ (.v .aj) _=_
 unfold fin
 have I:Gx ((h++ [Cell.obj "Search" (ef n K T S (h.length+1)),.obj "Cases" (cx n K T S)]).take (h++ [Cell.obj "Search" []]).length)=false:=by
  rw [p,show h++ [Cell.obj "Search" (ef n K T S (h.length+1)),.obj "Cases" (cx n K T S)]=h++ [Cell.obj "Search" (ef n K T S (h.length+1))]++ [.obj "Cases" (cx n K T S)]by simp,List.take_left' (by simp),Gx,List.all_append]
  show(h.all Cell.pure&&k9)=k9
  rw [Ah7]
 rw [if_neg (by simp),I,Ah7,if_neg Ab2]
def gE (n:Nat) (K T:List Tx) (b a:Nat) (s:Sy):Nat:=(eB n K T s &&& a)-((eB n K T s &&& a) &&& b)
def vS (low high) (s) (i):(gE n K T low high s).testBit i=((eB n K T s).testBit i&&high.testBit i&& !low.testBit i):=by
 rw [gE,Wf.aP,Ah1]
def Dr (m)(g:bD n K T) (N:Se n K T S rs rc H) (hh:high<2 ^ bN n K T) (t:js≠ []) (J:js.length<=1000) (Y: ∀j∈js,∃s,S[j]? =k0 s/\gE n K T low high s≠0):
 ∃i:Nat,i<bN n K T/\high.testBit i=u0/\low.testBit i=k9/\call prog (m+2) "Search.chosen_place" [.r rs,.bor (aw js),.i low,.i high] H= .ok (.i i) H:=by
 have Q:bN n K T<=6:=g.b6
 obtain⟨f,b,I⟩:=QR (F:=(u9 (m+1))) (k:=1) (aB:= [0,3,2]) (it:= .seq .v1) (c:= .bl true) (elt:= .bin .band (.bin .band (.ix (.aJ .v1 "Search" "needs") .v0) .v2) (.inv .v3)) (τ:= [some (.r rs),some (.bor (aw js)),si low,si high,none,none]) (h:=H) (ds:=aw js) (fun d y=> ∃x:Nat,y= .n x/\(∃ s,x=gE n K T low high s)/\x≠0) (by simp_all []) (by rw [List.length_map];exact J) (fun d q=>by
  obtain⟨j,t,rfl⟩:=Ab6.mp q
  obtain⟨s,e1,e2⟩:=Y j t
  have R:j<S.length:=(Aa1.mp e1).1
  have D:=Xk (F:=(u9 (m+1))) (τ:= [si j,k0 (.r rs),si high,si low]) (i:=1) (f:= "needs") N.se rfl rfl
  have o:aU (aw (S.map (eB n K T))) (j:Int)=k0 (.n (eB n K T s)):=by
   rw [jg _ _ (by rw [Aa,Aa];exact R),Ac2,Ac2,e1];rfl
  refine⟨.n (gE n K T low high s),?_,_,rfl,⟨s,rfl⟩,e2⟩
  show eval _ _ [si j,k0 (.r rs),si high,si low] H=_
  generalize E.aJ _ _ _=X at D ⊢
  simp_all [D,Jq,o,jc,Wc,WG]
  rfl)
 obtain⟨l,ex,C,z⟩:=tq f (λx=>(∃ s,x=gE n K T low high s)/\x≠0) _ λd q=>by
  obtain⟨x,e,p⟩:=I d q
  exact⟨x,e,p⟩
 rw [ex]at b
 have lt: ∀x∈l,0<x/\x<64:=λx a=>by
  obtain⟨⟨s,e⟩,ne⟩:=C x a
  refine⟨Nat.pos_of_ne_zero ne,?_⟩
  have P:gE n K T low high s<=high:=Ab5 (Ao7 _ _) Nat.and_le_right
  have h2:2 ^ bN n K T<=2 ^ 6:=Ac9 (by decide) Q
  omega
 obtain⟨i0,u,r⟩:=Dn (key:=fun x=>call prog (m+1) "how_many_set" [.v (.int x)] []) (xs:=l.map fun(x:Nat)=>(x:Int)) (by
  cases l with
  | nil=>
   rw [Aa]at z
   exact absurd (List.length_eq_zero_iff.mp z.symm) t
  | cons _ _=>simp) (λy U=>by
  obtain⟨x,a,rfl⟩:=Ab6.mp U
  obtain⟨y,e⟩:=Ld m x [] (by have:=(lt x a).2;omega)
  exact⟨_,by show G7 (call prog (m+1) "how_many_set" [.i x] [])=_;rw [e];rfl⟩)
 obtain⟨x,a,rfl⟩:=Ab6.mp u
 obtain⟨A,O⟩:=lt x a
 obtain⟨i,_,v,V⟩:=LH A (by omega)
 obtain⟨⟨s,rfl⟩,_⟩:=C x a
 rw [vS,Aa0,Aa0,Ag4]at v
 obtain⟨⟨M,G⟩,Z⟩:=v
 obtain⟨p,L,_⟩:=(rX s i).mp M
 refine⟨i,?_,G,Z,?_⟩
 ·have:=(Aa1.mp L).1
  rw [WE]at this
  exact this
 rw [Gb (d:=Je) rfl _ _ _ rfl]
 simp only [Je]
 have b:eval (u9 _) Jg [k0 _,k0 _,si low,si high,y0,y0] H= .ok _ H:=b
 refine fx (by simp_all [b];rfl) ?_
 refine fx (by
  simp_all [W.lu,Q5,r,aq]
  rfl) ?_
 have B:=As A
 rw [V]at B
 have e1:((i+1:Nat):Int)-1=(i:Int):=by omega
 rw [qa (w:= .i i) (h1:=H) (Ja rfl (by simp_all [B,K0,aq,We,e1])),Ga _ _ _ rfl]
end
def D8 : ∀ e p,(∀ t∈b4 e,bf a t=bf b t)->bt a b p e=bt a b u0 e:=by
 intro e
 induction e with
 | name t=>intro p h;cases p with
  | true=>rfl
  | false=>exact h t Aa4
 | turned e g=>intro p h;simp [bt,g p h]
 | closed e g=>intro p h;simp [bt,g p h]
 | plus e f g d=>intro p h;simp [bt,g p λt c=>h t (Ad0 _ c),d p λt c=>h t (Ab0 _ c)]
 | less e f g d=>
  intro p h
  have i:=λt c=>h t (Ad0 _ c)
  have j:=λt c=>h t (Ab0 _ c)
  simp [bt,g p i,d _ j]
 | both e f g d=>intro p h;simp [bt,g p λt c=>h t (Ad0 _ c),d p λt c=>h t (Ab0 _ c)]
 | joined e f g d=>intro p h;simp [bt,g p λt c=>h t (Ad0 _ c),d p λt c=>h t (Ab0 _ c)]
 | _=>intro p h;cases p<;>rfl
def B.nm (h:B a b e v u) (k: ∀t∈b4 e,bf a t=bf b t):v=u:=by
 have l:=h.lo
 rw [D8 e k9 k]at l
 exact l.uniq h.hi
def W0 (h:p≠y0) (g:q≠y0):X8 p q≠none:=by
 rcases p with _ | _ | _<;>rcases q with _ | _ | _<;>first | exact absurd rfl h | exact absurd rfl g | (intro z;cases z)
def Hu (h:p≠y0) (g:q≠y0):e6 p q≠none:=by
 rcases p with _ | _ | _<;>rcases q with _ | _ | _<;>first | exact absurd rfl h | exact absurd rfl g | (intro z;cases z)
theorem Td.nm : ∀ s r,Td a b s r->(∀ t∈W7 s,bf a t=bf b t)->r≠y0
 | .fact f,r,h,k=>by
  cases f with
  | du x y=>
   obtain⟨v,u,l,m,c,d,rfl⟩:=h
   cases c.nm λt g=>k t (Ad0 _ g)
   cases d.nm λt g=>k t (Ab0 _ g)
   rw [XS];intro z;cases z
  | dJ x y=>
   obtain⟨v,u,l,m,c,d,rfl⟩:=h
   cases c.nm λt g=>k t (Ad0 _ g)
   cases d.nm λt g=>k t (Ab0 _ g)
   rw [XS,XS]
   exact W0 (λz=>by cases z) λz=>by cases z
  | dX x=>obtain⟨v,u,c,rfl⟩:=h;cases c.nm k;rw [ZK];intro z;cases z
  | aj x=>obtain⟨v,u,c,rfl⟩:=h;cases c.nm k;rw [ZK];intro z;cases z
  | cnt s j x=>obtain⟨v,u,c,rfl⟩:=h;cases c.nm k;rw [ZK];intro z;cases z
 | .neg s,r,⟨q,h,e⟩,k=>by
  have:=Td.nm s q h k
  cases q with
  | none=>exact absurd rfl this
  | some x=>rw [e];intro z;cases z
 | .cg s t,r,⟨p,q,c,d,e⟩,k=>by
  rw [e]
  exact W0 (Td.nm s p c λx i=>k x (Ad0 _ i)) (Td.nm t q d λx i=>k x (Ab0 _ i))
 | .cj s t,r,⟨p,q,c,d,e⟩,k=>by
  rw [e]
  exact Hu (Td.nm s p c λx i=>k x (Ad0 _ i)) (Td.nm t q d λx i=>k x (Ab0 _ i))
theorem Zi : ∀e:Ex,e.wf N-> ∀t∈b4 e,t∈N
 | .name x,w,t,h=>by rw [Ac3.mp h];exact w
 | .turned a,w,t,h=>Zi a w t h
 | .closed a,w,t,h=>Zi a w t h
 | .plus a b,w,t,h=>(Ac5.mp h).elim (Zi a w.1 t) (Zi b w.2 t)
 | .less a b,w,t,h=>(Ac5.mp h).elim (Zi a w.1 t) (Zi b w.2 t)
 | .both a b,w,t,h=>(Ac5.mp h).elim (Zi a w.1 t) (Zi b w.2 t)
 | .joined a b,w,t,h=>(Ac5.mp h).elim (Zi a w.1 t) (Zi b w.2 t)
theorem QO : ∀s:Sy,s.wf N-> ∀t∈W7 s,t∈N
 | .fact f,w,t,h=>by
  cases f with
  | du a b=>exact(Ac5.mp h).elim (Zi a w.1 t) (Zi b w.2 t)
  | dJ a b=>exact(Ac5.mp h).elim (Zi a w.1 t) (Zi b w.2 t)
  | dX a=>exact Zi a w t h
  | aj a=>exact Zi a w t h
  | cnt _ _ a=>exact Zi a w.2 t h
 | .neg a,w,t,h=>QO a w t h
 | .cg a b,w,t,h=>(Ac5.mp h).elim (QO a w.1 t) (QO b w.2 t)
 | .cj a b,w,t,h=>(Ac5.mp h).elim (QO a w.1 t) (QO b w.2 t)
section
variable {n:Nat}{K T:List Tx}{low high:Nat}
def L1 (g:bD n K T)(j:t∈K++T) (h: ∀ i x y,(bT n K T)[i]? =k0 (t,x,y)->low.testBit i=high.testBit i):bf (wo n K T low) t=bf (wo n K T high) t:=by
 have a: ∀x y,x<n->y<n->bf _ t x y=bf (wo n K T high) t x y:=λx y f k=>by
  by_cases q: ∃i:Nat,(bT n K T)[i]? =k0 (t,x,y)
  ·obtain⟨i,d⟩:=q
   rw [(xk g d low).1,(xk g d high).1,h i x y d]
  ·rw [ZD low 0 j f k q,ZD high 0 j f k q]
 funext x y
 by_cases q:t∈T
 ·have b: ∀c,bf _ t x y=if x*n+y<n*n then bf _ t _ (_ % n)else false:=λc=>by
   unfold bf
   rw [if_pos (show t∈(wo n K T c).T from q),if_pos (show t∈(wo n K T c).T from q)]
   show((cP n K.length T.length c).getD (cY t T) 0).testBit (x*n+y)=if _ then((cP n K.length T.length c).getD (cY t T) 0).testBit ((x*n+y) / n*n+(x*n+y) % n)else k9
   rw [Wf.bp]
   by_cases z:x*n+y<n*n
   ·rw [if_pos z]
   ·rw [if_neg z,vz,decide_eq_false z,Ae8,Ah7]
  rw [b,b]
  by_cases z:x*n+y<n*n
  ·rw [if_pos z,if_pos z]
   exact a _ _ (Wf.bb z) (Wf.aV z)
  ·rw [if_neg z,if_neg z]
 ·by_cases z:x=y/\x<n
  ·obtain⟨rfl,z⟩:=z
   exact a x x z z
  ·have b: ∀c,bf _ t x y=false:=λc=>by
    unfold bf
    rw [if_neg (show t∉(wo n K T c).T from q)]
    show(decide _&&((cy n K.length T.length c).getD _ 0).testBit x)=k9
    by_cases e:x=y
    ·rw [rF,decide_eq_false (λl=>z ⟨e,l⟩),Ae8,Ah7,Ah7]
    ·rw [decide_eq_false e,Ae8]
   rw [b,b]
def El (g:bD n K T) (sub:Sub low high)(wf:s.wf (K++T)) (h:Td (wo n K T low) (wo n K T high) s y0):gE n K T low high s≠0:=λz=>by
 refine Td.nm s y0 h (λt b=>L1 g (QO s wf t b) λi x y c=> ?_) rfl
 have d:=(rX s i).mpr ⟨_,c,b⟩
 have e:=vS (n:=n) (K:=K) (T:=T) low high s i
 rw [z,Af9,d,Ae1]at e
 cases q:high.testBit i with
 | true=>
  rw [q,Ae1]at e
  cases a:low.testBit i with
  | true=>rfl
  | false=>rw [a]at e;cases e
 | false=>
  cases a:low.testBit i with
  | false=>rfl
  | true=>rw [sub i a]at q;cases q
def oc (n:Nat) (K T:List Tx) (b a:Nat):Nat:=((Aa8 (bN n K T)).filter λi=>a.testBit i&& !b.testBit i).length
def Hg (a:i<bN n K T) (h:high.testBit i=u0) (l:low.testBit i=k9):oc n K T (low ||| 2 ^ i) high<oc n K T low high:=by
 refine lZ (λj _ z=> ?_) ⟨i,Ab8.mpr a,by rw [h,l];rfl,by rw [Ae9,Ak0,Bool.or_true,Ao4,Ah7]⟩
 rw [Ae9,Bool.not_or,Aa0,Aa0]at z
 rw [z.1,z.2.1];rfl
def BN (a:i<bN n K T) (h:high.testBit i=u0) (l:low.testBit i=k9):oc n K T low (high-(high &&& 2 ^ i))<oc n K T low high:=by
 refine lZ (λj _ z=> ?_) ⟨i,Ab8.mpr a,by rw [h,l];rfl,by rw [Wf.aP,Ak0,Ao4,Ah7,Ae8]⟩
 rw [Wf.aP,Aa0,Aa0]at z
 rw [z.1.1,z.2];rfl
def F7:oc n K T low high<=bN n K T:=by
 have:=Aj0 (λi=>high.testBit i&& !low.testBit i) (Aa8 (bN n K T))
 rw [Ah0]at this
 exact this
end
abbrev Wv:Tx:= [119,111,114,108,100]
abbrev Qd:Tx:= [112,97,112,101,114]
structure GP (n:Nat) (K T:List Tx) (S:List Sy) (q d:Nat) (p:D) (low high:Nat):Prop where
 pp:Pp n K T S p
 dp:dep p<=d
 wk:Lw n K T S (d+q+12) p low high
section
variable {n q:Nat}{K T:List Tx}{S:List Sy}{d low high:Nat}{p:D}
theorem GP.up (h:GP n K T S q d p low high) (l:d<=d'):GP n K T S q d' p low high:=⟨h.pp,Ab5 h.dp l,h.wk.up (by lia)⟩
theorem GP.brk (c: ∀s∈S,s.wf (K++T)/\s.dp<=q)(a:S[j]? =k0 s) (b:Td (wo n K T low) (wo n K T high) s (k0 k9)) (e:1<=d):GP n K T S q d (.tup [.str Ww,.n j]) low high:=⟨.brk (Aa1.mp a).1,by simp;lia,(Lw.brk c a b).up (by lia)⟩
theorem GP.dD (g:bD n K T)(c:(bT n K T)[i]? =k0 (t,x,y)) (e:high.testBit i=u0) (f:low.testBit i=k9) (a:GP n K T S q d p1 (low ||| 2 ^ i) high) (b:GP n K T S q d p2 low (high-(high &&& 2 ^ i))):GP n K T S q (d+1) (.tup [.str Xi,.str t,.n x,.n y,p1,p2]) low high:=⟨.dD c a.pp b.pp,by
 have:=a.dp
 have:=b.dp
 simp [GG]
 lia,(Lw.dD g c e f (by lia) a.wk b.wk).up (by lia)⟩
def fk (n:Nat) (K T:List Tx) (S:List Sy) (q d e b:Nat) (a:D):Prop:=(∃ c,Sub e c/\Sub c b/\c<2 ^ bN n K T/\a= .tup [.str Wv,(wo n K T c).aI]/\ ∀s∈S,Td (wo n K T c) (wo n K T c) s (k0 u0))\/ ∃p,a= .tup [.str Qd,p]/\GP n K T S q d p e b
noncomputable abbrev cA (c:Nat) (d:List Nat) (b a:Nat) (l:List Nat) (x y:Option W):Sl:= [k0 (.r c),k0 (.bor (aw d)),si b,si a,k0 (.own (aw l)),x,y]
theorem o6 (g:bD n K T) (C: ∀s∈S,s.wf (K++T)/\s.dp<=q) (A:low<2 ^ bN n K T) (B:high<2 ^ bN n K T)(p:Se n K T S rs rc H) (U:q+10<=m): ∀ O L x y,(∀ j∈O,j<S.length)->L.length+O.length<=1000 →
 (∃ j s,S[j]? =k0 s/\Td (wo n K T low) (wo n K T high) s (k0 k9)/\Gq (Gp [5] u0) (λτ h=>execs (u9 m) ja τ h) (aw O) (cA rs j0 low high L x y) H= .ret (.t [.str Qd,.tup [.str Ww,.n (j)]]) H) ∨
 ∃ M V W,(∀ j∈M,∃s,S[j]? =k0 s/\Td (wo n K T low) (wo n K T high) s y0)/\(∀ j∈O,j∉M-> ∃s,S[j]? =k0 s/\Td (wo n K T low) (wo n K T high) s (k0 u0))/\M.length<=O.length/\Gq (Gp [5] u0) (λτ h=>execs (u9 m) ja τ h) (aw O) (cA rs j0 low high L x y) H= .next (cA rs j0 low high (L++M) V W) H
 | [],L,x,y,_,_=> .inr ⟨[],x,y,λ_ h=>absurd h Ai4,λ_ h=>absurd h Ai4,Ab _,by rw [Af1];rfl⟩
 | j::O,L,x,y,I,Y=>by
  rw [Aa7]at Y
  have jl:=I j Aa4
  obtain⟨s,t⟩: ∃s,S[j]? =k0 s:=⟨S[j],Aa6 jl⟩
  obtain⟨wf,dp⟩:=C s (Ac4 t)
  obtain⟨k,rfl⟩:=nk m 1 (by omega)
  obtain⟨o,G,e1⟩:=xL k j low high g p.cs A B t (by omega) wf
  have Q:=Xk (F:=(u9 (k+1))) (τ:=cA rs j0 low high L (si j) y) (i:=0) (f:= "cases") p.se rfl rfl
  have tr:eval (u9 (k+1)) (.bO (.aJ .v0 "Search" "cases") "Cases" "truth" "Cases.truth" (.c .v5 .v2 .v3)) (cA rs j0 low high L (si j) y) H= .ok (.v (aG o)) H:=by
   generalize E.aJ _ _ _=X at Q ⊢
   rw [eval,Q,R.ae]
   simp only [Zo p.cs]
   rw [if_pos ⟨trivial,rfl⟩]
   simp_all [e1]
  have N: ∀X,execs (u9 (k+1)) (.cons (.af 6 (.bO (.aJ .v0 "Search" "cases") "Cases" "truth" "Cases.truth" (.c .v5 .v2 .v3))) X) (cA rs j0 low high L (si j) y) H=execs (u9 (k+1)) X (cA rs j0 low high L (si j) (sv (aG o))) H:=fun X=>by
   generalize E.bO _ _ _ _ _=Z at tr ⊢
   rw [za (τ1:=cA rs j0 low high L (si j) (sv (aG o))) (h1:=H) (by simp_all [tr])]
  have i1:=ky o k9 H
  have J:Gm (u9 (k+1)) (.cmp .cR .v6 (.bl k9)) (cA rs j0 low high L (si j) (sv (aG o))) H= .ok (o==k0 k9) H:=by simp_all [i1]
  have u: ∀ c,c.length+O.length<=1000->execs (u9 (k+1)) ja (cA rs j0 low high L (si j) y) H= .next (cA rs j0 low high c (si j) (sv (aG o))) H->Gq (Gp [5] u0) (λτ h=>execs (u9 (k+1)) ja τ h) (aw (j::O)) (cA rs j0 low high L x y) H=Gq (Gp [5] u0) (λτ h=>execs (u9 (k+1)) ja τ h) (aw O) (cA rs j0 low high c (si j) (sv (aG o))) H:=λc _ e=>by
   rw [aw,Ab1,zb (τ1:=cA rs j0 low high L (si j) y) rfl e]
  rcases o with _ | _ | _
  ·have b:execs (u9 (k+1)) ja (cA rs j0 low high L (si j) y) H= .next (cA rs j0 low high (L++ [j]) (si j) (sv (aG y0))) H:=by
    unfold ja
    rw [N,xa J]
    rw [za (τ1:=cA rs j0 low high (L++ [j]) (si j) (sv (aG y0))) (h1:=H) ((Jr (h1:=H) (by simp_all [aG,aq,Ao])).trans ?_),execs]
    have lL:(aw L).length<bg:=by rw [Gg,Aa];omega
    rw [za (τ1:=cA rs j0 low high (L++ [j]) (si j) (sv (aG y0))) (h1:=H) (by
     simp_all [lL,if_true]
     simp only [cA,Q8]),execs]
   rcases o6 (j0:=j0) g C A B p U O (L++ [j]) (si j) (sv (aG y0)) (λi a=>I i (Aa2 _ a)) (by rw [Aa5];simp;omega)with⟨D,w,d,l,r⟩ | ⟨M,V,W,d,l,r,P⟩
   ·exact .inl ⟨D,w,d,l,(u _ (by rw [Aa5];simp;omega) b).trans r⟩
   ·refine .inr ⟨j::M,V,W,λi a=> ?_,λi a v=> ?_,by rw [Aa7,Aa7];omega,?_⟩
    ·rcases Ac.mp a with rfl | a
     ·exact⟨s,t,G⟩
     ·exact d i a
    ·rcases Ac.mp a with rfl | a
     ·exact absurd Aa4 v
     ·exact l i a λz=>v (Aa2 _ z)
    ·rw [u _ (by rw [Aa5];simp;omega) b,P,Ae7]
     rfl
  ·refine .inl ⟨j,s,t,G,?_⟩
   rw [aw,Ab1,Gq,show Gp [5] u0 (.n j) (cA rs j0 low high L x y)=k0 (cA rs j0 low high L (si j) y)from rfl]
   have b:execs (u9 (k+1)) ja (cA rs j0 low high L (si j) y) H= .ret (.t [.str Qd,.tup [.str Ww,.n j]]) H:=by
    unfold ja
    rw [N]
    exact Xe J (Ja rfl (by simp_all []))
   simp only [b]
  ·have b:execs (u9 (k+1)) ja (cA rs j0 low high L (si j) y) H= .next (cA rs j0 low high L (si j) (sv (aG (k0 u0)))) H:=by
    unfold ja
    rw [N,xa J,xa (by simp_all [aG,aq]),execs]
   rcases o6 (j0:=j0) g C A B p U O L (si j) (sv (aG (k0 u0))) (λi a=>I i (Aa2 _ a)) (by omega)with⟨D,w,d,l,r⟩ | ⟨M,V,W,d,l,r,P⟩
   ·exact .inl ⟨D,w,d,l,(u _ (by omega) b).trans r⟩
   ·refine .inr ⟨M,V,W,d,λi a v=> ?_,by rw [Aa7];omega,(u _ (by omega) b).trans P⟩
    rcases Ac.mp a with rfl | a
    ·exact⟨s,t,G⟩
    ·exact l i a v
end
def rA (e:eval F a τ h= .ok (.r r) h) (f:h[r]? =k0 (.obj c fs)) (d:(fs.lookup m).isNone=u0) (b:Gf F es τ h= .ok ws h):eval F (.bO a c m q es) τ h=F.call q (.r r::ws.map W.arg) h:=by
 rw [eval,e,R.ae]
 simp only [Zo f]
 rw [if_pos ⟨trivial,d⟩,b,R.ae]
def p7 (e:eval F a τ h= .ok (.r r) h) (g:h[r]? =k0 (.obj c fs)) (b:fs.lookup f=k0 d):eval F (.aJ a c f) τ h= .ok (.v d) h:=by
 rw [eval,e,R.ae]
 simp only [Zo g]
 rw [if_pos trivial,b]
 rfl
def sR (l) (h):Gr .eq (.bor (aw l)) (.own []) h=k0 (l== []):=by
 cases l with
 | nil=>rfl
 | cons x a=>
  show(if G6 _ ((W.own []).dd h)then k0 (cw _ _)else y0)=_
  rw [W.iG,W.ip,GL (mf (x::a))]
  have e:G6 (.lst (aw (x::a))) (.lst (GU h []))=true:=by
   have:=HM (x::a)
   have:=mf (x::a)
   simp only [GU,decide_eq_true_eq]
   lia
  rw [if_pos e]
  rfl
section
variable {n q:Nat}{K T:List Tx}{S:List Sy}{low high:Nat}
def Tr (n:Nat) (K T:List Tx) (S:List Sy) (b a j:Nat):Prop:= ∃s,S[j]? =k0 s/\Td (wo n K T b) (wo n K T a) s (k0 u0)
theorem Tr.mono (g:bD n K T) (k: ∀s∈S,s.wf (K++T)/\s.dp<=q)(h:Tr n K T S low high j) (d:Sub low low') (b:Sub high' high) (c:Sub low' high') (f:low'<2 ^ bN n K T) (i:high'<2 ^ bN n K T):Tr n K T S low' high' j:=by
 obtain⟨s,e,t⟩:=h
 obtain⟨wf,dp⟩:=k s (Ac4 e)
 obtain⟨r,a,_⟩:=xL _ j low' high' (ro:=0) (h:= [Cell.obj "Cases" _]) g rfl f i e (Nat.le_refl _) wf
 have:=Td.mono (kD d) (kD b) (kD c) s _ _ u0 t a rfl
 exact⟨s,e,this▸a⟩
def Sub.d7 (a):Sub a a:=λ_ h=>h
def Sub.tr (h:Sub a b) (k:Sub b c):Sub a c:=λi z=>k i (h i z)
def fk.of (g:Sub low low') (e:Sub high' high) (h: ∃c,Sub low' c/\Sub c high'/\c<2 ^ bN n K T/\a= .tup [.str Wv,(wo n K T c).aI]/\ ∀s∈S,Td (wo n K T c) (wo n K T c) s (k0 u0)):fk n K T S q d low high a:=by
 obtain⟨c,b,f,i⟩:=h
 exact .inl ⟨c,g.tr b,f.tr e,i⟩
def KY (w:Wo):Gd w.aI=true:=by simp [Wo.aI,mf,Bool.and_self]
def pT (a b):Sub a (a ||| b):=λk z=>by rw [Ae9,z];rfl
def r4 (a b):Sub (a-(a &&& b)) a:=λk z=>by
 rw [Wf.aP,Aa0]at z
 exact z.1
def K8 (h:a.testBit i=u0):Sub (2 ^ i) a:=λk z=>by
 rw [Ad7]at z
 rw [← of_decide_eq_true z]
 exact h
def ug (i:Nat) (h:i<=1000):Gi .shl (1:Int) (i:Int)=k0 ((2 ^ i:Nat):Int):=by
 have:=xQ 1 i (by decide) (by lia)
 rwa [Nat.one_mul]at this
noncomputable abbrev gd (c:Nat) (d:List Nat) (b a i:Nat) (y z u v w:Option W):Sl:= [k0 (.r c),k0 (.bor (aw d)),si b,si a,si i,si (2 ^ i),y,z,u,v,w]
def yn (g:bD n K T) (J: ∀s∈S,s.wf (K++T)/\s.dp<=q)(w:Se n K T S rs rc H)(IH: ∀(u r:Nat) (l:List Nat),oc n K T u r<oc n K T low high->Sub u r->u<2 ^ bN n K T->r<2 ^ bN n K T->(∀ j∈l,j<S.length)->l.length<=500->(∀ j,j<S.length->j∉l->Tr n K T S u r j)-> ∃a,Gd a=true/\fk n K T S q k u r a/\call prog (m+2) "Search.told_of_case" [.r rs,.bor (aw l),.i u,.i r] H= .ok (.v a) H) (hk:k<90) (sub:Sub low high) (B:low<2 ^ bN n K T) (N:high<2 ^ bN n K T) (v: ∀j∈js,j<S.length) (l5:js.length<=500) (tr: ∀j,j<S.length->j∉js->Tr n K T S low high j) (hm:k+q+18<=m): ∃a,Gd a=true/\fk n K T S q (k+1) low high a/\call prog (m+4) "Search.told_of_case" [.r rs,.bor (aw js),.i low,.i high] H= .ok (.v a) H:=by
 have run:=λ(a:D) (e:execs (u9 (m+3)) aL.body [k0 (.r rs),k0 (.bor (aw js)),si low,si high,y0,y0,y0] H= .ret (.v a) H)=>(show call prog (m+4) "Search.told_of_case" [.r rs,.bor (aw js),.i low,.i high] H= .ok (.v a) H from by
  rw [Gb (d:=aL) rfl _ _ _ rfl]
  show Gw _ (execs _ _ [k0 (.r rs),k0 (.bor (aw js)),si low,si high,y0,y0,y0] H)=_
  rw [e,Ga _ _ _ rfl])
 simp only [aL]at run
 have st: ∀X,execs (u9 _) (.cons (.set 4 (.lst .nil)) (.cons (.for [5] u0 (.seq .v1) ja) X)) [k0 (.r rs),k0 (.bor (aw js)),si low,si high,y0,y0,y0] H=(Gq (Gp [5] u0) (λτ h=>execs (u9 (m+3)) ja τ h) (aw js) (cA rs js low high [] y0 y0) H).seq λτ h=>execs (u9 (m+3)) X τ h:=λX=>by
  rw [za (τ1:=cA rs js low high [] y0 y0) (h1:=H) (by simp_all [];rfl),execs,exec,show Gs (u9 (m+3)) (.seq .v1) (cA rs js low high [] y0 y0) H= .ok (aw js) H by simp_all [],R.au]
 rcases o6 (j0:=js) g J B N w (m:=m+3) (by omega) js [] y0 y0 v (by simp;omega)with⟨j,s,h1,h2,h3⟩ | ⟨l,x',y',h1,h2,h3,h4⟩
 ·refine⟨_,by simp,.inr ⟨_,rfl,GP.brk J h1 h2 (by omega)⟩,run _ ?_⟩
  rw [st,h3,O.cC]
 rw [Ae2]at h4
 have I: ∀j,j<S.length->j∉l->Tr n K T S low high j:=λj v W=>by
  by_cases C:j∈js
  ·exact h2 j C W
  ·exact tr j v C
 by_cases nil:l= []
 ·subst nil
  refine⟨_,by simp [KY],.inl ⟨low,Sub.d7 low,sub,B,rfl,λs hs=> ?_⟩,run _ ?_⟩
  ·obtain⟨j,v,rfl⟩:=Al5 hs
   obtain⟨s,e,t⟩:=(I j v Ai4).mono g J (Sub.d7 low) sub (Sub.d7 low) B B
   rw [Aa6 v]at e
   injection e with e
   rw [e]
   exact t
  ·rw [st,h4,O.bK]
   have f1:=Xk (F:=(u9 (m+3))) (τ:=cA rs js low high [] x' y') (i:=0) (f:= "cases") w.se rfl rfl
   have f2:=rA (m:= "world_of_code") (q:= "Cases.world_of_code") (es:= .cons .v2 .nil) (ws:= [.i low]) f1 w.cs rfl (by simp_all [])
   have f3:=Q6 (m-3) low g w.cs B
   rw [show m-3+6=m+3 by omega]at f3
   have f3:=f2.trans f3
   generalize E.bO _ _ _ _ _=X at f3 ⊢
   exact Xe (by simp_all [show Gr .eq (.bor []) (.own []) H=k0 u0 from sR [] H,aq]) (Ja rfl (by simp_all [f3]))
 have ns': ∀j∈l,j<S.length:=λj v=>by
  obtain⟨s,e,_⟩:=h1 j v
  exact(Aa1.mp e).1
 have op: ∀j∈l,∃s,S[j]? =k0 s/\gE n K T low high s≠0:=λj v=>by
  obtain⟨s,e,t⟩:=h1 j v
  exact⟨s,e,El g sub (J s (Ac4 e)).1 t⟩
 have U:l.length<=500:=by omega
 obtain⟨i,C,hb,lb,ec⟩:=Dr m g w N nil (by omega) op
 have b6:bN n K T<=6:=g.b6
 have L:2 ^ i<2 ^ bN n K T:=An8 (by decide) C
 have Q:low ||| 2 ^ i<2 ^ bN n K T:=Ak7 B L
 have V:high-(high &&& 2 ^ i)<2 ^ bN n K T:=Ah6 (Ao7 _ _) N
 have su1:Sub (low ||| 2 ^ i) high:=uB sub (K8 hb)
 have su2:Sub low (high-(high &&& 2 ^ i)):=sF sub lb
 obtain⟨P,n1,A1,c1⟩:=IH (low ||| 2 ^ i) high l (Hg C hb lb) su1 Q N ns' U λj v W=>(I j v W).mono g J (pT _ _) (Sub.d7 _) su1 Q N
 obtain⟨a2,n2,A2,c2⟩:=IH low (high-(high &&& 2 ^ i)) l (BN C hb lb) su2 B V ns' U λj v W=>(I j v W).mono g J (Sub.d7 _) (r4 _ _) su2 B V
 have G: ∀a,call prog (m+3) "Search.told_of_halves" [.r rs,.bor (aw l),.i low,.i high] H= .ok (.v a) H->call prog (m+4) "Search.told_of_case" [.r rs,.bor (aw js),.i low,.i high] H= .ok (.v a) H:=fun a e=>run a (by
  rw [st,h4,O.bK]
  rw [xa (by simp_all [sR,beq_eq_false_iff_ne.mpr nil,aq])]
  have f1:=JH (F:=(u9 (m+3))) (τ:=cA rs js low high l x' y') (i:=0) (m:= "told_of_halves") (q:= "Search.told_of_halves") (es:= .cons .v4 (.b .v2 .v3)) (ws:= [.bor (aw l),.i low,.i high]) w.se rfl rfl (by simp_all [])
  have f2:=f1.trans e
  exact qa (Ja rfl f2))
 have o:=λ(a:D) (e:execs (u9 (m+2)) aE.body [k0 (.r rs),k0 (.bor (aw l)),si low,si high,y0,y0,y0,y0,y0,y0,y0] H= .ret (.v a) H)=>G a (show call prog (m+3) "Search.told_of_halves" [.r rs,.bor (aw l),.i low,.i high] H= .ok (.v a) H from by
  rw [Gb (d:=aE) rfl _ _ _ rfl]
  show Gw _ (execs _ _ [k0 (.r rs),k0 (.bor (aw l)),si low,si high,y0,y0,y0,y0,y0,y0,y0] H)=_
  rw [e,Ga _ _ _ rfl])
 clear run G st h4
 simp only [aE]at o
 have g1:eval (u9 (m+2)) (.bO .v0 "Search" "chosen_place" "Search.chosen_place" (.c .v1 .v2 .v3)) [some (.r rs),some (.bor (aw l)),si low,si high,none,none,none,none,none,none,none] H= .ok (.i i) H:=(JH (ws:= [.bor (aw l),.i low,.i high]) w.se rfl rfl (by simp_all [])).trans ec
 have g2:eval (u9 (m+2)) (.bO .v0 "Search" "told_of_case" "Search.told_of_case" (.c .v1 (.bin .bor .v2 .v5) .v3)) (gd rs l low high i none none none none none) H= .ok (.v P) H:=(JH (ws:= [.bor (aw l),.i (low ||| 2 ^ i),.i high]) w.se rfl rfl (by simp_all [Jm,qm,aq])).trans c1
 have g3:eval (u9 (m+2)) (.bO .v0 "Search" "told_of_case" "Search.told_of_case" (.c .v1 .v2 (.bin .band .v3 (.inv .v5)))) (gd rs l low high i (sv P) none none none none) H= .ok (.v a2) H:=(JH (ws:= [.bor (aw l),.i low,.i (high-(high &&& 2 ^ i))]) w.se rfl rfl (by simp_all [jc,WG,aq])).trans c2
 generalize E.bO _ _ _ _ _=X1 at g1 o
 generalize E.bO _ _ _ _ _=X2 at g2 o
 generalize E.bO _ _ _ _ _=X3 at g3 o
 have A: ∀X,execs (u9 (m+2)) (.cons (.af 4 X1) (.cons (.af 5 (.bin .shl (.int 1) .v4)) (.cons (.af 6 X2) X))) [k0 (.r rs),k0 (.bor (aw l)),si low,si high,y0,y0,y0,y0,y0,y0,y0] H=execs (u9 (m+2)) X (gd rs l low high i (sv P) y0 y0 y0 y0) H:=λX=>by
  have e1:=ug i (by omega)
  rw [za (τ1:= [k0 (.r rs),k0 (.bor (aw l)),si low,si high,si i,y0,y0,y0,y0,y0,y0]) (h1:=H) (by simp_all [g1]),
   za (τ1:=gd rs l low high i y0 y0 y0 y0 y0) (h1:=H) (by simp_all [e1,aq]),za (τ1:=gd rs l low high i (sv P) y0 y0 y0 y0) (h1:=H) (by simp_all [g2])]
 rcases A1 with wd | ⟨z,rfl,M⟩
 ·refine⟨P,n1,fk.of (pT _ _) (Sub.d7 _) wd,o _ ?_⟩
  obtain⟨c,_,_,_,rfl,_⟩:=wd
  rw [A]
  generalize E.bO _ _ _ _ _=Y
  exact Xe (by simp_all [aa,Ze,Xa,aq];rfl) rfl
 obtain⟨b,Wb,Wl⟩:=walk g J M.pp k M.dp low high B N
 have e1:=Wb (m+2) rc H (by omega) w.cs
 have g4:eval (u9 (m+2)) (.bO (.aJ .v0 "Search" "cases") "Cases" "is_shown" "Cases.is_shown" (.c (.ix .v6 (.int 1)) .v2 .v3)) (gd rs l low high i (some (.t [.str Qd,z])) none none none none) H= .ok (.b b) H:=(rA (ws:= [.v z,.i low,.i high]) (Xk w.se rfl rfl) w.cs rfl (by simp_all [aa,show aU [D.str Qd,z] 1=some z from rfl,aq])).trans e1
 generalize E.bO _ _ _ _ _=Y at g4 o
 have tt:Gm (u9 (m+2)) (.or (.cmp .eq (.ix .v6 (.int 0)) (.str hB)) Y) (gd rs l low high i (k0 (.t [.str Qd,z])) y0 y0 y0 y0) H= .ok b H:=by
  simp_all [aa,Ze,Xa,aq,show(Qd== hB)=k9 from rfl,g4]
 cases b with
 | true=>
  refine⟨_,n1,.inr ⟨z,rfl,GP.up ⟨M.pp,M.dp,Wl rfl⟩ (Ag6 k)⟩,o _ ?_⟩
  rw [A]
  exact Xe tt rfl
 | false=>
  rcases A2 with wd | ⟨L,rfl,P2⟩
  ·refine⟨a2,n2,fk.of (Sub.d7 _) (r4 _ _) wd,o _ ?_⟩
   obtain⟨c,_,_,_,rfl,_⟩:=wd
   rw [A,xa tt,za (τ1:=gd rs l low high i (k0 (.t [.str Qd,z])) (k0 (.t [.str Wv,(wo n K T c).aI])) y0 y0 y0) (h1:=H) (by simp_all [g3])]
   exact Xe (by simp_all [aa,Ze,Xa,aq];rfl) rfl
  ·obtain⟨⟨t,x,y⟩,hp⟩: ∃p,(bT n K T)[i]? =k0 p:=⟨_,Aa6 (by rw [WE];exact C)⟩
   refine⟨.tup [.str Qd,.tup [.str Xi,.str t,.n x,.n y,z,L]],by simp [M.pp.nr,P2.pp.nr],.inr ⟨_,rfl,GP.dD g hp hb lb M P2⟩,o _ ?_⟩
   have at1:aU ((bT n K T).map bM) (i:Int)=k0 (.tup [.str t,.n x,.n y]):=by
    rw [jg _ _ (by rw [Aa,WE];exact C),Ac2,hp]
    rfl
   have g5:eval (u9 (m+2)) (.aJ (.aJ .v0 "Search" "cases") "Cases" "places") (gd rs l low high i (some (.t [.str Qd,z])) (some (.t [.str Qd,L])) none none none) H= .ok (.l ((bT n K T).map bM)) H:=p7 (Xk w.se rfl rfl) w.cs rfl
   generalize E.aJ _ _ _=Z at g5 ⊢
   rw [A,xa tt,za (τ1:=gd rs l low high i (k0 (.t [.str Qd,z])) (k0 (.t [.str Qd,L])) y0 y0 y0) (h1:=H) (by simp_all [g3]),xa (by simp_all [aa,Ze,Xa,aq,show(Qd== hB)=k9 from rfl])]
   refine(za (by simp_all [g5,Jq,at1,aq];rfl)).trans ?_
   exact qa (Ja rfl (by simp_all [aa,show aU [D.str Qd,z] 1=k0 z from rfl,show aU [D.str Qd,L] 1=k0 L from rfl,aq]))
theorem tF (g:bD n K T) (o: ∀s∈S,s.wf (K++T)/\s.dp<=q)(r:Se n K T S rs rc H): ∀ k low high m i,oc n K T low high<=k->k<80->Sub low high->low<2 ^ bN n K T->high<2 ^ bN n K T->(∀ j∈i,j<S.length)->i.length<=500->(∀ j,j<S.length->j∉i->Tr n K T S low high j)->2*k+q+22<=m-> ∃a,Gd a=u0/\fk n K T S q (k+1) low high a/\call prog m "Search.told_of_case" [.r rs,.bor (aw i),.i low,.i high] H= .ok (.v a) H
 | 0,low,high,m,i,y,A,sub,h,l,t,f,tr,B=>by
  obtain⟨m,rfl⟩: ∃x,m=x+4:=⟨m-4,by omega⟩
  exact yn g o r (λ_ _ _ z=>absurd z (by omega)) (by omega) sub h l t f tr (by omega)
 | k+1,low,high,m,i,y,A,sub,h,l,t,f,tr,B=>by
  obtain⟨m,rfl⟩: ∃x,m=x+4:=⟨m-4,by omega⟩
  exact yn g o r (λu w p z v a b c d e=>tF g o r k u w (m+2) p (by omega) (by omega) v a b c d e (by omega)) (by omega) sub h l t f tr (by omega)
end
section
variable {n q:Nat}{K T:List Tx}{S:List Sy}
def sL (h:w<2 ^ b):Sub w (2 ^ b-1):=λk z=>by
 rw [Ag1,decide_eq_true_eq]
 refine Nat.lt_of_not_le λl=> ?_
 rw [Ai8 (Ab4 h (Ac9 (by decide) l))]at z
 cases z
def WT (w):Sub 0 w:=λk z=>by rw [Af9]at z;cases z
def LW (g:bD n K T) (o: ∀s∈S,s.wf (K++T)/\s.dp<=q) (r:S.length<=100)(b:Se n K T S rs rc H) (t:q+34<=m): ∃a,Gd a=u0/\fk n K T S q 7 0 (2 ^ bN n K T-1) a/\call prog (m+1) "Search.told_of_sayings" [.r rs,.bor (aw (List.range S.length))] H= .ok (.v a) H:=by
 have h:bN n K T<=6:=g.b6
 have f:=Ad (bN n K T)
 obtain⟨a,l,A,e⟩:=tF g o b 6 0 (2 ^ bN n K T-1) m _ (Ab5 F7 h) (by decide) (WT _) f (by omega) (λj c=>Ab8.mp c) (by rw [Ah0];omega) (λj c k=>absurd (Ab8.mpr c) k) (by omega)
 refine⟨a,l,A,?_⟩
 rw [Gb rfl _ _ _ rfl]
 show Gw _ (execs _ _ [k0 _,k0 _] H)=_
 simp only [wg]
 have d:eval (u9 m) (.aJ (.aJ .v0 "Search" "cases") "Cases" "whole") [some _,some (.bor (aw (List.range S.length)))] H= .ok _ H:=p7 (Xk b.se rfl rfl) b.cs rfl
 generalize E.aJ _ _ _=Z at d ⊢
 have p:=JH (F:=(u9 m)) (τ:= [k0 _,k0 (.bor (aw (List.range S.length)))]) (i:=0) (m:= "told_of_case") (q:= "Search.told_of_case") (es:= .cons .v1 (.cons (.int 0) (.cons Z .nil))) (ws:= [.bor _,.i (0),.i _]) b.se rfl rfl (by simp_all [d];rfl)
 rw [qa (Ja rfl (p.trans e)),Ga _ _ _ rfl]
def tJ (xs ys) (h) (a:xs.length+ys.length<=100):GV .add (.t xs) (.t ys) h= .ok (.t (xs++ys)) h:=by
 rw [QS,if_pos (by rw [Gg];lia)]
def FZ (p:Gx h=u0) (a:Gx h'=u0):Gx (h++h')=true:=by
 rw [Gx,List.all_append,show h.all Cell.pure=u0 from p,show h'.all Cell.pure=u0 from a]
 rfl
def uS (b:Gd d=u0) (a:Gx h=u0):Gw h.length (.ret (.v d) (h++h'))= .ok (.v d) h:=by
 have e:(h++h').take h.length=h:=List.take_left' rfl
 obtain⟨x,e1,e2⟩:=mT (n:=h.length) (h:=h++h') b (by simp) (by rw [e];exact a)
 rw [e1,e2,e]
def IC (g:bD n K T) (c: ∀s∈S,s.wf (K++T)/\s.dp<=q) (b:S.length<=100) (j:q<=14)(l:Gx h=u0) (t:q+35<=m): ∃a,Gd a=u0/\fk n K T S q 7 0 (2 ^ bN n K T-1) a/\call prog (m+1) "found" [.v (bC K T S),.i n] h= .ok (.v a) h:=by
 obtain⟨k,rfl⟩:=nk m 5 (by omega)
 have e1:=qE k g h
 have e2:=ER (k+4) g c b (by omega) j h
 have e:Se n K T S h.length (h.length+1) (h++ [.obj "Search" (ef n K T S (h.length+1)),.obj "Cases" (cx n K T S)]):=⟨by simp,by simp⟩
 obtain⟨a,f,A,i⟩:=LW g c b (m:=k+4) e (by omega)
 refine⟨a,f,A,?_⟩
 rw [Gb (d:=W6) rfl _ _ _ rfl]
 simp only [W6]
 refine fx (by simp_all [aa,zg,aq,show List.lookup "MOST_BITS" prog.con=some (.int 16)from rfl,e1];rfl) ?_
 have mk:eval (u9 (k+5)) (.make "Search" "Search.__init__" (.b .v0 .v1)) [sv (bC K T S),si n] h= .ok (.r h.length) (h++ [.obj "Search" (ef n K T S (h.length+1)),.obj "Cases" (cx n K T S)]):=by
  simp_all [e2,aq]
 have o:(0:Int)<=(S.length:Int)/\(S.length:Int)<=1000:=by omega
 have r:Gf (u9 (k+5)) (.a (.b0 (.bi .len (.a (.ix .v0 (.int 1)))))) [sv (bC K T S),si n] (h++ [.obj "Search" (ef n K T S (h.length+1)),.obj "Cases" (cx n K T S)])= .ok [.own (aw (List.range S.length))] (h++ [.obj "Search" (ef n K T S (h.length+1)),.obj "Cases" (cx n K T S)]):=by
  simp_all [aa,Jd,aq,Qe,Aa,o,and_self,if_true,Ad4]
 generalize E.make _ _ _=Z at mk ⊢
 have p:eval (u9 (k+5)) (.bO Z "Search" "told_of_sayings" "Search.told_of_sayings" (.a (.b0 (.bi .len (.a (.ix .v0 (.int 1))))))) [sv (bC K T S),si n] h= .ok (.v a) (h++ [.obj "Search" (ef n K T S (h.length+1)),.obj "Cases" (cx n K T S)]):=by
  rw [eval,mk,R.ae]
  simp only [Zo e.se]
  rw [if_pos ⟨trivial,rfl⟩,r,R.ae]
  exact i
 rw [qa (Ja rfl p),uS f l]
def z0 (g:bD n K T)(i: ∀s∈S++ [Sy.neg x],s.wf (K++T)/\s.dp<=q) (o:S.length<=11) (l:q<=14)(e:Gx h=u0) (p:q+36<=m): ∃a,Gd a=u0/\fk n K T (S++ [Sy.neg x]) q 7 0 (2 ^ bN n K T-1) a/\call prog (m+1) "follows" [.v (bC K T S),.i n,.v (aC x)] h= .ok (.v a) h:=by
 obtain⟨k,rfl⟩:=nk m 5 (by omega)
 have e1:=qE k g h
 obtain⟨a,f,A,b⟩:=IC g i (by rw [Aa5];simp;omega) l (m:=k+4) e (by omega)
 refine⟨a,f,A,?_⟩
 rw [Gb (d:=QK) rfl _ _ _ rfl]
 simp only [QK]
 have e2:call prog (k+5) "check_room" [.v (bC K T S)] h= .ok (.v .aj) h:=by
  rw [Gb (d:=Wr) rfl _ _ _ rfl]
  simp only [Wr]
  have c:Gr .ge (.i S.length) (.v (.int 12)) h=k0 false:=by
   show k0 _=_
   rw [decide_eq_false (by omega)]
  rw [xa (by simp_all [aa,Jd,aq,Qe,List.length_map,show List.lookup "MOST_SAYINGS" prog.con=some (.int 12)from rfl,c]),execs]
  exact Gz _ _ _ rfl
 have j:=tJ (S.map aC) [aC (.neg x)] h (by simp;omega)
 refine fx (by simp_all [];rfl) ?_
 refine fx (by simp_all [aq,show List.lookup "MOST_BITS" prog.con=some (.int 16)from rfl,e1];rfl) ?_
 refine fx (by simp_all [e2];rfl) ?_
 have b:call prog (k+5) "found" [.t [wD K T,.tup (S.map aC++ [aC (.neg x)])],.i n] h= .ok (.v a) h:=by
  rw [bC,Ae3]at b
  exact b
 rw [qa (w:= .v a) (h1:=h) (Ja rfl (by
  simp_all [aq,j,show D.tup [.str d6,aC x]=aC (.neg x)from rfl,b])),Ga _ _ _ rfl]
end
section
variable {n q:Nat}{K T:List Tx}{S:List Sy}
abbrev hX (K T:List Tx) (n:Nat) (w:D) (a b c:Option W):Sl:= [sv (wD K T),si n,sv w,a,b,c]
theorem ya (a:n<=4) (d:i=0/\e=n\/i=1/\e=n*n): ∀ l x,(∀ y∈l,y<2 ^ e)-> ∃j,Gq (Gp [5] u0) (λτ h=>execs (u9 (m+1)) jj τ h) (aw l) (hX K T n w (si i) x4 x) h= .next (hX K T n w (si i) x4 j) h
 | [],x,_=>⟨x,rfl⟩
 | y::l,x,b=>by
  obtain⟨j,e2⟩:=ya a d l (si y) λz q=>b z (Aa2 _ q)
  refine⟨j,?_⟩
  have o:=Af2 a a
  rw [aw,Ab1,zb (τ1:=hX K T n w (si i) x4 (si y)) rfl ?_]
  ·exact e2
  have e1:=zx m (.n y) h rfl
  have f:=Zc n n (by omega)
  have g:=ug e (by omega)
  have c:eval (u9 (m+1)) (.ix (.lst (.b .v1 (.bin .mul .v1 .v1))) .v3) (hX K T n w (si i) x4 (si y)) h= .ok (.i e) h:=by
   rcases d with⟨rfl,rfl⟩ | ⟨rfl,rfl⟩
   ·simp_all [f,aq]
    rfl
   ·simp_all [f,aq]
    rfl
  have p:Gr .le (.v (.int 0)) (.i y) h=k0 true:=by
   show k0 (y9 (0<= y))=_
   rw [decide_eq_true (by omega)]
  have k:Gr .lt (.i y) (.i (2 ^ e)) h=k0 true:=by
   show k0 (y9 (y<((2 ^ e:Nat):Int)))=_
   rw [decide_eq_true (Int.ofNat_lt.mpr (b y Aa4))]
  unfold jj
  generalize E.ix _ _=X at c ⊢
  rw [xa (by simp_all [e1,aq,Xw,p,c,g,k]),execs]
def tG {m i e:Nat}(f:n<=4) (o:i=0/\e=n\/i=1/\e=n*n) (l) (N:List Tx) (c: ∀y∈l,y<2 ^ e) (d:aU [x,y,z] (1+(i:Int))=k0 (.tup (aw l))) (g:aU [D.tup (K.map .str),.tup (T.map .str)] (i:Int)=k0 (.tup (N.map .str))) (b:l.length=N.length): ∃L j,execs (u9 (m+1)) zp (hX K T n (.tup [x,y,z]) (si i) x4 x5) h= .next (hX K T n (.tup [x,y,z]) (si i) L j) h:=by
 obtain⟨k,e2⟩:=ya f o l x5 c
 refine⟨k0 (.t (aw l)),k,?_⟩
 refine(za (by simp_all [Jc,aa,d,aq];rfl)).trans ?_
 rw [xa (by
  have a:b7 .tuple (.t (aw l))=k0 true:=rfl
  have nn:Gr .ne (.i l.length) (.i N.length) h=k0 false:=by
   rw [b]
   show k0 (!(decide _))=_
   rw [decide_eq_true rfl]
   rfl
  simp_all [a,Qe,Aa,aa,g,nn])]
 rw [za (by
  exact e2),execs]
def yF (g:bD n K T) (m c) (h):call prog (m+2) "_law_is_world" [.v (wD K T),.i n,.v (wo n K T c).aI] h= .ok (.b true) h:=by
 have ok:=(g.wo c).wl
 obtain⟨k,j,e1⟩:=tG g.n4 (.inl ⟨rfl,rfl⟩) (wo n K T c).ks K ok.bk rfl rfl ok.lk
 obtain⟨a2,i,e2⟩:=tG g.n4 (.inr ⟨rfl,rfl⟩) (wo n K T c).ts T ok.bt rfl rfl ok.lt
 have d:=zx m (.n n) h rfl
 rw [Gb rfl _ _ _ rfl]
 show Gw _ (execs _ _ (hX K T n (.tup [.n n,.tup _,.tup _]) y0 y0 y0) h)=_
 simp only [Zu]
 rw [xa (by
  have a:b7 .tuple (.t [.n n,.tup (aw (wo n K T c).ks),.tup (aw (wo n K T c).ts)])=k0 true:=rfl
  have e:Gr .ne (.i (3)) (.v (.int 3)) h=k0 false:=rfl
  have f:Gr .ne (.i n) (.i n) h=k0 false:=by
   show k0 (!(decide _))=_
   rw [decide_eq_true rfl]
   rfl
  simp_all [a,aq,Qe,Aa7,Ae,e,aa,La,f,d,Xw])]
 rw [za (by
  rw [exec,show Gs (u9 _) _ _ h= .ok [.n (0),.n (1)] h by(have b: -(fv)<= 2/\ 2<fv:=by rw [GR];lia);simp_all [b,and_self,if_true];rfl,R.au]
  rw [zb rfl e1]
  rw [zb rfl e2,JK])]
 rw [qa rfl,Ga _ _ _ rfl]
def sY (g:bD n K T)(l: ∀s∈S++ [y],s.wf (K++T)/\s.dp<=q) (x:S.length<=11)(A:fk n K T (S++ [y]) q 7 0 (2 ^ bN n K T-1) a){m:Nat}(f:Gx h=true) (B:q+22<=m):call prog (m+1) "_law_shows" [.v (bC K T S),.v (aC y),.i n,.v a] h= .ok (.b true) h:=by
 have o:=tJ (S.map aC) [aC y] h (by simp;omega)
 have i: ∀(w:Tx) (p:D) (X:Ss),execs (u9 m) (.cons (.r (.or (.not (.b7 .v3 .tuple)) (.cmp .ne (.bi .len (.a .v3)) (.int 2))) (.bl k9)) (.cons (.af 4 (.tup (.b (.ix .v0 (.int 0)) (.bin .add (.ix .v0 (.int 1)) (.tup (.a .v1)))))) X)) [sv (bC K T S),sv (aC y),si n,k0 (.t [.str w,p]),y0] h=execs (u9 m) X [sv _,sv _,si n,k0 _,sv _] h:=λw p X=>by
  have e:b7 .tuple (.t [.str w,p])=k0 true:=rfl
  have v:Gr .ne (.i (2)) (.v (.int 2)) h=k0 false:=rfl
  rw [xa (by simp_all [e,aq,Qe,Aa7,Ae,v])]
  rw [za (τ1:= [sv (bC K T S),sv (aC y),si n,k0 (.t [.str w,p]),sv (bC K T (S++ [y]))]) (h1:=h) (by
   simp_all [aa,zg,Jd,aq,o]
   rw [show bC K T (S++ [y])= .tup [wD K T,.tup (S.map aC++ [aC y])]by rw [bC,Ae3];rfl])]
 rw [Gb (d:=Jv) rfl _ _ _ rfl]
 show Gw _ (execs _ _ [sv (bC K T S),sv (aC y),si n,sv a,y0] h)=_
 simp only [Jv]
 rcases A with⟨c,_,_,z,rfl,t⟩ | ⟨p,rfl,P⟩
 ·obtain⟨k,rfl⟩:=nk m 2 (by omega)
  have e1:=yF g k c h
  obtain⟨b,e2,u⟩:=vx (k+1) c g l (by rw [Aa5];simp;omega) (by omega) h f
  rw [u.mpr t]at e2
  rw [i,xa (by simp_all [aa,zg,Xa,aq,show(Wv== fT)=k9 from rfl])]
  rw [qa (w:= .b u0) (h1:=h) (Ja rfl (by simp_all [aa,zg,Jd,Xa,aq,show(Wv== hB)=u0 from rfl,e1,e2])),Ga _ _ _ rfl]
 ·obtain⟨k,rfl⟩:=nk m 2 (by omega)
  have e1:=Bb k g h
  have j:=P.wk _ _ _ (yB g (r:=h.length) (h:=h++ [.aN (aO (K++T) (fO n T))]) (by simp))
  have e2:=j.mH (FZ f rfl) (k+2) (by omega)
  rw [i,qa (h1:=h++ [.aN (aO (K++T) (fO n T))]) ((Jr (h1:=h) (by simp_all [aa,zg,Xa,aq,show(Qd== fT)=u0 from rfl])).trans (qa (Ja (d:= .bl u0) rfl (by simp_all [aa,zg,Jd,aq,e1,e2])))),uS rfl f]
end
section
variable {n q:Nat}{K T:List Tx}{S:List Sy}
def E1 (h) (f: ∀s∈S,s.dp<=q) (g:q<=100):Gr .eq (.t (S.map aC)) (.t []) h=k0 S.isEmpty:=by
 have a:=Wj _ (λs=>(oE s).1) S
 have b:dep (.tup (S.map aC))<150:=by
  have: ∀L:List Sy,(∀ s∈L,s.dp<=q)->GG (L.map aC)<=q+2:=λL=>by
   induction L with
   | nil=>intro _;simp [GG]
   | cons s L c=>
    intro h
    have:=c λs d=>h s (Aa2 _ d)
    have:=(oE s).2
    have:=h s Aa4
    rw [Ab1,GG]
    lia
  have:=this S f
  lia
 show(if G6 _ ((W.t []).dd h)then k0 (cw _ _)else y0)=_
 rw [W.eV,W.eV,md (show Gd (.tup _)=u0 from a)]
 have e:G6 (.tup (S.map aC)) (res h (.tup []))=true:=by
  show(Gd _&&u0&&decide _)=u0
  rw [decide_eq_true b,show Gd (.tup _)=u0 from a]
  rfl
 rw [if_pos e]
 cases S<;>rfl
abbrev gm (K T:List Tx) (S:List Sy) (c a b:Option W):Sl:= [k0 (.r 0),sv (bC K T S),c,a,b]
def DB (g:bD n K T) (J: ∀s∈S,s.wf (K++T)/\s.dp<=9) (Y:S.length<=5)(hm:7<=m): ∃(x:Sy) (f:Int),x.wf (K++T)/\x.dp<=10/\call prog (m+1) "_law_asked" [.r 0,.v (bC K T S)] [ah ns i v]= .ok (.v (aC x)) [ah ns i f]:=by
 obtain⟨m,rfl⟩: ∃k,m=k+6:=⟨m-6,by omega⟩
 have M:(K++T).length<=8:=by rw [Aa5];have:=g.k4;have:=g.t4;omega
 have P:(K.map D.str).length+(T.map D.str).length<=bg:=by rw [Gg,Aa,Aa];have:=g.k4;have:=g.t4;omega
 obtain⟨d,v1,Z,e1⟩:=Wg _ (h:= [ah ns i v]) (r:=0) rfl (m:=4) (by decide) (by decide)
 have e1:call prog (m+6) "_law_draw" [.r 0,.v (.int 4)] [ah ns i v]= .ok _ [ah ns i v1]:=e1
 have run:=λ(w:D) (f:Int) (e:execs (u9 (m+6)) bE.body (gm K T S y0 y0 y0) [ah ns i v]= .ret (.v w) [ah ns i f])=>(show call prog (m+7) "_law_asked" [.r 0,.v (bC K T S)] [ah ns i v]= .ok (.v w) [ah ns i f]from by
  rw [Gb (d:=bE) rfl _ _ _ rfl]
  show Gw 1 (execs _ _ (gm K T S y0 y0 y0) [ah ns i v])=_
  rw [e]
  exact Ga w [ah ns i v] [ah ns i f] rfl)
 simp only [bE]at run
 have F: ∀X,execs (u9 (m+6)) (.cons (.af 2 (.bi .list (.a (.bin .add (.ix (.ix .v1 (.int 0)) (.int 0)) (.ix (.ix .v1 (.int 0)) (.int 1)))))) (.cons (.af 3 (.call "_law_draw" (.b .v0 (.int 4)))) X)) (gm K T S none none none) [ah ns i v]=execs (u9 (m+6)) X (gm K T S (some (.l ((K++T).map .str))) (si d) none) [ah ns i v1]:=fun X=>by
  rw [za (τ1:=gm K T S (k0 (.l ((K++T).map .str))) y0 y0) (h1:= [ah ns i v]) (by
   simp_all [aa,zg,Jd,QS,P,if_true,aq,uF]
   rw [Ae3])]
  rw [za (τ1:=gm K T S (k0 (.l ((K++T).map .str))) (si d) y0) (h1:= [ah ns i v1]) (by simp_all [e1])]
 have z:=E1 (S:=S) (q:=9) [ah ns i v1] (λs U=>(J s U).2) (by decide)
 have c:Gr .lt (.i d) (.v (.int 2)) [ah ns i v1]=k0 (y9 (d<2)):=by
  show k0 (y9 ((d:Int)<2))=_
  congr 1
  simp
  omega
 by_cases a:S.isEmpty=u0\/d<2
 ·obtain⟨s,v2,l,R,e2⟩:=pe (N:=K++T) M 1 m [ah ns i v1] v1 (r:=0) (ns:=ns) (i:=i) rfl
  rw [show 1+m+5=m+6 by omega]at e2
  have e2:call prog (m+6) "_law_saying" [.r 0,.l ((K++T).map .str),.v (.int 1)] [ah ns i v1]= .ok (.v (aC s)) [ah ns i v2]:=e2
  refine⟨s,v2,l,by omega,run _ _ ?_⟩
  rw [F]
  refine qa ((Jr (h1:= [ah ns i v1]) ?_).trans (qa (Ja rfl (by simp_all [e2]))))
  rcases a with a | a
  ·simp_all [aa,Jd,z,a,aq]
  ·cases b:S.isEmpty
   ·simp_all [aa,Jd,z,b,aq,c,decide_eq_true a]
   ·simp_all [aa,Jd,z,b,aq]
 have b:S.isEmpty=false:=by
  cases h:S.isEmpty
  ·rfl
  ·exact absurd (.inl h) a
 have Q: ¬d<2:=λh=>a (.inr h)
 have W:0<S.length:=by cases S with | nil=>cases b | cons _ _=>simp
 obtain⟨y,v2,C,e2⟩:=Wg (m+5) (h:= [ah ns i v1]) (r:=0) rfl (m:=S.length) W (by omega)
 have e2:call prog (m+6) "_law_draw" [.r 0,.i S.length] [ah ns i v1]= .ok (.i y) [ah ns i v2]:=e2
 have B:aU (S.map aC) (y:Int)=k0 (aC S[y]):=by
  rw [jg _ _ (by rw [Aa];exact C),Ac2,Aa6 C];rfl
 obtain⟨H,dy⟩:=J _ (Am7 C)
 have j: ∀X,execs (u9 (m+6)) (.cons (.r (.or (.cmp .eq (.ix .v1 (.int 1)) (.tup .nil)) (.cmp .lt .v3 (.int 2))) (.call "_law_saying" (.c .v0 .v2 (.int 1)))) (.cons (.af 4 (.ix (.ix .v1 (.int 1)) (.call "_law_draw" (.b .v0 (.bi .len (.a (.ix .v1 (.int 1)))))))) X)) (gm K T S (some (.l ((K++T).map .str))) (si d) none) [ah ns i v1]=execs (u9 (m+6)) X (gm K T S (some (.l ((K++T).map .str))) (si d) (sv (aC S[y]))) [ah ns i v2]:=fun X=>by
  rw [xa (by simp_all [aa,Jd,z,b,aq,c,decide_eq_false Q])]
  rw [za (τ1:=gm K T S (k0 (.l ((K++T).map .str))) (si d) (sv (aC S[y]))) (h1:= [ah ns i v2]) (by simp_all [aa,Jd,aq,Qe,Aa,e2,B])]
 have I:Gr .eq (.i d) (.v (.int 2)) [ah ns i v2]=k0 (y9 (d=2)):=zn d 2 _
 by_cases L:d=2
 ·refine⟨S[y],v2,H,by omega,run _ _ ?_⟩
  rw [F,j]
  exact Xe (by simp_all [I,aq,decide_eq_true L]) rfl
 obtain⟨o,v3,ho,u⟩:=Wg (m+5) (h:= [ah ns i v2]) (r:=0) rfl (m:=2) (by decide) (by decide)
 have u:call prog (m+6) "_law_draw" [.r 0,.v (.int 2)] [ah ns i v2]= .ok (.i o) [ah ns i v3]:=u
 obtain⟨s,v4,l,R,p⟩:=pe (N:=K++T) M 0 (m+1) [ah ns i v3] v3 (r:=0) (ns:=ns) (i:=i) rfl
 rw [show 0+(m+1)+5=m+6 by omega]at p
 have p:call prog (m+6) "_law_saying" [.r 0,.l ((K++T).map .str),.v (.int 0)] [ah ns i v3]= .ok (.v (aC s)) [ah ns i v4]:=p
 obtain⟨x,A,G,E⟩: ∃x:Sy,x.wf (K++T)/\x.dp<=10/\ ∃t,dF (.own [.str fj,.str hF]) (.i o) [ah ns i v3]=k0 (.str t)/\aC x= .tup [.str t,aC S[y],aC s]:=by
  obtain rfl | rfl:o=0\/o=1:=by omega
  ·exact⟨.cj S[y] s,⟨H,l⟩,by rw [Sy.dp];omega,_,rfl,rfl⟩
  ·exact⟨.cg S[y] s,⟨H,l⟩,by rw [Sy.dp];omega,_,rfl,rfl⟩
 obtain⟨t,O,V⟩:=E
 refine⟨x,v4,A,G,run _ _ ?_⟩
 rw [F,j,xa (by simp_all [I,aq,decide_eq_false L]),V]
 exact qa (Ja rfl (by simp_all [aq,u,O,p]))
end
abbrev kR (i:D) (g b c a d h f e:Option W):Sl:= [sv i,k0 (.r 0),g,b,c,a,d,h,f,e]
section
variable {n:Nat}{K T:List Tx}
def Bp (g:bD n K T) (a b): ∃f,Dc (wo n K T a) (wo n K T b) f 0 [.aN (aO (K++T) f)]:=⟨λt=>((fS n K T a t).1,(fS n K T b t).1),rfl,g.n4,λt c=>(z8 (r:=0) (h:= [.aN _]) g rfl).lo t c,λt c=>(z8 (r:=0) (h:= [.aN (aO _ (fS n K T b))]) g rfl).lo t c⟩
end
def yP {S:List Sy}(g:bD n K T) (V:Gx H=u0) (O: ∀s∈S,s.wf (K++T)/\s.dp<=9) (hl:S.length<=5) (R:GP n K T (S++ [Sy.neg x]) q 7 p1 0 (2 ^ bN n K T-1)) (U:GP n K T (S++ [Sy.neg (Sy.neg x)]) q 7 p2 0 (2 ^ bN n K T-1)) (wx:x.wf (K++T)) (dx:x.dp<=10):execs (u9 69) (.cons (.af 8 (.bin .shl (.int 1) (.bin .add (.bin .mul .v2 (.bi .len (.a (.ix .v3 (.int 0))))) (.bin .mul (.bin .mul .v2 .v2) (.bi .len (.a (.ix .v3 (.int 1)))))))) (.cons (.af 9 ZS) (.a (.ret (.not (.bi .any (.a w6))))))) (kR sc (si n) (sv (wD K T)) (sv (bC K T S)) x5 x6 x7 y0 y0) H= .ret (.b u0) H:=by
 have n4:=g.n4
 have A:=g.b6
 have A:bN n K T<=6:=A
 have W:n*n<=16:=Af2 n4 n4
 have Q:Gi .mul (n:Int) _=k0 ((n*K.length:Nat):Int):=Zc n _ (by omega)
 have m2:Gi .mul (n:Int) (n:Int)=k0 _:=Zc n n (by omega)
 have Y:Gi .mul _ _=k0 ((n*n*T.length:Nat):Int):=Zc _ _ (by omega)
 have Z:(((n*K.length:Nat):Int)+((n*n*T.length:Nat):Int))=((bN n K T:Nat):Int):=by
  show((n*K.length+n*n*T.length:Nat):Int)=_
  rw [Al n,Al (n*n)]
 have u:=qV (bN n K T) (by omega)
 have p64:2 ^ bN n K T<=64:=(Ac9 (by decide) A:2 ^ bN n K T<=2 ^ 6)
 refine(za (by simp_all [aa,zg,Jd,Qe,aq,Aa,Q,m2,Y,Jc,Z,u];rfl)).trans ?_
 have e2:eval (u9 69) ZS (kR sc (si n) (sv (wD K T)) (sv (bC K T S)) x5 x6 x7 (si (2 ^ bN n K T)) y0) H= .ok (.own ((Aa8 (2 ^ bN n K T)).map λc=>(wo n K T c).aI)) H:=by
  unfold ZS
  exact Qo (n:=2 ^ bN n K T) (λc=>(wo n K T c).aI) rfl (by omega) λc hc=>⟨.v (wo n K T c).aI,by
   have e:=EI 68 c g H
   simp_all [e],rfl⟩
 refine(za (by simp_all [e2];rfl)).trans ?_
 obtain⟨f,P⟩:=Bp g 0 _
 have l:=(R.wk _ _ _ P).snd
 have p:=(U.wk _ _ _ P).snd
 obtain⟨f,t,J⟩:=QR (F:=(u9 69)) (k:=1) (aB:= [4]) (it:= .seq .v9) (c:= .bl true) (elt:= .call "_law_keeps" (.b .v1 .v0)) (τ:=kR sc (si n) (sv (wD K T)) (sv (bC K T S)) x5 x6 x7 (si (2 ^ bN n K T)) (some (.l ((List.range (2 ^ bN n K T)).map fun c=>(wo n K T c).aI)))) (h:=H) (ds:=(List.range (2 ^ bN n K T)).map fun c=>(wo n K T c).aI) (fun d y=>y= .bl false) (by simp_all []) (by rw [List.length_map,List.length_range];omega) (fun d o=>by
  obtain⟨w,j,rfl⟩:=Ab6.mp o
  obtain⟨b,e,hb⟩:=vx 68 w g O (by omega) (by omega) H V
  refine⟨.bl b,by simp_all [e],?_⟩
  cases b with
  | false=>rfl
  | true=>
   have L:=hb.mp rfl
   have j:=Ab8.mp j
   obtain⟨r,I,_⟩:=xL 19 0 w w (ro:=0) (h:= [Cell.obj "Cases" (cx n K T [x])]) (S:= [x]) (s:=x) g rfl j j rfl (by omega) wx
   obtain⟨u,a,B⟩:=l w (WT w) (sL j)
   obtain⟨s2,i,C⟩:=p w (WT w) (sL j)
   rcases Ac5.mp a with a | a
   ·cases B _ (L u a)
   rcases Ac5.mp i with i | i
   ·cases C _ (L s2 i)
   rw [Ac3.mp a]at B
   rw [Ac3.mp i]at C
   have G:=B _ ⟨r,I,rfl⟩
   have y2:=C _ ⟨_,⟨r,I,rfl⟩,rfl⟩
   rcases r with _ | _ | _
   ·cases G
   ·cases G
   ·cases y2)
 obtain⟨bs,M⟩:=m7 f _ λd o=>⟨_,J d o⟩
 rw [M]at t
 have N:bs.any id=false:=by
  rw [Aj4]
  intro x hx z
  have m:D.bl x∈bs.map D.bl:=Ab6.mpr ⟨x,hx,rfl⟩
  rw [← M]at m
  obtain⟨d,o,e⟩:=Ab6.mp m
  rw [J d o]at e
  injection e with e
  rw [← e]at z
  cases z
 have t:eval (u9 69) w6 _ H= .ok _ H:=t
 have v:=xA t
 rw [N]at v
 refine qa (Ja rfl ?_)
 generalize E.bi _ _=X at v ⊢
 simp_all [v,aq]
def fi (ns:List Int) (t:ns.length<=63): ∃h',call prog 70 "law" [.l (ns.map .int)] []= .ok (.b true) h':=by
 suffices p: ∃H,execs (u9 69) dZ.body [k0 _,y0,y0,y0,y0,y0,y0,y0,y0,y0] []= .ret _ H by
  obtain⟨H,e⟩:=p
  rw [Gb (d:=dZ) rfl _ _ _ rfl]
  show ∃h',Gw 0 (execs _ dZ.body [k0 (.l (ns.map .int)),y0,y0,y0,y0,y0,y0,y0,y0,y0] [])=_
  rw [e]
  obtain⟨h',R,W⟩:=mT (d:= .bl u0) (h:=H) (n:=0) rfl (Af4 _) rfl
  exact⟨h',R⟩
 obtain⟨v0,P⟩:=B6 68 ns t []
 obtain⟨n,K,T,v1,g,e1⟩:=Ly 66 (h:= [ah ns 0 v0]) (r:=0) (i:=0) rfl
 have e1:call prog 69 "_law_words" [.r 0] [ah ns 0 v0]= .ok _ [ah ns 0 v1]:=e1
 obtain⟨S,i2,v2,b,A,e2⟩:=DC 61 g t (h:= [ah ns 0 v1]) (r:=0) (i:=0) rfl
 have e2:call prog 69 "_law_theory" [.r 0,.v _,.v _] [ah ns 0 v1]= .ok _ [ah ns i2 v2]:=e2
 obtain⟨v3,q⟩:=rk 68 t (h:= [ah ns i2 v2]) (r:=0) (i:=i2) rfl
 have q:call prog 69 "_law_turn" [.r 0] [ah ns i2 v2]= .ok _ [ah ns _ v3]:=q
 obtain⟨x,v4,u,G,y⟩:=DB (m:=68) g b A (ns:=ns) (i:=i2+1) (v:=v3) (by decide)
 have l: ∀s∈S++ [Sy.neg x],s.wf _/\s.dp<=12:=λs a=>by
  rcases Ac5.mp a with a | a
  ·exact⟨(b s a).1,by have:=(b s a).2;omega⟩
  ·rw [Ac3.mp a]
   exact⟨u,by rw [Sy.dp];omega⟩
 have f: ∀s∈S++ [Sy.neg (Sy.neg x)],s.wf (K++T)/\s.dp<=12:=λs a=>by
  rcases Ac5.mp a with a | a
  ·exact⟨(b s a).1,by have:=(b s a).2;omega⟩
  ·rw [Ac3.mp a]
   exact⟨u,by rw [Sy.dp,Sy.dp];omega⟩
 generalize O: [ah ns (i2+1) v4]=H at y
 have j:Gx H=true:=by rw [← O];rfl
 obtain⟨L,Z,F,z⟩:=z0 (m:=68) (h:=H) g l (by omega) (by decide) j (by decide)
 obtain⟨a2,V,C,J⟩:=z0 (m:=68) (h:=H) g f (by omega) (by decide) j (by decide)
 have B:=sY (m:=68) (h:=H) g l (by omega) F j (by decide)
 have Q:=sY (m:=68) (h:=H) g f (by omega) C j (by decide)
 refine⟨H,?_⟩
 have w:eval (u9 69) (.share (.call "_law_start" (.a .v0))) [some (.l (ns.map .int)),none,none,none,none,none,none,none,none,none] []= .ok (.r 0) [ah ns 0 v0]:=yT (ws:= [.l (ns.map .int)]) (by simp_all []) P (by
  show(Gc (ns.map .int)&&u0)=u0
  rw [Wj _ (λ_=>rfl)];rfl)
 simp only [dZ]
 rw [za (τ1:=kR (.lst (ns.map .int)) y0 y0 y0 y0 y0 y0 y0 y0) (h1:= [ah ns 0 v0]) (by
  generalize E.share _=X at w ⊢
  simp_all [w])]
 generalize D.lst (ns.map .int)=M
 refine(za (by simp_all [e1];rfl)).trans ?_
 refine(za (by simp_all [e2];rfl)).trans ?_
 refine(za (by simp_all [q];rfl)).trans ?_
 refine(za (by simp_all [y];rfl)).trans ?_
 refine(za (by simp_all [z];rfl)).trans ?_
 have o: ∀s:Sy,D.tup [.str d6,aC s]=aC (.neg s):=λ_=>rfl
 refine(za (by simp_all [o,J];rfl)).trans ?_
 rw [xa (by simp_all [o,B,aq]),xa (by simp_all [o,Q,aq])]
 have k:exec (u9 69) (.ret (.call "_law_shows" (.d .v4 (.tup (.b (.str d6) .v5)) .v2 (.call "follows" (.c .v4 .v2 .v5))))) (kR M (si n) (sv (wD K T)) (sv (bC K T S)) (sv (aC x)) (sv L) (sv a2) none none) H= .ret (.b true) H:=Ja rfl (by simp_all [o,z,B])
 rcases F with⟨c,_,_,_,rfl,_⟩ | ⟨Y,rfl,I⟩
 ·rw [xa (by simp_all [aa,zg,Xa,aq,show(Wv== fT)=k9 from rfl])]
  exact qa k
 rcases C with⟨c,_,_,_,rfl,_⟩ | ⟨U,rfl,N⟩
 ·rw [xa (by simp_all [aa,zg,Xa,aq,show(Qd== fT)=u0 from rfl,show(Wv== fT)=k9 from rfl])]
  exact qa k
 refine qa ((Jr (h1:=H) (by simp_all [aa,zg,Xa,aq,show(Qd== fT)=u0 from rfl])).trans ?_)
 exact yP g j b A I N u G
end M
namespace L2.MS
open PySem PyProof.Rows
noncomputable def nV:List String:= ["is_whole", "is_below", "pairs_of", "gathered", "common", "either", "without", "turned", "joined", "closed", "same", "every", "value_of_name", "made", "counts", "bounds", "settled", "not_told", "and_told", "or_told", "in_told", "count_told", "told", "fact_told", "is_size", "widths", "bits", "check_size", "check_bits", "world_of", "places_of", "is_tuple_of", "names_in", "needed_bits", "how_many_set", "found", "check_room", "follows", "_law_start", "_law_turn", "_law_draw", "_law_names", "_law_words", "_law_expression", "_law_saying", "_law_theory", "_law_joined", "_law_turned", "_law_closed", "_law_same", "_law_two", "_law_bounds", "_law_many", "_law_ruled", "_law_within", "_law_fact", "_law_told", "_law_whole", "_law_spread", "_law_seen", "_law_is_world", "_law_keeps", "_law_open", "_law_split", "_law_walks", "_law_shows", "_law_world", "_law_asked", "law"]
def nK:List String:= ["NoSize", "NoCode", "Crowded"]
def oz:List String:= ["NoSize", "NoCode", "Crowded"]
def oX:List String:= []
noncomputable def Hn:fZ:=⟨[("Cases", "words"),("Cases", "sayings"),("Cases", "size"),("Cases", "places"),("Cases", "whole"),("Search", "cases"),("Search", "needs")],[("Cases", "world_of_code", "Cases.world_of_code"),("Cases", "truth", "Cases.truth"),("Cases", "bit_of", "Cases.bit_of"),("Cases", "is_shown", "Cases.is_shown"),("Search", "told_of_sayings", "Search.told_of_sayings"),("Search", "chosen_place", "Search.chosen_place"),("Search", "told_of_case", "Search.told_of_case"),("Search", "told_of_halves", "Search.told_of_halves")],[("Cases", "Cases.__init__"),("Search", "Search.__init__")],["Cases.__init__", "Cases.world_of_code", "Cases.truth", "Cases.bit_of", "Cases.is_shown", "Search.__init__", "Search.told_of_sayings", "Search.chosen_place", "Search.told_of_case", "Search.told_of_halves"],[]⟩
noncomputable def Ay:List (String×List String):= [("_law_names",["_law_pack", "_law_many_here", "_law_letters", "_law_first", "_law_stem", "_law_k", "_law_at", "_law_names_here", "_law_name"])]
end L2.MS
namespace PySem.W.Fast
def tw10618183384562132980:=Nat
def tw6476895549221670622:=Nat
def tw17676751929274685660:=Nat
def tw5271127180681640272:=Nat
def tw14243398472772409296:=Nat
def tw12023455846462935986:=Nat
def tw8655017166980193674:=Nat
def tw16576898688499384195:=Nat
def tw6720010368334840070:=Nat
def tw6395455801054671651:=Nat
def tw6590715534393329718:=Nat
def tw8134576736129276115:=Nat
def tw17260474247196807011:=Nat
def tw4638603507793330031:=Nat
def tw5610206393967898804:=Nat
def tw2612869847605772514:=Nat
def tw5903481624005080587:=Nat
def tw12095082280451337914:=Nat
def tw4339534279683962408:=Nat
def tw8947337619666934411:=Nat
def tw3110201327346789560:=Nat
def tw7916335719913409142:=Nat
def tw3941387308436873630:=Nat
def tw17412419559939621263:=Nat
def tw5206835002006625743:=Nat
def tw4567131218653431851:=Nat
def tw6697083814452879342:=Nat
def tw15731490354028170986:=Nat
def tw12418254398374990363:=Nat
def tw15720078691072131419:=Nat
def tw5172780032461075463:=Nat
def tw8826678249763861269:=Nat
def tw3953702115573436002:=Nat
def tw18389131135452597205:=Nat
def tw5094392749409780527:=Nat
def tw4377458503434928256:=Nat
def tw812858021363907676:=Nat
def tw9736135803560346794:=Nat
def tw7985103040548243092:=Nat
def tw14945137871889814210:=Nat
def tw13450615923467619455:=Nat
def tw16681057736709885232:=Nat
def tw12118696089158860037:=Nat
def tw13160305908811237879:=Nat
def tw4666413197111905511:=Nat
def tw4773876882423779539:=Nat
def tw12196675311304969662:=Nat
def tw10190149369711862143:=Nat
def tw5734430234348860005:=Nat
def tw9098489949723752556:=Nat
def tw12952282255958312226:=Nat
def tw7049287276319439342:=Nat
def tw15149136058382529862:=Nat
def tw12745598155774894604:=Nat
def tw1047930509043497316:=Nat
def tw14615388954863719352:=Nat
def tw16488160428268313950:=Nat
def tw7998451971270190647:=Nat
def tw10360150312573431788:=Nat
def tw18268774086141140133:=Nat
def tw12108532664708456704:=Nat
def tw10236430885541788691:=Nat
def tw5997169015421116832:=Nat
def tw11152982163413892303:=Nat
def tw17879710958734054800:=Nat
def tw976293981882337309:=Nat
def tw3201121924394103924:=Nat
def tw16821569935696358748:=Nat
def tw8539548530260159047:=Nat
def tw17813918686904010504:=Nat
def tw10011860738100173947:=Nat
def tw10814554723621815367:=Nat
def tw6028106988050709803:=Nat
def tw15751784986887831592:=Nat
def tw10174332769823588390:=Nat
def tw7605893716745812871:=Nat
def tw12966288949887954518:=Nat
def tw9021232916236921638:=Nat
def tw9045128167842555387:=Nat
def tw7958556700182860436:=Nat
def tw17567225512943548008:=Nat
def tw14241986418837458225:=Nat
def tw587782919317067166:=Nat
def tw1860166513454332711:=Nat
def tw14461985189155878487:=Nat
def tw10735571519383687179:=Nat
def tw792171039049160632:=Nat
def tw5411807068592734506:=Nat
def tw14427054274350382449:=Nat
def tw13674077357753539694:=Nat
def tw8397488359526673008:=Nat
def tw3960661308785134211:=Nat
def tw14670884099560711468:=Nat
def tw1007899592690391177:=Nat
def tw2616371191542984013:=Nat
def tw14317845232285674211:=Nat
def tw11496416199324691099:=Nat
def tw828647578642010133:=Nat
def tw16104867302382999941:=Nat
def tw8122619480932918001:=Nat
def tw13765413002472275390:=Nat
def tw12717414646915265215:=Nat
def tw15673322482219953024:=Nat
def tw12091186333236330549:=Nat
def tw2881252466083862090:=Nat
def tw11127171187743154590:=Nat
def tw10035598382147702766:=Nat
def tw1547874658603531199:=Nat
def tw12769802713986652560:=Nat
def tw12346098920053486991:=Nat
def tw8863648308830358428:=Nat
def tw499721601456943345:=Nat
def tw5149850783590449157:=Nat
def tw13342959495439316438:=Nat
def tw12088874471972497987:=Nat
def tw10912926000028201347:=Nat
def tw4360514646030790548:=Nat
def tw6229517339040614993:=Nat
def tw5464317148462157577:=Nat
def tw4974109814440402446:=Nat
def tw1579704855815287445:=Nat
def tw14314110005636785487:=Nat
def tw14041419915867512422:=Nat
def tw12215500834017146063:=Nat
def tw3015193668275324033:=Nat
def tw155439456152370270:=Nat
def tw11107646599080846877:=Nat
def tw5673036784064241401:=Nat
def tw5199988954494718883:=Nat
def tw17181335722869851647:=Nat
def tw11257475303083202094:=Nat
def tw2219663466846263746:=Nat
def tw10285589384164504192:=Nat
def tw5294980925689514533:=Nat
def tw2461255878691345298:=Nat
def tw17341268038655769389:=Nat
def tw16371989444779485337:=Nat
def tw13678466602251956564:=Nat
def tw13419050648039951466:=Nat
def tw12357166557891307826:=Nat
def tw14353169697473165087:=Nat
def tw10074530339206497419:=Nat
def tw10061151616496908983:=Nat
def tw13533172183465831497:=Nat
def tw8868127581897464176:=Nat
def tw15156216390825852867:=Nat
def tw13361911604050191424:=Nat
def tw6729402149508096820:=Nat
def tw2319082289190962018:=Nat
def tw14293510695196918385:=Nat
def tw8805922095538134786:=Nat
def tw1834527526716984947:=Nat
def tw15989523512023207311:=Nat
def tw9915670824667719855:=Nat
def tw18083716576883267185:=Nat
def tw4600494979482896513:=Nat
def tw17907207227091945627:=Nat
def tw17201201811688115718:=Nat
def tw16608716920727276360:=Nat
def tw13178504896370926488:=Nat
def tw15338086126321138648:=Nat
def tw11097247682146159153:=Nat
def tw5116564188950316861:=Nat
def tw329709085795977478:=Nat
def tw16100242908531451859:=Nat
def tw6127024125036817523:=Nat
def tw6883415329813082446:=Nat
def tw4698494268240731315:=Nat
def tw995941213863528614:=Nat
def tw5348102275716416286:=Nat
def tw7503169345454165389:=Nat
def tw12231460451558581527:=Nat
def tw13265684025773026919:=Nat
def tw5320258626387276697:=Nat
def tw5446529197806867095:=Nat
def tw3140498009263590246:=Nat
def tw8298772108603600739:=Nat
def tw16904381815559674761:=Nat
def tw14203176864454081993:=Nat
def tw5913240235295085691:=Nat
def tw13218256650783385507:=Nat
def tw18355277634265133909:=Nat
def tw7902129610819694563:=Nat
def tw17694239638630318540:=Nat
def tw16036527952036201785:=Nat
def tw13932429424477665789:=Nat
def tw13912607943282176758:=Nat
def tw12057127629958845883:=Nat
def tw13567567293751759396:=Nat
def tw12529632490765470464:=Nat
def tw8376696856853290259:=Nat
def tw318367406088688078:=Nat
def tw18264095935056199412:=Nat
def tw8357617831303578138:=Nat
def tw4788773790756487875:=Nat
def tw11144563550577477547:=Nat
def tw6626556904101251202:=Nat
def tw5271427570084219314:=Nat
def tw347612675628087331:=Nat
def tw15956077039577845794:=Nat
def tw15595894160787692853:=Nat
def tw1120737585575455527:=Nat
def tw6937776428293386819:=Nat
def tw448567559996748910:=Nat
def tw10634219039901440654:=Nat
def tw461660839462075460:=Nat
def tw5819341201633874602:=Nat
def tw5427729870047427932:=Nat
def tw14359885750167855779:=Nat
def tw6997361011806253927:=Nat
def tw15925034939171574456:=Nat
def tw6893224924533234266:=Nat
def tw7540054019182577173:=Nat
def tw17300689460300141757:=Nat
def tw17290488931601246968:=Nat
def tw7711584229791027985:=Nat
def tw5419723647698559320:=Nat
def tw4637151137816999507:=Nat
def tw16161069591834039354:=Nat
def tw15679692776009075579:=Nat
def tw1497136744499649848:=Nat
def tw14041429855237095066:=Nat
def tw13089343292460030880:=Nat
def tw7857406715672684116:=Nat
def tw7562411028879036175:=Nat
def tw375352732388390298:=Nat
def tw17443108422560887043:=Nat
def tw14952873755082070083:=Nat
def tw12077864496717286414:=Nat
def tw1166064285444897669:=Nat
def tw17533225446707697110:=Nat
def tw7401073029757833754:=Nat
def tw4297466482172810821:=Nat
def tw14994007256729038395:=Nat
def tw12359017254789828749:=Nat
def tw6576489193415251820:=Nat
def tw4903938798778091168:=Nat
def tw3513102500804627952:=Nat
def tw16031488884530465714:=Nat
def tw13754359908148030746:=Nat
def tw13244143903831942384:=Nat
def tw13122364370798378832:=Nat
def tw9933259181164485864:=Nat
def tw9926154701958009855:=Nat
def tw9773686255270680539:=Nat
def tw9754326211805978092:=Nat
def tw952948018940623748:=Nat
def tw9325012244151698872:=Nat
def tw9181303716320070602:=Nat
def tw8988254791571018043:=Nat
def tw8982474320492365329:=Nat
def tw8940304457810305668:=Nat
def tw8727628670818515286:=Nat
def tw8722409754071568015:=Nat
def tw868447899414479464:=Nat
def tw8656067477803380274:=Nat
def tw8595166819990715259:=Nat
def tw849834384313717512:=Nat
def tw8425767234259876541:=Nat
def tw8155202586634378659:=Nat
def tw8129717496853735218:=Nat
def tw7991936443946124423:=Nat
def tw7902738963301640724:=Nat
def tw7863267099449256747:=Nat
def tw7838158071145006169:=Nat
def tw7784432000090876350:=Nat
def tw7762715926075512564:=Nat
def tw7662439087945651301:=Nat
def tw7597869258349988389:=Nat
def tw7366265327260386405:=Nat
def tw7293692489002054213:=Nat
def tw6911436696693275228:=Nat
def tw6784050089728785077:=Nat
def tw6640224473326697507:=Nat
def tw6455741138111962895:=Nat
def tw6406241711811499790:=Nat
def tw593175557552357470:=Nat
def tw5777596935845940809:=Nat
def tw5739792918835538849:=Nat
def tw5637901320679511786:=Nat
def tw5269814749970750632:=Nat
def tw5107124850101237481:=Nat
def tw5040503561847296285:=Nat
def tw4972132311052109887:=Nat
def tw4944790586441350108:=Nat
def tw4857977652748346495:=Nat
def tw4721334984385000322:=Nat
def tw4695336026468199699:=Nat
def tw4578347656585457984:=Nat
def tw4548229311340315823:=Nat
def tw4527914479304572926:=Nat
def tw4512030393022339178:=Nat
def tw4436259507383081347:=Nat
def tw4417696064306081311:=Nat
def tw4369631918457522173:=Nat
def tw4276343933644651384:=Nat
def tw4054063154828356135:=Nat
def tw4011779531709645131:=Nat
def tw3840487116579481945:=Nat
def tw3815979175485803891:=Nat
def tw3499487232214324684:=Nat
def tw3497043780553681609:=Nat
def tw3457238895843041486:=Nat
def tw3320608445508809150:=Nat
def tw3241178092947157373:=Nat
def tw3214204954915355005:=Nat
def tw3169860726261583400:=Nat
def tw3088983105463971718:=Nat
def tw3040834205149934737:=Nat
def tw2664849576190237533:=Nat
def tw2650246981849889618:=Nat
def tw2600154972184186661:=Nat
def tw235746493140693457:=Nat
def tw224032511122868570:=Nat
def tw2236360089331577652:=Nat
def tw221401114117185710:=Nat
def tw2054548566279113338:=Nat
def tw18418922164149372797:=Nat
def tw18339358856707287333:=Nat
def tw18315620120888968218:=Nat
def tw17946745259571467479:=Nat
def tw17777281878080052502:=Nat
def tw17500356732583125775:=Nat
def tw17358472888195378954:=Nat
def tw1732251546667056236:=Nat
def tw17098300502195807233:=Nat
def tw16918085325123594587:=Nat
def tw16688509797972399152:=Nat
def tw16686122879899703354:=Nat
def tw16630083427325628364:=Nat
def tw16441871831417610030:=Nat
def tw1613477116691133948:=Nat
def tw1611929527742847923:=Nat
def tw16068743767540364175:=Nat
def tw16057455483619974119:=Nat
def tw16029867220511323888:=Nat
def tw15931003405996766283:=Nat
def tw15830337226150429731:=Nat
def tw15798928648383011678:=Nat
def tw15336215547595980366:=Nat
def tw15163321220994050068:=Nat
def tw15024171338739427602:=Nat
def tw1500266226836996983:=Nat
def tw14870568520251460627:=Nat
def tw14752905303960955972:=Nat
def tw14732579204656570244:=Nat
def tw14552207970458954075:=Nat
def tw14515136550092860254:=Nat
def tw14413952422973672750:=Nat
def tw14273392743581849454:=Nat
def tw14212081238457429128:=Nat
def tw14186116848392964076:=Nat
def tw14126833043856242196:=Nat
def tw14007084767552685400:=Nat
def tw13991387965466230688:=Nat
def tw13941502861772105667:=Nat
def tw13616041986705195627:=Nat
def tw13565028159567100117:=Nat
def tw13500744509898996897:=Nat
def tw13472082774905242482:=Nat
def tw13261457289596273329:=Nat
def tw13167575270972688017:=Nat
def tw13153141909738946684:=Nat
def tw13066973413258870786:=Nat
def tw12872278090343644057:=Nat
def tw12805975627398057372:=Nat
def tw12792846570518632520:=Nat
def tw12715563343794049:=Nat
def tw1267137308045592075:=Nat
def tw12436880730174804324:=Nat
def tw1242650486608245151:=Nat
def tw12308654396338405712:=Nat
def tw12281714802460805526:=Nat
def tw12202691952188649562:=Nat
def tw12078233951532971940:=Nat
def tw11996909956256143747:=Nat
def tw11949164660981615946:=Nat
def tw11894333600490919081:=Nat
def tw11683592864954682103:=Nat
def tw11267078131645418146:=Nat
def tw11250439937266411098:=Nat
def tw11198890373434348519:=Nat
def tw11098339207140664406:=Nat
def tw10990432452164054670:=Nat
def tw10815032314764852125:=Nat
def tw10793109518458629938:=Nat
def tw10745166591984715794:=Nat
def tw10679892788678956085:=Nat
def tw10581109209606719016:=Nat
def tw10567918081807341115:=Nat
def tw10487468874450492847:=Nat
def tw10415092124155316582:=Nat
def tw10242751027131620877:=Nat
def tw10233296676959135211:=Nat
def tw10141145653749839120:=Nat
def tw10138102812491900379:=Nat
def tw10052629427488050837:=Nat
def tw6886664265931932789:=Nat
def tw18003688479089490321:=Nat
def tw4343279769582969773:=Nat
def tw3658330565557961479:=Nat
def tw7326016252523526506:=Nat
def tw556431063513239372:=Nat
def tw647468394375191395:=Nat
def tw935344155158202027:=Nat
def tw8590599972684328914:=Nat
def tw12206198497746961795:=Nat
def tw10715924989988423788:=Nat
def tw546475650577006279:=Nat
def tw13977304842857068256:=Nat
def tw675202218427389868:=Nat
def tw8878106823196473732:=Nat
def tw1160271656980866379:=Nat
def tw8435483924854026382:=Nat
def tw13228291321977845911:=Nat
def tw7203349227645528091:=Nat
def tw2382763993769138977:=Nat
def tw17462961689906811709:=Nat
def tw4566941908999613136:=Nat
def tw3282125011880819296:=Nat
def tw5858454204969837640:=Nat
def tw10690605367340828815:=Nat
def tw16087875507076227374:=Nat
def tw5400059555510606700:=Nat
def tw10579675245609817409:=Nat
def tw14053008062736665882:=Nat
def tw78776140170898563:=Nat
def tw13234972021347687021:=Nat
def tw4506896149038461877:=Nat
def tw3473878322544064614:=Nat
def tw10109879693305534461:=Nat
def tw4566756709708692843:=Nat
def tw13499214505512665992:=Nat
def tw11925872075623675834:=Nat
def tw17868824212187713628:=Nat
def tw4606086607883125653:=Nat
def tw18371461826094695920:=Nat
def tw12501369169637151212:=Nat
def tw3130440686626729853:=Nat
def tw14239220578466046420:=Nat
def tw17016259633103395515:=Nat
def tw14181899055277558688:=Nat
def tw16594412730666832597:=Nat
def tw10456335005028376113:=Nat
def tw567988338228659694:=Nat
def tw10480655826006971666:=Nat
def tw14088796489895090470:=Nat
def tw12579959472983539452:=Nat
def tw16458440989436091264:=Nat
def tw14589913223397767849:=Nat
def tw17854410658172167317:=Nat
def tw15357209437378532779:=Nat
def tw18303819183035859262:=Nat
def tw7882951634479447810:=Nat
def tw2499531251363324611:=Nat
def tw16327005509377453477:=Nat
def tw12796886871724668433:=Nat
def tw4190605003390683057:=Nat
def tw15698856467932814095:=Nat
def tw9409294659414509256:=Nat
def tw392716837576840897:=Nat
def tw2680759874740117690:=Nat
def tw9038932773694791494:=Nat
def tw16592992983748297589:=Nat
def tw11985453859556776979:=Nat
def tw17496487133071826132:=Nat
def tw6896580450136016221:=Nat
def tw12133167044957635282:=Nat
def tw17871501232501488157:=Nat
def tw7691462779405698791:=Nat
def tw16087896780513898657:=Nat
def tw4045656199761704959:=Nat
def tw2972478408679307065:=Nat
def tw1375254346342195421:=Nat
def tw12102276859710392586:=Nat
def tw9816109693839478399:=Nat
def tw16957294282596906831:=Nat
def tw756099262021313844:=Nat
def tw10568248978174339711:=Nat
def tw15834738258097518442:=Nat
def tw9639322636531649916:=Nat
def tw6861273688980997822:=Nat
def tw2752136813533696518:=Nat
def tw5653789518602867238:=Nat
def tw7216888450333282406:=Nat
def tw16849923040777639376:=Nat
def tw14029744179145988074:=Nat
def tw13947169420067737742:=Nat
def tw17933150181352790367:=Nat
def tw940376448009102421:=Nat
def tw17745550235458489292:=Nat
def tw12219314905121038:=Nat
def tw12879729089096055100:=Nat
def tw11893676807174733620:=Nat
def tw8287740507018340729:=Nat
def tw15609115297894151346:=Nat
def tw1373898504042794359:=Nat
def tw3647178975295762237:=Nat
def tw15870832808343682711:=Nat
def tw387647254828646957:=Nat
def tw11502182097625547785:=Nat
def tw5183869566558454828:=Nat
def tw11604228217552964206:=Nat
def tw9659421201089069289:=Nat
def tw16035080982092343849:=Nat
def tw4009628733151669573:=Nat
def tw1680378306585487902:=Nat
def tw1419094338017864865:=Nat
def tw10097909268482994981:=Nat
def tw572378045228527995:=Nat
def tw9697397291379602603:=Nat
def tw11326264819479401905:=Nat
def tw1981279996655738178:=Nat
def tw16930198435300897431:=Nat
def tw17311687934121296016:=Nat
def tw8471962889066862009:=Nat
def tw17791193676273740963:=Nat
def tw1848290816811162697:=Nat
def tw13412099723495463439:=Nat
def tw14058397094953601651:=Nat
def tw16796178881427747179:=Nat
def tw5472368022364927763:=Nat
def tw5888445850848717292:=Nat
def tw3378359508617767830:=Nat
def tw10721949661201837014:=Nat
def tw13891996370713442:=Nat
def tw18158498382562319290:=Nat
def tw11119167650631467857:=Nat
def tw10160612705144943355:=Nat
def tw8363911852015393292:=Nat
def tw4477732474009945854:=Nat
def tw10646128475185538729:=Nat
def tw3362958031633969211:=Nat
def tw12665685144696034191:=Nat
def tw16441294291100688020:=Nat
def tw6594687944820359650:=Nat
def tw14241294064734008059:=Nat
def tw12745696388346850637:=Nat
def tw16112514946176828525:=Nat
def tw5850092575343422238:=Nat
def tw14026045828080265123:=Nat
def tw15962023603586375674:=Nat
def tw17905228433888328771:=Nat
def tw16734955970116032810:=Nat
def tw3513271289669206037:=Nat
def tw17635257768171758082:=Nat
def tw3203623680828882790:=Nat
def tw7156261881376118961:=Nat
def tw8434721910270238558:=Nat
def tw16396894061906693350:=Nat
def tw11876306547197103301:=Nat
def tw4806602403270709585:=Nat
def tw2784647476939720749:=Nat
def tw3998054416943835981:=Nat
def tw7536051386748792339:=Nat
def tw13177709973000948294:=Nat
def tw248422579553267821:=Nat
def tw10295666715760241946:=Nat
def tw484119350968462555:=Nat
def tw8958579898899705463:=Nat
def tw921821623620055207:=Nat
def tw1814684223026384217:=Nat
def tw1088082028291132133:=Nat
def tw6472696124058474396:=Nat
def tw14253785449948667435:=Nat
def tw3777868779857090280:=Nat
def tw6905135467483265214:=Nat
def tw14278654545429557736:=Nat
def tw12428496265086174778:=Nat
def tw1412238173499858171:=Nat
def tw6448208633343443738:=Nat
def tw10606323128569198891:=Nat
def tw6980988124665579177:=Nat
def tw10325748431916600773:=Nat
def tw7996107033354265892:=Nat
def tw2902388420760354050:=Nat
def tw12781290875620357861:=Nat
def tw14288222399852825728:=Nat
def tw9191143967058022691:=Nat
def tw12657565917990553630:=Nat
def tw6849407791250610014:=Nat
end PySem.W.Fast
open PySem PySem.W PyProof.Rows
set_option maxRecDepth 100000 in
set_option maxHeartbeats 0 in
theorem PySem.Challenge.cw_worldfind_k61_what_follows_holds : PySem.Challenge.rw_worldfind_k61_what_follows.Holds := by
 w_on;o_law;k_head;(case hw=>w_witness2)
 k_fill
 refine L2.MS.walk (l:=PySem.Challenge.rw_worldfind_k61_what_follows) (x:= "_law_script") (2*70+1) ⟨rfl,by decide,by decide⟩ rfl rfl (fun w h Y=>PySem.W.kIn_of Y) ?F
 case F=>
  intro w mg fa h KX G hmg
  exact L2.MS.hO M.prog L2.MS.nV L2.MS.nK L2.MS.oz L2.MS.oX L2.MS.Hn L2.MS.Ay 69 KX G hmg (by kernel_rfl) M.fi
