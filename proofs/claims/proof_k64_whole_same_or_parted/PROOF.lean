import PyProof.Rows.All
import Wide.All
import OpenK.AllK
import Wide.FinOn
import Lean
import PyProof.EqAt
import PyProof.EqKinds
import PyProof.TupleCall
import PyProof.NeKinds
import PyProof.NsDelKeeps
import KE.KRevSl
import PyProof.StrWalks
import PyProof.ConsumeWalk
import PyProof.SumWalk
import PyProof.Rows.SortStr
import PyProof.SumWalkG
import PyProof.StrCalls2
import PyProof.StrLawsIdx
import PyProof.WalkInts
import PyProof.StrOps2
import PyProof.SliceStr2
import PyProof.Draws
import PyProof.EnumMake
import PyProof.Rows.SetFrom
import PyProof.SetRoads
import PyProof.WalksMore
import PyProof.ListRange
import PyProof.TupleOfSeq
import PyProof.TupleOfGen
import PyProof.Rows.SortShell
import PyProof.ZipIter
import PyProof.DictStraight
import PyProof.TupleKey
import PyProof.DictRoadsH
import PyProof.DictTruth
import PyProof.Rows.TupTab
import KE.KTabLook
import PyProof.FString
import PyProof.CallStr
import KE.KIntText
import PyProof.Rows.Range3
import PyProof.DictRoads
import PyProof.Rows.StrNews2
import KE.KDictOf
import KE.KMinKey
import PySem.Challenge.RW_worldfind_k64_whole_same_or_parted
set_option Elab.async false
set_option linter.all false
set_option maxRecDepth 100000
set_option compiler.extract_closed false
set_option bootstrap.genMatcherCode false
noncomputable section
open List renaming length_map → Aa, getElem?_eq_some_iff → Aa0, mem_cons_of_mem → Aa2, range → Aa3, getElem?_eq_getElem → Aa4, mem_cons_self → Aa5, length_append → Aa6, length_cons → Aa8, replicate → Ab, mem_append_right → Ab0, map_cons → Ab2, mem_range → Ab4, mem_map → Ab6, lookup_cons → Ab7, mem_cons → Ab8, getElem?_set_self → Ab9, getElem?_map → Ac, size_toArray → Ac0, mem_singleton → Ac3, mem_of_getElem? → Ac4, getD_eq_getElem?_getD → Ac6, mem_append → Ac8, getElem?_append_left → Ac9, mem_append_left → Ad, map_map → Ad1, any_eq_true → Ad2, length_nil → Ad3, set_set → Ad8, getElem?_append_right → Ad9, append_assoc → Ae, map_append → Ae0, length_set → Ae1, length_replicate → Ae2, append_nil → Ae3, getElem?_set_ne → Ae4, nil_append → Ae7, length_range → Ae9, map_nil → Af1, replicate_succ → Af3, length_take → Af6, length_drop → Af7, isEmpty_iff → Af8, flatMap_cons → Ag0, any_cons → Ag9, range_succ_eq_map → Ah3, nodup_cons → Ai, map_congr_left → Ai1, getElem?_replicate → Ai2, not_mem_nil → Ai4, eq_nil_of_length_eq_zero → Ai5, all_eq_true → Ai6, take_of_length_le → Ai7, mem_filter → Ai9, lookup → Aj, length_filter_le → Aj0, nodup_append → Aj3, range_eq_range' → Aj7, filterMap_cons → Aj9, pairwise_cons → Ak2, foldl_cons → Ak3, any_eq_false → Ak7, range'_succ → Al2, mem_flatMap → Al3, getElem_mem → Al4, filter_cons → Al5, all_cons → Al6, range' → Al7, length_zip → Al8, getElem_of_mem → Al9, drop_eq_getElem_cons → Am4, reverse_cons → Am6, getElem?_take_of_lt → Am7, sum_cons → Am9, set_append_right → An2, range_succ → An3, getElem?_toArray → An4, filter_map → An5, all_map → An6, length_reverse → Ao4, Pairwise → Ao7, any_map → Ap2, take_length → Ap5, cons_append → Ap6
open Bool renaming and_eq_true → Aa1, false_ne_true → Ac2, true_and → Ae5, or_eq_true → Ae8, false_and → Af, not_eq_true' → Ag6, and_false → Ah7, false_eq_true → Ak4, eq_false_iff → Ak8, true_or → Am2, not_false → Ao3, or_eq_true_iff → Ao5, not_true → Ao8, not_eq_true → Ap7, noConfusion → Ap8
open Nat renaming le_refl → Aa7, lt_of_lt_of_le → Ab3, le_trans → Ab5, ne_of_lt → Ac7, pow_le_pow_right → Ad0, two_pow_pos → Ad4, testBit_two_pow → Ad7, zero_le → Ae6, testBit_or → Af0, and_two_pow_sub_one_eq_mod → Af4, mul_le_mul → Af5, zero_testBit → Af9, lt_succ_self → Ag, le_of_lt → Ag1, testBit_two_pow_sub_one → Ag3, le_succ → Ag4, not_lt_zero → Ag7, testBit_mod_two_pow → Ah, testBit_div_two_pow → Ah0, testBit_and → Ah2, lt_of_le_of_lt → Ah6, lt_irrefl → Ai3, testBit_lt_two_pow → Ai8, mod_lt → Aj5, eq_of_testBit_eq → Aj8, zero_add → Ak0, testBit_two_pow_self → Ak1, min_eq_left → Ak5, or_lt_two_pow → Ak9, le_of_eq → Al1, div_add_mod → Am, sub_self → Am3, add_sub_cancel_left → An, mul_comm → An8, not_le → Ao, pow_lt_pow_right → Ao1, mul_le_mul_right → Ao2, sub_le → Ap0, le_succ_of_le → Ap1, ne_of_gt → Ap3, add_comm → Ap4
open PySem.W renaming Frag → Aa9, kia_one → Af2, keepIn → Ah5, emptyDict → Ah8, instObj → Ak, findIn → Ak6, plainGet → Am5, cellsFrom_some → Am8, lookIn → An1, plainGet_of → An7, callWith_K → Ao0, kitx_list → Ao6
open PySem.Heap renaming get?_push_of_some → Ab1, lt_size → Ac1, get?_push_size → Ac5, SameBut → Aj1, size_push → Al, get?_update_other → An0
open Int renaming toNat_natCast → Ad5, eq_ofNat_of_zero_le → Ah1, fdiv_eq_ediv_of_nonneg → Am0, emod_nonneg → An9, natCast_nonneg → Ao9, emod_lt_of_pos → Ap
open Option renaming some → Ad6, bind_some → Ag2, map_eq_some_iff → Ag5, bind_eq_some_iff → Ag8, isSome_iff_exists → Ah9, isNone_iff_eq_none → Aj6, getD_some → Al0
open Classical renaming choose_spec → Ah4, byContradiction → Aj2, choose → Aj4, propDecidable → Am1
open Array renaming length_toList → Ai0
open Decidable renaming decide → u9
open Option renaming some → k0, none → y0
open Bool renaming true → u0, false → k9
namespace L2
open PySem PySem.Spec PyProof.Rows
abbrev dj:=Sum Int Str
def m8:dj->Value->Bool
 | .inl k,v=>Value.isInt k v
 | .inr x,v=>Value.isStrOf x v
def HF (w:World):dj->Int
 | .inl k=>hashInt k
 | .inr x=>hashStr w x
def Xd: ∀ {k}{v},m8 k v=u0->(∃ i t,k=Sum.inl i/\v=Value.int i t)\/(∃ x t,k=Sum.inr x/\v=Value.str x t)
 | .inl i,v,h=>by
  obtain⟨t,e⟩:=Value.isInt_shape h
  exact .inl ⟨i,t,rfl,e⟩
 | .inr x,v,h=>by
  obtain⟨t,e⟩:=Value.isStrOf_shape h
  exact .inr ⟨x,t,rfl,e⟩
def Ds (x) (t):m8 (.inr x) (.str x t)=true:=by simp [m8,Value.isStrOf]
def D9 (a b):u9 ((Sum.inl a:dj)=Sum.inl b)=(a==b):=by grind
def Dj (a b):u9 ((Sum.inr a:dj)=Sum.inr b)=u9 (a=b):=by simp
def Bj (a) (b):u9 ((Sum.inl a:dj)=Sum.inr b)=false:=decide_eq_false (λq=>nomatch q)
def Du (a) (b):u9 ((Sum.inr a:dj)=Sum.inl b)=false:=decide_eq_false (λq=>nomatch q)
noncomputable def zE (prog:Program) (w:World):PySem.KeyKind prog w dj where
 is:=m8
 hash:=HF w
 inj:=λv a b f d=>by
  rcases Xd f with⟨i,t,rfl,rfl⟩ | ⟨x,t,rfl,rfl⟩
  .rcases Xd d with⟨j,u,rfl,e⟩ | ⟨y,u,rfl,e⟩
   .injection e with e1 _;rw [e1]
   .exact nomatch e
  .rcases Xd d with⟨j,u,rfl,e⟩ | ⟨y,u,rfl,e⟩
   .exact nomatch e
   .injection e with e1 _;rw [e1]
 byValue:=λk v h=>by
  rcases Xd h with⟨i,t,rfl,rfl⟩ | ⟨x,t,rfl,rfl⟩<;>rfl
 pyHash:=λc h=>by
  rcases Xd c with⟨i,t,rfl,rfl⟩ | ⟨x,t,rfl,rfl⟩
  .exact wpAny_pyHash_int h
  .exact wpAny_pyHash_str h
 eqBool:=λg c h=>by
  rcases Xd g with⟨i,t,rfl,rfl⟩ | ⟨x,t,rfl,rfl⟩
  .rcases Xd c with⟨j,u,rfl,rfl⟩ | ⟨y,u,rfl,rfl⟩
   .rw [D9]at h;exact wpAny_eqBool_int h
   .rw [Bj]at h;exact SeqAt.EqAt.int_str i t y u _ _ _ _ h
  .rcases Xd c with⟨j,u,rfl,rfl⟩ | ⟨y,u,rfl,rfl⟩
   .rw [Du]at h;exact SeqAt.EqAt.str_int x t j u _ _ _ _ h
   .rw [Dj]at h;exact wpAny_eqBool_str h
 «strs» :=λk x t v h=>by
  rcases Xd h with⟨i,u,rfl,e⟩ | ⟨y,u,rfl,e⟩
  .exact nomatch e
  .injection e with e1 _
   subst e1
   cases v<;>rfl
def xm (prog) (w) (x) (t):(zE prog w).is (.inr x) (.str x t)=true:=Ds x t
inductive V where
 | au | bl (b:Bool) | int (i:Int) | str (x:Str) | iB (b:Array UInt8) | g0 (b:UInt64) | ref (a:Addr) | ty (n:String)
 deriving DecidableEq
def RelV:V->Value->Prop
 | .au,u=>u=Value.none
 | .bl b,u=>u=Value.bool b
 | .int i,u=> ∃t,u=Value.int i t
 | .str x,u=> ∃t,u=Value.str x t
 | .iB b,u=> ∃t,u=Value.bytes b t
 | .g0 b,u=> ∃t,u=Value.float b t
 | .ref a,u=>u=Value.ref a
 | .ty n,u=>u=Value.type n
abbrev Vals:List V->List Value->Prop:=Paired RelV
theorem Vals.length (r:Vals xs us):xs.length=us.length:=Paired.length r
theorem Vals.get: ∀ {xs}{us}{i:Nat}{x},Vals xs us->xs[i]? =k0 x-> ∃u,us[i]? =k0 u/\RelV x u
 | _,_,_,_,.nil,e=>by simp at e
 | _,_,0,_,.cons r _,e=>by simp at e;subst e;exact⟨_,rfl,r⟩
 | _,_,i+1,x,.cons _ t,e=>by
  obtain⟨u,a,b⟩:=Vals.get t (by simpa using e)
  exact⟨u,by simpa using a,b⟩
theorem Vals.set (r:RelV x u): ∀ {xs}{j} i,Vals xs j->Vals (xs.set i x) (j.set i u)
 | _,_,_,.nil=> .nil
 | _,_,0,.cons _ t=> .cons r t
 | _,_,i+1,.cons q t=> .cons q (Vals.set r i t)
theorem Vals.append: ∀ {xs ys}{i ws},Vals xs i->Vals ys ws->Vals (xs++ys) (i++ws)
 | _,_,_,_,.nil,s=>s
 | _,_,_,_,.cons r t,s=> .cons r (Vals.append t s)
theorem Vals.take: ∀ {xs}{i}(n),Vals xs i->Vals (xs.take n) (i.take n)
 | _,_,0,_=> .nil
 | _,_,_+1,.nil=> .nil
 | _,_,n+1,.cons r t=> .cons r (Vals.take n t)
theorem Vals.drop: ∀ {xs}{i}(n),Vals xs i->Vals (xs.drop n) (i.drop n)
 | _,_,0,r=>r
 | _,_,_+1,.nil=> .nil
 | _,_,n+1,.cons _ t=>Vals.drop n t
def cx:Option V->Option Value->Prop
 | some v,k0 u=>RelV v u
 | none,none=>True
 | _,_=>False
def KV {a:Type}:List (a×V)->List (a×Value)->Prop:=Paired λ(p:a×V) (q:a×Value)=>p.1=q.1/\RelV p.2 q.2
def kV:dj->V
 | .inl i=> .int i
 | .inr x=> .str x
inductive HO where
 | lst (xs:List V)
 | tup (xs:List V)
 | dK (kvs:List (dj×V)) | dT (kvs:List (List dj×V))
 | set (S:Int->Bool) (n:Nat)
 | ins (C dx:Addr) (fs:List (Str×V))
 | own (x:Addr)
 | xd (fs:List (Str×V))
 | met (f x:Addr)
 | iu (lo hi:Int)
 | eC (o:Obj) (u:HO)
 | ic (ps:Array Value)
 | ext (φ:Heap->Prop)
abbrev Hp:=Addr->Option HO
def aQ (H:Hp) (a:Addr) (o:HO):Hp:=λb=>if b=a then k0 o else H b
def wc :aQ H a o a=k0 o:=by unfold aQ;rw [if_pos rfl]
def Qa (h:b≠a):aQ H a o b=H b:=by unfold aQ;rw [if_neg h]
def Zb {H:Hp}(h:H a=k0 o) (h':H b=y0):a≠b:=by
 intro e;subst e;rw [h]at h';cases h'
def dc (h:Heap) (a:Addr) (b:Array Value):Prop:= ∃o,h.get? a=some o/\o.cls= .type "tuple" /\o.dict=none/\ ∃n,o.data= .seq b n
def dc.is (p:dc h a u8):IsTup h a u8:=let ⟨o,e,c,_,n,d⟩:=p; ⟨o,e,c,n,d⟩
theorem dc.lt (p:dc h a u8):a<h.objs.size:=p.is.lt
def dc.new (h:Heap) (u8):dc (h.push { cls:= .type "tuple",data:= .seq u8 }) h.objs.size u8:=⟨_,Heap.get?_push_size _ rfl,rfl,rfl,_,rfl⟩
section
variable (P:Program) (w:World)
def ba (H:Hp) (h:Heap) (a:Addr):HO->Prop
 | .lst xs=>xs.length<=sizeLine/\ ∃(b:List Value) (n:Nat),Vals xs b/\h.get? a=k0 { cls:= .type "list",data:= .seq b.toArray n }
 | .tup xs=>xs.length<=sizeLine/\ ∃b:List Value,Vals xs b/\dc h a b.toArray
 | .dK kvs=>kvs.length<=sizeLine/\(a==sysModules)=k9/\ ∃d,KV kvs d/\h.DictOf (zE P w) a d
 | .dT kvs=>kvs.length<=sizeLine/\(a==sysModules)=k9/\ ∃xs:List (List dj×Addr×Value),
  Paired (λ(p:List dj×V) (q:List dj×Addr×Value)=>p.1=q.1/\H q.2.1=k0 (.tup (p.1.map kV))/\RelV p.2 q.2.2) kvs xs ∧
  ∃o es e,h.get? a=k0 o/\o.ExactDict/\o.data= .dict es e/\es.toList=xs.map (entryOfKey (tupleKind (zE P w)))/\(xs.map (·.1)).Nodup
 | .set S n=>h.SetOf (intKind P w) a S n
 | .ins C dx fs=>H dx=k0 (.own a)/\fs.length<=1000/\dx≠a/\h.get? a=k0 (Ak C dx) ∧
  ∃mA,h.Ns1 dx mA/\(∀ f,cx (fs.lookup f) (mA f))/\PySem.Within mA (fs.map (·.1))
 | .own _=> ∃o,h.get? a=k0 o
 | .xd fs=> ∃mA,h.Ns1 a mA/\ ∀f,cx (fs.lookup f) (mA f)
 | .iu lo hi=> ∃t u v,h.get? a=k0 { cls:= .type "range",data:= .fields #[.int lo t,.int hi u,.int 1 v] }
 | .eC o u=>h.get? a=k0 o/\ba H h a u
 | .ic ps=>h.get? a=k0 { cls:= .none,data:= .fields ps }
 | .met f x=>h.get? a=k0 (PySem.W.methodObj (.ref f) (.ref x))
 | .ext c=>c h/\(∃ o,h.get? a=k0 o)/\ ∀h1 h2:Heap,c h1->(∀ o,h1.get? a=k0 o->h2.get? a=k0 o)->c h2
def c3 (H:Hp) (h:Heap):Prop:= ∀a o,H a=k0 o->ba P w H h a o
end
section
variable {P:Program}{w:World}{H H':Hp}{h h':Heap}{a:Addr}{o:HO}
theorem ba.lt (x:ba P w H h a o):a<h.objs.size:=by
 cases o with
 | lst c=>obtain⟨_,_,_,_,e⟩:=x;exact Ac1 e
 | tup c=>obtain⟨_,_,_,p⟩:=x;exact p.lt
 | dK b=>obtain⟨_,_,_,_,o,_,_,e,_⟩:=x;exact Ac1 e
 | dT b=>obtain⟨_,_,_,_,o,_,_,e,_⟩:=x;exact Ac1 e
 | set S n=>obtain⟨o,_,_,_,e,_⟩:=x;exact Ac1 e
 | ins C l fs=>obtain⟨_,_,_,e,_⟩:=x;exact Ac1 e
 | own y=>obtain⟨_,e⟩:=x;exact Ac1 e
 | xd fs=>obtain⟨_,⟨_,_,_,e,_⟩,_⟩:=x;exact Ac1 e
 | iu g d=>obtain⟨_,_,_,e⟩:=x;exact Ac1 e
 | eC j u=>obtain⟨e,_⟩:=x;exact Ac1 e
 | ic k=>exact Ac1 (x)
 | met f y=>exact Ac1 (x)
 | ext i=>obtain⟨_,⟨_,e⟩,_⟩:=x;exact Ac1 e
theorem Paired.lh : ∀ {i}{l₂},Paired F i l₂->(∀ a b,F a b->G a b)->Paired G i l₂
 | _,_,.nil,_=> .nil
 | _,_,.cons r t,f=> .cons (f _ _ r) (Paired.lh t f)
def ba.dQ (x:ba P w H h a o) (k: ∀b u,(b=a\/H b=k0 (.own a))->h.get? b=k0 u->h'.get? b=k0 u)
 (G: ∀b,H b=k0 (.own a)->H' b=k0 (.own a)) (F: ∀b xs,H b=k0 (.tup xs)->H' b=k0 (.tup xs)):ba P w H' h' a o:=by
 induction o with
 | lst xs=>obtain⟨z,l,n,r,e⟩:=x;exact⟨z,l,n,r,k _ _ (.inl rfl) e⟩
 | tup xs=>obtain⟨z,l,r,g,e,c⟩:=x;exact⟨z,l,r,g,k _ _ (.inl rfl) e,c⟩
 | dK s=>obtain⟨z,y,D,r,g,i,j,e,c⟩:=x;exact⟨z,y,D,r,g,i,j,k _ _ (.inl rfl) e,c⟩
 | dT s=>
  obtain⟨z,y,xs,r,g,i,j,e,c⟩:=x
  exact⟨z,y,xs,Paired.lh r λp q z=>⟨z.1,F _ _ z.2.1,z.2.2⟩,g,i,j,k _ _ (.inl rfl) e,c⟩
 | set S n=>obtain⟨g,i,j,t,e,c⟩:=x;exact⟨g,i,j,t,k _ _ (.inl rfl) e,c⟩
 | ins C M fs=>
  obtain⟨d,z,ne,e,m,⟨A,i,j,e2,c⟩,r⟩:=x
  exact⟨G _ d,z,ne,k _ _ (.inl rfl) e,m,⟨A,i,j,k _ _ (.inr d) e2,c⟩,r⟩
 | own y=>obtain⟨g,e⟩:=x;exact⟨g,k _ _ (.inl rfl) e⟩
 | xd fs=>obtain⟨m,⟨A,i,j,e,c⟩,r⟩:=x;exact⟨m,⟨A,i,j,k _ _ (.inl rfl) e,c⟩,r⟩
 | iu J I=>obtain⟨t,u,v,e⟩:=x;exact⟨t,u,v,k _ _ (.inl rfl) e⟩
 | eC g u E=>obtain⟨e,q⟩:=x;exact⟨k _ _ (.inl rfl) e,E q⟩
 | ic L=>
  have e:=x
  exact k a _ (.inl rfl) e
 | met f y=>
  have e:=x
  exact k a _ (.inl rfl) e
 | ext K=>obtain⟨p,⟨o,e⟩,B⟩:=x;exact⟨B _ _ p λo q=>k _ _ (.inl rfl) q,⟨o,k _ _ (.inl rfl) e⟩,B⟩
theorem c3.lt (x:c3 P w H h) (e:H a=k0 o):a<h.objs.size:=(x a o e).lt
def c3.fresh (x:c3 P w H h) (e:h.objs.size<=a):H a=none:=by
 cases q:H a with
 | none=>rfl
 | some u=>exact absurd (Ab3 (x.lt q) e) (Ai3 _)
def c3.kept (x:c3 P w H h) (k: ∀b u,h.get? b=k0 u->h'.get? b=k0 u):c3 P w H h':=λa o e=>
 (x a o e).dQ (λb u _ q=>k b u q) (λ_ q=>q) λ_ _ q=>q
def c3.laid (x:c3 P w H h) (k: ∀b u,h.get? b=k0 u->h'.get? b=k0 u) (g:h.objs.size<=a) (new:ba P w (aQ H a o) h' a o):c3 P w (aQ H a o) h':=λb u e=>by
 have d:=x.fresh g
 by_cases f:b=a
 .subst f;rw [wc]at e;cases e;exact new
 .rw [Qa f]at e
  exact(x b u e).dQ (λc v _ q=>k c v q) (λc q=>by rw [Qa (Zb q d)];exact q) λc i q=>by rw [Qa (Zb q d)];exact q
end
def Rd (H:Hp) (a:Addr) (u:HO):Prop:=H a=k0 u\/ ∃o,H a=k0 (.eC o u)
def Rd.ok (r:Rd H a u) (x:c3 P w H h):ba P w H h a u:=by
 obtain r | ⟨o,r⟩:=r
 .exact x a u r
 .obtain⟨_,q⟩:=x a _ r
  exact q
def my:Option HO->Prop
 | some (.lst _)=>True
 | some (.dK _)=>True
 | some (.dT _)=>True
 | some (.set _ _)=>True
 | some (.ins _ _ _)=>True
 | some (.ext _)=>True
 | _=>False
section
variable {P:Program}{w:World}{H:Hp}{h h':Heap}{x e:Addr}{o':HO}
def c3.write (ok:c3 P w H h) (l:my (H x)) (o:e=x\/H e=k0 (.own x)) (k: ∀b u,b≠e->h.get? b=k0 u->h'.get? b=k0 u) (m: ∃u,h'.get? e=k0 u)
 (new:ba P w (aQ H x o') h' x o'):c3 P w (aQ H x o') h':=λb u q=>by
 have d: ∀c y,H c=k0 (.own y)->c≠x:=λc y r z=>by subst z;rw [r]at l;exact l
 have f: ∀c g,H c=k0 (.tup g)->c≠x:=λc g r z=>by subst z;rw [r]at l;exact l
 by_cases i:b=x
 .subst i;rw [wc]at q;cases q;exact new
 .rw [Qa i]at q
  by_cases a:b=e
  .have n:H b=k0 (.own x):=by
    obtain z | z:=o
    .exact absurd (a.trans z) i
    .rw [a];exact z
   rw [q]at n;cases n
   obtain⟨v,p⟩:=m
   exact⟨v,by rw [a];exact p⟩
  .refine(ok b u q).dQ (λc v j r=>k c v ?_ r) (λc r=>by rw [Qa (d c b r)];exact r) λc g r=>by rw [Qa (f c g r)];exact r
   obtain rfl | j:=j
   .exact a
   .rintro rfl
    obtain z | z:=o
    .exact d c b j z
    .rw [j]at z;cases z;exact i rfl
end
structure Un (fs ex:List Addr) (H H':Hp) (h h':Heap):Prop where
 keep: ∀b o,h.get? b=k0 o->H b=y0->b∉fs->b∉ex->h'.get? b=k0 o
 slot: ∀b o,h.get? b=k0 o->H b=y0->b∈fs->b∉ex-> ∃sl,h'.get? b=k0 { o with slots:=sl }
 free: ∀b o,h.get? b=k0 o->H b=y0->b∉ex->H' b=y0
 there: ∀b o,h.get? b=k0 o->b∉ex-> ∃o',h'.get? b=k0 o'
 eN: ∀b xs,H b=k0 (.tup xs)->H' b=k0 (.tup xs)
 d7: ∀b o u,H b=k0 (.eC o u)->H' b=k0 (.eC o u)
 eI: ∀b ps,H b=k0 (.ic ps)-> ∃more,H' b=k0 (.ic (ps++more))
section
variable {fs fs' ex ex':List Addr}{H H1 H2:Hp}{h h1 h2 h':Heap}{a x e:Addr}{o:HO}
def Un.any (u:Un fs ex H H1 h h1)(q:h.get? b=k0 ob) (n:H b=y0) (a:b∉ex): ∃sl,h1.get? b=k0 { ob with slots:=sl }:=by
 by_cases c:b∈fs
 .exact u.slot b ob q n c a
 .exact⟨ob.slots,u.keep b ob q n c a⟩
def Un.kept (k: ∀b u,h.get? b=k0 u->h'.get? b=k0 u):Un fs ex H H h h':=
 ⟨λb a q _ _ _=>k b a q,λb a q _ _ _=>⟨a.slots,k b a q⟩,λ_ _ _ n _=>n,λb a q _=>⟨a,k b a q⟩,λ_ _ q=>q,λ_ _ _ q=>q,λ_ c q=>⟨#[],by rw [q];simp⟩⟩
def Un.refl:Un fs ex H H h h:=Un.kept λ_ _ q=>q
def Un.laid (k: ∀b u,h.get? b=k0 u->h'.get? b=k0 u) (e:h.objs.size<=a) (c:H a=y0):Un fs ex H (aQ H a o) h h' where
 keep:=λb u q _ _ _=>k b u q
 slot:=λb u q _ _ _=>⟨u.slots,k b u q⟩
 free:=λb u q n _=>by rw [Qa (Ac7 (Ab3 (Ac1 q) e))];exact n
 there:=λb u q _=>⟨u,k b u q⟩
 eN:=λb d q=>by rw [Qa (Zb q c)];exact q
 d7:=λb u d q=>by rw [Qa (Zb q c)];exact q
 eI:=λb f q=>⟨#[],by rw [Qa (Zb q c),q];simp⟩
def Un.write (c:my (H x)) (l:e=x\/H e=k0 (.own x)) (k: ∀b u,b≠e->h.get? b=k0 u->h'.get? b=k0 u) (d: ∃u,h'.get? e=k0 u):Un fs ex H (aQ H x o) h h':=by
 have g: ∀b,H b=y0->b≠x:=λb n z=>by subst z;rw [n]at c;exact c
 have i: ∀b,H b=y0->b≠e:=λb n z=>by
  subst z
  obtain r | r:=l
  .exact g b n r
  .rw [n]at r;cases r
 have f: ∀b u,H b=k0 u-> ¬my (k0 u)->b≠x:=λb u q nm z=>by subst z;rw [q]at c;exact nm c
 refine⟨λb u q n _ _=>k b u (i b n) q,λb u q n _ _=>⟨u.slots,k b u (i b n) q⟩,λb u q n _=>by rw [Qa (g b n)];exact n,λb u q _=> ?_,
  λb j q=>by rw [Qa (f b _ q λz=>z)];exact q,λb u j q=>by rw [Qa (f b _ q λz=>z)];exact q,λb m q=>⟨#[],by rw [Qa (f b _ q λz=>z),q];simp⟩⟩
 by_cases a:b=e
 .subst a;exact d
 .exact⟨u,k b u a q⟩
end
def u1 (h:Heap) (H:Hp):List Addr:=(Aa3 h.objs.size).filter λa=>(H a).isSome
def kq (h:Heap) (H:Hp):Heap:=PySem.W.hideAll h (u1 h H)
def FP (h) (H):(kq h H).objs.size=h.objs.size:=PySem.W.hideAll_size _ _
def Fz (e:h.get? b=k0 o) (n:H b=y0):(kq h H).get? b=k0 o:=
 PySem.W.hideAll_get _ e λa=>by
  have q:=(Ai9.mp a).2
  rw [n]at q;simp at q
def B4 (e:(kq h H).get? b=k0 o):h.get? b=k0 o/\H b=none:=by
 have a:=PySem.W.of_hideAll _ e
 refine⟨a,?_⟩
 cases q:H b with
 | none=>rfl
 | some x=>
  have c:b∈u1 h H:=Ai9.mpr ⟨Ab4.mpr (Ac1 a),by simp [q]⟩
  have z:(kq h H).get? b=none:=PySem.W.hideAll_none _ c
  rw [z]at e;cases e
noncomputable def Fj (g h:Heap) (L:Addr):List (Addr×Obj):=(Aa3 h.objs.size).filterMap λa=>if a=L\/(g.get? a).isSome=u0 then y0 else(h.get? a).map λo=>(a,o)
def Zp (g h:Heap) (L d:Addr):List (Addr×Obj):=(Fj g h L).filter λp=>u9 (p.1≠d)
structure Mod (K:Aa9) (mg:Str->Option Value) (base:Heap):Prop where
 ll:K.In base
 glob:base.Ns mainGlobals mg
 blt: ∃mb,base.Ns builtinsNs mb/\ ∀x:Str,x≠ "__name__" ->mb x=bootBuiltins x
 nolimit:base.NoLimit
structure Cx where
 prog:Program
 w:World
 K:Aa9
 mg:Str->Option Value
 base:Heap
 A:Around
 N:List Str
 s₀:Shared
 H₀:Hp
 env:Env
 outer:List Env
 stack:List Env
 ex:List Addr
 fn:Str->Bool
 calm:Bool
 pn:List (Addr×Obj)
 xe:Value->Shared->Prop
def fA (l:List Env):List Addr:=l.filterMap (·.frame)
abbrev Cx.fs (X:Cx):List Addr:=fA X.outer
def mv (sc:Scope) (x:Str):Prop:=sc.names.lookup x=k0 .local\/sc.names.lookup x=k0 .cell\/sc.names.lookup x=k0 .free
def kz (sc:Scope) (x:Str):Prop:=sc.names.lookup x=k0 .local\/sc.names.lookup x=k0 .cell
def LZ (env:Env) (h:Heap) (m:Str->Option Value) (x:Str) (u:Value):Prop:=
 (env.kindOf x=k0 .local/\m x=k0 u)\/((env.kindOf x=k0 .cell\/env.kindOf x=k0 .free)/\ ∃c,env.cells.lookup x=k0 c/\h.IsCell c (k0 u))
structure Cx.Ok (X:Cx):Prop where
 mod:Mod X.K X.mg X.base
 kind:X.env.scope.kind= .function
 glob:X.env.globals=mainGlobals
 blt:X.env.builtins=builtinsNs
 above:X.s₀.heap.objs.size<=X.env.locals
 inj: ∀x y c,X.env.cells.lookup x=k0 c->X.env.cells.lookup y=k0 c->x=y
 has: ∀x,(X.env.kindOf x=k0 .cell\/X.env.kindOf x=k0 .free)-> ∃c,X.env.cells.lookup x=k0 c
 n8: ∀x c,X.fn x=u0->X.env.cells.lookup x=k0 c->X.s₀.heap.objs.size<=c
 hd:X.calm=u0->X.A.handled=y0
 frames:X.A.frames=k0 X.stack
 m9:X.stack=X.outer\/(X.stack=X.env::X.outer/\X.env.frame=k0 X.env.locals)
 sg: ∀b∈X.ex,b≠X.env.locals/\ ∀x c,X.env.cells.lookup x=k0 c->c≠b
 bs: ∀b o,X.base.get? b=k0 o->X.s₀.heap.get? b=k0 o/\X.H₀ b=y0
 hG:X.base.objs.size<=X.s₀.heap.objs.size
 iE: ∀b o,X.base.get? b=k0 o->b∉X.ex
 i9: ∀b∈X.ex,b∉X.fs
 di:X.s₀.heap.FunFrames X.base X.outer
 kv: ∀b∈X.fs,X.H₀ b=y0
structure Inv (X:Cx) (pins:List (Addr×Obj)) (U:List (Option V)) (H:Hp) (s:Shared):Prop where
 ok:X.Ok
 os:s.os=X.s₀.os
 bare:AllBare s.gens
 base:Un X.fs X.ex X.H₀ H X.s₀.heap s.heap
 loc: ∃m,s.heap.Ns X.env.locals m/\ ∀(i:Nat) (x:Str) (v:V),X.N[i]? =k0 x->U[i]? =k0 (k0 v)->mv X.env.scope x-> ∃u,RelV v u/\LZ X.env s.heap m x u
 cell: ∀x c,X.env.cells.lookup x=k0 c-> ∃v,s.heap.IsCell c v
 free:H X.env.locals=y0
 cD: ∀x c,X.env.cells.lookup x=k0 c->H c=y0
 pin: ∀p∈X.pn++pins,s.heap.get? p.1=k0 p.2/\H p.1=y0/\p.1≠X.env.locals/\p.1∉X.fs/\ ∀v,p.2.data≠ .cell v
 a0:c3 X.prog X.w H s.heap
 len:U.length=X.N.length
section
variable {X:Cx}{pins:List (Addr×Obj)}{U:List (Option V)}{H H':Hp}{s:Shared}{h':Heap}
def Cx.Ok.px (ok:X.Ok)(e:X.base.get? b=k0 o):b∉X.fs:=λa=>by
 have:=(ok.di.mem a).1
 rw [e]at this;cases this
theorem Inv.bs (I:Inv X pins U H s): ∀b o,X.base.get? b=k0 o->s.heap.get? b=k0 o/\H b=none:=λb o e=>
 ⟨I.base.keep b o (I.ok.bs b o e).1 (I.ok.bs b o e).2 (I.ok.px e) (I.ok.iE b o e),I.base.free b o (I.ok.bs b o e).1 (I.ok.bs b o e).2 (I.ok.iE b o e)⟩
def Inv.bk (I:Inv X pins U H s): ∀b o,X.base.get? b=k0 o->s.heap.get? b=k0 o:=λb o e=>(I.bs b o e).1
theorem Inv.mod (I:Inv X pins U H s):Mod X.K X.mg X.base:=I.ok.mod
def Inv.cw (I:Inv X pins U H s):X.K.In s.heap:=I.ok.mod.ll.keeps I.bk
theorem Inv.lt (I:Inv X pins U H s):X.env.locals<s.heap.objs.size:=let ⟨_,a,_⟩:=I.loc;a.lt
def Inv.sz (I:Inv X pins U H s):X.s₀.heap.objs.size<=s.heap.objs.size:=Ab5 I.ok.above (Ag1 I.lt)
def Inv.oN (I:Inv X pins U H s)(h:s.heap.objs.size<=a):a∉X.fs:=λc=>by
 obtain⟨_,o,b,_⟩:=I.ok.di.mem c
 exact absurd (Ab3 (Ac1 b) (Ab5 I.sz h)) (Ai3 _)
def Inv.i6 (I:Inv X pins U H s): ∀x c,X.env.cells.lookup x=k0 c->c≠X.env.locals:=λx c e z=>by
 obtain⟨v,o,d,f⟩:=I.cell x c e
 obtain⟨m,⟨g,i,h,b,a,_⟩,_⟩:=I.loc
 rw [z,b]at d;cases d;rw [a]at f;cases f
theorem Inv.di (I:Inv X pins U H s):s.heap.FunFrames X.base X.outer:=by
 have all: ∀ l,(∀ b∈fA l,b∈X.fs)->X.s₀.heap.FunFrames X.base l->s.heap.FunFrames X.base l:=by
  intro l
  induction l with
  | nil=>intro _ _;trivial
  | cons m r j=>
   intro f g
   obtain⟨h,⟨L,o,c,k,n,p⟩,i⟩:=g
   have d:=f L (by unfold fA;rw [Aj9,c];exact Aa5)
   obtain⟨sl,e⟩:=I.base.slot L o n (I.ok.kv L d) d λz=>I.ok.i9 L z d
   exact⟨h,⟨L,_,c,k,e,p⟩,j (λb a=>f b (by unfold fA;rw [Aj9,c];exact Aa2 _ a)) i⟩
 exact all X.outer (λ_ a=>a) I.ok.di
theorem Inv.stack (I:Inv X pins U H s):s.heap.FunFrames X.base X.stack:=by
 obtain e | ⟨e,a⟩:=I.ok.m9
 .rw [e];exact I.di
 .rw [e]
  obtain⟨m,b,_⟩:=I.loc
  refine .cons (by rw [I.ok.kind];decide) a b ?_ I.di
  exact Heap.get?_none_of_le (Ab5 I.ok.hG I.ok.above)
def Inv.dD (I:Inv X pins U H s): ∀b∈fA X.stack,b∈X.env.locals::X.fs:=λb a=>by
 obtain e | ⟨e,c⟩:=I.ok.m9
 .rw [e]at a;exact Aa2 _ a
 .rw [e]at a
  unfold fA at a
  rw [Aj9,c]at a
  exact a
def Inv.eO (I:Inv X pins U H s): ∀b∈fA X.stack,H b=none:=λb a=>by
 rcases Ab8.mp (I.dD b a)with e | a
 .rw [e];exact I.free
 .obtain⟨_,o,c,_⟩:=I.ok.di.mem a
  exact I.base.free b o c (I.ok.kv b a) λz=>I.ok.i9 b z a
def Inv.step {ch:List Addr}(I:Inv X pins U H s)
 (g: ∀b∈ch,(b∈X.ex\/X.s₀.heap.objs.size<=b)/\b≠X.env.locals/\(∀ x c,X.env.cells.lookup x=k0 c->c≠b)/\ ∀p∈X.pn++pins,p.1≠b)
 (keep: ∀b o,b≠X.env.locals->b∉X.fs->b∉ch->s.heap.get? b=k0 o->H b=y0->h'.get? b=k0 o)
 (w: ∀b o,b≠X.env.locals->b∈X.fs->b∉ch->s.heap.get? b=k0 o->H b=y0-> ∃sl,h'.get? b=k0 { o with slots:=sl }) (f: ∀b o,b∉ch->s.heap.get? b=k0 o->H b=y0->H' b=y0)
 (there: ∀b o,b∉ch->s.heap.get? b=k0 o-> ∃o',h'.get? b=k0 o')
 (D: ∀b xs,H b=k0 (.tup xs)->H' b=k0 (.tup xs)) (C: ∀b o u,H b=k0 (.eC o u)->H' b=k0 (.eC o u)) (E: ∀b ps,H b=k0 (.ic ps)-> ∃more,H' b=k0 (.ic (ps++more)))
 (ns: ∀m,s.heap.Ns X.env.locals m->h'.Ns X.env.locals m) (J:c3 X.prog X.w H' h') (R:AllBare g'):
 Inv X pins U H' { s with heap:=h',gens:=g',drawn:=d',toks:=t' }:=by
 have B: ∀b o,X.s₀.heap.get? b=k0 o->b≠X.env.locals:=λb o e=>Ac7 (Ab3 (Ac1 e) I.ok.above)
 have t: ∀b o,X.s₀.heap.get? b=k0 o->b∉X.ex->b∉ch:=λb o e a y=>by
  obtain z | z:=(g b y).1
  .exact a z
  .exact absurd (Ab3 (Ac1 e) z) (Ai3 _)
 have j: ∀x c,X.env.cells.lookup x=k0 c-> ∀v,s.heap.IsCell c v->h'.IsCell c v:=by
  rintro x c e v ⟨o,A,G⟩
  have h:=λz=>(g c z).2.2.1 x c e rfl
  by_cases L:c∈X.fs
  .obtain⟨sl,q⟩:=w c o (I.i6 x c e) L h A (I.cD x c e)
   exact⟨_,q,G⟩
  .exact⟨o,keep c o (I.i6 x c e) L h A (I.cD x c e),G⟩
 refine⟨I.ok,I.os,R,⟨λb o e n y a=> ?_,λb o e n y a=> ?_,λb o e n a=> ?_,λb o e a=> ?_,λb xs e=>D b xs (I.base.eN b xs e),λb o xs e=>C b o xs (I.base.d7 b o xs e),λb ps e=> ?_⟩,?_,λx c e=> ?_,?_,λx c e=> ?_,λp K=> ?_,J,I.len⟩
 .exact keep b o (B b o e) y (t b o e a) (I.base.keep b o e n y a) (I.base.free b o e n a)
 .obtain⟨sl,e1⟩:=I.base.slot b o e n y a
  obtain⟨F,e2⟩:=w b _ (B b o e) y (t b o e a) e1 (I.base.free b o e n a)
  exact⟨F,e2⟩
 .obtain⟨o',e1⟩:=I.base.there b o e a
  exact f b o' (t b o e a) e1 (I.base.free b o e n a)
 .obtain⟨o',e1⟩:=I.base.there b o e a
  exact there b o' (t b o e a) e1
 .obtain⟨S,e1⟩:=I.base.eI b ps e
  obtain⟨P,e2⟩:=E b _ e1
  exact⟨S++P,by rw [e2,Array.append_assoc]⟩
 .obtain⟨m,Q,O⟩:=I.loc
  refine⟨m,ns m Q,λi x v e1 e2 N=> ?_⟩
  obtain⟨u,r,l⟩:=O i x v e1 e2 N
  refine⟨u,r,?_⟩
  obtain l | ⟨k,c,e,z⟩:=l
  .exact .inl l
  .exact .inr ⟨k,c,e,j x c e _ z⟩
 .obtain⟨v,z⟩:=I.cell x c e
  exact⟨v,j x c e v z⟩
 .obtain⟨m,⟨o,_,_,A,_⟩,_⟩:=I.loc
  exact f _ o (λz=>(g _ z).2.1 rfl) A I.free
 .obtain⟨v,o,A,G⟩:=I.cell x c e
  exact f c o (λz=>(g c z).2.2.1 x c e rfl) A (I.cD x c e)
 .obtain⟨e,n,ne,M,d⟩:=I.pin p K
  have h:=λz=>(g p.1 z).2.2.2 p K rfl
  exact⟨keep p.1 p.2 ne M h e n,f p.1 p.2 h e n,ne,M,d⟩
def Inv.un (I:Inv X pins U H s) (u:Un X.fs [] H H' s.heap h') (f:c3 X.prog X.w H' h'):Inv X pins U H' { s with heap:=h',toks:=t' }:=by
 obtain⟨m,⟨o,p,t,h,r⟩,_⟩:=id I.loc
 obtain⟨sl,j⟩:=u.any h I.free (by simp)
 exact I.step (ch:= []) (λ_ z=>nomatch z) (λb o _ c _ e n=>u.keep b o e n c (by simp)) (λb o _ c _ e n=>u.slot b o e n c (by simp)) (λb o _ e n=>u.free b o e n (by simp)) (λb o _ e=>u.there b o e (by simp)) u.eN u.d7 u.eI (λl i=>by
  obtain⟨q,d,g,a,k⟩:=i
  rw [h]at a;cases a
  exact⟨_,d,g,j,k⟩) f I.bare
def Inv.call (I:Inv X pins U H s) (u:Un (fA X.stack) ch H H' s.heap h') (i:c3 X.prog X.w H' h') (t:AllBare g')
 (d: ∀b∈ch,(b∈X.ex\/X.s₀.heap.objs.size<=b)/\b≠X.env.locals/\(∀ x c,X.env.cells.lookup x=k0 c->c≠b)/\ ∀p∈X.pn++pins,p.1≠b):
 Inv X pins U H' { s with heap:=h',gens:=g',drawn:=d',toks:=t' }:=by
 obtain⟨m,⟨o,y,B,k,r⟩,_⟩:=id I.loc
 obtain⟨sl,h⟩:=u.any k I.free λz=>(d _ z).2.1 rfl
 exact I.step d (λb o h l a e n=>u.keep b o e n (λz=>(Ab8.mp (I.dD b z)).elim h l) a) (λb o _ _ a e n=>u.any e n a) (λb o a e n=>u.free b o e n a) (λb o a e=>u.there b o e a) u.eN u.d7 u.eI (λw q=>by
  obtain⟨A,g,j,f,v⟩:=q
  rw [k]at f;cases f
  exact⟨_,g,j,h,v⟩) i t
def Inv.turned (I:Inv X pins U H s) (k: ∀b o,b≠it->s.heap.get? b=k0 o->h'.get? b=k0 o) (i:H it=y0) (f:it≠X.env.locals)
 (h1:it∈X.ex\/X.s₀.heap.objs.size<=it) (w: ∀x c,X.env.cells.lookup x=k0 c->c≠it) (l: ∀p∈X.pn++pins,p.1≠it):Inv X pins U H { s with heap:=h',toks:=t' }:=by
 have d: ∀b u,H b=k0 u->b≠it:=λb u e z=>by rw [z,i]at e;cases e
 refine I.step (ch:= [it]) (λb h=> ?_) (λb o _ _ a e _=>k b o (λz=>a (by simp [z])) e) (λb o _ _ a e _=>⟨o.slots,k b o (λz=>a (by simp [z])) e⟩) (λ_ _ _ _ n=>n)
  (λb o a e=>⟨o,k b o (λz=>a (by simp [z])) e⟩) (λ_ _ e=>e) (λ_ _ _ e=>e) (λb A e=>⟨#[],by rw [e];simp⟩) (λm j=> ?_) (λb u e=> ?_) I.bare
 .have e:=by simpa using h
  subst e
  exact⟨h1,f,w,l⟩
 .obtain⟨o,g,y,t,r⟩:=j
  exact⟨o,g,y,k _ o (Ne.symm f) t,r⟩
 .refine(I.a0 b u e).dQ (λc v a q=>k c v ?_ q) (λ_ q=>q) λ_ _ q=>q
  obtain z | z:=a
  .rw [z];exact d b u e
  .exact d c _ z
def Inv.tok (I:Inv X pins U H s) (t):Inv X pins U H { s with toks:=t }:=I.un Un.refl I.a0
theorem Inv.kept (I:Inv X pins U H s) (k: ∀b u,s.heap.get? b=k0 u->h'.get? b=k0 u):Inv X pins U H { s with heap:=h',toks:=t' }:=I.un (Un.kept k) (I.a0.kept k)
theorem Inv.laid (I:Inv X pins U H s) (k: ∀b u,s.heap.get? b=k0 u->h'.get? b=k0 u) (c:s.heap.objs.size<=a) (new:ba X.prog X.w (aQ H a o) h' a o):
 Inv X pins U (aQ H a o) { s with heap:=h',toks:=t' }:=I.un (Un.laid k c (I.a0.fresh c)) (I.a0.laid k c new)
theorem Inv.write (I:Inv X pins U H s) (c:my (H x)) (d:e=x\/H e=k0 (.own x)) (k: ∀b u,b≠e->s.heap.get? b=k0 u->h'.get? b=k0 u) (a: ∃u,h'.get? e=k0 u)
 (new:ba X.prog X.w (aQ H x o) h' x o):Inv X pins U (aQ H x o) { s with heap:=h',toks:=t' }:=I.un (Un.write c d k a) (I.a0.write c d k a new)
def Inv.bR (I:Inv X pins U H s) (h: ∀p∈pins',s.heap.get? p.1=k0 p.2/\H p.1=y0/\p.1≠X.env.locals/\p.1∉X.fs/\ ∀v,p.2.data≠ .cell v):Inv X pins' U H s:=
 ⟨I.ok,I.os,I.bare,I.base,I.loc,I.cell,I.free,I.cD,λp a=>(Ac8.mp a).elim (λz=>I.pin p (Ad _ z)) (h p),I.a0,I.len⟩
def uT {N:List Str}(c:N.Nodup){i j:Nat}(a:N[i]? =k0 x) (b:N[j]? =k0 x):i=j:=by
 obtain⟨d,e1⟩:=Aa0.mp a
 obtain⟨e,e2⟩:=Aa0.mp b
 exact(List.getElem_inj c).mp (e1.trans e2.symm)
def FL (I:Inv X pins U H s) (hN:X.N.Nodup) (J:X.N[i]? =k0 x) (t:kz X.env.scope x) (r:RelV v u)
 (h: ∀s',Inv X pins (U.set i (k0 v)) H s'->(∃ a,Aj1 a s.heap s'.heap/\(a=X.env.locals\/X.env.cells.lookup x=k0 a))->Q () s') (hf:X.fn x=u0\/X.env.scope.names.lookup x=k0 .local:=by first | exact .inl rfl | exact .inr rfl | assumption):wpAny M A (storeName X.env x u) Q E s:=by
 obtain⟨m,hn,hl⟩:=id I.loc
 have L:(X.env.scope.kind== .class||(X.env.scope.kind== .module&&X.env.locals != X.env.globals))=false:=by rw [I.ok.kind];rfl
 have R:i<U.length:=by rw [I.len];exact(Aa0.mp J).1
 have i6:=I.i6
 have g: ∀ {a}{G},(∃ o,s.heap.get? a=k0 o/\H a=y0)->Aj1 a s.heap G->c3 X.prog X.w H G:=λ{a G} ha f b ob e=>by
  obtain⟨_,_,w⟩:=ha
  refine(I.a0 b ob e).dQ (λc T l q=>(f.2 c ?_).trans q) (λ_ q=>q) λ_ _ q=>q
  rintro rfl
  rcases l with rfl | l
  .rw [w]at e;cases e
  .rw [w]at l;cases l
 rcases t with B | B
 .refine wpAny_storeName_local B hn (λG W f=> ?_) L
  obtain⟨oL,_,_,hoL,_⟩:=id hn
  refine h _ ⟨I.ok,I.os,I.bare,⟨λb o e n C t=> ?_,λb o e n C t=> ?_,I.base.free,λb o e t=> ?_,I.base.eN,I.base.d7,I.base.eI⟩,⟨_,W,λj y Z e1 e2 V=> ?_⟩,λy c e=> ?_,I.free,I.cD,λp Y=> ?_,g ⟨oL,hoL,I.free⟩ f,by simpa using I.len⟩ ⟨_,f,.inl rfl⟩
  .exact(f.2 b (Ac7 (Ab3 (Ac1 e) I.ok.above))).trans (I.base.keep b o e n C t)
  .obtain⟨sl,e1⟩:=I.base.slot b o e n C t
   exact⟨sl,(f.2 b (Ac7 (Ab3 (Ac1 e) I.ok.above))).trans e1⟩
  .obtain⟨o',e1⟩:=I.base.there b o e t
   exact⟨o',(f.2 b (Ac7 (Ab3 (Ac1 e) I.ok.above))).trans e1⟩
  .by_cases F:j=i
   .subst F
    rw [J]at e1;cases e1
    rw [Ab9 R]at e2
    cases e2
    exact⟨u,r,.inl ⟨B,by simp⟩⟩
   .rw [Ae4 (Ne.symm F)]at e2
    obtain⟨u',r',q⟩:=hl j y Z e1 e2 V
    refine⟨u',r',?_⟩
    rcases q with⟨k,e⟩ | ⟨k,c,e,z⟩
    .refine .inl ⟨k,?_⟩
     have:y≠x:=λe=>F (uT hN e1 (e▸J))
     simp [this,e]
    .exact .inr ⟨k,c,e,z.sameBut f (i6 y c e)⟩
  .obtain⟨T,z⟩:=I.cell y c e
   exact⟨T,z.sameBut f (i6 y c e)⟩
  .obtain⟨e,n,ne,nf,d⟩:=I.pin p Y
   exact⟨(f.2 p.1 ne).trans e,n,ne,nf,d⟩
 .have D:X.fn x=true:=by
   rcases hf with z | z
   .exact z
   .rw [z]at B;cases B
  obtain⟨c,l⟩:=I.ok.has x (.inl B)
  obtain⟨T,z⟩:=I.cell x c l
  refine wpAny_storeName_cell I.ok.kind B l z (λG K f=> ?_)
  obtain⟨oc,N,P⟩:=id z
  refine h { s with heap:=G } ⟨I.ok,I.os,I.bare,⟨λb o e n C t=> ?_,λb o e n C t=> ?_,I.base.free,λb o e t=> ?_,I.base.eN,I.base.d7,I.base.eI⟩,⟨m,hn.sameBut f (Ne.symm (i6 x c l)),λj y Z e1 e2 V=> ?_⟩,λy S e=> ?_,I.free,I.cD,λp Y=> ?_,g ⟨oc,N,I.cD x c l⟩ f,by simpa using I.len⟩ ⟨c,f,.inr l⟩
  .exact(f.2 b (Ac7 (Ab3 (Ac1 e) (I.ok.n8 x c D l)))).trans (I.base.keep b o e n C t)
  .obtain⟨sl,e1⟩:=I.base.slot b o e n C t
   exact⟨sl,(f.2 b (Ac7 (Ab3 (Ac1 e) (I.ok.n8 x c D l)))).trans e1⟩
  .obtain⟨o',e1⟩:=I.base.there b o e t
   exact⟨o',(f.2 b (Ac7 (Ab3 (Ac1 e) (I.ok.n8 x c D l)))).trans e1⟩
  .by_cases F:j=i
   .subst F
    rw [J]at e1;cases e1
    rw [Ab9 R]at e2
    cases e2
    exact⟨u,r,.inr ⟨.inl B,c,l,K⟩⟩
   .rw [Ae4 (Ne.symm F)]at e2
    obtain⟨u',r',q⟩:=hl j y Z e1 e2 V
    refine⟨u',r',?_⟩
    rcases q with q | ⟨k,S,e,z'⟩
    .exact .inl q
    .refine .inr ⟨k,S,e,z'.sameBut f ?_⟩
     rintro rfl
     exact F (uT hN e1 (I.ok.inj _ _ _ e l▸J))
  .by_cases O:S=c
   .subst O;exact⟨_,K⟩
   .obtain⟨w2,z2⟩:=I.cell y S e
    exact⟨w2,z2.sameBut f O⟩
  .obtain⟨e,n,ne,nf,d⟩:=I.pin p Y
   refine⟨(f.2 p.1 ?_).trans e,n,ne,nf,d⟩
   intro q
   rw [q,N]at e
   exact d T (by rw [← (Ad6.inj e)];exact P)
def JR (I:Inv X pins U H s) (b:X.N.Nodup) (a:X.N[i]? =k0 x) (d:kz X.env.scope x) (r:RelV v u)
 (h: ∀s',Inv X pins (U.set i (k0 v)) H s'->Q () s') (c:X.fn x=u0\/X.env.scope.names.lookup x=k0 .local:=by first | exact .inl rfl | exact .inr rfl | assumption):wpAny M A (storeName X.env x u) Q E s:=
 FL I b a d r (λs' e _=>h s' e) c
def Inv.lI (I:Inv X pins U H s) (f:s'.os=s.os) (u:Un (fA X.stack) ch H H' s.heap s'.heap) (a:c3 X.prog X.w H' s'.heap) (g:AllBare s'.gens)
 (d: ∀b∈ch,(b∈X.ex\/X.s₀.heap.objs.size<=b)/\b≠X.env.locals/\(∀ x c,X.env.cells.lookup x=k0 c->c≠b)/\ ∀p∈X.pn++pins,p.1≠b):Inv X pins U H' s':=by
 obtain⟨j,k,h,i,l⟩:=s'
 have e:=f
 subst e
 exact I.call u a g d
end
abbrev XK:=Value->Option Addr->Hp->Prop
abbrev St:=List (Option V)
abbrev VK:=V->Hp->Prop
abbrev TE:=St->Hp->VK->Prop
abbrev TT:=St->Hp->(Bool->Hp->Prop)->Prop
abbrev TA:=St->Hp->(List V->Hp->Prop)->Prop
structure ir where
 nx:St->Hp->Prop
 rt:VK
 bk:St->Hp->Prop:=λ_ _=>False
 ct:St->Hp->Prop:=λ_ _=>False
abbrev TS:=ir->St->Hp->Prop
def EP (X:Cx) (a:List (Addr×Obj)) (U:St) (Q:VK) (u:Value) (b:Shared):Prop:= ∃v H',Inv X a U H' b/\RelV v u/\Q v H'
def TP (X:Cx) (a:List (Addr×Obj)) (U:St) (Q:Bool->Hp->Prop) (b:Bool) (c:Shared):Prop:= ∃H',Inv X a U H' c/\Q b H'
def AP (X:Cx) (a:List (Addr×Obj)) (U:St) (Q:List V->Hp->Prop) (c:List Value) (d:Shared):Prop:= ∃b H',Inv X a U H' d/\Vals b c/\Q b H'
def SP (X:Cx) (a:List (Addr×Obj)) (D:ir) (f:Flow) (c:Shared):Prop:=
 match f with
 | .next=> ∃b H',Inv X a b H' c/\D.nx b H'
 | .brk=> ∃b H',Inv X a b H' c/\D.bk b H'
 | .cont=> ∃b H',Inv X a b H' c/\D.ct b H'
 | .ret u=> ∃v b H',Inv X a b H' c/\RelV v u/\D.rt v H'
def PE (X:Cx) (e:Expr) (t:TE):Prop:=
 ∀(pins:List (Addr×Obj)) (s:Shared) (U:St) (H:Hp) (Q:VK),Inv X pins U H s->t U H Q->wpAny (model X.prog X.w) X.A (eval e X.env) (EP X pins U Q) X.xe s
def PT (X:Cx) (e:Expr) (t:TT):Prop:=
 ∀(pins:List (Addr×Obj)) (s:Shared) (U:St) (H:Hp) (Q:Bool->Hp->Prop),Inv X pins U H s->t U H Q->wpAny (model X.prog X.w) X.A (isTrue e X.env (eval e X.env)) (TP X pins U Q) X.xe s
def PW (X:Cx) (e:Expr) (t:TT):Prop:=
 ∀(a:Sem Value) (pins:List (Addr×Obj)) (s:Shared) (U:St) (H:Hp) (Q:Bool->Hp->Prop),Inv X pins U H s->t U H Q->wpAny (model X.prog X.w) X.A (isTrue e X.env a) (TP X pins U Q) X.xe s
def PW.pt (h:PW X e t):PT X e t:=h _
def PA (X:Cx) (es:List Expr) (t:TA):Prop:=
 ∀(pos:Pos) (pins:List (Addr×Obj)) (s:Shared) (U:St) (H:Hp) (Q:List V->Hp->Prop),Inv X pins U H s->t U H Q->wpAny (model X.prog X.w) X.A (spliced (backTo pos (starEach es X.env))) (AP X pins U Q) X.xe s
def PS (X:Cx) (st:Stmt) (t:TS):Prop:=
 ∀(pins:List (Addr×Obj)) (s:Shared) (U:St) (H:Hp) (D:ir),Inv X pins U H s->t D U H->wpAny (model X.prog X.w) X.A (exec st X.env) (SP X pins D) X.xe s
def dk (X:Cx) (st:List Stmt) (t:TS):Prop:=
 ∀(pins:List (Addr×Obj)) (s:Shared) (U:St) (H:Hp) (D:ir),Inv X pins U H s->t D U H->wpAny (model X.prog X.w) X.A (execs st X.env) (SP X pins D) X.xe s
def aO (h:wpAny M A t Q E s) (b: ∀a s,Q a s->Q' a s):wpAny M A t Q' E s:=wpAny_mono h b λ_ _ x=>x
section
variable {X:Cx}
def bin (k:PE X a ta) (g:PE X b tb){R:V->V->Hp->Prop}(I:Inv X pins U H s) (h:ta U H λx H1=>tb U H1 λy H2=>R x y H2)
 {f:Value->Value->Sem α}
 (m: ∀v u L x y H2,Inv X pins U H2 L->RelV x v->RelV y u->R x y H2->wpAny (model X.prog X.w) X.A (f v u) Q X.xe L):
 wpAny (model X.prog X.w) X.A (eval a X.env) (λv i=>wpAny (model X.prog X.w) X.A (eval b X.env) (λu j=>wpAny (model X.prog X.w) X.A (f v u) Q X.xe j) X.xe i) X.xe s:=by
 exact aO (k pins s U H _ I h) λv p ⟨x,H1,d,e,n⟩=> aO (g pins p U H1 _ d n) λu L ⟨y,H2,l,c,o⟩=> m v u L x y H2 l e c o
def lX (i:Nat):TE:=λU H Q=> ∃v,U[i]? =k0 (k0 v)/\Q v H
def tC (v:V):TE:=λ_ H Q=>Q v H
def wI (o:X.N[i]? =some x) (k:mv X.env.scope x) (g:(x==("__debug__" :Str))=false:=by decide) (f:(x==("__classdict__" :Str))=false:=by decide):PE X (.Name x pos) (lX i):=by
 intro d s U H Q I h
 obtain⟨v,e,h⟩:=h
 obtain⟨m,p,n⟩:=I.loc
 obtain⟨u,r,l⟩:=n i x v o e k
 have fin:EP X d U Q u s:=⟨v,H,I,r,h⟩
 obtain⟨b,q⟩ | ⟨b,c,j,a⟩:=l
 .exact wpAny_Name (wpAny_loadName_local I.ok.kind b p q fin) g
 .obtain b | b:=b
  .exact wpAny_Name (wpAny_loadName_cell I.ok.kind b j a fin) g
  .exact wpAny_Name (wpAny_loadName_free I.ok.kind b j a fin f) g
def yC {i j pos}:PE X (.Constant (.int i) j pos) (tC (.int i)):=λ_ _ _ H _ I h=>wpAny_Constant_int ⟨.int i,H,I.tok _,⟨_,rfl⟩,h⟩
def E2 {b j pos}:PE X (.Constant (.bool b) j pos) (tC (.bl b)):=λ_ _ _ H _ I h=>Constant_bool ⟨.bl b,H,I,rfl,h⟩
def EE {j pos}:PE X (.Constant .none j pos) (tC .au):=λ_ _ _ H _ I h=>Constant_none ⟨.au,H,I,rfl,h⟩
def oB {x j pos}:PE X (.Constant (.str x) j pos) (tC (.str x)):=λ_ _ _ H _ I h=>Calls.Constant_str ⟨.str x,H,I.tok _,⟨_,rfl⟩,h⟩
def Gl (X:Cx) (x:Str):Prop:=X.env.kindOf x=k0 .globalImplicit
def jS (I:Inv X pins U H s) (a:Gl X x) (c:X.mg x=k0 u) (h:Q u s)
 (b:(x==("__debug__" :Str))=false:=by decide):wpAny (model X.prog X.w) X.A (eval (.Name x pos) X.env) Q E s:=
 Calls.Name_function_global I.ok.kind a (Calls.loadGlobal_global (by rw [I.ok.glob];exact I.mod.glob.keeps I.bk) c h) b
def Jy (I:Inv X pins U H s) (b:Gl X x) (g:X.mg x=y0) (a:bootBuiltins x=k0 u) (h:Q u s)
 (f:x≠ "__name__" :=by decide) (e:(x==("__debug__" :Str))=false:=by decide):wpAny (model X.prog X.w) X.A (eval (.Name x pos) X.env) Q E s:=by
 obtain⟨i,c,d⟩:=I.mod.blt
 exact Calls.Name_function_global I.ok.kind b (Calls.loadGlobal_builtin (by rw [I.ok.glob];exact I.mod.glob.keeps I.bk) g (by rw [I.ok.blt];exact c.keeps I.bk) ((d x f).trans a) h) e
def rK (a:Gl X x) (c:X.mg x=some u) (r:RelV v u) (b:(x==("__debug__" :Str))=false:=by decide):PE X (.Name x pos) (tC v):=
 λ_ _ _ H _ I h=>jS I a c ⟨v,H,I,r,h⟩ b
def vM (b:Gl X x) (e:X.mg x=none) (a:bootBuiltins x=some u) (r:RelV v u) (d:x≠ "__name__" :=by decide) (c:(x==("__debug__" :Str))=false:=by decide):PE X (.Name x pos) (tC v):=
 λ_ _ _ H _ I h=>Jy I b e a ⟨v,H,I,r,h⟩ d c
variable {a b:Expr}{ta tb:TE}{pos:Pos}
def PC (X:Cx) (e:CmpOp) (a b:Expr) (t:TE):Prop:=
 ∀(pins:List (Addr×Obj)) (s:Shared) (U:St) (H:Hp) (Q:VK),Inv X pins U H s->t U H Q →
  wpAny (model X.prog X.w) X.A (eval a X.env) (λv c=>wpAny (model X.prog X.w) X.A (eval b X.env) (λu d=>wpAny (model X.prog X.w) X.A (compareOp e v u) (EP X pins U Q) X.xe d) X.xe c) X.xe s
def uy (b)(h:op≠ .In) (a:op≠ .NotIn):behindInMarks op b=false:=by
 have e1:(op==CmpOp.In)=false:=by cases op<;>first | rfl | exact absurd rfl h
 have e2:(op==CmpOp.NotIn)=false:=by cases op<;>first | rfl | exact absurd rfl a
 cases b<;>simp [behindInMarks,e1,e2]
def B9 (a:TE):TE:=λU H Q=>a U H λx H1=>Q (.bl (u9 (x= .au))) H1
def Cu (a:TE):TE:=λU H Q=>a U H λx H1=>Q (.bl (!u9 (x= .au))) H1
def RelV.d5 (r:RelV x v):(v==Value.none)=u9 (x= .au):=by
 cases x with
 | au=>cases r;rfl
 | bl _=>cases r;rfl
 | int _=>obtain⟨t,rfl⟩:=r;rfl
 | str _=>obtain⟨t,rfl⟩:=r;rfl
 | iB _=>obtain⟨t,rfl⟩:=r;rfl
 | g0 _=>obtain⟨t,rfl⟩:=r;rfl
 | ref _=>cases r;rfl
 | ty _=>cases r;rfl
def y4 {j pos'}(c:PE X a ta):PC X .Is a (.Constant .none j pos') (B9 ta):=by
 intro b s U H Q I h
 refine aO (c b s U H _ I h) ?_
 rintro v i ⟨x,d,e,g,f⟩
 exact Constant_none (is_none_gen ⟨.bl _,d,e,by rw [g.d5];rfl,f⟩)
def vv {j pos'}(c:PE X a ta):PC X .IsNot a (.Constant .none j pos') (Cu ta):=by
 intro b s U H Q I h
 refine aO (c b s U H _ I h) ?_
 rintro v i ⟨x,d,e,g,f⟩
 exact Constant_none (isnot_none_gen ⟨.bl _,d,e,by rw [g.d5];rfl,f⟩)
def tB (t:TE):TT:=λU H Q=>t U H λx H1=> ∃c,x= .bl c/\Q c H1
def tw (h:PC X op a b t) (h1:behindInMarks op b=false:=by first | exact uy _ (by decide) (by decide) | rfl):PE X (.Compare a [op] [b] pos) t:=λc s U H Q I d=>wpAny_Compare1 (h c s U H Q I d) h1
def t9 (h:PC X op a b t) (h1:behindInMarks op b=false:=by first | exact uy _ (by decide) (by decide) | rfl):PT X (.Compare a [op] [b] pos) (tB t):=by
 intro e s U H Q I k
 refine wpAny_isTrue_Compare1 (aO (h e s U H _ I k) λv o h1=>aO h1 λu m l=>aO l λc n ⟨x,i,f,g,j⟩=> ?_) h1
 obtain⟨d,rfl,q⟩:=j
 cases g
 exact wpAny_truthy_bool ⟨i,f,q⟩
variable {tA tB':TT}{Zp:List Expr}
def BY (t u:TT):TT:=λU H Q=>t U H λc H1=>if c=u0 then u U H1 Q else Q k9 H1
def CV (t u:TT):TT:=λU H Q=>t U H λc H1=>if c=u0 then Q u0 H1 else u U H1 Q
def Dz (t:TT):TT:=λU H Q=>t U H λc H1=>Q (!c) H1
def Cj (d:PT X a tA):PW X (.BoolOp .And [a] pos) tA:=by
 intro g b s U H Q I h
 refine isTrue_and (aO (d b s U H Q I h) λc f e=> ?_)
 cases c with
 | true=>exact isTrue_and_nil e
 | false=>exact e
def HS (d:PT X a tA):PW X (.BoolOp .Or [a] pos) tA:=by
 intro g b s U H Q I h
 refine isTrue_or (aO (d b s U H Q I h) λc f e=> ?_)
 cases c with
 | false=>exact isTrue_or_nil e
 | true=>exact e
def Lq (j:PT X a tA) (l:PW X (.BoolOp .And (b::Zp) pos) tB'):PW X (.BoolOp .And (a::b::Zp) pos) (BY tA tB'):=by
 intro k d s U H Q I h
 refine isTrue_and (aO (j d s U H _ I h) ?_)
 rintro c i ⟨e,f,g⟩
 cases c with
 | true=>exact l k d i U e Q f g
 | false=>exact⟨e,f,g⟩
def AE (j:PT X a tA) (l:PW X (.BoolOp .Or (b::Zp) pos) tB'):PW X (.BoolOp .Or (a::b::Zp) pos) (CV tA tB'):=by
 intro k d s U H Q I h
 refine isTrue_or (aO (j d s U H _ I h) ?_)
 rintro c i ⟨e,f,g⟩
 cases c with
 | true=>exact⟨e,f,g⟩
 | false=>exact l k d i U e Q f g
def B8 (d:PT X a tA):PT X (.UnaryOp .Not a pos) (Dz tA):=by
 intro b s U H Q I h
 exact isTrue_not (d b s U H (λc e=>Q (!c) e) I h)
def yB {op}(h:PE X a t):PE X (.BoolOp op [a] pos) t:=λb s U H Q I c=>BoolOp_one (h b s U H Q I c)
end
def bq (K:Aa9) (H:Hp) (a:Addr) (xs:List V):Prop:=
 Rd H a (.lst xs) ∨
  ∃(o:Obj) (b:Array Value) (n:Nat),K.lookup a=some o/\o.cls= .type "list" /\o.dict=none/\o.data= .seq b n/\b.size<=sizeLine/\Vals xs b.toList
def ck (K:Aa9) (H:Hp) (a:Addr) (xs:List V):Prop:=
 Rd H a (.tup xs) ∨
  ∃(o:Obj) (b:Array Value) (n:Nat),K.lookup a=k0 o/\o.cls= .type "tuple" /\o.data= .seq b n/\b.size<=sizeLine/\Vals xs b.toList
noncomputable def LA:Value->Option V
 | .none=>k0 .au
 | .bool b=>k0 (.bl b)
 | .int i _=>k0 (.int i)
 | .str x _=>k0 (.str x)
 | .bytes b _=>k0 (.iB b)
 | .float b _=>k0 (.g0 b)
 | .ref a=>k0 (.ref a)
 | .type n=>k0 (.ty n)
 | _=>y0
def RelV.abs (r:RelV x u):LA u=k0 x:=by
 cases x with
 | au=>cases r;rfl
 | bl _=>cases r;rfl
 | int _=>obtain⟨t,rfl⟩:=r;rfl
 | str _=>obtain⟨t,rfl⟩:=r;rfl
 | iB _=>obtain⟨t,rfl⟩:=r;rfl
 | g0 _=>obtain⟨t,rfl⟩:=r;rfl
 | ref _=>cases r;rfl
 | ty _=>cases r;rfl
theorem RelV.inj (r:RelV x u) (q:RelV y u):x=y:=Ad6.inj (r.abs.symm.trans q.abs)
theorem Vals.inj: ∀ {xs ys}{i},Vals xs i->Vals ys i->xs=ys
 | _,_,_,.nil,.nil=>rfl
 | _,_,_,.cons r t,.cons b a=>by rw [r.inj b,Vals.inj t a]
section
variable {X:Cx}{pins:List (Addr×Obj)}{U:St}{H:Hp}{s:Shared}{a:Addr}{xs ys:List V}
def bq.of {K:Aa9}(h:H a=k0 (.lst xs)):bq K H a xs:= .inl (.inl h)
def Inv.list (I:Inv X pins U H s) (h:bq X.K H a xs): ∃i:List Value,Vals xs i/\PlainL s.heap a i.toArray/\xs.length<=sizeLine:=by
 obtain h | ⟨o,i,n,d,b,f,c,g,r⟩:=h
 .obtain⟨z,i,n,r,e⟩:=h.ok I.a0
  exact⟨i,r,⟨_,n,e,rfl,rfl,rfl⟩,z⟩
 .refine⟨i.toList,r,⟨o,n,I.cw a o d,b,f,by simpa using c⟩,?_⟩
  have e:=r.length
  simp [Ai0]at e
  lia
def Inv.tuple (I:Inv X pins U H s) (h:ck X.K H a xs): ∃i:List Value,Vals xs i/\IsTup s.heap a i.toArray/\xs.length<=sizeLine:=by
 obtain h | ⟨o,i,n,d,b,c,f,r⟩:=h
 .obtain⟨z,i,r,p⟩:=h.ok I.a0
  exact⟨i,r,p.is,z⟩
 .refine⟨i.toList,r,⟨o,I.cw a o d,b,n,by simpa using c⟩,?_⟩
  have e:=r.length
  simp [Ai0]at e
  lia
def Inv.d0 (I:Inv X pins U H s) (h:bq X.K H a xs) (h':bq X.K H a ys):xs=ys:=by
 obtain⟨c,r,⟨o,n,e,_,_,d⟩,_⟩:=I.list h
 obtain⟨b,j,⟨l,k,f,_,_,g⟩,_⟩:=I.list h'
 rw [e]at f;cases f
 rw [d]at g
 injection g with i _
 have:c=b:=by simpa using congrArg Array.toList i
 subst this
 exact r.inj j
def Inv.dz (I:Inv X pins U H s) (h:ck X.K H a xs) (h':ck X.K H a ys):xs=ys:=by
 obtain⟨c,r,⟨o,e,_,n,d⟩,_⟩:=I.tuple h
 obtain⟨b,j,⟨l,f,_,k,g⟩,_⟩:=I.tuple h'
 rw [e]at f;cases f
 rw [d]at g
 injection g with i _
 have:c=b:=by simpa using congrArg Array.toList i
 subst this
 exact r.inj j
end
section
variable {X:Cx}{st:Stmt}{Zp:List Stmt}{t u:TS}{e:Expr}{te:TE}{pos:Pos}
def FG:TS:=λD U H=>D.nx U H
def Av (t u:TS):TS:=λD U H=>t { D with nx:=u D } U H
def Mu:dk X [] FG:=λ_ _ U H _ I h=>wpAny_execs_nil ⟨U,H,I,h⟩
def IA (h1:PS X st t) (c:dk X Zp u):dk X (st::Zp) (Av t u):=by
 intro a s U H D I h
 refine wpAny_execs_cons (aO (h1 a s U H { D with nx:=u D } I h) λf b q=> ?_)
 cases f with
 | next=>
  obtain⟨d,e,g,q⟩:=q
  exact c a b d e D g q
 | ret v=>exact q
 | brk=>exact q
 | cont=>exact q
def Inv.quiet (I:Inv X pins U H s):interactive X.env=false:=by simp [interactive,I.ok.kind]
def Hv (a:TE):TS:=λD U H=>a U H λ_ H1=>D.nx U H1
def QU (g:PE X e te) (b:swapsWith e y0 pos.line X.env=pure false:=by rfl):PS X (.Expr e pos) (Hv te):=by
 intro a s U H D I h
 exact wpAny_Expr_any (aO (g a s U H _ I h) λv i ⟨x,c,d,j,f⟩=>⟨U,c,d,f⟩) I.quiet b
def FQ (a:TE):TS:=λD U H=>a U H D.rt
def vL (f:PE X e te):PS X (.Return (k0 e) pos) (FQ te):=by
 intro a s U H D I h
 exact wpAny_Return_some (aO (f a s U H _ I h) λv i ⟨x,b,c,g,d⟩=>⟨x,U,b,c,g,d⟩)
def LN (c:TT) (t u:TS):TS:=λD U H=>c U H λb H1=>if b=u0 then t D U H1 else u D U H1
def K8 (k:PT X c tc) (l:dk X a t) (m:dk X b u):PS X (.If c a b pos) (LN tc t u):=by
 intro e s U H D I h
 refine wpAny_If (aO (k e s U H _ I h) ?_)
 rintro d f ⟨g,i,j⟩
 cases d with
 | true=>exact l e f U g D i j
 | false=>exact m e f U g D i j
end
abbrev TG:=V->St->Hp->(St->Hp->Prop)->Prop
abbrev kT:=List V->St->Hp->(St->Hp->Prop)->Prop
def PG (X:Cx) (a:Expr) (t:TG):Prop:=
 ∀(pins:List (Addr×Obj)) (s:Shared) (U:St) (H:Hp) (v:V) (u:Value) (Q:St->Hp->Prop),Inv X pins U H s->RelV v u->t v U H Q →
  wpAny (model X.prog X.w) X.A (assign a X.env u) (λ_ s'=> ∃b H',Inv X pins b H' s'/\Q b H') X.xe s
def la (X:Cx) (d:List Expr) (t:kT):Prop:=
 ∀(pins:List (Addr×Obj)) (s:Shared) (U:St) (H:Hp) (c:List V) (a:List Value) (Q:St->Hp->Prop),Inv X pins U H s->Vals c a->t c U H Q →
  wpAny (model X.prog X.w) X.A (assignInOrder ((assignEach d X.env).map (·.2)) a) (λ_ s'=> ∃b H',Inv X pins b H' s'/\Q b H') X.xe s
abbrev uq:=V->V->V->Hp->(Hp->Prop)->Prop
def om (X:Cx) (t:uq):Prop:=
 ∀(pins:List (Addr×Obj)) (s:Shared) (U:St) (H:Hp) (o i v:V) (a b u:Value) (Q:Hp->Prop),Inv X pins U H s->RelV o a->RelV i b->RelV v u->t o i v H Q →
  wpAny (model X.prog X.w) X.A (setItem a b u) (λ_ s'=> ∃H',Inv X pins U H' s'/\Q H') X.xe s
section
variable {X:Cx}{pos:Pos}
def zY (i:Nat):TG:=λv U H Q=>Q (U.set i (k0 v)) H
def nQ (c:X.N.Nodup) (b:X.N[i]? =k0 x) (e:kz X.env.scope x) (d:X.fn x=u0\/X.env.scope.names.lookup x=k0 .local:=by first | exact .inl rfl | exact .inr rfl | assumption):PG X (.Name x pos) (zY i):=by
 intro a s U H v u Q I r h
 exact wpAny_assign_Name (JR I c b e r (λg f=>⟨_,H,f,h⟩) d)
def M3:kT:=λa U H Q=>a= []/\Q U H
def CZ (t:TG) (u:kT):kT:=λb U H Q=> ∃v r,b=v::r/\t v U H λa H'=>u r a H' Q
def rF:la X [] M3:=by
 intro a s U H c b Q I r h
 obtain⟨e,h⟩:=h
 subst e
 cases r
 exact assignInOrder_nil ⟨U,H,I,h⟩
def ZV (h1:PG X e t) (j:la X es u)
 (f:(assignEach (e::es) X.env).map (·.2)=assign e X.env::(assignEach es X.env).map (·.2):=by rfl):la X (e::es) (CZ t u):=by
 intro a s U H n m Q I r h
 obtain⟨v,l,e1,h⟩:=h
 subst e1
 cases r with
 | cons r b=>
  rw [f]
  exact assignInOrder_cons (aO (h1 a s U H _ _ _ I r h) λ_ i ⟨k,d,c,g⟩=> j a i k d _ _ Q c b g)
def FT (K:Aa9) (n:Nat) (t:kT):TG:=λv U H Q=> ∃a xs,v= .ref a/\ck K H a xs/\xs.length=n/\t xs U H Q
def yN (y:X.calm=u0) (h:la X es t)
 (x:(assignEach es X.env).length=n:=by rfl) (d:(assignEach es X.env).findIdx? (·.1)=none:=by rfl):PG X (.Tuple es k pos) (FT X.K n t):=by
 intro c s U H v u Q I r f
 obtain⟨a,m,e1,i,g,f⟩:=f
 subst e1
 cases r
 obtain⟨p,rv,q,z⟩:=I.tuple i
 refine assign_Tuple_tuple (I.ok.hd y) q (by simp [x,←g,rv.length]) d λw j=> ?_
 have l:Inv X c U H { s with heap:=w }:=I.kept λb o e=>j b o (Ac7 (Ac1 e)) e
 exact h c _ U H m _ Q l (by simp_all) f
def AS (a c:TE) (t:uq):TG:=λv U H Q=>a U H λo H1=>c U H1 λi H2=>t o i v H2 λb=>Q U b
def mG (C:PE X o to) (c:PE X i ti) (p:om X t)
 (m: ∀v,assign (.Subscript o i pos) X.env v=(do
   let j ←holding [v] (eval o X.env)
   let L ←holding [v,j] (eval i X.env)
   standAt pos
   holding [v,j,L] (setItem j L v)
   release [v,j,L] []):=by intro _;rfl):PG X (.Subscript o i pos) (AS to ti t):=by
 intro a s U H v u Q I r h
 rw [m]
 exact wpAny_bind (wpAny_holding (aO (C a s U H _ I h) λj A ⟨x,k,e,f,w⟩=> wpAny_bind (wpAny_holding (aO (c a A U k _ e w) λL b ⟨y,g,q,d,z⟩=> wpAny_bind (wpAny_standAt (wpAny_bind (wpAny_holding (aO (p a b U g x y v j L u _ q f d r z) λ_ D ⟨B,n,l⟩=> wpAny_release ⟨U,B,n,l⟩))))))))
def ia (a:TE) (g:TG):TS:=λD U H=>a U H λx H1=>g x U H1 D.nx
def XY (c:PE X e te) (l:PG X tg g) (i:swapsWithSole [tg] e pos.line X.env=pure false:=by rfl) (m:swappedStores [tg] e X.env=pure none:=by rfl)
 (h1:(assignEach [tg] X.env).map (·.2)= [assign tg X.env]:=by rfl):PS X (.Assign [tg] e pos) (ia te g):=by
 intro a s U H D I h
 refine wpAny_Assign_stores (aO (c a s U H _ I h) λv k ⟨x,f,b,d,j⟩=> ?_) i m
 rw [h1]
 exact aO (l a k U f x v _ b d j) λ_ n q=>q
def Fb (c:X.N.Nodup) (b:X.N[i]? =k0 x) (f:kz X.env.scope x) (g:PE X e te) (l:swapsWith e (k0 (.Name x pos')) pos.line X.env=pure false:=by rfl) (n:X.fn x=u0\/X.env.scope.names.lookup x=k0 .local:=by first | exact .inl rfl | exact .inr rfl | assumption):
 PS X (.Assign [.Name x pos'] e pos) (ia te (zY i)):=by
 intro a s U H D I h
 exact wpAny_Assign_Name (aO (g a s U H _ I h) λv q ⟨y,k,d,j,o⟩=> JR d c b f j (λp m=>⟨_,k,m,o⟩) n) l
end
section
variable {X:Cx}{pos:Pos}
def EY (c:TT) (tb:TS):TS:=λD U H=> ∃W:Nat->St->Hp->Prop,(∃ m,W m U H)/\ ∀m U H,W m U H →
 c U H λb H1=>if b=u0 then ∃N:St->Hp->Prop,(∀ d H',N d H'-> ∃a,a<m/\W a d H')/\tb { D with nx:=N,ct:=N,bk:=D.nx } U H1 else D.nx U H1
def DX (y:PassesOwn (model X.prog X.w) X.A X.env X.xe) (K:PT X c tc) (C:dk X body tb):PS X (.While c body [] pos) (EY tc tb):=by
 intro a s U H D I h
 obtain⟨W,⟨F,G⟩,e⟩:=h
 refine wpAny_While (codeAny_whileLoop (λn E=> ∃t u,Inv X a t u E/\W n t u) ?_ F ⟨U,H,I,G⟩)
 rintro n J ⟨k,x,B,L⟩
 refine wpAny_passesOwn y (aO (K a J k x _ B (e n k x L)) ?_)
 rintro b A ⟨w,z,j⟩
 cases b with
 | true=>
  obtain⟨N,r,j⟩:=j
  refine wpAny_passesOwn y (aO (C a A k w _ z j) λf M i=> ?_)
  cases f with
  | next=>
   obtain⟨d,g,o,m⟩:=i
   obtain⟨l,q,p⟩:=r d g m
   exact⟨l,q,d,g,o,p⟩
  | cont=>
   obtain⟨d,g,o,m⟩:=i
   obtain⟨l,q,p⟩:=r d g m
   exact⟨l,q,d,g,o,p⟩
  | brk=>exact i
  | ret v=>exact i
 | false=>
  exact wpAny_execs_nil ⟨k,w,z,j⟩
end
structure It where
 go:Nat->Hp->Prop
 fj:Nat->Hp->V->Hp->Prop
 stop:Nat->Hp->Prop
def bA (X:Cx) (a:List (Addr×Obj)) (H:Hp) (b:Addr):Prop:=
 H b=y0/\b≠X.env.locals/\b∉X.fs/\(b∈X.ex\/X.s₀.heap.objs.size<=b)/\(∀ x c,X.env.cells.lookup x=k0 c->c≠b)/\ ∀p∈X.pn++a,p.1≠b
def Inv.cO (I:Inv X pins U H s) (a:s.heap.objs.size<=b) (d:H' b=y0):bA X pins H' b:=by
 refine⟨d,Ap3 (Ab3 I.lt a),I.oN a,.inr (Ab5 I.sz a),λx c e z=> ?_,λp f z=> ?_⟩
 .obtain⟨v,q⟩:=I.cell x c e
  exact absurd (Ab3 q.lt (by simp_all)) (Ai3 _)
 .exact absurd (Ab3 (Ac1 (I.pin p f).1) (by simp_all)) (Ai3 _)
structure hZ (P:Program) (w:World) (K:Aa9) (tg:Expr) (J:It) (fp:List Addr) (it:Addr) (tn:Nat->Heap->Prop):Prop where
 mem:it∈fp
 obj: ∀i h,tn i h-> ∀b∈fp,∃o,h.get? b=k0 o/\ ∀v,o.data≠ .cell v
 keep: ∀i h h',tn i h->(∀ b∈fp,∀o,h.get? b=k0 o->h'.get? b=k0 o)->tn i h'
 item: ∀(X:Cx),X.prog=P->X.w=w->X.K=K->X.calm=u0-> ∀(i:Nat) (pins:List (Addr×Obj)) (s:Shared) (U:St) (H:Hp) (E:Value->Shared->Prop),Inv X pins U H s->(∀ b∈fp,bA X pins H b)->tn i s.heap->J.go i H →
  wpAny (model P w) X.A (pyNext (.ref it)) (λr s1=> ∃u,r=k0 u ∧
   wpAny (model P w) X.A (letOwnedTupleGo tg (.ref it) u) (λ_ s2=> ∃x H',Inv X pins U H' s2/\RelV x u/\J.fj i H x H'/\tn (i+1) s2.heap/\ ∀b∈fp,H' b=y0) E s1) E s
 done: ∀(X:Cx),X.prog=P->X.w=w->X.K=K->X.calm=u0-> ∀(i:Nat) (pins:List (Addr×Obj)) (s:Shared) (U:St) (H:Hp) (E:Value->Shared->Prop),Inv X pins U H s->(∀ b∈fp,bA X pins H b)->tn i s.heap->J.stop i H →
  wpAny (model P w) X.A (pyNext (.ref it)) (λr s1=>r=y0/\Inv X pins U H s1) E s
 self: ∀(A:Around) (i:Nat) (s:Shared) (Q:Value->Shared->Prop) (E:Value->Shared->Prop),tn i s.heap->Q (.ref it) s->wpAny (model P w) A (pyIter (.ref it)) Q E s
abbrev TI:=St->Hp->(It->Hp->Prop)->Prop
def rY (X:Cx) (a:List (Addr×Obj)) (U:St) (g:Expr) (R:It->Hp->Prop) (c:Value) (d:Shared):Prop:=
 ∃(f:Addr) (fp:List Addr) (e:Nat->Heap->Prop) (J:It) (H':Hp),c= .ref f/\Inv X a U H' d/\hZ X.prog X.w X.K g J fp f e/\e 0 d.heap/\(∀ b∈fp,bA X a H' b)/\R J H'
def PI (X:Cx) (c a:Expr) (d:TI):Prop:=
 ∀(pins:List (Addr×Obj)) (s:Shared) (U:St) (H:Hp) (R:It->Hp->Prop),Inv X pins U H s->d U H R →
  wpAny (model X.prog X.w) X.A (eval a X.env) (λv b=>wpAny (model X.prog X.w) X.A (pyIter v) (rY X pins U c R) X.xe b) X.xe s
def lO (c:s.heap.get? it=k0 o) (b:o.cls= .type n) (d:o.data= .fields vs)
 (e: ["enumerate", "zip", "dict_itemiterator", "dict_reverseitemiterator", "odict_iterator", "itertools.zip_longest", "itertools.pairwise"].contains n=false) (a:Q () s):wpAny M A (letOwnedTupleGo tg (.ref it) u) Q E s:=by
 cases tg<;>first
  | exact wpAny_pure a
  | (cases u<;>first
      | exact wpAny_pure a
      | (refine wpAny_bind (wpAny_load c ?_)
         rw [b,d]
         show wpAny M A (if _=u0 then _ else _) Q E s
         rw [if_neg (by lia)]
         exact wpAny_pure a))
noncomputable def lD (K:Aa9) (a:Addr):It:=
 ⟨λi H=> ∃xs x,bq K H a xs/\xs[i]? =k0 x,λi H x H'=>H'=H/\ ∀xs,bq K H a xs->xs[i]? =k0 x,λi H=> ∃xs,bq K H a xs/\xs.length<=i⟩
noncomputable def kH (K:Aa9) (a:Addr):It:=
 ⟨λi H=> ∃xs x,ck K H a xs/\xs[i]? =k0 x,λi H x H'=>H'=H/\ ∀xs,ck K H a xs->xs[i]? =k0 x,λi H=> ∃xs,ck K H a xs/\xs.length<=i⟩
def mW (a:Int) (n:Nat):It:=⟨λi _=>i<n,λi H x H'=>H'=H/\x= .int (a+i),λi _=>n<=i⟩
def K1 {K:Aa9}(a it):hZ P w K tg (lD K a) [it] it (λi h=>h.IsListIter it a i) where
 mem:=by simp
 obj:=λi h f b j=>by
  have e:=by simpa using j
  subst e
  obtain⟨o,e,c,d⟩:=f
  exact⟨o,e,λv z=>by rw [d]at z;cases z⟩
 keep:=λi h G f k=>f.at λo e=>k it (by simp) o e
 item:=by
  intro X D L t M i g s U H E I n f J
  subst D L t
  obtain⟨S,x,m,r⟩:=J
  obtain⟨B,rv,p,W⟩:=I.list m
  obtain⟨u,T,O⟩:=rv.get r
  obtain⟨F,A,N,C,q,y⟩:=n it (by simp)
  refine wpAny_pyNext_list_item f p.isList (by simpa using T) λG l Y=> ?_
  have Q:Inv X g U H { s with heap:=G }:=I.turned (λb o j e=>(Y.2 b j).trans e) F A C q y
  obtain⟨o,e,c,d⟩:=id l
  exact⟨u,rfl,lO e c d (by decide) ⟨x,H,Q,O,⟨rfl,λys V=>by rw [I.d0 V m];exact r⟩,l,λb j=>(n b j).1⟩⟩
 done:=by
  intro X D L t M i g s U H E I n f J
  subst D L t
  obtain⟨S,m,r⟩:=J
  obtain⟨B,rv,p,W⟩:=I.list m
  obtain⟨F,A,N,C,q,y⟩:=n it (by simp)
  have Z:=rv.length
  exact wpAny_pyNext_list_end (I.ok.hd M) f p.isList (by simp;lia) λG R=>⟨rfl,I.turned (λb o j e=>R b o j e) F A C q y⟩
 self:=λ_ _ _ _ _ f h=>wpAny_pyIter_listiter f h
def Bz {K:Aa9}(a it):hZ P w K tg (kH K a) [it] it (λi h=>h.IsTupleIter it a i) where
 mem:=by simp
 obj:=λi h f b j=>by
  have e:=by simpa using j
  subst e
  obtain⟨o,e,c,d⟩:=f
  exact⟨o,e,λv z=>by rw [d]at z;cases z⟩
 keep:=λi h G f k=>f.at λo e=>k it (by simp) o e
 item:=by
  intro X D L t M i g s U H E I n f J
  subst D L t
  obtain⟨S,x,m,r⟩:=J
  obtain⟨B,rv,p,W⟩:=I.tuple m
  obtain⟨u,T,O⟩:=rv.get r
  obtain⟨F,A,N,C,q,y⟩:=n it (by simp)
  refine wpAny_pyNext_tuple_item f (p) (by simpa using T) λG l Y=> ?_
  have Q:Inv X g U H { s with heap:=G }:=I.turned (λb o j e=>(Y.2 b j).trans e) F A C q y
  obtain⟨o,e,c,d⟩:=id l
  exact⟨u,rfl,lO e c d (by decide) ⟨x,H,Q,O,⟨rfl,λys V=>by rw [I.dz V m];exact r⟩,l,λb j=>(n b j).1⟩⟩
 done:=by
  intro X D L t M i g s U H E I n f J
  subst D L t
  obtain⟨S,m,r⟩:=J
  obtain⟨B,rv,p,W⟩:=I.tuple m
  obtain⟨F,A,N,C,q,y⟩:=n it (by simp)
  have Z:=rv.length
  exact wpAny_pyNext_tuple_end (I.ok.hd M) f (p) (by simp;lia) λG R=>⟨rfl,I.turned (λb o j e=>R b o j e) F A C q y⟩
 self:=λ_ _ _ _ _ f h=>wpAny_pyIter_tupleiter f h
def DF {K:Aa9}(it) (lo) (n):hZ P w K tg (mW lo n) [it] it (λi h=>IsRangeIter h it (lo+(i:Nat)*1) ((n:Int)-(i:Nat)) 1) where
 mem:=by simp
 obj:=λi h a b d=>by
  have e:=by simpa using d
  subst e
  exact⟨_,a,λv z=>by
   have L:=z
   cases L⟩
 keep:=λi h r a k=>k it (by simp) _ a
 item:=by
  intro X A B y u i c s U H E I g a x
  subst A B y
  obtain⟨q,m,F,p,j,l⟩:=g it (by simp)
  have W:=Walks.range (prog:=X.prog) (w:=X.w) (I.ok.hd u) it lo 1 n
  refine W.item i s _ _ x a λv r D C f M=> ?_
  obtain⟨t,rfl⟩:=C
  have G:Inv X c U H { s with heap:=r,toks:=D }:=I.turned (λb o d e=>M b o (by simpa using d) e) q m p j l
  refine⟨_,rfl,lO f rfl rfl (by decide) ⟨.int (lo+i),H,G,⟨t,?_⟩,⟨rfl,rfl⟩,f,λb d=>(g b d).1⟩⟩
  rw [Int.mul_one]
 done:=by
  intro X A B y u i c s U H E I g a x
  obtain⟨q,m,F,p,j,l⟩:=g it (by simp)
  exact wpAny_pyNext_range_end (I.ok.hd u) a (by have:n<=i:=x;lia) λr J=>⟨rfl,I.turned (λb o d e=>J b o d e) q m p j l⟩
 self:=λ_ _ _ _ _ a h=>wpAny_pyIter_rangeiter a h
section
variable {X:Cx}{tg:Expr}
def FF {a c:Int}(I:Inv X pins U H s) (h1: -(2 ^ 62)<=a) (h:a<2 ^ 62) (f: -(2 ^ 62)<=c) (g:c<2 ^ 62)
 (q:R (mW a (c-a).toNat) H):wpAny (model X.prog X.w) X.A (pyIter (.ref s.heap.objs.size)) (rY X pins U tg R) E { s with heap:=s.heap.push { cls:= .type "range",data:= .fields #[.int a t,.int c u,.int 1 v] },toks:=tk }:=by
 refine wpAny_pyIter_range (IsRange.new ..) (small_one h1 h f g) ?_
 have d:Inv X pins U H { s with heap:=s.heap.push { cls:= .type "range",data:= .fields #[.int a t,.int c u,.int 1 v] },toks:=tk }:=I.kept fun b o e=>Heap.get?_push_of_some _ e
 refine⟨(s.heap.push { cls:= .type "range",data:= .fields #[.int a t,.int c u,.int 1 v] }).objs.size,[(s.heap.push { cls:= .type "range",data:= .fields #[.int a t,.int c u,.int 1 v] }).objs.size],_,_,H,rfl,
  d.kept λb o e=>Ab1 _ e,DF _ a (c-a).toNat,?_,λb i=> ?_,q⟩
 .have e1:a+ (0:Nat)*1=a:=by simp
  have e2: (c-a).toNat- (0:Nat)=Builtin.Range.rangeSize a c 1:=by rw [rangeSize_one];split<;>lia
  rw [e1,e2]
  exact Ac5 _ rfl
 .have e:b=(s.heap.push { cls:= .type "range",data:= .fields #[.int a t,.int c u,.int 1 v] }).objs.size:=by simpa using i
  subst e
  exact d.cO (Aa7 _) (d.a0.fresh (Aa7 _))
def Fm (a:TA):TI:=λU H R=>a U H λb H1=> ∃j:Int,b= [.int j]/\ -(2 ^ 62)<=j/\j<2 ^ 62/\R (mW 0 j.toNat) H1
def BK (n:Gl X "range") (m:X.mg "range" =none) (i:PA X [a] ta) (k:starEach [a] X.env= [(false,eval a X.env)]:=by rfl):PI X tg (.Call (.Name "range" p) [a] [] pos) (Fm ta):=by
 intro b s U H R I h
 refine Call_ (Jy I n m boot_range (PyProof.Rows.callWith_type1 (aO (i pos b s U H _ I h) λo w ⟨u,v,f,g,c⟩=> ?_) k rfl))
 obtain⟨j,e,c,l,q⟩:=c
 subst e
 cases g with
 | cons r d=>
  cases d
  obtain⟨t,rfl⟩:=r
  exact call_range_1 (FF f (by lia) (by lia) c l (by simp_all))
def L0 (c:TI) (g:TG) (tb:TS):TS:=λD U H=>c U H λJ H1=> ∃W:Nat->Nat->St->Hp->Prop,(∃ m,W 0 m U H1)/\ ∀i m U H,W i m U H →
 (J.stop i H/\D.nx U H)\/(J.go i H/\ ∃N:St->Hp->Prop,(∀ b H',N b H'-> ∃a,a<m/\W (i+1) a b H')/\ ∀x H',J.fj i H x H'->g x U H' λd H2=>tb { D with nx:=N,ct:=N,bk:=D.nx } d H2)
def qO (a:List Addr) (h:Heap):List (Addr×Obj):=a.filterMap λb=>(h.get? b).map λo=>(b,o)
def Qg (a:b∈fp) (e:h.get? b=k0 o):(b,o)∈qO fp h:=List.mem_filterMap.mpr ⟨b,a,by rw [e];rfl⟩
def J1 (c:p∈qO fp h):p.1∈fp/\h.get? p.1=k0 p.2:=by
 obtain⟨b,d,e⟩:=List.mem_filterMap.mp c
 cases q:h.get? b with
 | none=>rw [q]at e;cases e
 | some o=>
  rw [q]at e
  have a:=Ad6.inj e
  subst a
  exact⟨d,q⟩
def Inv.pinned (I:Inv X pins U H s) (j: ∀b∈fp,bA X pins H b) (g: ∀b∈fp,∃o,s.heap.get? b=k0 o/\ ∀v,o.data≠ .cell v):Inv X (pins++qO fp s.heap) U H s:=
 I.bR λp k=>(Ac8.mp k).elim (λz=>I.pin p (Ab0 _ z)) λz=>by
  obtain⟨c,e⟩:=J1 z
  obtain⟨f,h,i,_⟩:=j p.1 c
  obtain⟨o,a,d⟩:=g p.1 c
  rw [e]at a;cases a
  exact⟨e,f,h,i,d⟩
def Inv.bJ (I:Inv X (pins++pl) U H s):Inv X pins U H s:=I.bR λp a=>I.pin p (Ab0 _ (Ad _ a))
def Mc (B:PassesOwn (model X.prog X.w) X.A X.env X.xe) (Z:X.calm=u0) (hi:PI X tg iter wi) (hg:PG X tg g) (q:dk X body tb)
 (hs: ∀x,foldedSetIterable iter X.env x=pure x:=by intro _;rfl):PS X (.For tg iter body [] pos) (L0 wi g tb):=by
 intro a s U H D I h
 refine wpAny_For (aO (hi a s U H _ I h) λv s1 h1=>aO h1 λitv s2 h2=> ?_) hs
 obtain⟨it,L,S,J,H2,e,I2,T,O,f2,W,⟨m0,w0⟩,z⟩:=h2
 subst e
 have c: ∀ {t},(∀ b∈L,t b=y0)-> ∀b∈L,bA X a t b:=λhn b q=>⟨hn b q,(f2 b q).2⟩
 refine codeAny_forLoop_any (λn s'=> ∃i A t,Inv X a A t s'/\S i s'.heap/\(∀ b∈L,t b=y0)/\W i n A t) ?_ m0 ⟨0,U,H2,I2,O,λb q=>(f2 b q).1,w0⟩
 rintro n s3 ⟨i,F,K,V,G,C,w3⟩
 obtain⟨stop,qn⟩ | ⟨go,N,hN,step⟩:=z i n F K w3
 .refine wpAny_passesOwn B (aO (T.done X rfl rfl rfl Z i a s3 F K X.xe V (c C) G stop) ?_)
  rintro r s4 ⟨R,I4⟩
  subst R
  exact wpAny_execs_nil ⟨F,K,I4,qn⟩
 .refine wpAny_passesOwn B (aO (T.item X rfl rfl rfl Z i a s3 F K X.xe V (c C) G go) ?_)
  rintro r s4 ⟨u,R,h4⟩
  subst R
  refine wpAny_passesOwn B (aO h4 ?_)
  rintro _ s5 ⟨x,Y,I5,r5,y5,y,M⟩
  have P:=I5.pinned (c M) (T.obj _ _ y)
  refine wpAny_passesOwn B (aO (hg _ s5 F Y x u _ P r5 (step x Y y5)) ?_)
  rintro _ s6 ⟨U6,H6,I6,q6⟩
  refine wpAny_passesOwn B (aO (q _ s6 U6 H6 _ I6 q6) λf Q w=> ?_)
  have j: ∀ {k}{p},Inv X _ k p Q->N k p-> ∃m,m<n/\ ∃i A t,Inv X a A t Q/\S i Q.heap/\(∀ b∈L,t b=y0)/\W i m A t:=λ{k p} l E=>by
   obtain⟨m',hm,w7⟩:=hN k p E
   refine⟨m',hm,i+1,k,p,l.bJ,T.keep _ _ _ y λb q o e=>(l.pin _ (Ab0 _ (Ab0 _ (Qg q e)))).1,λb q=> ?_,w7⟩
   obtain⟨o,e,d⟩:=T.obj _ _ y b q
   exact(l.pin _ (Ab0 _ (Ab0 _ (Qg q e)))).2.1
  cases f with
  | next=>obtain⟨k,p,l,E⟩:=w;exact j l E
  | cont=>obtain⟨k,p,l,E⟩:=w;exact j l E
  | brk=>obtain⟨k,p,l,w⟩:=w;exact⟨k,p,l.bJ,w⟩
  | ret v=>obtain⟨x7,k,p,l,r7,w⟩:=w;exact⟨x7,k,p,l.bJ,r7,w⟩
end
abbrev R2:=V->V->Hp->VK->Prop
def b0 (X:Cx) (f:Value->Value->Sem Value) (r:R2):Prop:=
 ∀(pins:List (Addr×Obj)) (s:Shared) (U:St) (H:Hp) (x y:V) (v u:Value) (Q:VK),Inv X pins U H s->RelV x v->RelV y u->r x y H Q →
  wpAny (model X.prog X.w) X.A (f v u) (EP X pins U Q) X.xe s
def mh (X:Cx) (f:Value->Sem Value) (r:V->Hp->VK->Prop):Prop:=
 ∀(pins:List (Addr×Obj)) (s:Shared) (U:St) (H:Hp) (x:V) (v:Value) (Q:VK),Inv X pins U H s->RelV x v->r x H Q →
  wpAny (model X.prog X.w) X.A (f v) (EP X pins U Q) X.xe s
def Wr (X:Cx) (f:Value) (r:List V->Hp->VK->Prop):Prop:=
 ∀(pins:List (Addr×Obj)) (s:Shared) (U:St) (H:Hp) (xs:List V) (a:List Value) (Q:VK),Inv X pins U H s->Vals xs a->r xs H Q →
  wpAny (model X.prog X.w) X.A (call f a) (EP X pins U Q) X.xe s
def FI (X:Cx) (r:V->Hp->(Bool->Hp->Prop)->Prop):Prop:=
 ∀(pins:List (Addr×Obj)) (s:Shared) (U:St) (H:Hp) (x:V) (v:Value) (Q:Bool->Hp->Prop),Inv X pins U H s->RelV x v->r x H Q →
  wpAny (model X.prog X.w) X.A (truthy v) (TP X pins U Q) X.xe s
def kY (r:R2) (a tb:TE):TE:=λU H Q=>a U H λx H1=>tb U H1 λy H2=>r x y H2 Q
def EC (r:V->Hp->VK->Prop) (a:TE):TE:=λU H Q=>a U H λx H1=>r x H1 Q
def rI (C:Int->Int->Prop) (g:Int->Int->V):R2:=λx y H Q=> ∃i j,x= .int i/\y= .int j/\C i j/\Q (g i j) H
def fF (g:Int->Int->V):R2:=λx y H Q=> ∃i j,x= .int i/\y= .int j/\Q (g i j) H
def rU (g:Int->V):V->Hp->VK->Prop:=λx H Q=> ∃i,x= .int i/\Q (g i) H
section
variable {X:Cx}{a b c:Expr}{ta tb tc:TE}{pos:Pos}
def nu (k:PE X a ta) (g:PE X b tb){R:V->V->Hp->Prop}(I:Inv X pins U H s)
 (h:ta U H λx H1=>tb U H1 λy H2=>R x y H2){f:Value->Value->Sem Value}
 (m: ∀v u L x y H2,Inv X pins U H2 L->RelV x v->RelV y u->R x y H2->wpAny (model X.prog X.w) X.A (f v u) Q X.xe L):
 wpAny (model X.prog X.w) X.A (eval a X.env) (λv i=>wpAny (model X.prog X.w) X.A (eval b X.env) (λu j=>wpAny (model X.prog X.w) X.A (f v u) Q X.xe j) X.xe i) X.xe s:=by
 exact aO (k pins s U H _ I h) λv p ⟨x,H1,d,e,n⟩=> aO (g pins p U H1 _ d n) λu L ⟨y,H2,l,c,o⟩=> m v u L x y H2 l e c o
def Bu (k:b0 X (binaryOp op) r) (g:PE X a ta) (f:PE X b tb):PE X (.BinOp a op b pos) (kY r ta tb):=by
 intro c s U H Q I h
 exact wpAny_BinOp (nu g f I h λv u d x y e i j l q=>k c d U e x y v u Q i j l q)
def oy (e:mh X (unaryOp op) r) (d:PE X a ta):PE X (.UnaryOp op a pos) (EC r ta):=by
 intro b s U H Q I h
 exact UnaryOp_ (aO (d b s U H _ I h) λv c ⟨x,f,g,j,i⟩=>e b c U f x v Q g j i)
def kB {g:Int->Int->Int}
 (a: ∀ i j t u s Q E,C i j->Q (.int (g i j) s.toks) { s with toks:=s.toks+1 }->wpAny (model X.prog X.w) X.A (f (.int i t) (.int j u)) Q E s):
 b0 X f (rI C λi j=> .int (g i j)):=by
 intro b s U H x y v u Q I d k h
 obtain⟨i,j,rfl,rfl,e,q⟩:=h
 obtain⟨t,rfl⟩:=d
 obtain⟨c,rfl⟩:=k
 exact a i j t c s _ _ e ⟨.int _,H,I.tok _,⟨_,rfl⟩,q⟩
def lz {g:Int->Int->Int}
 (a: ∀ i j t u s Q E,Q (.int (g i j) s.toks) { s with toks:=s.toks+1 }->wpAny (model X.prog X.w) X.A (f (.int i t) (.int j u)) Q E s):
 b0 X f (fF λi j=> .int (g i j)):=by
 intro b s U H x y v u Q I d e h
 obtain⟨i,j,rfl,rfl,q⟩:=h
 obtain⟨t,rfl⟩:=d
 obtain⟨c,rfl⟩:=e
 exact a i j t c s _ _ ⟨.int _,H,I.tok _,⟨_,rfl⟩,q⟩
def ni {g:Int->Int->Bool}
 (a: ∀ i j t u s Q E,Q (.bool (g i j)) s->wpAny (model X.prog X.w) X.A (f (.int i t) (.int j u)) Q E s):
 b0 X f (fF λi j=> .bl (g i j)):=by
 intro b s U H x y v u Q I d e h
 obtain⟨i,j,rfl,rfl,q⟩:=h
 obtain⟨t,rfl⟩:=d
 obtain⟨c,rfl⟩:=e
 exact a i j t c s _ _ ⟨.bl _,H,I,rfl,q⟩
def vX (i j:Int):Prop:=0<j/\j<1073741824
def yp (i j:Int):Prop:=0<=j/\j<=1000000/\i.natAbs<2 ^ 64
def iA (i j:Int):Prop:=(-(2 ^ 64)<i/\i<2 ^ 64)\/(-(2 ^ 64)<j/\j<2 ^ 64)
def iA.ok (h:iA i j):IntMulOk i j:=by
 obtain⟨a,b⟩ | ⟨a,b⟩:=h
 .exact .of_left (intBits_le_64 a b)
 .exact .of_right (intBits_le_64 a b)
def Cn (k):(0:Int)<=2 ^ k:=by
 exact Ao9 _
def Fg:b0 X (binaryOp .Add) (fF λi j=> .int (i+j)):=lz λ_ _ _ _ _ _ _ q=>add_int q
def DM:b0 X (binaryOp .Sub) (fF λi j=> .int (i-j)):=lz λ_ _ _ _ _ _ _ q=>sub_int q
def BS:b0 X (binaryOp .Mult) (rI iA λi j=> .int (i*j)):=kB λ_ _ _ _ _ _ _ a q=>mul_int q a.ok
def AM:b0 X (binaryOp .FloorDiv) (rI vX λi j=> .int (i / j)):=kB λi j _ _ _ _ _ a q=>by
 have b:=a.1
 have c:=a.2
 exact floordiv_int (by lia) (by rw [Am0 i (by lia)];exact q) (.inl (PyProof.noPylong_small (by lia)))
def Ax:b0 X (binaryOp .Mod) (rI (λ_ j=>0<j) λi j=> .int (i % j)):=kB λi j _ _ _ _ _ a q=>by
 have b:=a
 exact mod_int' (by lia) (by rw [Int.fmod_eq_emod_of_nonneg i (by lia)];exact q)
def Hs:b0 X (binaryOp .Pow) (rI yp λi j=> .int (i ^ j.toNat)):=kB λ_ _ _ _ _ _ _ a q=>pow_int_small a.1 a.2.1 a.2.2 q
def Hn:b0 X (binaryOp .LShift) (rI yp λi j=> .int (i*2 ^ j.toNat)):=kB λ_ _ _ _ _ _ _ a q=>lshift_int_small a.1 a.2.1 a.2.2 q
def Iv:b0 X (binaryOp .RShift) (rI (λ_ j=>0<=j) λi j=> .int (i / 2 ^ j.toNat)):=kB λi j _ _ _ _ _ a q=>
 rshift_int a (by rw [Am0 i (Cn _)];exact q)
def Bn:b0 X (binaryOp .BitAnd) (fF λi j=> .int (Builtin.bitAnd i j)):=lz λ_ _ _ _ _ _ _ q=>and_int q
def Hf:b0 X (binaryOp .BitOr) (fF λi j=> .int (Builtin.bitOr i j)):=lz λ_ _ _ _ _ _ _ q=>or_int q
def DG:b0 X (binaryOp .BitXor) (fF λi j=> .int (Builtin.bitXor i j)):=lz λ_ _ _ _ _ _ _ q=>xor_int q
def vA {g:Int->Int}
 (a: ∀ i t s Q E,Q (.int (g i) s.toks) { s with toks:=s.toks+1 }->wpAny (model X.prog X.w) X.A (f (.int i t)) Q E s):
 mh X f (rU λi=> .int (g i)):=by
 intro b s U H x v Q I c h
 obtain⟨i,rfl,q⟩:=h
 obtain⟨t,rfl⟩:=c
 exact a i t s _ _ ⟨.int _,H,I.tok _,⟨_,rfl⟩,q⟩
def yz:mh X (unaryOp .USub) (rU λi=> .int (-i)):=vA λ_ _ _ _ _ q=>neg_int q
def Dy:mh X (unaryOp .Invert) (rU λi=> .int (Builtin.bitNot i)):=vA λ_ _ _ _ _ q=>invert_int q
end
section
variable {X:Cx}{a b c:Expr}{ta tb tc:TE}{pos:Pos}
def mz (I:Inv X pins U H s) (q:Q (.bl k) H) (e:k=k'):EP X pins U Q (.bool k') s:=by
 subst e
 exact⟨.bl k,H,I,rfl,q⟩
def AV:b0 X (compareOp .Lt) (fF λi j=> .bl (u9 (i<j))):=ni λ_ _ _ _ _ _ _ q=>lt_int q
def HX:b0 X (compareOp .LtE) (fF λi j=> .bl (u9 (i<=j))):=ni λ_ _ _ _ _ _ _ q=>le_int q
def D2:b0 X (compareOp .Gt) (fF λi j=> .bl (u9 (j<i))):=ni λ_ _ _ _ _ _ _ q=>gt_int q
def Co:b0 X (compareOp .GtE) (fF λi j=> .bl (u9 (j<=i))):=ni λ_ _ _ _ _ _ _ q=>ge_int q
def vx (l:b0 X (compareOp op) r) (g:PE X a ta) (f:PE X b tb) (k:behindInMarks op b=k9):PE X (.Compare a [op] [b] pos) (kY r ta tb):=by
 intro c s U H Q I h
 exact wpAny_Compare1 (nu g f I h λv u d x y e i j m q=>l c d U e x y v u Q i j m q) k
def sZ (t:TE):TT:=λU H Q=>t U H λx H'=> ∃k,x= .bl k/\Q k H'
def rb (F:b0 X (compareOp op) r) (q:PE X a ta) (o:PE X b tb) (C:behindInMarks op b=k9):PT X (.Compare a [op] [b] pos) (sZ (kY r ta tb)):=by
 intro d s U H Q I h
 refine wpAny_isTrue_Compare1 (aO (q d s U H _ I h) λv D ⟨x,n,i,j,A⟩=>aO (o d D U n _ i A) λu f ⟨y,m,w,g,B⟩=>
  aO (F d f U m x y v u _ w j g B) λc G ⟨z,E,t,l,k,e,p⟩=> ?_) C
 subst e
 cases l
 exact wpAny_truthy_bool ⟨E,t,p⟩
def oj (r r':R2) (b tb e:TE):TE:=λU H Q=>b U H λx H1=>tb U H1 λy H2=>r x y H2 λz a=> ∃k,z= .bl k ∧
 (if k=u0 then e U a λc d=>r' y c d Q else Q (.bl k9) a)
def CB (T:b0 X (compareOp op) r) (g:b0 X (compareOp op') r') (J:PE X a ta) (G:PE X b tb) (S:PE X c tc)
 (P:lastMarks [op,op'] [b,c]=false:=by with_unfolding_all rfl):PE X (.Compare a [op,op'] [b,c] pos) (oj r r' ta tb tc):=by
 intro f s U H Q I h
 refine Compare_chain (aO (J f s U H _ I h) λv R ⟨x,C,o,p,N⟩=>chain_link (aO (G f R U C _ o N) λu n ⟨y,A,L,i,O⟩=>
  aO (T f n U A x y v u _ L p i O) λd w ⟨z,m,l,t,k,e,j⟩=> ?_)) P
 subst e
 cases t
 refine wpAny_truthy_bool ?_
 cases k with
 | false=>exact ite_ff ⟨.bl k9,m,l,rfl,j⟩
 | true=>exact ite_tt (chain_last (aO (S f w U m _ l j) λD q ⟨B,M,F,E,K⟩=>g f q U M y B u D Q F i E K))
def Hy (ho:b0 X (compareOp op) r) (g:b0 X (compareOp op') r') (N:PE X a ta) (M:PE X b tb) (hc:PE X c tc)
 (Y:lastMarks [op,op'] [b,c]=false:=by with_unfolding_all rfl):PT X (.Compare a [op,op'] [b,c] pos) (sZ (oj r r' ta tb tc)):=by
 intro f s U H Q I h
 refine isTrue_chain (aO (N f s U H _ I h) λv Z ⟨x,G,p,t,T⟩=>test_link (aO (M f Z U G _ p T) λu n ⟨y,C,R,i,V⟩=>
  aO (ho f n U C x y v u _ R t i V) λd B ⟨z,m,l,A,k,e,j⟩=> ?_)) Y
 subst e
 cases A
 refine wpAny_truthy_bool ?_
 cases k with
 | false=>
  obtain⟨k',D,o⟩:=j
  cases D
  exact ite_ff ⟨m,l,o⟩
 | true=>
  refine ite_tt (test_last (aO (hc f B U m _ l j) λJ w ⟨F,S,L,K,O⟩=>aO (g f w U S y F u J _ L i K O) ?_))
  rintro d' s5 ⟨z2,P,q,E,k2,e2,W⟩
  subst e2
  cases E
  exact wpAny_truthy_bool ⟨P,q,W⟩
def kf (K:Aa9) (x:V) (H:Hp) (k:Bool):Prop:=
 match x with
 | .au=>k=k9
 | .bl b=>k=b
 | .int i=>k=(i != 0)
 | .str y=>y.length<=sizeLine/\k=((y.length:Int) != 0)
 | .iB y=>y.size<=sizeLine/\k=((y.size:Int) != 0)
 | .ref p=>(∃ xs,bq K H p xs/\k= !xs.isEmpty)\/(∃ xs,ck K H p xs/\k= !xs.isEmpty)\/ ∃kvs,H p=k0 (.dK kvs)/\k= !kvs.isEmpty
 | _=>False
def Au (r:KV kvs vs):(!vs.isEmpty)= !kvs.isEmpty:=by
 cases r<;>rfl
def qQ (r:Vals xs its):(!its.toArray.isEmpty)= !xs.isEmpty:=by
 cases r<;>simp
def zK:(sizeLine:Nat)<2 ^ 63:=by rw [sizeLine_eq];decide
def ml:FI X (λx H Q=> ∃k,kf X.K x H k/\Q k H):=by
 intro n s U H x v Q I d h
 obtain⟨k,e,q⟩:=h
 have A:=zK
 have B:=sizeLine_eq
 cases x with
 | au=>
  cases d
  have a:=e
  subst a
  exact truthy_none ⟨H,I,q⟩
 | bl b=>
  cases d
  have a:=e
  subst a
  exact wpAny_truthy_bool ⟨H,I,q⟩
 | int i=>
  obtain⟨t,rfl⟩:=d
  have a:=e
  subst a
  exact PySem.P.truthy_int ⟨H,I,q⟩
 | str y=>
  obtain⟨t,rfl⟩:=d
  obtain⟨z,a⟩:y.length<=sizeLine/\k=(_ != 0):=e
  subst a
  exact PySem.P.truthy_str (by lia) ⟨H,I.tok _,q⟩
 | iB y=>
  obtain⟨t,rfl⟩:=d
  obtain⟨z,a⟩:y.size<=sizeLine/\k=(_ != 0):=e
  subst a
  exact PySem.W.truthy_bytes (by lia) ⟨H,I.tok _,q⟩
 | ref p=>
  cases d
  have a:=e
  rcases a with⟨u,f,a⟩ | ⟨u,f,a⟩ | ⟨g,f,a⟩
  .subst a
   obtain⟨l,r,pl,o⟩:=I.list f
   have c:=r.length
   exact wpAny_truthy_list pl.isList (by simp only [Ac0];lia) ⟨H,I.tok _,by rw [qQ r];exact q⟩
  .subst a
   obtain⟨l,r,pl,o⟩:=I.tuple f
   have c:=r.length
   exact truthy_tuple pl (by simp only [Ac0];lia) ⟨H,I.tok _,by rw [qQ r];exact q⟩
  .subst a
   obtain⟨o,w,j,r,m⟩:g.length<=sizeLine/\(p==sysModules)=k9/\ ∃j,KV g j/\s.heap.DictOf _ p j:=I.a0 p _ f
   have c:=Paired.length r
   exact wpAny_truthy_dict w m (by lia) ⟨H,I.tok _,by rw [Au r];exact q⟩
 | _=>exact(e).elim
def C2 (g:PE X a ta) (d: ∀i,isTrue a X.env i=(do let v ←i;standAt a.pos;holding [v] (truthy v))):
 PT X a (λU H Q=>ta U H λx H'=> ∃k,kf X.K x H' k/\Q k H'):=by
 intro b s U H Q I h
 exact isTrue_plain (aO (g b s U H _ I h) λv l ⟨x,f,c,e,j⟩=>ml b l U f x v Q c e j) (d _)
def HI:b0 X (binaryOp .Add) (λx y H Q=> ∃i j,x= .str i/\y= .str j/\i.length+j.length<=sizeLine/\Q (.str (i++j)) H):=by
 intro a s U H x y v u Q I c e h
 obtain⟨i,j,rfl,rfl,d,q⟩:=h
 obtain⟨t,rfl⟩:=c
 obtain⟨b,rfl⟩:=e
 exact add_str (λb f=>⟨.str _,H,I.tok _,⟨_,rfl⟩,q⟩) d
def XM (r:Vals [x] us): ∃u,us= [u]/\RelV x u:=by
 cases r with
 | cons b a=>cases a;exact⟨_,rfl,b⟩
def nX (r:Vals [x,y] us): ∃u i,us= [u,i]/\RelV x u/\RelV y i:=by
 cases r with
 | cons c a=>
  cases a with
  | cons d b=>cases b;exact⟨_,_,rfl,c,d⟩
def JZ:Wr X (.type "int") (fun xs H Q=>(∃ i,xs= [.int i]/\Q (.int i) H)\/ ∃k,xs= [.bl k]/\Q (.int (if k then 1 else 0)) H):=by
 intro a s U H xs c Q I r h
 obtain⟨i,rfl,q⟩ | ⟨k,rfl,q⟩:=h
 .obtain⟨u,rfl,t,rfl⟩:=XM r
  exact call_int_int ⟨.int i,H,I,⟨_,rfl⟩,q⟩
 .obtain⟨u,rfl,b⟩:=XM r
  cases b
  exact call_int_bool ⟨.int _,H,I.tok _,⟨_,rfl⟩,q⟩
def Mx:Wr X (.builtin "divmod") (fun xs H Q=> ∃i j,xs= [.int i,.int j]/\vX i j/\ ∀p,H p=none->Q (.ref p) (aQ H p (.tup [.int (i / j),.int (i % j)]))):=by
 intro a s U H xs d Q I r h
 obtain⟨i,j,rfl,⟨k,l⟩,q⟩:=h
 obtain⟨u,f,rfl,⟨t,rfl⟩,⟨g,rfl⟩⟩:=nX r
 refine divmod_int (by lia) ?_ (.inl (PyProof.noPylong_small (by lia)))
 rw [Am0 i (by lia),Int.fmod_eq_emod_of_nonneg i (by lia)]
 have c:=I.a0.fresh (Aa7 _)
 refine⟨.ref s.heap.objs.size,_,?_,rfl,q _ c⟩
 refine I.laid (λb o e=>Ab1 _ e) (Aa7 _) ⟨by simp only [Aa8,Ad3];decide,[.int _ s.toks,.int _ (s.toks+1)],.cons ⟨_,rfl⟩ (.cons ⟨_,rfl⟩ .nil),?_⟩
 exact⟨_,Ac5 s.heap rfl,rfl,rfl,0,rfl⟩
end
structure eG (h:Heap) (x dx C:Addr) (mA:Str->Option Value):Prop where
 obj:h.get? x=k0 (Ak C dx)
 ns:h.Ns1 dx mA
 ne:dx≠x
def Ay {h:Heap}(n:h.Ns1 dx mA): ∃i,h.get? dx=k0 i/\ ∀name,An1 name i=k0 (mA name):=by
 obtain⟨o,c,m,k,l,d,_,j⟩:=n
 refine⟨o,k,λname=> ?_⟩
 have e:=j name
 unfold nsFind findBy at e
 rw [← Array.find?_toList]at e
 unfold An1
 rw [l]
 dsimp only
 split
 .rename_i y q
  rw [q]at e
  exact congrArg k0 e
 .rename_i q
  rw [q]at e
  have a:c.toList.any (·.refKey)=false:=by
   rw [Ak7]
   intro y g
   obtain⟨z,t,b⟩:=d y (Array.mem_toList_iff.mp g)
   simp [DictEntry.refKey,b]
  have f: ¬c.toList.any (·.refKey)=true:=by rw [a];exact Ac2
  rw [if_neg f]
  exact congrArg k0 e
def eG.look (I:eG h x dx C mA): ∃i,PySem.W.InstAt h x (Ak C dx) C (k0 i)/\ ∀name,An1 name i=k0 (mA name):=
 let ⟨i,b,a⟩:=Ay I.ns
 ⟨i,⟨I.obj,rfl,rfl,b⟩,a⟩
section
variable {prog:Program}{w:World}{A:Around}{E:Value->Shared->Prop}{s:Shared}{K:Aa9}{x dx C f:Addr}{mA:Str->Option Value}{name:Str}{v:Value}
def Hj (X:K.In s.heap) (I:eG s.heap x dx C mA) (f:Am5 K C name=u0) (d:PySem.W.hasDictIn K C=u0)
 (c:Ak6 K (.ref C) name=k0 y0) (b:mA name=k0 v) (a:PySem.W.handedIn v=u0) (h:Q v { s with toks:=s.toks+1 }):
 wpAny (model prog w) A (getAttr (.ref x) name expr) Q E s:=by
 obtain⟨g,J,e⟩:=I.look
 exact PySem.W.get_value X J (An7 f).1 (PySem.W.findObj_own d c rfl (by rw [e,b])) a h
def DW (X:K.In s.heap) (I:eG s.heap x dx C mA) (a:Am5 K C name=u0)
 (e:Ak6 K (.ref C) name=k0 (k0 (.ref f))) (d:PySem.W.isFn K (.ref f)=u0) (b:mA name=y0) (h:Q (.ref f,[.ref x]) s):
 wpAny (model prog w) A (getMethod (.ref x) name pl) Q E s:=by
 obtain⟨g,J,c⟩:=I.look
 exact PySem.W.method_fn X J (An7 a).1 (An7 a).2 e (beq_iff_eq.mp d) (by show(An1 name g).map _=k0 k9;rw [c,b];rfl) h
def E1 (X:K.In s.heap) (I:eG s.heap x dx C mA)
 (o:PySem.W.findIn K (.ref C) "__setattr__" =some (some (.builtin "object.__setattr__"))) (m:PySem.W.plainOver K C=true) (n:PySem.W.takerIn K C name=some none) (i:PySem.W.hasDictIn K C=true)
 (q:PySem.Within mA ns) (r:ns.length<=sizeLine)
 (h: ∀h',eG h' x dx C (λy=>if y=name then k0 v else mA y)->Aj1 dx s.heap h'->Q () { s with heap:=h',toks:=s.toks+2 }):
 wpAny (model prog w) A (setAttr (.ref x) name v) Q E s:=by
 obtain⟨z,J,t⟩:=I.look
 refine PySem.W.set_plain X J o (PySem.W.osa_open X J m n λb=> ?_)
 obtain⟨cd,p,f⟩:=PySem.W.any_some i
 have k:=I.obj
 refine wpAny_bind (wpAny_pure (wpAny_bind (wpAny_bind (wpAny_loadPart k (wpAny_bind (PySem.W.Looks.here (PySem.W.looks_clsIn X p) ?_))))))
 rw [f]
 refine wpAny_pure (wpAny_bind (wpAny_pure (wpAny_bind ?_)))
 refine wpAny_nsSet1 I.ns λh' c a=> ?_
 obtain⟨u,l,j,g,d,e⟩:=c.count (PySem.Within.cons name v q)
 refine wpAny_bind (wpAny_lookBehind g (by rw [d];exact pastItsLine_dict (Ab5 e (by simp_all))) ?_)
 exact wpAny_pure (h _ ⟨(a.2 _ (Ne.symm I.ne)).trans I.obj,c,I.ne⟩ a)
def Ib (X:K.In s.heap) (e:PySem.W.makesIn K C=u0)
 (b:PySem.W.findIn K (.ref C) "__init__" =some (some (.ref f))) (c:PySem.W.typeIn K (.ref f)=some (.type "function"))
 (h:codeAny (model prog w) (A.under (.builtin "type.__call__" ⟨.ref C::vs,kw⟩)) (.call (.ref f) ⟨.ref (s.heap.objs.size+1)::vs,kw⟩) (PySem.W.InitBack (s.heap.objs.size+1) R)
   { s with heap:=(s.heap.push Ah8).push (Ak C s.heap.objs.size) }):
 codeAny (model prog w) A (.call (.ref C) ⟨vs,kw⟩) R s:=by
 obtain⟨i,g,d,t,j⟩:=s
 exact PySem.W.make_core (PySem.W.makes_of X e) (PySem.W.looks_findIn X b) (λa=>PySem.W.bind_fn X a c) (.inl rfl) h
end
noncomputable def aX (f:Str) (v:V):List (Str×V)->List (Str×V)
 | []=> [(f,v)]
 | (g,x)::r=>if g=f then(g,v)::r else(g,x)::aX f v r
theorem ZI (f g) (v): ∀fs:List (Str×V),(aX f v fs).lookup g=if g=f then k0 v else fs.lookup g
 | []=>by
  show Aj g [(f,v)]=_
  by_cases h:g=f
  .have a:=beq_iff_eq.mpr h
   simp only [Aj,a,if_pos h]
  .have a:=beq_eq_false_iff_ne.mpr h
   simp only [Aj,a,if_neg h]
 | (k,x)::r=>by
  have c:=ZI f g v r
  rw [show aX f v ((k,x)::r)=(if k=f then(k,v)::r else(k,x)::aX f v r)from rfl]
  by_cases b:k=f
  .rw [if_pos b]
   by_cases h:g=k
   .have a:=beq_iff_eq.mpr h
    simp only [Aj,a,if_pos (h.trans b)]
   .have a:=beq_eq_false_iff_ne.mpr h
    simp only [Aj,a,if_neg (λe:g=f=>h (e.trans b.symm))]
  .rw [if_neg b]
   by_cases h:g=k
   .have a:=beq_iff_eq.mpr h
    simp only [Aj,a,if_neg (λe:g=f=>b (h.symm.trans e))]
   .have a:=beq_eq_false_iff_ne.mpr h
    simp only [Aj,a]
    exact c
theorem wL (f) (v): ∀fs:List (Str×V),f∈(aX f v fs).map (·.1)/\ ∀g,g∈fs.map (·.1)->g∈(aX f v fs).map (·.1)
 | []=>⟨by simp [aX],λg h=>by simp at h⟩
 | (k,x)::r=>by
  obtain⟨i1,i2⟩:=wL f v r
  rw [show aX f v ((k,x)::r)=(if k=f then(k,v)::r else(k,x)::aX f v r)from rfl]
  by_cases a:k=f
  .rw [if_pos a]
   subst a
   exact⟨by simp,λg h=>by simpa using h⟩
  .rw [if_neg a]
   refine⟨?_,λg h=> ?_⟩
   .rw [Ab2]
    exact Aa2 _ i1
   .rw [Ab2]at h ⊢
    rcases Ab8.mp h with e | e
    .exact Ab8.mpr (.inl e)
    .exact Aa2 _ (i2 g e)
theorem xL (f) (v): ∀fs:List (Str×V),(aX f v fs).length<=fs.length+1
 | []=>by simp [aX]
 | (k,x)::r=>by
  have b:=xL f v r
  rw [show aX f v ((k,x)::r)=(if k=f then(k,v)::r else(k,x)::aX f v r)from rfl]
  by_cases a:k=f
  .rw [if_pos a,Aa8,Aa8];lia
  .rw [if_neg a,Aa8,Aa8];lia
def cx.some_of (r:cx (k0 v) o): ∃u,o=k0 u/\RelV v u:=by
 cases o with
 | none=>exact(r).elim
 | some u=>exact⟨u,rfl,r⟩
def cx.none_of (r:cx y0 o):o=none:=by
 cases o with
 | none=>rfl
 | some u=>exact(r).elim
def LQ (r:RelV v u):PySem.W.handedIn u=true:=by
 cases v with
 | au=>cases (r);rfl
 | bl b=>cases (r);rfl
 | int i=>obtain⟨t,e⟩:=(r);cases e;rfl
 | str x=>obtain⟨t,e⟩:=(r);cases e;rfl
 | iB b=>obtain⟨t,e⟩:=(r);cases e;rfl
 | g0 b=>obtain⟨t,e⟩:=(r);cases e;rfl
 | ref a=>cases (r);rfl
 | ty n=>cases (r);rfl
section
variable {P:Program}{w:World}{H H':Hp}{h h':Heap}{a C dx:Addr}{fs fs':List (Str×V)}
def QV (b:c3 P w H h) (e:H a=k0 (.ins C dx fs)): ∃mA,eG h a dx C mA/\(∀ f,cx (fs.lookup f) (mA f))/\PySem.Within mA (fs.map (·.1))/\fs.length<=1000/\H dx=k0 (.own a):=by
 obtain⟨d,z,ne,c,mA,n,r,q⟩:=(show ba P w H h a (.ins C dx fs)from b a _ e)
 exact⟨mA,⟨c,n,ne⟩,r,q,z,d⟩
end
structure dR (K:Aa9) (C:Addr):Prop where
 pg:Am5 K C Str.empty=u0
 hd:PySem.W.hasDictIn K C=u0
 po:PySem.W.plainOver K C=u0
 sa:PySem.W.findIn K (.ref C) "__setattr__" =some (some (.builtin "object.__setattr__"))
def dR.get {K:Aa9}(c:dR K C) (f):Am5 K C f=true:=c.pg
def b7 (K:Aa9) (C:Addr) (f:Str):Prop:=Ak6 K (.ref C) f=k0 y0
def b7.kW {K:Aa9}(n:b7 K C f):PySem.W.takerIn K C f=k0 none:=by
 unfold PySem.W.takerIn
 rw [show Ak6 K _ f=k0 y0 from n]
 rfl
structure Ni (K:Aa9) (C:Addr) (f:Str) (v:V) (u:Value):Prop where
 at_:Ak6 K (.ref C) f=k0 (k0 u)
 rel:RelV v u
 get:PySem.W.specialIn K u "__get__" =some none
 cp:PySem.W.copiedNames.contains f=k9
structure mZ (K:Aa9) (C:Addr) (m:Str) (f:Addr):Prop where
 at_:Ak6 K (.ref C) m=k0 (k0 (.ref f))
 fn:PySem.W.isFn K (.ref f)=u0
 kp:Ah5 K (.ref f)=u0
section
variable {X:Cx}{pins:List (Addr×Obj)}{U:St}{H:Hp}{s:Shared}{a C dx:Addr}{fs:List (Str×V)}{f:Str}{v:V}{A:Around}{E:Value->Shared->Prop}
def MV (I:Inv X pins U H s) (e:H a=k0 (.ins C dx fs)) (c:dR X.K C) (n:b7 X.K C f) (l:fs.lookup f=k0 v)
 (h: ∀u s',Inv X pins U H s'->RelV v u->Q u s'):wpAny (model X.prog X.w) A (getAttr (.ref a) f b) Q E s:=by
 obtain⟨i,O,r,_,_,_⟩:=QV I.a0 e
 obtain⟨u,g,d⟩:=cx.some_of (by rw [← l];exact r f)
 exact Hj I.cw O (c.get f) c.hd n g (LQ d) (h u _ (I.tok _) d)
def Ec (I:Inv X pins U H s) (e:H a=k0 (.ins C dx fs)) (c:dR X.K C) (k:mZ X.K C m g) (l:fs.lookup m=y0)
 (h:Q (.ref g,[.ref a]) s):wpAny (model X.prog X.w) A (getMethod (.ref a) m pl) Q E s:=by
 obtain⟨d,O,r,_,_,_⟩:=QV I.a0 e
 have b:=cx.none_of (by rw [← l];exact r m)
 exact DW I.cw O (c.get m) k.at_ k.fn b h
def Fe (I:Inv X pins U H s) (e:H a=k0 (.ins C dx fs)) (c:dR X.K C) (n:b7 X.K C f) (D:fs.length<1000) (w:RelV y u)
 (h: ∀s',Inv X pins U (aQ H a (.ins C dx (aX f y fs))) s'->Q () s'):wpAny (model X.prog X.w) A (setAttr (.ref a) f u) Q E s:=by
 obtain⟨k,O,r,i,_,j⟩:=QV I.a0 e
 have t:(fs.map (·.1)).length<=sizeLine:=by rw [Aa,sizeLine_eq];lia
 refine E1 I.cw O c.sa c.po n.kW c.hd i t λp d B=>h _ ?_
 have x: ∃o,p.get? dx=k0 o:=let ⟨o,_,_,l,_⟩:=d.ns; ⟨o,l⟩
 refine I.write (by rw [e];exact True.intro) (.inr j) (λb q m z=>(B.2 b m).trans z) x ?_
 refine⟨by rw [Qa O.ne];exact j,?_,O.ne,d.obj,_,d.ns,λg=> ?_,λg v=> ?_⟩
 .have:=xL f y fs;lia
 .show cx _ _
  rw [ZI]
  by_cases q:g=f
  .rw [if_pos q,if_pos q];exact w
  .rw [if_neg q,if_neg q];exact r g
 .by_cases q:g=f
  .rw [q];exact(wL f y fs).1
  .refine(wL f y fs).2 g (i g λz=>v ?_)
   show(if g=f then k0 u else k g)=y0
   rw [if_neg q];exact z
def Inv.made (I:Inv X pins U H s):Inv X pins U (aQ (aQ H s.heap.objs.size (.own (s.heap.objs.size+1))) (s.heap.objs.size+1) (.ins C s.heap.objs.size []))
 { s with heap:=(s.heap.push Ah8).push (Ak C s.heap.objs.size) }:=by
 have e1:(s.heap.push Ah8).get? s.heap.objs.size=k0 Ah8:=Ac5 s.heap rfl
 have e2:=by
  have:=Ac5 (s.heap.push Ah8) (o:=Ak C s.heap.objs.size) rfl
  rwa [Al]at this
 have c:(s.heap.push Ah8).Ns s.heap.objs.size (λ_=>y0):=⟨Ah8, #[],_,e1,rfl,(λe d=>absurd d (by simp)),λ_=>rfl⟩
 refine (I.laid (o:= .own (s.heap.objs.size+1)) (t':=s.toks) (λb u q=>Ab1 _ q) (Aa7 _) ⟨_,e1⟩).laid (λb u q=>Ab1 _ q) (Al1 (Al _ _)) ?_
 have ne:s.heap.objs.size≠s.heap.objs.size+1:=Ac7 (Ag _)
 refine⟨by rw [Qa ne,wc],Ae6 _,ne,e2,λ_=>y0,(Heap.Ns1.of_empty c).at λo q=>Ab1 _ q,λ_=>True.intro,λy a=>absurd rfl a⟩
def LV (a:attributeBase e f env (eval e env)=eval e env)
 (h:wpAny (model prog w) A (eval e env) (λo i=>wpAny (model prog w) A (getAttr o f u0) Q E i) E s):wpAny (model prog w) A (eval (.Attribute e f pos) env) Q E s:=
 Attribute_any_ h (by rw [arm_eval_Attribute,a])
end
def Lb (K:Aa9) (b:TE) (f:Str):TE:=λU H Q=>b U H λx H1=> ∃a C dx fs v,x= .ref a/\H1 a=k0 (.ins C dx fs)/\dR K C/\b7 K C f/\fs.lookup f=k0 v/\Q v H1
def IG (K:Aa9) (b c:TE) (f:Str):TS:=λD U H=>c U H λy H1=>b U H1 λx H2=> ∃a C dx fs,x= .ref a/\H2 a=k0 (.ins C dx fs)/\dR K C/\b7 K C f/\fs.length<1000 ∧
 D.nx U (aQ H2 a (.ins C dx (aX f y fs)))
section
variable {X:Cx}{o e value:Expr}{f:Str}{pos pos' tpos:Pos}{ta tv:TE}
def AK (j:PE X e ta) (m:attributeBase e f X.env (eval e X.env)=eval e X.env):PE X (.Attribute e f pos) (Lb X.K ta f):=by
 intro b s U H Q I h
 refine LV m (aO (j b s U H _ I h) ?_)
 rintro u w ⟨x,k,i,p,a,C,y,fs,v,ex,d,c,n,l,q⟩
 subst ex
 obtain rfl:u=Value.ref a:=p
 exact MV i d c n l λt r o g=>⟨v,k,o,g,q⟩
def tF (k:PE X o ta) (d:PE X value tv) (p:swapsWith value (k0 (.Attribute o f pos')) pos.line X.env=pure k9):PS X (.Assign [.Attribute o f pos'] value pos) (IG X.K ta tv f):=by
 intro b s U H D I h
 refine plainObj_wpAny_Assign_Attribute (aO (d b s U H _ I h) λu w ⟨y,i,g,z,q⟩=>aO (k b w U i _ g q) λj A ⟨x,B,r,t,a,C,F,fs,ex,e,c,n,l,v⟩=> ?_) p
 subst ex
 obtain rfl:j=Value.ref a:=t
 exact Fe r e c n l z λE m=>⟨U,_,m,v⟩
end
section
variable {X:Cx}{pins:List (Addr×Obj)}{U:St}{H:Hp}{s:Shared}{A:Around}{E:Value->Shared->Prop}{Q:Value->Shared->Prop}{c:Value}{b:Bool}
inductive ft (K:Aa9) (H:Hp):V->Value->Prop where
 | au:ft K H .au (.type "NoneType")
 | bl (x:Bool):ft K H (.bl x) (.type "bool")
 | int (i:Int):ft K H (.int i) (.type "int")
 | str (x:Str):ft K H (.str x) (.type "str")
 | g0 (x:UInt64):ft K H (.g0 x) (.type "float")
 | lst {a:Addr}{xs:List V}(e:H a=k0 (.lst xs)):ft K H (.ref a) (.type "list")
 | eC {a:Addr}{o:Obj}{xs:List V}(e:H a=k0 (.eC o (.lst xs))):ft K H (.ref a) (.type "list")
 | tup {a:Addr}{xs:List V}(e:H a=k0 (.tup xs)):ft K H (.ref a) (.type "tuple")
 | dK {a:Addr}{kvs:List (dj×V)}(e:H a=k0 (.dK kvs)):ft K H (.ref a) (.type "dict")
 | dT {a:Addr}{kvs:List (List dj×V)}(e:H a=k0 (.dT kvs)):ft K H (.ref a) (.type "dict")
 | ins {a C dx:Addr}{fs:List (Str×V)}(e:H a=some (.ins C dx fs)) (cl:dR K C) (ha:PySem.W.findIn K (.ref C) "__class__" =some (some (.builtin "object.__class__")))
  (hn:PySem.W.specialIn K (.builtin "object.__class__") "__get__" =some (some (.builtin "getset_descriptor.__get__"))) (htk:PySem.W.takesIn K (.builtin "object.__class__")=some true)
  (hm:PySem.W.mroIn K C (.type "object")=some true):ft K H (.ref a) (.ref C)
def Jj (I:Inv X pins U H s) (f:RelV x u) (ty:ft X.K H x t) (e:PySem.W.kitOne X.K t c=k0 b) (h: ∀tk,Q (.bool b) { s with toks:=tk }):
 wpAny (model X.prog X.w) A (call (.builtin "isinstance") [u,c]) Q E s:=by
 cases ty with
 | au=>cases (show u=Value.none from f);exact Af2 PySem.W.kitx_none I.cw True.intro e (λz=>nomatch z) h
 | bl y=>cases (show u=Value.bool y from f);exact Af2 PySem.W.kitx_bool I.cw True.intro e (λz=>nomatch z) h
 | int i=>obtain⟨t,q⟩:=(show ∃t,u=Value.int i t from f);cases q;exact Af2 PySem.W.kitx_int I.cw True.intro e (λz=>nomatch z) h
 | str y=>obtain⟨t,q⟩:=(show ∃t,u=Value.str y t from f);cases q;exact Af2 PySem.W.kitx_str I.cw True.intro e (λz=>nomatch z) h
 | g0 y=>obtain⟨t,q⟩:=(show ∃t,u=Value.float y t from f);cases q;exact Af2 PySem.W.kitx_float I.cw True.intro e (λz=>nomatch z) h
 | @lst a k d=>
  cases (show u=Value.ref a from f)
  obtain⟨_,_,n,_,g⟩:=(show ba X.prog X.w H s.heap a (.lst k)from I.a0 a _ d)
  exact Af2 Ao6 I.cw ⟨_,g,rfl⟩ e (λz=>nomatch z) h
 | @eC a v k d=>
  cases (show u=Value.ref a from f)
  obtain⟨_,_,_,n,_,g⟩:=(show ba X.prog X.w H s.heap a (.eC v _)from I.a0 a _ d)
  exact Af2 Ao6 I.cw ⟨_,g,rfl⟩ e (λz=>nomatch z) h
 | @tup a k d=>
  cases (show u=Value.ref a from f)
  obtain⟨_,_,_,p⟩:=(show ba X.prog X.w H s.heap a (.tup k)from I.a0 a _ d)
  obtain⟨o,g,l,_⟩:=p
  exact Af2 PySem.W.kitx_tuple I.cw ⟨o,g,l⟩ e (λz=>nomatch z) h
 | @dK a j d=>
  cases (show u=Value.ref a from f)
  obtain⟨_,_,L,_,p⟩:=(show ba X.prog X.w H s.heap a (.dK j)from I.a0 a _ d)
  obtain⟨o,w,G,g,l,_⟩:=p
  exact Af2 PySem.W.kitx_dict I.cw ⟨o,g,l.1⟩ e (λz=>nomatch z) h
 | @dT a j d=>
  cases (show u=Value.ref a from f)
  obtain⟨_,_,k,_,o,w,G,g,l,_⟩:=(show ba X.prog X.w H s.heap a (.dT j)from I.a0 a _ d)
  exact Af2 PySem.W.kitx_dict I.cw ⟨o,g,l.1⟩ e (λz=>nomatch z) h
 | @ins a C M fs d r B D m F=>
  cases (show u=Value.ref a from f)
  obtain⟨K,O,_⟩:=QV I.a0 d
  obtain⟨N,J,_⟩:=O.look
  exact Af2 (PySem.W.kitx_own (r.get _) r.hd B D m F) I.cw J e (λz=>nomatch z) h
end
structure bc (k:Nat) (A:Around):Prop where
 hd:A.handled=y0
 dp:A.depth+k+5<recursionLimit
 un:A.units+16*k+200<cLine
def bc.mono (r:bc k A) (h:j<=k):bc j A:=⟨r.hd,by have:=r.dp;lia,by have:=r.un;lia⟩
theorem bc.deeper (r:bc (k+1) A) (env):bc k (A.deeper env):=
 ⟨r.hd,by have:=r.dp;show A.depth+1+k+5<_;lia,by have:=r.un;show A.units+3+16*k+200<_;lia⟩
theorem bc.in1 (r:bc (k+1) A):bc k A.in1:=
 ⟨r.hd,by have:=r.dp;lia,by have:=r.un;lia⟩
def L5 {A:Around}:(A.under (.builtin "type.__call__" ⟨.ref C::us,kw⟩)).depth=A.depth+1:=by
 first | rfl | simp [guardIds]
def Dx {A:Around}:(A.under (.builtin "type.__call__" ⟨.ref C::us,kw⟩)).units=A.units+1:=by
 first | rfl | simp [Code.isFrame]
def bc.make (r:bc (k+1) A) (C) (us) (kw):bc k (A.under (.builtin "type.__call__" ⟨.ref C::us,kw⟩)):=
 ⟨r.hd,by have:=r.dp;rw [L5];lia,by have:=r.un;rw [Dx];lia⟩
theorem bc.depth (r:bc k A):A.depth<recursionLimit:=by have:=r.dp;lia
def mX:TA:=λ_ H Q=>Q [] H
def o8 (a:TE) (tr:TA):TA:=λU H Q=>a U H λx H1=>tr U H1 λxs H2=>Q (x::xs) H2
section
variable {X:Cx}{e:Expr}{es:List Expr}{te:TE}{t:TA}{pos:Pos}
def jn:PA X [] mX:=λ_ _ _ _ H Q I h=>Calls.spliced_nil ⟨[],H,I,.nil,h⟩
def Xf (l:PE X e te) (j:PA X es t) (m:starEach (e::es) X.env=(k9,eval e X.env)::starEach es X.env:=by rfl):PA X (e::es) (o8 te t):=by
 intro b a s U H Q I h
 rw [m]
 exact Calls.spliced_cons (aO (l a s U H _ I h) λu q ⟨x,k,d,f,o⟩=> aO (j b a q U k _ d o) λv r ⟨i,g,n,c,p⟩=>⟨x::i,g,n,.cons f c,p⟩)
def LB (t:TA):TE:=λU H Q=>t U H λxs H1=>xs.length<=sizeLine/\ ∀p,H1 p=y0->Q (.ref p) (aQ H1 p (.tup xs))
def En (t:TA):TE:=λU H Q=>t U H λxs H1=>xs.length<=sizeLine/\ ∀p,H1 p=y0->Q (.ref p) (aQ H1 p (.lst xs))
def EM {x1}(h:PA X es t):PE X (.Tuple es x1 pos) (LB t):=by
 intro a s U H Q I g
 refine wpAny_Tuple_spliced (aO (h pos a s U H _ I g) λf d ⟨k,i,c,r,z,q⟩=>⟨by rw [← r.length];exact z,?_⟩)
 have j:=c.a0.fresh (Aa7 _)
 refine⟨.ref d.heap.objs.size,aQ i d.heap.objs.size _,c.laid (λb u e=>Ab1 _ e) (Aa7 _) ?_,rfl,q _ j⟩
 exact⟨z,f,r,⟨_,Ac5 _ rfl,rfl,rfl,_,rfl⟩⟩
def A7 (h:PA X es t):PE X (.List es pos) (En t):=by
 intro a s U H Q I g
 refine wpAny_List_spliced (aO (h pos a s U H _ I g) λf d ⟨k,i,c,r,z,q⟩=>⟨by rw [← r.length];exact z,?_⟩)
 have j:=c.a0.fresh (Aa7 _)
 refine⟨.ref d.heap.objs.size,aQ i d.heap.objs.size _,c.laid (λb u e=>Ab1 _ e) (Aa7 _) ?_,rfl,q _ j⟩
 exact⟨z,f,0,r,Ac5 _ rfl⟩
end
abbrev Sp:=List V->Hp->VK->XK->Prop
abbrev gj:=List Env->Hp->Shared->XK->Value->Shared->Prop
structure du (P:Program) (w:World) (K:Aa9) (mg:Str->Option Value) (base:Heap) (A:Around) (outer:List Env) (s:Shared) (H:Hp):Prop where
 frames:A.frames=k0 outer
 mod:Mod K mg base
 bs: ∀b o,base.get? b=k0 o->s.heap.get? b=k0 o/\H b=y0
 hG:base.objs.size<=s.heap.objs.size
 di:s.heap.FunFrames base outer
 kv: ∀b∈fA outer,H b=y0
 a0:c3 P w H s.heap
 bare:AllBare s.gens
def CE (a:List Env) (P:Program) (w:World) (H:Hp) (s:Shared) (Q:VK) (u:Value) (b:Shared):Prop:=
 ∃v H',b.os=s.os/\AllBare b.gens/\Un (fA a) [] H H' s.heap b.heap/\c3 P w H' b.heap/\RelV v u/\Q v H'
def CR (c:gj) (a:List Env) (P:Program) (w:World) (H:Hp) (s:Shared) (Q:VK) (E:XK) (r:Result) (b:Shared):Prop:=
 match r with
 | .ok (.ret u)=>CE a P w H s Q u b
 | .ok _=>False
 | .error e=>c a H s E e b
structure QG (P:Program) (w:World) (K:Aa9) (mg:Str->Option Value) (base:Heap) (CX:gj) (k:Nat) (f:Addr) (fd:FuncData) (ps:List Str) (sp:Sp):Prop where
 len: ∀vs H Q E,sp vs H Q E->vs.length=ps.length
 run: ∀(A:Around) (outer:List Env) (s:Shared) (H:Hp) (args:Args) (us:List Value) (vs:List V) (Q:VK) (E:XK),bc k A->du P w K mg base A outer s H->BindsTo s fd args (ps.zip us)->Vals vs us->sp vs H Q E →
  codeAny (model P w) A (.call (.ref f) args) (CR CX outer P w H s Q E) s
def du.make {K:Aa9}(e:du P w K mg base A outer s H) (C:Addr) (a:List Value) (b:List (Str×Value)):
 du P w K mg base (A.under (.builtin "type.__call__" ⟨.ref C::a,b⟩)) outer s H:=⟨by first | exact e.frames | (simpa [pushEnvs]using e.frames),e.mod,e.bs,e.hG,e.di,e.kv,e.a0,e.bare⟩
theorem du.in1 {K:Aa9}(e:du P w K mg base A outer s H):
 du P w K mg base A.in1 outer s H:=⟨e.frames,e.mod,e.bs,e.hG,e.di,e.kv,e.a0,e.bare⟩
section
variable {X:Cx}{pins:List (Addr×Obj)}{U:St}{H:Hp}{s s':Shared}
def Inv.iJ (I:Inv X pins U H s):du X.prog X.w X.K X.mg X.base X.A X.stack s H:=
 ⟨I.ok.frames,I.ok.mod,I.bs,Ab5 I.ok.hG I.sz,I.stack,I.eO,I.a0,I.bare⟩
def Inv.after (I:Inv X pins U H s) (h:CE X.stack X.prog X.w H s Q u s'):EP X pins U Q u s':=by
 obtain⟨v,f,i,a,un,e,r,q⟩:=h
 obtain⟨j,g,d,t,c⟩:=s'
 obtain rfl:c=s.os:=i
 exact⟨v,f,I.call un e a (λb z=>absurd z (by simp)),r,q⟩
end
def t5 (b:Sp) (a:List V) (E:XK) (t:TA):TE:=λU H Q=>t U H λc H1=>b (c++a) H1 Q E
def IY (C:Addr) (m:Str) (d:Sp) (b:List V) (E:XK) (c:TE) (t:TA):TE:=λU H Q=>c U H λx H1=> ∃a dx fs,x= .ref a/\H1 a=k0 (.ins C dx fs)/\fs.lookup m=y0 ∧
 t U H1 λe H2=>d (x::(e++b)) H2 Q E
def F1 (C:Addr) (b:Sp) (a:List V) (E:XK) (t:TA):TE:=λU H Q=>t U H λc H1=> ∀x dx,H1 x=y0->H1 dx=y0->dx≠x →
 b (.ref x::(c++a)) (aQ (aQ H1 dx (.own x)) x (.ins C dx [])) (λv H2=>v= .au/\Q (.ref x) H2) E
def Binds (K:Aa9) (b:FuncData) (ps:List Str) (ds:List Value):Prop:=
 ∀(s:Shared) (a:List Value),K.In s.heap->(a++ds).length=ps.length->BindsTo s b ⟨a,[]⟩ (ps.zip (a++ds))
def Binds.all {K:Aa9}(h: ∀i:List Value,i.length=ps.length->bindArgs fd ⟨i,[]⟩=pure (ps.zip i)):Binds K fd ps []:=λs i _ a=>by
 rw [Ae3]at a ⊢
 exact .of_eq (h i a)
def jG (a:gj) (X:Cx) (E:XK):Prop:= ∀(pins:List (Addr×Obj)) (U:St) (H:Hp) (s:Shared) (e:Value) (s':Shared),Inv X pins U H s->a X.stack H s E e s'->X.xe e s'
section
variable {X:Cx}{CX:gj}{k:Nat}{f C:Addr}{fd:FuncData}{ps:List Str}{sp:Sp}{dvs:List V}{ds:List Value}{E:XK}{x m:Str}{p pos apos:Pos}{e o:Expr}{es:List Expr}{ta:TE}{t:TA}
def oV (F:QG X.prog X.w X.K X.mg X.base CX k f fd ps sp) (d:bc k X.A) (l:Binds X.K fd ps ds) (i:Vals dvs ds) (j:jG CX X E)
 (I:Inv X pins U H s) (r:Vals vs us) (h:sp (vs++dvs) H Q E):wpAny (model X.prog X.w) X.A (call (.ref f) us) (EP X pins U Q) X.xe s:=by
 have b:=r.append i
 have g:(us++ds).length=ps.length:=by rw [← b.length];exact F.len _ _ _ _ h
 refine wpAny_call (codeAny_mono (F.run X.A X.stack s H ⟨us,[]⟩ _ _ Q E d I.iJ (l s us I.cw g) b h) λr m a=> ?_)
 cases r with
 | error e=>exact j pins U H s e m I a
 | ok c=>
  cases c with
  | ret u=>exact I.after a
  | next=>exact False.elim a
  | brk=>exact False.elim a
  | cont=>exact False.elim a
def DQ (F:QG X.prog X.w X.K X.mg X.base CX k f fd ps sp) (l:bc k X.A) (u:Gl X x) (o:X.mg x=k0 (.ref f)) (g:Ah5 X.K (.ref f)=u0) (m:Binds X.K fd ps ds) (v:Vals dvs ds) (i:jG CX X E)
 (n:PA X (e::es) t) (b:(x==("__debug__" :Str))=false:=by decide) (j:starEach (e::es) X.env=(false,eval e X.env)::starEach es X.env:=by rfl) (c:(backTo pos (starEach es X.env)).any (·.1)=false:=by rfl):
 PE X (.Call (.Name x p) (e::es) [] pos) (t5 sp dvs E t):=by
 intro a s U H Q I h
 exact wpAny_Call_Name_kw (jS I u o (Ao0 I.ok.mod.ll g (aO (n pos a s U H _ I h) λw A ⟨y,z,d,r,q⟩=>⟨d.cw,oV F l m v i d r q⟩) j c) b)
def Fs (F:QG X.prog X.w X.K X.mg X.base CX k f fd ps sp) (c:bc k X.A) (d:Gl X x) (j:X.mg x=k0 (.ref f)) (e:Ah5 X.K (.ref f)=u0) (l:Binds X.K fd ps ds) (g:Vals dvs ds) (i:jG CX X E)
 (a:(x==("__debug__" :Str))=false:=by decide):PE X (.Call (.Name x p) [] [] pos) (t5 sp dvs E mX):=by
 intro b s U H Q I h
 exact wpAny_Call_Name_kw (jS I d j (PySem.W.callWith_K0 I.cw e (oV F c l g i I .nil h)) a)
def Dk (y:PE X o ta) (c:dR X.K C) (p:mZ X.K C m f) (F:QG X.prog X.w X.K X.mg X.base CX k f fd ps sp) (z:bc k X.A) (B:Binds X.K fd ps ds) (N:Vals dvs ds) (w:jG CX X E) (D:PA X (e::es) t)
 (g:starEach (e::es) X.env=(k9,eval e X.env)::starEach es X.env:=by rfl) (d:(backTo pos (starEach es X.env)).any (·.1)=false:=by rfl)
 (G:eval (.Call (.Attribute o m apos) (e::es) [] pos) X.env=(do
   let L ←eval o X.env
   standAt apos.atName
   let (f,first) ←holding [L] (getMethod L m pl)
   callWith pos f first (backTo pos (starEach (e::es) X.env)) (backToKw pos (keywordEach [] X.env))):=by rfl):
 PE X (.Call (.Attribute o m apos) (e::es) [] pos) (IY C m sp dvs E ta t):=by
 intro b s U H Q I h
 refine PySem.W.methodCall_KW (aO (y b s U H _ I h) λu M ⟨x,A,i,J,a,S,fs,ex,v,l,q⟩=> ?_) G
 subst ex
 obtain rfl:u=Value.ref a:=J
 exact Ec i v c p l (Ao0 I.ok.mod.ll p.kp (aO (D pos b M U A _ i q) λP O ⟨j,R,n,r,K⟩=>⟨n.cw,oV (vs:= .ref a::j) F z B N w n (.cons rfl r) K⟩) g d)
structure Mk (K:Aa9) (C f:Addr):Prop where
 makes:PySem.W.makesIn K C=u0
 init:PySem.W.findIn K (.ref C) "__init__" =some (some (.ref f))
 fn:PySem.W.isFn K (.ref f)=u0
 kp:Ah5 K (.ref C)=u0
def BG (M:Mk X.K C f) (F:QG X.prog X.w X.K X.mg X.base CX k f fd ps sp) (m:bc (k+1) X.A) (n:Binds X.K fd ps ds) (w:Vals dvs ds)
 (j:jG CX X E) (I:Inv X pins U H s) (r:Vals vs us)
 (h: ∀x dx,H x=y0->H dx=y0->dx≠x->sp (.ref x::(vs++dvs)) (aQ (aQ H dx (.own x)) x (.ins C dx [])) (λv H2=>v= .au/\Q (.ref x) H2) E):
 wpAny (model X.prog X.w) X.A (call (.ref C) us) (EP X pins U Q) X.xe s:=by
 have d:=h _ s.heap.objs.size (I.a0.fresh (Ag4 _)) (I.a0.fresh (Aa7 _)) (Ac7 (Ag _))
 have b:=Inv.made (C:=C) I
 have c:Vals (V.ref (s.heap.objs.size+1)::(vs++dvs)) _:= .cons rfl (r.append w)
 have i:=by
  have e:=c.length
  rw [F.len _ _ _ _ d]at e
  exact e.symm
 refine wpAny_call (Ib I.cw M.makes M.init (beq_iff_eq.mp M.fn) (codeAny_mono (F.run _ X.stack _ _ ⟨Value.ref _::us,[]⟩ _ _ _ E (m.make C us [])
  (b.iJ.make C us []) (n _ _ b.cw i) c d) λr o a=> ?_))
 cases r with
 | error e=>exact j pins U _ _ e o b a
 | ok g=>
  cases g with
  | ret u=>
   obtain⟨v,l,q,rv,t,p⟩:=b.after a
   subst t
   exact⟨rv,⟨V.ref _,l,q,rfl,p⟩⟩
  | next=>exact False.elim a
  | brk=>exact False.elim a
  | cont=>exact False.elim a
def El (M:Mk X.K C f) (F:QG X.prog X.w X.K X.mg X.base CX k f fd ps sp) (j:bc (k+1) X.A) (o:Gl X x) (n:X.mg x=k0 (.ref C)) (l:Binds X.K fd ps ds) (u:Vals dvs ds) (g:jG CX X E)
 (m:PA X (e::es) t) (b:(x==("__debug__" :Str))=false:=by decide) (i:starEach (e::es) X.env=(false,eval e X.env)::starEach es X.env:=by rfl) (c:(backTo pos (starEach es X.env)).any (·.1)=false:=by rfl):
 PE X (.Call (.Name x p) (e::es) [] pos) (F1 C sp dvs E t):=by
 intro a s U H Q I h
 exact wpAny_Call_Name_kw (jS I o n (Ao0 I.ok.mod.ll M.kp (aO (m pos a s U H _ I h) λv z ⟨w,y,d,r,q⟩=>⟨d.cw,BG M F j l u g d r q⟩) i c) b)
end
def PK (X:Cx) (a:List Keyword) (t:TA):Prop:=
 ∀(pos:Pos) (pins:List (Addr×Obj)) (s:Shared) (U:St) (H:Hp) (Q:List V->Hp->Prop),Inv X pins U H s->t U H Q->wpAny (model X.prog X.w) X.A (evalAll ((backToKw pos (keywordEach a X.env)).map (·.2))) (AP X pins U Q) X.xe s
section
variable {X:Cx}{CX:gj}{k:Nat}{f C:Addr}{fd:FuncData}{ps ks:List Str}{sp:Sp}{E:XK}{x m:Str}{p pos apos kpos:Pos}{e o:Expr}{es:List Expr}{kws:List Keyword}{te ta:TE}{t tk:TA}{nm:Option Str}
def CG:PK X [] mX:=λ_ _ _ _ H Q I h=>wpAny_evalAll_nil ⟨[],H,I,.nil,h⟩
def FZ (l:PE X e te) (j:PK X kws t):PK X (⟨nm,e,kpos⟩::kws) (o8 te t):=by
 intro b a s U H Q I h
 exact wpAny_evalAll_cons (wpAny_bind (aO (l a s U H _ I h) λu p ⟨x,k,d,f,n⟩=>wpAny_bind (wpAny_standAt (wpAny_pure (aO (j b a p U k _ d n) λr q ⟨i,g,m,c,o⟩=>⟨x::i,g,m,.cons f c,o⟩)))))
structure Nk (K:Aa9) (fd:FuncData) (ps ks:List Str) (g:List Value->List Value->List Value) (gV:List V->List V->List V):Prop where
 to: ∀(s:Shared) (us ws:List Value),K.In s.heap->(g us ws).length=ps.length->BindsTo s fd ⟨us,ks.zip ws⟩ (ps.zip (g us ws))
 rel: ∀ {vs:List V}{us:List Value}{zs:List V}{ws:List Value},Vals vs us->Vals zs ws->Vals (gV vs zs) (g us ws)
variable {g:List Value->List Value->List Value}{gV:List V->List V->List V}
end
structure zD (N P:List Str) (sc:Scope):Prop where
 kind:sc.kind= .function
 co:sc.isCoroutine=k9
 gen:sc.isGenerator=k9
 nd:N.Nodup
 pre:N.take P.length=P
 par: ∀x∈P,sc.names.lookup x=k0 .local\/sc.names.lookup x=k0 .cell
 iQ: ∀y∈sc.names,y.2≠ .free
theorem j4 {a:Str->Option NameKind}: ∀ {i}{m},(∀ v,(x,v)∉i)->bindL a i m x=m x
 | [],_,_=>rfl
 | (n,v)::r,m,h=>by
  unfold bindL
  rw [j4 λw b=>h w (Aa2 _ b)]
  split
  .have:x≠n:=by rintro rfl;exact h v Aa5
   simp [this]
  .rfl
theorem ZW {a:Str->Option NameKind}: ∀ {i}{m},(∀ v,(x,v)∉i)->bindC a i m x=m x
 | [],_,_=>rfl
 | (n,v)::r,m,h=>by
  unfold bindC
  rw [ZW λw b=>h w (Aa2 _ b)]
  split
  .rfl
  .have:x≠n:=by rintro rfl;exact h v Aa5
   simp [this]
theorem ZX {a:Str->Option NameKind}: ∀ {P:List Str}{vs}{i:Nat}{m},P.Nodup->P[i]? =k0 x->vs[i]? =k0 v->a x=k0 .local →
 bindL a (P.zip vs) m x=k0 v
 | [],_,_,_,_,h,_,_=>by simp at h
 | _::_,[],_,_,_,_,h,_=>by simp at h
 | p::P,w::vs,0,m,d,b,c,e=>by
  simp at b c;subst b;subst c
  show bindL a ((p,w)::P.zip vs) m p=_
  unfold bindL
  rw [j4 λv f=>(Ai.mp d).1 (List.of_mem_zip f).1,if_pos e]
  simp
 | p::P,w::vs,i+1,m,d,b,c,e=>by
  unfold bindL
  exact ZX (Ai.mp d).2 (by simpa using b) (by simpa using c) e
theorem q5 {a:Str->Option NameKind}: ∀ {P:List Str}{vs}{i:Nat}{m},P.Nodup->P[i]? =k0 x->vs[i]? =k0 v->a x≠k0 .local →
 bindC a (P.zip vs) m x=k0 v
 | [],_,_,_,_,h,_,_=>by simp at h
 | _::_,[],_,_,_,_,h,_=>by simp at h
 | p::P,w::vs,0,m,d,b,c,e=>by
  simp at b c;subst b;subst c
  show bindC a ((p,w)::P.zip vs) m p=_
  unfold bindC
  rw [ZW λv f=>(Ai.mp d).1 (List.of_mem_zip f).1,if_neg e]
  simp
 | p::P,w::vs,i+1,m,d,b,c,e=>by
  unfold bindC
  exact q5 (Ai.mp d).2 (by simpa using b) (by simpa using c) e
def start (N:List Str) (vs:List V):St:=vs.map k0++Ab (N.length-vs.length) y0
noncomputable def hB (CX:gj) (P:Program) (w:World) (K:Aa9) (mg:Str->Option Value) (base:Heap) (N:List Str) (k7:Str) (scope:Scope) (f:Addr) (cd:Value) (A:Around) (outer:List Env) (s:Shared) (H:Hp) (E:XK):Cx where
 prog:=P
 w:=w
 K:=K
 mg:=mg
 base:=base
 A:=A.deeper (envOfC k7 scope s.heap.objs.size f cd)
 N:=N
 s₀:=s
 H₀:=H
 env:=envOfC k7 scope s.heap.objs.size f cd
 outer:=outer
 stack:=envOfC k7 scope s.heap.objs.size f cd::outer
 ex:= []
 calm:=u0
 fn:=λ_=>u0
 pn:= []
 xe:=λe s'=>wpAny (model P w) (A.deeper (envOfC k7 scope s.heap.objs.size f cd)) (leaving (envOfC k7 scope s.heap.objs.size f cd) e) (λ_ s''=>CX outer H s E e s'') (λe' s''=>CX outer H s E e' s'') s'
def yf {sc:Scope}(h:sc.names.lookup x=k0 .cell): ∃c,(cellsFrom n sc.names []).lookup x=k0 c:=by
 exact Ah9.mp (Am8 sc.names n [] (.inl h))
def Mg {K:Aa9}
 (S:zD N ps scope) (hd:A.handled=y0) (e0:du P w K mg base A outer s H) (hl:vs.length=ps.length) (r:Vals vs us)
 (x:InCallC s s.heap.objs.size (bindL (envOfC k7 scope s.heap.objs.size f cd).kindOf (ps.zip us) λ_=>y0) (cellsFrom (s.heap.objs.size+1) scope.names []) (bindC (envOfC k7 scope s.heap.objs.size f cd).kindOf (ps.zip us) λ_=>y0) s1):
 Inv (hB CX P w K mg base N k7 scope f cd A outer s H E) [] (start N vs) H s1:=by
 have hpl:ps.length<=N.length:=by have:=congrArg List.length S.pre;rw [Af6]at this;lia
 obtain⟨h1,tk,rfl,hk⟩:=x.done
 have noA: ∀b:Addr,b∉(hB CX P w K mg base N k7 scope f cd A outer s H E).ex:=λb z=>absurd (show b∈([]:List Addr)from z) (by simp)
 refine⟨⟨e0.mod,S.kind,rfl,rfl,Aa7 _,λy z c h1 h2=> ?_,λy hy=> ?_,λy c _ h=> ?_,λ_=>hd,Around.frames_deeper e0.frames,.inr ⟨rfl,rfl⟩,λb z=>absurd z (noA b),e0.bs,e0.hG,λb _ _=>noA b,λb z=>absurd z (noA b),e0.di,e0.kv⟩,
  rfl,e0.bare,Un.kept hk,⟨_,x.toInCall.ns,λi y v h1 h2 h3=> ?_⟩,λy c h=>⟨_,x.cell y c h⟩,e0.a0.fresh (Aa7 _),λy c h=> ?_,λp hp=>absurd (show p∈([]:List _)from hp) (by simp),e0.a0.kept hk,?_⟩
 .exact name_of_addr x.apart (PySem.mem_of_lookup h1) (PySem.mem_of_lookup h2)
 .have hy:scope.names.lookup y=k0 .cell\/scope.names.lookup y=k0 .free:=hy
  obtain hy | hy:=hy
  .exact yf hy
  .exact absurd rfl (S.iQ _ (PySem.mem_of_lookup hy))
 .exact Ag1 (x.above y c (PySem.mem_of_lookup h))
 .have hi:i<vs.length:=by
   unfold start at h2
   by_cases hi:i<vs.length
   .exact hi
   .rw [Ad9 (by simpa using hi)]at h2
    rw [Ai2]at h2
    split at h2<;>cases h2
  have ha:vs[i]? =k0 v:=by
   unfold start at h2
   rw [Ac9 (by simpa using hi),Ac]at h2
   cases e:vs[i]? with
   | none=>rw [e]at h2;cases h2
   | some a=>rw [e]at h2;cases h2;rfl
  obtain⟨u,hu,rv⟩:=r.get ha
  have hp:ps[i]? =k0 y:=by
   rw [← S.pre,Am7 (by lia)];exact h1
  have ndP:ps.Nodup:=by rw [← S.pre];exact S.nd.sublist (List.take_sublist _ _)
  refine⟨u,rv,?_⟩
  rcases S.par y (Ac4 hp)with k | k
  .exact .inl ⟨k,ZX ndP hp hu k⟩
  .obtain⟨c,e⟩:=yf (n:=s.heap.objs.size+1) k
   refine .inr ⟨.inl k,c,e,?_⟩
   have q:=x.cell y c e
   rw [q5 ndP hp hu (by show scope.names.lookup y≠_;rw [k];decide)]at q
   exact q
 .exact e0.a0.fresh (Ag1 (x.above y c (PySem.mem_of_lookup h)))
 .unfold start
  show _=N.length
  rw [Aa6,Aa,Ae2]
  lia
def BH {K:Aa9}{dV kV doc pm cdv ct oc:Value}
 (lk:K.lookup f=k0 ⟨oc,od,.func (PySem.W.fnOf name k7 params body scope dV kV doc pm an cdv ct),osl⟩) (hcd:PySem.W.codeIn K cdv k7=u0) (S:zD N ps scope)
 (len: ∀vs H Q E,sp vs H Q E->vs.length=ps.length)
 (hbody: ∀ A outer s H vs Q E,bc k (A.deeper (envOfC k7 scope s.heap.objs.size f cdv))->sp vs H Q E →
   ∃t,dk (hB CX P w K mg base N k7 scope f cdv A outer s H E) body t/\t { nx:=λ_ H'=>Q .au H',rt:=Q } (start N vs) H):
 QG P w K mg base CX (k+1) f (PySem.W.fnOf name k7 params body scope dV kV doc pm an cdv ct) ps sp:=by
 refine⟨len,λA outer s H args us vs Q E hr e0 hb r hsp=> ?_⟩
 have hl:=len _ _ _ _ hsp
 have KX:=e0.mod.ll.keeps λb o e=>(e0.bs b o e).1
 have lim:=e0.mod.nolimit.keeps λb o e=>(e0.bs b o e).1
 have hkind: ∀y∈ps.zip us,scope.names.lookup y.1=k0 .local\/(scope.names.lookup y.1=k0 .cell/\((cellsFrom (s.heap.objs.size+1) scope.names []).lookup y.1).isSome=u0):=by
  rintro ⟨n,v⟩ hy
  obtain q | q:=S.par n (List.of_mem_zip hy).1
  .exact .inl q
  .exact .inr ⟨q,Am8 _ _ _ (.inl q)⟩
 refine codeAny_call_function hr.depth (KX _ _ lk) rfl S.co S.gen rfl (PySem.W.codeRec_of KX hcd) (hb _ _ _ _ ?_)
 refine wpAny_newFunctionEnv_cells S.kind hkind λenv he s1 x=> ?_
 subst he
 refine⟨lim.keeps x.toInCall.keep,codeAny_func ?_⟩
 obtain⟨t,ht,hq⟩:=hbody A outer s H vs Q E (hr.deeper _) hsp
 have I:Inv (hB CX P w K mg base N k7 scope f cdv A outer s H E) [] _ H s1:=Mg S hr.hd e0 hl r x
 refine wpAny_mono (ht [] s1 _ H _ I hq) (λfl s' hs=> ?_) λe s' hs=>hs
 have fin: ∀ {U'}{H'}{v}{u},Inv (hB CX P w K mg base N k7 scope f cdv A outer s H E) [] U' H' s'->RelV v u->Q v H'->CE outer P w H s Q u s':=
  λ{U' H' v u} J rv q=>⟨v,H',J.os,J.bare,J.base,J.a0,rv,q⟩
 cases fl with
 | ret u=>
  obtain⟨v,U',H',J,rv,q⟩:=hs
  exact fin J rv q
 | next=>
  obtain⟨U',H',J,q⟩:=hs
  exact fin (v:=V.au) J rfl q
 | brk=>
  obtain⟨_,_,_,q⟩:=hs
  exact False.elim q
 | cont=>
  obtain⟨_,_,_,q⟩:=hs
  exact False.elim q
section
variable {X:Cx}{x:Str}{p pos:Pos}{e:Expr}{es:List Expr}{t:TA}{id T:String}{r:List V->Hp->VK->Prop}
def oX (r:List V->Hp->VK->Prop) (t:TA):TE:=λU H Q=>t U H λa H1=>r a H1 Q
def Jn (v:Wr X (.builtin id) r) (w:Gl X x) (q:X.mg x=none) (d:bootBuiltins x=some (.builtin id)) (m:PA X (e::es) t) (n:x≠ "__name__" :=by decide) (b:(x==("__debug__" :Str))=false:=by decide)
 (i:starEach (e::es) X.env=(k9,eval e X.env)::starEach es X.env:=by rfl) (c:(backTo pos (starEach es X.env)).any (·.1)=false:=by rfl):PE X (.Call (.Name x p) (e::es) [] pos) (oX r t):=by
 intro a s U H Q I h
 exact wpAny_Call_Name_kw (Jy I w q d (PyProof.Rows.callWith_builtin1 (aO (m pos a s U H _ I h) λf u ⟨j,l,g,k,o⟩=>v a u U l j f Q g k o) i c) n b)
def Wz (v:Wr X (.type T) r) (w:Gl X x) (q:X.mg x=none) (d:bootBuiltins x=some (.type T)) (m:PA X (e::es) t) (n:x≠ "__name__" :=by decide) (b:(x==("__debug__" :Str))=false:=by decide)
 (i:starEach (e::es) X.env=(k9,eval e X.env)::starEach es X.env:=by rfl) (c:(backTo pos (starEach es X.env)).any (·.1)=false:=by rfl):PE X (.Call (.Name x p) (e::es) [] pos) (oX r t):=by
 intro a s U H Q I h
 exact wpAny_Call_Name_kw (Jy I w q d (PyProof.Rows.callWith_type1 (aO (m pos a s U H _ I h) λf u ⟨j,l,g,k,o⟩=>v a u U l j f Q g k o) i c) n b)
end
end L2
namespace HT
open PySem PyProof.Rows
section
variable {prog:Program}{w:World}{A:Around}{E:Value->Shared->Prop}{s:Shared}
def gL (r:IsTup s.heap t vs.toArray) (q:IsTup s.heap b ws.toArray) (m:vs≠ [])
 (h1:ws= []->Q (.ref t) s) (v:ws≠ []->Q (.ref s.heap.objs.size) { s with heap:=s.heap.push { cls:= .type "tuple",data:= .seq (vs++ws).toArray } })
 (y:vs.length+ws.length<=sizeLine):wpAny (model prog w) A (binaryOp .Add (.ref t) (.ref b)) Q E s:=by
 obtain⟨⟨j,dd,i,sl⟩,f,u,n,x⟩:=id r
 obtain⟨⟨o,d,k,c⟩,a,g,p,l⟩:=id q
 subst u x g l
 have e:vs.toArray++ws.toArray=(vs++ws).toArray:=by simp
 by_cases h:ws= []
 .exact concat_meets ⟨_,f,rfl⟩ ⟨_,a,rfl⟩ noFill_tuple_add seq_tuple_add PySem.F.slot_tuple_add PySem.F.entry_tuple_add (PySem.F.args_tuple_add_2 _ _)
   (tuple_addW1 t b vs.toArray ws.toArray n p dd d sl c (by simpa using m) (by simp [h])) ⟨f,a,h1 h⟩
 .refine concat_meets ⟨_,f,rfl⟩ ⟨_,a,rfl⟩ noFill_tuple_add seq_tuple_add PySem.F.slot_tuple_add PySem.F.entry_tuple_add (PySem.F.args_tuple_add_2 _ _)
   (tuple_addW2 t b vs.toArray ws.toArray n p dd d sl c (by simpa using m) (by simp_all) (by simp_all)) ⟨f,a,?_⟩
  rw [e]
  exact v h
def aY (n d:Nat):Option Int->Nat
 | none=>d
 | some v=>if v<0 then(v+(n:Int)).toNat else min v.toNat n
def Hb (n d) (b:d<=n) (o):aY n d o<=n:=by
 cases o with
 | none=>exact b
 | some v=>
  show(if v<0 then(v+ n).toNat else min v.toNat n)<=n
  by_cases a:v<0
  .rw [if_pos a];lia
  .rw [if_neg a];exact Nat.min_le_right _ _
def sO (v) (n d:Nat):(if v<0 then max (v+(n:Int)) 0 else min v (n:Int))=((aY n d (k0 v):Nat):Int):=by
 show(if v<0 then max _ 0 else min v n)=(((if v<0 then(v+(n:Int)).toNat else min v.toNat n)))
 by_cases a:v<0
 .simp only [if_pos a];lia
 .simp [if_neg a];lia
def F9 (b a) (n:Nat):Builtin.Slice.sliceAdjust b a 1 (n:Int)=(((aY n 0 b:Nat):Int),((aY n n a:Nat):Int)):=by
 have c: ¬(1<0):=by lia
 refine Prod.ext ?_ ?_
 .cases b with
  | none=>rfl
  | some v=>exact sO v n 0
 .cases a with
  | none=>rfl
  | some v=>exact sO v n n
def E3 (i j:Nat):Builtin.Slice.slicePlaces (i:Int) (j:Int) 1=j-i:=by
 unfold Builtin.Slice.slicePlaces
 have a: 1>0:=by lia
 simp [Int.ediv_one]
 split<;>lia
def QP (p:IsPart v o) (h:Q o s):wpAny (model prog w) A (Builtin.Slice.slicePartIndex v) Q E s:=by
 cases p with
 | none=>exact slicePart_none h
 | int i t=>exact slicePart_int h
def bI {a d:Option Int}{Q:Int×Int×Nat->Shared->Prop}(f:s.heap.IsSliceOf sl vl vu .none) (pl:IsPart vl a) (g:IsPart vu d)
 (h:Q (((aY n 0 a:Nat):Int),1,aY n n d-aY n 0 a) s):wpAny (model prog w) A (Builtin.Slice.sliceApplied (.ref sl) (pure (n:Int))) Q E s:=by
 obtain⟨i,b,e,c⟩:=id f
 refine wpAny_bind (wpAny_bind (wpAny_field b c (x:=vl) rfl (wpAny_bind (wpAny_field b c (x:=vu) rfl (wpAny_bind (wpAny_field b c rfl (wpAny_pure ?_)))))))
 refine wpAny_bind (slicePart_none ?_)
 refine wpAny_bind (QP pl (wpAny_bind (QP g (wpAny_bind (wpAny_pure ?_)))))
 show wpAny _ _ (match Builtin.Slice.sliceAdjust a d 1 (n:Int)with | (a,d)=>pure (a,(1:Int),Builtin.Slice.slicePlaces a d 1)) _ _ s
 rw [F9 a d n]
 show wpAny _ _ (pure _) _ _ s
 rw [E3]
 exact wpAny_pure h
def HK (xs:Array Value) (i k:Nat):((Aa3 k).filterMap λ(m:Nat)=>xs[((i:Int)+(m:Int)*1).toNat]?).toArray=((xs.toList.drop i).take k).toArray:=by
 have e:(λ(m:Nat)=>xs[(i+(m:Int)*1).toNat]?)=λm=>xs[i+m]? :=by
  funext m
  have:(i+(m:Int)*1).toNat=i+m:=by lia
  rw [this]
 rw [e]
 have:=pick_run xs i k
 rw [List.filterMap_map]at this
 have e2:((λx=>xs[x]?)∘λx=>i+x)=λm=>xs[i+m]? :=rfl
 rw [e2]at this
 rw [this]
def cG {a b:Option Int}(d:IsTup s.heap t u8) (j:s.heap.IsSliceOf sl vl vu .none) (pl:IsPart vl a) (k:IsPart vu b)
 (n: ¬(aY u8.size 0 a=0/\aY u8.size u8.size b=u8.size))
 (h:Q (.ref s.heap.objs.size) { s with heap:=s.heap.push { cls:= .type "tuple",data:= .seq ((u8.toList.drop (aY u8.size 0 a)).take (aY u8.size u8.size b-aY u8.size 0 a)).toArray } })
 (o:u8.size<=sizeLine):wpAny (model prog w) A (getItem (.ref t) (.ref sl)) Q E s:=by
 have c:=by
  show((u8.toList.drop (aY u8.size 0 a)).take (aY u8.size u8.size b-aY u8.size 0 a)).toArray.size<=sizeLine
  rw [Ac0,Af6,Af7,Ai0]
  lia
 have p:aY u8.size u8.size b<=u8.size:=Hb _ _ (Aa7 _) b
 obtain⟨l,e,f,m⟩:=id j
 have g:s.TypeIs (.ref sl) "slice" :=⟨l,e,f⟩
 unfold getItem
 try with_reducible refine wpAny_holding ?_
 refine wpAny_bind (wpAny_sequenceKey d.typeIs rfl ?_)
 refine wpAny_bind (wpAny_callSpecial?_slot d.typeIs PyProof.Rows.slot_tuple_getitem
  (wpAny_call_entry PyProof.Rows.slot_tuple_getitem d.typeIs entry_tuple_getitem ?_ (args_tuple_getitem _ _)))
 show wpAny _ _ (Builtin.Tuple.tupleItemsOf _ >>= _) _ _ s
 refine wpAny_bind (tupleItemsOf_ d ?_)
 refine wpAny_bind (wpAny_typeOf g ?_)
 refine wpAny_bind (bI j pl k ?_)
 have i: ¬((((aY u8.size 0 a:Nat):Int)==0&&(1:Int)==1&&(aY u8.size u8.size b-aY u8.size 0 a)==u8.size)=u0):=by
  intro q
  rw [Aa1,Aa1]at q
  have r:=eq_of_beq q.1.1
  have u:=eq_of_beq q.2
  exact n ⟨by lia,by lia⟩
 show wpAny _ _ (if _=u0 then _ else _) _ _ s
 rw [if_neg i,HK]
 first
  | exact wpAny_bind _
  | exact wpAny_bind (wpAny_newObj_type (wpAny_bind (wpAny_pure (wpAny_pure ⟨_,rfl,wpAny_pure h⟩))) c)
  | exact wpAny_bind _
  | exact wpAny_bind _
end
end HT
namespace L2
open PySem PySem.Spec PyProof.Rows
abbrev TO:=St->Hp->(Option Int->Hp->Prop)->Prop
def PO (X:Cx) (e:Option Expr) (t:TO):Prop:=
 ∀(pins:List (Addr×Obj)) (s:Shared) (U:St) (H:Hp) (Q:Option Int->Hp->Prop),Inv X pins U H s->t U H Q →
  wpAny (model X.prog X.w) X.A (evalPart e X.env) (λu s'=> ∃o H',Inv X pins U H' s'/\IsPart u o/\Q o H') X.xe s
def Dd:TO:=λ_ H Q=>Q y0 H
def EL (t:TE):TO:=λU H Q=>t U H λx H1=> ∃i,x= .int i/\Q (k0 i) H1
section
variable {X:Cx}{e:Expr}{te:TE}{lo hi:Option Expr}{tl th:TO}{pos p2:Pos}
def p6:PO X y0 Dd:=by
 intro a s U H Q I h
 exact wpAny_pure ⟨y0,H,I,.none,h⟩
def wR (h:PE X e te):PO X (k0 e) (EL te):=by
 intro a s U H Q I g
 refine aO (h a s U H _ I g) ?_
 rintro u j ⟨x,d,b,c,f⟩
 obtain⟨i,rfl,q⟩:=f
 obtain⟨t,rfl⟩:=c
 exact⟨k0 i,d,b,.int i t,q⟩
def gs (X:Cx) (r:V->Option Int->Option Int->Hp->VK->Prop):Prop:=
 ∀(pins:List (Addr×Obj)) (s:Shared) (U:St) (H:Hp) (x:V) (v b a:Value) (lo hi:Option Int) (sl:Addr) (Q:VK),Inv X pins U H s->RelV x v->s.heap.IsSliceOf sl b a .none->IsPart b lo->IsPart a hi->r x lo hi H Q →
  ∃T id,typeLookup (.type T) "__getitem__" =pure (some (.builtin id))/\s.TypeIs v T/\wpAny (model X.prog X.w) X.A (getItem v (.ref sl)) (EP X pins U Q) X.xe s
def gs.or (h:gs X r) (h':gs X r'):gs X (λx lo hi H Q=>r x lo hi H Q\/r' x lo hi H Q):=by
 intro a s U H x v c f lo hi sl Q I e d pl b q
 obtain q | q:=q
 .exact h a s U H x v c f lo hi sl Q I e d pl b q
 .exact h' a s U H x v c f lo hi sl Q I e d pl b q
def Eb (r:V->Option Int->Option Int->Hp->VK->Prop) (b:TE) (c d:TO):TE:=λU H Q=>b U H λx H1=>c U H1 λl H2=>d U H2 λu a=>r x l u a Q
def zR (t:gs X r) (m:PE X e te) (j:PO X lo tl) (B:PO X hi th):PE X (.Subscript e (.Slice lo hi y0 p2) pos) (Eb r te tl th):=by
 intro a s U H Q I h
 refine Subscript_ (aO (m a s U H _ I h) λv G ⟨x,y,k,n,E⟩=> wpAny_Slice (aO (j a G U y _ k E) λd i ⟨l,p,D,pl,F⟩=>aO (B a i U p _ D F) λf c ⟨u,g,A,o,z⟩=> wpAny_pure ?_))
 have K:Inv X a U g { c with heap:=c.heap.push { cls:= .type "slice",data:= .fields #[d,f,.none] } }:=A.kept fun b L q=>Heap.get?_push_of_some _ q
 obtain⟨T,id,w,C,J⟩:=t a { c with heap:=c.heap.push { cls:= .type "slice",data:= .fields #[d,f,.none] } } U g x v d f l u c.heap.objs.size Q K n (Heap.IsSliceOf.new ..) pl o z
 exact tail_any C w J (by with_unfolding_all rfl)
noncomputable def kO (xs:List V) (a b:Option Int):List V:=(xs.drop (HT.aY xs.length 0 a)).take (HT.aY xs.length xs.length b-HT.aY xs.length 0 a)
def JI (xs) (lo hi):(kO xs lo hi).length<=xs.length:=by
 unfold kO
 rw [Af6,Af7]
 lia
def nj (K:Aa9):V->Option Int->Option Int->Hp->VK->Prop:=λx lo hi H Q=> ∃a xs,x= .ref a/\ck K H a xs ∧
 ¬(HT.aY xs.length 0 lo=0/\HT.aY xs.length xs.length hi=xs.length)/\ ∀p,H p=y0->Q (.ref p) (aQ H p (.tup (kO xs lo hi)))
def MZ:gs X (nj X.K):=by
 intro f s U H x v t w k j sl Q I o n pl m h
 obtain⟨a,e,rfl,l,p,q⟩:=h
 cases o
 obtain⟨d,r,g,i⟩:=I.tuple l
 have c:d.toArray.size=e.length:=by rw [Ac0];exact r.length.symm
 refine⟨"tuple",_,PyProof.Rows.slot_tuple_getitem.lookup,g.typeIs,?_⟩
 refine HT.cG g n pl m (by rw [c];exact p) ?_ (by rw [c];exact i)
 rw [c]
 refine⟨.ref s.heap.objs.size,_,I.laid (λb u q=>Ab1 _ q) (Aa7 _) ?_,rfl,q _ (I.a0.fresh (Aa7 _))⟩
 exact⟨Ab5 (JI e k j) i,_,(r.drop _).take _,dc.new _ _⟩
def Bo (K:Aa9):R2:=λx y H Q=> ∃a b xs ys,x= .ref a/\y= .ref b/\ck K H a xs/\ck K H b ys/\xs≠ []/\xs.length+ys.length<=sizeLine ∧
 (ys= []->Q (.ref a) H)/\(ys≠ []-> ∀p,H p=y0->Q (.ref p) (aQ H p (.tup (xs++ys))))
def Vals.dJ (r:Vals xs us):us= []↔xs= []:=by
 cases r with
 | nil=>simp
 | cons _ _=>simp
def Lu:b0 X (binaryOp .Add) (Bo X.K):=by
 intro f s U H x y v u Q I m p h
 obtain⟨a,b,A,C,rfl,rfl,l,k,i,g,n,o⟩:=h
 cases m
 cases p
 obtain⟨j,d,t,_⟩:=I.tuple l
 obtain⟨e,c,r,_⟩:=I.tuple k
 refine HT.gL t r (λz=>i (d.dJ.mp z)) (λz=>⟨.ref a,H,I,rfl,n (c.dJ.mp z)⟩) (λz=> ?_) (by rw [← d.length,←c.length];exact g)
 refine⟨.ref s.heap.objs.size,_,I.laid (λb B q=>Ab1 _ q) (Aa7 _) ?_,rfl,o (λw=>z (c.dJ.mpr w)) _ (I.a0.fresh (Aa7 _))⟩
 exact⟨by rw [Aa6];exact g,_,d.append c,dc.new _ _⟩
end
noncomputable def dw (n:Nat) (i:Int):Option Nat:=if 0<=i then(if i<n then k0 i.toNat else y0)else if -(n:Int)<=i then k0 (i+n).toNat else y0
def aP {a:Type}(xs:List a) (i:Int):Option a:=(dw xs.length i).bind λj=>xs[j]?
def sW (h:dw n i=k0 j):seqIndex? i n=k0 j/\j<n/\ -(n:Int)<=i/\i<n:=by
 unfold dw at h
 by_cases b:0<=i
 .rw [if_pos b]at h
  by_cases a:i<n
  .rw [if_pos a]at h
   have e:=Ad6.inj h
   exact⟨by rw [seqIndex_of b a,e],by lia,by lia,a⟩
  .rw [if_neg a]at h;cases h
 .rw [if_neg b]at h
  by_cases a: - n<=i
  .rw [if_pos a]at h
   have e:=Ad6.inj h
   exact⟨by rw [seqIndex_neg (by lia) a,e],by lia,a,by lia⟩
  .rw [if_neg a]at h;cases h
def Z6 (h:aP xs i=k0 v): ∃j,seqIndex? i xs.length=k0 j/\xs[j]? =k0 v/\j<xs.length/\ -(xs.length:Int)<=i/\i<xs.length:=by
 unfold aP at h
 cases e:dw xs.length i with
 | none=>rw [e]at h;cases h
 | some j=>
  rw [e]at h
  obtain⟨c,d,a,b⟩:=sW e
  exact⟨j,c,h,d,a,b⟩
def Zd {j:Nat}(h:xs[j]? =k0 v):aP xs (j:Int)=k0 v:=by
 have a:=(Aa0.mp h).1
 have e:dw xs.length j=k0 j:=by
  unfold dw
  rw [if_pos (by lia),if_pos (by lia)];simp
 unfold aP;rw [e];exact h
def tR (b:Expr):Prop:= ∀o i,subscripted b k9 o i=operate [o,i] (getItem o i)
def gi (X:Cx) (r:R2):Prop:=
 ∀(value a:Expr) (pins:List (Addr×Obj)) (s:Shared) (U:St) (H:Hp) (x y:V) (v u:Value) (Q:VK),Inv X pins U H s->RelV x v->RelV y u->r x y H Q →
  subscripted a k9 v u=operate [v,u] (getItem v u)->wpAny (model X.prog X.w) X.A (subscriptTail value a v u) (EP X pins U Q) X.xe s
def oo (X:Cx) (id:String) (r:V->List V->Hp->VK->Prop):Prop:=
 ∀(pins:List (Addr×Obj)) (s:Shared) (U:St) (H:Hp) (x:V) (xs:List V) (v:Value) (a:List Value) (Q:VK),Inv X pins U H s->RelV x v->Vals xs a->r x xs H Q →
  wpAny (model X.prog X.w) X.A (call (.builtin id) (v::a)) (EP X pins U Q) X.xe s
section
variable {X:Cx}{a b:Expr}{ta tb:TE}{pos:Pos}
def gi.or (h:gi X r) (h':gi X r'):gi X (λx y H Q=>r x y H Q\/r' x y H Q):=by
 intro a b c s U H x y v u Q I f d q e
 obtain q | q:=q
 .exact h a b c s U H x y v u Q I f d q e
 .exact h' a b c s U H x y v u Q I f d q e
def nW (f:gi X r) (i:PE X a ta) (g:PE X b tb) (j:tR b):PE X (.Subscript a b pos) (kY r ta tb):=by
 intro c s U H Q I h
 exact Subscript_ (nu i g I h λv u d x y e k l m q=>f a b c d U e x y v u Q k l m q (j _ _))
def vI (K:Aa9):R2:=λx y H Q=> ∃p xs i v,x= .ref p/\y= .int i/\bq K H p xs/\aP xs i=k0 v/\Q v H
def ra (K:Aa9):R2:=λx y H Q=> ∃p xs i v,x= .ref p/\y= .int i/\ck K H p xs/\aP xs i=k0 v/\Q v H
def uM:R2:=λx y H Q=> ∃z i c,x= .str z/\y= .int i/\z.length<=sizeLine/\aP z.cps.toList i=k0 c/\Q (.str ⟨#[c]⟩) H
def gE:gi X (vI X.K):=by
 intro d g a s U H x y v u Q I B C h k
 obtain⟨p,F,i,z,rfl,rfl,n,o,q⟩:=h
 cases B
 obtain⟨t,rfl⟩:=C
 obtain⟨c,r,pl,J⟩:=I.list n
 obtain⟨j,b,D,K,A,E⟩:=Z6 o
 obtain⟨w,ew,f⟩:=r.get D
 have m:=r.length
 have G:=zK
 have fin:EP X a U Q w s:=⟨z,H,I,f,q⟩
 by_cases l:0<=i
 .have e:=by
   rw [seqIndex_of l E]at b
   exact Ad6.inj b
  exact item_listR pl.isList l (by lia) (by rw [e];simpa using ew) fin k
 .have e:(i+ c.toArray.size).toNat=j:=by
   rw [seqIndex_neg (by lia) A]at b
   rw [Ac0,←m]
   exact Ad6.inj b
  exact subscriptTail_builtinR pl.isList.typeIs slot_list_getitem.lookup
   (wpAny_getItem_list_neg pl.isList (by lia) (by simp_all) (by lia) (by rw [e];simpa using ew) ⟨rfl,fin⟩) k
def aa:gi X (ra X.K):=by
 intro b d a s U H x y v u Q I n o h l
 obtain⟨p,B,i,z,rfl,rfl,f,g,q⟩:=h
 cases n
 obtain⟨t,rfl⟩:=o
 obtain⟨k,r,pl,E⟩:=I.tuple f
 obtain⟨j,m,A,F,C,G⟩:=Z6 g
 obtain⟨w,ew,c⟩:=r.get A
 have e:=r.length
 have D:=zK
 have fin:EP X a U Q w s:=⟨z,H,I,c,q⟩
 exact subscriptTail_builtinR pl.typeIs slot_tuple_getitem.lookup
  (getItem_tuple pl (by lia) (by lia) (by rw [Ac0,←e];exact m) (by simpa using ew) ⟨rfl,fin⟩) l
def nK:gi X uM:=by
 intro a b d s U H x y v u Q I m n h l
 obtain⟨z,i,c,rfl,rfl,A,g,q⟩:=h
 obtain⟨t,rfl⟩:=m
 obtain⟨r,rfl⟩:=n
 obtain⟨j,e,o,B,k,p⟩:=Z6 g
 have f:z.cps.toList.length=z.length:=by simp [Str.length]
 rw [f]at e k p
 have w:=zK
 exact tail_any (typeIs_str s z t) slot_str_getitem.lookup (getItem_str (by
  have e1:u9 (i< -(2 ^ 63:Int))=false:=decide_eq_false (by lia)
  have e2:u9 (i>=2 ^ 63)=false:=decide_eq_false (by lia)
  rw [e1,e2,Bool.or_false]) (by rw [e];simpa using o) ⟨.str ⟨#[c]⟩,H,I.tok _,⟨_,rfl⟩,q⟩) l
def C7 (K:Aa9):R2:=λx y H Q=>vI K x y H Q\/ra K x y H Q\/uM x y H Q
def CD:gi X (C7 X.K):=gE.or (aa.or nK)
def KQ (a:List Value) (n j) (u):Obj.mapSeq (·.setIfInBounds j u) { cls:= .type "list",data:= .seq a.toArray n }= { cls:= .type "list",data:= .seq (a.set j u).toArray n }:=by
 simp [Obj.mapSeq]
theorem Inv.lst (I:Inv X pins U H s) (h:H p=k0 (.lst xs)):
 ∃ i n,Vals xs i/\s.heap.get? p=k0 { cls:= .type "list",data:= .seq i.toArray n }/\xs.length<=sizeLine:=by
 obtain⟨z,i,n,r,e⟩:=I.a0 p _ h
 exact⟨i,n,r,e,z⟩
def Inv.iP {c a:List Value}(I:Inv X pins U H s) (h:H p=k0 (.lst xs))
 (g:s.heap.get? p=k0 { cls:= .type "list",data:= .seq c.toArray n }) (d:f { cls:= .type "list",data:= .seq c.toArray n }= { cls:= .type "list",data:= .seq a.toArray n' }) (r:Vals ys a) (i:ys.length<=sizeLine) (t):
 Inv X pins U (aQ H p (.lst ys)) { s with heap:=s.heap.update p f,toks:=t }:=by
 have e:(s.heap.update p f).get? p=k0 { cls:= .type "list",data:= .seq a.toArray n' }:=by
  rw [Heap.get?_update_self f g (by rw [d]<;>rfl),d]
 refine I.write (by rw [h];trivial) (.inl rfl) (λb u j q=>(An0 _ _ (Ne.symm j)).trans q) ⟨_,e⟩ ?_
 exact⟨i,a,n',r,e⟩
def Bx:V->V->V->Hp->(Hp->Prop)->Prop:=λo i v H Q=> ∃p xs k j,o= .ref p/\i= .int k/\H p=k0 (.lst xs)/\dw xs.length k=k0 j/\Q (aQ H p (.lst (xs.set j v)))
def QR:om X Bx:=by
 intro g s U H o i v D C u Q I A y rv h
 obtain⟨p,B,k,j,rfl,rfl,f,x,q⟩:=h
 cases A
 obtain⟨t,rfl⟩:=y
 obtain⟨a,n,r,d,F⟩:=I.lst f
 obtain⟨b,G,z,w⟩:=sW x
 have m:=r.length
 have E:=zK
 have e:=
  I.iP f d (KQ a n j u) (r.set rv j) (by simp_all) s.toks
 by_cases l:0<=k
 .have c:=by
   rw [seqIndex_of l w]at b
   exact Ad6.inj b
  exact PySem.W.ki_setAt d l (by lia) (by simp_all) (by rw [c];exact⟨_,e,q⟩)
 .have c:(k+ a.toArray.size).toNat=j:=by
   rw [seqIndex_neg (by lia) z]at b
   rw [Ac0,←m]
   exact Ad6.inj b
  exact PySem.W.ki_setBack d (by lia) (by simp_all) (by lia) (by rw [c];exact⟨_,e,q⟩)
def W2 (lo hi) (n):(sliceBounds lo hi y0 n).1=((HT.aY n 0 lo:Nat):Int)/\(sliceBounds lo hi y0 n).2.1=((HT.aY n n hi:Nat):Int)/\(sliceBounds lo hi y0 n).2.2=1:=by
 refine⟨?_,?_,rfl⟩
 .cases lo with
  | none=>simp [sliceBounds,HT.aY]
  | some i=>
   simp [sliceBounds,HT.aY,if_true]
   by_cases h:i<0
   .simp [h,if_true]<;>lia
   .simp [h,if_false]<;>lia
 .cases hi with
  | none=>simp [sliceBounds,HT.aY]
  | some i=>
   simp [sliceBounds,HT.aY,if_true]
   by_cases h:i<0
   .simp [h,if_true]<;>lia
   .simp [h,if_false]<;>lia
def JU (a:List Value) (lo hi):slicePick a.toArray lo hi y0=((a.drop (HT.aY a.length 0 lo)).take (HT.aY a.length a.length hi-HT.aY a.length 0 lo)).toArray:=by
 obtain⟨c,d,b⟩:=W2 lo hi a.toArray.size
 unfold slicePick
 rw [c,d,b]
 simp only [sliceRange_one,pick_run,Ac0]<;>rfl
def nS (K:Aa9):V->Option Int->Option Int->Hp->VK->Prop:=λx lo hi H Q=> ∃a xs,x= .ref a/\bq K H a xs/\ ∀p,H p=y0->Q (.ref p) (aQ H p (.lst (kO xs lo hi)))
def gG:gs X (nS X.K):=by
 intro d s U H x v p u g f sl Q I n m pl j h
 obtain⟨a,k,rfl,i,q⟩:=h
 cases n
 obtain⟨l,r,e,o⟩:=I.list i
 have c:=r.length
 refine⟨"list",_,slot_list_getitem.lookup,e.isList.typeIs,?_⟩
 refine wpAny_getItem_list_slice e.isList m pl j .none (by simp) ?_ (by simp_all)
 rw [JU,←c]
 refine⟨.ref s.heap.objs.size,_,I.laid (λb t q=>Ab1 _ q) (Aa7 _) ?_,rfl,q _ (I.a0.fresh (Aa7 _))⟩
 exact⟨Ab5 (JI k g f) o,_,0,(r.drop _).take _,Ac5 _ rfl⟩
def WZ:Wr X (.builtin "len") (fun xs H Q=> ∃p ys,xs= [.ref p]/\(bq X.K H p ys\/ck X.K H p ys)/\Q (.int ys.length) H):=by
 intro e s U H xs i Q I r h
 obtain⟨p,ys,rfl,b,q⟩:=h
 obtain⟨u,rfl,f⟩:=XM r
 cases f
 have j:=zK
 obtain b | b:=b
 .obtain⟨c,d,pl,g⟩:=I.list b
  have a:=d.length
  exact Calls.call_len_list pl.isList (by simp [Ac0]<;>lia) ⟨.int ys.length,H,I.tok _,⟨s.toks+1,by rw [Ac0,a]⟩,q⟩
 .obtain⟨c,d,pl,g⟩:=I.tuple b
  have a:=d.length
  exact len_tuple pl (by simp [Ac0]<;>lia) ⟨.int ys.length,H,I.tok _,⟨s.toks+1,by rw [Ac0,a]⟩,q⟩
def Z4:Wr X (.builtin "len") (fun xs H Q=> ∃z,xs= [.str z]/\z.length<=sizeLine/\Q (.int z.length) H):=by
 intro a s U H xs b Q I r h
 obtain⟨z,rfl,d,q⟩:=h
 obtain⟨u,rfl,t,rfl⟩:=XM r
 have c:=zK
 exact len_str (by lia) ⟨.int z.length,H,I.tok _,⟨_,rfl⟩,q⟩
def J0:Wr X (.type "list") (fun xs H Q=> ∃p ys,xs= [.ref p]/\(bq X.K H p ys\/ck X.K H p ys)/\ ∀l,H l=none->Q (.ref l) (aQ H l (.lst ys))):=by
 intro i s U H xs x Q I r h
 obtain⟨p,ys,rfl,f,q⟩:=h
 obtain⟨u,rfl,w⟩:=XM r
 cases w
 have fin: ∀ a,Vals ys a->ys.length<=sizeLine-> ∀ b c,_ →
  b.get? s.heap.objs.size=some { cls:= .type "list",dict:=none,data:= .seq a.toArray c,slots:= #[] }->EP X i U Q _ { s with heap:=b }:=fun a d j b c k e=>
  ⟨.ref s.heap.objs.size,_,I.laid k (Aa7 _) (show ba X.prog X.w _ b _ (.lst ys)from⟨j,a,c,d,e⟩),rfl,q _ (I.a0.fresh (Aa7 _))⟩
 obtain f | f:=f
 .obtain⟨a,d,pl,j⟩:=I.list f
  have g:=d.length
  obtain⟨o,t,m,n,v⟩:=pl.isList
  exact call_list_seq p (.inl rfl) t m v (λb c k e=>fin a d j b c k e) (by simp_all)
 .obtain⟨a,d,pl,j⟩:=I.tuple f
  have g:=d.length
  obtain⟨o,t,m,n,v⟩:=pl
  exact call_list_seq p (.inr rfl) t m v (λb c k e=>fin a d j b c k e) (by simp_all)
def Wg:Wr X (.type "tuple") (fun xs H Q=> ∃p ys,xs= [.ref p]/\((bq X.K H p ys/\ ∀l,H l=none->Q (.ref l) (aQ H l (.tup ys)))\/(ck X.K H p ys/\Q (.ref p) H))):=by
 intro a s U H xs v Q I r h
 obtain⟨p,ys,rfl,h⟩:=h
 obtain⟨u,rfl,n⟩:=XM r
 cases n
 obtain⟨d,q⟩ | ⟨d,q⟩:=h
 .obtain⟨c,g,pl,k⟩:=I.list d
  have j:=g.length
  refine call_tuple_list pl.isList (λf t=> ?_) (by simp_all)
  have i:Inv X a U H { s with heap:=f }:=I.kept t
  have m:Inv X a U _ { s with heap:=f.push { cls:= .type "tuple",data:= .seq c.toArray } }:=
   i.laid (λb o e=>Ab1 _ e) (Aa7 _) (show ba X.prog X.w _ _ _ (.tup ys)from⟨k,c,g,dc.new _ _⟩)
  exact⟨.ref f.objs.size,_,m,rfl,q _ (i.a0.fresh (Aa7 _))⟩
 .obtain⟨c,g,pl,k⟩:=I.tuple d
  exact call_tuple_same pl ⟨.ref p,H,I,rfl,q⟩
def pP (K:Aa9) (T:String) (x:V) (H:Hp):Prop:=match x with
 | .str _=>T= "str"
 | .int _=>T= "int"
 | .ref p=>(T= "list" /\ ∃xs,bq K H p xs)\/(T= "tuple" /\ ∃o,K.lookup p=some o/\o.cls= .type "tuple" /\o.dict=none) ∨
  (T= "dict" /\((∃ kvs,H p=some (.dK kvs))\/ ∃kvs,H p=some (.dT kvs)))\/(T= "set" /\ ∃S n,H p=some (.set S n))
 | _=>False
def uf (I:Inv X pins U H s) (r:RelV x v) (ty:pP X.K T x H):
 s.TypeIs v T/\ ∀a,v= .ref a-> ∃ob,s.heap.get? a=k0 ob/\ob.dict=none:=by
 cases x with
 | str z=>
  obtain⟨t,rfl⟩:=r
  cases (ty)
  exact⟨typeIs_str s z t,λ_ e=>nomatch e⟩
 | int i=>
  obtain⟨t,rfl⟩:=r
  cases (ty)
  exact⟨typeIs_int s i t,λ_ e=>nomatch e⟩
 | ref p=>
  cases r
  obtain⟨rfl,k,g⟩ | ⟨rfl,o,b,j,f⟩ | ⟨rfl,b⟩ | ⟨rfl,S,n,b⟩:=ty
  .obtain⟨h,_,pl,_⟩:=I.list g
   refine⟨pl.isList.typeIs,λa e=> ?_⟩
   cases e
   obtain⟨o,n,e,c,f,_⟩:=pl
   exact⟨o,e,f⟩
  .refine⟨⟨o,I.cw p o b,j⟩,λa e=> ?_⟩
   cases e
   exact⟨o,I.cw _ o b,f⟩
  .have z: ∃o,s.heap.get? p=k0 o/\o.ExactDict:=by
    obtain⟨d,b⟩ | ⟨d,b⟩:=b
    .obtain⟨_,_,_,_,o,_,_,e,ex,_⟩:=I.a0 p _ b
     exact⟨o,e,ex⟩
    .obtain⟨_,_,_,_,o,_,_,e,ex,_⟩:=I.a0 p _ b
     exact⟨o,e,ex⟩
   obtain⟨o,e,ex⟩:=z
   refine⟨⟨o,e,ex.1⟩,λa e2=> ?_⟩
   cases e2
   exact⟨o,e,ex.2.1⟩
  .obtain⟨o,_,_,_,e,ex,_⟩:=I.a0 p _ b
   refine⟨⟨o,e,ex.1⟩,λa e2=> ?_⟩
   cases e2
   exact⟨o,e,ex.2.1⟩
 | _=>exact False.elim ty
def Fi (K:Aa9) (T:String) (r:V->List V->Hp->VK->Prop) (a:TE):TE:=λU H Q=>a U H λx H1=>pP K T x H1/\r x [] H1 Q
def MP (K:Aa9) (T:String) (r:V->List V->Hp->VK->Prop) (a:TE) (t:TA):TE:=λU H Q=>a U H λx H1=>pP K T x H1/\t U H1 λxs H2=>r x xs H2 Q
variable {o e:Expr}{es:List Expr}{to:TE}{t:TA}{name:Str}{apos cpos:Pos}{T id:String}{r:V->List V->Hp->VK->Prop}
def DD (i:PlainAttrs T) (d:Slot T name id) (e:typeOf (.builtin id)=pure (.type "method_descriptor")) (m:oo X id r) (p:PE X o to)
 (b:attributeBase o name X.env (eval o X.env)=eval o X.env:=by rfl) (c:(apos.endLine==cpos.line)=true:=by rfl):PE X (.Call (.Attribute o name apos) [] [] cpos) (Fi X.K T r to):=by
 intro a s U H Q I h
 refine wpAny_Call_method0_late b c (aO (p a s U H _ I h) ?_)
 rintro v n ⟨x,j,f,g,ty,l⟩
 obtain⟨k,q⟩:=uf f g ty
 exact⟨T,id,i,d,e,k,q,Calls.callWith_builtin rfl (PySem.evalArgs_none (m a n U j x [] v [] Q f g .nil l))⟩
def nN (u:PlainAttrs T) (f:Slot T name id) (i:typeOf (.builtin id)=pure (.type "method_descriptor")) (F:oo X id r) (J:PE X o to) (z:PA X (e::es) t)
 (b:attributeBase o name X.env (eval o X.env)=eval o X.env:=by rfl)
 (d:((backTo cpos (starEach (e::es) X.env)).all (λx=> !x.1)&&(backToKw cpos (keywordEach [] X.env)).all (λx=>x.1.isSome)
   &&u9 ((e::es).length+([]:List Keyword).length+(if ([]:List Keyword).isEmpty then 0 else 1)<30))=true:=by rfl)
 (c:(apos.endLine==cpos.line)=true:=by rfl) (A:starEach (e::es) X.env=(k9,eval e X.env)::starEach es X.env:=by rfl) (g:(backTo cpos (starEach es X.env)).any (·.1)=false:=by rfl):
 PE X (.Call (.Attribute o name apos) (e::es) [] cpos) (MP X.K T r to t):=by
 intro a s U H Q I h
 refine wpAny_Call_method_late b d c rfl (aO (J a s U H _ I h) ?_)
 rintro v G ⟨x,y,j,k,ty,D⟩
 obtain⟨B,K⟩:=uf j k ty
 refine⟨T,id,u,f,i,B,K,?_⟩
 have l:=z cpos a G U y _ j D
 rw [A]at l ⊢
 refine Calls.callWith_builtin (by assumption) (Calls.evalArgs_plain ?_)
 exact aO l λn m ⟨q,w,C,p,E⟩=>F a m U w x q v n Q C k p E
end
def iG (X:Cx) (id:String) (r:V->List V->Hp->VK->Prop):Prop:=
 ∀(pins:List (Addr×Obj)) (s:Shared) (U:St) (H:Hp) (x:V) (xs:List V) (v:Value) (a:List Value) (Q:VK),Inv X pins U H s->RelV x v->Vals xs a->r x xs H Q →
  wpAny (model X.prog X.w) X.A (call (.builtin id) (v::a)) (EP X pins U Q) X.xe s
def Vals.one: ∀ {x}{i},Vals [x] i-> ∃u,i= [u]/\RelV x u
 | _,_,.cons r .nil=>⟨_,rfl,r⟩
theorem Vals.rep (h:Vals xs us): ∀k:Nat,Vals (Ab k xs).flatten (Ab k us).flatten
 | 0=> .nil
 | k+1=>by
  exact Vals.append h (Vals.rep h k)
theorem W0 (its): ∀ k (a:List Value),
 List.foldl (λj i=>j++i) a.toArray (Ab k its.toArray)=(a++(Ab k its).flatten).toArray
 | 0,a=>by simp
 | k+1,a=>by
  have e:a.toArray++its.toArray=(a++its).toArray:=by simp
  have e2:(a++its)++(Ab k its).flatten=a++(Ab (k+1) its).flatten:=by
   rw [Af3,List.flatten_cons,Ae]
  rw [← e2,←W0 its k (a++its),←e,Af3,Ak3]
section
variable {X:Cx}{pins:List (Addr×Obj)}{U:St}{H:Hp}{s:Shared}{l b:Addr}{xs ys zs:List V}
def Inv.kU {b a:List Value}(I:Inv X pins U H s) (g:H l=k0 (.lst xs))
 (e:s.heap.get? l=k0 { cls:= .type "list",data:= .seq b.toArray n }) (h:f b.toArray=a.toArray) (c:Vals ys a) (i:ys.length<=sizeLine):
 Inv X pins U (aQ H l (.lst ys)) { s with heap:=s.heap.update l (Obj.mapSeq f),toks:=t' }:=by
 have q:=PySem.IsL.update e f
 rw [h]at q
 refine I.write (by rw [g];exact trivial) (.inl rfl) (λk u j d=>(An0 s.heap _ (Ne.symm j)).trans d) ⟨_,q⟩ ?_
 exact⟨i,a,_,c,q⟩
def Inv.lH (I:Inv X pins U H s) (a:Vals ys its) (b:ys.length<=sizeLine):
 Inv X pins U (aQ H s.heap.objs.size (.lst ys)) { s with heap:=s.heap.push { cls:= .type "list",data:= .seq its.toArray },toks:=t' }:=
 I.laid (λ_ _ q=>Ab1 _ q) (Aa7 _) ⟨b,its,0,a,Ac5 _ rfl⟩
theorem Inv.fresh (I:Inv X pins U H s):H s.heap.objs.size=none:=I.a0.fresh (Aa7 _)
def Inv.ib (I:Inv X pins U H s) (a:H l=k0 (.lst xs)):xs.length<=sizeLine/\ ∃ i n,Vals xs i/\xs.length=i.length/\s.heap.get? l=k0 { cls:= .type "list",data:= .seq i.toArray n }:=by
 obtain⟨z,i,n,r,e⟩:=I.a0 l _ a
 exact⟨z,i,n,r,r.length,e⟩
def sG (h:n<=sizeLine):Builtin.List.listTooLong n=false:=by
 exact decide_eq_false (by lia)
end
section
variable {X:Cx}
def CQ:V->List V->Hp->VK->Prop:=λx a H Q=> ∃l xs y,x= .ref l/\a= [y]/\H l=k0 (.lst xs)/\xs.length<sizeLine/\Q .au (aQ H l (.lst (xs++ [y])))
def WY:iG X "list.append" CQ:=by
 intro b s U H x j v g Q I f rv h
 obtain⟨l,k,y,rfl,rfl,c,m,q⟩:=h
 cases f
 obtain⟨u,rfl,d⟩:=rv.one
 obtain⟨z,a,n,r,i,e⟩:=I.ib c
 refine call_meets F.slot_list_append ⟨_,e,rfl⟩ F.entry_list_append (F.args_list_append_2 _ _) (PySem.list_append l a.toArray n u (by simp_all)) ⟨e,?_⟩
 refine⟨.au,_,I.kU c e (by simp) (r.append (.cons d .nil)) ?_,rfl,q⟩
 rw [Aa6,List.length_singleton]
 lia
def KL:V->List V->Hp->VK->Prop:=λx a H Q=> ∃l b xs zs,x= .ref l/\a= [.ref b]/\H l=k0 (.lst xs)/\H b=k0 (.lst zs)/\xs.length+zs.length<=sizeLine/\Q .au (aQ H l (.lst (xs++zs)))
def Iy:iG X "list.extend" KL:=by
 intro g s U H x A v w Q I p rv h
 obtain⟨l,b,B,C,rfl,rfl,i,m,E,q⟩:=h
 cases p
 obtain⟨u,rfl,k⟩:=rv.one
 cases k
 obtain⟨z,c,n,r,y,e⟩:=I.ib i
 obtain⟨D,a,o,j,t,e2⟩:=I.ib m
 have f:c.toArray.size+a.toArray.size<=sizeLine:=by rw [Ac0,Ac0];lia
 have d: ¬(!c.toArray.isEmpty&&Builtin.List.listTooLong (c.toArray.size+a.toArray.size))=true:=by
  rw [sG f,Ah7]
  exact Ac2
 refine call_meets F.slot_list_extend ⟨_,e,rfl⟩ F.entry_list_extend (F.args_list_extend_2 _ _)
  (AutoSeq1.list_extend_list_list_0 l c.toArray n b a.toArray o d (by simp_all) (by lia)) ⟨e,e2,?_⟩
 refine⟨.au,_,I.kU i e (by simp) (r.append j) ?_,rfl,q⟩
 rw [Aa6]
 lia
def Bc (xs:List α) (k):(Ab k xs).flatten.length=k*xs.length:=by simp
end
end L2
namespace Att
open PySem PySem.W PySem.Calls PyProof.Rows
def JK : ∀ ns vs,WellAll P h vs (ns.map WData.int)->IntsAre vs ns:=by
 intro ns
 induction ns with
 | nil=>
  intro vs w
  cases w
  exact .nil
 | cons n ns c=>
  intro vs w
  cases w with
  | cons a b=>
   cases a
   exact .cons _ _ (c _ b)
def Ip {l:OpenLaw}(p:l.most=k0 n)
 (b:l.row.toRowW.claim.pre args=u0) (i:WellAll P h vals args):
 ∃a vs ns,vals= [Value.ref a]/\args= [WData.list (ns.map WData.int)]/\h.get? a=k0 { cls:= .type "list",data:= .seq vs.toArray }/\IntsAre vs ns/\ns.length<=n:=by
 have g:WShape.hasAll [] args [.list .int]=true:=(pre_splitW b).1
 have s:=(pre_splitW b).2
 obtain⟨d,r,rfl,m,w⟩:=hasAllW_cons g
 obtain rfl:=hasAllW_nil w
 obtain⟨x,rfl,t⟩:=hasW_list m
 obtain⟨ns,rfl⟩:=items_int t
 have c:ns.length<=n:=by
  have f:=by
   have f:=(holds_andW s).1
   rw [p]at f
   exact f
  have j:=condW_of f (w_not (w_lt w_lit (w_len_list (w_arg rfl))))
  refine Nat.le_of_not_lt λq=> ?_
  have k:=by omega
  first
   | (rw [decide_eq_true k]at j)
   | (simp at j;lia)
 cases i with
 | cons u o=>
  cases o
  cases u with
  | list v e=>exact⟨_,_,ns,rfl,rfl,v,JK ns _ e,c⟩
def De (l:OpenLaw) (args):l.row.toRowW.claim.post args (.bool u0) args=true:=
 postW_of
  (show WShape.has [] _ .bool=u0 by first | rfl | decide | simp [WShape.armsAll])
  (show (WTm.eq .res _).value [] { args:=args,res:=k0 _,after:=args }=k0 (.bool _)from w_eq_bool (w_res rfl) w_lit) rfl
def dU {l:OpenLaw}
 (A:l.most=k0 n) (k:d.params.defaults= [])
 (call: ∀ w j i mg O M o V cd L a vs ns,
   Ground q loose [] XP w j mg O i.heap->YP w i.heap →
   i.heap.get? M=k0 o->o.data= .func (docDef d.name d.params d.body d.scope V cd L)->i.heap.CodeRec cd d.name->mg d.name=k0 (.ref M) →
   i.heap.get? a=k0 { cls:= .type "list",data:= .seq vs.toArray }->IntsAre vs ns->ns.length<=n->i.gens= #[] →
   codeAny (model l.prog w) callerA (.call (.ref M) ⟨[.ref a],[]⟩) (λr s'=>r= .ok (.ret (.bool u0))/\OldK i.heap s'.heap/\s'.os=i.os/\AllBare s'.gens) i):
 WalkO q loose XP YP l.row.toRowW d [] (λf vs=>PySem.call f vs):=by
 intro w j i mg O G Y M o V cd L z kV E J h s m H v t K g u F p B
 obtain rfl:z= .none:=Dflts.none s k
 obtain rfl:kV= .none:=Dflts.noKw s
 obtain⟨a,vs,ns,rfl,rfl,c,b,e⟩:=Ip A g p
 refine enter_call (codeAny_mono (call w j i mg O M o V cd L a vs ns G Y E (fd_plain J) h m c b e H) λr s' x=> ?_)
 obtain⟨rfl,I,D,y⟩:=x
 exact⟨.inl ⟨.bool u0,.bool u0,[],rfl,λ_=>rfl,.bool u0,De l _,λ_=>⟨Ao7.nil,λ_ C=>(nomatch C)⟩⟩,I,D,y⟩
end Att
namespace L2
open PySem PySem.Spec PyProof.Rows
theorem JY: ∀ {vs}{ns},IntsAre vs ns->Vals (ns.map V.int) vs
 | _,_,.nil=> .nil
 | _,_,.cons n t h=> .cons ⟨t,rfl⟩ (JY h)
def pq (H:Hp):Prop:= ∀b,H b=y0\/ ∃o xs,H b=k0 (.eC o (.lst xs))
def Bg {K:Aa9}
 (S:K.In s₁.heap) (C:s₁.heap.Ns mainGlobals mg) (c:s₁.heap.Ns builtinsNs mb) (L: ∀x:Str,x≠ "__name__" ->mb x=bootBuiltins x) (j:s₁.heap.NoLimit) (hg:s₁.gens= #[])
 (G:s₁.heap.get? a=k0 { cls:= .type "list",data:= .seq vs.toArray }) (Q:IntsAre vs ns) (R:ns.length<=sizeLine) (hr:bc k callerA)
 (F: ∀base:Heap,K.In base->base.Ns mainGlobals mg->QG P w K mg base CX k fa fd [x] sp) (i: ∀ s u,BindsTo s fd ⟨[u],[]⟩ [(x,u)])
 (O: ∀H:Hp,pq H->bq K H a (ns.map V.int)->sp [.ref a] H (λv _=>v= .bl u0) λ_ _ _=>False)
 (I: ∀H e s',CX [] H s₁ (λ_ _ _=>False) e s'->False):
 codeAny (model P w) callerA (.call (.ref fa) ⟨[.ref a],[]⟩) (λr s'=>r= .ok (.ret (.bool u0))/\OldK s₁.heap s'.heap/\s'.os=s₁.os/\AllBare s'.gens) s₁:=by
 have rv:=JY Q
 have t:=Q.length
 have g: ∀H:Hp,pq H->bq K H a (ns.map V.int)->c3 P w H s₁.heap->(∀ b,H b≠y0->b=a)->(H a≠y0->K.lookup a=y0) →
  codeAny (model P w) callerA (.call (.ref fa) ⟨[.ref a],[]⟩) (λr s'=>r= .ok (.ret (.bool u0))/\OldK s₁.heap s'.heap/\s'.os=s₁.os/\AllBare s'.gens) s₁:=by
  intro H T hS D U Y
  have bB: ∀ {b}{o},s₁.heap.get? b=k0 o->H b=y0->(kq s₁.heap H).get? b=k0 o:=λe n=>Fz e n
  have M: ∀ {b}{o}{y}{E},s₁.heap.get? b=k0 o->o.data= .dict y E->H b=none:=λ{b o y E} e d=>by
   cases q:H b with
   | none=>rfl
   | some u=>
    have N:b=a:=U b (by rw [q];simp)
    subst N
    rw [G]at e;cases e
    have d':Data.seq vs.toArray _=Data.dict y E:=d
    cases d'
  have f: ∀ {b}{m},s₁.heap.Ns b m->(kq s₁.heap H).Ns b m:=λ{b m} ⟨o,y,E,e,d,r⟩=>⟨o,y,E,bB e (M e d),d,r⟩
  have l:K.In _:=λb o e=>bB (S b o e) (by
   cases q:H b with
   | none=>rfl
   | some u=>
    have N:b=a:=U b (by rw [q];simp)
    subst N
    rw [Y (by rw [q];simp)]at e;cases e)
  have hM:Mod K mg _:=⟨l,f C,⟨mb,f c,L⟩,let ⟨mc,h1,h2⟩:=j; ⟨mc,f h1,h2⟩⟩
  have e0:du P w K mg _ callerA [] s₁ H:=⟨rfl,hM,λb o e=>B4 e,Al1 (FP _ _),trivial,λb c=>absurd (show b∈([]:List Addr)from c) (by simp),D,.of_eq hg⟩
  refine codeAny_mono ((F _ l (f C)).run callerA [] s₁ H ⟨[.ref a],[]⟩ [.ref a] [.ref a] _ _ hr e0 (i s₁ _) (.cons rfl .nil) (O H T hS)) λr s' h=> ?_
  cases r with
  | error e=>exact(I H e s' h).elim
  | ok W=>
   cases W with
   | next=>exact False.elim h
   | brk=>exact False.elim h
   | cont=>exact False.elim h
   | ret u=>
    obtain⟨v,H',os,B,un,A,r',q⟩:=h
    have X:v= .bl true:=q
    subst X
    obtain rfl:u=Value.bool true:=r'
    refine⟨rfl,OldK.of_keep λb o e=> ?_,os,B⟩
    cases q:H b with
    | none=>exact un.keep b o e q (by intro z;exact absurd (show b∈([]:List Addr)from z) (by simp)) (by simp)
    | some u=>
     obtain z | ⟨Z,xs,z⟩:=T b
     .rw [q]at z;cases z
     .have z2:=un.d7 b Z _ z
      obtain⟨e1,_⟩:=D b _ z
      obtain⟨e2,_⟩:=A b _ z2
      rw [e]at e1;cases e1
      exact e2
 cases J:K.lookup a with
 | some o=>
  have e:=S a o J
  rw [G]at e
  cases e
  refine g (λ_=>y0) (λ_=> .inl rfl) (.inr ⟨_,vs.toArray,_,J,rfl,rfl,rfl,by rw [Ac0,t];exact R,by simpa using rv⟩) (λb u z=>by have p:(none:Option HO)=k0 u:=z;cases p) (λb z=>absurd rfl z) λz=>absurd rfl z
 | none=>
  refine g (fun b=>if b=a then some (.eC { cls:= .type "list",data:= .seq vs.toArray } _)else none) (fun b=> ?_) (.inl (.inr ⟨{ cls:= .type "list",data:= .seq vs.toArray },if_pos rfl⟩)) (fun b u z=> ?_) (fun b z=> ?_) fun _=>J
  .by_cases c:b=a
   .exact .inr ⟨_,_,if_pos c⟩
   .exact .inl (if_neg c)
  .by_cases c:b=a
   .have p:=(if_pos c).symm.trans z
    cases p
    subst c
    exact⟨G,by rw [Aa];exact R,vs,_,rv,G⟩
   .have p:=(if_neg c).symm.trans z
    cases p
  .by_cases c:b=a
   .exact c
   .exact absurd (if_neg c) z
abbrev Nh {K:Aa9}{h:Heap}(_:K.In h):Aa9:=K
def gA {l:PySem.W.OpenLaw}{K:Params->Aa9}{A:World->gj}{B:World->Sp}
 (N:l.most=k0 n) (t:n<=sizeLine) (p:d.params.defaults= []) (I:bc k callerA)
 (Q: ∀ w h,YP w h->(K w.params).In h)
 (F: ∀ w mg j h,(K w.params).In h->h.Ns mainGlobals mg->mg d.name=k0 (.ref j) →
   ∃fd:FuncData,(∀ s u,BindsTo s fd ⟨[u],[]⟩ [(x,u)]) ∧
    ∀base:Heap,(K w.params).In base->base.Ns mainGlobals mg->QG l.prog w (K w.params) mg base (A w) k j fd [x] (B w))
 (y: ∀ w H a (ns:List Int),ns.length<=n->pq H->bq (K w.params) H a (ns.map V.int)->B w [.ref a] H (λv _=>v= .bl u0) λ_ _ _=>False)
 (m: ∀ w H s e s',A w [] H s (λ_ _ _=>False) e s'->False):
 PySem.W.WalkO q loose XP YP l.row.toRowW d [] (λf vs=>PySem.call f vs):=by
 refine Att.dU N p λw C i mg R j o S cd L a vs ns G Y T U E r g c b P=> ?_
 have z:=Q w _ Y
 obtain⟨fd,M,D⟩:=F w mg j _ z G.T.g r
 exact Bg z G.T.g G.T.b G.T.builtins G.T.nolimit P g c (Ab5 b t) I D M (λH O J=>y w H a ns b O J) λH e s'=>m w H i e s'
noncomputable def IU (s:Stmt):Arguments:=match s with
 | .FunctionDef _ a _ _ _ _ _ _ _ _=>a
 | _=> { posonlyargs:= [],args:= [],vararg:=y0,kwonlyargs:= [],kw_defaults:= [],kwarg:=y0,defaults:= [] }
def WJ (s:Stmt):List Stmt:=match s with
 | .FunctionDef _ _ b _ _ _ _ _ _ _=>b
 | _=> []
noncomputable def Wn (s:Stmt):Scope:=match s with
 | .FunctionDef _ _ _ _ _ _ a _ _ _=>a
 | _=> { kind:= .function,names:= [],isGenerator:=k9,isCoroutine:=k9 }
abbrev k5:gj:=λ_ _ _ _ _ _=>False
abbrev E0:XK:=λ_ _ _=>False
structure m1 (K:Aa9) (x k7:Str) (st:Stmt) (f:Addr) (fd:FuncData):Prop where
 ex: ∃(oc:Value) (od:Option Addr) (kV doc pm:Value) (an:Option Addr) (cdv ct:Value) (osl:Array (Option Value)),
  fd=PySem.W.fnOf x k7 (IU st) (WJ st) (Wn st) .none kV doc pm an cdv ct/\K.lookup f=k0 ⟨oc,od,.func fd,osl⟩/\PySem.W.codeIn K cdv k7=u0
 kp:Ah5 K (.ref f)=u0
def Ql (h:n<=1000):n<sizeLine:=Ah6 h (by decide)
section
variable {X:Cx}
def pv (i)(d:X.N[i]? =some x:=by rfl) (b:mv X.env.scope x:=by first | exact Or.inl rfl | exact Or.inr (Or.inl rfl) | exact Or.inr (Or.inr rfl)) (c:(x==("__debug__" :Str))=false:=by decide)
 (a:(x==("__classdict__" :Str))=false:=by decide):PE X (.Name x pos) (lX i):=wI d b c a
end
def oF {A B:Prop}(h:B):if k9=u0 then A else B:=by
 exact h
def nq {A B:Prop}(h:A):if u0=u0 then A else B:=by
 exact h
end L2
set_option maxHeartbeats 4000000
namespace L2
open PySem PySem.Spec PyProof.Rows
noncomputable def Qf (env:Env) (a:List (Str×Addr)) (y:Str×NameKind):List (Str×Addr):=
 if y.2== .free then(match env.cells.lookup y.1 with | some c=>(y.1,c)::a | none=>a)else a
def XQ (a:Scope) (env:Env):List (Str×Addr):=a.names.foldl (Qf env) []
theorem sS : ∀(a:List (Str×NameKind)) i,(∀ y∈a,y.2= .free-> ∃c,env.cells.lookup y.1=k0 c) →
 (do
   let mut j:=i
   for (name,kind) in a do
    if kind== .free then j:=(name,←cellOf env name)::j
   return j:Sem (List (Str×Addr)))=pure (a.foldl (Qf env) i)
 | [],i,_=>by simp
 | (n,k)::r,i,h=>by
  have f:=λj=>sS r j λy l=>h y (Aa2 _ l)
  by_cases d:k= .free
  .subst d
   obtain⟨c,b⟩:=h (n,.free) Aa5 rfl
   have b:=b
   have e:Qf env i (n,.free)=(n,c)::i:=by
    show(if (NameKind.free==NameKind.free)=u0 then(match env.cells.lookup n with | some c=>(n,c)::i | none=>i)else i)=_
    rw [if_pos (show (NameKind.free==NameKind.free)=u0 from rfl),b]
   rw [Ak3,e,←f]
   simp [cellOf,b]
  .have g:(k==NameKind.free)=false:=by simpa using d
   have e:Qf env i (n,k)=i:=by
    show(if (k==NameKind.free)=u0 then _ else i)=_
    rw [g,if_neg Ac2]
   rw [Ak3,e,←f]
   simp [d]
def xR (h: ∀y∈scope.names,y.2= .free-> ∃c,env.cells.lookup y.1=k0 c):closureFor scope env=pure (XQ scope env):=
 sS scope.names [] h
theorem JL : ∀(a:List (Str×NameKind)) i,(∀ x c,i.lookup x=k0 c->env.cells.lookup x=k0 c)-> ∀x c,(a.foldl (Qf env) i).lookup x=k0 c->env.cells.lookup x=k0 c
 | [],_,h=>h
 | (n,k)::r,i,h=>by
  refine JL r (Qf env i (n,k)) λx c e=> ?_
  unfold Qf at e
  split at e
  .split at e
   .rename_i f b
    rw [Ab7]at e
    cases d:x==n with
    | true=>
     rw [d]at e
     have:x=n:=by simpa using d
     subst this
     cases e
     exact b
    | false=>rw [d]at e;exact h x c e
   .exact h x c e
  .exact h x c e
theorem QZ (b:env.cells.lookup x=k0 c): ∀(a:List (Str×NameKind)) j,((x,.free)∈a\/ ∃i,j.lookup x=k0 i)-> ∃i,(a.foldl (Qf env) j).lookup x=k0 i
 | [],j,h=>h.elim (λz=>absurd z (by simp)) id
 | (n,k)::r,j,h=>by
  refine QZ b r (Qf env j (n,k)) ?_
  have grow:(∃ i,j.lookup x=k0 i)-> ∃i,(Qf env j (n,k)).lookup x=k0 i:=by
   rintro ⟨i,e⟩
   unfold Qf
   split
   .split
    .rw [Ab7]
     cases x==n with
     | true=>exact⟨_,rfl⟩
     | false=>exact⟨i,e⟩
    .exact⟨i,e⟩
   .exact⟨i,e⟩
  rcases h with h | h
  .rcases Ab8.mp h with h | h
   .cases h
    refine .inr ⟨c,?_⟩
    show Aj x (if (NameKind.free==NameKind.free)=u0 then(match env.cells.lookup x with | some c=>(x,c)::j | none=>j)else j)=_
    rw [if_pos (show (NameKind.free==NameKind.free)=u0 from rfl),b]
    simp
   .exact .inl h
  .exact .inr (grow h)
def xX (I:Nat->Shared->Prop)
 (g: ∀n s,I n s->wpAny (model prog w) A (pyNext it) (λr L=>match r with
   | none=>R (.ok .next) L
   | some v=>wpAny (model prog w) A (letOwnedTupleGo tg it v) (λ_ j=>wpAny (model prog w) A (assign tg env v) (λ_ O=>
    wpAny (model prog w) A (forIn ifs u0 λc r=>if r=u0 then do let ok ←isTrue c env (eval c env);pure (ForInStep.yield ok)else pure (ForInStep.yield r)) (λok i=>
     if ok=u0 then wpAny (model prog w) A (eval elt env) (λx M=>
      wpAny (model prog w) A (call (.builtin "list.append") [acc,x]) (fun _ V=> ∃m,m<n/\I m V) (notedBy (model prog w) A env fun e s'=>R (.error e) s') M) (notedBy (model prog w) A env fun e s'=>R (.error e) s') i
     else ∃m,m<n/\I m i) (notedBy (model prog w) A env λe s'=>R (.error e) s') O) (notedBy (model prog w) A env λe s'=>R (.error e) s') j) (notedBy (model prog w) A env λe s'=>R (.error e) s') L) (notedBy (model prog w) A env λe s'=>R (.error e) s') s)
 (n) (h:I n s):codeAny (model prog w) A (.compLoop (.ListComp elt [⟨tg,iter,ifs,0⟩] scope pos) 0 it acc env) R s:=by
 refine codeAny_loop rfl I (λn s p=> wpAny_noted ?_) n h
 rw [compTurn_list]
 refine wpAny_bind (wpAny_standAt (wpAny_bind (wpAny_mono (g n s p) (λr L b=> ?_) λ_ _ a=>a)))
 cases r with
 | none=>exact wpAny_pure b
 | some v=>
  refine wpAny_bind (wpAny_mono b (λ_ j f=> wpAny_bind (wpAny_mono f (λ_ O l=>wpAny_bind (wpAny_mono l (λok i d=> ?_) λ_ _ a=>a)) λ_ _ a=>a)) λ_ _ a=>a)
  cases ok with
  | false=>exact wpAny_pure ⟨rfl,d⟩
  | true=>
   exact wpAny_bind (wpAny_bind (wpAny_mono d (λx M k=>wpAny_bind (wpAny_mono k (λ_ V o=>wpAny_pure (wpAny_pure ⟨rfl,o⟩)) λ_ _ a=>a)) λ_ _ a=>a))
theorem Q6 : ∀ i n j,(x,NameKind.cell)∉i->(cellsFrom n i j).lookup x=j.lookup x
 | [],_,_,_=>rfl
 | (y,k)::r,n,j,h=>by
  unfold cellsFrom
  split
  .rename_i a
   have a:=by simpa using a
   subst a
   rw [Q6 r (n+1) _ λz=>h (Aa2 _ z),Ab7]
   cases b:x==y with
   | true=>
    have:x=y:=by simpa using b
    subst this
    exact absurd Aa5 h
   | false=>rfl
  .exact Q6 r n j λz=>h (Aa2 _ z)
theorem nU : ∀ i (h:Heap) j L,(j.lookup x=k0 c->L\/(h.IsCell c y0/\(x,NameKind.cell)∈i\/h.IsCell c y0/\L))-> ∀lo,lo<=h.objs.size →
 (cellsFrom h.objs.size i j).lookup x=k0 c->j.lookup x=k0 c\/(lo<=c/\(x,NameKind.cell)∈i/\(pushCells h i).IsCell c y0)
 | [],_,_,_,_,_,_,e=> .inl e
 | (y,k)::r,h,j,L,n,lo,d,e=>by
  unfold cellsFrom at e
  unfold pushCells
  split at e
  .rename_i a
   rw [if_pos a]
   have a:=by simpa using a
   subst a
   have e:(cellsFrom (h.push { cls:= .type "cell",data:= .cell none }).objs.size r ((y,h.objs.size)::j)).lookup x=some c:=by rw [Heap.size_push];exact e
   rcases nU r (h.push { cls:= .type "cell",data:= .cell none }) _ True (fun _=> .inl trivial) lo (by rw [Heap.size_push];lia) e with q | ⟨l,m,g⟩
   .rw [Ab7]at q
    cases f:x==y with
    | true=>
     rw [f]at q
     have:x=y:=by simpa using f
     subst this
     cases q
     exact .inr ⟨d,List.mem_cons_self,(show (h.push { cls:= .type "cell",data:= .cell none }).IsCell h.objs.size none from⟨_,Heap.get?_push_size _ rfl,rfl⟩).keeps fun b o e=>pushCells_keeps r _ b o e⟩
    | false=>
     rw [f]at q
     exact .inl q
   .exact .inr ⟨l,Aa2 _ m,g⟩
  .rename_i a
   rw [if_neg a]
   rcases nU r h j True (λ_=> .inl trivial) lo d e with q | ⟨l,m,g⟩
   .exact .inl q
   .exact .inr ⟨l,Aa2 _ m,g⟩
theorem nV: ∀(j) (n) (i),(∀ x c,i.lookup x=k0 c->c<n)->(∀ x y c,i.lookup x=k0 c->i.lookup y=k0 c->x=y) →
 ∀x y c,(cellsFrom n j i).lookup x=k0 c->(cellsFrom n j i).lookup y=k0 c->x=y
 | [],_,_,_,a=>a
 | (z,k)::r,n,i,b,a=>by
  unfold cellsFrom
  split
  .have look: ∀x c,((z,n)::i).lookup x=k0 c->(x=z/\c=n)\/(i.lookup x=k0 c):=λx c e=>by
    rw [Ab7]at e
    cases d:x==z with
    | true=>
     rw [d]at e
     cases e
     exact .inl ⟨by simpa using d,rfl⟩
    | false=>
     rw [d]at e
     exact .inr e
   refine nV r (n+1) _ (λx c e=> ?_) λx y c e1 e2=> ?_
   .rcases look x c e with⟨_,q⟩ | q
    .exact q▸Ag n
    .exact Nat.lt_succ_of_lt (b x c q)
   .rcases look x c e1 with⟨l,h⟩ | p<;>rcases look y c e2 with⟨f,g⟩ | q
    .rw [l,f]
    .exact absurd (h▸b y c q) (Ai3 _)
    .exact absurd (g▸b x c p) (Ai3 _)
    .exact a x y c p q
  .exact nV r n i b a
theorem xO : ∀(a:List (Str×NameKind)) i,(a.foldl (Qf env) i).lookup x=k0 c->i.lookup x=k0 c\/(x,NameKind.free)∈a
 | [],_,h=> .inl h
 | (y,k)::r,i,h=>by
  rcases xO r _ h with q | q
  .unfold Qf at q
   split at q
   .rename_i b
    have b:=by simpa using b
    subst b
    split at q
    .rw [Ab7]at q
     cases d:x==y with
     | true=>
      have:x=y:=by simpa using d
      subst this
      exact .inr Aa5
     | false=>
      rw [d]at q
      exact .inl q
    .exact .inl q
   .exact .inl q
  .exact .inr (Aa2 _ q)
theorem w5 {env:Env}: ∀ {a:List (Str×NameKind)}{x},
 ((a.map λ(n,k)=>if(k==NameKind.free&&env.scope.kind== .function&&env.kindOf n==k0 .cell)then(n,NameKind.cell)else(n,k)).lookup x=k0 .cell ∨
   (a.map λ(n,k)=>if(k==NameKind.free&&env.scope.kind== .function&&env.kindOf n==k0 .cell)then(n,NameKind.cell)else(n,k)).lookup x=k0 .free)->(x,.free)∈a\/(x,.cell)∈a
 | [],_,h=>by simp at h
 | (n,k)::r,x,h=>by
  have e:= @w5 env r x
  rw [Ab2]at h
  by_cases b:(k==NameKind.free&&env.scope.kind== .function&&env.kindOf n==k0 .cell)=u0
  .have f:=by
    rw [Aa1,Aa1]at b
    simpa using b.1.1
   subst f
   simp only [b,if_true,Ab7]at h
   cases c:x==n with
   | true=>
    have:x=n:=by simpa using c
    subst this
    exact .inl Aa5
   | false=>
    rw [c]at h
    exact(e h).imp (Aa2 _) (Aa2 _)
  .have d:=Ak8.mpr b
   simp only [d,Ak4,if_false,Ab7]at h
   cases c:x==n with
   | true=>
    have:x=n:=by simpa using c
    subst this
    rw [c]at h
    rcases h with h | h
    .have:k= .cell:=by simpa using h
     subst this
     exact .inr Aa5
    .have:k= .free:=by simpa using h
     subst this
     exact .inl Aa5
   | false=>
    rw [c]at h
    exact(e (by simpa using h)).imp (Aa2 _) (Aa2 _)
theorem rH: ∀ {a:List (Str×NameKind)}{x}{k i},(a.map Prod.fst).Nodup->(x,k)∈a->(x,i)∈a->k=i
 | (y,j)::r,x,k,i,b,c,d=>by
  rw [Ab2,Ai]at b
  rcases Ab8.mp c with e1 | e1<;>rcases Ab8.mp d with e2 | e2
  .cases e1;cases e2;rfl
  .cases e1;exact absurd (Ab6.mpr ⟨_,e2,rfl⟩) b.1
  .cases e2;exact absurd (Ab6.mpr ⟨_,e1,rfl⟩) b.1
  .exact rH b.2 e1 e2
theorem ny: ∀ {a:List (Str×NameKind)}{x}{k},(a.map Prod.fst).Nodup->(x,k)∈a->a.lookup x=k0 k
 | (y,j)::r,x,k,b,h=>by
  rw [Ab2,Ai]at b
  rw [Ab7]
  rcases Ab8.mp h with e | e
  .cases e;simp
  .have:(x==y)=false:=by
    cases c:x==y with
    | false=>rfl
    | true=>
     have:x=y:=by simpa using c
     subst this
     exact absurd (Ab6.mpr ⟨_,e,rfl⟩) b.1
   rw [this]
   exact ny b.2 e
def g8 (a:Scope) (C:Addr) (env:Env):List (Str×Addr):=cellsFrom (C+1) a.names (XQ a env)
def QC 
 (d:Q (newEnv scope s.heap.objs.size globals (cellsFrom (s.heap.objs.size+1) scope.names cl) k7 y0 .none (k0 env) builtinsNs) { s with heap:=pushCells (s.heap.push { cls:= .type "dict",data:= .dict #[] }) scope.names }):
 wpAny M A (newFunctionEnv scope globals cl [] k7 y0 .none (k0 env)) Q E s:=by
 simp only [newFunctionEnv,Option.isSome_some,if_true]
 refine wpAny_bind (wpAny_alloc ?_)
 refine wpAny_bind (wpAny_layCells _ (λname a b=>by cases c:a==NameKind.cell<;>simp [c]) _ _ _ _ ?_)
 rw [show ({ s with heap:=s.heap.push { cls:= .type "dict",data:= .dict #[] } }:Shared).heap.objs.size=s.heap.objs.size+1 from Heap.size_push ..]
 exact wpAny_bind (wpAny_pure (wpAny_pure d))
noncomputable def Ze (X:Cx) (N:List Str) (a:Scope) (C:Addr) (b:List Addr) (s:Shared) (H:Hp):Cx where
 prog:=X.prog
 w:=X.w
 K:=X.K
 mg:=X.mg
 base:=X.base
 A:=X.A
 N:=N
 s₀:=s
 H₀:=H
 env:=compEnvC a (g8 a C X.env) C X.env
 outer:=X.stack
 stack:=X.stack
 ex:=b
 fn:=λx=>u9 (a.names.lookup x=k0 .cell)
 calm:=X.calm
 pn:= []
 xe:=λ_ _=>False
def cE (X:Cx):List Nat->List Str->Prop
 | [],[]=>True
 | j::a,x::xs=>X.N[j]? =k0 x/\(X.env.kindOf x=k0 .cell\/X.env.kindOf x=k0 .free)/\cE X a xs
 | _,_=>False
theorem cE.get {U:St}: ∀ {aB}{xs}{i:Nat}{x}{v},cE X aB xs->xs[i]? =k0 x->(aB.map λj=>(U[j]?).join)[i]? =k0 (k0 v) →
 ∃j:Nat,X.N[j]? =k0 x/\U[j]? =k0 (k0 v)/\(X.env.kindOf x=k0 .cell\/X.env.kindOf x=k0 .free)
 | [],[],_,_,_,_,e,_=>by simp at e
 | [],_::_,_,_,_,h,_,_=>h.elim
 | _::_,[],_,_,_,h,_,_=>h.elim
 | j::d,a::xs,0,x,v,h,e1,e2=>by
  obtain⟨b,c,_⟩:=h
  simp at e1
  subst e1
  refine⟨j,b,?_,c⟩
  have e2:k0 ((U[j]?).join)=k0 (k0 v):=by simpa using e2
  have e2:=Ad6.inj e2
  cases q:U[j]? with
  | none=>rw [q]at e2;cases e2
  | some z=>rw [q]at e2;have:z=k0 v:=e2;rw [this]
 | j::d,a::xs,i+1,x,v,h,e1,e2=>cE.get h.2.2 (by simpa using e1) (by simpa using e2)
theorem cE.length : ∀ {aB}{xs},cE X aB xs->aB.length=xs.length
 | [],[],_=>rfl
 | [],_::_,h=>h.elim
 | _::_,[],h=>h.elim
 | _::_,_::_,h=>congrArg (· +1) (cE.length h.2.2)
def mO (k:Nat) (aB:List Nat) (U:St):St:=Ab k y0++aB.map λ(j:Nat)=>(U[j]?).join
def gJ (X:Cx) (a:List Expr) (t:TT):Prop:=
 ∀(pins:List (Addr×Obj)) (s:Shared) (U:St) (H:Hp) (Q:Bool->Hp->Prop),Inv X pins U H s->t U H Q →
  wpAny (model X.prog X.w) X.A (forIn a u0 λc r=>if r=u0 then do let ok ←isTrue c X.env (eval c X.env);pure (ForInStep.yield ok)else pure (ForInStep.yield r)) (TP X pins U Q) X.xe s
def HC:TT:=λ_ H Q=>Q u0 H
def yV :gJ X [] HC:=λ_ _ _ H _ I h=>wpAny_tests_nil ⟨H,I,h⟩
def vO (h:PT X c t):gJ X [c] t:=λa s U H Q I b=>wpAny_tests_one (h a s U H Q I b)
def sf (J:It) (g:TG) (n:TT) (j:TE) (e:St) (k:Hp) (Q:VK):Prop:= ∃W:Nat->Nat->List V->St->Hp->Prop,(∃ m,W 0 m [] e k)/\ ∀i m ys τ H,W i m ys τ H →
 (J.stop i H/\ys.length<=sizeLine/\ ∀D,H D=y0->Q (.ref D) (aQ H D (.lst ys))) ∨
 (J.go i H/\ys.length<sizeLine/\ ∃N:List V->St->Hp->Prop,(∀ d c H',N d c H'-> ∃f,f<m/\W (i+1) f d c H') ∧
   ∀x H',J.fj i H x H'->g x τ H' λa H2=>n a H2 λb h=>if b=u0 then j a h λy l=>N (ys++ [y]) a l else N ys a h)
abbrev kF (a:Type):=Addr->List Addr->Shared->Hp->a
def mr (k:Nat) (aB:List Nat) (a:TI) (g:kF TG) (c:kF TT) (b:kF TE):TE:=λU H Q=>a U H λJ H1=> ∀C fp s,sf J (g C fp s H1) (c C fp s H1) (b C fp s H1) (mO k aB U) H1 Q
def Inv.adopt (I:Inv X pins U H s) (t:bA X pins H D) (w:X.s₀.heap.objs.size<=D)
 (e:s.heap.get? D=k0 { cls:= .type "list",data:= .seq its.toArray n }) (r:Vals ys its) (A:ys.length<=sizeLine):Inv X pins U (aQ H D (.lst ys)) s:=by
 obtain⟨C,y,F,E,m,B⟩:=t
 have up: ∀b o,H b=k0 o->aQ H D (.lst ys) b=k0 o:=λb o q=>by rw [Qa (Zb q C)];exact q
 have a: ∀b o,X.s₀.heap.get? b=k0 o->b≠D:=λb o q z=>by rw [z]at q;exact absurd (Ab3 (Ac1 q) w) (Ai3 _)
 refine⟨I.ok,I.os,I.bare,⟨I.base.keep,I.base.slot,λb o d l k=> ?_,I.base.there,λb f q=>up b _ (I.base.eN b f q),λb o u q=>up b _ (I.base.d7 b o u q),λb v q=> ?_⟩,I.loc,I.cell,?_,λx c q=> ?_,λp g=> ?_,λb u q=> ?_,I.len⟩
 .rw [Qa (a b o d)];exact I.base.free b o d l k
 .obtain⟨more,i⟩:=I.base.eI b v q
  exact⟨more,up b _ i⟩
 .rw [Qa (Ne.symm y)];exact I.free
 .rw [Qa (m x c q)];exact I.cD x c q
 .obtain⟨j,a2,a3⟩:=I.pin p g
  exact⟨j,by rw [Qa (B p g)];exact a2,a3⟩
 .by_cases h:b=D
  .subst h
   rw [wc]at q
   cases q
   exact⟨A,its,n,r,e⟩
  .rw [Qa h]at q
   exact(I.a0 b u q).dQ (λ_ _ _ z=>z) (λc z=>up c _ z) λc f z=>up c _ z
theorem Qk {env:Env}: ∀ {b:List (Str×NameKind)}{x},b.lookup x=k0 .free →
 ((b.map λ(n,k)=>if(k==NameKind.free&&env.scope.kind== .function&&env.kindOf n==k0 .cell)then(n,NameKind.cell)else(n,k)).lookup x=k0 .cell ∨
   (b.map λ(n,k)=>if(k==NameKind.free&&env.scope.kind== .function&&env.kindOf n==k0 .cell)then(n,NameKind.cell)else(n,k)).lookup x=k0 .free)
 | [],_,h=>by simp at h
 | (n,k)::r,x,h=>by
  have e:= @Qk env r x
  rw [Ab2]
  rw [Ab7]at h
  cases d:x==n with
  | true=>
   rw [d]at h
   have f:=by simpa using h
   subst f
   by_cases a:(NameKind.free==NameKind.free&&env.scope.kind== .function&&env.kindOf n==k0 .cell)=u0
   .simp only [a,if_true,Ab7,d]
    first | exact .inl rfl | exact .inl trivial | simp
   .have c:=Ak8.mpr a
    simp only [c,Ak4,if_false,Ab7,d]
    first | exact .inr rfl | exact .inr trivial | simp
  | false=>
   rw [d]at h
   have q:=e h
   by_cases a:(k==NameKind.free&&env.scope.kind== .function&&env.kindOf n==k0 .cell)=u0
   .simp only [a,if_true,Ab7,d]
    exact q
   .have c:=Ak8.mpr a
    simp only [c,Ak4,if_false,Ab7,d]
    exact q
structure W1 (X:Cx) (scope:Scope) (N:List Str) (k:Nat) (aB:List Nat):Prop where
 kind:scope.kind= .function
 nd:(scope.names.map Prod.fst).Nodup
 names: ∀y∈scope.names,y.2= .local->scope.names.lookup y.1=k0 .local
 free: ∀y∈scope.names,y.2= .free->X.env.kindOf y.1=k0 .cell\/X.env.kindOf y.1=k0 .free
 gF: ∀x∈N.drop k,scope.names.lookup x=k0 .free
 aB:cE X aB (N.drop k)
 le:k<=N.length
structure Nj (sc scope:Scope) (N:List Str) (k:Nat):Prop where
 kind:scope.kind= .function
 nd:(scope.names.map Prod.fst).Nodup
 names: ∀y∈scope.names,y.2= .local->scope.names.lookup y.1=k0 .local
 free: ∀y∈scope.names,y.2= .free->sc.names.lookup y.1=k0 .cell\/sc.names.lookup y.1=k0 .free
 gF: ∀x∈N.drop k,scope.names.lookup x=k0 .free
 le:k<=N.length
section
variable {X:Cx}{elt tg iter:Expr}{ifs:List Expr}{scope:Scope}{pos p0:Pos}{N:List Str}{k:Nat}{aB:List Nat}{wi:TI}{g:kF TG}{tc:kF TT}{te:kF TE}
def Ek (ok:W1 X scope N k aB) (a:Inv X pins U H2 s2) (F: ∀b∈fp,bA X pins H2 b) (O: ∀b∈fp,b<s2.heap.objs.size)
 (s:s2.heap.objs.size<=C) (L:h₁.Ns C m) (g: ∀b o,s2.heap.get? b=k0 o->h₁.get? b=k0 o)
 (d: ∀x c,(g8 scope C X.env).lookup x=k0 c->(XQ scope X.env).lookup x=k0 c\/(C+1<=c/\(x,NameKind.cell)∈scope.names/\h₁.IsCell c y0)):
 Inv (Ze X N scope C fp s2 H2) [] (mO k aB U) H2 { s2 with heap:=h₁,toks:=tk }:=by
 have sub: ∀x c,(XQ scope X.env).lookup x=k0 c->X.env.cells.lookup x=k0 c:=JL scope.names [] λx c e=>by simp at e
 have A: ∀x,(x,NameKind.free)∈scope.names-> ∃c,(XQ scope X.env).lookup x=k0 c:=λx G=>by
  obtain⟨c,w⟩:=a.ok.has x (ok.free _ G rfl)
  exact QZ w scope.names [] (.inl G)
 have lt: ∀x c,(XQ scope X.env).lookup x=k0 c->c<C+1:=λx c e=>by
  obtain⟨v,o,D,_⟩:=a.cell x c (sub x c e)
  exact Nat.lt_succ_of_le (Ab5 (Ag1 (Ac1 D)) s)
 have keep: ∀x c,(x,NameKind.free)∈scope.names->(XQ scope X.env).lookup x=k0 c->(g8 scope C X.env).lookup x=k0 c:=λx c G e=>by
  unfold g8
  rw [Q6 scope.names _ _ λz=>by cases rH ok.nd G z]
  exact e
 have E: ∀x,_∈scope.names\/(x,NameKind.cell)∈scope.names-> ∃c,(g8 scope C X.env).lookup x=k0 c:=λx h=>by
  rcases h with h | h
  .obtain⟨c,w⟩:=A x h
   exact⟨c,keep x c h w⟩
  .exact Ah9.mp (Am8 scope.names _ _ (.inl (ny ok.nd h)))
 refine⟨⟨a.ok.mod,ok.kind,a.ok.glob,a.ok.blt,s,(nV scope.names _ _ lt λx y c K H=>a.ok.inj x y c (sub x c K) (sub y c H)),λx h=>E x (w5 h),λx c t e=> ?_,a.ok.hd,a.ok.frames,.inl rfl,λb n=>⟨?_,λx c e=> ?_⟩,
  λb o e=>a.bs b o e,Ab5 a.ok.hG a.sz,λb o e n=> ?_,λb n z=>(Ab8.mp (a.dD b z)).elim (F b n).2.1 (F b n).2.2.1,a.stack,a.eO⟩,
  rfl,a.bare,Un.kept g,⟨m,L,λi x v e1 e2 W=> ?_⟩,λx c e=> ?_,a.a0.fresh s,λx c e=> ?_,λp S=>absurd (show p∈([]:List _)from S) (by simp),a.a0.kept g,?_⟩
 .have t:=of_decide_eq_true t
  rcases d x c e with q | q
  .rcases xO scope.names [] q with z | z
   .simp at z
   .have:=ny ok.nd z
    rw [t]at this
    cases this
  .exact Ab5 s (Ab5 (Ag4 C) q.1)
 .show b≠C
  exact Ac7 (Ab3 (O b n) s)
 .rcases d x c e with q | q
  .exact(F b n).2.2.2.2.1 x c (sub x c q)
  .exact Ne.symm (Ac7 (Ab3 (O b n) (Ab5 s (Ab5 (Ag4 C) q.1))))
 .rcases (F b n).2.2.2.1 with z | z
  .exact a.ok.iE b o e z
  .have K:=Ac1 e
   have H:=a.ok.hG
   exact absurd (Ab3 K (Ab5 H z)) (Ai3 _)
 .have f:k<=i:=by
   by_cases f:i<k
   .have e2:(Ab k y0++aB.map λ(j:Nat)=>(U[j]?).join)[i]? =k0 _:=e2
    rw [Ac9 (by simpa using f),Ai2,if_pos f]at e2
    cases e2
   .lia
  have B:(N.drop k)[i-k]? =k0 x:=by
   rw [List.getElem?_drop,show k+(i-k)=i by lia];exact e1
  have J:(aB.map λ(j:Nat)=>(U[j]?).join)[i-k]? =k0 (k0 v):=by
   have e2:(Ab k y0++aB.map λ(j:Nat)=>(U[j]?).join)[i]? =k0 _:=e2
   rw [Ad9 (by simpa using f),Ae2]at e2
   exact e2
  obtain⟨j,T,R,P⟩:=ok.aB.get (U:=U) B J
  obtain⟨Z,hn,Q⟩:=a.loc
  obtain⟨u,r,l⟩:=Q j x v T R (.inr (P.elim (λz=> .inl z) λz=> .inr z))
  refine⟨u,r,.inr ?_⟩
  have t:=ok.gF x (Ac4 B)
  refine⟨Qk t,?_⟩
  obtain⟨c,w⟩:=A x (PySem.mem_of_lookup t)
  refine⟨c,keep x c (PySem.mem_of_lookup t) w,?_⟩
  rcases l with⟨V,_⟩ | ⟨_,Y,I,o,D,M⟩
  .rcases P with z | z<;>(rw [V]at z;cases z)
  .have d:=sub x c w
   rw [I]at d
   cases d
   exact⟨o,g _ o D,M⟩
 .rcases d x c e with q | q
  .obtain⟨v,o,D,M⟩:=a.cell x c (sub x c q)
   exact⟨v,o,g c o D,M⟩
  .exact⟨y0,q.2.2⟩
 .rcases d x c e with q | q
  .exact a.cD x c (sub x c q)
  .exact a.a0.fresh (Ab5 s (Ab5 (Ag4 C) q.1))
 .show(Ab k y0++aB.map λ(j:Nat)=>(U[j]?).join).length=N.length
  have H:=ok.le
  rw [Aa6,Ae2,Aa,ok.aB.length,Af7]
  lia
def qX (use) (hc:X.calm=u0) (ok:W1 X scope N k aB) (hi:PI X tg iter wi)
 (hg: ∀C fp s H,PG (Ze X N scope C fp s H) tg (g C fp s H)) (ht: ∀C fp s H,gJ (Ze X N scope C fp s H) ifs (tc C fp s H)) (he: ∀C fp s H,PE (Ze X N scope C fp s H) elt (te C fp s H))
 (hs: ∀x,foldedSetIterable iter X.env x=pure x)
 (I:Inv X pins U H s) (h:mr k aB wi g tc te U H Q)
 (fin: ∀(D C:Addr) (oC:Obj) (m:Str->Option Value) (H4:Hp) (s4:Shared),Inv X (pins++ [(C,oC)]) U H4 s4->bA X pins H4 C->Q (.ref D) H4->(∀ h:Heap,h.get? C=k0 oC->h.Ns C m) →
   compPost (model X.prog X.w) X.A X.xe use Q' (.ref D) C (.ok .next) s4):
 wpAny (model X.prog X.w) X.A (comprehension (.ListComp elt [⟨tg,iter,ifs,0⟩] scope pos) scope X.env p0 (newList []) k9 (eval iter X.env) use) Q' X.xe s:=by
 have hcl:closureFor scope X.env=pure _:=xR λy hy hf=>I.ok.has y.1 (ok.free y hy hf)
 refine wpAny_comprehension_free (use:=use) rfl hs hcl ok.kind ok.names (aO (hi pins s U H _ I h) λv s1 h1=>aO h1 λitv s2 h2=> ?_)
 obtain⟨it,fp,tn,J,H2,e,I2,T,st2,f2,hW⟩:=h2
 subst e
 refine wpAny_newObj_type (QC ?_)
 dsimp only
 generalize hHp:s2.heap.push { cls:= .type "list",dict:=none,data:= .seq ([]:List Value).toArray }=HP
 have hCs:HP.objs.size=s2.heap.objs.size+1:=by rw [← hHp,Al]
 generalize hDD:s2.heap.objs.size=D at hCs ⊢
 have hns0:(HP.push { cls:= .type "dict",data:= .dict #[] }).Ns HP.objs.size fun _=>none:=Heap.Ns.new HP _
 have hlk: ∀x c,(g8 scope HP.objs.size X.env).lookup x=some c->(XQ scope X.env).lookup x=some c\/(HP.objs.size+1<=c/\(x,NameKind.cell)∈scope.names/\(pushCells (HP.push { cls:= .type "dict",data:= .dict #[] }) scope.names).IsCell c none):=fun x c e=>by
  refine nU scope.names _ _ True (λ_=> .inl trivial) _ (by rw [Al];exact Aa7 _) ?_
  rw [Al]
  exact e
 generalize hh1:pushCells _ scope.names=h₁ at hlk ⊢
 have hns₁:h₁.Ns HP.objs.size λ_=>none:=by rw [← hh1];exact hns0.keeps (pushCells_keeps _ _)
 have hk1: ∀b o,HP.get? b=k0 o->h₁.get? b=k0 o:=λb o e=>by
  rw [← hh1]
  exact pushCells_keeps _ _ b o (Ab1 _ e)
 generalize hCC:HP.objs.size=C at hCs hns₁ hlk ⊢
 have hDC:D≠C:=by rw [hCs];exact Ac7 (Ag _)
 have hle:s2.heap.objs.size<=C:=by rw [hDD,hCs];exact Ag4 _
 have hleD:s2.heap.objs.size<=D:=Al1 hDD
 have fo: ∀b∈fp,b<D:=λb hb=>by
  obtain⟨o,eo,_⟩:=T.obj _ _ st2 b hb
  rw [← hDD]
  exact Ac1 eo
 have old: ∀b o,s2.heap.get? b=k0 o->h₁.get? b=k0 o:=λb o e=>by
  exact hk1 b o (hHp▸Ab1 _ e)
 have hacc:h₁.get? D=k0 { cls:= .type "list",data:= .seq ([]:List Value).toArray }:=by
  refine hk1 _ _ ?_
  rw [← hHp,←hDD]
  exact Ac5 _ rfl
 obtain⟨W,⟨m0,w0⟩,turn⟩:=hW C fp s2
 have I3:Inv _ [] _ H2 { s2 with heap:=h₁,toks:=s2.toks }:=
  Ek ok I2 f2 (λb hb=>by rw [hDD];exact fo b hb) hle hns₁ old hlk
 have st3:tn 0 h₁:=T.keep _ _ _ st2 λb _ o e=>old b o e
 have hch: ∀b∈fp,_/\b≠X.env.locals/\(∀ x c,X.env.cells.lookup x=k0 c->c≠b)/\ ∀p∈X.pn++pins,p.1≠b:=λb hb=>⟨(f2 b hb).2.2.2.1,(f2 b hb).2.1,(f2 b hb).2.2.2.2.1,(f2 b hb).2.2.2.2.2⟩
 have FD: ∀ {H':Hp},H' D=y0->bA X pins H' D:=λhn=>I2.cO hleD hn
 have FC: ∀ {H':Hp},H' C=y0->bA X pins H' C:=λhn=>I2.cO hle hn
 have sub: ∀x c,(XQ scope X.env).lookup x=k0 c->X.env.cells.lookup x=k0 c:=JL scope.names [] λx c e=>by simp at e
 have hDst:D∉fA X.stack:=λz=>(Ab8.mp (I2.dD D z)).elim (FD (H':=λ_=>y0) rfl).2.1 (FD (H':=λ_=>y0) rfl).2.2.1
 have hDc: ∀x c,(g8 scope C X.env).lookup x=k0 c->c≠D:=λx c e=>by
  rcases hlk x c e with q | q
  .exact(FD (H':=λ_=>y0) rfl).2.2.2.2.1 x c (sub x c q)
  .exact Ne.symm (Ac7 (Ab3 (by rw [hCs];exact Nat.lt_succ_of_lt (Ag _)) q.1))
 have loop: ∀s₃:Shared,s₃= { s2 with heap:=h₁,toks:=s2.toks } →
  codeAny (model X.prog X.w) X.A (.compLoop (.ListComp elt [⟨tg,iter,ifs,0⟩] scope pos) 0 (.ref it) (.ref D) (compEnvC scope (g8 scope C X.env) C X.env))
   (compPost (model X.prog X.w) X.A X.xe use Q' (.ref D) C) s₃:=by
  rintro s₃ rfl
  refine xX (λn s'=> ∃i ys its kk τ H',Inv (Ze X N scope C fp s2 H2) [] τ H' s'/\tn i s'.heap/\(∀ b∈fp,H' b=y0)/\H' D=y0/\s'.heap.get? D=k0 { cls:= .type "list",data:= .seq (its:List Value).toArray kk }/\Vals ys its/\W i n ys τ H')
   ?_ m0 ⟨0,[],[],0,_,H2,I3,st3,λb hb=>(f2 b hb).1,I2.a0.fresh hleD,hacc,.nil,w0⟩
  rintro n s3 ⟨i,ys,its,kk,τ,H3,I3,st3,fr3,hD3,eD3,rv3,w3⟩
  have IP:Inv (Ze X N scope C fp s2 H2) [(D,{ cls:= .type "list",data:= .seq its.toArray kk })] τ H3 s3:=I3.bR fun p hp=>by
   have e:p=(D,{ cls:= .type "list",data:= .seq its.toArray kk }):=by simpa using hp
   subst e
   exact⟨eD3,hD3,hDC,hDst,λv z=>by cases z⟩
  have fpok: ∀ {H':Hp},(∀ b∈fp,H' b=y0)-> ∀b∈fp,bA (Ze X N scope C fp s2 H2) [(D,{ cls:= .type "list",data:= .seq its.toArray kk })] H' b:=fun {H'} hn b hb=>by
   refine⟨hn b hb,I3.ok.sg b hb |>.1,I3.ok.i9 b hb,.inl hb,I3.ok.sg b hb |>.2,λp hp=> ?_⟩
   have e:p=(D,{ cls:= .type "list",data:= .seq its.toArray kk }):=by
    have hp:p∈([]:List (Addr×Obj))++ [(D,{ cls:= .type "list",data:= .seq its.toArray kk })]:=hp
    simpa using hp
   rw [e]
   exact Ne.symm (Ac7 (fo b hb))
  rcases turn i n ys τ H3 w3 with⟨stop,hz,q⟩ | ⟨go,hz,NN,hN,step⟩
  .refine aO (T.done (Ze X N scope C fp s2 H2) rfl rfl rfl hc i _ s3 τ H3 _ IP (fpok fr3) st3 stop) ?_
   rintro r s4 ⟨hr,I4⟩
   subst hr
   have I5:Inv X pins U H3 s4:=I2.lI (ch:=fp) I4.os I4.base I4.a0 I4.bare hch
   have I6:=I5.adopt (FD hD3) (Ab5 I2.sz hleD) ((I4.pin _ (Ab0 _ Aa5)).1) rv3 hz
   obtain⟨m,⟨oC,es,ep,hoC,hdC,hr⟩,_⟩:=I4.loc
   have fC:bA X pins (aQ H3 D (.lst ys)) C:=FC (by rw [Qa (Ne.symm hDC)];exact I4.free)
   have I7:Inv X (pins++ [(C,oC)]) U (aQ H3 D (.lst ys)) s4:=I6.bR λp hp=>(Ac8.mp hp).elim (λz=>I6.pin p (Ab0 _ z)) λz=>by
    have e:p=(C,oC):=by simpa using z
    subst e
    exact⟨hoC,fC.1,fC.2.1,fC.2.2.1,λv z=>by rw [hdC]at z;cases z⟩
   exact fin D C oC m _ s4 I7 fC (q D hD3) λh e=>⟨oC,es,ep,e,hdC,hr⟩
  .refine aO (T.item (Ze X N scope C fp s2 H2) rfl rfl rfl hc i _ s3 τ H3 _ IP (fpok fr3) st3 go) ?_
   rintro r s4 ⟨u,hr,h4⟩
   subst hr
   refine aO h4 ?_
   rintro _ s5 ⟨x,H5,I5,r5,y5,st5,fr5⟩
   have I5':=I5.pinned (fpok fr5) (T.obj _ _ st5)
   refine wpAny_mono (hg C fp s2 H2 _ s5 τ H5 x u _ I5' r5 (step x H5 y5)) (λ_ s6 ⟨U6,H6,I6,q6⟩=> wpAny_mono (ht C fp s2 H2 _ s6 U6 H6 _ I6 q6) (λb s7 ⟨H7,I7,q7⟩=> ?_) λ_ _ z=>False.elim z) λ_ _ z=>False.elim z
   have hp5: ∀b∈fp,∃o,s5.heap.get? b=k0 o:=λb hb=>let ⟨o,e,_⟩:=T.obj _ _ st5 b hb; ⟨o,e⟩
   cases b with
   | false=>
    rw [if_neg Ac2]at q7 ⊢
    obtain⟨m',hm,w7⟩:=hN _ _ _ q7
    refine⟨m',hm,i+1,ys,its,kk,U6,H7,I7.bR λp hp=>absurd hp (by simp),T.keep _ _ _ st5 λb hb o e=>(I7.pin (b,o) (Ab0 _ (Ab0 _ (Qg hb e)))).1,λb hb=> ?_,?_,?_,rv3,w7⟩
    .obtain⟨o,e⟩:=hp5 b hb
     exact(I7.pin (b,o) (Ab0 _ (Ab0 _ (Qg hb e)))).2.1
    .exact(I7.pin _ (Ab0 _ (Ad _ Aa5))).2.1
    .exact(I7.pin _ (Ab0 _ (Ad _ Aa5))).1
   | true=>
    rw [if_pos rfl]at q7 ⊢
    refine wpAny_mono (he C fp s2 H2 _ s7 U6 H7 _ I7 q7) (λy s8 ⟨yv,H8,I8,r8,q8⟩=> ?_) λ_ _ z=>False.elim z
    have pD:=I8.pin _ (Ab0 _ (Ad _ Aa5))
    have eD8:s8.heap.get? D=k0 { cls:= .type "list",data:= .seq its.toArray kk }:=pD.1
    have hD8:H8 D=none:=pD.2.1
    have u7:=rv3.length
    refine call_meets F.slot_list_append ⟨_,eD8,rfl⟩ F.entry_list_append (F.args_list_append_2 _ _) (PySem.list_append D its.toArray kk y (by rw [Ac0];lia)) ⟨eD8,?_⟩
    obtain⟨m',hm,w8⟩:=hN _ _ _ q8
    have IQ:Inv (Ze X N scope C fp s2 H2) (qO fp s5.heap) U6 H8 s8:=I8.bR λp hp=>I8.pin p (Ab0 _ (Ab0 _ hp))
    have e9:=PySem.IsL.update eD8 (·.push y)
    rw [show its.toArray.push y=(its++ [y]).toArray by simp]at e9
    have I9:Inv (Ze X N scope C fp s2 H2) (qO fp s5.heap) U6 H8 { s8 with heap:=s8.heap.update D (Obj.mapSeq (·.push y)),toks:=s8.toks }:=
     IQ.turned (it:=D) (λb o hb e=>(An0 s8.heap (Obj.mapSeq (·.push y)) (Ne.symm hb)).trans e) hD8 hDC (.inr hleD) hDc λp hp=>by
      have hp:p∈([]:List (Addr×Obj))++qO fp s5.heap:=hp
      have:=fo p.1 (J1 (by simpa using hp)).1
      exact Ac7 this
    refine⟨m',hm,i+1,ys++ [yv],its++ [y],_,U6,H8,I9.bR λp hp=>absurd hp (by simp),T.keep _ _ _ st5 λb hb o e=>(I9.pin (b,o) (Ab0 _ (Qg hb e))).1,λb hb=> ?_,hD8,e9,rv3.append (.cons r8 .nil),w8⟩
    obtain⟨o,e⟩:=hp5 b hb
    exact(I9.pin (b,o) (Ab0 _ (Qg hb e))).2.1
 exact codeAny_compStart_list (loop _ rfl) (T.self _ 0 _ _ _ st3 (loop _ rfl))
def Cm (ok:W1 X scope N k aB) (j:PI X tg iter wi)
 (v: ∀C fp s H,PG (Ze X N scope C fp s H) tg (g C fp s H)) (p: ∀C fp s H,gJ (Ze X N scope C fp s H) ifs (tc C fp s H)) (l: ∀C fp s H,PE (Ze X N scope C fp s H) elt (te C fp s H))
 (u:X.calm=true:=by rfl) (r: ∀x,foldedSetIterable iter X.env x=pure x:=by intro _;rfl):PE X (.ListComp elt [⟨tg,iter,ifs,0⟩] scope pos) (mr k aB wi g tc te):=by
 intro f s U H Q I h
 exact qX y0 u ok j v p l r I h λD C y m t w i a q d=> ⟨m,d _ (i.pin _ (Ab0 _ (Ab0 _ Aa5))).1,λz c=>⟨.ref D,t,(i.bJ).turned (λb o n e=>c.extBut b o n e) a.1 a.2.1 a.2.2.2.1 a.2.2.2.2.1 a.2.2.2.2.2,rfl,q⟩⟩
def Ig (r:X.N.Nodup) (c:X.N[i]? =k0 x) (u:kz X.env.scope x) (ok:W1 X scope N k aB) (p:PI X tg iter wi)
 (J: ∀C fp s H,PG (Ze X N scope C fp s H) tg (g C fp s H)) (A: ∀C fp s H,gJ (Ze X N scope C fp s H) ifs (tc C fp s H)) (w: ∀C fp s H,PE (Ze X N scope C fp s H) elt (te C fp s H))
 (j:swapsWith (.ListComp elt [⟨tg,iter,ifs,0⟩] scope p0) (k0 (.Name x pos')) pos.line X.env=pure true:=by rfl)
 (G:X.calm=true:=by rfl) (B: ∀x,foldedSetIterable iter X.env x=pure x:=by intro _;rfl) (F:X.fn x=u0\/X.env.scope.names.lookup x=k0 .local:=by first | exact .inl rfl | exact .inr rfl | assumption):
 PS X (.Assign [.Name x pos'] (.ListComp elt [⟨tg,iter,ifs,0⟩] scope p0) pos) (ia (mr k aB wi g tc te) (zY i)):=by
 intro n s U H D I h
 rw [exec_Assign_Name_used _ _ _ _ j]
 exact wpAny_bind (wpAny_standAt (wpAny_bind (wpAny_bind (wpAny_mono (qX _ G ok p J A w B I h λy C O m E L K a q f=> wpAny_assign_Name (JR K r c u (v:= .ref y) rfl (λM l=> ⟨m,f _ (l.pin _ (Ab0 _ (Ab0 _ Aa5))).1,λQ d=>⟨_,E,(l.bJ).turned (λb o z e=>d.extBut b o z e) a.1 a.2.1 a.2.2.2.1 a.2.2.2.2.1 a.2.2.2.2.2,q⟩⟩) F)) (λ_ P t=>wpAny_pure (wpAny_pure t)) λ_ _ e=>e))))
end
def Z2 {K:Aa9}(c:Nat->List V->St->Hp->Prop) (v:xs.length<=1000) (t:c 0 [] τ0 H1) (h: ∀i ys τ H,c i ys τ H->ys.length<=i)
 (k: ∀i ys τ H,i<=xs.length->c i ys τ H->bq K H a xs)
 (n: ∀i ys τ H x,xs[i]? =k0 x->c i ys τ H->g x τ H λj H2=>tc j H2 λb L=>if b=u0 then te j L λy M=>c (i+1) (ys++ [y]) j M else c (i+1) ys j L)
 (u: ∀ys τ H,c xs.length ys τ H-> ∀D,H D=y0->Q (.ref D) (aQ H D (.lst ys))):sf (lD K a) g tc te τ0 H1 Q:=by
 refine⟨λi m ys τ H=>m=xs.length-i/\i<=xs.length/\c i ys τ H,⟨xs.length,by simp,Ae6 _,t⟩,?_⟩
 rintro i m ys τ H ⟨rfl,f,p⟩
 have z:=h i ys τ H p
 have q:=k i ys τ H f p
 by_cases d:i<xs.length
 .refine .inr ⟨⟨xs,xs[i],q,by simp [d]⟩,Ql (by lia),c _,λr o l s=>⟨xs.length-(i+1),by lia,rfl,d,s⟩,λx l y=> ?_⟩
  obtain⟨e,y⟩:=y
  subst e
  exact n i ys τ _ x (y xs q) p
 .have e:i=xs.length:=by lia
  subst e
  exact .inl ⟨⟨xs,q,Aa7 _⟩,Ag1 (Ql (by lia)),u ys τ H p⟩
structure Nn (P:Program) (w:World) (K:Aa9) (mg:Str->Option Value) (base:Heap) (k:Nat) (x:Str) (ps:List Str) (sp:Sp):Prop where
 ex: ∃f fd,QG P w K mg base k5 k f fd ps sp/\Binds K fd ps []/\Ah5 K (.ref f)=u0/\mg x=k0 (.ref f)
open PySem PySem.Spec PySem.Calls PySem.W PyProof.Rows
structure Nr (K:Frag) (C:Addr):Prop where
 ga:findIn K (.ref C) "__getattribute__" =some (some (.builtin "BaseException.__getattribute__"))
 gn:findIn K (.ref C) "__getattr__" =some none
 cl:findIn K (.ref C) "__class__" =some (some (.builtin "object.__class__"))
 get:specialIn K (.builtin "object.__class__") "__get__" =some (some (.builtin "getset_descriptor.__get__"))
 set:takesIn K (.builtin "object.__class__")=some true
 obj:mroIn K C (.type "object")=some true
 bas:mroIn K C (.type "BaseException")=some true
 slf:kitCls K (.ref C) (.ref C)=k0 u0
 cls:(clsIn K C).isSome=u0
section
variable {P:Program}{w:World}{K:Frag}{mg:Str->Option Value}{base:Heap}{N:List Str}{k7:Str}{scope:Scope}{f:Addr}{cd:Value}{A:Around}{outer:List Env}{s:Shared}{H:Hp}{E:XK}
abbrev ri:List Value:= [.type "ValueError",.type "Exception",.type "BaseException",.type "object"]
end
def WT (K):PySem.W.kitOne K (.type "list") (.type "list")=some true:=by kernel_rfl
theorem u6: ∀ {xs}{i},Vals xs i->Vals xs.reverse i.reverse
 | _,_,.nil=> .nil
 | _::_,_::_,.cons r t=>by
  rw [Am6,Am6]
  exact(u6 t).append (.cons r .nil)
noncomputable def iy (x:Str):It:=⟨λi _=> ∃c,x.cps[i]? =k0 c,λi H y H'=>H'=H/\ ∃c,x.cps[i]? =k0 c/\y= .str ⟨#[c]⟩,λi _=>x.cps[i]? =y0⟩
def HR {K:PySem.W.Frag}(it) (x) (t):hZ P w K tg (iy x) [it] it (λi h=>h.IsStrIter it "str_ascii_iterator" x t i) where
 mem:=by simp
 obj:=λi h a b g=>by
  have e:=by simpa using g
  subst e
  obtain⟨o,e,c,d⟩:=a
  exact⟨o,e,λv z=>by rw [d]at z;cases z⟩
 keep:=λi h u a k=>by
  obtain⟨o,e,c,d⟩:=a
  exact⟨o,k it (by simp) o e,c,d⟩
 item:=by
  intro X L M G B i f s U H E I l a y
  obtain⟨c,A⟩:=y
  obtain⟨r,p,C,q,m,n⟩:=l it (by simp)
  refine wpAny_pyNext_ascii_item a A λu j N=> ?_
  have D:Inv X f U H { s with heap:=u,toks:=s.toks+1 }:=I.turned (λb o g e=>(N.2 b g).trans e) r p q m n
  obtain⟨o,e,J,d⟩:=id j
  exact⟨_,rfl,lO e J d (by decide) ⟨.str ⟨#[c]⟩,H,D,⟨_,rfl⟩,⟨rfl,c,A,rfl⟩,j,λb g=>(l b g).1⟩⟩
 done:=by
  intro X L M G B i f s U H E I l a y
  obtain⟨r,p,C,q,m,n⟩:=l it (by simp)
  exact wpAny_pyNext_ascii_end (I.ok.hd B) a y λu F=>⟨rfl,I.turned (λb o g e=>F b o g e) r p q m n⟩
 self:=λ_ _ _ _ _ a h=>wpAny_pyIter_striter_ascii a h
def EI {K:PySem.W.Frag}(it) (x) (t):hZ P w K tg (iy x) [it] it (λi h=>h.IsStrIter it "str_iterator" x t i) where
 mem:=by simp
 obj:=λi h a b g=>by
  have e:=by simpa using g
  subst e
  obtain⟨o,e,c,d⟩:=a
  exact⟨o,e,λv z=>by rw [d]at z;cases z⟩
 keep:=λi h u a k=>by
  obtain⟨o,e,c,d⟩:=a
  exact⟨o,k it (by simp) o e,c,d⟩
 item:=by
  intro X L M G B i f s U H E I l a y
  obtain⟨c,A⟩:=y
  obtain⟨r,p,C,q,m,n⟩:=l it (by simp)
  refine wpAny_pyNext_wide_item a A λu j N=> ?_
  have D:Inv X f U H { s with heap:=u,toks:=s.toks+1 }:=I.turned (λb o g e=>(N.2 b g).trans e) r p q m n
  obtain⟨o,e,J,d⟩:=id j
  exact⟨_,rfl,lO e J d (by decide) ⟨.str ⟨#[c]⟩,H,D,⟨_,rfl⟩,⟨rfl,c,A,rfl⟩,j,λb g=>(l b g).1⟩⟩
 done:=by
  intro X L M G B i f s U H E I l a y
  obtain⟨r,p,C,q,m,n⟩:=l it (by simp)
  exact wpAny_pyNext_wide_end (I.ok.hd B) a y λu F=>⟨rfl,I.turned (λb o g e=>F b o g e) r p q m n⟩
 self:=λ_ _ _ _ _ a h=>wpAny_pyIter_striter_wide a h
def BR (K:Aa9) (b:TE):TI:=λU H R=>b U H λx H1=>(∃ a,x= .ref a/\(∃ xs,bq K H1 a xs)/\R (lD K a) H1)\/(∃ a,x= .ref a/\(∃ xs,ck K H1 a xs)/\R (kH K a) H1)\/ ∃z,x= .str z/\R (iy z) H1
def o6 (r:PE X l tl):PI X tg l (BR X.K tl):=by
 intro g s U H R I h
 refine aO (r g s U H _ I h) ?_
 rintro v d ⟨x,i,c,k,w⟩
 obtain⟨a,e,⟨u,j⟩,q⟩ | ⟨a,e,⟨u,j⟩,q⟩ | ⟨z,e,q⟩:=w
 .subst e
  cases k
  obtain⟨m,rv,p,y⟩:=c.list j
  refine wpAny_pyIter_list p.isList ⟨d.heap.objs.size,[d.heap.objs.size],_,_,i,rfl,c.kept λb o e=>Ab1 _ e,K1 a _,⟨_,Ac5 _ rfl,rfl,rfl⟩,λb f=> ?_,q⟩
  have e:=by simpa using f
  subst e
  exact c.cO (Aa7 _) (c.a0.fresh (Aa7 _))
 .subst e
  cases k
  obtain⟨m,rv,p,y⟩:=c.tuple j
  refine wpAny_pyIter_tuple (p) ⟨d.heap.objs.size,[d.heap.objs.size],_,_,i,rfl,c.kept λb o e=>Ab1 _ e,Bz a _,⟨_,Ac5 _ rfl,rfl,rfl⟩,λb f=> ?_,q⟩
  have e:=by simpa using f
  subst e
  exact c.cO (Aa7 _) (c.a0.fresh (Aa7 _))
 .subst e
  obtain⟨t,rfl⟩:=k
  cases n:z.cps.all (· <128)with
  | true=>
   refine wpAny_pyIter_ascii n ⟨d.heap.objs.size,[d.heap.objs.size],_,_,i,rfl,c.kept λb o e=>Ab1 _ e,HR _ z t,⟨_,Ac5 _ rfl,rfl,rfl⟩,λb f=> ?_,q⟩
   have e:=by simpa using f
   subst e
   exact c.cO (Aa7 _) (c.a0.fresh (Aa7 _))
  | false=>
   refine wpAny_pyIter_wide n ⟨d.heap.objs.size,[d.heap.objs.size],_,_,i,rfl,c.kept λb o e=>Ab1 _ e,EI _ z t,⟨_,Ac5 _ rfl,rfl,rfl⟩,λb f=> ?_,q⟩
   have e:=by simpa using f
   subst e
   exact c.cO (Aa7 _) (c.a0.fresh (Aa7 _))
section
variable {X:Cx}
def Vals.iL (r:Vals xs us){i:Nat}(h:us[i]? =k0 u): ∃x,xs[i]? =k0 x/\RelV x u:=by
 have f:=r.length
 have e:=(Aa0.mp h).1
 have b:i<xs.length:=by lia
 obtain⟨d,a,c⟩:=r.get (Aa4 b)
 rw [h]at a
 cases a
 exact⟨_,Aa4 b,c⟩
def Hx (bs:List Bool):(Aa3 bs.length).all (λi=>bs.getD i k9)=bs.all id:=by
 induction bs with
 | nil=>rfl
 | cons b bs a=>
  rw [Aa8,Ah3,Al6,An6,Al6,←a]
  rfl
def Bk (bs:List Bool):(Aa3 bs.length).any (λi=>bs.getD i k9)=bs.any id:=by
 induction bs with
 | nil=>rfl
 | cons b bs a=>
  rw [Aa8,Ah3,Ag9,Ap2,Ag9,←a]
  rfl
def jZ {bs:List Bool}(r:Vals (bs.map V.bl) its):TruthOf P w A (λi v=>its.toArray[i]? =k0 v) (λi=>bs.getD i k9):=by
 intro i v s Q E g d
 obtain⟨x,a,f⟩:=r.iL (by simpa using g)
 rw [Ac]at a
 cases c:bs[i]? with
 | none=>rw [c]at a;cases a
 | some b=>
  rw [c]at a
  cases a
  cases f
  refine wpAny_truthy_bool ?_
  have e:bs.getD i k9=b:=by rw [Ac6,c];rfl
  rw [← e]
  exact d
def Ei (t:X.calm=u0):Wr X (.builtin "all") (fun xs H Q=> ∃p,∃bs:List Bool,xs= [.ref p]/\bq X.K H p (bs.map V.bl)/\Q (.bl (bs.all id)) H):=by
 intro c s U H xs w Q I r h
 obtain⟨p,bs,rfl,k,q⟩:=h
 obtain⟨u,rfl,n⟩:=XM r
 cases n
 obtain⟨d,rv,pl,x⟩:=I.list k
 have a:=rv.length
 rw [Aa]at a
 refine call_all_walk (wpAny_pyIter_list pl.isList ?_)
 have f:p≠s.heap.objs.size:=by
  obtain⟨o,v,_⟩:=pl.isList
  exact Ac7 (Ac1 v)
 refine⟨s.heap.objs.size,_,_,_,_,_,λi=>bs.getD i k9,rfl,Walks.list (A:=X.A.in1) (I.ok.hd t) _ p f d.toArray,⟨⟨_,Ac5 _ rfl,rfl,rfl⟩,pl.isList.at λo e=>Ab1 _ e⟩,jZ rv,λm g j=> ?_⟩
 have l:Inv X c U H { s with heap:=m,toks:=g }:=I.kept λb o e=>j b o (by simp;exact Ac7 (Ac1 e)) (Ab1 _ e)
 refine⟨.bl _,H,l,?_,q⟩
 show _=_
 rw [Ac0,←a,Hx]
def Ez (t:X.calm=u0):Wr X (.builtin "any") (fun xs H Q=> ∃p,∃bs:List Bool,xs= [.ref p]/\bq X.K H p (bs.map V.bl)/\Q (.bl (bs.any id)) H):=by
 intro c s U H xs w Q I r h
 obtain⟨p,bs,rfl,k,q⟩:=h
 obtain⟨u,rfl,n⟩:=XM r
 cases n
 obtain⟨d,rv,pl,x⟩:=I.list k
 have a:=rv.length
 rw [Aa]at a
 refine call_any_walk (wpAny_pyIter_list pl.isList ?_)
 have f:p≠s.heap.objs.size:=by
  obtain⟨o,v,_⟩:=pl.isList
  exact Ac7 (Ac1 v)
 refine⟨s.heap.objs.size,_,_,_,_,_,λi=>bs.getD i k9,rfl,Walks.list (A:=X.A.in1) (I.ok.hd t) _ p f d.toArray,⟨⟨_,Ac5 _ rfl,rfl,rfl⟩,pl.isList.at λo e=>Ab1 _ e⟩,jZ rv,λm g j=> ?_⟩
 have l:Inv X c U H { s with heap:=m,toks:=g }:=I.kept λb o e=>j b o (by simp;exact Ac7 (Ac1 e)) (Ab1 _ e)
 refine⟨.bl _,H,l,?_,q⟩
 show _=_
 rw [Ac0,←a,Bk]
def gx:List Int->Int
 | []=>0
 | i::r=>i+gx r
theorem qZ: ∀(xs) (x),gx (xs++ [x])=gx xs+x
 | [],x=>by simp [gx]
 | y::a,x=>by
  show y+gx (a++ [x])=y+gx a+x
  rw [qZ a x];lia
theorem wJ (ns:List Int): ∀j,j<=ns.length->preSum (λi=>ns.getD i 0) j=gx (ns.take j)
 | 0,_=>rfl
 | j+1,h=>by
  rw [preSum,wJ ns j (by lia),List.take_succ,Aa4 (by lia)]
  show _=gx (ns.take j++ [ns[j]])
  rw [qZ,Ac6,Aa4 (by lia)]
  rfl
end
section
variable {X:Cx}
theorem jD: ∀ {j}{i},Vals (j.map V.str) i->StrsAre i j
 | [],i,r=>by cases r;exact .nil
 | z::j,i,r=>by
  cases r with
  | cons h t=>
   obtain⟨k,rfl⟩:=h
   exact .cons _ _ (jD t)
theorem uI: ∀ {i}{j},StrsAre i j->Vals (j.map V.str) i
 | _,_,.nil=> .nil
 | _,_,.cons _ _ h=> .cons ⟨_,rfl⟩ (uI h)
def X5:Wr X (.builtin "sorted") (fun xs H Q=> ∃p,∃j:List Str,xs= [.ref p]/\bq X.K H p (j.map V.str)/\j.length<64/\ ∀i,i.Perm j->sortedS i=true-> ∀l,H l=none->Q (.ref l) (aQ H l (.lst (i.map V.str)))):=by
 intro f s U H xs x Q I r h
 obtain⟨p,j,rfl,t,n,q⟩:=h
 obtain⟨u,rfl,w⟩:=XM r
 cases w
 obtain⟨d,rv,pl,g⟩:=I.list t
 have a:=rv.length
 rw [Aa]at a
 refine sorted_strs pl.isList (jD rv) (by lia) λc i k a2 a3=> ?_
 obtain⟨e,v⟩:=sortedAll_at s.heap d c
 have m:i.length<=sizeLine:=by rw [a2.length_eq];rw [Aa]at g;exact g
 refine⟨.ref _,_,I.laid (λb o e=>sortedAll_old e) (Ag4 _) (show ba X.prog X.w _ _ _ (.lst _)from⟨by rw [Aa];exact m,c.toList,e,uI k,by simpa [seqObj]using v⟩),rfl,q i a2 a3 _ (I.a0.fresh (Ag4 _))⟩
end
section
variable {X:Cx}
def hY (x:Str) (n:Nat):Str:=⟨(Ab n x.cps).foldl (· ++ ·) #[]⟩
theorem j5 : ∀ n (a b:Array α),((Ab n a).foldl (· ++ ·) b).toList=b.toList++(Ab n a.toList).flatten
 | 0,a,b=>by simp
 | n+1,a,b=>by
  rw [Af3,Ak3,j5 n,Af3,List.flatten_cons]
  simp
def WI (x) (n):(hY x n).cps.toList=(Ab n x.cps.toList).flatten:=by
 unfold hY
 rw [j5]
 simp
def Ms (x) (n):(hY x n).length=x.length*n:=by
 show(hY x n).cps.size=x.cps.size*n
 rw [← Ai0,WI]
 simp [An8]
def tG {a b:Str}(h:a.cps.toList=b.cps.toList):a=b:=by
 cases a;cases b
 simp [Str.mk.injEq]
 exact Array.toList_inj.mp h
def Li:b0 X (binaryOp .Mult) (λx y H Q=> ∃z k,x= .str z/\y= .int k/\0<=k/\k<=1000/\z.length*k.toNat<=1000000/\Q (.str (hY z k.toNat)) H):=by
 intro pins s U H x y v u Q I rx ry h
 obtain⟨z,k,rfl,rfl,h0,h1,hl,q⟩:=h
 obtain⟨t,rfl⟩:=rx
 obtain⟨t',rfl⟩:=ry
 have hsz:(hY z k.toNat).length<=sizeLine:=by rw [Ms];exact Ab5 hl (by decide)
 refine P.mul_str (by
  have a: ¬k< -(2 ^ 63:Int):=by lia
  have b: ¬k>=2 ^ 63:=by lia
  rw [decide_eq_false a,decide_eq_false b];rfl) (λc1 c2=> ?_) (λc1 c2=> ?_) ?_
 .have hk:=by omega
  have:(2:Int) ^ 63-1>=(z.length:Int)*k:=by
   have e:((z.length*k.toNat:Nat):Int)=(z.length:Int)*k:=by rw [Int.natCast_mul,Int.toNat_of_nonneg h0]
   have:=hl
   lia
  have:=Int.le_ediv_of_mul_le (c:=k) (by omega) (by omega)
  lia
 .unfold Builtin.Str.tooLong
  exact decide_eq_false (by have:sizeLine>=1000000:=by decide
                            lia)
 .by_cases c1:k<1
  .have hk:k=0:=by lia
   subst hk
   rw [if_pos c1]
   exact⟨by decide,.str _,H,I.kept λb o e=>e,⟨_,rfl⟩,q⟩
  .rw [if_neg c1]
   by_cases c2:(k==1||z.length==0)=u0
   .rw [if_pos c2]
    have e:hY z k.toNat=z:=by
     apply tG
     rw [WI]
     obtain c | c:=Ao5.mp c2
     .have:k=1:=by simpa using c
      subst this
      simp
     .have:z.cps.toList= []:=by
       have c:z.length=0:=by simpa using c
       have c:z.cps.size=0:=c
       rw [← Ai0]at c
       exact Ai5 c
      rw [this]
      simp
    rw [e]at q
    exact⟨.str z,H,I,⟨t,rfl⟩,q⟩
   .rw [if_neg c2]
    exact⟨hsz,.str _,H,I.kept λb o e=>e,⟨_,rfl⟩,q⟩
def F2:b0 X (binaryOp .Add) (λx y H Q=> ∃a b ys,x= .ref a/\y= .ref b/\ck X.K H a []/\ck X.K H b ys/\Q (.ref b) H):=by
 intro l s U H x y v u Q I B D h
 obtain⟨a,b,ys,rfl,rfl,A,z,q⟩:=h
 cases B
 cases D
 obtain⟨w,p,G,_⟩:=I.tuple A
 obtain⟨c,J,E,_⟩:=I.tuple z
 cases p
 obtain⟨⟨r,dd,m,sl⟩,o,C,n,F⟩:=id G
 obtain⟨⟨k,g,i,f⟩,d,e,t,j⟩:=id E
 subst C F e j
 exact concat_meets ⟨_,o,rfl⟩ ⟨_,d,rfl⟩ noFill_tuple_add seq_tuple_add PySem.F.slot_tuple_add PySem.F.entry_tuple_add (PySem.F.args_tuple_add_2 _ _)
  (tuple_addW0 a b _ c.toArray n t dd g sl f rfl) ⟨o,d,.ref b,H,I,rfl,q⟩
def MO (D:X.calm=u0):Wr X (.builtin "sum") (fun xs H Q=> ∃p,∃ns:List Int,xs= [.ref p]/\bq X.K H p (ns.map V.int)/\Q (.int (gx ns)) H):=by
 intro d s U H xs G Q I r h
 obtain⟨p,ns,rfl,w,q⟩:=h
 obtain⟨u,rfl,C⟩:=XM r
 cases C
 obtain⟨k,rv,pl,J⟩:=I.list w
 have a:=rv.length
 rw [Aa]at a
 refine call_sum_walkG (wpAny_pyIter_list pl.isList ?_)
 have g:p<s.heap.objs.size:=by
  obtain⟨o,E,_⟩:=pl.isList
  exact Ac1 E
 have j:s.heap.objs.size<(s.heap.push { cls:= .type "list_iterator",data:= .fields #[.ref p,.int 0 0] }).objs.size:=Heap.lt_size (Heap.get?_push_size _ rfl)
 refine⟨s.heap.objs.size,_,_,_,_,_,λi=>ns.getD i 0,rfl,Walks.list (A:=X.A.in1) (I.ok.hd D) _ p (Ac7 g) k.toArray,⟨⟨_,Ac5 _ rfl,rfl,rfl⟩,pl.isList.at λo e=>Ab1 _ e⟩,λb c=> ?_,λi v l=> ?_,λB m z n=> ?_⟩
 .simp [or_false]at c
  obtain rfl | rfl:=c
  .exact j
  .exact Nat.lt_trans g j
 .obtain⟨x,f,F⟩:=rv.iL (by simpa using l)
  rw [Ac]at f
  cases c:ns[i]? with
  | none=>rw [c]at f;cases f
  | some b=>
   rw [c]at f
   cases f
   obtain⟨t,rfl⟩:=F
   exact⟨t,by show Value.int b t=Value.int (ns.getD i 0) t;rw [Ac6,c];rfl⟩
 .have y:Inv X d U H { s with heap:=B,toks:=m }:=I.kept λb o e=>n b o (by simp;exact Ac7 (Ac1 e)) (Ab1 _ e)
  refine⟨.int _,H,y,⟨z,?_⟩,q⟩
  rw [Ac0,←a,wJ ns _ (Aa7 _),Ap5]
theorem QO: ∀ {ns}{i},Vals (ns.map V.int) i-> ∃ps:List (Int×Tok),i=ps.map (λp=> .int p.1 p.2)/\ps.map (·.1)=ns
 | [],i,r=>by cases r;exact⟨[],rfl,rfl⟩
 | n::ns,i,r=>by
  cases r with
  | cons h t=>
   obtain⟨k,rfl⟩:=h
   obtain⟨ps,e1,e2⟩:=QO t
   exact⟨(n,k)::ps,by rw [e1];rfl,by rw [← e2];rfl⟩
def WG (lo) (d n) (a:d<=n):(match lo with | none=>(d:Int) | some i=>max 0 (min (if i<0 then i+n else i) n))=((HT.aY n d lo:Nat):Int)/\HT.aY n d lo<=n:=by
 cases lo with
 | none=>exact⟨rfl,a⟩
 | some i=>
  by_cases q:i<0
  .simp [HT.aY,q,if_true];lia
  .simp [HT.aY,q,if_false];lia
def ZY (x:Str) (a b:Option Int):Builtin.Str.strSliceIndices a b 1 x.length=(Aa3 (HT.aY x.length x.length b-HT.aY x.length 0 a)).map λk=>HT.aY x.length 0 a+k:=by
 have e:Builtin.Str.strSliceIndices a b 1 x.length=sliceRange ((HT.aY x.length 0 a)) ((HT.aY x.length x.length b)) 1:=by
  rw [← (WG a 0 x.length (Ae6 _)).1,←(WG b x.length x.length (Aa7 _)).1]
  cases a<;>cases b<;>rfl
 rw [e]
 unfold sliceRange
 simp only [show (1:Int)>0 by decide,if_true,Int.ediv_one,Int.one_mul]
 have e2:(if ((HT.aY x.length 0 a))<((HT.aY x.length x.length b:Nat):Int)then((HT.aY x.length x.length b))-((HT.aY x.length 0 a:Nat):Int)+1-1 else 0).toNat=HT.aY x.length x.length b-HT.aY x.length 0 a:=by
  split<;>lia
 rw [e2]
 refine Ai1 λk _=> ?_
 lia
noncomputable def kn (x:Str) (a b:Option Int):Str:=⟨((x.cps.toList.drop (HT.aY x.length 0 a)).take (HT.aY x.length x.length b-HT.aY x.length 0 a)).toArray⟩
def Be (x) (lo hi):Txt.slice x lo hi=kn x lo hi:=by
 have c:=(WG lo 0 x.length (Ae6 _)).2
 have a:=(WG hi x.length x.length (Aa7 _)).2
 by_cases q:HT.aY x.length 0 lo<=HT.aY x.length x.length hi
 .have e:=StrLaws.sliceText_nat x q a
  rw [show kn x lo hi=⟨((x.cps.toList.drop _).take _).toArray⟩from rfl,←e]
  unfold Txt.slice StrLaws.sliceText
  rw [ZY x lo hi,StrLaws.strSliceIndices_plain q a]
 .have b:HT.aY x.length x.length hi-HT.aY x.length 0 lo=0:=by lia
  unfold Txt.slice kn
  rw [ZY x lo hi,b]
  rw [if_neg (by simp;lia)]
  simp
def oW:V->Option Int->Option Int->Hp->VK->Prop:=λx lo hi H Q=> ∃z,x= .str z/\z.length<=sizeLine/\Q (.str (kn z lo hi)) H
def nz:gs X oW:=by
 intro a s U H x v p r i g sl Q I m d pl j h
 obtain⟨z,rfl,n,q⟩:=h
 obtain⟨t,rfl⟩:=m
 refine⟨"str",_,F.slot_str_getitem.lookup,typeIs_str _ _ _,?_⟩
 have fin: ∀f k,EP X a U Q (.str (Txt.slice z i g) f) { s with toks:=k }:=λf k=>by
  rw [Be]
  exact⟨.str _,H,I.kept (t':=k) λb o e=>e,⟨_,rfl⟩,q⟩
 have c:(Txt.slice z i g).length<=sizeLine:=Ab5 (Txt.slice_le z _ _) n
 cases pl<;>cases j
 .exact wpAny_getItem_str_slice (l:=y0) (u:=y0) (st:=y0) d rfl (post_val_or_str ⟨c,fin⟩)
 .exact wpAny_getItem_str_slice (l:=y0) (u:=k0 (_,_)) (st:=y0) d rfl (post_val_or_str ⟨c,fin⟩)
 .exact wpAny_getItem_str_slice (l:=k0 (_,_)) (u:=y0) (st:=y0) d rfl (post_val_or_str ⟨c,fin⟩)
 .exact wpAny_getItem_str_slice (l:=k0 (_,_)) (u:=k0 (_,_)) (st:=y0) d rfl (post_val_or_str ⟨c,fin⟩)
end
open PySem PySem.Spec PyProof.Rows PySem.MeetsSeq
section
variable {X:Cx}
def Ld {e:Nat->Bool}(l:IsTup s.heap a u8)
 (n: ∀i y,u8[i]? =k0 y->PySem.SeqAt.EqAt A.in1 s y x (e i)) (r:j<u8.size) (d:e j=u0) (g: ∀i,i<j->e i=k9) (h: ∀t',Q (.int (j:Int) t') { s with toks:=s.toks+1 }):
 wpAny (model prog w) A (call (.builtin "tuple.index") [.ref a,x]) Q E s:=by
 refine wpAny_call_entry F.slot_tuple_index l.typeIs F.entry_tuple_index (wpAny_bind (wpAny_of_eq (show PySem.selfAndSome "tuple.index" "index" 1 3 ⟨[.ref a,x],[]⟩=pure (Value.ref a,[x])from rfl) (wpAny_bind (tupleItemsOf_ l (wpAny_bind (wpAny_pure (wpAny_bind (wpAny_pure (wpAny_bind ?_))))))))) (F.args_tuple_index_2 _ _)
 rw [Nat.min_self,Std.Legacy.Range.forIn_eq_forIn_range']
 refine wpAny_forIn_list _ (λZp b f=>f=s/\b=(y0,())/\ ∃i,i<=j/\Zp=Al7 i (u8.size-i)) _ ?_ ?_ _ _ ⟨rfl,rfl,0,Ae6 _,by simp⟩
 .rintro i Zp b f ⟨rfl,rfl,i0,m,c⟩
  have e1:u8.size-i0=(u8.size-(i0+1))+1:=by lia
  rw [e1,Al2]at c
  injection c with o p
  subst o
  have k:i<u8.size:=by lia
  rw [Array.getElem?_eq_getElem k]
  refine wpAny_bind (n i u8[i] (Array.getElem?_eq_getElem k) prog w _ _ ?_)
  by_cases q:i=j
  .subst q
   rw [d,if_pos rfl]
   exact wpAny_bind (wpAny_bind (wpAny_mkInt (wpAny_pure (wpAny_pure (wpAny_pure ⟨_,rfl,h _⟩)))))
  .rw [g i (by lia),if_neg Ac2]
   exact wpAny_pure ⟨rfl,rfl,i+1,by lia,p⟩
 .rintro b f ⟨rfl,rfl,i0,m,c⟩
  have e1:u8.size-i0=(u8.size-(i0+1))+1:=by lia
  rw [e1,Al2]at c
  cases c
abbrev vJ:=V->Hp->Prop
def nh (X:Cx) (T:String) (ty:vJ):Prop:= ∀(pins:List (Addr×Obj)) (s:Shared) (U:St) (H:Hp) (x:V) (v:Value),Inv X pins U H s->RelV x v->ty x H->s.TypeIs v T/\ ∀a,v= .ref a-> ∃ob,s.heap.get? a=k0 ob/\ob.dict=y0
def Fd (ty:vJ) (r:V->List V->Hp->VK->Prop) (a:TE) (t:TA):TE:=λU H Q=>a U H λx H1=>ty x H1/\t U H1 λxs H2=>r x xs H2 Q
def mn {T id:String}(z:PlainAttrs T) (f:Slot T name id) (i:typeOf (.builtin id)=pure (.type "method_descriptor")) (B:nh X T ty) (J:iG X id r) (L:PE X o to) (A:PA X (e::es) t)
 (b:attributeBase o name X.env (eval o X.env)=eval o X.env)
 (d:((backTo cpos (starEach (e::es) X.env)).all (λx=> !x.1)&&(backToKw cpos (keywordEach [] X.env)).all (λx=>x.1.isSome)
   &&u9 ((e::es).length+([]:List Keyword).length+(if ([]:List Keyword).isEmpty then 0 else 1)<30))=u0)
 (c:(apos.endLine==cpos.line)=u0) (C:starEach (e::es) X.env=(k9,eval e X.env)::starEach es X.env) (g:(backTo cpos (starEach es X.env)).any (·.1)=k9):
 PE X (.Call (.Attribute o name apos) (e::es) [] cpos) (Fd ty r to t):=by
 intro a s U H Q I h
 refine wpAny_Call_method_late b d c rfl (aO (L a s U H _ I h) ?_)
 rintro v m ⟨x,l,j,k,K,F⟩
 obtain⟨D,M⟩:=B a m U l x v j k K
 refine⟨T,id,z,f,i,D,M,?_⟩
 have n:=A cpos a m U l _ j F
 rw [C]at n ⊢
 exact Calls.callWith_builtin (by assumption) (Calls.evalArgs_plain (aO n λq p ⟨w,y,E,u,G⟩=>J a p U y x w v q Q E k u G))
def rG (K:PySem.W.Frag) (H:Hp) (a:Addr):Prop:=(∃ xs,H a=some (.tup xs))\/ ∃o,K.lookup a=some o/\o.cls= .type "tuple" /\o.dict=none
def C5:nh X "tuple" (fun x H=> ∃a,x= .ref a/\rG X.K H a):=by
 intro g s U H x v I r h
 obtain⟨a,rfl,h⟩:=h
 cases r
 obtain⟨m,h⟩ | ⟨o,f,j,k⟩:=h
 .obtain⟨_,i,_,o,e,c,d,n,l⟩:=I.a0 a _ h
  refine⟨⟨o,e,c⟩,λb z=> ?_⟩
  cases z
  exact⟨o,e,d⟩
 .refine⟨⟨o,I.cw a o f,j⟩,λb z=> ?_⟩
  cases z
  exact⟨o,I.cw _ o f,k⟩
def D0:nh X "str" (fun x _=> ∃z,x= .str z):=by
 intro a s U H x v I r h
 obtain⟨z,rfl⟩:=h
 obtain⟨t,rfl⟩:=r
 exact⟨typeIs_str s z t,λ_ e=>nomatch e⟩
def vZ:nh X "list" (fun x H=> ∃a xs,x= .ref a/\bq X.K H a xs):=by
 intro d s U H x v I r h
 obtain⟨a,xs,rfl,h⟩:=h
 cases r
 obtain⟨f,_,pl,_⟩:=I.list h
 refine⟨pl.isList.typeIs,λb e=> ?_⟩
 cases e
 obtain⟨o,n,e,c,g,_⟩:=pl
 exact⟨o,e,g⟩
def kL (x:Str):List Str->Option Nat
 | []=>y0
 | y::ys=>if y=x then k0 0 else(kL x ys).map (· +1)
theorem sE : ∀ {L}{j},kL x L=k0 j->j<L.length/\L[j]? =k0 x/\ ∀i,i<j-> ∀y,L[i]? =k0 y->y≠x
 | [],_,h=>by cases h
 | y::g,j,h=>by
  unfold kL at h
  split at h
  .rename_i q
   cases h
   exact⟨Nat.zero_lt_succ _,by simp [q],λi b=>absurd b (Ag7 _)⟩
  .rename_i q
   obtain⟨k,e,rfl⟩:=Ag5.mp h
   obtain⟨d,f,c⟩:=sE e
   refine⟨Nat.succ_lt_succ d,by simpa using f,λi b z a=> ?_⟩
   cases i with
   | zero=>simp at a;rw [← a];exact q
   | succ i=>exact c i (by lia) z (by simpa using a)
def MK (K:Aa9):V->List V->Hp->VK->Prop:=λx c H Q=> ∃a z j,∃b:List Str,x= .ref a/\c= [.str z]/\ck K H a (b.map V.str)/\kL z b=k0 j/\Q (.int (j:Nat)) H
def Dv:iG X "tuple.index" (MK X.K):=by
 intro n s U H x M v L Q I F rv h
 obtain⟨a,z,j,f,rfl,rfl,C,G,q⟩:=h
 cases F
 obtain⟨u,rfl,D⟩:=rv.one
 obtain⟨t,rfl⟩:=D
 obtain⟨g,r,p,P⟩:=I.tuple C
 obtain⟨O,K,J⟩:=sE G
 have l:=r.length
 have look: ∀(i:Nat) y,g.toArray[i]? =k0 y-> ∃w d,f[i]? =k0 w/\y=Value.str w d:=λi y k=>by
  obtain⟨N,e1,e2⟩:=r.iL (by simpa using k)
  rw [Ac]at e1
  cases m:f[i]? with
  | none=>rw [m]at e1;cases e1
  | some b=>
   rw [m]at e1
   cases e1
   obtain⟨d,rfl⟩:=e2
   exact⟨b,d,rfl,rfl⟩
 refine Ld (e:=λi=>u9 (f[i]? =k0 z)) p (λi y k=> ?_) (by simp_all) (decide_eq_true K) (λi B=> ?_) λd=>⟨.int j,H,I.kept λb o e=>e,⟨d,rfl⟩,q⟩
 .obtain⟨w,d,e,rfl⟩:=look i y k
  have:=PySem.SeqAt.EqAt.str_str (A:=X.A.in1) (s:=s) w d z t
  have e2:u9 (f[i]? =k0 z)=(w==z):=by
   rw [e]
   by_cases q:w=z
   .subst q;simp
   .simp [q]
  rw [e2]
  exact this
 .have E:=by omega
  exact decide_eq_false λc=>J i B z c rfl
def LO (K:Aa9):V->List V->Hp->VK->Prop:=λx c H Q=> ∃a n,∃b:List Int,x= .ref a/\c= [.int n]/\bq K H a (b.map V.int)/\Q (.int ((b.count n:Nat):Int)) H
def Fh:iG X "list.count" (LO X.K):=by
 intro c s U H x D v C Q I z rv h
 obtain⟨a,n,J,rfl,rfl,j,q⟩:=h
 cases z
 obtain⟨u,rfl,l⟩:=rv.one
 obtain⟨t,rfl⟩:=l
 obtain⟨w,r,pl,G⟩:=I.list j
 obtain⟨E,rfl,e2⟩:=QO r
 obtain⟨⟨m,dd,f,sl⟩,g,A,k,B⟩:=id pl.isList
 subst A B
 refine call_meets F.slot_list_count ⟨_,g,rfl⟩ F.entry_list_count (F.args_list_count_2 _ _) (PySem.SeqAt.list_countAt a _ k dd sl _ (λy=>match y with | .int i _=>i==n | _=>k9)) ⟨g,λy d=> ?_,?_⟩
 .simp only [List.mem_toArray,Ab6]at d
  obtain⟨p,_,rfl⟩:=d
  exact PySem.SeqAt.EqAt.int_int p.1 p.2 n t
 .refine⟨.int _,H,I.kept λb o e=>e,⟨s.toks,?_⟩,q⟩
  rw [← e2,List.count_eq_countP,List.countP_map]
  simp only [List.countP_map]
  rfl
end
section
variable {prog:Program}{w:World}{A:Around}{E:Value->Shared->Prop}{s:Shared}
def jI (a:s.heap.IsTupleIter it t i) (h:s.heap.IsTuple t u8) (j:u8[i]? =k0 x)
 (g: ∀h',h'.IsTupleIter it t (i+1)->Aj1 it s.heap h'->Q x { s with heap:=h' }):wpAny (model prog w) A (Builtin.SmallTypes.nextOf (.ref it)) Q E s:=by
 obtain⟨o,c,f,b⟩:=id a
 obtain⟨l,e,_,k,d⟩:=h
 refine wpAny_bind (wpAny_callSpecial?_slot a.typeIs F.slot_tuple_iterator_next
  (wpAny_call_entry F.slot_tuple_iterator_next a.typeIs F.entry_tuple_iterator_next ?_ (F.args_tuple_iterator_next_1 _)))
 show wpAny _ _ (field _ 0 >>= _) _ _ s
 refine wpAny_bind (wpAny_field c b rfl ?_)
 refine wpAny_bind (wpAny_field c b rfl ?_)
 refine wpAny_bind (wpAny_seqItems e d ?_)
 simp [j]
 refine wpAny_bind (wpAny_setField c b (by simp) (wpAny_pure ⟨x,rfl,wpAny_pure (g _ ?_ (Aj1.update ..))⟩))
 exact⟨_,Heap.get?_update_self _ c (Obj.isFreed_of_fields (Obj.data_mapFields b _)),(Obj.cls_mapFields ..).trans f,by
  rw [Obj.data_mapFields b];simp [rawInt]⟩
def WM (g:A.handled=y0) (a:s.heap.IsTupleIter it t i) (h:s.heap.IsTuple t u8) (k:u8[i]? =y0)
 (j: ∀h' e,Heap.ExtBut it s.heap h'->(∃ o,h'.get? e=k0 o/\o.cls= .type "StopIteration")->E (.ref e) { s with heap:=h' }):wpAny (model prog w) A (Builtin.SmallTypes.nextOf (.ref it)) Q E s:=by
 obtain⟨o,b,m,c⟩:=id a
 obtain⟨n,f,_,l,d⟩:=h
 refine wpAny_bind (wpAny_callSpecial?_slot a.typeIs F.slot_tuple_iterator_next
  (wpAny_call_entry F.slot_tuple_iterator_next a.typeIs F.entry_tuple_iterator_next ?_ (F.args_tuple_iterator_next_1 _)))
 show wpAny _ _ (field _ 0 >>= _) _ _ s
 refine wpAny_bind (wpAny_field b c rfl ?_)
 refine wpAny_bind (wpAny_field b c rfl ?_)
 refine wpAny_bind (wpAny_seqItems f d ?_)
 simp [k]
 refine wpAny_bind (wpAny_rule (wpAny_bind (wpAny_setField b c (by simp) ?_)))
 refine wpAny_bind ?_
 refine wpAny_bind (wpAny_newObj_type ?_ (by size_fits))
 refine wpAny_bind (wpAny_of_eq (by first | rfl | (simp [firstArgMember])) ?_)
 refine wpAny_newObj_type ?_ (by size_fits)
 refine wpAny_bind (wpAny_handled ?_)
 first | rw [show A.in1.handled=y0 from g] | rw [g]
 refine wpAny_bind (wpAny_pure (wpAny_throw ?_))
 exact j _ _ (((Aj1.update ..).extBut.push _).push _) ⟨_,Ac5 _ rfl,rfl⟩
def jW (j:A.handled=y0) (it t) (u8) (b:t≠it):Draws prog w A it [it,t] u8.size (λi x=>u8[i]? =k0 x) (λi h=>h.IsTupleIter it t i/\h.IsTuple t u8) where
 live:=λi h a=>let ⟨o,e,_⟩:=a.1; ⟨o,e⟩
 frame:=λi h f a k=>⟨let ⟨o,e,r⟩:=a.1; ⟨o,k it (by simp) o e,r⟩,let ⟨o,e,r⟩:=a.2; ⟨o,k t (by simp) o e,r⟩⟩
 item:=λi s Q E d a l=>jI a.1 a.2 (x:=u8[i]) (by simp [d]) λf c g=>l _ f s.toks (by simp [d]) ⟨c,a.2.extBut g.extBut b⟩ g
 done:=λs Q E a m=>WM j a.1 a.2 (by simp) m
open PySem.AutoSeq1 (wpAny_loadPart') in
theorem Xv (l:Addr) (a:Array Value) (n:Nat) (e:Option Addr) (sl:Array (Option Value)):
 Meets (Builtin.«enumerate.__new__» ⟨[.type "enumerate",.ref l],[]⟩) (fun _ R s=>s.heap.get? l=some { cls:= .type "tuple",dict:=e,data:= .seq a n,slots:=sl } ∧
  R (.ok (.ret (.ref (s.heap.push { cls:= .type "tuple_iterator",data:= .fields #[.ref l,.int 0 0] }).objs.size)))
   { s with heap:=(s.heap.push { cls:= .type "tuple_iterator",data:= .fields #[.ref l,.int 0 0] }).push { cls:= .type "enumerate",data:= .fields #[.none,.bool false,.ref s.heap.objs.size,rawInt 0,.none,.none] } }):=
 .of_wp λprog w A R s h=>by
  obtain⟨m,g,d,j,o⟩:=s;obtain⟨b,h⟩:=h
  have i:=sub_enumerate
  have f:Heap.IsTuple _ l a:=⟨_,b,rfl,n,rfl⟩
  wp_walk using wpAny_loadPart' b
  refine wpAny_stack_any λk=>wpAny_pure ?_
  split
  .rename_i c _ _ _ _ _
   cases (c==Value.type "enumerate")
   .wp_walk using wpAny_loadPart' b,wpAny_pyIter_tuple f
    exact⟨_,rfl,h⟩
   .wp_walk using wpAny_loadPart' b,wpAny_pyIter_tuple f
    exact⟨_,rfl,h⟩
  .wp_walk using wpAny_loadPart' b,wpAny_pyIter_tuple f
   exact⟨_,rfl,h⟩
def QA (g:s.heap.IsTuple l u8)
 (h: ∀h',IsEnum h' (s.heap.objs.size+1) s.heap.objs.size 0 .none->h'.IsTupleIter s.heap.objs.size l 0->h'.objs.size=s.heap.objs.size+2 →
   (∀ b o,s.heap.get? b=k0 o->h'.get? b=k0 o)->Q (.ref (s.heap.objs.size+1)) { s with heap:=h' }):
 wpAny (model prog w) A (call (.type "enumerate") [.ref l]) Q E s:=by
 obtain⟨⟨c,a,k,sl⟩,i,f,n,j⟩:=g
 subst f j
 refine callType_new F.called_enumerate rfl (F.typeCall_enumerate_1 _) (F.newCall_enumerate_1 _) (λobj=>F.args_object_init_2 obj _) F.entry_enumerate_new
  (Xv l u8 n a sl) ⟨i,?_⟩
 have d:(s.heap.push { cls:= .type "tuple_iterator",data:= .fields #[.ref l,.int 0 0] }).objs.size=s.heap.objs.size+1:=Heap.size_push ..
 rw [d]
 have e:IsEnum ((s.heap.push { cls:= .type "tuple_iterator",data:= .fields #[.ref l,.int 0 0] }).push
  { cls:= .type "enumerate",data:= .fields #[.none,.bool false,.ref s.heap.objs.size,rawInt 0,.none,.none] }) (s.heap.objs.size+1) s.heap.objs.size 0 .none:=by
  have:=Heap.get?_push_size (s.heap.push { cls:= .type "tuple_iterator",data:= .fields #[.ref l,.int 0 0] })
   (o:= { cls:= .type "enumerate",data:= .fields #[.none,.bool false,.ref s.heap.objs.size,rawInt 0,.none,.none] }) rfl
  rw [d]at this;exact this
 refine⟨⟨_,e,rfl⟩,h _ e ⟨_,Ab1 _ (Ac5 _ rfl),rfl,rfl⟩ (by simp) λb o x=>Ab1 _ (Ab1 _ x)⟩
end
section
variable {X:Cx}{pins:List (Addr×Obj)}{U:St}{H:Hp}{s:Shared}{h':Heap}
def Inv.eQ (I:Inv X pins U H s) (k: ∀b o,b≠e->b≠it->s.heap.get? b=k0 o->h'.get? b=k0 o) (J:H it=y0) (w:H e=y0) (l:it≠X.env.locals) (f:e≠X.env.locals)
 (h1:it∈X.ex\/X.s₀.heap.objs.size<=it) (h:e∈X.ex\/X.s₀.heap.objs.size<=e) (E: ∀x c,X.env.cells.lookup x=k0 c->c≠it) (j: ∀x c,X.env.cells.lookup x=k0 c->c≠e) (C: ∀p∈X.pn++pins,p.1≠it) (g: ∀p∈X.pn++pins,p.1≠e):Inv X pins U H { s with heap:=h',toks:=t' }:=by
 have d: ∀b u,H b=k0 u->b≠e/\b≠it:=λb u q=>⟨λz=>(by simp_all),λz=>(by simp_all)⟩
 have i: ∀b o,b∉ [e,it]->s.heap.get? b=k0 o->h'.get? b=k0 o:=λb o a q=>k b o (λz=>a (by simp [z])) (λz=>a (by simp [z])) q
 refine I.step (λb A=> ?_) (λb o _ _ a e _=>i b o a e) (λb o _ _ a e _=>⟨o.slots,i b o a e⟩) (λ_ _ _ _ n=>n)
  (λb o a e=>⟨o,i b o a e⟩) (λ_ _ e=>e) (λ_ _ _ e=>e) (λb G e=>⟨#[],by rw [e];simp⟩) (λm B=> ?_) (λb u q=> ?_) I.bare
 .obtain z | z:=Ab8.mp A
  .rw [z];exact⟨h,f,j,g⟩
  .rw [Ac3.mp z];exact⟨h1,l,E,C⟩
 .obtain⟨o,y,F,D,r⟩:=B
  exact⟨o,y,F,k _ o (Ne.symm f) (Ne.symm l) D,r⟩
 .refine(I.a0 b u q).dQ (λc v a t=>k c v ?_ ?_ t) (λ_ q=>q) λ_ _ q=>q
  .obtain z | z:=a
   .rw [z];exact(d b u q).1
   .exact(d c _ z).1
  .obtain z | z:=a
   .rw [z];exact(d b u q).2
   .exact(d c _ z).2
end
noncomputable def oO (K:Aa9) (a:Addr):It:=
 ⟨λi H=> ∃xs x,ck K H a xs/\xs[i]? =k0 x,λi H x H'=> ∃p y,H p=y0/\x= .ref p/\H'=aQ H p (.tup [.int (i:Int),y])/\ ∀xs,ck K H a xs->xs[i]? =k0 y,λi H=> ∃xs,ck K H a xs/\xs.length=i⟩
def MH {K:Aa9}(a it e) (A:e≠it):hZ P w K (.Tuple elts x1 tp) (oO K a) [e,it] e (λi h=>(∃ j,IsEnum h e it (i:Int) j)/\h.IsTupleIter it a i) where
 mem:=by simp
 obj:=λi h l b L=>by
  obtain⟨⟨j,q⟩,⟨o,q2,c,d⟩⟩:=l
  rcases Ab8.mp L with z | z
  .subst z
   exact⟨_,q,λv z=>by cases z⟩
  .rw [Ac3.mp z]
   exact⟨o,q2,λv z=>by rw [d]at z;cases z⟩
 keep:=λi h h' l k=>⟨let ⟨j,q⟩:=l.1; ⟨j,k e (by simp) _ q⟩,let ⟨o,q,r⟩:=l.2; ⟨o,k it (by simp) o q,r⟩⟩
 item:=by
  intro X hP hw hK V i m s U H E I M l Y
  subst hP hw hK
  obtain⟨⟨j,B⟩,f⟩:=l
  obtain⟨xs,x,O,hx⟩:=Y
  obtain⟨g,rv,p,hz⟩:=I.tuple O
  obtain⟨u,hu,ru⟩:=rv.get hx
  have C:=p
  have t:a≠it:=λz=>by
   obtain⟨o,q,c,_⟩:=C
   obtain⟨o',Z,J,_⟩:=f
   rw [z,Z]at q;cases q
   rw [c]at J;exact absurd J (by decide)
  have hae:a≠e:=λz=>by
   obtain⟨o,q,c,_⟩:=C
   rw [z,B]at q;cases q
   exact absurd (show Value.type "enumerate" =Value.type "tuple" from c) (by decide)
  obtain⟨f0,f1,f2,f3,f4,f5⟩:=M e (by simp)
  obtain⟨Q,g1,g2,g3,R,g5⟩:=M it (by simp)
  have T:=by
   have:=Aa0.mp hu
   simpa using this.1
  have n:X.A.in1.handled=none:=I.ok.hd V
  refine wpAny_pyNext_enum_itemD (jW n it a g.toArray t) B ⟨f,C⟩ T A (by simp [A,Ne.symm hae]) λy h1 D G ho S hT hsz hk=> ?_
  have ey:y=u:=by
   rw [An4]at G
   rw [hu]at G;cases G;rfl
  subst ey
  refine⟨_,rfl,wpAny_letOwnedTupleGo_enum ho λh2 W N=> ?_⟩
  have N:=N
  have hep:=Ap3 (Ac1 B)
  have hn:=I.a0.fresh (Aa7 _)
  have I1:Inv X m U (aQ H s.heap.objs.size (.tup [.int (i:Int),x])) { s with heap:=s.heap.push { cls:= .type "tuple",data:= .seq #[.int i D,y] },toks:=D+1 }:=by
   refine I.laid (λb o q=>Ab1 _ q) (Aa7 _) ⟨by simp only [Aa8,Ad3];rw [sizeLine_eq];decide,[.int i D,y],.cons ⟨_,rfl⟩ (.cons ru .nil),?_⟩
   exact⟨_,Ac5 s.heap rfl,rfl,rfl,_,rfl⟩
  have F:it<s.heap.objs.size:=by obtain⟨o,q,_⟩:=f;exact Ac1 q
  have ee:=Ac1 B
  have I2:=I1.eQ (t':=D+1) (λb o b1 b2 q=>by
   refine(N.2 b b1).trans ?_
   rcases Heap.get?_push_cases (show (s.heap.push { cls:= .type "tuple",data:= .seq #[.int i D,y] }).get? b=some o from q)with⟨z,z2⟩ | z
   .rw [z,z2];exact hT
   .exact hk b o b1 b2 z) (by rw [Qa (Ac7 F)];exact Q) (by rw [Qa (Ac7 ee)];exact f0) g1 f1 g3 f3 R f4 g5 f5
  refine⟨.ref s.heap.objs.size,_,I2,rfl,⟨s.heap.objs.size,x,hn,rfl,rfl,λys G=>by rw [I.dz G O];exact hx⟩,⟨⟨y,by simpa using W⟩,?_⟩,λb L=> ?_⟩
  .obtain⟨o,q,r⟩:=S.1
   exact⟨o,(N.2 it (Ne.symm A)).trans q,r⟩
  .rcases Ab8.mp L with z | z
   .rw [z,Qa (Ac7 ee)];exact f0
   .rw [Ac3.mp z,Qa (Ac7 F)];exact Q
 done:=by
  intro X hP hw hK V i m s U H E I M l Y
  subst hP hw hK
  obtain⟨⟨j,B⟩,f⟩:=l
  obtain⟨xs,O,hx⟩:=Y
  obtain⟨g,rv,p,hz⟩:=I.tuple O
  have C:s.heap.IsTuple a g.toArray:=p
  have t:a≠it:=λz=>by
   obtain⟨o,q,c,_⟩:=C
   obtain⟨o',Z,J,_⟩:=f
   rw [z,Z]at q;cases q
   rw [c]at J;exact absurd J (by decide)
  obtain⟨Q,g1,g2,g3,R,g5⟩:=M it (by simp)
  have hl:=rv.length
  have n:X.A.in1.handled=none:=I.ok.hd V
  have hi:i=g.toArray.size:=by simp;lia
  subst hi
  exact wpAny_pyNext_enum_endD (jW n it a g.toArray t) B ⟨f,C⟩ λh' eb=>⟨rfl,I.turned (λb o L q=>eb b o L q) Q g1 g3 R g5⟩
 self:=λ_ _ _ _ _ l h=>wpAny_pyIter_enum l.1.choose_spec h
def Ht (K:Aa9) (b:TA):TI:=λU H R=>b U H λc H1=> ∃a xs,c= [.ref a]/\ck K H1 a xs/\R (oO K a) H1
def ww:bootBuiltins "enumerate" =some (.type "enumerate"):=by decide +kernel
def Mo (A:Gl X "enumerate") (y:X.mg "enumerate" =none) (v:PA X [a] ta) (w:starEach [a] X.env= [(false,eval a X.env)]:=by rfl):PI X (.Tuple elts x1 tp) (.Call (.Name "enumerate" p) [a] [] pos) (Ht X.K ta):=by
 intro f s U H R I h
 refine Call_ (Jy I A y ww (PyProof.Rows.callWith_type1 (aO (v pos f s U H _ I h) λC g ⟨D,o,d,n,x⟩=> ?_) w rfl))
 obtain⟨b,E,e,m,q⟩:=x
 subst e
 cases n with
 | cons r k=>
  cases k
  cases r
  obtain⟨t,rv,pl,G⟩:=d.tuple m
  refine QA (pl) λF j i B l=> ?_
  refine wpAny_pyIter_enum j ?_
  refine⟨g.heap.objs.size+1,[g.heap.objs.size+1,g.heap.objs.size],_,_,o,rfl,d.kept l,MH b g.heap.objs.size _ (Nat.succ_ne_self _),⟨⟨_,by simpa using j⟩,i⟩,λc u=> ?_,q⟩
  obtain z | z:=Ab8.mp u
  .rw [z];exact d.cO (Ag4 _) (d.a0.fresh (Ag4 _))
  .rw [Ac3.mp z];exact d.cO (Aa7 _) (d.a0.fresh (Aa7 _))
def II (h:ItemsOf (λi v=> ∃t,v=Value.int (0+(i:Int)*1) t) acc n):Vals ((Aa3 n).map λ(i:Nat)=>V.int (i:Int)) acc.toList:=by
 have f: ∀ a k m,a.length=m->(∀ j v,a[j]? =k0 v-> ∃t,v=Value.int (k+j:Nat) t)->Vals ((Al7 k m).map λ(i:Nat)=>V.int i) a:=by
  intro a
  induction a with
  | nil=>intro k m b _;cases b;exact .nil
  | cons x a d=>
   intro k m b c
   cases b
   refine .cons (c 0 x rfl) (d _ _ rfl λj v g=> ?_)
   obtain⟨t,e⟩:=c (j+1) v (by simp_all)
   exact⟨t,by rw [e];congr 1;lia⟩
 rw [Aj7]
 refine f acc.toList 0 n (by rw [Ai0];exact h.1) λj v g=> ?_
 obtain⟨t,e⟩:=h.2 j v (by simp_all)
 exact⟨t,by rw [e];congr 1;lia⟩
section
variable {X:Cx}
def LX:bootBuiltins "range" =some (.type "range"):=by decide +kernel
end
def ZK {g e:Option Int}(a:IsTup s.heap t vs) (f:s.heap.IsSliceOf sl vl vu .none) (pl:IsPart vl g) (i:IsPart vu e)
 (l:HT.aY vs.size 0 g=0) (h1:HT.aY vs.size vs.size e=vs.size) (h:Q (.ref t) s):wpAny (model prog w) A (getItem (.ref t) (.ref sl)) Q E s:=by
 obtain⟨j,b,d,k⟩:=id f
 have c:s.TypeIs (.ref sl) "slice" :=⟨j,b,d⟩
 unfold getItem
 try with_reducible refine wpAny_holding ?_
 refine wpAny_bind (wpAny_sequenceKey a.typeIs rfl (wpAny_bind (wpAny_callSpecial?_slot a.typeIs PyProof.Rows.slot_tuple_getitem
  (wpAny_call_entry PyProof.Rows.slot_tuple_getitem a.typeIs PyProof.Rows.entry_tuple_getitem ?_ (PyProof.Rows.args_tuple_getitem _ _)))))
 show wpAny _ _ (Builtin.Tuple.tupleItemsOf _ >>= _) _ _ s
 refine wpAny_bind (tupleItemsOf_ a (wpAny_bind (wpAny_typeOf c (wpAny_bind (HT.bI f pl i ?_)))))
 show wpAny _ _ (if _=u0 then _ else _) _ _ s
 rw [if_pos (by simp_all)]
 exact wpAny_bind (wpAny_bind (wpAny_typeOf a.typeIs (wpAny_pure (wpAny_bind (wpAny_rule (wpAny_pure ⟨_,rfl,wpAny_pure h⟩))))))
section
variable {X:Cx}
def n7 (K:Aa9):V->Option Int->Option Int->Hp->VK->Prop:=λx lo hi H Q=> ∃a xs,x= .ref a/\ck K H a xs/\HT.aY xs.length 0 lo=0/\HT.aY xs.length xs.length hi=xs.length/\Q (.ref a) H
def Fl:gs X (n7 X.K):=by
 intro d s U H x v p u o n sl Q I l j pl g h
 obtain⟨a,i,rfl,f,m,k,q⟩:=h
 cases l
 obtain⟨c,r,e,t⟩:=I.tuple f
 have b:c.toArray.size=i.length:=by rw [Ac0];exact r.length.symm
 refine⟨"tuple",_,PyProof.Rows.slot_tuple_getitem.lookup,e.typeIs,?_⟩
 exact ZK e j pl g (by rw [b];exact m) (by rw [b];exact k) ⟨.ref a,H,I,rfl,q⟩
end
section
variable {X:Cx}
def Me:bootBuiltins "list" =some (.type "list"):=by decide +kernel
def Lj (a:TA):TE:=λU H Q=>a U H λb H1=> ∃n:Nat,b= [.int (n:Int)]/\n<=1000/\ ∀l,H1 l=y0->Q (.ref l) (aQ H1 l (.lst ((Aa3 n).map λ(i:Nat)=>V.int (i:Int))))
def DL (F:X.calm=true) (G:Gl X "list") (E:X.mg "list" =none) (i:Gl X "range") (j:X.mg "range" =none) (B:PA X [a] ta) (C:starEach [a] X.env= [(false,eval a X.env)]):
 PE X (.Call (.Name "list" p) [.Call (.Name "range" p2) [a] [] pos2] [] pos) (Lj ta):=by
 intro c s U H Q I h
 refine Call_ (Jy I G E Me (PyProof.Rows.callWith_type1 (Calls.spliced_cons (Call_ (Jy I i j LX (PyProof.Rows.callWith_type1 (aO (B pos2 c s U H _ I h) λJ m ⟨L,M,g,x,D⟩=> ?_) C rfl)))) rfl rfl))
 obtain⟨n,e,O,q⟩:=D
 subst e
 cases x with
 | cons r v=>
  cases v
  obtain⟨t,rfl⟩:=r
  refine call_range_1 (Calls.spliced_nil ?_)
  have l:Builtin.Range.rangeSize 0 n 1= n:=by
   unfold Builtin.Range.rangeSize
   simp
   lia
  refine call_list_range (g.ok.hd F) (IsRange.new ..) (small_one (by decide) (by decide) (by lia) (by lia)) l (by lia) λN K k y w A f=> ?_
  have u:=II f
  have d: ∀o:Obj,m.heap.objs.size<=(m.heap.push o).objs.size:=λo=>by rw [Al];exact Ag4 _
  refine⟨.ref _,_,g.laid (o:= .lst _) (λb o z=>w b o (Ab1 _ z)) (d _) ⟨by rw [Aa,Ae9,sizeLine_eq];lia,k.toList,y,u,by simpa using A⟩,rfl,q _ (g.a0.fresh (d _))⟩
end
section
variable {X:Cx}{pins:List (Addr×Obj)}{U:St}{H:Hp}{s:Shared}{h':Heap}
def Inv.b9 {ch:List Addr}(I:Inv X pins U H s) (k: ∀b o,b∉ch->s.heap.get? b=k0 o->h'.get? b=k0 o) (f: ∀b∈ch,bA X pins H b):Inv X pins U H { s with heap:=h',toks:=t' }:=by
 have d: ∀b u,H b=k0 u->b∉ch:=λb u q z=>by rw [(f b z).1]at q;cases q
 refine I.step (λb t=> ?_) (λb o _ _ a e _=>k b o a e) (λb o _ _ a e _=>⟨o.slots,k b o a e⟩) (λ_ _ _ _ n=>n)
  (λb o a e=>⟨o,k b o a e⟩) (λ_ _ e=>e) (λ_ _ _ e=>e) (λb C e=>⟨#[],by rw [e];simp⟩) (λm w=> ?_) (λb u q=> ?_) I.bare
 .obtain⟨B,j,A,l,g,i⟩:=f b t
  exact⟨l,j,g,i⟩
 .obtain⟨o,p,y,x,r⟩:=w
  exact⟨o,p,y,k _ o (λz=>(f _ z).2.1 rfl) x,r⟩
 .refine(I.a0 b u q).dQ (λc v a h=>k c v ?_ h) (λ_ q=>q) λ_ _ q=>q
  obtain z | z:=a
  .rw [z];exact d b u q
  .exact d c _ z
end
end L2
set_option maxHeartbeats 8000000
namespace L2
open PySem PySem.Spec PyProof.Rows
open Sem (wp)
abbrev K2:=List (Int ⊕ List Int)
section
variable (prog:Program) (w:World)
inductive w4 (h:Heap):K2->List Value->Prop
 | nil:w4 h [] []
 | int {i:Int}{t:Tok}{ks:K2}{vs:List Value}:w4 h ks vs->w4 h (.inl i::ks) (.int i t::vs)
 | tup {l:List Int}{a:Addr}{ks:K2}{vs:List Value}:IsTupleKey (intKind prog w) h l a->w4 h ks vs->w4 h (.inr l::ks) (.ref a::vs)
end
abbrev WK:=Int×List Int×List Int
section
variable {X:Cx}{pins:List (Addr×Obj)}{U:St}{H:Hp}{s:Shared}{a b:Addr}{k:WK}{xs:List (WK×Addr×Value)}{r:Value}{A:Around}{E:Value->Shared->Prop}
def Z8 (I:Inv X pins U H s):sysModules<s.heap.objs.size:=by
 exact Nat.lt_trans (by decide) ((I.mod.glob.keeps I.bk).lt)
end
open PySem.AutoSeq1 (wpAny_loadPart')
open MeetsSeq MeetsSeq2 MeetsSeq3 SeqRoads2 PySem.SeqAt
open PySem PySem.Spec PyProof.Rows PyProof.Rows.KTD PyProof.V
section
variable {X:Cx}{pins:List (Addr×Obj)}{U:St}{H:Hp}{s:Shared}
theorem jO {K:Type} [DecidableEq K]: ∀(more a:List (K×Value)),((a++more).map (·.1)).Nodup->merged a more=a++more
 | [],a,_=>by simp [merged]
 | p::more,a,h=>by
  have e:stored a p.1 p.2=a++ [p]:=by
   unfold stored
   rw [if_neg]
   intro z
   obtain⟨b,c,e⟩:=Ad2.mp z
   rw [Ae0,Aj3]at h
   exact h.2.2 b.1 (List.mem_map_of_mem c) p.1 (by simp) (of_decide_eq_true e)
  show merged (stored a p.1 p.2) more=_
  rw [e,jO more (a++ [p]) (by simpa using h)]
  simp
end
noncomputable def ph (K:Aa9) (a:Addr):It:=
 ⟨λi H=> ∃xs x,bq K H a xs/\xs[i]? =k0 x,λi H x H'=> ∃p y,H p=y0/\x= .ref p/\H'=aQ H p (.tup [.int (i:Int),y])/\ ∀xs,bq K H a xs->xs[i]? =k0 y,λi H=> ∃xs,bq K H a xs/\xs.length=i⟩
def L3 {K:Aa9}(a it e) (A:e≠it):hZ P w K (.Tuple elts x1 tp) (ph K a) [e,it] e (λi h=>(∃ j,IsEnum h e it (i:Int) j)/\h.IsListIter it a i) where
 mem:=by simp
 obj:=λi h l b L=>by
  obtain⟨⟨j,q⟩,⟨o,q2,c,d⟩⟩:=l
  rcases Ab8.mp L with z | z
  .subst z
   exact⟨_,q,λv z=>by cases z⟩
  .rw [Ac3.mp z]
   exact⟨o,q2,λv z=>by rw [d]at z;cases z⟩
 keep:=λi h h' l k=>⟨let ⟨j,q⟩:=l.1; ⟨j,k e (by simp) _ q⟩,let ⟨o,q,r⟩:=l.2; ⟨o,k it (by simp) o q,r⟩⟩
 item:=by
  intro X hP hw hK V i m s U H E I M l Y
  subst hP hw hK
  obtain⟨⟨j,B⟩,f⟩:=l
  obtain⟨xs,x,O,hx⟩:=Y
  obtain⟨g,rv,p,hz⟩:=I.list O
  obtain⟨u,hu,ru⟩:=rv.get hx
  have C:=p.isList
  have t:a≠it:=λz=>by
   obtain⟨o,q,c,_⟩:=C
   obtain⟨o',Z,J,_⟩:=f
   rw [z,Z]at q;cases q
   rw [c]at J;exact absurd J (by decide)
  have hae:a≠e:=λz=>by
   obtain⟨o,q,c,_⟩:=C
   rw [z,B]at q;cases q
   exact absurd (show Value.type "enumerate" =Value.type "list" from c) (by decide)
  obtain⟨f0,f1,f2,f3,f4,f5⟩:=M e (by simp)
  obtain⟨Q,g1,g2,g3,R,g5⟩:=M it (by simp)
  have T:=by
   have:=Aa0.mp hu
   simpa using this.1
  have n:X.A.in1.handled=none:=I.ok.hd V
  refine wpAny_pyNext_enum_itemD (Draws.list n it a t g.toArray) B ⟨f,C⟩ T A (by simp [A,Ne.symm hae]) λy h1 D G ho S hT hsz hk=> ?_
  have ey:y=u:=by
   rw [An4]at G
   rw [hu]at G;cases G;rfl
  subst ey
  refine⟨_,rfl,wpAny_letOwnedTupleGo_enum ho λh2 W N=> ?_⟩
  have N:=N
  have hep:=Ap3 (Ac1 B)
  have hn:=I.a0.fresh (Aa7 _)
  have I1:Inv X m U (aQ H s.heap.objs.size (.tup [.int (i:Int),x])) { s with heap:=s.heap.push { cls:= .type "tuple",data:= .seq #[.int i D,y] },toks:=D+1 }:=by
   refine I.laid (λb o q=>Ab1 _ q) (Aa7 _) ⟨by simp only [Aa8,Ad3];rw [sizeLine_eq];decide,[.int i D,y],.cons ⟨_,rfl⟩ (.cons ru .nil),?_⟩
   exact⟨_,Ac5 s.heap rfl,rfl,rfl,_,rfl⟩
  have F:it<s.heap.objs.size:=by obtain⟨o,q,_⟩:=f;exact Ac1 q
  have ee:=Ac1 B
  have I2:=I1.eQ (t':=D+1) (λb o b1 b2 q=>by
   refine(N.2 b b1).trans ?_
   rcases Heap.get?_push_cases (show (s.heap.push { cls:= .type "tuple",data:= .seq #[.int i D,y] }).get? b=some o from q)with⟨z,z2⟩ | z
   .rw [z,z2];exact hT
   .exact hk b o b1 b2 z) (by rw [Qa (Ac7 F)];exact Q) (by rw [Qa (Ac7 ee)];exact f0) g1 f1 g3 f3 R f4 g5 f5
  refine⟨.ref s.heap.objs.size,_,I2,rfl,⟨s.heap.objs.size,x,hn,rfl,rfl,λys G=>by rw [I.d0 G O];exact hx⟩,⟨⟨y,by simpa using W⟩,?_⟩,λb L=> ?_⟩
  .obtain⟨o,q,r⟩:=S.1
   exact⟨o,(N.2 it (Ne.symm A)).trans q,r⟩
  .rcases Ab8.mp L with z | z
   .rw [z,Qa (Ac7 ee)];exact f0
   .rw [Ac3.mp z,Qa (Ac7 F)];exact Q
 done:=by
  intro X hP hw hK V i m s U H E I M l Y
  subst hP hw hK
  obtain⟨⟨j,B⟩,f⟩:=l
  obtain⟨xs,O,hx⟩:=Y
  obtain⟨g,rv,p,hz⟩:=I.list O
  have C:s.heap.IsList a g.toArray:=p.isList
  have t:a≠it:=λz=>by
   obtain⟨o,q,c,_⟩:=C
   obtain⟨o',Z,J,_⟩:=f
   rw [z,Z]at q;cases q
   rw [c]at J;exact absurd J (by decide)
  obtain⟨Q,g1,g2,g3,R,g5⟩:=M it (by simp)
  have hl:=rv.length
  have n:X.A.in1.handled=none:=I.ok.hd V
  have hi:i=g.toArray.size:=by simp;lia
  subst hi
  exact wpAny_pyNext_enum_endD (Draws.list n it a t g.toArray) B ⟨f,C⟩ λh' eb=>⟨rfl,I.turned (λb o L q=>eb b o L q) Q g1 g3 R g5⟩
 self:=λ_ _ _ _ _ l h=>wpAny_pyIter_enum l.1.choose_spec h
def DU (K:Aa9) (b:TA):TI:=λU H R=>b U H λc H1=> ∃a xs,c= [.ref a]/\bq K H1 a xs/\R (ph K a) H1
def Bf (A:Gl X "enumerate") (y:X.mg "enumerate" =none) (v:PA X [a] ta) (w:starEach [a] X.env= [(false,eval a X.env)]:=by rfl):PI X (.Tuple elts x1 tp) (.Call (.Name "enumerate" p) [a] [] pos) (DU X.K ta):=by
 intro f s U H R I h
 refine Call_ (Jy I A y ww (PyProof.Rows.callWith_type1 (aO (v pos f s U H _ I h) λC g ⟨D,o,d,n,x⟩=> ?_) w rfl))
 obtain⟨b,E,e,m,q⟩:=x
 subst e
 cases n with
 | cons r k=>
  cases k
  cases r
  obtain⟨t,rv,pl,G⟩:=d.list m
  refine call_enumerate_list pl.isList λF j i B l=> ?_
  refine wpAny_pyIter_enum j ?_
  refine⟨g.heap.objs.size+1,[g.heap.objs.size+1,g.heap.objs.size],_,_,o,rfl,d.kept l,L3 b g.heap.objs.size _ (Nat.succ_ne_self _),⟨⟨_,by simpa using j⟩,i⟩,λc u=> ?_,q⟩
  obtain z | z:=Ab8.mp u
  .rw [z];exact d.cO (Ag4 _) (d.a0.fresh (Ag4 _))
  .rw [Ac3.mp z];exact d.cO (Aa7 _) (d.a0.fresh (Aa7 _))
open PySem PySem.Spec PySem.Calls PySem.W PyProof.Rows
def vz:List Value->Bool
 | []=>k9
 | x::r=>match x with
  | .ref _=>vz r
  | _=>x::r==ri
def yj (K:Frag) (C:Addr):Bool:=(clsIn K C).any λcd=>vz cd.mro&&cd.hasDict
noncomputable def Cd (K:Frag) (C:Addr):Bool:=match K.lookup C with
 | some ⟨.type "type",_,.cls cd,sl⟩=>(match cd.mro,sl.toList with
  | .ref c::a,[_,_,_,_,k0 (.builtin n),_]=>c==C&&(n== "ValueError.__new__" &&(!cd.hasDel&&(tailIn K ri a&&nsOkIn K cd.ns)))
  | _,_=>k9)
 | _=>k9
structure Nq (K:Frag) (C:Addr) (f:Str):Prop where
 cls:Cd K C=u0
 ov:yj K C=u0
 sa:findIn K (.ref C) "__setattr__" =some (some (.builtin "object.__setattr__"))
 no:findIn K (.ref C) f=k0 y0
 kp:keepIn K (.ref C)=u0
structure Nw (K:Frag) (f:Str) (fI:Addr) (fd:FuncData) (ps:List Str):Prop where
 ex: ∃x k7 st N n1 n2 p1 p2 p3 p4,m1 K x k7 st fI fd/\ps= [n1,n2]/\N= [n1,n2]/\zD N ps (Wn st)/\WJ st= [.Assign [.Attribute (.Name n1 p1) f p2] (.Name n2 p3) p4]/\(n1==("__debug__" :Str))=false/\(n2==("__debug__" :Str))=false ∧
  (n1==("__classdict__" :Str))=false/\(n2==("__classdict__" :Str))=false
 bd:Binds K fd ps []
 fn:typeIn K (.ref fI)=k0 (.type "function")
structure Ng (K:Frag) (C:Addr) (f:Str):Prop where
 ov:yj K C=u0
 no:findIn K (.ref C) f=k0 y0
 ga:findIn K (.ref C) "__getattribute__" =some (some (.builtin "BaseException.__getattribute__"))
 gh:findIn K (.ref C) "__getattr__" =some none
end L2
namespace L2
open PySem PySem.Spec PyProof.Rows PySem.Builtin.Str
def bS:Str:=⟨#[32]⟩
noncomputable def mY (z:Str) (a:List Str):Bool:= !(u9 (z.length<bS.length)||u9 (strKind z<strKind bS))&& !(occurrences z bS 0 z.length (z.length+1)).isEmpty&&u9 (z.length<=1000)&&u9 (partsBetween z (occurrences z bS 0 z.length (z.length+1)) bS.length=a)&&u9 (a.length<=1000)
section
variable {X:Cx}
theorem QX: ∀(ps) (t),Vals (ps.map V.str) (strsFrom t ps)
 | [],_=> .nil
 | p::ps,t=> .cons ⟨_,rfl⟩ (QX ps (t+1))
def Nd:iG X "str.split" (fun x vs H Q=> ∃ z i,x= .str z/\vs= [.str bS]/\mY z i=true/\ ∀p,H p=none->Q (.ref p) (aQ H p (.lst (i.map V.str)))):=by
 intro d s U H x vs v r Q I l rv h
 obtain⟨z,i,rfl,rfl,a,q⟩:=h
 obtain⟨t,rfl⟩:=l
 obtain⟨u,rfl,g⟩:=rv.one
 obtain⟨j,rfl⟩:=g
 unfold mY at a
 simp only [Aa1,Ag6,decide_eq_true_eq]at a
 obtain⟨⟨⟨⟨k,n⟩,m⟩,c⟩,f⟩:=a
 refine call_meets PySem.F.slot_str_split (typeIs_str _ _ _) PySem.F.entry_str_split (PySem.F.args_str_split_2 _ _) (meets_str_split_sep z bS t j k rfl n (Ag1 (Ql m)) (by rw [c];exact(Ag1 (Ql f)))) ?_
 rw [c]
 refine⟨.ref s.heap.objs.size,_,?_,rfl,q _ (I.a0.fresh (Aa7 _))⟩
 exact I.laid (λb o e=>Ab1 _ e) (Aa7 _) (show ba X.prog X.w _ _ _ (.lst _)from⟨by rw [Aa];exact(Ag1 (Ql f)),strsFrom s.toks i,0,QX i s.toks,Ac5 s.heap rfl⟩)
end
open PySem PySem.Spec PyProof.Rows
def dS (a:List (Str×V)):HO:= .dK (a.map λp=>(.inr p.1,p.2))
noncomputable def g7 (a:List (Str×V)) (k:Str) (v:V):List (Str×V):=if a.any (λp=>u9 (p.1=k))then a.map (λp=>if p.1=k then(p.1,v)else p)else a++ [(k,v)]
theorem t6 : ∀ {c:List (Str×V)}{vs},KV (c.map λp=>((.inr p.1:dj),p.2)) vs->(vs.any λi=>i.1= .inr k)=c.any λp=>u9 (p.1=k)
 | [],_,.nil=>rfl
 | p::c,(a,b)::vs,.cons r t=>by
  obtain⟨e1,e2⟩:=r
  rw [Ag9,Ag9,t6 t,←e1]
  by_cases q:p.1=k<;>simp [q]
theorem mS : ∀ {c:List (Str×V)}{vs},KV (c.map λp=>((.inr p.1:dj),p.2)) vs->cx (c.lookup k) (valueAt vs (.inr k))
 | [],_,.nil=>trivial
 | p::c,(a,b)::vs,.cons r t=>by
  obtain⟨e1,e2⟩:=r
  have d:=mS (k:=k) t
  unfold valueAt at d ⊢
  rw [List.find?_cons,Ab7,←e1]
  by_cases q:p.1=k
  .rw [beq_iff_eq.mpr q.symm]
   simp only [q,decide_true]
   exact e2
  .rw [beq_eq_false_iff_ne.mpr λz=>q z.symm]
   have: ¬(Sum.inr p.1:dj)= .inr k:=λz=>q (by injection z)
   simp only [this,decide_false]
   exact d
def LS (d:RelV v u)(h:KV (kvs.map λp=>((.inr p.1:dj),p.2)) vs):KV ((g7 kvs k v).map λp=>((.inr p.1:dj),p.2)) (stored vs (.inr k) u):=by
 unfold g7 stored
 rw [t6 h]
 by_cases c:(kvs.any λp=>u9 (p.1=k))=u0
 .rw [if_pos c,if_pos c]
  clear c
  induction kvs generalizing vs with
  | nil=>cases h;exact .nil
  | cons p kvs e=>
   cases h with
   | @cons _ q _ vs r t=>
    obtain⟨a,b⟩:=q
    obtain⟨e1,e2⟩:=r
    subst e1
    refine .cons ?_ (e t)
    by_cases q:p.1=k
    .subst q
     simp only [if_true]
     exact⟨trivial,d⟩
    .have: ¬(Sum.inr p.1:dj)= .inr k:=λz=>q (by injection z)
     simp only [q,this,if_false]
     exact⟨trivial,e2⟩
 .rw [if_neg c,if_neg c,Ae0]
  exact Paired.snoc h ⟨rfl,d⟩
section
variable {X:Cx}{pins:List (Addr×Obj)}{U:St}{H:Hp}{s:Shared}{a:Addr}{k:Str}{kvs:List (Str×V)}{u r:Value}{A:Around}{E:Value->Shared->Prop}
def J7 (I:Inv X pins U H s) (e:H a=k0 (dS kvs)):kvs.length<=sizeLine/\(a==sysModules)=k9/\ ∃vs,KV (kvs.map λp=>((.inr p.1:dj),p.2)) vs/\s.heap.DictOf (zE X.prog X.w) a vs:=by
 obtain⟨z,c,vs,b,dd⟩:=(show ba X.prog X.w H s.heap a (dS kvs)from I.a0 a _ e)
 rw [Aa]at z
 exact⟨z,c,vs,b,dd⟩
def EU (I:Inv X pins U H s) (e:H a=k0 (dS kvs)) (d:RelV (.str k) u) (l:kvs.lookup k=k0 v) (h: ∀i s',Inv X pins U H s'->RelV v i->Q i s'):wpAny (model X.prog X.w) A (getItem (.ref a) u) Q E s:=by
 obtain⟨z,g,j,c,dd⟩:=J7 I e
 obtain⟨t,rfl⟩:=d
 obtain⟨i,f,b⟩:=cx.some_of (by rw [← l];exact mS c)
 exact wpAny_getItem_of (xm _ _ k t) dd.mapOf f (h i _ (I.tok _) b)
def uQ (r:cx o q):q.isSome=o.isSome:=by
 cases o with
 | none=>rw [cx.none_of r];rfl
 | some v=>obtain⟨u,rfl,_⟩:=cx.some_of r;rfl
def Ck (I:Inv X pins U H s) (e:H a=k0 (dS kvs)) (c:RelV (.str k) u) (h: ∀s',Inv X pins U H s'->Q (.bool (kvs.lookup k).isSome) s'):wpAny (model X.prog X.w) A (compareOp .In u (.ref a)) Q E s:=by
 obtain⟨z,d,f,b,dd⟩:=J7 I e
 obtain⟨t,rfl⟩:=c
 refine wpAny_in_of (xm _ _ k t) d dd.mapOf ?_
 rw [uQ (mS b)]
 exact h _ (I.tok _)
def Lv (I:Inv X pins U H s) (e:H a=k0 (dS kvs)) (c:RelV (.str k) u) (h: ∀s',Inv X pins U H s'->Q (.bool (!(kvs.lookup k).isSome)) s'):wpAny (model X.prog X.w) A (compareOp .NotIn u (.ref a)) Q E s:=by
 obtain⟨z,d,f,b,dd⟩:=J7 I e
 obtain⟨t,rfl⟩:=c
 refine wpAny_notIn_of (xm _ _ k t) d dd.mapOf ?_
 rw [uQ (mS b)]
 exact h _ (I.tok _)
def Dl (kvs) (k) (v):(g7 kvs k v).length<=kvs.length+1:=by
 unfold g7
 split
 .rw [Aa];lia
 .simp
def C3 (I:Inv X pins U H s) (e:H a=k0 (dS kvs)) (n:RelV (.str k) u) (rv:RelV v r) (p:kvs.length<sizeLine) (h: ∀s',Inv X pins U (aQ H a (dS (g7 kvs k v))) s'->Q () s'):wpAny (model X.prog X.w) A (setItem (.ref a) u r) Q E s:=by
 obtain⟨z,o,g,b,dd⟩:=J7 I e
 obtain⟨t,rfl⟩:=n
 have w:g.length<=sizeLine:=by rw [← Paired.length b,Aa];exact z
 refine wpAny_setItem_pairs (xm _ _ k t) dd λm c l=>h _ ?_
 have i: ∃q,m.get? a=k0 q:=let ⟨q,_,_,f,_⟩:=c; ⟨q,f⟩
 refine I.write (by rw [e];exact True.intro) (.inl rfl) (λj q d z=>(l.2 j d).trans z) i ⟨?_,o,_,LS rv b,c⟩
 rw [Aa]
 have:=Dl kvs k v
 lia
def BV (I:Inv X pins U H s) (e:H a=k0 (dS kvs)) (h: ∀p s',H p=y0->Inv X pins U (aQ H p (dS kvs)) s'->Q (.ref p) s'):wpAny (model X.prog X.w) A (call (.type "dict") [.ref a]) Q E s:=by
 obtain⟨z,i,j,c,dd⟩:=J7 I e
 refine kt_call_dict i dd (by rw [← Paired.length c,Aa];exact z) λk d g=> ?_
 refine h _ _ (I.a0.fresh (Aa7 _)) (I.laid (λb q f=> ?_) (Aa7 _) ⟨by rw [Aa];exact z,beq_eq_false_iff_ne.mpr (Ne.symm (Ac7 (Z8 I))),j,c,d⟩)
 exact(g.2 b (Ac7 (Ac1 f))).trans (Ab1 _ f)
def DP:TE:=λ_ H Q=> ∀p,H p=y0->Q (.ref p) (aQ H p (dS []))
def ES :PE X (.Dict [] [] pos) DP:=λa s U H Q I h=>
 wpAny_Dict_empty ⟨.ref s.heap.objs.size,_,I.laid (o:=dS []) (λ_ _ q=>Ab1 _ q) (Aa7 _) ⟨Ae6 _,beq_eq_false_iff_ne.mpr (Ne.symm (Ac7 (Z8 I))),[],.nil,Heap.DictOf.new _⟩,rfl,h _ (I.a0.fresh (Aa7 _))⟩
end
open PySem PySem.Spec PySem.Calls PySem.W PyProof.Rows
def oK:List TE->St->Hp->(List V->Hp->Prop)->Prop
 | [],_,H,Q=>Q [] H
 | t::b,U,H,Q=>t U H λv H1=>oK b U H1 λa H2=>Q (v::a) H2
section
variable {X:Cx}
def kR (X:Cx):List Str->List TE->List (Option Expr)->List Expr->Prop
 | [],f,ks,d=>f= []/\ks= []/\d= []
 | x::r,f,ks,d=> ∃j p e t a b c,f=t::c/\ks=k0 (.Constant (.str x) j p)::a/\d=e::b/\PE X e t/\kR X r c a b
theorem uA: ∀ {T}{i}{ks}{vs},kR X T i ks vs->ks.all (·.isSome)=u0/\ks.length=T.length/\vs.length=T.length
 | [],_,_,_,⟨rfl,rfl,rfl⟩=>⟨rfl,rfl,rfl⟩
 | x::r,_,_,_,⟨j,p,e,t,b,a,d,rfl,rfl,rfl,_,ok⟩=>by
  obtain⟨c,g,f⟩:=uA ok
  exact⟨by simpa using c,by simp [g],by simp [f]⟩
theorem zQ : ∀ {T}{O}{ks}{vs}{s}{H}{Q}{i},kR X T O ks vs->Inv X pins U H s->oK O U H Q →
 (∀ ws H1 kvs L M,Inv X pins U H1 M->Carries (zE X.prog X.w) L kvs->KV ((T.zip ws).map λp=>((.inr p.1:dj),p.2)) kvs->kvs.map (·.1)=T.map .inr->Q ws H1->i L M) →
 wpAny (model X.prog X.w) X.A (evalPairs (pairTrees ks vs X.env pos)) i X.xe s
 | [],_,_,_,s,H,Q,i,⟨rfl,rfl,rfl⟩,I,h,q=>pairTrees_nil_walk (q [] H [] [] s I trivial .nil rfl h)
 | x::r,_,_,_,s,H,Q,i,⟨j,p,e,t,l,b,z,rfl,rfl,rfl,n,ok⟩,I,h,q=>
  pairTrees_cons_walk (Calls.Constant_str (aO (n pins _ U H _ (I.tok _) h) λu M ⟨v,H1,d,g,o⟩=>
   zQ ok d o λws k kvs L a w c f m y=>q (v::ws) k ((.inr x,u)::kvs) _ a w ⟨xm _ _ x _,rfl,c⟩ (.cons ⟨rfl,g⟩ f) (by simp [m]) y))
def Lo (ok:kR X T ts ks vs) (B:T≠ []) (j:T.length<=15) (A:T.Nodup):
 PE X (.Dict ks vs pos) (λU H Q=> ∀p,H p=y0->oK ts U (aQ H p (dS [])) λws H1=>H1 p=k0 (dS [])/\Q (.ref p) (aQ H1 p (dS (T.zip ws)))):=by
 intro l s U H Q I h
 obtain⟨r,a2,a3⟩:=uA ok
 have n:=beq_eq_false_iff_ne.mpr (Ne.symm (Ac7 (Z8 I)))
 refine wpAny_Dict_walk (knd:=zE X.prog X.w) r (a2.trans a3.symm) (λz=>B (List.length_eq_zero_iff.mp (by simp_all))) (by lia) ?_
 refine zQ ok (I.laid (o:=dS []) (t':=s.toks) (fun _ _ q=>Heap.get?_push_of_some { cls:= .type "dict",data:= .dict #[] } q) (Nat.le_refl _) ⟨Nat.zero_le _,n,[],.nil,Heap.DictOf.new _⟩) (h _ (I.a0.fresh (Nat.le_refl _))) fun ws H1 d C D k c f m q=>⟨d,c,?_,fun y dd x=> ?_⟩
 .obtain⟨_,_,u,g,dd⟩:=J7 k q.1
  cases g
  exact dd
 .rw [jO d [] (by rw [Ae7,m];exact Ao7.map _ (λa b z e=>z (by injection e)) A),Ae7]at dd
  have v: ∃q,y.get? s.heap.objs.size=k0 q:=let ⟨q,_,_,t,_⟩:=dd; ⟨q,t⟩
  refine⟨.ref s.heap.objs.size,_,k.write (o:=dS _) (by rw [q.1];exact True.intro) (.inl rfl) (λw q i z=>(x.2 w i).trans z) v ⟨?_,n,_,f,dd⟩,rfl,q.2⟩
  rw [Aa,Al8]
  have:=j
  exact Ab5 (Nat.min_le_left _ _) (Ab5 j (by decide))
end
open PySem PySem.Spec PySem.Calls PyProof.Rows
section
variable {X:Cx}
def Lc:oo X "int.bit_length" (fun x xs H Q=> ∃i:Int,x= .int i/\xs= []/\Q (.int ((Builtin.Int.intBits i:Nat):Int)) H):=by
 intro a s U H x xs v c Q I b rv h
 obtain⟨i,rfl,rfl,q⟩:=h
 obtain⟨t,rfl⟩:=b
 cases rv
 exact call_int_bit_length ⟨.int _,H,I.tok _,⟨_,rfl⟩,q⟩
end
def dm (H H':Hp):Prop:= ∀a o,H a=k0 o->H' a=k0 o
def dm.refl :dm H H:=λ_ _ h=>h
def dm.trans (a:dm H H1) (b:dm H1 H2):dm H H2:=λx o h=>b x o (a x o h)
def bq.le {K:Aa9}(h:bq K H a xs) (l:dm H H'):bq K H' a xs:=by
 obtain h | h:=h
 .refine .inl ?_
  obtain h | ⟨u,h⟩:=h
  .exact .inl (l _ _ h)
  .exact .inr ⟨u,l _ _ h⟩
 .exact .inr h
def fR (g:Int->Int):Int->List Int->Int
 | b,[]=>b
 | b,x::xs=>if g x<g b then fR g x xs else fR g b xs
def jY {id:String}(b:(args.any (·.1)||kws.any (·.1.isNone))=k9)
 (h:wpAny M A (evalArgs (.builtin id) u0 args kws) (λa i=>wpAny M A (call (.builtin id) (first++a.pos) a.kw) Q E i) E s):
 wpAny M A (callWith pos (.builtin id) first args kws) Q E s:=by
 refine wpAny_bind (wpAny_holding (wpAny_mono h (λa i c=>wpAny_bind (wpAny_standAt ?_)) λ_ _ x=>x))
 simp only [b]
 exact wpAny_bind (wpAny_pure (wpAny_bind (wpAny_mono c (λr d e=>wpAny_bind (wpAny_holding (wpAny_point (wpAny_pure e)))) λ_ _ x=>x)))
section
variable {X:Cx}{pins:List (Addr×Obj)}{U:St}{H0:Hp}{q l S J:Addr}{is:List Int}{g:Int->Int}{R:Result->Shared->Prop}
def oH (X:Cx) (U:St) (a:Hp) (q:Addr) (is:List Int) (g:Int->Int):Prop:= ∀(pins:List (Addr×Obj)) (s:Shared) (H:Hp) (n:Int) (t:Tok),n∈is->Inv X pins U H s->dm a H →
 wpAny (model X.prog X.w) X.A.in1 (call (.ref q) [.int n t]) (EP X pins U λv H'=>v= .int (g n)/\dm H H') (λ_ _=>False) s
def bA.keep (h:bA X pins H b) (n:H' b=y0):bA X pins H' b:=⟨n,h.2⟩
def tf (T:oH X U H0 q is g) (p:n∈is) (I:Inv X pins U H s) (i:dm H0 H) (fS:bA X pins H S) (f:bA X pins H J) (h:s.heap.get? S=k0 oS) (j:s.heap.get? J=k0 oJ) (dS: ∀v,oS.data≠ .cell v) (r: ∀v,oJ.data≠ .cell v)
 (k: ∀t' s' H',Inv X pins U H' s'->dm H0 H'->bA X pins H' S->bA X pins H' J->s'.heap.get? S=k0 oS->s'.heap.get? J=k0 oJ->Q (.int (g n) t') s'):
 wpAny (model X.prog X.w) X.A.in1 (call (.ref q) [.int n t]) Q E s:=by
 have m:=I.pinned (λb a=>by
  obtain rfl | a:=Ab8.mp a
  .exact fS
  .rw [Ac3.mp a];exact f) (λb a=>by
  obtain rfl | a:=Ab8.mp a
  .exact⟨_,h,dS⟩
  .rw [Ac3.mp a];exact⟨_,j,r⟩)
 refine wpAny_mono (T _ s H n t p m i) (λu s' o=> ?_) λ_ _ z=>z.elim
 obtain⟨v,H',c,l,rfl,le⟩:=o
 obtain⟨t',rfl⟩:=l
 have e:=c.pin _ (Ab0 _ (Ab0 _ (Qg (by simp) h)))
 have d:=c.pin _ (Ab0 _ (Ab0 _ (Qg (by simp) j)))
 exact k t' s' H' c.bJ (i.trans le) (fS.keep e.2.1) (f.keep d.2.1) e.1 d.1
def BL (hh:X.A.handled=y0) (T:oH X U H0 q is g) (hl:bq X.K H0 l (is.map .int)) (Q:l≠J) (L:S≠J): ∀(Zp:List Int) (j:Nat) (m:Int) (tv tb:Tok) (c:Nat) (s:Shared) (H:Hp),is.drop (j+1)=Zp->j+1<=is.length->Inv X pins U H s->dm H0 H->bA X pins H S->bA X pins H J →
 s.heap.get? S=k0 (seqObj "list" #[.int m tv,.int (g m) tb] c)->s.heap.IsListIter J l (j+1)->(∀ t s' H',Inv X pins U H' s'->dm H0 H'->R (.ok (.ret (.int (fR g m Zp) t))) s')->codeAny (model X.prog X.w) X.A (.builtin "min.loop" ⟨[.ref J,.ref q,.ref S],[]⟩) R s:=by
 have k:(toString "min" ++toString ".loop" :String)= "min.loop" :=by decide
 intro Zp
 induction Zp with
 | nil=>
  intro j m tv tb c s H O hj I hH fS fJ eS B hR
  obtain⟨d,rv,pl, -⟩:=I.list (hl.le hH)
  have il:d.length=is.length:=by rw [← rv.length,Aa]
  have hin:j+1=is.length:=by
   have:=congrArg List.length O
   rw [Af7]at this
   simp at this
   lia
  have W:=Walks.list (prog:=X.prog) (w:=X.w) (A:=X.A.in1) hh J l Q d.toArray
  refine codeAny_builtin PySem.F.entry_min_loop ?_
  rw [Around.under_plainId PySem.F.plain_min_loop _]
  show wpAny _ X.A.in1 _ _ _ _
  refine wpAny_bind (wpAny_seqItems eS rfl ?_)
  show wpAny _ X.A.in1 (tryCatch (pyNext (.ref J)) _ >>= _) _ _ _
  refine wpAny_bind (wpAny_tryCatch (W.done _ _ _ ⟨by rw [Ac0,il,←hin];exact B,pl.isList⟩ λN G f=> ?_))
  have D:=f S _ (by simpa using L) eS
  have s1:=Aj1.update N S (Obj.mapSeq λ_=>(#[]:Array Value))
  show wpAny _ X.A.in1 (updateSeq S (λ_=> #[]) >>= _) _ _ _
  refine wpAny_bind ?_
  refine wpAny_updateSeq D rfl (wpAny_bind (wpAny_letGo (wpAny_pure ?_)))
  have I1:Inv X pins U H { s with heap:=N,toks:=G }:=I.b9 (ch:= [J]) (λb o a e=>f b o a e) λb a=>by rw [Ac3.mp a];exact fJ
  exact hR _ _ _ (I1.b9 (ch:= [S]) (λb o a e=>(s1.2 b (by simpa using a)).trans e) λb a=>by rw [Ac3.mp a];exact fS) hH
 | cons n Zp ih=>
  intro j m tv tb c s H O hj I hH fS fJ eS B hR
  obtain⟨d,rv,pl, -⟩:=I.list (hl.le hH)
  have il:d.length=is.length:=by rw [← rv.length,Aa]
  have C:j+1<is.length:=by
   have:=congrArg List.length O
   rw [Af7]at this
   simp at this
   lia
  have en:is[j+1]? =k0 n:=by
   have:=congrArg (·[0]?) O
   simpa using this
  have W:=Walks.list (prog:=X.prog) (w:=X.w) (A:=X.A.in1) hh J l Q d.toArray
  refine codeAny_builtin PySem.F.entry_min_loop ?_
  rw [Around.under_plainId PySem.F.plain_min_loop _]
  show wpAny _ X.A.in1 (seqItems? (.ref S) >>= _) _ _ _
  refine wpAny_bind (wpAny_seqItems eS rfl ?_)
  show wpAny _ X.A.in1 (tryCatch (pyNext (.ref J)) _ >>= _) _ _ _
  refine wpAny_bind (wpAny_tryCatch (W.item (j+1) _ _ _ (by rw [Ac0,il];exact C) ⟨B,pl.isList⟩ λv N G hP M f=> ?_))
  obtain⟨u,hu,ru⟩:=rv.get (i:=j+1) (x:= .int n) (by rw [Ac,en];rfl)
  obtain⟨p,rfl⟩:=ru
  obtain rfl:v= .int n p:=by
   have:d[j+1]? =k0 v:=by simpa using hP
   rw [hu]at this
   exact(Ad6.inj this).symm
  obtain⟨oJ,hoJ,hoc,K⟩:=id M.1
  have I1:Inv X pins U H { s with heap:=N,toks:=G }:=I.b9 (ch:= [J]) (λb o a e=>f b o a e) λb a=>by rw [Ac3.mp a];exact fJ
  have D:N.get? S=k0 _:=f S _ (by simpa using L) eS
  show wpAny _ X.A.in1 (tryCatch (holding [.int n p] (call (.ref q) [.int n p])) _ >>= _) _ _ _
  refine wpAny_bind (wpAny_tryCatch (wpAny_holding (tf T (Ac4 en) I1 hH fS fJ D hoJ (λv z=>by cases z) (λv z=>by rw [K]at z;cases z) λy s2 H2 I2 hH2 E fJ2 F V=> ?_)))
  have Y:s2.heap.IsListIter J l (j+1+1):=⟨oJ,V,hoc,K⟩
  have Z:is.drop (j+1+1)=Zp:=by
   have:=congrArg List.tail O
   simpa [List.tail_drop]using this
  show wpAny _ X.A.in1 (tryCatch (holding [.int n p,.int (g n) y] (richCompare .Lt (.int (g n) y) (.int (g m) tb) >>= _)) _ >>= _) _ _ _
  refine wpAny_bind (wpAny_tryCatch (wpAny_holding (wpAny_bind (CmpOf.ints_lt (prog:=X.prog) (w:=X.w) (A:=X.A.in1) (P:=λ(i:Nat) v=> ∃t,v= .int (if i=0 then g n else g m) t) (λi=>if i=0 then g n else g m) (λi v h=>h) 0 1 _ _ _ _ _ ⟨y,rfl⟩ ⟨tb,rfl⟩ ?_))))
  refine wpAny_bind (wpAny_holding (wpAny_truthy_bool ?_))
  refine wpAny_bind (wpAny_letGo (wpAny_pure ?_))
  show wpAny _ X.A.in1 (if u9 (g n<g m)=u0 then _ else _) _ _ _
  by_cases r:g n<g m
  .have s1:=Aj1.update s2.heap S (Obj.mapSeq λ_=> #[.int n p,.int (g n) y])
   obtain⟨c2,hc2⟩: ∃c2,(s2.heap.update S (Obj.mapSeq fun _=> #[.int n p,.int (g n) y])).get? S=k0 (seqObj "list" #[.int n p,.int (g n) y] c2):=⟨_,get?_update_seq F fun _=> #[.int n p,.int (g n) y]⟩
   rw [if_pos (decide_eq_true r)]
   refine wpAny_bind ?_
   refine wpAny_updateSeq F rfl (wpAny_bind (wpAny_letGo ?_))
   rw [k]
   refine wpAny_pure ⟨plainId_quiet PySem.F.plain_min_loop _,ih (j+1) n p y c2 _ H2 Z C ?_ hH2 E fJ2 hc2 ⟨oJ,(s1.2 J L.symm).trans V,hoc,K⟩ λt s' H' I' l'=> ?_⟩
   .exact I2.b9 (ch:= [S]) (λb o a e=>(s1.2 b (by simpa using a)).trans e) λb a=>by rw [Ac3.mp a];exact E
   .have:=hR t s' H' I' l'
    rw [fR,if_pos r]at this
    exact this
  .rw [if_neg (by rw [decide_eq_false r];exact Ac2)]
   refine wpAny_bind (wpAny_letGo ?_)
   rw [k]
   refine wpAny_pure ⟨plainId_quiet PySem.F.plain_min_loop _,ih (j+1) m tv tb c _ H2 Z C I2 hH2 E fJ2 F Y λt s' H' I' l'=> ?_⟩
   have:=hR t s' H' I' l'
   rw [fR,if_neg r]at this
   exact this
def F6 (hh:X.A.handled=y0)(T:oH X U H q (n::is) g) (I:Inv X pins U H s) (hl:bq X.K H l ((n::is).map .int)) (hQ: ∀t s' H',Inv X pins U H' s'->dm H H'->Q (.int (fR g n is) t) s'):
 wpAny (model X.prog X.w) X.A (call (.builtin "min") [.ref l] [(Str.ofString "key",.ref q)]) Q E s:=by
 have a:(toString "min" ++toString ".loop" :String)= "min.loop" :=by decide
 obtain⟨f,rv,pl, -⟩:=I.list hl
 have j:=pl.isList
 obtain⟨ol,hol,_⟩:=id j
 have R:l<s.heap.objs.size:=Ac1 hol
 have il:f.length=(n::is).length:=by rw [← rv.length,Aa]
 refine kmk_tree PySem.F.kind_min PySem.F.plain_min PySem.F.entry_min (kmk_min_key _ _) ?_
 show wpAny _ X.A.in1 _ _ _ s
 refine wpAny_bind (wpAny_of_eq (show Builtin.Builtins.bindParams "min" ["key", "default"] 0 ⟨[],[(Str.ofString "key",.ref q)]⟩=pure [some (.ref q),none]from rfl) ?_)
 refine wpAny_bind (wpAny_pure ?_)
 refine wpAny_bind (wpAny_pyIter_list j ?_)
 refine wpAny_bind (wpAny_newList ?_ (Ae6 _))
 rw [a]
 have V:(s.heap.push { cls:= .type "list_iterator",data:= .fields #[.ref l,.int 0 0] }).objs.size=s.heap.objs.size+1:=size_push' ..
 have h:l≠s.heap.objs.size:=Ac7 R
 have c:(s.heap.push { cls:= .type "list_iterator",data:= .fields #[.ref l,.int 0 0] }).objs.size≠s.heap.objs.size:=by rw [V];exact Nat.ne_of_gt (Nat.lt_succ_self _)
 have P:bA X pins H s.heap.objs.size:=I.cO (Aa7 _) (I.a0.fresh (Aa7 _))
 have fS:bA X pins H (s.heap.push { cls:= .type "list_iterator",data:= .fields #[.ref l,.int 0 0] }).objs.size:=I.cO (by rw [V];exact Nat.le_succ _) (I.a0.fresh (by rw [V];exact Nat.le_succ _))
 refine wpAny_pure ⟨plainId_quiet PySem.F.plain_min_loop _,?_⟩
 have K:((s.heap.push { cls:= .type "list_iterator",data:= .fields #[.ref l,.int 0 0] }).push (seqObj "list" #[] 0)).get? s.heap.objs.size=some { cls:= .type "list_iterator",data:= .fields #[.ref l,.int 0 0] }:=
  Ab1 _ (Ac5 _ rfl)
 have gS:((s.heap.push { cls:= .type "list_iterator",data:= .fields #[.ref l,.int 0 0] }).push (seqObj "list" #[] 0)).get? (s.heap.push { cls:= .type "list_iterator",data:= .fields #[.ref l,.int 0 0] }).objs.size=some _:=Heap.get?_push_size _ rfl
 have I0:Inv X pins U H { s with heap:=(s.heap.push { cls:= .type "list_iterator",data:= .fields #[.ref l,.int 0 0] }).push (seqObj "list" #[] 0),toks:=s.toks }:=I.kept fun b u e=>Heap.get?_push_of_some _ (Heap.get?_push_of_some _ e)
 have r:((s.heap.push { cls:= .type "list_iterator",data:= .fields #[.ref l,.int 0 0] }).push (seqObj "list" #[] 0)).IsList l f.toArray:=j.at fun o e=>Heap.get?_push_of_some _ (Heap.get?_push_of_some _ e)
 generalize (s.heap.push { cls:= .type "list_iterator",data:= .fields #[.ref l,.int 0 0] }).objs.size=S at c fS gS I0 r K ⊢
 generalize s.heap.objs.size=J at h c P K ⊢
 have W:=Walks.list (prog:=X.prog) (w:=X.w) (A:=X.A.in1) hh J l h f.toArray
 refine codeAny_builtin PySem.F.entry_min_loop ?_
 rw [Around.under_plainId PySem.F.plain_min_loop _]
 show wpAny _ X.A.in1 _ _ _ _
 refine wpAny_bind (wpAny_seqItems gS rfl ?_)
 show wpAny _ X.A.in1 (tryCatch (pyNext (.ref J)) _ >>= _) _ _ _
 refine wpAny_bind (wpAny_tryCatch (W.item 0 _ _ _ (by rw [Ac0,il];exact Nat.succ_pos _) ⟨⟨_,K,rfl,rfl⟩,r⟩ λv G C hP B D=> ?_))
 obtain⟨u,hu,ru⟩:=rv.get (i:=0) (x:= .int n) rfl
 obtain⟨d,rfl⟩:=ru
 obtain rfl:v= .int n d:=by
  have:f[0]? =k0 v:=by simpa using hP
  rw [hu]at this
  exact(Ad6.inj this).symm
 obtain⟨oJ,hoJ,O,y⟩:=id B.1
 have N:=I0.b9 (h':=G) (t':=C) (ch:= [J]) (λb o k e=>D b o k e) λb k=>by rw [Ac3.mp k];exact P
 have N:Inv X pins U H { s with heap:=G,toks:=C }:=N
 have L:G.get? S=k0 _:=D S _ (by simpa using c) gS
 show wpAny _ X.A.in1 (tryCatch (holding [.int n d] (call (.ref q) [.int n d])) _ >>= _) _ _ _
 refine wpAny_bind (wpAny_tryCatch (wpAny_holding (tf T Aa5 N dm.refl fS P L hoJ (λv z=>by cases z) (λv z=>by rw [y]at z;cases z) λm s2 H2 I2 hH2 p fJ2 F Y=> ?_)))
 have s1:=Aj1.update s2.heap S (Obj.mapSeq λ_=> #[.int n d,.int (g n) m])
 obtain⟨Z,M⟩: ∃Z,(s2.heap.update S (Obj.mapSeq fun _=> #[.int n d,.int (g n) m])).get? S=k0 (seqObj "list" #[.int n d,.int (g n) m] Z):=⟨_,get?_update_seq F fun _=> #[.int n d,.int (g n) m]⟩
 show wpAny _ X.A.in1 (updateSeq S (λ_=> #[.int n d,.int (g n) m]) >>= _) _ _ _
 refine wpAny_bind ?_
 refine wpAny_updateSeq F rfl ?_
 rw [a]
 refine wpAny_pure ⟨plainId_quiet PySem.F.plain_min_loop _,BL hh T hl h c is 0 n d m Z _ H2 rfl (Nat.succ_le_succ (Ae6 _)) ?_ hH2 p fJ2 M ⟨oJ,(s1.2 J c.symm).trans Y,O,y⟩ λt s' H' I' l'=>hQ t s' H' I' l'⟩
 exact I2.b9 (ch:= [S]) (λb o k e=>(s1.2 b (by simpa using k)).trans e) λb k=>by rw [Ac3.mp k];exact p
end
def Ls (K:Aa9) (c:Sp) (E:XK) (b:TE):TE:=λU H Q=>b U H λx H1=> ∃(l:Addr) (n:Int) (is:List Int) (g:Int->Int),x= .ref l/\bq K H1 l ((n::is).map .int)/\(∀ m∈n::is,∀H2,dm H1 H2->c [.int m] H2 (λv a=>v= .int (g m)/\dm H2 a) E)/\ ∀H2,dm H1 H2->Q (.int (fR g n is)) H2
section
variable {X:Cx}{CX:gj}{k:Nat}{f:Addr}{fd:FuncData}{ps:List Str}{sp:Sp}{E:XK}{x fn:Str}{p p2 kp pos:Pos}{e:Expr}{te:TE}
def EZ (hc:X.calm=true) (P:X.A.handled=none) (hg:Gl X x) (hm:X.mg x=none) (O:bootBuiltins x=some (.builtin "min")) (F:QG X.prog X.w X.K X.mg X.base CX k f fd ps sp) (hr:bc (k+1) X.A) (q:Gl X fn) (D:X.mg fn=some (.ref f)) (hb:Binds X.K fd ps [])
 (hE: ∀outer H s e s', ¬CX outer H s E e s') (he:PE X e te) (hn:x≠ "__name__" :=by decide) (y:(x==("__debug__" :Str))=false:=by decide) (B:(fn==("__debug__" :Str))=false:=by decide)
 (A:starEach [e] X.env=(k9,eval e X.env)::starEach [] X.env:=by rfl):PE X (.Call (.Name x p) [e] [⟨k0 (Str.ofString "key"),.Name fn p2,kp⟩] pos) (Ls X.K sp E te):=by
 intro a s U H Q I h
 refine wpAny_Call_Name_kw (Jy I hg hm O ?_ hn y)
 have S:PK X [⟨k0 (Str.ofString "key"),.Name fn p2,kp⟩] (o8 (tC (.ref f)) mX):=FZ (rK q D rfl B) CG
 have N:=(Xf he jn A) pos a s U H (λo i=>match o with
  | [v]=> ∃ l n is g,v= .ref l/\bq X.K i l ((n::is).map .int)/\(∀ m∈n::is,∀b,dm i b->sp [.int m] b (λv H3=>v= .int (g m)/\dm b H3) E)/\ ∀b,dm i b->Q (.int (fR g n is)) b
  | _=>False) I h
 .refine jY (by rw [A];rfl) ?_
  rw [A]at N ⊢
  refine evalArgs_kw rfl (aO N ?_)
  rintro us s1 ⟨o,i,Y,Z,M⟩
  obtain⟨v,rfl⟩: ∃v,o= [v]:=by
   match o,M with
   | [v],_=>exact⟨v,rfl⟩
  obtain⟨l,n,is,g,rfl,R,G,hQ⟩:=M
  refine aO (S pos a s1 U i (λL b=>L= [.ref f]/\b=i) Y ?_) λws s2 ⟨L,b,I2,rz,ez,eH⟩=> ?_
  .exact⟨rfl,rfl⟩
  subst ez eH
  obtain⟨u,rfl,T⟩:=Z.one
  obtain⟨w,rfl,C⟩:=rz.one
  obtain rfl:u= .ref l:=T
  obtain rfl:w= .ref f:=C
  refine F6 P (λa s H d t z I hH=> ?_) I2 R λt s' K I' W=>⟨.int _,K,I',⟨_,rfl⟩,hQ K W⟩
  have c:=G d z H hH
  have J:Vals [V.int d] [Value.int d t]:= .cons ⟨_,rfl⟩ .nil
  refine wpAny_call (codeAny_mono (F.run X.A.in1 X.stack s H ⟨[.int d t],[]⟩ [.int d t] [.int d] _ E hr.in1 I.iJ.in1 (hb s [.int d t] I.cw (by rw [Ae3,←J.length];exact F.len _ _ _ _ c)) J c) λr s' j=> ?_)
  cases r with
  | error e=>exact hE _ _ _ _ _ j
  | ok fl=>
   cases fl with
   | ret u=>exact I.after j
   | next=>exact False.elim j
   | brk=>exact False.elim j
   | cont=>exact False.elim j
end
section
variable {prog:Program}{w:World}{A:Around}{E:Value->Shared->Prop}{s:Shared}
def IB (xs:List Value):((Aa3 xs.length).filterMap λ(m:Nat)=>xs.toArray[(((xs.length:Int)-1)+(m:Int)* -1).toNat]?)=xs.reverse:=by
 have e: ∀m∈Aa3 xs.length,xs.toArray[((xs.length-1)+(m:Int)* -1).toNat]? =k0 (xs.reverse.getD m .none):=by
  intro m b
  have b:=Ab4.mp b
  have:((xs.length-1)+(m:Int)* -1).toNat=xs.length-1-m:=by lia
  rw [this,Ac6,List.getElem?_reverse b,An4,Aa4 (by lia)]
  rfl
 have d: ∀ {f}{g:Nat->Value}(l:List Nat),(∀ m∈l,f m=k0 (g m))->l.filterMap f=l.map g:=by
  intro f g l
  induction l with
  | nil=>exact λ_=>rfl
  | cons a l c=>exact λh=>by rw [List.filterMap_cons_some (h a (by simp)),c λm b=>h m (by simp [b]),Ab2]
 rw [d _ e]
 refine List.ext_getElem (by simp) λi k j=> ?_
 rw [List.getElem_map,List.getElem_range,Ac6,Aa4 j]
 rfl
def xM {n:Nat}(d:s.heap.IsSliceOf sl .none .none (.int (-1) tk)) (h:Q ((n:Int)-1, -1,n) s):wpAny (model prog w) A (Builtin.Slice.sliceApplied (.ref sl) (pure (n:Int))) Q E s:=by
 obtain⟨e,a,c,b⟩:=id d
 refine wpAny_bind (wpAny_bind (wpAny_field a b (x:= .none) rfl (wpAny_bind (wpAny_field a b (x:= .none) rfl (wpAny_bind (wpAny_field a b rfl (wpAny_pure ?_)))))))
 refine wpAny_bind (slicePart_int ?_)
 refine wpAny_bind (slicePart_none (wpAny_bind (slicePart_none (wpAny_bind (wpAny_pure ?_)))))
 show wpAny _ _ (pure ((n:Int)-1,_,Builtin.Slice.slicePlaces ((n:Int)-1) (-1) (-1))) _ _ s
 have:Builtin.Slice.slicePlaces ((n:Int)-1) (-1) (-1)=n:=by
  unfold Builtin.Slice.slicePlaces
  rw [if_neg (by decide)]
  show(if (n:Int)-1> -1 then((n:Int)-1- -1-1) / 1+1 else 0).toNat=n
  rw [Int.ediv_one]
  split<;>lia
 rw [this]
 exact wpAny_pure h
def XJ {t sl:Addr}{a:List Value}{k:Tok}{Q:Value->Shared->Prop}(c:IsTup s.heap t a.toArray) (j:s.heap.IsSliceOf sl .none .none (.int (-1) k))
 (h:Q (.ref s.heap.objs.size) { s with heap:=s.heap.push { cls:= .type "tuple",data:= .seq a.reverse.toArray } }) (i:a.length<=sizeLine):wpAny (model prog w) A (getItem (.ref t) (.ref sl)) Q E s:=by
 have b:=by
  show a.reverse.toArray.size<=sizeLine
  rw [Ac0,Ao4]
  exact i
 obtain⟨l,d,f,o⟩:=id j
 have e:s.TypeIs (.ref sl) "slice" :=⟨l,d,f⟩
 unfold getItem
 try with_reducible refine wpAny_holding ?_
 refine wpAny_bind (wpAny_sequenceKey c.typeIs rfl (wpAny_bind (wpAny_callSpecial?_slot (name:=Str.ofString "__getitem__") c.typeIs PyProof.Rows.slot_tuple_getitem
  (wpAny_call_entry PyProof.Rows.slot_tuple_getitem c.typeIs PyProof.Rows.entry_tuple_getitem ?_ (PyProof.Rows.args_tuple_getitem _ _)))))
 show wpAny _ _ (Builtin.Tuple.tupleItemsOf _ >>= _) _ _ s
 refine wpAny_bind (tupleItemsOf_ c (wpAny_bind (wpAny_typeOf e ?_)))
 refine wpAny_bind (xM (n:=a.length) j ?_)
 have g: ¬((((a.length:Int)-1)==0&& -1==1&&a.length==a.toArray.size)=u0):=by
  intro q
  rw [Aa1,Aa1]at q
  exact absurd q.1.2 (by decide)
 show wpAny _ _ (if _=u0 then _ else _) _ _ s
 rw [if_neg g,IB]
 first
  | exact wpAny_bind (m:=Builtin.Tuple.tupleExact _) _
  | exact wpAny_bind (m:=Builtin.Tuple.tupleExact _) (wpAny_newObj_type (wpAny_bind (wpAny_pure (wpAny_pure ⟨_,rfl,wpAny_pure h⟩))) b)
  | exact wpAny_bind _
  | exact wpAny_bind _
end
def L7 (K:Aa9) (b c:TE):TE:=λU H Q=>b U H λx H1=>c U H1 λy H2=>y= .int (-1)/\ ∃a xs,x= .ref a/\ck K H2 a xs/\ ∀p,H2 p=y0->Q (.ref p) (aQ H2 p (.tup xs.reverse))
def LL {e st:Expr}(p:PE X e te) (k:PE X st tk) (C: ∀l a,subscripted (.Slice y0 y0 (k0 st) p2) k9 l a=operate [l,a] (getItem l a):=by intro l a;with_unfolding_all rfl):PE X (.Subscript e (.Slice y0 y0 (k0 st) p2) pos) (L7 X.K te tk):=by
 intro c s U H Q I h
 refine Subscript_ (aO (p c s U H _ I h) ?_)
 rintro v F ⟨x,w,m,o,D⟩
 refine wpAny_Slice ?_
 refine wpAny_pure (wpAny_pure ?_)
 refine aO (k c F U w _ m D) ?_
 rintro K i ⟨y,G,B,t,A⟩
 obtain⟨rfl,a,J,rfl,n,q⟩:=A
 obtain⟨f,rfl⟩:=t
 cases o
 have d:Inv X c U G { i with heap:=i.heap.push { cls:= .type "slice",data:= .fields #[.none,.none,.int (-1) f] } }:=B.kept fun b u q=>Heap.get?_push_of_some _ q
 obtain⟨z,r,j,E⟩:=d.tuple n
 have g:=r.length
 refine tail_any j.typeIs PyProof.Rows.slot_tuple_getitem.lookup ?_ (C _ _)
 refine XJ j (Heap.IsSliceOf.new ..) ?_ (by lia)
 refine⟨.ref _,_,d.laid (λb u q=>Ab1 _ q) (Aa7 _) ?_,rfl,q _ (d.a0.fresh (Aa7 _))⟩
 exact⟨by rw [Ao4];exact E,_,u6 r,dc.new _ _⟩
end L2
set_option genSizeOfSpec false
namespace M
abbrev Tx:=List Nat
def uE: ∃n:Nat,n=1000000:=⟨_,rfl⟩
noncomputable def bf:Nat:=Aj4 uE
def Gg:bf=1000000:=Ah4 uE
def rp: ∃n:Int,n=1073741824:=⟨_,rfl⟩
noncomputable def kr:Int:=Aj4 rp
def GR:kr=1073741824:=Ah4 rp
def rA: ∃n:Int,n=2 ^ 62:=⟨_,rfl⟩
noncomputable def fL:Int:=Aj4 rA
def GQ:fL=2 ^ 62:=Ah4 rA
def yg: ∃n:Int,n=2 ^ 64:=⟨_,rfl⟩
noncomputable def d6:Int:=Aj4 yg
def GZ:d6=2 ^ 64:=Ah4 yg
def yy: ∃n:Int,n=1000000:=⟨_,rfl⟩
noncomputable def BP:Int:=Aj4 yy
def Kg:BP=1000000:=Ah4 yy
def yi: ∃n:Nat,n=2 ^ 64:=⟨_,rfl⟩
noncomputable def ku:Nat:=Aj4 yi
def GD:ku=2 ^ 64:=Ah4 yi
inductive D where
 | au
 | bl (b:Bool)
 | int (i:Int)
 | str (s:Tx)
 | tup (xs:List D)
 | lst (xs:List D)
 | ref (r:Nat)
inductive W where
 | v (d:D)
 | own (xs:List D)
 | bor (xs:List D)
abbrev WK:=Int×List Int×List Int
inductive Cell where
 | lst (xs:List D)
 | aN (kvs:List (Tx×D))
 | obj (c:String) (fs:List (String×D))
abbrev AH:=List Cell
abbrev Sl:=List (Option W)
inductive R (α:Type) where
 | ok (a:α) (h:AH)
 | fail
def R.bind {c b:Type}:R c->(c->AH->R b)->R b
 | .ok a h,f=>f a h
 | .fail,_=> .fail
inductive O where
 | next (τ:Sl) (h:AH)
 | ret (w:W) (h:AH)
 | brk (τ:Sl) (h:AH)
 | cont (τ:Sl) (h:AH)
 | fail
def O.seq:O->(Sl->AH->O)->O
 | .next τ h,f=>f τ h
 | o,_=>o
def R.cA {b:Type}:R b->(b->AH->O)->O
 | .ok a h,f=>f a h
 | .fail,_=> .fail
section
variable {α β:Type}
@[simp] theorem R.ae (a) (h) (f:α->AH->R β):(R.ok a h).bind f=f a h:=rfl
@[simp] theorem R.ar (a) (h) (f:α->AH->O):(R.ok a h).cA f=f a h:=rfl
@[simp] theorem O.bx (τ) (h) (f):(O.next τ h).seq f=f τ h:=rfl
@[simp] theorem O.bM (w) (h) (f):(O.ret w h).seq f= .ret w h:=rfl
end
inductive Op where
 | add | sub | mul | fdiv | mod | pow | shl | shr | band | bor | bxor
 deriving DecidableEq
inductive Cp where
 | eq | ne | lt | le | gt | ge | mem | e7 | cX | i7
 deriving DecidableEq
inductive Ty where
 | au | bool | int | str | list | tuple
 deriving DecidableEq
inductive Mt where
 | index | count | b5
 deriving DecidableEq
inductive Bi where
 | len | int | list | tuple | sum | all | any | sorted | divmod | str | min | max | abs
 deriving DecidableEq
set_option genInjectivity false
mutual
inductive E where
 | var (i:Nat)
 | con (x:String)
 | int (i:Int)
 | bl (b:Bool)
 | au
 | str (s:Tx)
 | tup (es:Es)
 | lst (es:Es)
 | bin (o:Op) (a b:E)
 | cmp (o:Cp) (a b:E)
 | chain (o p:Cp) (a b c:E)
 | fk (neg:Bool) (a:E)
 | neg (a:E)
 | inv (a:E)
 | not (a:E)
 | and (a b:E)
 | or (a b:E)
 | call (f:String) (es:Es)
 | bi (b:Bi) (es:Es)
 | bZ (a:E) (t:Ty)
 | ix (a b:E)
 | sl (a lo hi:E)
 | fW (a lo:E)
 | fc (a hi:E)
 | fg (a:E)
 | dW (a:E)
 | comp (tg:List Nat) (one:Bool) (k:Nat) (aB:List Nat) (it:It) (k6:Bool) (c elt:E)
 | c7
 | eZ (i:Nat) (a:E)
 | cR (neg:Bool) (a:E) (i:Nat)
 | ef (i:Nat)
 | fK (k1:Tx) (a:E) (k2:Tx) (b:E) (k3:Tx) (c:E) (i:Nat)
 | share (a:E)
 | b4 (a:E)
 | dN (s:Tx) (ts:List Tx)
 | dG (m:Mt) (a:E) (es:Es)
 | make (c q:String) (es:Es)
 | aJ (a:E) (c f:String)
 | bK (a:E) (c m q:String) (es:Es)
 | fi (a:E)
 | fh (f:String) (a:E)
inductive Es where
 | nil
 | cons (e:E) (es:Es)
inductive It where
 | seq (e:E)
 | aj (a:E)
 | enum (e:E)
 | cv (e:E)
end
set_option genInjectivity true
mutual
inductive S where
 | set (i:Nat) (e:E)
 | af (i:Nat) (e:E)
 | eE (is:List Nat) (e:E)
 | bV (o k e:E)
 | app (i:Nat) (e:E)
 | ext (i:Nat) (e:E)
 | cu (i:Nat) (k e:E)
 | cT (i:Nat) (k e:E)
 | bT (i:Nat) (c f:String) (e:E)
 | eB (a e:E)
 | ex (e:E)
 | ret (e:E)
 | iff (c:E) (a b:Ss)
 | ij (n:Nat) (c:E) (b:Ss)
 | for (tg:List Nat) (one:Bool) (it:It) (b:Ss)
 | fU (o k:E) (j:Nat) (e:E)
 | bH (i:Nat) (c f:String) (e:E)
 | dF
inductive Ss where
 | nil
 | cons (s:S) (ss:Ss)
end
noncomputable section
mutual
@[simp,reducible] noncomputable def Gd:D->Bool
 | .ref _=>k9
 | .tup xs=>Gc xs
 | .lst xs=>Gc xs
 | _=>u0
@[simp,reducible] noncomputable def Gc:List D->Bool
 | []=>u0
 | x::xs=>Gd x&&Gc xs
end
mutual
@[simp,reducible] noncomputable def dep:D->Nat
 | .tup xs=>GG xs+1
 | .lst xs=>GG xs+1
 | _=>0
@[simp,reducible] noncomputable def GG:List D->Nat
 | []=>0
 | x::xs=>max (dep x) (GG xs)
end
def Cell.pure:Cell->Bool
 | .obj _ fs=>Gc (fs.map (·.2))
 | _=>u0
def Gu (h:AH):Bool:=h.all Cell.pure
@[reducible] def G6 (a b:D):Bool:=Gd a&&Gd b&&u9 (dep a<150)
mutual
@[simp] noncomputable def res (h:AH):D->D
 | .ref r=>match h[r]? with
  | some (.lst xs)=> .lst xs
  | _=> .ref r
 | .tup xs=> .tup (GT h xs)
 | .lst xs=> .lst (GT h xs)
 | d=>d
@[simp] noncomputable def GT (h:AH):List D->List D
 | []=> []
 | x::xs=>res h x::GT h xs
end
mutual
@[simp] noncomputable def cy:D->D->Bool
 | .au,.au=>u0
 | .bl a,.bl b=>a==b
 | .int i,.int j=>i==j
 | .bl a,.int j=>(a.toNat:Int)==j
 | .int i,.bl b=>i==(b.toNat:Int)
 | .str s,.str t=>s==t
 | .tup xs,.tup ys=>GL xs ys
 | .lst xs,.lst ys=>GL xs ys
 | _,_=>k9
@[simp] noncomputable def GL:List D->List D->Bool
 | [],[]=>u0
 | x::xs,y::ys=>cy x y&&GL xs ys
 | _,_=>k9
end
def g9 (s:Tx):List D:=s.map λc=> .str [c]
def W.d:W->Option D
 | .v d=>k0 d
 | .own xs=>k0 (.lst xs)
 | .bor _=>y0
def W.arg:W->W
 | .own xs=> .bor xs
 | w=>w
@[simp] theorem W.bX (d):(W.v d).arg= .v d:=rfl
@[simp] theorem W.eU (xs):(W.own xs).arg= .bor xs:=rfl
@[simp] theorem W.gy (xs):(W.bor xs).arg= .bor xs:=rfl
def W.dd (h:AH):W->D
 | .v d=>res h d
 | .own xs=> .lst (GT h xs)
 | .bor xs=> .lst (GT h xs)
noncomputable def W.cm (h:AH):W->Option (List D)
 | .v (.lst xs)=>k0 xs
 | .own xs=>k0 xs
 | .bor xs=>k0 xs
 | .v (.ref r)=>match h[r]? with
  | some (.lst xs)=>k0 xs
  | _=>y0
 | _=>y0
noncomputable def W.seq? (h:AH):W->Option (List D)
 | .v (.tup xs)=>k0 xs
 | .v (.lst xs)=>k0 xs
 | .own xs=>k0 xs
 | .bor xs=>k0 xs
 | .v (.ref r)=>match h[r]? with
  | some (.lst xs)=>k0 xs
  | _=>y0
 | _=>y0
def R.of {b:Type}(h:AH):Option b->R b
 | some a=> .ok a h
 | none=> .fail
@[simp] abbrev ag (d:D) (h:AH):R W:= .ok (.v d) h
def G8 (h:AH):W->Option Bool
 | .v .au=>k0 k9
 | .v (.bl b)=>k0 b
 | .v (.int i)=>k0 (i != 0)
 | .v (.str s)=>if s.length<=bf then k0 (!s.isEmpty)else y0
 | .v (.tup xs)=>k0 (!xs.isEmpty)
 | .v (.lst xs)=>k0 (!xs.isEmpty)
 | .own xs=>k0 (!xs.isEmpty)
 | .bor xs=>k0 (!xs.isEmpty)
 | _=>y0
@[simp] theorem R.ao (h) (a:α):R.of h (k0 a)= .ok a h:=rfl
@[simp] theorem W.lN (d):(W.v d).d=k0 d:=rfl
@[simp] theorem W.dP (xs):(W.own xs).d=k0 (.lst xs):=rfl
@[simp] theorem W.gK (h) (d):(W.v d).dd h=res h d:=rfl
@[simp] theorem W.ke (h) (xs):(W.own xs).dd h= .lst (GT h xs):=rfl
@[simp] theorem W.iM (h) (xs):(W.bor xs).dd h= .lst (GT h xs):=rfl
@[simp] theorem W.ly (h) (xs):(W.v (.lst xs)).cm h=k0 xs:=rfl
@[simp] theorem GS (h) (b):G8 h (.v (.bl b))=k0 b:=rfl
@[simp] theorem y6 (h) (i):G8 h (.v (.int i))=k0 (i != 0):=rfl
noncomputable def Ka (i j:Int):Option Int:=
 if 0<=i then(if 0<=j then k0 ((i.toNat &&& j.toNat:Nat):Int)else k0 ((i.toNat-(i.toNat &&& (-j-1).toNat):Nat):Int))else y0
def kh (i j:Int):Option Int:=if 0<=i/\0<=j then k0 ((i.toNat ||| j.toNat:Nat):Int)else y0
def Kz (i j:Int):Option Int:=if 0<=i/\0<=j then k0 ((i.toNat ^^^ j.toNat:Nat):Int)else y0
def Gj (o:Op) (i j:Int):Option Int:=match o with
 | .add=>k0 (i+j)
 | .sub=>k0 (i-j)
 | .mul=>if(-(d6)<i/\i<d6)\/(-(d6)<j/\j<d6)then k0 (i*j)else y0
 | .fdiv=>if 0<j/\j<kr then k0 (i / j)else y0
 | .mod=>if 0<j then k0 (i % j)else y0
 | .pow=>if 0<=j/\j<=BP/\i.natAbs<ku then k0 (i ^ j.toNat)else y0
 | .shl=>if 0<=j/\j<=BP/\i.natAbs<ku then k0 (i*2 ^ j.toNat)else y0
 | .shr=>if 0<=j then k0 (i / 2 ^ j.toNat)else y0
 | .band=>Ka i j
 | .bor=>kh i j
 | .bxor=>Kz i j
def W.int? :W->Option Int
 | .v (.int i)=>k0 i
 | _=>y0
def W.de :W->Option Tx
 | .v (.str s)=>k0 s
 | _=>y0
def W.dr :W->Option (List D)
 | .v (.tup s)=>k0 s
 | _=>y0
def KC (xs a:List D) (h:AH):R W:=if xs.length+a.length<=bf then .ok (.own (xs++a)) h else .fail
def Kw (xs:List D) (j:Int) (h:AH):R W:=if -1000<=j/\j<=1000/\xs.length*j.toNat<=bf then .ok (.own (Ab j.toNat xs).flatten) h else .fail
def KB (a b:W) (h:AH):R W:=match a.de,b.de with
 | some s,k0 t=>if s.length+t.length<=bf then ag (.str (s++t)) h else .fail
 | _,_=>match a.dr,b.dr with
  | some xs,k0 ys=>if xs.length+ys.length<=bf then ag (.tup (xs++ys)) h else .fail
  | _,_=>match a.cm h,b.cm h with
   | some xs,k0 ys=>KC xs ys h
   | _,_=> .fail
noncomputable def W.hI (h:AH):W->Option (List D)
 | .own xs=>k0 xs
 | .bor xs=>k0 xs
 | .v (.ref r)=>match h[r]? with
  | some (.lst xs)=>k0 xs
  | _=>y0
 | _=>y0
def KA (a b:W) (h:AH):R W:=match a.de,b.int? with
 | some s,k0 j=>if 0<=j/\j<=1000/\s.length*j.toNat<=bf then ag (.str (Ab j.toNat s).flatten) h else .fail
 | _,_=>match a.hI h,b.int? with
  | some xs,k0 j=>Kw xs j h
  | _,_=> .fail
def GU (o:Op) (a b:W) (h:AH):R W:=match a.int?,b.int? with
 | some i,k0 j=>(R.of h (Gj o i j)).bind λk h=>ag (.int k) h
 | _,_=>match o with
  | .add=>KB a b h
  | .mul=>KA a b h
  | _=> .fail
def inD (x:D) (xs:List D):Bool:=xs.any λy=>cy y x
@[simp,reducible] def Km:D->Bool
 | .au=>u0
 | .bl _=>u0
 | .int _=>u0
 | .str _=>u0
 | _=>k9
def tN:D->Option (List D)
 | .lst ys=>k0 ys
 | .tup ys=>k0 ys
 | _=>y0
def Kc (a b:W) (h:AH):Option Bool:=match tN (b.dd h)with
 | some ys=>if Gd (a.dd h)&&Gc ys&&u9 (GG ys<140)then k0 (inD (a.dd h) ys)else y0
 | none=>y0
noncomputable def Kx (o:Cp) (i j:Int):Option Bool:=match o with
 | .lt=>k0 (u9 (i<j))
 | .le=>k0 (u9 (i<=j))
 | .gt=>k0 (u9 (j<i))
 | .ge=>k0 (u9 (j<=i))
 | _=>y0
def Kr:W->W->Option Bool
 | .v .au,.v (.bl _)=>k0 k9
 | .v (.bl b),.v (.bl c)=>k0 (b==c)
 | _,_=>y0
def Gq (o:Cp) (a b:W) (h:AH):Option Bool:=match o with
 | .eq=>if G6 (a.dd h) (b.dd h)then k0 (cy (a.dd h) (b.dd h))else y0
 | .ne=>if G6 (a.dd h) (b.dd h)then k0 (!cy (a.dd h) (b.dd h))else y0
 | .mem=>Kc a b h
 | .e7=>(Kc a b h).map (!·)
 | .cX=>Kr a b
 | .i7=>(Kr a b).map (!·)
 | o=>match a.int?,b.int? with
  | some i,k0 j=>Kx o i j
  | _,_=>y0
noncomputable def dw (n:Nat) (i:Int):Option Nat:=if 0<=i then(if i<n then k0 i.toNat else y0)else if -(n:Int)<=i then k0 (i+n).toNat else y0
def aP {a:Type}(xs:List a) (i:Int):Option a:=(dw xs.length i).bind λj=>xs[j]?
def c9 (a b:W) (h:AH):Option D:=match b.int? with
 | some i=>match a.de with
  | some s=>if s.length<=bf then(aP s i).map λc=> .str [c]else y0
  | none=>(a.seq? h).bind λxs=>aP xs i
 | none=>y0
def aY (n d:Nat):Option Int->Nat
 | none=>d
 | some v=>if v<0 then(v+n).toNat else min v.toNat n
noncomputable def cut {a:Type}(xs:List a) (b c:Option Int):List a:=(xs.drop (aY xs.length 0 b)).take (aY xs.length xs.length c-aY xs.length 0 b)
def fq (a:W) (c b:Option Int) (h:AH):R W:=match a.de with
 | some s=>if s.length<=bf then ag (.str (cut s c b)) h else .fail
 | none=>match a.dr with
  | some xs=>ag (.tup (cut xs c b)) h
  | none=>match a.cm h with
   | some xs=> .ok (.own (cut xs c b)) h
   | none=> .fail
def Kk:List D->Option Int
 | []=>k0 0
 | .int i::r=>(Kk r).map (i+ ·)
 | _::_=>y0
def GN:List D->Option (List Int)
 | []=>k0 []
 | .int i::r=>(GN r).map (i:: ·)
 | _::_=>y0
def GO:List D->Option (List Tx)
 | []=>k0 []
 | .str s::r=>(GO r).map (s:: ·)
 | _::_=>y0
def BO:List Int->Option Int
 | []=>y0
 | i::r=>k0 (r.foldl (λa b=>if b>a then b else a) i)
def IJ:List Int->Option Int
 | []=>y0
 | i::r=>k0 (r.foldl (λa b=>if b<a then b else a) i)
def Ki (x:Tx):List Tx->List Tx
 | []=> [x]
 | y::ys=>if y<x then y::Ki x ys else x::y::ys
def GA:List Tx->List Tx
 | []=> []
 | x::xs=>Ki x (GA xs)
def Kj (x:Tx):List Tx->Option Nat
 | []=>y0
 | y::ys=>if y=x then k0 0 else(Kj x ys).map (· +1)
def Kl:List D->Option (List Bool)
 | []=>k0 []
 | .bl b::r=>(Kl r).map (b:: ·)
 | _::_=>y0
def pA (b:Bi) (w:W) (h:AH):R W:=match b with
 | .len=>match w.de with
  | some s=>if s.length<=bf then ag (.int s.length) h else .fail
  | none=>(R.of h (w.seq? h)).bind λxs h=>ag (.int xs.length) h
 | .int=>match w with
  | .v (.int i)=>ag (.int i) h
  | .v (.bl b)=>ag (.int (b.toNat:Int)) h
  | _=> .fail
 | .list=>(R.of h (w.seq? h)).bind λxs h=> .ok (.own xs) h
 | .tuple=>(R.of h (w.seq? h)).bind λxs h=>ag (.tup xs) h
 | .sum=>(R.of h ((w.cm h).bind λxs=>if xs.length<=bf then Kk xs else y0)).bind λi h=>ag (.int i) h
 | .all=>(R.of h ((w.cm h).bind Kl)).bind λbs h=>ag (.bl (bs.all id)) h
 | .any=>(R.of h ((w.cm h).bind Kl)).bind λbs h=>ag (.bl (bs.any id)) h
 | .max=>(R.of h (((w.cm h).bind GN).bind BO)).bind λi h=>ag (.int i) h
 | .min=>(R.of h (((w.cm h).bind GN).bind IJ)).bind λi h=>ag (.int i) h
 | .sorted=>(R.of h ((w.cm h).bind GO)).bind λa h=>if a.length<64 then .ok (.own ((GA a).map .str)) h else .fail
 | _=> .fail
noncomputable def lZ (m:Mt) (x:W) (h:AH):Bool:=match m with
 | .index=>x.dr.isSome
 | .count=>(x.cm h).isSome
 | .b5=>(x.cm h).isSome
@[simp] theorem p7 (xs) (h):lZ .index (.v (.tup xs)) h=true:=rfl
def GY:Nat->List D->List D
 | _,[]=> []
 | i,d::ds=> .tup [.int (i:Int),d]::GY (i+1) ds
def Ks (d:D):List D->Option Nat
 | []=>y0
 | y::ys=>if cy y d=u0 then k0 0 else(Ks d ys).map (· +1)
def Ky (a b:W) (h:AH):Option Nat:=match b.dd h with
 | .lst ys=>if(Gd (a.dd h)&&Gc ys&&u9 (GG ys<140))&&u9 (ys.length<=bf)then Ks (a.dd h) ys else y0
 | _=>y0
def m7 (m:Mt) (x:W) (ws:List W) (h:AH):R W:=match m,ws with
 | .index,[w]=>(R.of h (x.dr.bind GO)).bind λa h=>(R.of h w.de).bind λt h=>(R.of h (Kj t a)).bind λn h=>if a.length<=bf then ag (.int (n:Int)) h else .fail
 | .count,[w]=>(R.of h ((x.cm h).bind GN)).bind λis h=>(R.of h w.int?).bind λi h=>if is.length<=bf then ag (.int ((is.count i:Nat):Int)) h else .fail
 | .b5,[w]=>(R.of h (Ky w x h)).bind λn h=>ag (.int (n:Int)) h
 | _,_=> .fail
def rr (b:Bi) (i j:Int) (h:AH):R W:=match b with
 | .divmod=>if 0<j/\j<kr then ag (.tup [.int (i / j),.int (i % j)]) h else .fail
 | .min=>ag (.int (if j<i then j else i)) h
 | .max=>ag (.int (if j>i then j else i)) h
 | _=> .fail
def dC (b:Bi) (ws:List W) (h:AH):R W:=match ws with
 | [w]=>pA b w h
 | [v,w]=>(R.of h v.int?).bind λi h=>(R.of h w.int?).bind λj h=>rr b i j h
 | _=> .fail
@[simp] theorem GH (o) (i j) (h):GU o (.v (.int i)) (.v (.int j)) h=(R.of h (Gj o i j)).bind λk h=>ag (.int k) h:=rfl
@[simp] theorem Jc (i j):Gj .add i j=k0 (i+j):=rfl
@[simp] theorem zd (i j):Gj .sub i j=k0 (i-j):=rfl
@[simp] theorem F8 (s u) (h):GU .add (.v (.str s)) (.v (.str u)) h=if s.length+u.length<=bf then ag (.str (s++u)) h else .fail:=rfl
@[simp] theorem r6 (s u) (h):GU .add (.v (.tup s)) (.v (.tup u)) h=if s.length+u.length<=bf then ag (.tup (s++u)) h else .fail:=rfl
@[simp] theorem IX (s u) (h):GU .add (.v (.lst s)) (.own u) h=if s.length+u.length<=bf then .ok (.own (s++u)) h else .fail:=rfl
@[simp] theorem Ct (s u) (h):GU .add (.own s) (.own u) h=if s.length+u.length<=bf then .ok (.own (s++u)) h else .fail:=rfl
@[simp] theorem Z1 (i j) (h):Gq .lt (.v (.int i)) (.v (.int j)) h=k0 (u9 (i<j)):=rfl
@[simp] theorem jX (i j) (h):Gq .le (.v (.int i)) (.v (.int j)) h=k0 (u9 (i<=j)):=rfl
@[simp] theorem Lr (i j) (h):Gq .gt (.v (.int i)) (.v (.int j)) h=k0 (u9 (j<i)):=rfl
@[simp] theorem A0 (i j) (h):Gq .ge (.v (.int i)) (.v (.int j)) h=k0 (u9 (j<=i)):=rfl
@[simp] theorem Nb (a b) (h):Gq .eq a b h=if G6 (a.dd h) (b.dd h)then k0 (cy (a.dd h) (b.dd h))else none:=rfl
@[simp] theorem Er (a b) (h):Gq .ne a b h=if G6 (a.dd h) (b.dd h)then k0 (!cy (a.dd h) (b.dd h))else none:=rfl
@[simp] theorem int?_int (i):(W.v (.int i)).int? =k0 i:=rfl
@[simp] theorem len_str (s) (h):dC .len [.v (.str s)] h=if s.length<=bf then ag (.int s.length) h else .fail:=rfl
@[simp] theorem Wc (s) (h):dC .len [.v (.tup s)] h=ag (.int s.length) h:=rfl
@[simp] theorem Qx (s) (h):dC .len [.v (.lst s)] h=ag (.int s.length) h:=rfl
@[simp] theorem Bb (s) (h):dC .len [.bor s] h=ag (.int s.length) h:=rfl
@[simp] theorem int_int (i) (h):dC .int [.v (.int i)] h=ag (.int i) h:=rfl
@[simp] theorem yQ (s) (h):dC .list [.v (.tup s)] h= .ok (.own s) h:=rfl
@[simp] theorem qW (s) (h):dC .tuple [.own s] h=ag (.tup s) h:=rfl
@[simp] theorem XW (s) (h):dC .tuple [.bor s] h=ag (.tup s) h:=rfl
@[simp] theorem Nt (s) (h):dC .all [.own s] h=(R.of h (Kl s)).bind λbs h=>ag (.bl (bs.all id)) h:=rfl
@[simp] theorem Nv (s) (h):dC .any [.own s] h=(R.of h (Kl s)).bind λbs h=>ag (.bl (bs.any id)) h:=rfl
@[simp] theorem tQ (s) (h):dC .sum [.own s] h=(R.of h (if s.length<=bf then Kk s else y0)).bind λi h=>ag (.int i) h:=rfl
@[simp] theorem Nf (i j) (h):dC .divmod [.v (.int i),.v (.int j)] h=if 0<j/\j<kr then ag (.tup [.int (i / j),.int (i % j)]) h else .fail:=rfl
@[simp] theorem nK (s) (i) (h):c9 (.v (.str s)) (.v (.int i)) h=if s.length<=bf then(aP s i).map λc=> .str [c]else none:=rfl
@[simp] theorem aa (s) (i) (h):c9 (.v (.tup s)) (.v (.int i)) h=aP s i:=rfl
@[simp] theorem zr (s) (i) (h):c9 (.v (.lst s)) (.v (.int i)) h=aP s i:=rfl
@[simp] theorem wO (s) (i) (h):c9 (.own s) (.v (.int i)) h=aP s i:=rfl
@[simp] theorem mP (s) (i) (h):c9 (.bor s) (.v (.int i)) h=aP s i:=rfl
@[simp] theorem pW (s) (lo hi) (h):fq (.v (.lst s)) lo hi h= .ok (.own (cut s lo hi)) h:=rfl
@[simp] theorem Dw (s) (lo hi) (h):fq (.bor s) lo hi h= .ok (.own (cut s lo hi)) h:=rfl
abbrev dR:=List (String×String)
noncomputable def CI:W->Option Ty
 | .v .au=>k0 .au
 | .v (.bl _)=>k0 .bool
 | .v (.int _)=>k0 .int
 | .v (.str _)=>k0 .str
 | .v (.tup _)=>k0 .tuple
 | .v (.lst _)=>k0 .list
 | .own _=>k0 .list
 | .bor _=>k0 .list
 | .v (.ref _)=>y0
def Ty.le:Ty->Ty->Bool
 | .bool,.int=>u0
 | a,b=>u9 (a=b)
def bZ (t:Ty) (w:W):Option Bool:=(CI w).map λu=>u.le t
@[simp] theorem Cw (t) (i):bZ t (.v (.int i))=k0 (Ty.le .int t):=rfl
@[simp] theorem HN (t) (s):bZ t (.v (.tup s))=k0 (Ty.le .tuple t):=rfl
@[simp] theorem Ty.gN (t):Ty.le t t=true:=by cases t<;>rfl
@[simp] theorem Ty.lJ:Ty.le .int .tuple=false:=rfl
@[simp] def Gn:Sl->Nat->Option W
 | [],_=>y0
 | x::_,0=>x
 | _::r,n+1=>Gn r n
@[simp] def GB:Sl->Nat->W->Sl
 | [],_,_=> []
 | _::r,0,w=>k0 w::r
 | x::r,n+1,w=>x::GB r n w
def Gi (τ:Sl) (i:Nat):Option W:=match Gn τ i with
 | some (.own xs)=>k0 (.bor xs)
 | o=>o
@[simp] theorem Kh (e:Gn τ i=k0 (.own xs)):Gi τ i=k0 (.bor xs):=by simp [Gi,e]
@[simp] theorem Ku (e:Gn τ i=k0 (.v d)):Gi τ i=k0 (.v d):=by simp [Gi,e]
@[simp] theorem Ke (e:Gn τ i=k0 (.bor xs)):Gi τ i=k0 (.bor xs):=by simp [Gi,e]
@[simp] noncomputable def aZ:List Nat->List D->Sl->Option Sl
 | [],[],τ=>k0 τ
 | i::is,d::ds,τ=>aZ is ds (GB τ i (.v d))
 | _,_,_=>y0
def Gr (a:List Nat) (one:Bool) (d:D) (τ:Sl):Option Sl:=match one with
 | true=>match a with
  | [i]=>k0 (GB τ i (.v d))
  | _=>y0
 | false=>match d with
  | .tup ds=>aZ a ds τ
  | _=>y0
noncomputable def Gy (step:D->AH->R (Option D)):List D->AH->R (List D)
 | [],h=> .ok [] h
 | d::ds,h=>match step d h with
  | .ok o h1=>match Gy step ds h1 with
   | .ok r h2=> .ok (match o with | some x=>x::r | none=>r) h2
   | _=> .fail
  | _=> .fail
structure Fx where
 call:String->List W->AH->R W
 cl:dR
 con:List (String×D)
noncomputable def GF (h:AH):Option W->Option (Nat×List D)
 | some (.v (.ref r))=>match h[r]? with
  | some (.lst xs)=>k0 (r,xs)
  | _=>y0
 | _=>y0
noncomputable def GX (h:AH):Option W->Option (Nat×String×List (String×D))
 | some (.v (.ref r))=>match h[r]? with
  | some (.obj c fs)=>k0 (r,c,fs)
  | _=>y0
 | _=>y0
noncomputable def aX (f:String) (d:D):List (String×D)->List (String×D)
 | []=> [(f,d)]
 | (g,x)::r=>if g=f then(g,d)::r else(g,x)::aX f d r
def yG:W->Option (List D)
 | .v (.lst xs)=>k0 xs
 | .own xs=>k0 xs
 | _=>y0
noncomputable def GV (h:AH):Option W->Option (Nat×List (Tx×D))
 | some (.v (.ref r))=>match h[r]? with
  | some (.aN ks)=>k0 (r,ks)
  | _=>y0
 | _=>y0
noncomputable def GE (a:List (Tx×D)) (k:Tx) (d:D):List (Tx×D):=if a.any (λp=>u9 (p.1=k))then a.map (λp=>if p.1=k then(p.1,d)else p)else a++ [(k,d)]
noncomputable def eZ (w:W) (o:Option (Nat×List (Tx×D))) (h:AH):R W:=match w,o with
 | .v (.str k),k0 (_,ks)=>match ks.lookup k with
  | some d=>ag d h
  | none=> .fail
 | _,_=> .fail
noncomputable def cR (neg:Bool) (w:W) (o:Option (Nat×List (Tx×D))) (h:AH):R W:=match w,o with
 | .v (.str k),k0 (_,ks)=>ag (.bl (if neg then !(ks.lookup k).isSome else(ks.lookup k).isSome)) h
 | _,_=> .fail
noncomputable def fK (T:List (Tx×W)) (o:Option W) (h:AH):R W:=match o with
 | some (.v (.str k))=>match T.lookup k with
  | some (.v d)=>if Km d then ag d h else .fail
  | _=> .fail
 | _=> .fail
def Kd (i:Int):Nat:=if i=0 then 0 else Nat.log2 i.natAbs+1
def G7:R W->Option Int
 | .ok (.v (.int y)) []=>k0 y
 | _=>y0
noncomputable def GW (key:Int->R W):Int->Int->List Int->Option Int
 | b,_,[]=>k0 b
 | b,a,x::xs=>(G7 (key x)).bind λk=>if k<a then GW key x k xs else GW key b a xs
def Kb (key:Int->R W):Option (List Int)->Option Int
 | some (x::xs)=>(G7 (key x)).bind λk=>GW key x k xs
 | _=>y0
mutual
@[simp] noncomputable def eval (F:Fx):E->Sl->AH->R W
 | .var i,τ,h=>match Gi τ i with
  | some w=> .ok w h
  | none=> .fail
 | .con x,_,h=>match F.con.lookup x with
  | some d=>ag d h
  | none=> .fail
 | .int i,_,h=>ag (.int i) h
 | .bl b,_,h=>ag (.bl b) h
 | .au,_,h=>ag .au h
 | .str s,_,h=>ag (.str s) h
 | .tup es,τ,h=>(Gx F es τ h).bind λds h=>ag (.tup ds) h
 | .lst es,τ,h=>(Gx F es τ h).bind λds h=> .ok (.own ds) h
 | .bin o a b,τ,h=>(eval F a τ h).bind λx h=>(eval F b τ h).bind λy h=>GU o x y h
 | .cmp o a b,τ,h=>(eval F a τ h).bind λx h=>(eval F b τ h).bind λy h=>(R.of h (Gq o x y h)).bind λc h=>ag (.bl c) h
 | .chain o p a b c,τ,h=>(eval F a τ h).bind λx h=>(eval F b τ h).bind λy h=>(R.of h (Gq o x y h)).bind λt h=>match t with
  | true=>(eval F c τ h).bind λz h=>(R.of h (Gq p y z h)).bind λc h=>ag (.bl c) h
  | false=>ag (.bl k9) h
 | .fk neg a,τ,h=>(eval F a τ h).bind λx h=>match x with
  | .v .au=>ag (.bl (!neg)) h
  | _=>ag (.bl neg) h
 | .neg a,τ,h=>(eval F a τ h).bind λx h=>(R.of h x.int?).bind λi h=>ag (.int (-i)) h
 | .inv a,τ,h=>(eval F a τ h).bind λx h=>(R.of h x.int?).bind λi h=>ag (.int (-i-1)) h
 | .not a,τ,h=>(eval F a τ h).bind λx h=>(R.of h (G8 h x)).bind λc h=>ag (.bl (!c)) h
 | .and a b,τ,h=>(eval F a τ h).bind λx h=>(R.of h (G8 h x)).bind λc h=>match c with
  | true=>eval F b τ h
  | false=> .ok x h
 | .or a b,τ,h=>(eval F a τ h).bind λx h=>(R.of h (G8 h x)).bind λc h=>match c with
  | true=> .ok x h
  | false=>eval F b τ h
 | .call f es,τ,h=>(Gf F es τ h).bind λws h=>F.call f (ws.map W.arg) h
 | .bi b es,τ,h=>(Gf F es τ h).bind λws h=>dC b ws h
 | .bZ a t,τ,h=>(eval F a τ h).bind λx h=>(R.of h (bZ t x)).bind λc h=>ag (.bl c) h
 | .ix a b,τ,h=>(eval F a τ h).bind λx h=>(eval F b τ h).bind λy h=>(R.of h (c9 x y h)).bind λd h=>ag d h
 | .sl a lo hi,τ,h=>(eval F a τ h).bind λx h=>(eval F lo τ h).bind λl h=>(R.of h l.int?).bind λl h=>(eval F hi τ h).bind λu h=>(R.of h u.int?).bind λu h=>fq x (k0 l) (k0 u) h
 | .fW a lo,τ,h=>(eval F a τ h).bind λx h=>(eval F lo τ h).bind λl h=>(R.of h l.int?).bind λl h=>fq x (k0 l) y0 h
 | .fc a hi,τ,h=>(eval F a τ h).bind λx h=>(eval F hi τ h).bind λu h=>(R.of h u.int?).bind λu h=>fq x y0 (k0 u) h
 | .fg a,τ,h=>(eval F a τ h).bind λx h=>(R.of h x.dr).bind λxs h=>ag (.tup xs.reverse) h
 | .dW a,τ,h=>(eval F a τ h).bind λx h=>match GF h (k0 x)with
  | some _=>ag (.bl u0) h
  | none=> .fail
 | .comp tg one k aB it k6 c elt,τ,h=>(Gk F it τ h).bind λds h=>
  if ds.length<=bf then
   (Gy (λd h=>match Gr tg one d (Ab k y0++aB.map λj=>Gi τ j)with
     | none=> .fail
     | some τ'=>(if k6 then(eval F c τ' h).bind λx h=>R.of h (G8 h x)else .ok u0 h).bind λb h=>match b with
      | true=>(eval F elt τ' h).bind λy h=>(R.of h y.d).bind λy h=> .ok (k0 y) h
      | false=> .ok y0 h) ds h).bind λys h=> .ok (.own ys) h
  else .fail
 | .c7,_,h=>ag (.ref h.length) (h++ [.aN []])
 | .eZ i a,τ,h=>match GV h (Gn τ i)with
  | some _=>(eval F a τ h).bind λx h=>eZ x (GV h (Gn τ i)) h
  | none=> .fail
 | .cR neg a i,τ,h=>(eval F a τ h).bind λx h=>cR neg x (GV h (Gn τ i)) h
 | .fK k1 a k2 b k3 c i,τ,h=>(eval F a τ h).bind λx h=>(eval F b τ h).bind λy h=>(eval F c τ h).bind λz h=>fK [(k1,x),(k2,y),(k3,z)] (Gn τ i) h
 | .ef i,τ,h=>match GV h (Gn τ i)with
  | some (_,ks)=>ag (.ref h.length) (h++ [.aN ks])
  | none=> .fail
 | .share a,τ,h=>(eval F a τ h).bind λx h=>match x with
  | .own xs=>if Gc xs then ag (.ref h.length) (h++ [.lst xs])else .fail
  | _=> .fail
 | .b4 a,τ,h=>(eval F a τ h).bind λx h=>(R.of h x.int?).bind λn h=>if 0<=n/\n<=1000 then .ok (.own ((Aa3 n.toNat).map λ(i:Nat)=> .int (i:Int))) h else .fail
 | .dN _ ts,τ,h=> .ok (.own (ts.map .str)) h
 | .dG m a es,τ,h=>(eval F a τ h).bind λx h=>if lZ m x h then(Gf F es τ h).bind λws h=>m7 m x ws h else .fail
 | .make c q es,τ,h=>(Gf F es τ h).bind λws h=>(F.call q (.v (.ref h.length)::ws.map W.arg) (h++ [.obj c []])).bind λw h'=>match w with
  | .v .au=>ag (.ref h.length) h'
  | _=> .fail
 | .aJ a c f,τ,h=>(eval F a τ h).bind λw h=>match GX h (k0 w)with
  | some (_,c',fs)=>if c'=c then(R.of h (fs.lookup f)).bind λd h=>ag d h else .fail
  | none=> .fail
 | .bK a c m q es,τ,h=>(eval F a τ h).bind λw h=>match GX h (k0 w)with
  | some (r,c',fs)=>if c'=c/\(fs.lookup m).isNone=u0 then(Gf F es τ h).bind λws h=>F.call q (.v (.ref r)::ws.map W.arg) h else .fail
  | none=> .fail
 | .fi a,τ,h=>(eval F a τ h).bind λw h=>(R.of h w.int?).bind λi h=>ag (.int ((Kd i:Nat):Int)) h
 | .fh f a,τ,h=>(eval F a τ h).bind λw h=>(R.of h (Kb (λx=>F.call f [.v (.int x)] []) ((w.cm h).bind GN))).bind λi h=>ag (.int i) h
@[simp] noncomputable def Gf (F:Fx):Es->Sl->AH->R (List W)
 | .nil,_,h=> .ok [] h
 | .cons e es,τ,h=>(eval F e τ h).bind λw h=>(Gf F es τ h).bind λws h=> .ok (w::ws) h
@[simp] noncomputable def Gx (F:Fx):Es->Sl->AH->R (List D)
 | .nil,_,h=> .ok [] h
 | .cons e es,τ,h=>(eval F e τ h).bind λw h=>(R.of h w.d).bind λd h=>(Gx F es τ h).bind λds h=> .ok (d::ds) h
@[simp] noncomputable def Gk (F:Fx):It->Sl->AH->R (List D)
 | .seq e,τ,h=>(eval F e τ h).bind λw h=>match w with
  | .v (.str s)=> .ok (g9 s) h
  | .v (.tup xs)=> .ok xs h
  | .v (.lst xs)=> .ok xs h
  | .own xs=> .ok xs h
  | .bor xs=> .ok xs h
  | _=> .fail
 | .aj a,τ,h=>(eval F a τ h).bind λw h=>(R.of h w.int?).bind λn h=>if -(fL)<=n/\n<fL then .ok ((Aa3 n.toNat).map λ(i:Nat)=> .int (i:Int)) h else .fail
 | .cv e,τ,h=>(eval F e τ h).bind λw h=>(R.of h (yG w)).bind λxs h=> .ok (GY 0 xs) h
 | .enum e,τ,h=>(eval F e τ h).bind λw h=>match w with
  | .v (.tup xs)=> .ok (GY 0 xs) h
  | _=> .fail
end
noncomputable def lY:W->Option (List D)
 | .v (.str s)=>k0 (g9 s)
 | .v (.tup xs)=>k0 xs
 | .v (.lst xs)=>k0 xs
 | .own xs=>k0 xs
 | _=>y0
noncomputable def lF:W->Option (List D)
 | .v (.str s)=>k0 (g9 s)
 | .v (.tup xs)=>k0 xs
 | .v (.lst xs)=>k0 xs
 | .bor xs=>k0 xs
 | _=>y0
@[simp] theorem Kp (xs):lY (.v (.tup xs))=k0 xs:=rfl
@[simp] theorem Kt (xs):lY (.v (.lst xs))=k0 xs:=rfl
@[simp] theorem Kf (xs):lY (.own xs)=k0 xs:=rfl
@[simp] theorem Kv (xs):lF (.v (.tup xs))=k0 xs:=rfl
@[simp] theorem Kq (xs):lF (.v (.lst xs))=k0 xs:=rfl
@[simp] theorem Ko (xs):lF (.bor xs)=k0 xs:=rfl
@[simp] def GK:E->Option Nat
 | .var i=>k0 i
 | _=>y0
@[simp] def Gs (F:Fx) (it:It) (τ:Sl) (h:AH):R (List D):=match it with
 | .seq e=>match GK e with
  | some i=>R.of h ((Gn τ i).bind lF)
  | none=>(eval F e τ h).bind λw h=>R.of h (lY w)
 | it=>Gk F it τ h
noncomputable def Gp (bnd:D->Sl->Option Sl) (body:Sl->AH->O):List D->Sl->AH->O
 | [],τ,h=> .next τ h
 | d::ds,τ,h=>match bnd d τ with
  | none=> .fail
  | some b=>match body b h with
   | .next a h2=>Gp bnd body ds a h2
   | .cont a h2=>Gp bnd body ds a h2
   | .brk a h2=> .next a h2
   | o=>o
noncomputable def GI (c:Sl->AH->R Bool) (body:Sl->AH->O):Nat->Sl->AH->O
 | 0,_,_=> .fail
 | n+1,τ,h=>(c τ h).cA λb h1=>match b with
  | false=> .next τ h1
  | true=>match body τ h1 with
   | .next a h2=>GI c body n a h2
   | .cont a h2=>GI c body n a h2
   | .brk a h2=> .next a h2
   | o=>o
def Gm (F:Fx) (e:E) (τ:Sl) (h:AH):R Bool:=(eval F e τ h).bind λx h=>R.of h (G8 h x)
def gf :W->Option (D×D)
 | .v (.tup [a,b])=>k0 (a,b)
 | _=>y0
def Kn (w a b:W) (τ:Sl) (h:AH):O:=match w,a,b with
 | .v d,.v (.ref r),.v (.int j)=>match h[r]? with
  | some (.lst xs)=>match dw xs.length j with
   | some n=>if Km d then .next τ (h.set r (.lst (xs.set n d)))else .fail
   | none=> .fail
  | _=> .fail
 | _,_,_=> .fail
mutual
@[simp] noncomputable def exec (F:Fx):S->Sl->AH->O
 | .set i e,τ,h=>(eval F e τ h).cA λw h=>match w with
  | .bor _=> .fail
  | w=> .next (GB τ i w) h
 | .af i e,τ,h=>(eval F e τ h).cA λw h=>match w.d with
  | some d=> .next (GB τ i (.v d)) h
  | none=> .fail
 | .eE is e,τ,h=>(eval F e τ h).cA λw h=>match w with
  | .v (.tup ds)=>match aZ is ds τ with
   | some τ'=> .next τ' h
   | none=> .fail
  | _=> .fail
 | .fU o k j e,τ,h=>(eval F e τ h).cA λw h=>match gf w with
  | some (d1,d2)=>(eval F o τ h).cA λow h=>(eval F k τ h).cA λkw h=>if Km d2 then(match Kn (.v d1) ow kw τ h with
   | .next τ h=> .next (GB τ j (.v d2)) h
   | _=> .fail)else .fail
  | none=> .fail
 | .bV o k e,τ,h=>(eval F e τ h).cA λw h=>(eval F o τ h).cA λow h=>(eval F k τ h).cA λkw h=>Kn w ow kw τ h
 | .app i e,τ,h=>match Gn τ i with
  | some (.own xs)=>(eval F e τ h).cA λw h=>match w.d with
   | some d=>if xs.length<bf then .next (GB τ i (.own (xs++ [d]))) h else .fail
   | none=> .fail
  | _=> .fail
 | .ext i e,τ,h=>match Gn τ i with
  | some (.own xs)=>(eval F e τ h).cA λw h=>match w with
   | .own ys=>if xs.length+ys.length<bf then .next (GB τ i (.own (xs++ys))) h else .fail
   | _=> .fail
  | _=> .fail
 | .bT i c f e,τ,h=>(eval F e τ h).cA λw h=>match w.d with
  | some d=>match GX h (Gn τ i)with
   | some (r,c',fs)=>if c'=c/\Gd d=u0/\fs.length<100 then .next τ (h.set r (.obj c (aX f d fs)))else .fail
   | none=> .fail
  | none=> .fail
 | .cT i k e,τ,h=>(eval F e τ h).cA λw h=>match Gn τ i with
  | some (.own xs)=>(eval F k τ h).cA λkw h=>match w,kw with
   | .v d,.v (.int j)=>(match dw xs.length j with
    | some n=> .next (GB τ i (.own (xs.set n d))) h
    | none=> .fail)
   | _,_=> .fail
  | _=> .fail
 | .cu i k e,τ,h=>(eval F e τ h).cA λw h=>match GV h (Gn τ i)with
  | some _=>(eval F k τ h).cA λkw h=>match w,kw,GV h (Gn τ i)with
   | .v d,.v (.str t),k0 (r,ks)=>if ks.length<bf/\Gd d=u0 then .next τ (h.set r (.aN (GE ks t d)))else .fail
   | _,_,_=> .fail
  | none=> .fail
 | .eB a e,τ,h=>(eval F a τ h).cA λo h=>match GF h (k0 o)with
  | some _=>(eval F e τ h).cA λw h=>match w.d,GF h (k0 o)with
   | some d,k0 (r,xs)=>if xs.length<bf/\Gd d=u0 then .next τ (h.set r (.lst (xs++ [d])))else .fail
   | _,_=> .fail
  | none=> .fail
 | .ex e,τ,h=>(eval F e τ h).cA λ_ h=> .next τ h
 | .ret e,τ,h=>match GK e with
  | some i=>match Gn τ i with
   | some (.bor _)=> .fail
   | some w=> .ret w h
   | none=> .fail
  | none=>(eval F e τ h).cA λw h=>match w with
   | .bor _=> .fail
   | w=> .ret w h
 | .iff c a b,τ,h=>(Gm F c τ h).cA λt h=>match t with
  | true=>execs F a τ h
  | false=>execs F b τ h
 | .ij n c b,τ,h=>GI (λτ h=>Gm F c τ h) (λτ h=>execs F b τ h) n τ h
 | .for tg one it b,τ,h=>(Gs F it τ h).cA λds h=>Gp (Gr tg one) (λτ h=>execs F b τ h) ds τ h
 | .bH i c f e,τ,h=>(eval F e τ h).cA λw h=>match w with
  | .v d=>match GX h (Gn τ i)with
   | some (r,c',fs)=>if c'=c/\fs.length<100 then .next τ (h.set r (.obj c (aX f d fs)))else .fail
   | none=> .fail
  | _=> .fail
 | .dF,_,_=> .fail
@[simp] noncomputable def execs (F:Fx):Ss->Sl->AH->O
 | .nil,τ,h=> .next τ h
 | .cons s ss,τ,h=>(exec F s τ h).seq λτ h=>execs F ss τ h
end
structure Fn where
 ps:Nat
 n:Nat
 body:Ss
structure Prog where
 fns:List (String×Fn)
 cl:dR
 con:List (String×D)
def W.keep:W->Bool
 | .v d=>Gd d
 | .own xs=>Gc xs
 | .bor _=>u0
noncomputable def fin (n:Nat) (w:W) (h:AH):R W:=if h.length=n then .ok w h else if w.keep&&Gu (h.take n)then .ok w (h.take n)else .ok w h
def Gw (n:Nat):O->R W
 | .ret w h=>match w with
  | .bor _=> .fail
  | w=>fin n w h
 | .next _ h=>fin n (.v .au) h
 | _=> .fail
@[simp] theorem Ga (d) (h h':AH) (e:h'.length=h.length):Gw h.length (.ret (.v d) h')= .ok (.v d) h':=by simp [Gw,fin,e]
@[simp] theorem Gv (xs) (h h':AH) (e:h'.length=h.length):Gw h.length (.ret (.own xs) h')= .ok (.own xs) h':=by simp [Gw,fin,e]
@[simp] theorem Gz (τ) (h h':AH) (e:h'.length=h.length):Gw h.length (.next τ h')= .ok (.v .au) h':=by simp [Gw,fin,e]
def run (F:Fx) (d:Fn) (ws:List W) (h:AH):R W:=if ws.length=d.ps then Gw h.length (execs F d.body (ws.map k0++Ab (d.n-d.ps) y0) h)else .fail
def call (p:Prog):Nat->String->List W->AH->R W
 | 0,_,_,_=> .fail
 | k+1,f,a,h=>match p.fns.lookup f with
  | some d=>run ⟨call p k,p.cl,p.con⟩ d a h
  | none=> .fail
def Gb (e:p.fns.lookup f=k0 d) (k) (ws) (h) (a:ws.length=d.ps):
 call p (k+1) f ws h=Gw h.length (execs ⟨call p k,p.cl,p.con⟩ d.body (ws.map k0++Ab (d.n-d.ps) y0) h):=by
 rw [call,e]
 simp [run,a]
end
end M
namespace L2.MS
open PySem PySem.Spec
section
open PySem.Calls PySem.W PyProof.Rows
def eJ (P:Program) (w:World):gj:=λ_ _ _ _ _ _=>False
def L9 {K:Aa9}{st:Stmt}(F:m1 K x k7 st f fd) (S:zD N ps (Wn st)) (len: ∀vs H Q E,sp vs H Q E->vs.length=ps.length)
 (a: ∀ i A outer s H vs Q E,bc k (A.deeper (envOfC k7 (Wn st) s.heap.objs.size f i))->sp vs H Q E →
   ∃t,dk (hB (eJ P w) P w K mg base N k7 (Wn st) f i A outer s H E) (WJ st) t/\t { nx:=λ_ H'=>Q .au H',rt:=Q } (start N vs) H):QG P w K mg base (eJ P w) (k+1) f fd ps sp:=by
 obtain⟨oc,n,kV,g,l,m,i,j,d,rfl,h,b⟩:=F.ex
 exact BH h b S len λA outer s H vs Q E e c=>a i A outer s H vs Q E e c
def DT {K:Aa9}:PassesOwn (model P w) (A.deeper (envOfC k7 scope s.heap.objs.size f cd)) (envOfC k7 scope s.heap.objs.size f cd) (hB (eJ P w) P w K mg base N k7 scope f cd A outer s H E).xe:=
 PassesOwn.leaving
def Lp {K:Aa9}(F:QG P w K mg base (eJ P w) k f fd ps sp)
 (h: ∀vs H Q E,sp0 vs H Q E->sp vs H Q (λ_ _ _=>False)):QG P w K mg base k5 k f fd ps sp0:=by
 refine⟨λvs H Q E q=>F.len vs H Q _ (h _ _ _ _ q),λA a s H c g vs Q E j i l d m=>codeAny_mono (F.run A a s H c g vs Q _ j i l d (h _ _ _ _ m)) λres n b=> ?_⟩
 cases res with
 | ok e=>
  cases e with
  | ret u=>exact b
  | next=>exact b
  | brk=>exact b
  | cont=>exact b
 | error o=>exact False.elim b
end
structure Ge where
 K:Aa9
 ca:String->Addr
 cl:M.dR
 own:List String
 ma:String->Addr
structure Gh where
 fz:Addr->Prop
 aS:Nat->Addr
 n:Nat
def e8 (Y:Ge) (G:Gh) (H:Hp) (a:Addr) (vs:List V):Prop:=(G.fz a/\H a=k0 (.tup vs)) ∨
 ∃(o:Obj) (b:Array Value) (n:Nat),Y.K.lookup a=some o/\o.cls= .type "tuple" /\o.dict=none/\o.data= .seq b n/\b.size<=sizeLine/\Vals vs b.toList
def uL (Y:Ge) (a:Addr) (vs:List V):Prop:= ∃(o:Obj) (b:Array Value) (n:Nat),Y.K.lookup a=some o/\o.cls= .type "list" /\o.dict=none/\o.data= .seq b n/\b.size<=sizeLine/\Vals vs b.toList
def iO (Y:Ge) (G:Gh) (H:Hp) (a:Addr) (vs:List V):Prop:=(G.fz a/\Rd H a (.lst vs))\/uL Y a vs
def e8.sq (h:e8 Y G H a vs):ck Y.K H a vs:=h.elim (λz=> .inl (.inl z.2)) λ⟨o,b,n,d,e,_,c⟩=> .inr ⟨o,b,n,d,e,c⟩
def e8.pl (h:e8 Y G H a vs):rG Y.K H a:=h.elim (λz=> .inl ⟨_,z.2⟩) λ⟨o,_,_,c,d,b,_⟩=> .inr ⟨o,c,d,b⟩
def iO.sq (h:iO Y G H a vs):bq Y.K H a vs:=h.elim (λz=> .inl z.2) λz=> .inr z
def aF (s:M.Tx):Str:=⟨s.toArray⟩
mutual
def aC (Y:Ge) (G:Gh) (H:Hp):M.D->V->Prop
 | .au,v=>v= .au
 | .bl b,v=>v= .bl b
 | .int i,v=>v= .int i
 | .str s,v=>v= .str (aF s)
 | .tup ds,v=> ∃a vs,v= .ref a/\e8 Y G H a vs/\ab Y G H ds vs
 | .lst ds,v=> ∃a vs,v= .ref a/\iO Y G H a vs/\ab Y G H ds vs
 | .ref r,v=>r<G.n/\v= .ref (G.aS r)
def ab (Y:Ge) (G:Gh) (H:Hp):List M.D->List V->Prop
 | [],vs=>vs= []
 | d::ds,vs=> ∃v r,vs=v::r/\aC Y G H d v/\ab Y G H ds r
end
def bC (Y:Ge) (G:Gh) (H:Hp) (a:Addr):M.Cell->Prop
 | .lst xs=>M.Gc xs=u0/\ ∃d,H a=k0 (.lst d)/\ab Y G H xs d
 | .aN ks=>M.Gc (ks.map (·.2))=u0/\ ∃b,H a=k0 (dS ((ks.map λp=>aF p.1).zip b))/\ab Y G H (ks.map (·.2)) b
 | .obj c fs=> ∃dx b,H a=k0 (.ins (Y.ca c) dx ((fs.map λp=>Str.ofString p.1).zip b))/\ab Y G H (fs.map (·.2)) b
structure ai (Y:Ge) (G:Gh) (h:M.AH) (H:Hp):Prop where
 len:h.length=G.n
 any: ∀r c,h[r]? =k0 c-> ¬G.fz (G.aS r)/\bC Y G H (G.aS r) c
 inj: ∀r s,r<G.n->s<G.n->G.aS r=G.aS s->r=s
 live: ∀a,G.fz a-> ∃o,H a=k0 o
def dM (G:Gh) (a:Addr):Prop:= ∀r,r<G.n->G.aS r≠a
structure Ext (G:Gh) (H:Hp) (G':Gh) (H':Hp):Prop where
 keep: ∀a o,H a=k0 o->dM G a->H' a=k0 o
 le:G.n<=G'.n
 aS: ∀r,r<G.n->G'.aS r=G.aS r
 new: ∀r,G.n<=r->r<G'.n->H (G'.aS r)=y0
 fz: ∀a,G.fz a->G'.fz a
 old: ∀a,G'.fz a->G.fz a\/H a=y0
 cells: ∀r,r<G.n->(∃ o,H (G.aS r)=k0 o)-> ∃o,H' (G.aS r)=k0 o
def ak (Y:Ge) (G:Gh) (H:Hp):M.W->V->Prop
 | .v d,v=>aC Y G H d v
 | .own xs,v=> ∃a b,v= .ref a/\ ¬G.fz a/\dM G a/\H a=k0 (.lst b)/\ab Y G H xs b
 | .bor xs,v=> ∃a b,v= .ref a/\dM G a/\Rd H a (.lst b)/\ab Y G H xs b
def dW:M.W->Bool
 | .own _=>u0
 | .bor _=>u0
 | _=>k9
structure aq (Y:Ge) (G:Gh) (τ:M.Sl) (h:M.AH) (U:St) (H:Hp):Prop where
 len:τ.length=U.length
 slot: ∀i w,M.Gn τ i=k0 w-> ∃v,U[i]? =k0 (k0 v)/\ak Y G H w v
 apart: ∀i j xs w a,i≠j->M.Gn τ i=k0 (.own xs)->M.Gn τ j=k0 w->dW w=u0->U[i]? =k0 (k0 (.ref a))->U[j]? ≠k0 (k0 (.ref a))
 heap:ai Y G h H
section
variable {Y:Ge}{G G' G1 G2:Gh}{H H' H1 H2:Hp}{h h':M.AH}{τ:M.Sl}{U:St}
def ai.cell (R:ai Y G h H) (r) (xs) (e:h[r]? =k0 (M.Cell.lst xs)): ¬G.fz (G.aS r)/\ ∃vs,H (G.aS r)=k0 (.lst vs)/\ab Y G H xs vs:=⟨(R.any r _ e).1,(R.any r _ e).2.2⟩
def ai.pure (R:ai Y G h H) (r:Nat) (xs) (e:h[r]? =k0 (M.Cell.lst xs)):M.Gc xs=true:=(R.any r _ e).2.1
theorem ai.obj (R:ai Y G h H) (r) (c) (fs) (e:h[r]? =k0 (M.Cell.obj c fs)): ¬G.fz (G.aS r)/\ ∃dx i,H (G.aS r)=k0 (.ins (Y.ca c) dx ((fs.map λp=>Str.ofString p.1).zip i))/\ab Y G H (fs.map (·.2)) i:=R.any r _ e
def ai.lt (R:ai Y G h H)(e:h[r]? =k0 c):r<G.n:=by rw [← R.len];exact(Aa0.mp e).1
def ai.at (R:ai Y G h H)(a:i<G.n): ∃c,h[i]? =k0 c:=⟨_,Aa4 (by rw [R.len];exact a)⟩
def bC.there (z:bC Y G H a c): ∃o,H a=k0 o:=by
 cases c with
 | lst b=>obtain⟨_,_,z,_⟩:=z;exact⟨_,z⟩
 | aN d=>obtain⟨_,_,z,_⟩:=z;exact⟨_,z⟩
 | obj c fs=>obtain⟨_,_,z,_⟩:=z;exact⟨_,z⟩
def ai.lU (r:ai Y G h H)(a:i<G.n): ¬G.fz (G.aS i):=let ⟨_,e⟩:=r.at a;(r.any i _ e).1
def ai.off (r:ai Y G h H)(b:G.fz a):dM G a:=λi c z=>r.lU c (z▸b)
theorem ai.there (r:ai Y G h H)(a:i<G.n): ∃o,H (G.aS i)=k0 o:=let ⟨_,e⟩:=r.at a;(r.any i _ e).2.there
def Ext.refl:Ext G H G H:=⟨λ_ _ e _=>e,Aa7 _,λ_ _=>rfl,λr a b=>absurd a (Ao.mpr b),λ_ z=>z,λ_ z=> .inl z,λ_ _ z=>z⟩
theorem Ext.none (e:Ext G H G' H') (d:ai Y G h H)(z:H' a=y0):H a=none:=by
 cases q:H a with
 | none=>rfl
 | some o=>
  by_cases b:dM G a
  .rw [e.keep a o q b]at z;cases z
  .unfold dM at b
   have: ∃r,r<G.n/\G.aS r=a:=Aj2 λg=>b λr d z=>g ⟨r,d,z⟩
   obtain⟨r,c,rfl⟩:=this
   obtain⟨i,f⟩:=e.cells r c ⟨o,q⟩
   rw [z]at f;cases f
def Ext.off (e:Ext G H G' H')(d:H a=k0 o) (b:dM G a):dM G' a:=λr f z=>by
 by_cases c:r<G.n
 .rw [e.aS r c]at z;exact b r c z
 .have:=e.new r (Nat.not_lt.mp c) f
  rw [z,d]at this;cases this
def Ext.trans (b:Ext G H G1 H1) (f:ai Y G h H) (d:Ext G1 H1 G2 H2):Ext G H G2 H2 where
 keep:=λa o z e=>d.keep a o (b.keep a o z e) (b.off z e)
 le:=Ab5 b.le d.le
 aS:=λr c=>by rw [d.aS r (Ab3 c b.le),b.aS r c]
 new:=λr g i=>by
  by_cases c:r<G1.n
  .rw [d.aS r c];exact b.new r g c
  .exact b.none f (d.new r (Nat.not_lt.mp c) i)
 fz:=λa z=>d.fz a (b.fz a z)
 old:=λa z=>(d.old a z).elim (λz=>b.old a z) λz=> .inr (b.none f z)
 cells:=λr c z=>by
  have:=d.cells r (Ab3 c b.le) (by rw [b.aS r c];exact b.cells r c z)
  rwa [b.aS r c]at this
def Ext.rd (e:Ext G H G' H')(z:Rd H a u) (b:dM G a):Rd H' a u:=z.elim (λz=> .inl (e.keep a _ z b)) λ⟨o,z⟩=> .inr ⟨o,e.keep a _ z b⟩
structure Mon (G:Gh) (H:Hp) (G':Gh) (H':Hp):Prop where
 keep: ∀a o,G.fz a->H a=k0 o->H' a=k0 o
 le:G.n<=G'.n
 aS: ∀r,r<G.n->G'.aS r=G.aS r
 fz: ∀a,G.fz a->G'.fz a
def Ext.mon (e:Ext G H G' H') (b:ai Y G h H):Mon G H G' H':=⟨λa o z q=>e.keep a o q (b.off z),e.le,e.aS,e.fz⟩
def Mon.rd (e:Mon G H G' H')(z:Rd H a u) (b:G.fz a):Rd H' a u:=z.elim (λz=> .inl (e.keep a _ b z)) λ⟨o,z⟩=> .inr ⟨o,e.keep a _ b z⟩
mutual
theorem aC.mon (e:Mon G H G' H'): ∀ {d:M.D}{v:V},aC Y G H d v->aC Y G' H' d v
 | .au,_,z=>z
 | .bl _,_,z=>z
 | .int _,_,z=>z
 | .str _,_,z=>z
 | .tup _,_,⟨a,vs,z1,z2,z3⟩=>⟨a,vs,z1,z2.elim (λz=> .inl ⟨e.fz a z.1,e.keep a _ z.1 z.2⟩) λz=> .inr z,ab.mon e z3⟩
 | .lst _,_,⟨a,vs,z1,z2,z3⟩=>⟨a,vs,z1,z2.elim (λz=> .inl ⟨e.fz a z.1,e.rd z.2 z.1⟩) .inr,ab.mon e z3⟩
 | .ref r,_,⟨z1,z2⟩=>⟨Ab3 z1 e.le,by rw [e.aS r z1];exact z2⟩
theorem ab.mon (e:Mon G H G' H'): ∀ {ds:List M.D}{vs:List V},ab Y G H ds vs->ab Y G' H' ds vs
 | [],_,z=>z
 | _::_,_,⟨v,r,z1,z2,z3⟩=>⟨v,r,z1,aC.mon e z2,ab.mon e z3⟩
end
theorem bC.mon (e:Mon G H G' H')(k: ∀o,H a=k0 o->H' a=k0 o) (z:bC Y G H a c):bC Y G' H' a c:=by
 cases c with
 | lst j=>obtain⟨g,i,b,d⟩:=z;exact⟨g,i,k _ b,d.mon e⟩
 | aN l=>obtain⟨g,f,b,d⟩:=z;exact⟨g,f,k _ b,d.mon e⟩
 | obj c fs=>obtain⟨h,f,b,d⟩:=z;exact⟨h,f,k _ b,d.mon e⟩
def aC.ext (e:Ext G H G' H') (a:ai Y G h H)(z:aC Y G H d v):aC Y G' H' d v:=z.mon (e.mon a)
def ab.ext (e:Ext G H G' H') (a:ai Y G h H)(z:ab Y G H d v):ab Y G' H' d v:=z.mon (e.mon a)
theorem ak.ext (e:Ext G H G' H') (g:ai Y G h H)(z:ak Y G H w v):ak Y G' H' w v:=by
 cases w with
 | v d=>exact aC.ext e g z
 | own l=>
  obtain⟨a,i,f,k,c,b,j⟩:=z
  refine⟨a,i,f,λq=> ?_,e.off b c,e.keep a _ b c,ab.ext e g j⟩
  obtain q | q:=e.old a q
  .exact k q
  .rw [b]at q;cases q
 | bor l=>
  obtain⟨a,i,f,c,b,j⟩:=z
  refine⟨a,i,f,?_,e.rd b c,ab.ext e g j⟩
  obtain b | ⟨o,b⟩:=b
  .exact e.off b c
  .exact e.off b c
theorem aq.ext (s:aq Y G τ h U H) (e:Ext G H G' H') (c:ai Y G' h' H'):aq Y G' τ h' U H' where
 len:=s.len
 slot:=λi w z=>let ⟨v,a,b⟩:=s.slot i w z; ⟨v,a,b.ext e s.heap⟩
 apart:=s.apart
 heap:=c
theorem ab.length: ∀ {ds}{vs},ab Y G H ds vs->ds.length=vs.length
 | [],_,rfl=>rfl
 | _::_,_,⟨_,_,rfl,_,z⟩=>congrArg (· +1) (ab.length z)
theorem ab.get: ∀ {ds}{vs}{i:Nat}{d},ab Y G H ds vs->ds[i]? =k0 d-> ∃v,vs[i]? =k0 v/\aC Y G H d v
 | [],_,_,_,_,e=>by simp at e
 | _::_,_,0,_,⟨v,_,rfl,z,_⟩,e=>by simp at e;subst e;exact⟨v,rfl,z⟩
 | _::_,_,i+1,_,⟨_,_,rfl,_,z⟩,e=>by
  obtain⟨v,a,b⟩:=ab.get z (by simpa using e)
  exact⟨v,by simpa using a,b⟩
theorem ab.append: ∀ {ds es}{vs i},ab Y G H ds vs->ab Y G H es i->ab Y G H (ds++es) (vs++i)
 | [],_,_,_,rfl,z=>z
 | _::_,_,_,_,⟨v,r,rfl,a,b⟩,z=>⟨v,r++_,rfl,a,ab.append b z⟩
theorem ab.drop: ∀ {ds}{vs}(n),ab Y G H ds vs->ab Y G H (ds.drop n) (vs.drop n)
 | _,_,0,z=>z
 | [],_,_+1,rfl=>rfl
 | _::_,_,n+1,⟨_,_,rfl,_,z⟩=>ab.drop n z
theorem ab.take: ∀ {ds}{vs}(n),ab Y G H ds vs->ab Y G H (ds.take n) (vs.take n)
 | _,_,0,_=>rfl
 | [],_,_+1,rfl=>rfl
 | _::_,_,n+1,⟨v,r,rfl,a,z⟩=>⟨v,r.take n,rfl,a,ab.take n z⟩
theorem ab.reverse: ∀ {ds}{vs},ab Y G H ds vs->ab Y G H ds.reverse vs.reverse
 | [],_,rfl=>rfl
 | _::_,_,⟨v,r,rfl,a,z⟩=>by
  rw [Am6,Am6]
  exact(ab.reverse z).append ⟨v,[],rfl,a,rfl⟩
theorem ab.set (z:aC Y G H d v): ∀ {ds}{vs} i,ab Y G H ds vs->ab Y G H (ds.set i d) (vs.set i v)
 | [],_,_,rfl=>rfl
 | _::_,_,0,⟨_,r,rfl,_,a⟩=>⟨v,r,rfl,z,a⟩
 | _::_,_,i+1,⟨u,r,rfl,b,a⟩=>⟨u,r.set i v,rfl,b,ab.set z i a⟩
def Gh.more (G:Gh) (a:Addr):Gh:= { G with fz:=λb=>G.fz b\/b=a }
def qt (o) (b:H p=y0):Ext G H G (aQ H p o) where
 keep:=λa u z _=>by rw [Qa (Zb z b)];exact z
 le:=Aa7 _
 aS:=λ_ _=>rfl
 new:=λr c d=>absurd c (Ao.mpr d)
 fz:=λ_ z=>z
 old:=λ_ z=> .inl z
 cells:=λr _ ⟨u,z⟩=>⟨u,by rw [Qa (Zb z b)];exact z⟩
def Xz (o) (b:H p=y0):Ext G H (G.more p) (aQ H p o) where
 keep:=λa u z _=>by rw [Qa (Zb z b)];exact z
 le:=Aa7 _
 aS:=λ_ _=>rfl
 new:=λr c d=>absurd c (Ao.mpr d)
 fz:=λ_ z=> .inl z
 old:=λa z=>z.elim .inl λe=> .inr (e▸b)
 cells:=λr _ ⟨u,z⟩=>⟨u,by rw [Qa (Zb z b)];exact z⟩
def ai.new (r:ai Y G h H)(o) (b:H p=y0):ai Y G h (aQ H p o) where
 len:=r.len
 any:=λi c z=>⟨(r.any i c z).1,(r.any i c z).2.mon ((qt o b).mon r) λu q=>by rw [Qa (Zb q b)];exact q⟩
 inj:=r.inj
 live:=λa z=>let ⟨u,q⟩:=r.live a z; ⟨u,by rw [Qa (Zb q b)];exact q⟩
def ai.iR (r:ai Y G h H)(o) (b:H p=y0):ai Y (G.more p) h (aQ H p o) where
 len:=r.len
 any:=λi c z=>by
  obtain⟨f,d⟩:=r.any i c z
  obtain⟨u,g⟩:=d.there
  exact⟨λq=>q.elim f (Zb g b),d.mon ((Xz o b).mon r) λu q=>by rw [Qa (Zb q b)];exact q⟩
 inj:=r.inj
 live:=λa z=>z.elim (λz=>let ⟨u,q⟩:=r.live a z; ⟨u,by rw [Qa (Zb q b)];exact q⟩) λe=>⟨o,by rw [e];exact wc⟩
def xv (a):Mon G H (G.more a) H:=⟨λ_ _ _ z=>z,Aa7 _,λ_ _=>rfl,λ_ z=> .inl z⟩
theorem Ext.more (e:Ext G H G1 H1)(c:H a=Option.none):Ext G H (G1.more a) H1:=
 ⟨e.keep,e.le,e.aS,e.new,λb z=> .inl (e.fz b z),λb z=>z.elim (λz=>e.old b z) λz=> .inr (z▸c),e.cells⟩
theorem ai.more (r:ai Y G h H)(d:dM G a) (f: ∃o,H a=k0 o):ai Y (G.more a) h H where
 len:=r.len
 any:=λi c z=>⟨λq=>q.elim (r.any i c z).1 λe=>d i (r.lt z) e,(r.any i c z).2.mon (xv a) λ_ q=>q⟩
 inj:=r.inj
 live:=λb z=>z.elim (λz=>r.live b z) λe=>e▸f
theorem ak.more (z:ak Y G H w v) (j:dW w=u0->v≠ .ref a):ak Y (G.more a) H w v:=by
 cases w with
 | v d=>exact aC.mon (xv a) z
 | own l=>
  obtain⟨b,f,c,k,h,g,i⟩:=z
  exact⟨b,f,c,λq=>q.elim k λe=>j rfl (e▸c),h,g,i.mon (xv a)⟩
 | bor l=>
  obtain⟨b,f,c,h,g,i⟩:=z
  exact⟨b,f,c,h,g,i.mon (xv a)⟩
theorem aq.more (s:aq Y G τ h U H)(b:dM G a) (d: ∃o,H a=k0 o) (g: ∀ i w,M.Gn τ i=k0 w->dW w=u0->U[i]? ≠k0 (k0 (.ref a))):aq Y (G.more a) τ h U H where
 len:=s.len
 slot:=λi w z=>by
  obtain⟨v,c,f⟩:=s.slot i w z
  exact⟨v,c,f.more λq e=>g i w z q (e▸c)⟩
 apart:=s.apart
 heap:=s.heap.more b d
def aK (τ:M.Sl) (U:St) (H:Hp):M.W->V->Prop
 | .v _,_=>True
 | .own _,v=> ∃a,v= .ref a/\H a=y0
 | .bor _,v=> ∃(i:Nat) (w:M.W),M.Gn τ i=k0 w/\dW w=u0/\U[i]? =k0 (k0 v)
def aK.back (e:Ext G H G1 H1) (g:ai Y G h H)(z:aK τ U H1 w v):aK τ U H w v:=by
 cases w with
 | v d=>trivial
 | own f=>obtain⟨a,b,c⟩:=z;exact⟨a,b,e.none g c⟩
 | bor f=>exact z
def aq.cP (s:aq Y G τ h U H)(e:M.Gn τ i=k0 w) (j:dW w=u0) (q:U[i]? =k0 (k0 (.ref a))): ∃o,H a=k0 o:=by
 obtain⟨v,f,g⟩:=s.slot i w e
 rw [q]at f
 cases f
 cases w with
 | v d=>cases j
 | own k=>obtain⟨b,l,f,_,_,c,_⟩:=g;cases f;exact⟨_,c⟩
 | bor k=>
  obtain⟨b,l,f,_,c,_⟩:=g
  cases f
  obtain c | ⟨o,c⟩:=c
  .exact⟨_,c⟩
  .exact⟨_,c⟩
def ay {b:Type}(Y:Ge) (E:XK) (G:Gh) (H:Hp) (r:M.R b) (P:b->M.AH->Gh->Hp->Prop):Prop:=match r with
 | .ok a h'=> ∀G' H',Ext G H G' H'->ai Y G' h' H'->P a h' G' H'
 | .fail=>False
def tD (Y:Ge) (E:XK) (m:M.Sl->M.AH->M.R M.W):TE:=λU H Q=> ∃G τ h,aq Y G τ h U H/\ay Y E G H (m τ h) λw h' G' H'=> ∀v,ak Y G' H' w v->aK τ U H w v->Q v H'
def cS (Y:Ge) (E:XK) (m:M.Sl->M.AH->M.R Bool):TT:=λU H Q=> ∃G τ h,aq Y G τ h U H/\ay Y E G H (m τ h) λb _ _ H'=>Q b H'
def Wa (g:ai Y G0 h0 H0) (d:Ext G0 H0 G H) (s:aq Y G τ h U H)
 (p:ay Y E G0 H0 ((m τ h).bind f) P)
 (k: ∀w v h1 G1 H1,Ext G0 H0 G1 H1->Ext G H G1 H1->aq Y G1 τ h1 U H1->ak Y G1 H1 w v->aK τ U H w v->ay Y E G0 H0 (f w h1) P->Q v H1):tD Y E m U H Q:=by
 refine⟨G,τ,h,s,?_⟩
 cases q:m τ h with
 | ok w h1=>
  rw [q]at p
  exact λG1 H1 e c v a b=>k w v h1 G1 H1 (d.trans g e) e (s.ext e c) a b p
 | fail=>rw [q]at p;exact p
def jR (d:ai Y G0 h0 H0) (c:Ext G0 H0 G H) (s:aq Y G τ h U H)
 (p:ay Y E G0 H0 ((m τ h).bind f) P)
 (k: ∀b h1 G1 H1,Ext G0 H0 G1 H1->Ext G H G1 H1->aq Y G1 τ h1 U H1->ay Y E G0 H0 (f b h1) P->Q b H1):cS Y E m U H Q:=by
 refine⟨G,τ,h,s,?_⟩
 cases q:m τ h with
 | ok w h1=>
  rw [q]at p
  exact λG1 H1 e a=>k w h1 G1 H1 (c.trans d e) e (s.ext e a) p
 | fail=>rw [q]at p;exact p
def iD (Y:Ge) (E:XK) (m:M.Sl->M.AH->M.R (List M.D)):TA:=λU H Q=> ∃G τ h,aq Y G τ h U H/\ay Y E G H (m τ h) λds _ G' H'=> ∀a,ab Y G' H' ds a->Q a H'
def bj (Y:Ge) (G:Gh) (H:Hp):List M.W->List V->Prop
 | [],a=>a= []
 | w::b,a=> ∃v r,a=v::r/\ak Y G H w v/\bj Y G H b r
theorem bj.ext (e:Ext G H G' H') (a:ai Y G h H): ∀ {ws}{vs},bj Y G H ws vs->bj Y G' H' ws vs
 | [],_,z=>z
 | _::_,_,⟨v,r,b,c,d⟩=>⟨v,r,b,ak.ext e a c,bj.ext e a d⟩
theorem bj.length: ∀ {ws}{vs},bj Y G H ws vs->ws.length=vs.length
 | [],_,rfl=>rfl
 | _::_,_,⟨_,_,rfl,_,z⟩=>congrArg (· +1) (bj.length z)
def fM (Y:Ge) (E:XK) (m:M.Sl->M.AH->M.R (List M.W)):TA:=λU H Q=> ∃G τ h,aq Y G τ h U H/\ay Y E G H (m τ h) λb _ G' H'=> ∀a,bj Y G' H' b a->Q a H'
def X9 (c:ai Y G0 h0 H0) (b:Ext G0 H0 G H) (s:aq Y G τ h U H)
 (p:ay Y E G0 H0 ((m τ h).bind f) P)
 (k: ∀ds vs h1 G1 H1,Ext G0 H0 G1 H1->Ext G H G1 H1->aq Y G1 τ h1 U H1->ab Y G1 H1 ds vs->ay Y E G0 H0 (f ds h1) P->Q vs H1):iD Y E m U H Q:=by
 refine⟨G,τ,h,s,?_⟩
 cases q:m τ h with
 | ok w h1=>
  rw [q]at p
  exact λG1 H1 e a vs z=>k w vs h1 G1 H1 (b.trans c e) e (s.ext e a) z p
 | fail=>rw [q]at p;exact p
def Xs (c:ai Y G0 h0 H0) (b:Ext G0 H0 G H) (s:aq Y G τ h U H)
 (p:ay Y E G0 H0 ((m τ h).bind f) P)
 (k: ∀ds vs h1 G1 H1,Ext G0 H0 G1 H1->Ext G H G1 H1->aq Y G1 τ h1 U H1->bj Y G1 H1 ds vs->ay Y E G0 H0 (f ds h1) P->Q vs H1):fM Y E m U H Q:=by
 refine⟨G,τ,h,s,?_⟩
 cases q:m τ h with
 | ok w h1=>
  rw [q]at p
  exact λG1 H1 e a vs z=>k w vs h1 G1 H1 (b.trans c e) e (s.ext e a) z p
 | fail=>rw [q]at p;exact p
theorem ay.of (p:ay Y E G H ((M.R.of h o).bind f) P): ∃b,o=k0 b/\ay Y E G H (f b h) P:=by
 cases o with
 | none=>exact p.elim
 | some b=>exact⟨b,rfl,p⟩
def ay.at (p:ay Y E G H (.ok a h) P) (e:Ext G H G1 H1) (b:ai Y G1 h H1):P a h G1 H1:=p G1 H1 e b
def pK (e:Ext G H G1 H1) (s:aq Y G1 τ h U H1) (m:aq Y G τ h' U H)(r:ak Y G1 H1 w v) (f:aK τ U H w v) (c:w.d=k0 d):
 ∃G2,Ext G H G2 H1/\aq Y G2 τ h U H1/\aC Y G2 H1 d v/\Mon G1 H1 G2 H1:=by
 cases w with
 | v A=>cases c;exact⟨G1,e,s,r,⟨λ_ _ _ z=>z,Aa7 _,λ_ _=>rfl,λ_ z=>z⟩⟩
 | own u=>
  cases c
  obtain⟨a,n,rfl,y,p,g,t⟩:=r
  obtain⟨b,x,k⟩:=f
  cases x
  refine⟨G1.more a,e.more k,s.more p ⟨_,g⟩ λi w q l z=> ?_,⟨a,n,rfl,.inl ⟨.inr rfl,.inl g⟩,t.mon (xv a)⟩,xv a⟩
  obtain⟨o,j⟩:=m.cP q l z
  rw [k]at j;cases j
 | bor u=>cases c
end
open PySem PySem.Spec PyProof.Rows
mutual
def RV (hp:Heap):M.D->Value->Prop
 | .au,u=>u= .none
 | .bl b,u=>u= .bool b
 | .int i,u=> ∃t,u= .int i t
 | .str s,u=> ∃t,u= .str (aF s) t
 | .tup ds,u=> ∃(a:Addr) (its:List Value),u= .ref a/\IsTup hp a its.toArray/\cj hp ds its
 | .lst ds,u=> ∃(a:Addr) (its:List Value),u= .ref a/\hp.IsList a its.toArray/\cj hp ds its
 | .ref _,_=>False
def cj (hp:Heap):List M.D->List Value->Prop
 | [],us=>us= []
 | d::ds,us=> ∃u r,us=u::r/\RV hp d u/\cj hp ds r
end
theorem cj.length : ∀ {ds}{i},cj hp ds i->ds.length=i.length
 | [],_,rfl=>rfl
 | _::_,_,⟨_,_,rfl,_,z⟩=>congrArg (· +1) (cj.length z)
theorem cj.get : ∀ {ds}{us}{j:Nat}{u},cj hp ds us->us[j]? =k0 u-> ∃d,ds[j]? =k0 d/\RV hp d u
 | [],_,_,_,rfl,e=>by simp at e
 | d::_,_,0,_,⟨v,_,rfl,z,_⟩,e=>by simp at e;subst e;exact⟨d,rfl,z⟩
 | _::_,_,j+1,_,⟨_,_,rfl,_,z⟩,e=>by
  obtain⟨v,a,b⟩:=cj.get z (by simpa using e)
  exact⟨v,by simpa using a,b⟩
section
variable {X:Cx}{Y:Ge}{G:Gh}{H:Hp}{h:M.AH}{pins:List (Addr×Obj)}{U:St}{s:Shared}
mutual
theorem aC.ky (I:Inv X pins U H s) (hK:X.K=Y.K): ∀ {d:M.D}{x:V}{u:Value},aC Y G H d x->RelV x u->M.Gd d=u0->RV s.heap d u
 | .au,_,_,rfl,r,_=>r
 | .bl _,_,_,rfl,r,_=>r
 | .int _,_,_,rfl,r,_=>r
 | .str _,_,_,rfl,r,_=>r
 | .tup ds,_,_,⟨a,vs,rfl,z2,z3⟩,r,n=>by
  cases r
  obtain⟨its,r1,p1,_⟩:=I.tuple (hK▸z2.sq)
  exact⟨a,its,rfl,p1,ab.ky I hK z3 r1 (by simpa [M.Gd]using n)⟩
 | .lst ds,_,_,⟨a,vs,rfl,z2,z3⟩,r,n=>by
  cases r
  obtain⟨its,r1,p1,_⟩:=I.list (hK▸z2.sq)
  exact⟨a,its,rfl,p1.isList,ab.ky I hK z3 r1 (by simpa [M.Gd]using n)⟩
 | .ref _,_,_,_,_,n=>by simp [M.Gd]at n
theorem ab.ky (I:Inv X pins U H s) (hK:X.K=Y.K): ∀ {ds:List M.D}{xs:List V}{us:List Value},ab Y G H ds xs->Vals xs us->M.Gc ds=u0->cj s.heap ds us
 | [],_,_,rfl,.nil,_=>rfl
 | d::ds,_,_,⟨v,r,rfl,z1,z2⟩,.cons r1 r2,n=>by
  have n':M.Gd d=u0/\M.Gc ds=true:=by simpa [M.Gc]using n
  exact⟨_,_,rfl,aC.ky I hK z1 r1 n'.1,ab.ky I hK z2 r2 n'.2⟩
end
mutual
theorem aC.rv (I:Inv X pins U H s) (hK:X.K=Y.K) (hr:ai Y G h H): ∀ {d:M.D}{x:V}{u:Value},aC Y G H d x->RelV x u->M.Gd (M.res h d)=u0->RV s.heap (M.res h d) u
 | .au,_,_,rfl,r,_=>r
 | .bl _,_,_,rfl,r,_=>r
 | .int _,_,_,rfl,r,_=>r
 | .str _,_,_,rfl,r,_=>r
 | .tup ds,_,_,⟨a,vs,rfl,z2,z3⟩,r,n=>by
  cases r
  obtain⟨its,r1,p1,_⟩:=I.tuple (hK▸z2.sq)
  rw [M.res]at n ⊢
  exact⟨a,its,rfl,p1,ab.rv I hK hr z3 r1 (by simpa [M.Gd]using n)⟩
 | .lst ds,_,_,⟨a,vs,rfl,z2,z3⟩,r,n=>by
  cases r
  obtain⟨its,r1,p1,_⟩:=I.list (hK▸z2.sq)
  rw [M.res]at n ⊢
  exact⟨a,its,rfl,p1.isList,ab.rv I hK hr z3 r1 (by simpa [M.Gd]using n)⟩
 | .ref i,_,_,⟨hi,e⟩,r,n=>by
  subst e
  cases r
  rw [M.res]at n ⊢
  cases q:h[i]? with
  | none=>rw [q]at n;simp [M.Gd]at n
  | some c=>
   cases c with
   | lst xs=>
    rw [q]at n
    obtain⟨_,vs,z2,z3⟩:=hr.cell i xs q
    obtain⟨its,r1,p1,_⟩:=I.list (bq.of (K:=X.K) z2)
    exact⟨_,its,rfl,p1.isList,ab.ky I hK z3 r1 (by simpa [M.Gd]using n)⟩
   | obj c fs=>rw [q]at n;simp [M.Gd]at n
   | aN ks=>rw [q]at n;simp [M.Gd]at n
theorem ab.rv (I:Inv X pins U H s) (hK:X.K=Y.K) (hr:ai Y G h H): ∀ {ds:List M.D}{xs:List V}{us:List Value},ab Y G H ds xs->Vals xs us->M.Gc (M.GT h ds)=u0->cj s.heap (M.GT h ds) us
 | [],_,_,rfl,.nil,_=>rfl
 | d::ds,_,_,⟨v,r,rfl,z1,z2⟩,.cons r1 r2,n=>by
  rw [M.GT]at n ⊢
  have n':M.Gd (M.res h d)=u0/\M.Gc (M.GT h ds)=true:=by simpa [M.Gc]using n
  exact⟨_,_,rfl,aC.rv I hK hr z1 r1 n'.1,ab.rv I hK hr z2 r2 n'.2⟩
end
theorem ak.rv (I:Inv X pins U H s) (f:X.K=Y.K) (c:ai Y G h H)(z:ak Y G H w x) (r:RelV x u) (n:M.Gd (w.dd h)=u0):RV s.heap (w.dd h) u:=by
 cases w with
 | v d=>exact aC.rv I f c z r n
 | own k=>
  obtain⟨a,l,rfl,_,_,g,j⟩:=z
  cases r
  obtain⟨b,e,i,_⟩:=I.list (bq.of g)
  exact⟨a,b,rfl,i.isList,ab.rv I f c j e (by simp_all)⟩
 | bor k=>
  obtain⟨a,l,rfl,_,g,j⟩:=z
  cases r
  obtain⟨b,e,i,_⟩:=I.list (.inl g)
  exact⟨a,b,rfl,i.isList,ab.rv I f c j e (by simp_all)⟩
end
def ZD (h:aF a=aF b):a=b:=by
 have:=congrArg Str.cps h
 simpa [aF]using this
def Q4 {xs b:List Value}(h1:IsTup hp a xs.toArray) (d:IsTup hp a b.toArray):xs=b:=by
 obtain⟨o,e1,_,n,e⟩:=h1
 obtain⟨g,e2,_,f,c⟩:=d
 rw [e1]at e2;cases e2
 rw [e]at c;cases c
 rfl
def ZQ {b:Heap}{xs c:List Value}(h1:b.IsList a xs.toArray) (e:b.IsList a c.toArray):xs=c:=by
 obtain⟨o,e1,_,n,f⟩:=h1
 obtain⟨h,e2,_,g,d⟩:=e
 rw [e1]at e2;cases e2
 rw [f]at d;cases d
 rfl
def ZF (h1:IsTup hp a xs) (c:hp.IsList a ys):False:=by
 obtain⟨o,e1,d,_⟩:=h1
 obtain⟨e,e2,b,_⟩:=c
 rw [e1]at e2;cases e2
 rw [d]at b
 exact absurd b (by decide)
mutual
theorem RV.inj {hp:Heap}: ∀ {d e:M.D}{u:Value},RV hp d u->RV hp e u->d=e
 | .au,e,_,rfl,q=>by cases e<;>first | rfl | (simp [RV]at q)
 | .bl _,e,_,rfl,q=>by cases e<;>first | (simp [RV]at q;done) | (have q:=q;simp [RV]at q;try rw [q])
 | .int _,e,_,⟨t,rfl⟩,q=>by cases e<;>first | (simp [RV]at q;done) | (have q:=q;simp [RV]at q;try rw [q])
 | .str _,e,_,⟨t,rfl⟩,q=>by
  cases e with
  | str z=>
   obtain⟨t',q⟩:=q
   injection q with q1 q2
   rw [ZD q1]
  | _=>simp [RV]at q
 | .tup ds,e,_,⟨a,its,rfl,p,r⟩,q=>by
  cases e with
  | tup es=>
   obtain⟨b,its2,e,p2,r2⟩:=q
   cases e
   cases Q4 p p2
   rw [cj.inj r r2]
  | lst es=>
   obtain⟨b,its2,e,p2,r2⟩:=q
   cases e
   exact(ZF p p2).elim
  | _=>simp [RV]at q
 | .lst ds,e,_,⟨a,its,rfl,p,r⟩,q=>by
  cases e with
  | lst es=>
   obtain⟨b,its2,e,p2,r2⟩:=q
   cases e
   cases ZQ p p2
   rw [cj.inj r r2]
  | tup es=>
   obtain⟨b,its2,e,p2,r2⟩:=q
   cases e
   exact(ZF p2 p).elim
  | _=>simp [RV]at q
 | .ref _,_,_,q,_=>q.elim
theorem cj.inj {hp:Heap}: ∀ {d e:List M.D}{u:List Value},cj hp d u->cj hp e u->d=e
 | [],e,_,rfl,q=>by
  cases e with
  | nil=>rfl
  | cons a b=>obtain⟨_,_,z,_⟩:=q;cases z
 | d::ds,e,_,⟨u,r,rfl,z1,z2⟩,q=>by
  cases e with
  | nil=>cases (show _::_= []from q)
  | cons a b=>
   obtain⟨_,_,z,y1,y2⟩:=q
   cases z
   rw [RV.inj z1 y1,cj.inj z2 y2]
end
mutual
theorem RV.refl {hp:Heap}: ∀ {d:M.D}{u:Value},RV hp d u->M.cy d d=u0
 | .au,_,_=>rfl
 | .bl _,_,_=>by simp
 | .int _,_,_=>by simp
 | .str _,_,_=>by simp
 | .tup ds,_,⟨_,_,_,_,r⟩=>by rw [M.cy];exact cj.refl r
 | .lst ds,_,⟨_,_,_,_,r⟩=>by rw [M.cy];exact cj.refl r
 | .ref _,_,q=>q.elim
theorem cj.refl {hp:Heap}: ∀ {d:List M.D}{u:List Value},cj hp d u->M.GL d d=u0
 | [],_,_=>rfl
 | d::ds,_,⟨_,_,_,z1,z2⟩=>by rw [M.GL,RV.refl z1,cj.refl z2];rfl
end
def kb (xs c:List M.D) (j:Nat):Bool:=match xs[j]?,c[j]? with
 | some a,k0 b=>M.cy a b
 | _,_=>u0
def zN (n) (e):(Aa3 (n+1)).all e=(e 0&&(Aa3 n).all λj=>e (j+1)):=by
 rw [Ah3,Al6,An6];rfl
theorem J8: ∀(xs ys),xs.length=ys.length->(Aa3 xs.length).all (kb xs ys)=M.GL xs ys
 | [],[],_=>rfl
 | [],_::_,h=>by simp at h
 | _::_,[],h=>by simp at h
 | x::xs,y::ys,h=>by
  rw [Aa8,zN,M.GL]
  have a:=J8 xs ys (by simpa using h)
  rw [← a]
  rfl
theorem tx: ∀(xs ys),M.GL xs ys=u0->xs.length=ys.length
 | [],[],_=>rfl
 | [],_::_,h=>by simp at h
 | _::_,[],h=>by simp at h
 | x::xs,y::ys,h=>by
  rw [M.GL,Aa1]at h
  rw [Aa8,Aa8,tx xs ys h.2]
def tV (h:xs.length≠ys.length):M.GL xs ys=false:=by
 cases e:M.GL xs ys with
 | false=>rfl
 | true=>exact absurd (tx xs ys e) h
open SeqAt in
structure dE (A:Around) (s:Shared) (u v:Value) (b:Bool):Prop where
 rc:RcAt A s u v b
 ne:RcNeAt A s u v (!b)
 eq:EqAt A s u v b
section
open SeqAt
variable {A:Around}{s:Shared}
theorem jH: ∀ {ds}{j:Nat}{d},ds[j]? =k0 d->M.dep d<=M.GG ds
 | [],_,_,e=>by simp at e
 | x::a,0,d,e=>by simp at e;subst e;simp only [M.GG];lia
 | x::a,j+1,d,e=>by
  have:=jH (by simpa using e)
  simp only [M.GG]
  lia
def uh (b:Bool):((if b then(1:Int)else 0))=((b.toNat:Nat):Int):=by cases b<;>rfl
def Hc (a b):(aF a==aF b)=(a==b):=by
 by_cases h:a=b
 .subst h;simp
 .have c:=λe=>h (ZD e)
  rw [beq_eq_false_iff_ne.mpr h,beq_eq_false_iff_ne.mpr c]
def AB (f:s.heap.IsList l its.toArray) (g:s.heap.IsList b its2.toArray) (i:cj s.heap xs its) (m:cj s.heap ys its2) (k:A.units<cLine)
 (w: ∀(j:Nat) a c u v,xs[j]? =k0 a->ys[j]? =k0 c->RV s.heap a u->RV s.heap c v->EqAt A.in1 s u v (M.cy a c)):dE A s (.ref l) (.ref b) (M.GL xs ys):=by
 have n: ∀ j x (z:j<its2.toArray.size),EqAt A.in1 s its.toArray[j] its2.toArray[j] (kb xs ys j):=λj x z=>by
  obtain⟨a,o,r⟩:=i.get (j:=j) (u:=its.toArray[j]) (by simp)
  obtain⟨c,p,y⟩:=m.get (j:=j) (u:=its2.toArray[j]) (by simp)
  have:=w j a c _ _ o p r y
  unfold kb
  rw [o,p]
  exact this
 have t:=i.length
 have l2:=m.length
 have two:RcAt A s (.ref l) (.ref b) (M.GL xs ys)/\RcNeAt A s (.ref l) (.ref b) (!M.GL xs ys):=by
  by_cases q:xs.length=ys.length
  .have d:its.toArray.size=its2.toArray.size:=by simp;lia
   have e:(Aa3 its.toArray.size).all (kb xs ys)=M.GL xs ys:=by
    rw [Ac0,←t];exact J8 xs ys q
   have a:=RcAt.lists f g d k n
   have c:=RcNeAt.lists f g d k n
   rw [e]at a c
   exact⟨a,c⟩
  .have d:(its.toArray.size != its2.toArray.size)=true:=by simp;lia
   rw [tV q]
   exact⟨RcAt.lists_lengths f g d k,RcNeAt.lists_lengths f g d k⟩
 refine⟨two.1,two.2,?_⟩
 by_cases h:l=b
 .subst h
  cases ZQ f g
  cases cj.inj i m
  rw [cj.refl i]
  exact EqAt.same _
 .exact EqAt.of_refs h two.1
def KO (h:IsTup s.heap l its.toArray) (k:IsTup s.heap b its2.toArray) (f:cj s.heap xs its) (i:cj s.heap ys its2) (p:A.units<cLine)
 (r: ∀(j:Nat) a c u v,xs[j]? =k0 a->ys[j]? =k0 c->RV s.heap a u->RV s.heap c v->EqAt A.in1 s u v (M.cy a c)):dE A s (.ref l) (.ref b) (M.GL xs ys):=by
 have m: ∀ j t (x:j<its2.toArray.size),EqAt A.in1 s its.toArray[j] its2.toArray[j] (kb xs ys j):=λj t x=>by
  obtain⟨a,n,q⟩:=f.get (j:=j) (u:=its.toArray[j]) (by simp)
  obtain⟨c,o,w⟩:=i.get (j:=j) (u:=its2.toArray[j]) (by simp)
  have:=r j a c _ _ n o q w
  unfold kb
  rw [n,o]
  exact this
 have e:((Aa3 (min its.toArray.size its2.toArray.size)).all (kb xs ys)&&its.toArray.size==its2.toArray.size)=M.GL xs ys:=by
  rw [Ac0,Ac0,←f.length,←i.length]
  by_cases g:xs.length=ys.length
  .rw [← g,Nat.min_self,J8 xs ys g];simp
  .rw [tV g];simp [g]
 have a:=RcAt.tuples h k p m
 have c:=RcNeAt.tuples h k p m
 rw [e]at a c
 refine⟨a,c,?_⟩
 by_cases d:l=b
 .subst d
  cases Q4 h k
  cases cj.inj f i
  rw [cj.refl f]
  exact EqAt.same _
 .exact EqAt.of_refs d a
def dE.of (h:dE A s u v b) (e:b=b'):dE A s u v b':=e▸h
def o4: ∀(n:Nat) (d e:M.D) (A:Around) (u v:Value),M.dep d<=n->A.units+n<cLine->RV s.heap d u->RV s.heap e v->dE A s u v (M.cy d e):=by
 intro n
 induction n with
 | zero=>
  intro d e A u v C K m f
  have c:A.units<cLine:=by lia
  cases d with
  | au=>
   cases (show u= .none from m)
   cases e with
   | au=>cases (show v= .none from f);exact⟨RcAt.none_none,RcNeAt.none_none,EqAt.same _⟩
   | bl b=>cases (show v= .bool b from f);exact⟨RcAt.none_bool b,RcNeAt.none_bool b,EqAt.none_bool b⟩
   | int i=>obtain⟨t,rfl⟩:=f;exact⟨RcAt.none_int i t,RcNeAt.none_int i t,EqAt.none_int i t⟩
   | str z=>obtain⟨t,rfl⟩:=f;exact⟨RcAt.none_str _ t,RcNeAt.none_str _ t,EqAt.none_str _ t⟩
   | tup o=>obtain⟨a,k,rfl,p,_⟩:=f;exact⟨RcAt.none_tuple p c,RcNeAt.none_tuple p c,EqAt.none_tuple p c⟩
   | lst o=>obtain⟨a,k,rfl,p,_⟩:=f;exact⟨RcAt.none_list p c,RcNeAt.none_list p c,EqAt.none_list p c⟩
   | ref _=>exact f.elim
  | bl x=>
   cases (show u= .bool x from m)
   cases e with
   | au=>cases (show v= .none from f);exact⟨RcAt.bool_none x,RcNeAt.bool_none x,EqAt.bool_none x⟩
   | bl b=>cases (show v= .bool b from f);exact⟨RcAt.bool_bool x b,RcNeAt.bool_bool x b,EqAt.bool_bool x b⟩
   | int i=>obtain⟨t,rfl⟩:=f;exact(dE.mk (RcAt.bool_int x i t) (RcNeAt.bool_int x i t) (EqAt.bool_int x i t)).of (by rw [uh];rfl)
   | str z=>obtain⟨t,rfl⟩:=f;exact⟨RcAt.bool_str x _ t,RcNeAt.bool_str x _ t,EqAt.bool_str x _ t⟩
   | tup o=>obtain⟨a,k,rfl,p,_⟩:=f;exact⟨RcAt.bool_tuple x p c,RcNeAt.bool_tuple x p c,EqAt.bool_tuple x p c⟩
   | lst o=>obtain⟨a,k,rfl,p,_⟩:=f;exact⟨RcAt.bool_list x p c,RcNeAt.bool_list x p c,EqAt.bool_list x p c⟩
   | ref _=>exact f.elim
  | int x=>
   obtain⟨g,rfl⟩:=m
   cases e with
   | au=>cases (show v= .none from f);exact⟨RcAt.int_none x g,RcNeAt.int_none x g,EqAt.int_none x g⟩
   | bl b=>cases (show v= .bool b from f);exact(dE.mk (RcAt.int_bool x g b) (RcNeAt.int_bool x g b) (EqAt.int_bool x g b)).of (by rw [uh];rfl)
   | int i=>obtain⟨t,rfl⟩:=f;exact⟨RcAt.int_int x g i t,RcNeAt.int_int x g i t,EqAt.int_int x g i t⟩
   | str z=>obtain⟨t,rfl⟩:=f;exact⟨RcAt.int_str x g _ t,RcNeAt.int_str x g _ t,EqAt.int_str x g _ t⟩
   | tup o=>obtain⟨a,k,rfl,p,_⟩:=f;exact⟨RcAt.int_tuple x g p c,RcNeAt.int_tuple x g p c,EqAt.int_tuple x g p c⟩
   | lst o=>obtain⟨a,k,rfl,p,_⟩:=f;exact⟨RcAt.int_list x g p c,RcNeAt.int_list x g p c,EqAt.int_list x g p c⟩
   | ref _=>exact f.elim
  | str x=>
   obtain⟨g,rfl⟩:=m
   cases e with
   | au=>cases (show v= .none from f);exact⟨RcAt.str_none _ g,RcNeAt.str_none _ g,EqAt.str_none _ g⟩
   | bl b=>cases (show v= .bool b from f);exact⟨RcAt.str_bool _ g b,RcNeAt.str_bool _ g b,EqAt.str_bool _ g b⟩
   | int i=>obtain⟨t,rfl⟩:=f;exact⟨RcAt.str_int _ g i t,RcNeAt.str_int _ g i t,EqAt.str_int _ g i t⟩
   | str z=>obtain⟨t,rfl⟩:=f;exact(dE.mk (RcAt.str_str _ g _ t) (RcNeAt.str_str _ g _ t) (EqAt.str_str _ g _ t)).of (by rw [Hc];rfl)
   | tup o=>obtain⟨a,k,rfl,p,_⟩:=f;exact⟨RcAt.str_tuple _ g p c,RcNeAt.str_tuple _ g p c,EqAt.str_tuple _ g p c⟩
   | lst o=>obtain⟨a,k,rfl,p,_⟩:=f;exact⟨RcAt.str_list _ g p c,RcNeAt.str_list _ g p c,EqAt.str_list _ g p c⟩
   | ref _=>exact f.elim
  | tup y=>simp only [M.dep]at C;lia
  | lst y=>simp only [M.dep]at C;lia
  | ref _=>exact m.elim
 | succ n w=>
  intro d e A u v C K m f
  have c:A.units<cLine:=by lia
  cases d with
  | tup y=>
   obtain⟨l,B,rfl,h,I⟩:=m
   have r:M.GG y<=n:=by simp only [M.dep]at C;lia
   cases e with
   | au=>cases (show v= .none from f);exact⟨RcAt.tuple_none h c,RcNeAt.tuple_none h c,EqAt.tuple_none h c⟩
   | bl b=>cases (show v= .bool b from f);exact⟨RcAt.tuple_bool b h c,RcNeAt.tuple_bool b h c,EqAt.tuple_bool b h c⟩
   | int i=>obtain⟨t,rfl⟩:=f;exact⟨RcAt.tuple_int i t h c,RcNeAt.tuple_int i t h c,EqAt.tuple_int i t h c⟩
   | str z=>obtain⟨t,rfl⟩:=f;exact⟨RcAt.tuple_str _ t h c,RcNeAt.tuple_str _ t h c,EqAt.tuple_str _ t h c⟩
   | tup o=>
    obtain⟨a,k,rfl,p,q⟩:=f
    rw [M.cy]
    exact KO h p I q c λj F E H G e1 e2 J D=>(w F E A.in1 H G (Ab5 (jH e1) r) (by show A.units+1+n<cLine;lia) J D).eq
   | lst o=>obtain⟨a,k,rfl,p,_⟩:=f;exact⟨RcAt.tuple_list h p c,RcNeAt.tuple_list h p c,EqAt.tuple_list h p c⟩
   | ref _=>exact f.elim
  | lst y=>
   obtain⟨l,B,rfl,h,I⟩:=m
   have r:M.GG y<=n:=by simp only [M.dep]at C;lia
   cases e with
   | au=>cases (show v= .none from f);exact⟨RcAt.list_none h c,RcNeAt.list_none h c,EqAt.list_none h c⟩
   | bl b=>cases (show v= .bool b from f);exact⟨RcAt.list_bool b h c,RcNeAt.list_bool b h c,EqAt.list_bool b h c⟩
   | int i=>obtain⟨t,rfl⟩:=f;exact⟨RcAt.list_int i t h c,RcNeAt.list_int i t h c,EqAt.list_int i t h c⟩
   | str z=>obtain⟨t,rfl⟩:=f;exact⟨RcAt.list_str _ t h c,RcNeAt.list_str _ t h c,EqAt.list_str _ t h c⟩
   | lst o=>
    obtain⟨a,k,rfl,p,q⟩:=f
    rw [M.cy]
    exact AB h p I q c λj F E H G e1 e2 J D=>(w F E A.in1 H G (Ab5 (jH e1) r) (by show A.units+1+n<cLine;lia) J D).eq
   | tup o=>obtain⟨a,k,rfl,p,_⟩:=f;exact⟨RcAt.list_tuple h p c,RcNeAt.list_tuple h p c,EqAt.list_tuple h p c⟩
   | ref _=>exact f.elim
  | au=>exact w .au e A u v (by simp) (by lia) m f
  | bl x=>exact w _ e A u v (by simp) (by lia) m f
  | int x=>exact w _ e A u v (by simp) (by lia) m f
  | str x=>exact w _ e A u v (by simp) (by lia) m f
  | ref _=>exact m.elim
end
def av (Y:Ge) (E:XK) (G:Gh) (H:Hp) (r:M.R M.W) (Q:VK):Prop:=ay Y E G H r λw _ G' H'=> ∀v,ak Y G' H' w v->aK [] [] H w v->Q v H'
section
variable {X:Cx}{Y:Ge}{G:Gh}{H:Hp}{h:M.AH}{pins:List (Addr×Obj)}{U:St}{s:Shared}{Q:VK}{E:XK}
theorem av.v (p:av Y E G H (.ok (.v d) h) Q) (a:ai Y G h H){v:V}(z:aC Y G H d v):Q v H:=p G H Ext.refl a v z trivial
def ai.iT (c:ai Y G h H)(b:H a=y0): ¬G.fz a:=λq=>by
 obtain⟨o,z⟩:=c.live a q
 rw [b]at z;cases z
def ai.gb (c:ai Y G h H)(b:H a=y0):dM G a:=λr d e=>by
 obtain⟨o,q⟩:=c.there d
 rw [e,b]at q;cases q
theorem av.own (p:av Y E G H (.ok (.own xs) h) Q) (c:ai Y G h H) (z:ab Y G H xs vs) (a) (b:H a=y0):Q (.ref a) (aQ H a (.lst vs)):=
 p G _ (qt _ b) (c.new _ b) _ ⟨a,vs,rfl,c.iT b,c.gb b,wc,z.ext (qt _ b) c⟩ ⟨a,rfl,b⟩
theorem av.tup (p:av Y E G H (.ok (.v (.tup xs)) h) Q) (c:ai Y G h H) (z:ab Y G H xs vs) (a) (b:H a=y0):Q (.ref a) (aQ H a (.tup vs)):=
 p _ _ (Xz _ b) (c.iR _ b) _ ⟨a,vs,rfl,.inl ⟨.inr rfl,wc⟩,z.ext (Xz _ b) c⟩ trivial
theorem av.of (p:av Y E G H ((M.R.of h o).bind f) Q): ∃b,o=k0 b/\av Y E G H (f b h) Q:=ay.of p
def av.mk (p:ay Y E G0 H0 r λw _ G' H'=> ∀v,ak Y G' H' w v->aK τ U H0 w v->Q v H') (e:Ext G0 H0 G H) (f:ai Y G0 h0 H0):av Y E G H r Q:=by
 cases r with
 | ok w m=>
  refine λG' H' j c v k g=>p G' H' (e.trans f j) c v k ?_
  cases w with
  | v d=>trivial
  | own l=>obtain⟨a,b,h⟩:=g;exact⟨a,b,e.none f h⟩
  | bor l=>obtain⟨i,w,b,_⟩:=g;simp at b
 | fail=>exact p
theorem ak.lst (j:ai Y G h H)(z:ak Y G H w v) (e:w.cm h=k0 xs): ∃a vs,v= .ref a/\bq Y.K H a vs/\ab Y G H xs vs:=by
 cases w with
 | v d=>
  cases d with
  | lst i=>cases e;obtain⟨a,vs,b,f,g⟩:=z;exact⟨a,vs,b,f.sq,g⟩
  | ref r=>
   obtain⟨l,b⟩:=z
   have e:(match h[r]? with | some (M.Cell.lst zs)=>k0 zs | _=>y0)=k0 xs:=e
   cases q:h[r]? with
   | none=>rw [q]at e;cases e
   | some c=>
    cases c with
    | lst i=>
     rw [q]at e
     cases e
     obtain⟨_,vs,f,g⟩:=j.cell r _ q
     exact⟨_,vs,b,bq.of f,g⟩
    | obj c fs=>rw [q]at e;cases e
    | aN k=>rw [q]at e;cases e
  | au=>cases e
  | bl _=>cases e
  | int _=>cases e
  | str _=>cases e
  | tup _=>cases e
 | own i=>cases e;obtain⟨a,vs,b,_,_,f,g⟩:=z;exact⟨a,vs,b,bq.of f,g⟩
 | bor i=>cases e;obtain⟨a,vs,b,_,f,g⟩:=z;exact⟨a,vs,b,.inl f,g⟩
theorem ak.nv (j:ai Y G h H)(z:ak Y G H w v) (e:w.hI h=k0 xs): ∃a vs,v= .ref a/\Rd H a (.lst vs)/\ab Y G H xs vs:=by
 cases w with
 | v d=>
  cases d with
  | ref r=>
   obtain⟨l,b⟩:=z
   have e:(match h[r]? with | some (M.Cell.lst zs)=>k0 zs | _=>y0)=k0 xs:=e
   cases q:h[r]? with
   | none=>rw [q]at e;cases e
   | some c=>
    cases c with
    | lst i=>
     rw [q]at e
     cases e
     obtain⟨_,vs,f,g⟩:=j.cell r _ q
     exact⟨_,vs,b,.inl f,g⟩
    | obj c fs=>rw [q]at e;cases e
    | aN k=>rw [q]at e;cases e
  | _=>cases e
 | own i=>cases e;obtain⟨a,vs,b,_,_,f,g⟩:=z;exact⟨a,vs,b,.inl f,g⟩
 | bor i=>cases e;obtain⟨a,vs,b,_,f,g⟩:=z;exact⟨a,vs,b,f,g⟩
theorem ak.seq (j:ai Y G h H)(z:ak Y G H w v) (e:w.seq? h=k0 xs): ∃a vs,v= .ref a/\(bq Y.K H a vs\/ck Y.K H a vs)/\ab Y G H xs vs:=by
 have b:w.cm h=k0 xs-> ∃a vs,v= .ref a/\(bq Y.K H a vs\/ck Y.K H a vs)/\ab Y G H xs vs:=λe=>by
  obtain⟨a,vs,c,f,i⟩:=z.lst j e
  exact⟨a,vs,c,.inl f,i⟩
 cases w with
 | v d=>
  cases d with
  | tup g=>cases e;obtain⟨a,vs,c,f,i⟩:=z;exact⟨a,vs,c,.inr f.sq,i⟩
  | lst g=>exact b e
  | ref r=>exact b e
  | au=>cases e
  | bl _=>cases e
  | int _=>cases e
  | str _=>cases e
 | own g=>exact b e
 | bor g=>exact b e
def E7 (I:Inv X pins U H s)(r:Rd H a (.lst vs)):vs.length<=sizeLine/\ ∃ i n,Vals vs i/\vs.length=i.length/\s.heap.get? a=k0 { cls:= .type "list",data:= .seq i.toArray n }:=by
 obtain⟨z,i,n,r,e⟩:=r.ok I.a0
 exact⟨z,i,n,r,r.length,e⟩
def jj:M.bf<=sizeLine:=by rw [M.Gg];decide
def CM (K:Aa9):R2:=λx y H Q=> ∃l b xs zs,x= .ref l/\y= .ref b/\bq K H l xs/\bq K H b zs/\xs.length+zs.length<=sizeLine/\ ∀p,H p=y0->Q (.ref p) (aQ H p (.lst (xs++zs)))
def Cc:b0 X (binaryOp .Add) (CM X.K):=by
 intro o s U H x y v u Q I C E h
 obtain⟨l,b,M,N,rfl,rfl,F,z,O,q⟩:=h
 cases C
 cases E
 obtain⟨c,r,K,_⟩:=I.list F
 obtain⟨a,k,G,_⟩:=I.list z
 have L:=r.length
 have l2:=k.length
 have w:c.toArray++a.toArray=(c++a).toArray:=by simp
 obtain⟨⟨A,dd,p,sl⟩,t,D,n,J⟩:=id K.isList
 obtain⟨⟨m,g,i,f⟩,d,e,B,j⟩:=id G.isList
 subst D J e j
 refine concat_meets ⟨_,t,rfl⟩ ⟨_,d,rfl⟩ noFill_list_add seq_list_add PySem.F.slot_list_add PySem.F.entry_list_add (PySem.F.args_list_add_2 _ _) (list_addW l b c.toArray a.toArray n B dd g sl f (by simp_all)) ⟨t,d,?_⟩
 rw [w]
 exact⟨.ref _,_,I.lH (r.append k) (by simp_all),rfl,q _ I.fresh⟩
def MA:R2:=λx y H Q=> ∃l k xs,x= .ref l/\y= .int k/\Rd H l (.lst xs)/\ -(2 ^ 63)<=k/\k<2 ^ 63/\xs.length*k.toNat<=sizeLine ∧
 ∀p,H p=y0->Q (.ref p) (aQ H p (.lst (Ab k.toNat xs).flatten))
def Ma:b0 X (binaryOp .Mult) MA:=by
 intro j s U H x y v u Q I E G h
 obtain⟨l,k,L,rfl,rfl,J,D,K,o,q⟩:=h
 cases E
 obtain⟨t,rfl⟩:=G
 obtain⟨z,b,n,r,p,e⟩:=E7 I J
 have d:b.toArray.size*k.toNat<=sizeLine:=by rw [Ac0,←p];exact o
 have i: ¬b.toArray.size*k.toNat>(2 ^ 63-1) / 8:=by
  have: sizeLine<=(2 ^ 63-1) / 8:=by decide
  lia
 have g: ¬(!Builtin.List.listFitsIndex k)=true:=by
  rw [fitsIndex_both D K]
  exact Ac2
 have c: ¬Builtin.List.listTooLong (b.toArray.size*k.toNat)=true:=by
  rw [sG d]
  exact Ac2
 have f:List.foldl (λA w=>A++w) #[] (Ab (if b.toArray.isEmpty=u0 then 0 else k.toNat) b.toArray)=(Ab k.toNat b).flatten.toArray:=by
  have C:=λm=>by
   have:=W0 b m []
   rw [Ae7]at this
   exact this
  rw [C]
  cases b with
  | nil=>simp
  | cons a M=>rw [if_neg (by simp)]
 refine wpAny_binaryOp_repeat_ref rfl ⟨_,e,rfl⟩ (λB=>typeIs_int B k t) noFill_list_mul F.fills_int_mul F.slot_int_rmul repeat_list F.slot_int_index.lookup
  (call_meets F.slot_int_rmul (typeIs_int s k t) F.entry_int_rmul (F.args_int_rmul_2 _ _) (int___rmul___int_list k t l b.toArray n)
    ⟨e,rfl,⟨_,e,rfl⟩,call_meets F.slot_list_mul ⟨_,e,rfl⟩ F.entry_list_mul (F.args_list_mul_2 _ _) (AutoListH.list___mul___list_int_3 l b.toArray n k t g i c) ⟨e,?_⟩⟩)
 rw [f]
 exact⟨.ref _,_,I.lH (r.rep k.toNat) (by rw [Bc,An8];exact o),rfl,q _ I.fresh⟩
theorem ab.rep (z:ab Y G H ds vs): ∀k:Nat,ab Y G H (Ab k ds).flatten (Ab k vs).flatten
 | 0=>rfl
 | k+1=>by
  exact z.append (ab.rep z k)
def wd (a b:Nat):Builtin.bitAnd (a:Int) (b:Int)=((a &&& b:Nat):Int):=by
 rfl
def Hz (a:Nat) (j) (b: ¬0<=j):Builtin.bitAnd (a:Int) j=((a-(a &&& (-j-1).toNat):Nat):Int):=by
 have e:(Builtin.bitNot j).toNat=(-j-1).toNat:=by unfold Builtin.bitNot;lia
 unfold Builtin.bitAnd
 rw [decide_eq_true (Ao9 a),decide_eq_false b]
 show a-((a &&& (Builtin.bitNot j).toNat:Nat):Int)=_
 rw [e]
 have:= @Nat.and_le_left a (-j-1).toNat
 lia
def xn (a b:Nat):Builtin.bitOr (a:Int) (b:Int)=((a ||| b:Nat):Int):=by
 have c: ¬ 0<=Builtin.bitNot a:=by unfold Builtin.bitNot;lia
 have d: ¬ 0<=Builtin.bitNot b:=by unfold Builtin.bitNot;lia
 have e1:(Builtin.bitNot (Builtin.bitNot a)).toNat=a:=by unfold Builtin.bitNot;lia
 have e2:(Builtin.bitNot (Builtin.bitNot b)).toNat=b:=by unfold Builtin.bitNot;lia
 unfold Builtin.bitOr Builtin.bitAnd
 rw [decide_eq_false c,decide_eq_false d]
 show Builtin.bitNot (Builtin.bitNot _)=_
 rw [e1,e2]
 unfold Builtin.bitNot
 lia
def IK (h:M.Ka i j=k0 k):Builtin.bitAnd i j=k:=by
 unfold M.Ka at h
 split at h
 .rename_i d
  obtain⟨a,rfl⟩:=Ah1 d
  split at h
  .rename_i c
   obtain⟨b,rfl⟩:=Ah1 c
   cases h
   exact wd a b
  .rename_i c
   cases h
   exact Hz a j c
 .cases h
def LJ (h:M.kh i j=k0 k):Builtin.bitOr i j=k:=by
 unfold M.kh at h
 split at h
 .rename_i c
  obtain⟨a,rfl⟩:=Ah1 c.1
  obtain⟨b,rfl⟩:=Ah1 c.2
  cases h
  exact xn a b
 .cases h
def BF: ∀a b:Nat,(a ||| b)=(a ^^^ b)+(a &&& b):=by
 intro a
 induction a using Nat.strongRecOn with
 | ind a c=>
  intro b
  by_cases h:a=0
  .subst h;simp
  .have i:=c (a / 2) (by lia) (b / 2)
   have f:= @Nat.or_mod_two_pow a b 1
   have g:= @Nat.xor_mod_two_pow a b 1
   have d:= @Nat.and_mod_two_pow a b 1
   rw [← (@Nat.or_div_two_pow a b 1),←(@Nat.xor_div_two_pow a b 1),←(@Nat.and_div_two_pow a b 1)]at i
   have e:(a ||| b) % 2=(a ^^^ b) % 2+(a &&& b) % 2:=by
    rw [f,g,d]
    rcases Nat.mod_two_eq_zero_or_one a with u | u<;>rcases Nat.mod_two_eq_zero_or_one b with v | v<;>rw [u,v]<;>rfl
   lia
def Ij (h:M.Kz i j=k0 k):Builtin.bitXor i j=k:=by
 unfold M.Kz at h
 split at h
 .rename_i c
  obtain⟨a,rfl⟩:=Ah1 c.1
  obtain⟨b,rfl⟩:=Ah1 c.2
  cases h
  show Builtin.bitOr a b-Builtin.bitAnd a b=((a ^^^ b))
  rw [xn,wd,BF]
  lia
 .cases h
noncomputable def l4:M.Op->Operator
 | .add=> .Add | .sub=> .Sub | .mul=> .Mult | .fdiv=> .FloorDiv | .mod=> .Mod | .pow=> .Pow | .shl=> .LShift | .shr=> .RShift | .band=> .BitAnd | .bor=> .BitOr | .bxor=> .BitXor
def EN (Y:Ge) (E:XK) (o:M.Op):R2:=λx y H Q=> ∃G h a b,ai Y G h H/\ak Y G H a x/\ak Y G H b y/\av Y E G H (M.GU o a b h) Q
def Lf (s t):aF s++aF t=aF (s++t):=by
 show Str.mk _=Str.mk _
 simp [aF]
def ze (s):(aF s).length=s.length:=by
 show s.toArray.size=s.length
 simp
def m2:M.Op->Bool
 | _=>u0
def Et (d:m2 o=u0)(e:M.Gj o i j=k0 k)(I:Inv X pins U H s) (b:RelV (.int i) v) (a:RelV (.int j) u) (q:Q (.int k) H):
 wpAny (model X.prog X.w) X.A (binaryOp (l4 o) v u) (EP X pins U Q) X.xe s:=by
 cases o with
 | add=>cases e;exact Fg pins s U H _ _ v u Q I b a ⟨i,j,rfl,rfl,q⟩
 | sub=>cases e;exact DM pins s U H _ _ v u Q I b a ⟨i,j,rfl,rfl,q⟩
 | mul=>
  simp only [M.Gj,M.GZ,M.GD]at e
  split at e
  .rename_i c;cases e;exact BS pins s U H _ _ v u Q I b a ⟨i,j,rfl,rfl,c,q⟩
  .cases e
 | fdiv=>
  simp only [M.Gj,M.GR,M.GD]at e
  split at e
  .rename_i c;cases e;exact AM pins s U H _ _ v u Q I b a ⟨i,j,rfl,rfl,c,q⟩
  .cases e
 | mod=>
  simp only [M.Gj,M.GD]at e
  split at e
  .rename_i c;cases e;exact Ax pins s U H _ _ v u Q I b a ⟨i,j,rfl,rfl,c,q⟩
  .cases e
 | pow=>
  simp only [M.Gj,M.Kg,M.GD]at e
  split at e
  .rename_i c;cases e;exact Hs pins s U H _ _ v u Q I b a ⟨i,j,rfl,rfl,c,q⟩
  .cases e
 | shl=>
  simp only [M.Gj,M.Kg,M.GD]at e
  split at e
  .rename_i c;cases e;exact Hn pins s U H _ _ v u Q I b a ⟨i,j,rfl,rfl,c,q⟩
  .cases e
 | shr=>
  simp only [M.Gj,M.GD]at e
  split at e
  .rename_i c;cases e;exact Iv pins s U H _ _ v u Q I b a ⟨i,j,rfl,rfl,c,q⟩
  .cases e
 | band=>exact Bn pins s U H _ _ v u Q I b a ⟨i,j,rfl,rfl,by dsimp only;rw [IK e];exact q⟩
 | bor=>exact Hf pins s U H _ _ v u Q I b a ⟨i,j,rfl,rfl,by dsimp only;rw [LJ e];exact q⟩
 | bxor=>exact DG pins s U H _ _ v u Q I b a ⟨i,j,rfl,rfl,by dsimp only;rw [Ij e];exact q⟩
theorem ak.int (z:ak Y G H w v) (e:w.int? =k0 i):v= .int i:=by
 cases w with
 | v d=>
  cases d with
  | int j=>cases e;exact z
  | _=>cases e
 | _=>cases e
theorem ak.str (z:ak Y G H w v) (e:w.de =k0 i):v= .str (aF i):=by
 cases w with
 | v d=>
  cases d with
  | str j=>cases e;exact z
  | _=>cases e
 | _=>cases e
theorem ak.tup (z:ak Y G H w v) (e:w.dr =k0 xs): ∃a vs,v= .ref a/\e8 Y G H a vs/\ab Y G H xs vs:=by
 cases w with
 | v d=>
  cases d with
  | tup j=>cases e;exact z
  | _=>cases e
 | _=>cases e
def Io (o) (N:m2 o=u0) (w:X.K=Y.K):b0 X (binaryOp (l4 o)) (EN Y E o):=by
 intro d s U H x y v u Q I n q ⟨G,h,P,O,f,A,t,p⟩
 have R:=jj
 unfold M.GU at p
 split at p
 .rename_i i j e1 e2
  obtain⟨k,e,p⟩:=p.of
  cases A.int e1
  cases t.int e2
  exact Et N e I n q (p.v f rfl)
 .split at p
  . -- add
    unfold M.KB at p
    split at p
    .rename_i a b e1 e2
     cases A.str e1
     cases t.str e2
     split at p
     .rename_i c
      exact HI d s U H _ _ v u Q I n q ⟨_,_,rfl,rfl,by rw [ze,ze];lia,by rw [Lf];exact p.v f rfl⟩
     .exact p.elim
    .split at p
     .rename_i J L e1 e2
      obtain⟨a,l,rfl,m,g⟩:=A.tup e1
      obtain⟨b,B,rfl,D,r⟩:=t.tup e2
      split at p
      .rename_i c
       have K:=g.length
       have l2:=r.length
       by_cases ex:l= []
       .subst ex
        have:J= []:=Ai5 K
        subst this
        exact F2 d s U H _ _ v u Q I n q ⟨a,b,B,rfl,rfl,w▸m.sq,w▸D.sq,p.v f ⟨b,B,rfl,D,r⟩⟩
       refine Lu d s U H _ _ v u Q I n q ⟨a,b,l,B,rfl,rfl,w▸m.sq,w▸D.sq,ex,by lia,λe=> ?_,λe F C=>p.tup f (g.append r) F C⟩
       .subst e
        have:L= []:=Ai5 l2
        subst this
        rw [Ae3]at p
        exact p.v f ⟨a,l,rfl,m,g⟩
      .exact p.elim
     .split at p
      .rename_i J L e1 e2
       obtain⟨a,l,rfl,m,g⟩:=A.lst f e1
       obtain⟨b,B,rfl,D,r⟩:=t.lst f e2
       unfold M.KC at p
       split at p
       .have K:=g.length
        have l2:=r.length
        exact Cc d s U H _ _ v u Q I n q ⟨a,b,l,B,rfl,rfl,w▸m,w▸D,by lia,λF C=>p.own f (g.append r) F C⟩
       .exact p.elim
      .exact p.elim
  . -- mul
    unfold M.KA at p
    split at p
    .rename_i z j e1 e2
     cases A.str e1
     cases t.int e2
     split at p
     .rename_i c
      rw [M.Gg]at c
      refine Li d s U H _ _ v u Q I n q ⟨_,j,rfl,rfl,c.1,c.2.1,by rw [ze];exact c.2.2,?_⟩
      have e:hY (aF z) j.toNat=aF (Ab j.toNat z).flatten:=by
       apply tG
       rw [WI]
       rfl
      rw [e]
      exact p.v f rfl
     .exact p.elim
    split at p
    .rename_i J j e1 e2
     obtain⟨a,l,rfl,m,g⟩:=A.nv f e1
     cases t.int e2
     unfold M.Kw at p
     split at p
     .rename_i c
      exact Ma d s U H _ _ v u Q I n q ⟨a,j,l,rfl,rfl,m,by lia,by lia,by rw [← g.length];lia,λF C=>p.own f (g.rep j.toNat) F C⟩
     .exact p.elim
    .exact p.elim
  .exact p.elim
noncomputable def fv:M.Cp->CmpOp
 | .eq=> .Eq | .ne=> .NotEq | .lt=> .Lt | .le=> .LtE | .gt=> .Gt | .ge=> .GtE | .mem=> .In | .e7=> .NotIn | .cX=> .Is | .i7=> .IsNot
def ik (Y:Ge) (o:M.Cp):R2:=λx y H Q=> ∃G h a c b,ai Y G h H/\ak Y G H a x/\ak Y G H c y/\M.Gq o a c h=k0 b/\Q (.bl b) H
def qN:M.Cp->Bool
 | .mem=>u0
 | .e7=>u0
 | _=>u0
def IL (e:M.Kx o i j=k0 b)(I:Inv X pins U H s) (c:RelV (.int i) v) (a:RelV (.int j) u) (q:Q (.bl b) H):
 wpAny (model X.prog X.w) X.A (compareOp (fv o) v u) (EP X pins U Q) X.xe s:=by
 cases o with
 | lt=>cases e;exact AV pins s U H _ _ v u Q I c a ⟨i,j,rfl,rfl,q⟩
 | le=>cases e;exact HX pins s U H _ _ v u Q I c a ⟨i,j,rfl,rfl,q⟩
 | gt=>cases e;exact D2 pins s U H _ _ v u Q I c a ⟨i,j,rfl,rfl,q⟩
 | ge=>cases e;exact Co pins s U H _ _ v u Q I c a ⟨i,j,rfl,rfl,q⟩
 | _=>cases e
def MG (d:X.K=Y.K)(l:bc k X.A):b0 X (compareOp .Eq) (ik Y .eq):=by
 intro g s U H x y v u Q I m n ⟨G,h,p,o,b,a,j,i,e,q⟩
 simp only [M.Gq]at e
 split at e
 .rename_i c
  cases e
  have f:=by simpa [M.G6]using c
  exact(o4 150 _ _ X.A v u (by lia) (by have:=l.un;lia) (j.rv I d a m f.1.1) (i.rv I d a n f.1.2)).rc _ _ _ _ ⟨.bl _,H,I,rfl,q⟩
 .cases e
def C9 (d:X.K=Y.K)(l:bc k X.A):b0 X (compareOp .NotEq) (ik Y .ne):=by
 intro g s U H x y v u Q I m n ⟨G,h,p,o,b,a,j,i,e,q⟩
 simp only [M.Gq]at e
 split at e
 .rename_i c
  cases e
  have f:=by simpa [M.G6]using c
  exact(o4 150 _ _ X.A v u (by lia) (by have:=l.un;lia) (j.rv I d a m f.1.1) (i.rv I d a n f.1.2)).ne _ _ _ _ ⟨.bl _,H,I,rfl,q⟩
 .cases e
end
def PE.imp (h:PE X e t) (k: ∀U H Q,t' U H Q->t U H Q):PE X e t':=λa s U H Q I q=>h a s U H Q I (k _ _ _ q)
def PT.imp (h:PT X e t) (k: ∀U H Q,t' U H Q->t U H Q):PT X e t':=λa s U H Q I q=>h a s U H Q I (k _ _ _ q)
def PA.imp (h:PA X e t) (k: ∀U H Q,t' U H Q->t U H Q):PA X e t':=λb a s U H Q I q=>h b a s U H Q I (k _ _ _ q)
section
variable {X:Cx}{Y:Ge}{G:Gh}{H:Hp}{h:M.AH}{pins:List (Addr×Obj)}{U:St}{s:Shared}{Q:VK}{E:XK}
def bj.one (z:bj Y G H [w] vs): ∃v,vs= [v]/\ak Y G H w v:=by
 obtain⟨v,r,rfl,a,b⟩:=z
 cases (show r= []from b)
 exact⟨v,rfl,a⟩
def bj.two (z:bj Y G H [w,w'] vs): ∃v v',vs= [v,v']/\ak Y G H w v/\ak Y G H w' v':=by
 obtain⟨v,r,rfl,a,b⟩:=z
 obtain⟨v',rfl,c⟩:=b.one
 exact⟨v,v',rfl,a,c⟩
def pI (Y:Ge) (E:XK) (b:M.Bi):List V->Hp->VK->Prop:=λxs H Q=> ∃G h a,ai Y G h H/\bj Y G H a xs/\av Y E G H (M.dC b a h) Q
def vf {K:Aa9}(h:bq K H a vs\/ck K H a vs):bq K H a vs\/ck K H a vs:=h
noncomputable def mm:M.Bi->Bool
 | .len=>u0 | .int=>u0 | .list=>u0 | .tuple=>u0 | .divmod=>u0 | .sum=>u0 | .all=>u0 | .any=>u0 | .sorted=>u0
 | _=>k9
noncomputable def tL:M.Bi->Value
 | .len=> .builtin "len" | .int=> .type "int" | .list=> .type "list" | .tuple=> .type "tuple" | .sum=> .builtin "sum" | .all=> .builtin "all" | .any=> .builtin "any"
 | .sorted=> .builtin "sorted" | .divmod=> .builtin "divmod" | .str=> .type "str" | .min=> .builtin "min" | .max=> .builtin "max" | .abs=> .builtin "abs"
def av.of2 {f:α->β->M.AH->M.R M.W}(p:av Y E G H ((M.R.of h o).bind λa h=>(M.R.of h o').bind λb h=>f a b h) Q): ∃a b,o=k0 a/\o'=k0 b/\av Y E G H (f a b h) Q:=by
 obtain⟨a,e,p⟩:=p.of
 obtain⟨b,c,p⟩:=p.of
 exact⟨a,b,e,c,p⟩
theorem j8 : ∀ {xs}{vs}{bs},M.Kl xs=k0 bs->ab Y G H xs vs->vs=bs.map V.bl
 | [],_,_,e,z=>by cases e;exact z
 | x::xs,_,bs,e,⟨v,r,a,c,d⟩=>by
  subst a
  cases x with
  | bl b=>
   obtain⟨f,e1,rfl⟩:=Ag5.mp (e)
   cases (c)
   rw [j8 e1 d];rfl
  | _=>cases e
theorem sQ : ∀ {xs}{vs}{n},M.Kk xs=k0 n->ab Y G H xs vs-> ∃ns:List Int,vs=ns.map V.int/\n=gx ns
 | [],_,_,e,z=>by cases e;exact⟨[],z,rfl⟩
 | x::xs,_,n,e,⟨v,r,b,c,a⟩=>by
  subst b
  cases x with
  | int i=>
   have e:=e
   obtain⟨k,e1,rfl⟩:=Ag5.mp e
   obtain⟨ns,d,f⟩:=sQ e1 a
   cases (c)
   exact⟨i::ns,by rw [d];rfl,by rw [f];rfl⟩
  | _=>cases e
theorem zM : ∀ {xs}{vs}{ns},M.GN xs=k0 ns->ab Y G H xs vs->vs=ns.map V.int
 | [],_,_,e,z=>by cases e;exact z
 | x::xs,_,ns,e,⟨v,r,a,c,d⟩=>by
  subst a
  cases x with
  | int b=>
   obtain⟨f,e1,rfl⟩:=Ag5.mp (e)
   cases (c)
   rw [zM e1 d];rfl
  | _=>cases e
theorem jV : ∀ {xs}{vs}{ns},M.GO xs=k0 ns->ab Y G H xs vs->vs=(ns.map aF).map V.str
 | [],_,_,e,z=>by cases e;exact z
 | x::xs,_,ns,e,⟨v,r,a,c,d⟩=>by
  subst a
  cases x with
  | str b=>
   obtain⟨f,e1,rfl⟩:=Ag5.mp (e)
   cases (show v= .str (aF b)from c)
   rw [jV e1 d];rfl
  | _=>cases e
theorem ZU : ∀(a:List M.Tx),ab Y G H (a.map .str) ((a.map aF).map V.str)
 | []=>rfl
 | t::a=>⟨_,_,rfl,rfl,ZU a⟩
theorem rf (x): ∀ {ys},ys.Pairwise (λa b=> ¬b<a)->(M.Ki x ys).Pairwise (λa b=> ¬b<a)
 | [],_=>List.pairwise_singleton _ _
 | y::ys,h=>by
  have e:=Ak2.mp h
  unfold M.Ki
  split
  .rename_i q
   refine Ak2.mpr ⟨λz d=> ?_,rf x e.2⟩
   have:z=x\/z∈ys:=by
    have g: ∀ {x}{ys},z∈M.Ki x ys->z=x\/z∈ys:=by
     intro x ys
     induction ys with
     | nil=>intro h;simp [M.Ki]at h;exact .inl h
     | cons y ys f=>
      intro h
      unfold M.Ki at h
      split at h
      .rcases Ab8.mp h with h | h
       .exact .inr (h▸Aa5)
       .exact(f h).imp id (Aa2 _)
      .rcases Ab8.mp h with h | h
       .exact .inl h
       .exact .inr h
    exact g d
   rcases this with rfl | d
   .exact λc=>List.lt_irrefl _ (List.lt_trans c q)
   .exact e.1 z d
  .rename_i q
   refine Ak2.mpr ⟨λz d=> ?_,h⟩
   rcases Ab8.mp d with rfl | d
   .exact q
   .exact List.le_trans q (e.1 z d)
theorem yL: ∀xs:List M.Tx,(M.GA xs).Pairwise (λa b=> ¬b<a)
 | []=> .nil
 | x::xs=>rf x (yL xs)
theorem Xr (x): ∀ys:List M.Tx,(M.Ki x ys).Perm (x::ys)
 | []=> .refl _
 | y::ys=>by
  unfold M.Ki
  by_cases q:y<x
  .rw [if_pos q]
   exact((Xr x ys).cons y).trans (.swap x y ys)
  .rw [if_neg q]
theorem zl: ∀xs:List M.Tx,(M.GA xs).Perm xs
 | []=> .refl _
 | x::xs=>(Xr x (M.GA xs)).trans ((zl xs).cons x)
theorem rR: ∀ {l}{p},risingS p l=u0->(p::l).Pairwise (λa b=> ¬b.cps.toList<a.cps.toList)
 | [],p,_=>List.pairwise_singleton _ _
 | x::r,p,h=>by
  have h:(!ltCps x.cps.toList p.cps.toList&&risingS x r)=true:=h
  rw [Aa1,ltCps_eq]at h
  have d:=by simpa using h.1
  have e:=rR h.2
  refine Ak2.mpr ⟨λz c=> ?_,e⟩
  rcases Ab8.mp c with rfl | c
  .exact d
  .exact List.le_trans d ((Ak2.mp e).1 z c)
def BU (s):aF s.cps.toList=s:=by cases s;simp [aF]
def DS (g:ss.Perm (ts.map aF)) (c:sortedS ss=u0):ss=(M.GA ts).map aF:=by
 have d:=by
  have:=g.map (λs=>s.cps.toList)
  rw [Ad1]at this
  have e:((λs:Str=>s.cps.toList)∘aF)=id:=by funext t;simp [aF]
  rw [e,List.map_id]at this
  exact this
 have f:(ss.map λs=>s.cps.toList).Pairwise (λa b=> ¬b<a):=by
  rw [List.pairwise_map]
  cases ss with
  | nil=>exact .nil
  | cons p l=>exact rR c
 rw [← (List.Perm.eq_of_pairwise (λa b _ _ x y=>List.le_antisymm x y) f (yL ts) (d.trans (zl ts).symm)),Ad1]
 have e:(aF∘λs:Str=>s.cps.toList)=id:=by funext t;exact BU t
 rw [e,List.map_id]
def ML (b) (B:mm b=u0) (A:X.K=Y.K) (K:X.calm=u0):Wr X (tL b) (pI Y E b):=by
 intro f s U H V u Q I r ⟨G,h,ws,g,D,p⟩
 have hL:=jj
 unfold M.dC at p
 split at p
 .rename_i w
  obtain⟨v,rfl,z⟩:=D.one
  cases b with
  | len=>
   simp only [M.pA]at p
   split at p
   .rename_i y e
    cases z.str e
    split at p
    .exact Z4 f s U H _ u Q I r ⟨_,rfl,by rw [ze];lia,by rw [ze];exact p.v g rfl⟩
    .exact p.elim
   .obtain⟨C,e,p⟩:=p.of
    obtain⟨a,t,rfl,m,o⟩:=z.seq g e
    refine WZ f s U H _ u Q I r ⟨a,t,rfl,A▸vf m,?_⟩
    rw [← o.length]
    exact p.v g rfl
  | int=>
   simp [M.pA]at p
   split at p
   .cases (z)
    exact JZ f s U H _ u Q I r (.inl ⟨_,rfl,p.v g rfl⟩)
   .rename_i k
    cases (z)
    refine JZ f s U H _ u Q I r (.inr ⟨_,rfl,?_⟩)
    have:=p.v g rfl
    cases k<;>exact this
   .exact p.elim
  | list=>
   obtain⟨C,e,p⟩:=p.of
   obtain⟨a,t,rfl,m,o⟩:=z.seq g e
   exact J0 f s U H _ u Q I r ⟨a,t,rfl,A▸vf m,λl x=>p.own g o l x⟩
  | tuple=>
   obtain⟨C,e,F⟩:=p.of
   clear p
   cases w with
   | v d=>
    cases d with
    | tup J=>
     cases e
     obtain⟨a,t,rfl,m,o⟩:=z
     exact Wg f s U H _ u Q I r ⟨a,t,rfl,.inr ⟨A▸m.sq,F.v g ⟨a,t,rfl,m,o⟩⟩⟩
    | lst J=>
     obtain⟨a,t,rfl,m,o⟩:=ak.lst g z e
     exact Wg f s U H _ u Q I r ⟨a,t,rfl,.inl ⟨A▸m,λl x=>F.tup g o l x⟩⟩
    | ref q=>
     obtain⟨a,t,rfl,m,o⟩:=ak.lst g z e
     exact Wg f s U H _ u Q I r ⟨a,t,rfl,.inl ⟨A▸m,λl x=>F.tup g o l x⟩⟩
    | au=>cases e
    | bl _=>cases e
    | int _=>cases e
    | str _=>cases e
   | own J=>
    obtain⟨a,t,rfl,m,o⟩:=ak.lst g z e
    exact Wg f s U H _ u Q I r ⟨a,t,rfl,.inl ⟨A▸m,λl x=>F.tup g o l x⟩⟩
   | bor J=>
    obtain⟨a,t,rfl,m,o⟩:=ak.lst g z e
    exact Wg f s U H _ u Q I r ⟨a,t,rfl,.inl ⟨A▸m,λl x=>F.tup g o l x⟩⟩
  | divmod=>exact p.elim
  | min=>cases B
  | max=>cases B
  | sum=>
   obtain⟨n,e,p⟩:=p.of
   obtain⟨C,e1,e2⟩:=Ag8.mp e
   split at e2
   rotate_left
   .cases e2
   obtain⟨a,t,rfl,m,o⟩:=ak.lst g z e1
   obtain⟨T,rfl,rfl⟩:=sQ e2 o
   exact MO K f s U H _ u Q I r ⟨a,T,rfl,A▸m,p.v g rfl⟩
  | all=>
   obtain⟨bs,e,p⟩:=p.of
   obtain⟨C,e1,e2⟩:=Ag8.mp e
   obtain⟨a,t,rfl,m,o⟩:=ak.lst g z e1
   cases j8 e2 o
   exact Ei K f s U H _ u Q I r ⟨a,bs,rfl,A▸m,p.v g rfl⟩
  | any=>
   obtain⟨bs,e,p⟩:=p.of
   obtain⟨C,e1,e2⟩:=Ag8.mp e
   obtain⟨a,t,rfl,m,o⟩:=ak.lst g z e1
   cases j8 e2 o
   exact Ez K f s U H _ u Q I r ⟨a,bs,rfl,A▸m,p.v g rfl⟩
  | sorted=>
   obtain⟨P,e,p⟩:=p.of
   obtain⟨C,e1,e2⟩:=Ag8.mp e
   obtain⟨a,t,rfl,m,o⟩:=ak.lst g z e1
   cases jV e2 o
   split at p
   .rename_i x
    refine X5 f s U H _ u Q I r ⟨a,P.map aF,rfl,A▸m,by rw [Aa];exact x,λL R S l x=> ?_⟩
    rw [DS R S]
    exact p.own g (ZU _) l x
   .exact p.elim
  | str=>cases B
  | abs=>cases B
 .rename_i w W
  obtain⟨v,Z,rfl,z,O⟩:=D.two
  obtain⟨i,j,e,N,p⟩:=p.of2
  cases z.int e
  cases O.int N
  cases b with
  | divmod=>
   simp [M.rr,M.GR]at p
   split at p
   .rename_i c
    exact Mx f s U H _ u Q I r ⟨i,j,rfl,c,λl x=>p.tup g ⟨_,_,rfl,rfl,_,_,rfl,rfl,rfl⟩ l x⟩
   .exact p.elim
  | min=>cases B
  | max=>cases B
  | len=>exact p.elim
  | int=>exact p.elim
  | list=>exact p.elim
  | tuple=>exact p.elim
  | sum=>exact p.elim
  | all=>exact p.elim
  | any=>exact p.elim
  | sorted=>exact p.elim
  | str=>cases B
  | abs=>cases B
 .exact p.elim
noncomputable def cY:M.Ty->String
 | .au=> "NoneType" | .bool=> "bool" | .int=> "int" | .str=> "str" | .list=> "list" | .tuple=> "tuple"
def qy (K): ∀ u t,t≠ .au->PySem.W.kitOne K (.type (cY u)) (.type (cY t))=k0 (M.Ty.le u t):=by
 intro u t a
 cases u<;>cases t<;>first | exact absurd rfl a | kernel_rfl
def K7 (Y:Ge):List V->Hp->VK->Prop:=λxs H Q=> ∃G h w x t b,xs= [x,.ty (cY t)]/\t≠ .au/\ai Y G h H/\ak Y G H w x/\M.bZ t w=k0 b/\Q (.bl b) H
def B5 (E:X.K=Y.K):Wr X (.builtin "isinstance") (K7 Y):=by
 intro k s U H R O Q I r ⟨G,h,w,x,t,b,F,g,S,z,e,q⟩
 subst F
 obtain⟨u,T,rfl,j,N⟩:=nX r
 cases N
 have fin: ∀p,EP X k U Q _ { s with toks:=p }:=λp=>⟨.bl b,H,I.tok p,rfl,q⟩
 have lst: ∀ {a}{l},x= .ref a->Rd H a (.lst l)->M.Ty.le .list t=b->wpAny (model X.prog X.w) X.A (call (.builtin "isinstance") [u,.type (cY t)]) (EP X k U Q) X.xe s:=by
  intro a l ex rd J
  subst ex J
  obtain rd | ⟨o,rd⟩:=rd
  .exact Jj I j (.lst rd) (qy _ .list t g) fin
  .exact Jj I j (.eC rd) (qy _ .list t g) fin
 cases w with
 | v d=>
  cases d with
  | au=>cases e;cases (z);exact Jj I j .au (qy _ .au t g) fin
  | bl c=>cases e;cases (z);exact Jj I j (.bl c) (qy _ .bool t g) fin
  | int i=>cases e;cases (z);exact Jj I j (.int i) (qy _ .int t g) fin
  | str y=>cases e;cases (z);exact Jj I j (.str _) (qy _ .str t g) fin
  | tup D=>
   cases e
   obtain⟨a,l,rfl,f,K⟩:=z
   obtain⟨_,f⟩ | ⟨o,B,n,C,A,L,_⟩:=f
   .exact Jj I j (.tup f) (qy _ .tuple t g) fin
   .cases j
    exact Af2 PySem.W.kitx_tuple I.cw ⟨o,I.cw a o (E▸C),A⟩ (qy _ .tuple t g) (λz=>nomatch z) fin
  | lst D=>
   cases e
   obtain⟨a,l,m,f,K⟩:=z
   obtain f | ⟨o,B,n,C,A,L,_⟩:=f
   .exact lst m f.2 rfl
   .subst m
    cases j
    exact Af2 Ao6 I.cw ⟨o,I.cw a o (E▸C),A⟩ (qy _ .list t g) (λz=>nomatch z) fin
  | ref P=>cases e
 | own D=>cases e;obtain⟨a,l,m,_,_,f,_⟩:=z;exact lst m (.inl f) rfl
 | bor D=>cases e;obtain⟨a,l,m,_,f,_⟩:=z;exact lst m f rfl
def mU (m:X.K=Y.K) (p:ai Y G h H)(z:ak Y G H w x) (e:M.G8 h w=k0 b):kf X.K x H b:=by
 have lst: ∀ {a}{f}{g},x= .ref a->bq X.K H a f->ab Y G H g f->(!g.isEmpty)=b->kf X.K x H b:=by
  intro a f g ex rd j n
  subst ex n
  refine .inl ⟨f,rd,?_⟩
  cases g with
  | nil=>cases (show f= []from j);rfl
  | cons _ _=>obtain⟨_,_,rfl,_⟩:=j;rfl
 cases w with
 | v d=>
  cases d with
  | au=>cases e;cases (z);exact rfl
  | bl _=>cases e;cases (z);exact rfl
  | int _=>cases e;cases (z);exact rfl
  | str y=>
   cases (z)
   have e:(if y.length<=M.bf then k0 (!y.isEmpty)else y0)=k0 b:=e
   split at e
   .rename_i c
    cases e
    refine⟨by rw [ze];have:=jj;lia,?_⟩
    rw [ze]
    cases y with
    | nil=>rfl
    | cons a r=>
     have:((((a::r).length:Nat):Int) != 0)=true:=by
      rw [Aa8,bne_iff_ne];lia
     rw [this];rfl
   .cases e
  | tup g=>
   cases e
   obtain⟨a,f,rfl,i,j⟩:=z
   refine .inr (.inl ⟨f,m▸i.sq,?_⟩)
   cases g with
   | nil=>cases (show f= []from j);rfl
   | cons _ _=>obtain⟨_,_,rfl,_⟩:=j;rfl
  | lst g=>cases e;obtain⟨a,f,l,i,k⟩:=z;exact lst l (m▸i.sq) k rfl
  | ref o=>cases e
 | own g=>cases e;obtain⟨a,f,l,_,_,i,k⟩:=z;exact lst l (bq.of i) k rfl
 | bor g=>cases e;obtain⟨a,f,l,_,i,k⟩:=z;exact lst l (.inl i) k rfl
end
abbrev Xg (x:String):Str:=Str.ofString x
example:("len" :Str)=Xg "len" :=rfl
structure gv where
 fl:List (String×String)
 mt:List (String×String×String)
 fe:List (String×String)
 ms:List String
 er:List (String×String)
structure Cf where
 sc:Scope
 N:List Str
 fns:List String
 own:List String
 d9:List String
 dO:List String
 ob:gv
noncomputable def XV (sc:Scope) (x:Str):Bool:=match sc.names.lookup x with
 | some .local=>u0
 | some .cell=>u0
 | some .free=>u0
 | _=>k9
def lq (sc:Scope) (x:Str):Bool:=match sc.names.lookup x with
 | some .globalImplicit=>u0
 | _=>k9
def ig (sc:Scope) (x:Str):Bool:=match sc.names.lookup x with
 | some .local=>u0
 | some .cell=>u0
 | _=>k9
def bh (x:Str):Bool:= !(x==("__debug__" :Str))&& !(x==("__classdict__" :Str))
noncomputable def m6:M.Bi->String
 | .len=> "len" | .int=> "int" | .list=> "list" | .tuple=> "tuple" | .sum=> "sum" | .all=> "all" | .any=> "any" | .sorted=> "sorted" | .divmod=> "divmod" | .str=> "str" | .min=> "min" | .max=> "max" | .abs=> "abs"
noncomputable def cn:List String:= ["len", "int", "list", "tuple", "sum", "all", "any", "sorted", "divmod", "str", "min", "max", "abs", "isinstance", "bool", "range", "reversed", "zip", "enumerate", "set", "dict", "ValueError"]
def og:Expr->Str->Bool
 | .Name y _,x=>y==x
 | _,_=>k9
def b3 (sc:Scope) (x:String) (e:Expr):Bool:=og e (Xg x)&&lq sc (Xg x)&&bh (Xg x)
def r3:M.Mt->String
 | .index=> "index" | .count=> "count" | .b5=> "index"
def sh:M.Mt->Bool
 | .index=>u0 | .count=>u0 | .b5=>u0
def xU:Expr->Bool
 | .Call _ [] _ _=>k9
 | _=>u0
def mu:Expr->Bool
 | .UnaryOp .USub (.Constant (.int 1) _ _) _=>u0
 | _=>k9
noncomputable def Wv (a:Cf):List Nat->List Expr->Bool
 | [],[]=>u0
 | i::is,.Name x _::es=>u9 (a.N[i]? =k0 x)&&ig a.sc x&&Wv a is es
 | _,_=>k9
def zg (b:Cf) (a:List Nat) (one:Bool) (e:Expr):Bool:=match one,e with
 | true,.Name x p=>(match a with | [_]=>u0 | _=>k9)&&Wv b a [.Name x p]
 | false,.Tuple es _ _=>Wv b a es
 | _,_=>k9
def wb:Expr->Bool
 | .Starred .. =>k9
 | _=>u0
def jd:Expr->Bool
 | .Slice .. =>k9
 | _=>u0
def Jh:Expr->Bool
 | .Set .. =>k9
 | _=>u0
noncomputable def jL (a:Cf):List Nat->List Str->Bool
 | [],[]=>u0
 | j::b,x::xs=>u9 (a.N[j]? =k0 x)&&u9 (a.sc.names.lookup x=k0 .cell\/a.sc.names.lookup x=k0 .free)&&jL a b xs
 | _,_=>k9
def z9 (b:Cf) (a:Scope) (N:List Str) (k:Nat) (aB:List Nat):Bool:=
 u9 (a.kind= .function)&&u9 (a.names.map Prod.fst).Nodup&&a.names.all (λy=>u9 (y.2= .local->a.names.lookup y.1=k0 .local))&&
 a.names.all (λy=>u9 (y.2= .free->b.sc.names.lookup y.1=k0 .cell\/b.sc.names.lookup y.1=k0 .free))&&(N.drop k).all (λx=>u9 (a.names.lookup x=k0 .free))&&
 jL b aB (N.drop k)&&u9 (k<=N.length)&&decide N.Nodup&&decide aB.Nodup
def CA:Expr->List Str
 | .Name x _=> [x]
 | .Tuple es _ _=>es.filterMap λ| .Name x _=>k0 x | _=>y0
 | _=> []
def jy (a:Cf) (t:Expr) (aB:List Nat):List Str:=CA t++aB.filterMap λj=>a.N[j]?
def fQ:M.E->Bool
 | .share _=>k9
 | .not a=>fQ a
 | .and a b=>fQ a&&fQ b
 | .or a b=>fQ a&&fQ b
 | _=>u0
def lV (neg:Bool):CmpOp:=if neg then .NotIn else .In
def b8 {P:Prop}(h:k9=u0):P:=nomatch h
set_option backward.match.sparseCases false
def lC {a:Type}(l:List a) (f:a->List a->Bool):Bool:=match l with
 | x::r=>f x r
 | _=>k9
def oS {a:Type}(l:Option a) (f:a->Bool):Bool:=match l with
 | some x=>f x
 | _=>k9
@[elab_as_elim] theorem kC {P:List α->Prop}(k: ∀x r,f x r=u0->P (x::r)): ∀l,lC l f=u0->P l:=by rintro (_|_)<;>first | exact b8 | exact k _ _
@[elab_as_elim] theorem kS {P:Option α->Prop}(k: ∀x,f x=u0->P (k0 x)): ∀l,oS l f=u0->P l:=by rintro (_|_)<;>first | exact b8 | exact k _
def Xy (e:Expr) (f:Str->Bool):Bool:=match e with
 | .Name x _=>f x
 | _=>k9
@[elab_as_elim] theorem JA {P:Expr->Prop}(k: ∀x p,f x=u0->P (.Name x p)): ∀e,Xy e f=u0->P e:=by rintro (_|_)<;>first | exact b8 | exact k _ _
def qA (e:Expr) (f:Const->Bool):Bool:=match e with
 | .Constant x _ _=>f x
 | _=>k9
@[elab_as_elim] theorem qF {P:Expr->Prop}(k: ∀x n p,f x=u0->P (.Constant x n p)): ∀e,qA e f=u0->P e:=by rintro (_|_)<;>first | exact b8 | exact k _ _ _
def nc (e:Expr) (f:List Expr->Bool):Bool:=match e with
 | .Tuple x _ _=>f x
 | _=>k9
@[elab_as_elim] theorem nC {P:Expr->Prop}(k: ∀x n p,f x=u0->P (.Tuple x n p)): ∀e,nc e f=u0->P e:=by rintro (_|_)<;>first | exact b8 | exact k _ _ _
def yA (e:Expr) (f:List Expr->Bool):Bool:=match e with
 | .List x _=>f x
 | _=>k9
@[elab_as_elim] theorem D8 {P:Expr->Prop}(k: ∀x p,f x=u0->P (.List x p)): ∀e,yA e f=u0->P e:=by rintro (_|_)<;>first | exact b8 | exact k _ _
def rS (e:Expr) (f:Expr->Operator->Expr->Bool):Bool:=match e with
 | .BinOp x o y _=>f x o y
 | _=>k9
@[elab_as_elim] theorem EH {P:Expr->Prop}(k: ∀x o y p,f x o y=u0->P (.BinOp x o y p)): ∀e,rS e f=u0->P e:=by rintro (_|_)<;>first | exact b8 | exact k _ _ _ _
def lr (e:Expr) (f:Expr->List CmpOp->List Expr->Bool):Bool:=match e with
 | .Compare x o y _=>f x o y
 | _=>k9
@[elab_as_elim] theorem lW {P:Expr->Prop}(k: ∀x o y p,f x o y=u0->P (.Compare x o y p)): ∀e,lr e f=u0->P e:=by rintro (_|_)<;>first | exact b8 | exact k _ _ _ _
def mJ (e:Expr) (f:UnaryOp->Expr->Bool):Bool:=match e with
 | .UnaryOp o x _=>f o x
 | _=>k9
@[elab_as_elim] theorem pH {P:Expr->Prop}(k: ∀o x p,f o x=u0->P (.UnaryOp o x p)): ∀e,mJ e f=u0->P e:=by rintro (_|_)<;>first | exact b8 | exact k _ _ _
def nT (e:Expr) (f:BoolOp->List Expr->Pos->Bool):Bool:=match e with
 | .BoolOp o x p=>f o x p
 | _=>k9
@[elab_as_elim] theorem rj {P:Expr->Prop}(k: ∀o x p,f o x p=u0->P (.BoolOp o x p)): ∀e,nT e f=u0->P e:=by rintro (_|_)<;>first | exact b8 | exact k _ _ _
def Qo (e:Expr) (f:Expr->List Expr->List Keyword->Pos->Bool):Bool:=match e with
 | .Call g x l p=>f g x l p
 | _=>k9
@[elab_as_elim] theorem zp {P:Expr->Prop}(k: ∀g x l p,f g x l p=u0->P (.Call g x l p)): ∀e,Qo e f=u0->P e:=by rintro (_|_)<;>first | exact b8 | exact k _ _ _ _
def fu (e:Expr) (f:Expr->Expr->Bool):Bool:=match e with
 | .Subscript x y _=>f x y
 | _=>k9
@[elab_as_elim] theorem gd {P:Expr->Prop}(k: ∀x y p,f x y=u0->P (.Subscript x y p)): ∀e,fu e f=u0->P e:=by rintro (_|_)<;>first | exact b8 | exact k _ _ _
def lM (e:Expr) (f:Option Expr->Option Expr->Option Expr->Bool):Bool:=match e with
 | .Slice x y z _=>f x y z
 | _=>k9
@[elab_as_elim] theorem mH {P:Expr->Prop}(k: ∀x y z p,f x y z=u0->P (.Slice x y z p)): ∀e,lM e f=u0->P e:=by rintro (_|_)<;>first | exact b8 | exact k _ _ _ _
def tq (e:Expr) (f:Expr->List Comprehension->Scope->Bool):Bool:=match e with
 | .ListComp y g s _=>f y g s
 | _=>k9
@[elab_as_elim] theorem yx {P:Expr->Prop}(k: ∀y g s p,f y g s=u0->P (.ListComp y g s p)): ∀e,tq e f=u0->P e:=by rintro (_|_)<;>first | exact b8 | exact k _ _ _ _
def xN (e:Expr) (f:Expr->Str->Pos->Bool):Bool:=match e with
 | .Attribute x n p=>f x n p
 | _=>k9
@[elab_as_elim] theorem WU {P:Expr->Prop}(k: ∀x n p,f x n p=u0->P (.Attribute x n p)): ∀e,xN e f=u0->P e:=by rintro (_|_)<;>first | exact b8 | exact k _ _ _
def oI (e:Expr) (f:List (Option Expr)->List Expr->Bool):Bool:=match e with
 | .Dict x y _=>f x y
 | _=>k9
@[elab_as_elim] theorem tK {P:Expr->Prop}(k: ∀x y p,f x y=u0->P (.Dict x y p)): ∀e,oI e f=u0->P e:=by rintro (_|_)<;>first | exact b8 | exact k _ _ _
def gg (e:Stmt) (f:List Expr->Expr->Bool):Bool:=match e with
 | .Assign t v _=>f t v
 | _=>k9
@[elab_as_elim] theorem gU {P:Stmt->Prop}(k: ∀t v p,f t v=u0->P (.Assign t v p)): ∀e,gg e f=u0->P e:=by rintro (_|_)<;>first | exact b8 | exact k _ _ _
def lG (e:Stmt) (f:Expr->Bool):Bool:=match e with
 | .Expr v _=>f v
 | _=>k9
@[elab_as_elim] theorem mT {P:Stmt->Prop}(k: ∀v p,f v=u0->P (.Expr v p)): ∀e,lG e f=u0->P e:=by rintro (_|_)<;>first | exact b8 | exact k _ _
def r4 (e:Stmt) (f:Option Expr->Bool):Bool:=match e with
 | .Return v _=>f v
 | _=>k9
@[elab_as_elim] theorem MM {P:Stmt->Prop}(k: ∀v p,f v=u0->P (.Return v p)): ∀e,r4 e f=u0->P e:=by rintro (_|_)<;>first | exact b8 | exact k _ _
def tJ (e:Stmt) (f:Expr->List Stmt->List Stmt->Bool):Bool:=match e with
 | .If x y z _=>f x y z
 | _=>k9
@[elab_as_elim] theorem C6 {P:Stmt->Prop}(k: ∀x y z p,f x y z=u0->P (.If x y z p)): ∀e,tJ e f=u0->P e:=by rintro (_|_)<;>first | exact b8 | exact k _ _ _ _
def u4 (e:Stmt) (f:Expr->List Stmt->List Stmt->Bool):Bool:=match e with
 | .While x y z _=>f x y z
 | _=>k9
@[elab_as_elim] theorem KN {P:Stmt->Prop}(k: ∀x y z p,f x y z=u0->P (.While x y z p)): ∀e,u4 e f=u0->P e:=by rintro (_|_)<;>first | exact b8 | exact k _ _ _ _
def uX (e:Stmt) (f:Expr->Expr->List Stmt->List Stmt->Bool):Bool:=match e with
 | .For t i y z _=>f t i y z
 | _=>k9
@[elab_as_elim] theorem Lh {P:Stmt->Prop}(k: ∀t i y z p,f t i y z=u0->P (.For t i y z p)): ∀e,uX e f=u0->P e:=by rintro (_|_)<;>first | exact b8 | exact k _ _ _ _ _
set_option backward.match.sparseCases true
def vB (a:Cf) (i:Nat) (x:Str):Bool:=u9 (a.N[i]? =k0 x)&&XV a.sc x&&bh x
def kZ {a:Type}(l:List a) (b:Bool):Bool:=l.isEmpty&&b
def iz (t:M.Tx) (e:Option Expr):Bool:=oS e λe=>qA e λc=>u9 (c= .str (aF t))
def nM (h:iz t e=u0): ∃j p,e=k0 (.Constant (.str (aF t)) j p):=by
 refine kS (λe h=> qF (λc n p h=> ?_) e h) e h
 cases of_decide_eq_true h
 exact⟨_,_,rfl⟩
mutual
noncomputable def xc (cf:Cf):M.E->Expr->Bool
 | .var i,e=>Xy e (vB cf i)
 | .con c,e=>b3 cf.sc c e
 | .int i,e=>qA e λj=>u9 (j= .int i)
 | .bl i,e=>qA e λj=>u9 (j= .bool i)
 | .au,e=>qA e λj=>u9 (j= .none)
 | .str i,e=>qA e λj=>u9 (j= .str (aF i))
 | .tup es,e=>nc e λxs=>u9 (xs.length<=1000)&&bW cf es xs
 | .lst es,e=>yA e λxs=>u9 (xs.length<=1000)&&bW cf es xs
 | .bin o a b,e=>rS e λx p y=>u9 (p=l4 o)&&m2 o&&xc cf a x&&xc cf b y
 | .cmp o a b,e=>lr e λx p y=>lC y λy r=>u9 (p= [fv o]/\r= [])&&qN o&&Jh y&&xc cf a x&&xc cf b y
 | .chain o q a b c,e=>lr e λx p y=>lC y λy r=>lC r λz r=>u9 (p= [fv o,fv q]/\r= [])&&qN o&&qN q&&Jh z&&xc cf a x&&xc cf b y&&xc cf c z
 | .fk neg a,e=>lr e λx p y=>lC y λy r=>qA y λj=>u9 (p= [if neg then .IsNot else .Is]/\r= [])&&u9 (j= .none)&&xc cf a x
 | .neg a,e=>mJ e λo x=>u9 (o= .USub)&&xc cf a x
 | .inv a,e=>mJ e λo x=>u9 (o= .Invert)&&xc cf a x
 | .not a,e=>mJ e λo x=>u9 (o= .Not)&&xc cf a x
 | .and a b,e=>nT e λo x p=>lC x λx r=>lC r λy r=>u9 (o= .And)&&xc cf a x&&bif r.isEmpty then xc cf b y else xc cf b (.BoolOp .And (y::r) p)
 | .or a b,e=>nT e λo x p=>lC x λx r=>lC r λy r=>u9 (o= .Or)&&xc cf a x&&bif r.isEmpty then xc cf b y else xc cf b (.BoolOp .Or (y::r) p)
 | .call f es,e=>Qo e λg xs l _=>kZ l (b3 cf.sc f g&&cf.fns.contains f&&bW cf es xs)
 | .bi b es,e=>Qo e λg xs l _=>kZ l (lC xs λx r=>b3 cf.sc (m6 b) g&&mm b&&bW cf es (x::r))
 | .bZ a t,e=>Qo e λg xs l _=>kZ l (lC xs λx r=>lC r λy r=>kZ r (b3 cf.sc "isinstance" g&&b3 cf.sc (cY t) y&&decide (t≠ .au)&&wb x&&xc cf a x))
 | .ix a b,e=>fu e λx y=>jd y&&xc cf a x&&xc cf b y
 | .sl a lo hi,e=>fu e λx y=>lM y λl u z=>oS l λl=>oS u λu=>z.isNone&&xc cf a x&&xc cf lo l&&xc cf hi u
 | .fW a lo,e=>fu e λx y=>lM y λl u z=>oS l λl=>u.isNone&&z.isNone&&xc cf a x&&xc cf lo l
 | .fc a hi,e=>fu e λx y=>lM y λl u z=>oS u λu=>l.isNone&&z.isNone&&xc cf a x&&xc cf hi u
 | .fg a,e=>fu e λx y=>lM y λl u z=>oS z λz=>l.isNone&&u.isNone&&mu z&&xc cf a x
 | .dW a,e=>Qo e λg xs l _=>kZ l (lC xs λx r=>lC r λy r=>kZ r (b3 cf.sc "isinstance" g&&b3 cf.sc "list" y&&wb x&&xc cf a x))
 | .comp tg one k aB it k6 c elt,e=>tq e λy g scope=>lC g λg r=>
  u9 (g.is_async=0/\r= [])&&z9 cf scope (jy cf g.target aB) k aB&&tg.all (λi=>u9 (i<k))&&zg { cf with sc:=scope,N:=jy cf g.target aB } tg one g.target&&dY cf it g.iter&&xc { cf with sc:=scope,N:=jy cf g.target aB } elt y&&
   bif k6 then(lC g.ifs λz r=>kZ r (fQ c&&xc { cf with sc:=scope,N:=jy cf g.target aB } c z))else g.ifs.isEmpty
 | .c7,e=>oI e λx y=>x.isEmpty&&y.isEmpty
 | .eZ i a,e=>fu e λg y=>Xy g λx=>vB cf i x&&jd y&&xc cf a y
 | .cR neg a i,e=>lr e λx p y=>lC y λy r=>Xy y λy=>u9 (p= [lV neg]/\r= [])&&vB cf i y&&xc cf a x
 | .fK k1 a k2 b k3 c i,e=>fu e λd y=>oI d λks vs=>Xy y λx=>lC ks λq1 ks=>lC ks λq2 ks=>lC ks λq3 ks=>kZ ks (lC vs λv1 vs=>lC vs λv2 vs=>lC vs λv3 vs=>kZ vs ((vB cf i x&&iz k1 q1&&iz k2 q2&&iz k3 q3)&&(decide [k1,k2,k3].Nodup&&xc cf a v1&&xc cf b v2&&xc cf c v3)))
 | .ef i,e=>Qo e λg xs l _=>kZ l (lC xs λx r=>kZ r (b3 cf.sc "dict" g&&Xy x (vB cf i)))
 | .share a,e=>xc cf a e
 | .b4 a,e=>Qo e λg xs l _=>kZ l (lC xs λx r=>kZ r (Qo x λg2 xs l _=>kZ l (lC xs λx r=>kZ r (b3 cf.sc "list" g&&b3 cf.sc "range" g2&&wb x&&xc cf a x))))
 | .dN s ts,e=>Qo e λg xs l q=>kZ l (lC xs λx r=>kZ r (xN g λo n p=>qA o λc=>qA x λc2=>decide (n=Xg "split")&&decide (c= .str (aF s))&&decide (c2= .str bS)&&(p.endLine==q.line)&&mY (aF s) (ts.map aF)))
 | .dG m a es,e=>Qo e λg xs l q=>kZ l (lC xs λx r=>kZ r (xN g λo n p=>u9 (n=Xg (r3 m))&&sh m&&(p.endLine==q.line)&&xU o&&xc cf a o&&bW cf es [x]))
 | .make c q es,e=>Qo e λg ys l _=>kZ l (lC ys λx r=>b3 cf.sc c g&&cf.ob.fe.contains (c,q)&&bW cf es (x::r))
 | .aJ a c f,e=>xN e λx n _=>u9 (n=Xg f)&&cf.ob.fl.contains (c,f)&&xU x&&xc cf a x
 | .bK a c m q es,e=>Qo e λg ys l s=>kZ l (xN g λx n p=>u9 (n=Xg m)&&cf.ob.mt.contains (c,m,q)&&(p.endLine==s.line)&&u9 (ys.length<=20)&&xU x&&xc cf a x&&lC ys λy r=>bW cf es (y::r))
 | .fi a,e=>Qo e λg ys l s=>kZ l (kZ ys (xN g λx n p=>u9 (n=Xg "bit_length")&&(p.endLine==s.line)&&xU x&&xc cf a x))
 | .fh f a,e=>Qo e λg ys l _=>lC ys λx r=>kZ r (lC l λw r=>kZ r (u9 (w.arg=k0 (Xg "key"))&&b3 cf.sc f w.value&&cf.fns.contains f&&b3 cf.sc "min" g&&wb x&&xc cf a x))
noncomputable def bW (cf:Cf):M.Es->List Expr->Bool
 | .nil,xs=>xs.isEmpty
 | .cons e es,xs=>lC xs λx xs=>wb x&&xc cf e x&&bW cf es xs
noncomputable def dY (cf:Cf):M.It->Expr->Bool
 | .seq a,e=>Jh e&&xc cf a e
 | .aj a,e=>Qo e λg xs l _=>kZ l (lC xs λx r=>kZ r (b3 cf.sc "range" g&&wb x&&xc cf a x))
 | .enum _,_=>k9
 | .cv _,_=>k9
end
def xE:Expr->Bool
 | .ListComp .. =>k9
 | .SetComp .. =>k9
 | .DictComp .. =>k9
 | _=>u0
def Xk:Expr->Bool
 | .Tuple .. =>k9
 | _=>u0
def JG (a:Cf) (i:Nat) (x:Str):Bool:=u9 (a.N[i]? =k0 x)&&ig a.sc x
def qY (b:Cf) (i:Nat) (m:Str) (e:Expr) (a:Pos):Bool:=xN e λx n p=>Xy x λx=>vB b i x&&u9 (n=m)&&(p.endLine==a.line)
def o9 (b:Cf):M.It->Expr->Bool
 | .seq a,e=>Jh e&&xc b a e
 | .aj a,e=>dY b (.aj a) e
 | .cv a,e=>Qo e λg xs l _=>kZ l (lC xs λx r=>kZ r (b3 b.sc "enumerate" g&&wb x&&xc b a x))
 | .enum a,e=>Qo e λg xs l _=>kZ l (lC xs λx r=>kZ r (b3 b.sc "enumerate" g&&wb x&&xc b a x))
def oD:M.It->Expr->Bool
 | .enum _,e=> !Xk e
 | .cv _,e=> !Xk e
 | _,_=>u0
def Dq:Expr->Bool
 | .Name _ _=>u0
 | .Subscript _ _ _=>u0
 | _=>k9
mutual
noncomputable def vp (cf:Cf):M.S->Stmt->Bool
 | .set i e,st=>gg st λts v=>lC ts λt r=>Xy t λx=>kZ r (JG cf i x&&xc cf e v)
 | .af i e,st=>gg st λts v=>lC ts λt r=>Xy t λx=>kZ r (JG cf i x&&xc cf e v)
 | .eE is e,st=>gg st λts v=>lC ts λt r=>nc t λts=>kZ r (Wv cf is ts&&Xk v&&xc cf e v)
 | .fU o kx j e,st=>gg st λts v=>lC ts λt r=>kZ r (nc t λts=>lC ts λt1 r=>lC r λt2 r=>kZ r (fu t1 λx y=>Xy t2 λa=>jd y&&Xk v&&JG cf j a&&xc cf o x&&(xc cf kx y&&xc cf e v)))
 | .bV o kx e,st=>gg st λts v=>lC ts λt r=>fu t λx y=>kZ r (jd y&&Xk v&&xE v&&xc cf o x&&xc cf kx y&&xc cf e v)
 | .app i e,st=>lG st λc=>Qo c λf xs l p=>kZ l (lC xs λv r=>kZ r (qY cf i "append" f p&&wb v&&xc cf e v))
 | .ext i e,st=>lG st λc=>Qo c λf xs l p=>kZ l (lC xs λv r=>kZ r (qY cf i "extend" f p&&wb v&&xc cf e v))
 | .bT i c f e,st=>gg st λts v=>lC ts λt r=>xN t λx n _=>Xy x λx=>kZ r (vB cf i x&&(u9 (n=Xg f)&&cf.ob.fl.contains (c,f)&&xc cf e v))
 | .cT i kx e,st=>gg st λts v=>lC ts λt r=>fu t λx y=>Xy x λx=>kZ r (vB cf i x&&jd y&&xc cf kx y&&xc cf e v)
 | .cu i kx e,st=>gg st λts v=>lC ts λt r=>fu t λx y=>Xy x λx=>kZ r (vB cf i x&&jd y&&xc cf kx y&&xc cf e v)
 | .eB a e,st=>lG st λc=>Qo c λf xs l p=>kZ l (lC xs λv r=>kZ r (xN f λx n q=>u9 (n= "append")&&(q.endLine==p.line)&&wb v&&xc cf a x&&(xc cf e v&&Dq x)))
 | .ex e,st=>lG st λv=>xE v&&xc cf e v
 | .ret e,st=>r4 st λv=>oS v λv=>xc cf e v
 | .iff c a b,st=>tJ st λx ys zs=>fQ c&&xc cf c x&&cV cf a ys&&cV cf b zs
 | .ij _ c b,st=>u4 st λx ys zs=>kZ zs (fQ c&&xc cf c x&&cV cf b ys)
 | .for tg one it b,st=>uX st λt iter ys zs=>kZ zs (oD it t&&zg cf tg one t&&o9 cf it iter&&cV cf b ys)
 | .bH i c f e,st=>gg st λts v=>lC ts λt r=>xN t λx n _=>Xy x λx=>kZ r (vB cf i x&&u9 (n=Xg f)&&cf.ob.fl.contains (c,f)&&xc cf e v)
 | .dF,_=>u0
noncomputable def cV (cf:Cf):M.Ss->List Stmt->Bool
 | .nil,sts=>sts.isEmpty
 | .cons s ss,sts=>lC sts λst sts=>vp cf s st&&cV cf ss sts
end
structure M1 (X:Cx) (k:Nat) (x:Str) (ps:List Str) (sp:Sp):Prop where
 ex: ∃f fd,QG X.prog X.w X.K X.mg X.base (eJ X.prog X.w) k f fd ps sp/\Binds X.K fd ps []/\Ah5 X.K (.ref f)=u0/\X.mg x=k0 (.ref f)
def mi:M.W->Bool
 | .own _=>k9
 | _=>u0
def gO (Y:Ge) (m:List M.W->M.AH->M.R M.W):Sp:=λb H Q E=> ∃G h a,ai Y G h H/\bj Y G H a b/\(∀ w∈a,mi w=u0)/\av Y E G H (m a h) Q
structure Go (Y:Ge) (F:M.Fx) (X:Cx) (E:XK) (k:Nat) (cf:Cf):Prop where
 N:X.N=cf.N
 K:X.K=Y.K
 cl:F.cl=Y.cl
 ow:cf.own=Y.own
 nd:cf.N.Nodup
 hV: ∀x,XV cf.sc x=u0->mv X.env.scope x
 rN: ∀x,cf.sc.names.lookup x=k0 .local->X.env.scope.names.lookup x=k0 .local
 iZ: ∀x,ig cf.sc x=u0->kz X.env.scope x/\(X.fn x=u0\/X.env.scope.names.lookup x=k0 .local)
 mx: ∀x,(cf.sc.names.lookup x=k0 .cell\/cf.sc.names.lookup x=k0 .free)->X.env.kindOf x=k0 .cell\/X.env.kindOf x=k0 .free
 gl: ∀x,lq cf.sc x=u0->Gl X x
 calm:X.calm=u0
 room:bc k X.A
 d8:bc (k+1) X.A
 pass:jG (eJ X.prog X.w) X E
 blt: ∀x,x∈cn->X.mg (Xg x)=y0
 con: ∀x d,F.con.lookup x=k0 d-> ∃u v,X.mg (Xg x)=k0 u/\RelV v u/\ ∀G H,aC Y G H d v
 fn: ∀f,cf.fns.contains f=u0-> ∃ps,M1 X k (Xg f) ps (gO Y (F.call f))
 cls: ∀c,cf.own.contains c=u0->X.mg (Xg c)=k0 (.ref (Y.ca c))
 fld: ∀c f,cf.ob.fl.contains (c,f)=u0->dR X.K (Y.ca c)/\b7 X.K (Y.ca c) (Xg f)
 ki: ∀c m q,cf.ob.mt.contains (c,m,q)=u0->dR X.K (Y.ca c)/\ ∃fa fd ps,mZ X.K (Y.ca c) (Xg m) fa/\QG X.prog X.w X.K X.mg X.base (eJ X.prog X.w) k fa fd ps (gO Y (F.call q))/\Binds X.K fd ps []
 fe: ∀c q,cf.ob.fe.contains (c,q)=u0->X.mg (Xg c)=k0 (.ref (Y.ca c))/\ ∃fa fd ps,Mk X.K (Y.ca c) fa/\QG X.prog X.w X.K X.mg X.base (eJ X.prog X.w) k fa fd ps (gO Y (F.call q))/\Binds X.K fd ps []
@[elab_as_elim] theorem kE {P:List α->Prop}(k:b=u0->P []): ∀l,kZ l b=u0->P l:=by rintro (_|_)<;>first | exact b8 | exact k
def a2 (h:(a&&b)=u0):a=u0/\b=true:=Bool.and_eq_true_iff.mp h
def a3 (h:(a&&b&&c)=u0):a=u0/\b=u0/\c=true:=⟨(a2 (a2 h).1).1,(a2 (a2 h).1).2,(a2 h).2⟩
def a4 (h:(a&&b&&c&&d)=u0):a=u0/\b=u0/\c=u0/\d=true:=⟨(a3 (a2 h).1).1,(a3 (a2 h).1).2.1,(a3 (a2 h).1).2.2,(a2 h).2⟩
def a5 (h:(a&&b&&c&&d&&e)=u0):a=u0/\b=u0/\c=u0/\d=u0/\e=true:=⟨(a2 (a4 h).1).1,(a2 (a4 h).1).2,(a4 h).2⟩
def a6 (h:(a&&b&&c&&d&&e&&f)=u0):a=u0/\b=u0/\c=u0/\d=u0/\e=u0/\f=true:=⟨(a2 (a5 h).1).1,(a2 (a5 h).1).2,(a5 h).2⟩
def a7 (h:(a&&b&&c&&d&&e&&f&&g)=u0):a=u0/\b=u0/\c=u0/\d=u0/\e=u0/\f=u0/\g=true:=⟨(a2 (a6 h).1).1,(a2 (a6 h).1).2,(a6 h).2⟩
def nn (h:o.isNone=u0):o=none:=Aj6.mp h
def fZ (h:vB cf i x=u0):cf.N[i]? =k0 x/\XV cf.sc x=u0/\bh x=true:=⟨of_decide_eq_true (a3 h).1,(a3 h).2⟩
def Zc (h:b3 sc x e=true): ∃p,e= .Name (Xg x) p/\lq sc (Xg x)=true/\(Xg x==("__debug__" :Str))=false:=by
 unfold b3 at h
 rw [Aa1,Aa1]at h
 obtain⟨⟨b,c⟩,a⟩:=h
 unfold bh at a
 rw [Aa1]at a
 cases e with
 | Name y p=>
  have:y=Xg x:=by simpa [og]using b
  subst this
  exact⟨p,rfl,c,by simpa using a.1⟩
 | _=>simp [og]at b
def jq (h:x∈cn):Xg x≠("__name__" :Str):=by
 have:(cn.all λx=>decide (Xg x≠ "__name__"))=true:=by decide +kernel
 exact of_decide_eq_true (Ai6.mp this x h)
section
variable {Y:Ge}{F:M.Fx}{X:Cx}{E:XK}{k:Nat}{cf:Cf}
section
variable {G:Gh}{H:Hp}{h:M.AH}{τ:M.Sl}{U:St}{Q:VK}
def ay.val (p:ay Y E G0 H0 (.ok w h) λw _ G' H'=> ∀v,ak Y G' H' w v->aK τ U H0 w v->Q v H') (e:Ext G0 H0 G H) (a:ai Y G h H) (z:ak Y G H w v) (f:aK τ U H0 w v):Q v H:=
 p G H e a v z f
end
def B1 (c:Go Y F X E k cf)(g:cf.N[i]? =k0 x) (f:XV cf.sc x=u0) (b:bh x=u0):PE X (.Name x pos) (tD Y E (M.eval F (.var i))):=by
 unfold bh at b
 rw [Aa1]at b
 refine PE.imp (wI (by rw [c.N];exact g) (c.hV x f) (by simpa using b.1) (by simpa using b.2)) λU H Q y=> ?_
 obtain⟨G,u,h,s,p⟩:=y
 rw [M.eval]at p
 cases q:M.Gn u i with
 | none=>simp [M.Gi,q]at p;exact p.elim
 | some w=>
  obtain⟨v,e,r⟩:=s.slot i w q
  refine⟨v,e,?_⟩
  cases w with
  | v d=>
   rw [M.Ku q]at p
   exact ay.val p Ext.refl s.heap r trivial
  | own t=>
   rw [M.Kh q]at p
   obtain⟨a,j,o,z,m,l,n⟩:=r
   exact ay.val p Ext.refl s.heap ⟨a,j,o,m,.inl l,n⟩ ⟨i,_,q,rfl,e⟩
  | bor t=>
   rw [M.Ke q]at p
   exact ay.val p Ext.refl s.heap r ⟨i,_,q,rfl,e⟩
def E8 (f:Go Y F X E k cf)(m:b3 cf.sc c e=u0):PE X e (tD Y E (M.eval F (.con c))):=by
 obtain⟨p,rfl,n,l⟩:=Zc m
 cases q:F.con.lookup c with
 | none=>
  intro g s U H Q I ⟨G,i,h,b,a⟩
  rw [M.eval,q]at a
  exact a.elim
 | some d=>
  obtain⟨u,v,j,rv,rd⟩:=f.con c d q
  refine PE.imp (rK (f.gl _ n) j rv l) λU H Q o=> ?_
  obtain⟨G,i,h,b,a⟩:=o
  rw [M.eval,q]at a
  exact ay.val a Ext.refl b.heap (rd G H) trivial
def IC :PE X (.Constant (.int i) j pos) (tD Y E (M.eval F (.int i))):=PE.imp yC λU H Q ⟨G,a,h,s,p⟩=>ay.val p Ext.refl s.heap rfl trivial
def Fp :PE X (.Constant (.bool i) j pos) (tD Y E (M.eval F (.bl i))):=PE.imp E2 λU H Q ⟨G,a,h,s,p⟩=>ay.val p Ext.refl s.heap rfl trivial
def Dt :PE X (.Constant .none j pos) (tD Y E (M.eval F .au)):=PE.imp EE λU H Q ⟨G,a,h,s,p⟩=>ay.val p Ext.refl s.heap rfl trivial
def Fu :PE X (.Constant (.str (aF i)) j pos) (tD Y E (M.eval F (.str i))):=PE.imp oB λU H Q ⟨G,a,h,s,p⟩=>ay.val p Ext.refl s.heap rfl trivial
section
variable {a b c:M.E}{x y z:Expr}{pos:Pos}
def Bh (j:Go Y F X E k cf)(t:m2 o=u0) (n:PE X x (tD Y E (M.eval F a))) (m:PE X y (tD Y E (M.eval F b))):PE X (.BinOp x (l4 o) y pos) (tD Y E (M.eval F (.bin o a b))):=by
 refine PE.imp (Bu (Io (E:=E) o t j.K) n m) λU H Q w=> ?_
 obtain⟨G,I,h,s,p⟩:=w
 exact Wa s.heap Ext.refl s p λr v1 J K C e1 l d g D z=> Wa s.heap e1 d z λq v2 v i B e2 c e f A u=> ⟨i,v,r,q,e.heap,g.ext c d.heap,f,av.mk u e2 s.heap⟩
theorem nD (b: ∀c y,RV hp c y->ee y=M.cy c d): ∀ {ys}{i},cj hp ys i->i.any ee=M.inD d ys
 | [],_,rfl=>rfl
 | c::ys,_,⟨u,r,rfl,e,f⟩=>by
  have a:=nD b f
  unfold M.inD at a ⊢
  rw [Ag9,Ag9,a,b c u e]
def oa (f:bc k X.A)(r:M.GG ys<140) (p:RV s.heap d v) (l:cj s.heap ys its): ∃i:Value->Bool,(∀ c y,RV s.heap c y->i y=M.cy c d)/\ ∀y,y∈its.toArray->SeqAt.EqAt X.A.in1 s y v (i y):=by
 have e: ∃i:Value->Bool,∀c y,RV s.heap c y->i y=M.cy c d:=⟨λy=> @u9 (∃ a,RV s.heap a y/\M.cy a d=u0) (Am1 _),λc y z=>by
  cases q:M.cy c d with
  | true=>exact @decide_eq_true _ (Am1 _) ⟨c,z,q⟩
  | false=>exact @decide_eq_false _ (Am1 _) λ⟨d,m,h⟩=>by rw [RV.inj m z,q]at h;cases h⟩
 obtain⟨i,g⟩:=e
 refine⟨i,g,λy n=> ?_⟩
 obtain⟨j,o⟩:=List.getElem?_of_mem (List.mem_toArray.mp n)
 obtain⟨a,b,rd⟩:=l.get o
 rw [g a y rd]
 exact(o4 140 a _ X.A.in1 y v (by have:=jH b;lia) (by have:=f.un;lia) rd p).eq
def uV (t:X.K=Y.K)(n:bc k X.A) (neg:Bool){x y:V}(I:Inv X pins U H s) (E:RelV x v) (F:RelV y u){b:Bool}(w:ai Y G h H)
 (C:ak Y G H w1 x) (B:ak Y G H w2 y) (e:M.Kc w1 w2 h=k0 b) (q:Q (.bl (if neg then !b else b)) H):wpAny (model X.prog X.w) X.A (compareOp (if neg then .NotIn else .In) v u) (EP X pins U Q) X.xe s:=by
 unfold M.Kc at e
 split at e
 .rename_i z e2
  split at e
  .rename_i c
   cases e
   have l:=by simpa using c
   have A:=C.rv I t w E l.1.1
   have o:=B.rv I t w F
   cases p:w2.dd h with
   | lst D=>
    rw [p]at e2 o
    cases e2
    obtain⟨a,f,rfl,g,j⟩:=o l.1.2
    obtain⟨d,r,i⟩:=oa n l.2 A j
    have m:f.toArray.any d=M.inD (w1.dd h) z:=by rw [List.any_toArray];exact nD r j
    cases neg with
    | true=>exact SeqAt.notIn_listAt d g i ⟨.bl _,H,I,rfl,by rw [m];exact q⟩
    | false=>exact SeqAt.in_listAt d g i ⟨.bl _,H,I,rfl,by rw [m];exact q⟩
   | tup D=>
    rw [p]at e2 o
    cases e2
    obtain⟨a,f,rfl,g,j⟩:=o l.1.2
    obtain⟨d,r,i⟩:=oa n l.2 A j
    have m:f.toArray.any d=M.inD (w1.dd h) z:=by rw [List.any_toArray];exact nD r j
    cases neg with
    | true=>exact SeqAt.notIn_tupleAt d g i ⟨.bl _,H,I,rfl,by rw [m];exact q⟩
    | false=>exact SeqAt.in_tupleAt d g i ⟨.bl _,H,I,rfl,by rw [m];exact q⟩
   | _=>rw [p]at e2;cases e2
  .cases e
 .cases e
def WO (r:Go Y F X E k cf) (o) (C:qN o=u0):b0 X (compareOp (fv o)) (ik Y o):=by
 have f: ∀ {o},(∀ d a h b,M.Gq o d a h=k0 b-> ∃i j,M.W.int? d=k0 i/\M.W.int? a=k0 j/\M.Kx o i j=k0 b)->b0 X (compareOp (fv o)) (ik Y o):=by
  intro o z g s U H x y v u Q I n p ⟨G,h,d,a,b,w,m,l,e,q⟩
  obtain⟨i,j,e1,e2,A⟩:=z d a h b e
  cases m.int e1
  cases l.int e2
  exact IL A I n p q
 have mk: ∀ {o}{d a}{h:M.AH}{b},(match M.W.int? d,M.W.int? a with
  | some i,k0 j=>M.Kx o i j
  | _,_=>y0)=k0 b-> ∃i j,M.W.int? d=k0 i/\M.W.int? a=k0 j/\M.Kx o i j=k0 b:=by
  intro o d a h b e
  split at e
  .rename_i i j e1 e2;exact⟨i,j,e1,e2,e⟩
  .cases e
 cases o with
 | eq=>exact MG r.K r.room
 | ne=>exact C9 r.K r.room
 | lt=>exact f λd a h b e=>mk (h:=h) e
 | le=>exact f λd a h b e=>mk (h:=h) e
 | gt=>exact f λd a h b e=>mk (h:=h) e
 | ge=>exact f λd a h b e=>mk (h:=h) e
 | mem=>
  intro g s U H x y v u Q I n p ⟨G,h,d,a,b,w,m,l,e,q⟩
  exact uV r.K r.room k9 I n p w m l e q
 | e7=>
  intro g s U H x y v u Q I n p ⟨G,h,d,a,b,w,m,l,e,q⟩
  have e:(M.Kc d a h).map (!·)=k0 b:=e
  cases e2:M.Kc d a h with
  | none=>rw [e2]at e;cases e
  | some c=>
   rw [e2]at e
   cases e
   exact uV r.K r.room u0 I n p w m l e2 q
 | cX=>
  intro g s U H x y v u Q I n p ⟨G,h,d,a,b,w,m,l,e,q⟩
  have e:M.Kr d a=k0 b:=e
  unfold M.Kr at e
  split at e
  .cases e
   cases m
   cases l
   cases n
   obtain⟨t,rfl⟩:=p
   exact wpAny_is_plain rfl (mz I q rfl)
  .cases e
   cases m
   cases l
   obtain⟨t,rfl⟩:=n
   obtain⟨B,rfl⟩:=p
   exact PyProof.Rows.is_bool (mz I q rfl)
  .cases e
 | i7=>
  intro g s U H x y v u Q I n p ⟨G,h,d,a,b,w,m,l,e,q⟩
  have e:(M.Kr d a).map (!·)=k0 b:=e
  unfold M.Kr at e
  split at e
  .cases e
   cases m
   cases l
   cases n
   obtain⟨t,rfl⟩:=p
   exact wpAny_isNot_plain rfl (mz I q rfl)
  .cases e
   cases m
   cases l
   obtain⟨t,rfl⟩:=n
   obtain⟨B,rfl⟩:=p
   exact PyProof.Rows.isnot_bool (mz I q rfl)
  .cases e
def Jt (h:Jh e=u0):behindInMarks o e=false:=by
 cases e<;>first | rfl | (simp [Jh]at h)
def rE (z:Go Y F X E k cf)(s:aq Y G τ h U H)
 (p:ay Y E G H ((M.eval F a τ h).bind λx h=>(M.eval F b τ h).bind λy h=>(M.R.of h (M.Gq o x y h)).bind λc h=> .ok c h) λc _ _ H'=>R (.bl c) H'):
 kY (ik Y o) (tD Y E (M.eval F a)) (tD Y E (M.eval F b)) U H R:=by
 refine Wa s.heap Ext.refl s p λr v1 C D A e1 n g l B u=> Wa s.heap e1 g u λq v2 t m w e2 d f i v e=> ?_
 obtain⟨c,j,e⟩:=e.of
 exact⟨m,t,r,q,c,f.heap,l.ext d g.heap,i,j,e.at e2 f.heap⟩
def ay.map {f:α->β}(p:ay Y E G H (r.bind λa h=> .ok (f a) h) P):ay Y E G H r λa h G' H'=>P (f a) h G' H':=by
 cases r with
 | ok a h=>exact p
 | fail=>exact p
def Zi (r:M.R α) (f) (g:β->M.AH->M.R γ):(r.bind f).bind g=r.bind λa h=>(f a h).bind g:=by cases r<;>rfl
def Eo (j:Go Y F X E k cf)(t:qN o=u0) (r:Jh y=u0) (n:PE X x (tD Y E (M.eval F a))) (m:PE X y (tD Y E (M.eval F b))):PE X (.Compare x [fv o] [y] pos) (tD Y E (M.eval F (.cmp o a b))):=by
 refine PE.imp (vx (WO j o t) n m (Jt r)) λU H Q z=> ?_
 obtain⟨G,d,h,s,p⟩:=z
 rw [M.eval]at p
 refine rE j s ?_
 have u:ay Y E G H (((M.eval F a d h).bind λx h=>(M.eval F b d h).bind λy h=>(M.R.of h (M.Gq o x y h)).bind λc h=> .ok c h).bind λc h=> .ok (M.W.v (.bl c)) h) λw _ i f=> ∀v,ak Y i f w v->aK d U H w v->Q v f:=by
  simpa only [Zi,M.R.ae]using p
 have g:=u.map
 cases q:(M.eval F a d h).bind λx h=>(M.eval F b d h).bind λy h=>(M.R.of h _).bind λc h=> .ok c h with
 | ok c A=>rw [q]at g;exact λi f e l=>g i f e l _ rfl trivial
 | fail=>rw [q]at g;exact g
def He (f:Go Y F X E k cf)(t:qN o=u0) (r:Jh y=u0) (n:PE X x (tD Y E (M.eval F a))) (m:PE X y (tD Y E (M.eval F b))):PT X (.Compare x [fv o] [y] pos) (cS Y E (M.Gm F (.cmp o a b))):=by
 refine PT.imp (rb (WO f o t) n m (Jt r)) λU H Q u=> ?_
 obtain⟨G,g,h,s,p⟩:=u
 unfold M.Gm at p
 rw [M.eval]at p
 refine rE f s ?_
 have d:=by
  simpa only [Zi,M.R.ae,M.GS,M.R.ao]using p
 cases q:(M.eval F a g h).bind λx h=>(M.eval F b g h).bind λy h=>(M.R.of h _).bind λc h=> .ok c h with
 | ok c v=>rw [q]at d;exact λj i e l=>⟨c,rfl,d j i e l⟩
 | fail=>rw [q]at d;exact d
end
end
section
variable {Y:Ge}{F:M.Fx}{X:Cx}{E:XK}{k:Nat}{cf:Cf}{a b c:M.E}{x y z:Expr}{pos:Pos}
def qH (r:M.R α):(r.bind λw h=> .ok w h)=r:=by cases r<;>rfl
def D3 (f:Go Y F X E k cf) (l:PE X x (tD Y E (M.eval F a))) (d: ∀i,isTrue x X.env i=(do let v ←i;standAt x.pos;holding [v] (truthy v))):PT X x (cS Y E (M.Gm F a)):=by
 refine PT.imp (C2 l d) λU H Q r=> ?_
 obtain⟨G,w,h,s,p⟩:=r
 refine Wa s.heap Ext.refl s p λo v1 m n g e1 j c e u b=> ?_
 cases q:M.G8 m o with
 | none=>rw [q]at b;exact b.elim
 | some t=>
  rw [q]at b
  exact⟨t,mU f.K c.heap e q,b n g e1 c.heap⟩
def H9 (g:PE X x ta):PE X (.UnaryOp .Not x pos) (λU H Q=>ta U H λv H1=> ∃t,kf X.K v H1 t/\Q (.bl (!t)) H1):=by
 intro a s U H Q I h
 exact UnaryOp_ (aO (g a s U H _ I h) λv l ⟨x,H1,b,e,t,j,k⟩=> not_of (aO (ml a l U H1 x v (λc d=>Q (.bl (!c)) d) b e ⟨t,j,k⟩) λc m ⟨f,i,q⟩=>⟨.bl (!c),f,i,rfl,q⟩))
def Im (e:Go Y F X E k cf) (g:PE X x (tD Y E (M.eval F a))):PE X (.UnaryOp .Not x pos) (tD Y E (M.eval F (.not a))):=by
 refine PE.imp (H9 g) λU H Q i=> ?_
 obtain⟨G,m,h,s,p⟩:=i
 refine Wa s.heap Ext.refl s p λr v1 n o j e1 f c d l b=> ?_
 obtain⟨t,q,b⟩:=b.of
 exact⟨t,mU e.K c.heap d q,ay.val b e1 c.heap rfl trivial⟩
def FW (d:PT X x (cS Y E (M.Gm F a))):PT X (.UnaryOp .Not x pos) (cS Y E (M.Gm F (.not a))):=by
 refine PT.imp (B8 d) λU H Q g=> ?_
 obtain⟨G,c,h,s,p⟩:=g
 unfold M.Gm at p
 rw [M.eval]at p
 have e:ay Y E G H ((M.Gm F a c h).bind λt h=> .ok (!t) h) λb _ _ f=>Q b f:=by
  unfold M.Gm
  simpa only [Zi,M.R.ae,M.GS,M.R.ao]using p
 exact⟨G,c,h,s,e.map⟩
def DO {Zp:List Expr}(k:PE X x ta) (j:PE X (.BoolOp .And (y::Zp) pos) tb):PE X (.BoolOp .And (x::y::Zp) pos) (λU H Q=>ta U H λv H1=> ∃t,kf X.K v H1 t/\if t=u0 then tb U H1 Q else Q v H1):=by
 intro a s U H Q I h
 refine BoolOp_and (aO (k a s U H _ I h) λv n ⟨x,H1,i,d,t,l,m⟩=> aO (ml a n U H1 x v (λc b=>if c=u0 then tb U b Q else Q x b) i d ⟨t,l,m⟩) λc g o=> ?_)
 obtain⟨e,f,q⟩:=o
 cases c with
 | true=>exact j a g U e Q f q
 | false=>exact⟨x,e,f,d,q⟩
def EX {Zp:List Expr}(k:PE X x ta) (j:PE X (.BoolOp .Or (y::Zp) pos) tb):PE X (.BoolOp .Or (x::y::Zp) pos) (λU H Q=>ta U H λv H1=> ∃t,kf X.K v H1 t/\if t=u0 then Q v H1 else tb U H1 Q):=by
 intro a s U H Q I h
 refine BoolOp_or (aO (k a s U H _ I h) λv n ⟨x,H1,i,d,t,l,m⟩=> aO (ml a n U H1 x v (λc b=>if c=u0 then Q x b else tb U b Q) i d ⟨t,l,m⟩) λc g o=> ?_)
 obtain⟨e,f,q⟩:=o
 cases c with
 | false=>exact j a g U e Q f q
 | true=>exact⟨x,e,f,d,q⟩
def sY (j:Go Y F X E k cf){Zp:List Expr}(o:PE X x (tD Y E (M.eval F a))) (n:PE X (.BoolOp .And (y::Zp) pos) (tD Y E (M.eval F b))):PE X (.BoolOp .And (x::y::Zp) pos) (tD Y E (M.eval F (.and a b))):=by
 refine PE.imp (DO o n) λU H Q v=> ?_
 obtain⟨G,B,h,s,p⟩:=v
 refine Wa s.heap Ext.refl s p λJ v1 C D A e1 m d e l c=> ?_
 obtain⟨t,q,c⟩:=c.of
 refine⟨t,mU j.K d.heap e q,?_⟩
 cases t with
 | true=>
  exact Wa s.heap e1 d (by rw [qH];exact c) λI v2 K z w e2 r f g i u=>ay.val u e2 f.heap g (i.back e1 s.heap)
 | false=>
  exact ay.val c e1 d.heap e l
def uS (j:Go Y F X E k cf){Zp:List Expr}(o:PE X x (tD Y E (M.eval F a))) (n:PE X (.BoolOp .Or (y::Zp) pos) (tD Y E (M.eval F b))):PE X (.BoolOp .Or (x::y::Zp) pos) (tD Y E (M.eval F (.or a b))):=by
 refine PE.imp (EX o n) λU H Q v=> ?_
 obtain⟨G,B,h,s,p⟩:=v
 refine Wa s.heap Ext.refl s p λJ v1 C D A e1 m d e l c=> ?_
 obtain⟨t,q,c⟩:=c.of
 refine⟨t,mU j.K d.heap e q,?_⟩
 cases t with
 | false=>
  exact Wa s.heap e1 d (by rw [qH];exact c) λI v2 K z w e2 r f g i u=>ay.val u e2 f.heap g (i.back e1 s.heap)
 | true=>
  exact ay.val c e1 d.heap e l
def Ed :M.Gm F (.and a b) τ h=(M.Gm F a τ h).bind λt h=>match t with
 | true=>M.Gm F b τ h
 | false=> .ok k9 h:=by
 unfold M.Gm
 rw [M.eval]
 simp only [Zi]
 congr 1
 funext w h1
 cases q:M.G8 h1 w with
 | none=>rfl
 | some t=>
  cases t with
  | true=>rfl
  | false=>simp [q]
def Dm :M.Gm F (.or a b) τ h=(M.Gm F a τ h).bind λt h=>match t with
 | true=> .ok u0 h
 | false=>M.Gm F b τ h:=by
 unfold M.Gm
 rw [M.eval]
 simp only [Zi]
 congr 1
 funext w h1
 cases q:M.G8 h1 w with
 | none=>rfl
 | some t=>
  cases t with
  | false=>rfl
  | true=>simp [q]
def rV {Zp:List Expr}(o:PT X x (cS Y E (M.Gm F a))) (n:PW X (.BoolOp .And (y::Zp) pos) (cS Y E (M.Gm F b))):PW X (.BoolOp .And (x::y::Zp) pos) (cS Y E (M.Gm F (.and a b))):=by
 intro u c i U H Q I ⟨G,z,h,s,p⟩
 refine Lq o n u c i U H Q I ?_
 rw [Ed]at p
 refine jR s.heap Ext.refl s p λt A r l e1 m d e=> ?_
 cases t with
 | true=>
  exact jR s.heap e1 d (f:=λw h=> .ok w h) (by rw [qH];exact e) λB C k j e2 q g v=>v k j e2 g.heap
 | false=>
  exact e r l e1 d.heap
def rQ {Zp:List Expr}(o:PT X x (cS Y E (M.Gm F a))) (n:PW X (.BoolOp .Or (y::Zp) pos) (cS Y E (M.Gm F b))):PW X (.BoolOp .Or (x::y::Zp) pos) (cS Y E (M.Gm F (.or a b))):=by
 intro u c i U H Q I ⟨G,z,h,s,p⟩
 refine AE o n u c i U H Q I ?_
 rw [Dm]at p
 refine jR s.heap Ext.refl s p λt A r l e1 m d e=> ?_
 cases t with
 | false=>
  exact jR s.heap e1 d (f:=λw h=> .ok w h) (by rw [qH];exact e) λB C k j e2 q g v=>v k j e2 g.heap
 | true=>
  exact e r l e1 d.heap
def LM (e:PE X x (tD Y E (M.eval F a))):PE X (.UnaryOp .USub x pos) (tD Y E (M.eval F (.neg a))):=by
 refine PE.imp (oy yz e) λU H Q g=> ?_
 obtain⟨G,k,h,s,p⟩:=g
 refine Wa s.heap Ext.refl s p λn v1 l m i e1 d f c j b=> ?_
 obtain⟨t,q,b⟩:=b.of
 exact⟨t,c.int q,ay.val b e1 f.heap rfl trivial⟩
def BA (f:PE X x (tD Y E (M.eval F a))):PE X (.UnaryOp .Invert x pos) (tD Y E (M.eval F (.inv a))):=by
 refine PE.imp (oy Dy f) λU H Q i=> ?_
 obtain⟨G,l,h,s,p⟩:=i
 refine Wa s.heap Ext.refl s p λo v1 m n j e1 d g c k b=> ?_
 obtain⟨t,q,b⟩:=b.of
 refine⟨t,c.int q,?_⟩
 have e:Builtin.bitNot t= -t-1:=by unfold Builtin.bitNot;lia
 exact ay.val b e1 g.heap rfl trivial
def vi (r:ak Y G H w v):(v= .au)↔w= .v .au:=by
 constructor
 .intro e
  subst e
  cases w with
  | v d=>
   cases d with
   | au=>rfl
   | bl _=>cases (r)
   | int _=>cases (r)
   | str _=>cases (r)
   | tup _=>obtain⟨_,_,e,_⟩:=r;cases e
   | lst _=>obtain⟨_,_,e,_⟩:=r;cases e
   | ref _=>obtain⟨_,e⟩:=r;cases e
  | own _=>obtain⟨_,_,e,_⟩:=r;cases e
  | bor _=>obtain⟨_,_,e,_⟩:=r;cases e
 .intro e
  subst e
  exact r
def oP (neg:Bool):M.W->Bool
 | .v .au=> !neg
 | _=>neg
def uz :M.eval F (.fk neg a) τ h=(M.eval F a τ h).bind λw h=>M.ag (.bl (oP neg w)) h:=by
 rw [M.eval]
 congr 1
 funext w h1
 cases w with
 | v d=>cases d<;>rfl
 | own _=>rfl
 | bor _=>rfl
def tO (r:ak Y G H w v) (neg:Bool):(if neg then !u9 (v= .au)else u9 (v= .au))=oP neg w:=by
 by_cases a:v= .au
 .have b:=(vi r).mp a
  subst b a
  cases neg<;>rfl
 .have b:=λe=>a ((vi r).mpr e)
  rw [(decide_eq_false a)]
  have e2:oP neg w=neg:=by
   cases w with
   | v d=>cases d<;>first | rfl | exact absurd rfl b
   | own _=>rfl
   | bor _=>rfl
  rw [e2]
  cases neg<;>rfl
def L1 (d:PE X x (tD Y E (M.eval F a))):PE X (.Compare x [if neg then .IsNot else .Is] [.Constant .none j pos'] pos) (tD Y E (M.eval F (.fk neg a))):=by
 have b: ∀U H Q,tD Y E (M.eval F (.fk neg a)) U H Q->tD Y E _ U H λv c=>Q (.bl (if neg then !u9 (v= .au)else decide _)) c:=λU H Q i=>by
  obtain⟨G,m,h,s,p⟩:=i
  rw [uz]at p
  refine Wa s.heap Ext.refl s p λq v1 n o c e1 f g e l k=> ?_
  rw [tO e neg]
  exact ay.val k e1 g.heap rfl trivial
 cases neg with
 | true=>exact PE.imp (tw (vv d)) b
 | false=>exact PE.imp (tw (y4 d)) b
def C8 (i:PE X x (tD Y E (M.eval F a))):PT X (.Compare x [if neg then .IsNot else .Is] [.Constant .none j pos'] pos) (cS Y E (M.Gm F (.fk neg a))):=by
 have g: ∀U H Q,cS Y E (M.Gm F (.fk neg a)) U H Q->tD Y E _ U H λv b=>Q (if neg then !u9 (v= .au)else decide _) b:=λU H Q z=>by
  obtain⟨G,d,h,s,p⟩:=z
  unfold M.Gm at p
  rw [uz,Zi]at p
  refine Wa s.heap Ext.refl s p λI v1 C u b e1 o y l B A=> ?_
  rw [tO l neg]
  exact A u b e1 y.heap
 have fin: ∀U H Q,cS Y E _ U H Q->tD Y E (M.eval F a) U H λv b=> ∃c,V.bl _= .bl c/\Q c b:=λU H Q t=>by
  obtain⟨G,d,h,s,p⟩:=g U H Q t
  refine⟨G,d,h,s,?_⟩
  cases q:M.eval F a d h with
  | ok w D=>rw [q]at p;exact λm k e n v r f=>⟨_,rfl,p m k e n v r f⟩
  | fail=>rw [q]at p;exact p
 cases neg with
 | true=>exact PT.imp (t9 (vv i)) fin
 | false=>exact PT.imp (t9 (y4 i)) fin
def vH (h:Jh e'=u0):lastMarks [o,o'] [e,e']=false:=Jt h
def r9 (L:Go Y F X E k cf)(s:aq Y G τ h U H)
 (n: ∀b h' G' H',P (.v (.bl b)) h' G' H'->R (.bl b) H') (p:ay Y E G H (M.eval F (.chain o o' a b c) τ h) P):
 oj (ik Y o) (ik Y o') (tD Y E (M.eval F a)) (tD Y E (M.eval F b)) (tD Y E (M.eval F c)) U H R:=by
 refine Wa s.heap Ext.refl s p λC v1 S T N e1 y r v O I=> Wa s.heap e1 r I λq v2 D x K e2 j d l J e=> ?_
 obtain⟨t,f,e⟩:=e.of
 refine⟨x,D,C,q,t,d.heap,v.ext j r.heap,l,f,t,rfl,?_⟩
 cases t with
 | true=>
  refine Wa s.heap e2 d e λA v3 B z V u i m w Q g=> ?_
  obtain⟨t,f,g⟩:=g.of
  exact⟨z,B,q,A,t,m.heap,l.ext i d.heap,w,f,n _ _ _ _ (g.at u m.heap)⟩
 | false=>
  exact n _ _ _ _ (e.at e2 d.heap)
def Cb (d:Go Y F X E k cf)(l:qN o=u0) (e:qN o'=u0) (i:Jh z=u0) (g:PE X x (tD Y E (M.eval F a))) (f:PE X y (tD Y E (M.eval F b))) (j:PE X z (tD Y E (M.eval F c))):
 PE X (.Compare x [fv o,fv o'] [y,z] pos) (tD Y E (M.eval F (.chain o o' a b c))):=
 PE.imp (CB (WO d o l) (WO d o' e) g f j (vH i)) λU H Q ⟨G,r,h,s,p⟩=>r9 d s (λb t n m q=>q _ rfl trivial) p
def HJ (f:Go Y F X E k cf)(A:qN o=u0) (g:qN o'=u0) (u:Jh z=u0) (r:PE X x (tD Y E (M.eval F a))) (n:PE X y (tD Y E (M.eval F b))) (v:PE X z (tD Y E (M.eval F c))):
 PT X (.Compare x [fv o,fv o'] [y,z] pos) (cS Y E (M.Gm F (.chain o o' a b c))):=by
 refine PT.imp (Hy (WO f o A) (WO f o' g) r n v (vH u)) λU H Q B=> ?_
 obtain⟨G,m,h,s,p⟩:=B
 refine r9 f s (P:=λw _ _ d=> ∀b,w= .v (.bl b)->Q b d) (λb t i d q=>⟨b,rfl,q b rfl⟩) ?_
 unfold M.Gm at p
 cases q:M.eval F _ m h with
 | ok w t=>rw [q]at p;exact λi d e l b j=>by subst j;exact p i d e l
 | fail=>rw [q]at p;exact p
end
def jb (h:wb e=u0):starEach (e::es) env=(k9,eval e env)::starEach es env:=by
 cases e<;>first | rfl | (simp [wb]at h)
def qs (h: ∀e∈es,wb e=u0):(backTo pos (starEach es env)).any (·.1)=false:=by
 induction es with
 | nil=>rfl
 | cons e r c=>
  rw [jb (h e Aa5)]
  show(k9||(backTo pos _).any _)=k9
  rw [c λb a=>h b (Aa2 _ a)]
  rfl
section
variable {Y:Ge}{F:M.Fx}{X:Cx}{E:XK}{k:Nat}{cf:Cf}{a b c:M.E}{x y z:Expr}{pos:Pos}{es:M.Es}{xs:List Expr}
def AF:PA X [] (iD Y E (M.Gx F .nil)):=PA.imp jn λU H Q ⟨G,a,h,s,p⟩=>p G H Ext.refl s.heap [] rfl
def FE (i:wb x=u0) (u:PE X x (tD Y E (M.eval F a))) (n:PA X xs (iD Y E (M.Gx F es))):PA X (x::xs) (iD Y E (M.Gx F (.cons a es))):=by
 refine PA.imp (Xf u n (jb i)) λU H Q y=> ?_
 obtain⟨G,C,h,s,p⟩:=y
 refine Wa s.heap Ext.refl s p λK v1 D I B e1 r v j o c=> ?_
 obtain⟨d,q,c⟩:=c.of
 obtain⟨z,e2,e,rd,_⟩:=pK e1 v s j o q
 exact X9 s.heap e2 e c λA f J t w g b l k m=> m t w g l.heap (v1::f) ⟨v1,f,rfl,rd.ext b e.heap,k⟩
def Hd:PA X [] (fM Y E (M.Gf F .nil)):=PA.imp jn λU H Q ⟨G,a,h,s,p⟩=>p G H Ext.refl s.heap [] rfl
def A5 (f:wb x=u0) (o:PE X x (tD Y E (M.eval F a))) (l:PA X xs (fM Y E (M.Gf F es))):PA X (x::xs) (fM Y E (M.Gf F (.cons a es))):=by
 refine PA.imp (Xf o l (jb f)) λU H Q r=> ?_
 obtain⟨G,y,h,s,p⟩:=r
 exact Wa s.heap Ext.refl s p λC v1 z A v e1 m d g w t=> Xs s.heap e1 d t λu c B n q e b j i k=> k n q e j.heap (v1::c) ⟨v1,c,rfl,g.ext b d.heap,i⟩
def Ie {n:Nat}(u:xs.length<=1000) (a: ∀τ h ds h',M.Gx F es τ h= .ok ds h'->ds.length=xs.length) (m:PA X xs (iD Y E (M.Gx F es))):PE X (.Tuple xs n pos) (tD Y E (M.eval F (.tup es))):=by
 refine PE.imp (EM m) λU H Q t=> ?_
 obtain⟨G,τ,h,s,p⟩:=t
 rw [M.eval]at p
 cases q:M.Gx F es τ h with
 | ok b r=>
  refine X9 s.heap Ext.refl s (f:=λds h=>if ds.length=xs.length then M.ag (.tup ds) h else .fail) (P:=λw h' j e=> ∀v,ak Y j e w v->aK τ U H w v->Q v e) ?_ λds y A B z e1 l o g c=> ?_
  .rw [q]at p ⊢
   show ay Y E G H (if b.length=xs.length then M.ag (.tup b) r else .fail) _
   rw [if_pos (a _ _ _ _ q)]
   exact p
  .by_cases i:ds.length=xs.length
   .rw [if_pos i]at c
    have x:=g.length
    exact⟨Ag1 (Ql (by lia)),λk d=>av.tup (av.mk c e1 s.heap) o.heap g k d⟩
   .rw [if_neg i]at c;exact c.elim
 | fail=>rw [q]at p;exact p.elim
def Nc (t:xs.length<=1000) (a: ∀τ h ds h',M.Gx F es τ h= .ok ds h'->ds.length=xs.length) (m:PA X xs (iD Y E (M.Gx F es))):PE X (.List xs pos) (tD Y E (M.eval F (.lst es))):=by
 refine PE.imp (A7 m) λU H Q r=> ?_
 obtain⟨G,τ,h,s,p⟩:=r
 rw [M.eval]at p
 cases q:M.Gx F es τ h with
 | ok b o=>
  refine X9 s.heap Ext.refl s (f:=λds h=>if ds.length=xs.length then .ok (.own ds) h else .fail) (P:=λw h' j e=> ∀v,ak Y j e w v->aK τ U H w v->Q v e) ?_ λds x z A y e1 l n g c=> ?_
  .rw [q]at p ⊢
   show ay Y E G H (if b.length=xs.length then .ok (M.W.own b) o else .fail) _
   rw [if_pos (a _ _ _ _ q)]
   exact p
  .by_cases i:ds.length=xs.length
   .rw [if_pos i]at c
    have u:=g.length
    exact⟨Ag1 (Ql (by lia)),λk d=>av.own (av.mk c e1 s.heap) n.heap g k d⟩
   .rw [if_neg i]at c;exact c.elim
 | fail=>rw [q]at p;exact p.elim
def Mr (r:ak Y G H w v):ak Y G H w.arg v:=by
 cases w with
 | v d=>exact r
 | own c=>obtain⟨a,e,b,_,g,f,h⟩:=r;exact⟨a,e,b,g,.inl f,h⟩
 | bor c=>exact r
theorem Wy : ∀ {ws}{vs},bj Y G H ws vs->bj Y G H (ws.map M.W.arg) vs
 | [],_,z=>z
 | _::_,_,⟨v,r,a,b,c⟩=>⟨v,r,a,Mr b,Wy c⟩
def Jz (ws:List M.W): ∀w∈ws.map M.W.arg,mi w=true:=λw a=>by
 obtain⟨u,_,rfl⟩:=Ab6.mp a
 cases u<;>rfl
def DB (a:Go Y F X E k cf)(z:b3 cf.sc f g=u0) (u:cf.fns.contains f=u0) (c: ∀e∈x::xs,wb e=u0) (o:PA X (x::xs) (fM Y E (M.Gf F es))):PE X (.Call g (x::xs) [] pos) (tD Y E (M.eval F (.call f es))):=by
 obtain⟨p,rfl,A,y⟩:=Zc z
 obtain⟨q,D,L,b,l,n,v⟩:=(a.fn f u).imp λq h=>h.ex
 refine PE.imp (DQ b a.room (a.gl _ A) v n l .nil a.pass o y (jb (c _ Aa5)) (qs λe d=>c e (Aa2 _ d))) λU H Q m=> ?_
 obtain⟨G,K,h,s,p⟩:=m
 refine Xs s.heap Ext.refl s p λB I r t J e1 j w i C=> ?_
 rw [Ae3]
 exact⟨t,r,_,w.heap,Wy i,Jz B,av.mk C e1 s.heap⟩
def CH (a:Go Y F X E k cf)(l:b3 cf.sc f g=u0) (e:cf.fns.contains f=u0):PE X (.Call g [] [] pos) (tD Y E (M.eval F (.call f .nil))):=by
 obtain⟨p,rfl,m,j⟩:=Zc l
 obtain⟨d,q,t,b,c,o,i⟩:=(a.fn f e).imp λd h=>h.ex
 refine PE.imp (Fs b a.room (a.gl _ m) i o c .nil a.pass j) λU H Q n=> ?_
 obtain⟨G,r,h,s,p⟩:=n
 exact⟨G,h,_,s.heap,Wy (ws:= []) rfl,Jz [],av.mk p Ext.refl s.heap⟩
def D4 (b:M.Bi) (a:mm b=u0):bootBuiltins (Xg (m6 b))=k0 (tL b):=by
 cases b<;>first | (exact absurd (show k9=u0 from a) Ac2) | decide +kernel
def sD (b):m6 b∈cn:=by cases b<;>decide
def Ir (c:Go Y F X E k cf){b:M.Bi}(q:mm b=u0) (A:b3 cf.sc (m6 b) g=u0) (r: ∀e∈x::xs,wb e=u0) (i:PA X (x::xs) (fM Y E (M.Gf F es))):PE X (.Call g (x::xs) [] pos) (tD Y E (M.eval F (.bi b es))):=by
 obtain⟨p,rfl,n,m⟩:=Zc A
 have l:=c.blt _ (sD b)
 have j:=jq (sD b)
 have bt:=D4 b q
 have o:Wr X _ (pI Y E b):=ML b q c.K c.calm
 have a: ∀U H Q,tD Y E (M.eval F (.bi b es)) U H Q->oX (pI Y E b) (fM Y E _) U H Q:=λU H Q B=>by
  obtain⟨G,J,h,s,p⟩:=B
  exact Xs s.heap Ext.refl s p λt D y z I e1 w d v C=> ⟨z,y,t,d.heap,v,av.mk C e1 s.heap⟩
 have d:=jb (env:=X.env) (es:=xs) (r _ Aa5)
 have f:=qs (env:=X.env) (pos:=pos) λe u=>r e (Aa2 _ u)
 cases b with
 | len=>exact PE.imp (Jn o (c.gl _ n) l bt i j m d f) a
 | divmod=>exact PE.imp (Jn o (c.gl _ n) l bt i j m d f) a
 | min=>cases q
 | max=>cases q
 | int=>exact PE.imp (Wz o (c.gl _ n) l bt i j m d f) a
 | list=>exact PE.imp (Wz o (c.gl _ n) l bt i j m d f) a
 | tuple=>exact PE.imp (Wz o (c.gl _ n) l bt i j m d f) a
 | sum=>exact PE.imp (Jn o (c.gl _ n) l bt i j m d f) a
 | all=>exact PE.imp (Jn o (c.gl _ n) l bt i j m d f) a
 | any=>exact PE.imp (Jn o (c.gl _ n) l bt i j m d f) a
 | sorted=>exact PE.imp (Jn o (c.gl _ n) l bt i j m d f) a
 | str=>cases q
 | abs=>cases q
def bB (h:xU o=u0) (w):attributeBase o n env w=w:=by
 cases o with
 | Call f a b p=>
  cases a with
  | nil=>exact absurd (h) Ac2
  | cons x a=>cases f<;>rfl
 | _=>rfl
theorem uu (t): ∀ {ts}{n},M.Kj t ts=k0 n->kL (aF t) (ts.map aF)=k0 n
 | [],_,e=>by cases e
 | y::ys,n,e=>by
  unfold M.Kj at e
  rw [Ab2,kL]
  split at e
  .rename_i q
   cases e
   rw [if_pos (by rw [q])]
  .rename_i q
   obtain⟨k,e1,rfl⟩:=Ag5.mp e
   rw [if_neg (λc=>q (by
    have:=congrArg (λs:Str=>s.cps.toList) c
    simpa [aF]using this)),uu t e1]
   rfl
theorem sI {a:Value->Bool}(b: ∀c y,RV hp c y->a y=M.cy c d): ∀ {ys}{L}{j},cj hp ys L->M.Ks d ys=k0 j-> ∃y,L[j]? =k0 y/\a y=u0/\ ∀m z,m<j->L[m]? =k0 z->a z=k9
 | [],_,_,rfl,h=>by cases h
 | c::ys,_,j,⟨u,r,rfl,f,l⟩,h=>by
  rw [M.Ks]at h
  by_cases q:M.cy c d=u0
  .rw [if_pos q]at h
   cases h
   exact⟨u,rfl,by rw [b c u f];exact q,λm z k=>absurd k (Ag7 m)⟩
  .rw [if_neg q]at h
   obtain⟨i,e,rfl⟩:=Ag5.mp h
   obtain⟨y,n,p,o⟩:=sI b l e
   refine⟨y,n,p,λm z k g=> ?_⟩
   cases m with
   | zero=>cases g;rw [b c u f];simpa using q
   | succ m=>exact o m z (by lia) g
def DK (Y:Ge):V->List V->Hp->VK->Prop:=λx c H Q=> ∃G h a b y j,c= [y]/\ai Y G h H/\ak Y G H a x/\ak Y G H b y/\M.Ky b a h=k0 j/\Q (.int (j:Nat)) H
def BD (l:X.K=Y.K)(i:bc k X.A):iG X "list.index" (DK Y):=by
 intro t s U H x Z v W Q I R rv ⟨G,h,w1,w2,y,j,O,p,K,D,e,q⟩
 subst O
 obtain⟨u,rfl,J⟩:=rv.one
 unfold M.Ky at e
 split at e
 .rename_i ys e2
  split at e
  .rename_i c
   have r:=by simpa using c
   have B:=K.rv I l p R (by simp_all)
   rw [e2]at B
   obtain⟨a,g,rfl,E,d⟩:=B
   obtain⟨C,L,F⟩:=oa i r.1.2 (D.rv I l p J r.1.1.1) d
   obtain⟨z,P,h2,T⟩:=sI L d e
   obtain⟨⟨N,dd,w,sl⟩,A,S,k,V⟩:=id E
   subst S V
   have n:=d.length
   obtain⟨hj,h4⟩:=Aa0.mp P
   have hL:=M.Gg
   refine call_meets PySem.F.slot_list_index ⟨_,A,rfl⟩ PySem.F.entry_list_index (PySem.F.args_list_index_2 _ _) (PySem.SeqAt.list_indexAt a g.toArray k dd sl u C j (by simp_all) (by lia) (by simp_all) (λm hm f=> ?_)) ⟨A,F,?_⟩
   .exact T m _ f (by simp)
   .exact⟨.int j,H,I.kept λb o e=>e,⟨_,rfl⟩,q⟩
  .cases e
 .cases e
def Hg (l:Go Y F X E k cf)(hm:sh m=u0) (J:(apos.endLine==cpos.line)=u0) (W:xU o=u0) (q:wb x=u0) (S:PE X o (tD Y E (M.eval F a))) (hw:PA X [x] (fM Y E (M.Gf F es))):
 PE X (.Call (.Attribute o (Xg (r3 m)) apos) [x] [] cpos) (tD Y E (M.eval F (.dG m a es))):=by
 cases m with
 | index=>
  refine PE.imp (mn PySem.F.plainAttrs_tuple PySem.F.slot_tuple_index PySem.F.type_tuple_index C5 Dv S hw (bB W _) (by rw [jb q];rfl) J (jb q) rfl) λU H Q C=> ?_
  obtain⟨G,τ,h,s,p⟩:=C
  refine Wa s.heap Ext.refl s p λZ v1 h1 G1 H1 e1 B f j f1 e=> ?_
  split at e
  .rename_i D
   obtain⟨xs,ex⟩:=Ah9.mp (D)
   obtain⟨b,A,rfl,r,N⟩:=j.tup ex
   refine⟨⟨b,rfl,l.K▸r.pl⟩,Xs s.heap e1 f e λI us h2 O H2 e2 d g y c=> ?_⟩
   obtain⟨b',K,L,V,P⟩:=ak.ext (w:= .v (.tup xs)) d f.heap ⟨b,A,rfl,r,N⟩
   cases L
   cases I with
   | nil=>exact c.elim
   | cons w wr=>
    cases wr with
    | cons _ _=>exact c.elim
    | nil=>
     obtain⟨u,rfl,z⟩:=y.one
     have c:=c
     obtain⟨ts,v,c⟩:=c.of
     obtain⟨t,T,c⟩:=c.of
     obtain⟨n,R,c⟩:=c.of
     cases z.str T
     rw [ex,Ag2]at v
     cases jV v P
     split at c
     .exact⟨b,aF t,n,ts.map aF,rfl,rfl,l.K▸e8.sq V,uu t R,(av.mk c e2 s.heap).v g.heap rfl⟩
     .exact c.elim
  .exact e.elim
 | b5=>
  refine PE.imp (mn PySem.F.plainAttrs_list PySem.F.slot_list_index PySem.F.type_list_index vZ (BD l.K l.room) S hw (bB W _) (by rw [jb q];rfl) J (jb q) rfl) λU H Q C=> ?_
  obtain⟨G,τ,h,s,p⟩:=C
  refine Wa s.heap Ext.refl s p λZ v1 h1 G1 H1 e1 B f j f1 e=> ?_
  split at e
  .rename_i D
   obtain⟨ys,ey⟩:=Ah9.mp (D)
   obtain⟨b,A,rfl,r,N⟩:=ak.lst f.heap j ey
   refine⟨⟨b,A,rfl,l.K▸r⟩,Xs s.heap e1 f e λI us h2 O H2 e2 d g y c=> ?_⟩
   cases I with
   | nil=>exact c.elim
   | cons w wr=>
    cases wr with
    | cons _ _=>exact c.elim
    | nil=>
     obtain⟨u,rfl,z⟩:=y.one
     have c:=c
     obtain⟨n,v,c⟩:=c.of
     exact⟨O,h2,Z,w,u,n,rfl,g.heap,j.ext d f.heap,z,v,(av.mk c e2 s.heap).v g.heap rfl⟩
  .exact e.elim
 | count=>
  refine PE.imp (mn PySem.F.plainAttrs_list PySem.F.slot_list_count PySem.F.type_list_count vZ Fh S hw (bB W _) (by rw [jb q];rfl) J (jb q) rfl) λU H Q C=> ?_
  obtain⟨G,τ,h,s,p⟩:=C
  refine Wa s.heap Ext.refl s p λZ v1 h1 G1 H1 e1 B f j f1 e=> ?_
  split at e
  .rename_i D
   obtain⟨ys,ey⟩:=Ah9.mp (D)
   obtain⟨b,A,rfl,r,N⟩:=ak.lst f.heap j ey
   refine⟨⟨b,A,rfl,l.K▸r⟩,Xs s.heap e1 f e λI us h2 O H2 e2 d g y c=> ?_⟩
   cases I with
   | nil=>exact c.elim
   | cons w wr=>
    cases wr with
    | cons _ _=>exact c.elim
    | nil=>
     obtain⟨u,rfl,z⟩:=y.one
     have c:=c
     obtain⟨is,v,c⟩:=c.of
     obtain⟨i,T,c⟩:=c.of
     obtain⟨ys2,R,q4⟩:=Ag8.mp v
     obtain⟨b',K,L,y2,y3⟩:=ak.lst g.heap (j.ext d f.heap) R
     cases L
     cases zM q4 y3
     cases z.int T
     split at c
     .exact⟨b,i,is,rfl,rfl,l.K▸y2,(av.mk c e2 s.heap).v g.heap rfl⟩
     .exact c.elim
  .exact e.elim
def KJ: "range" ∈cn:=by decide
def HH: "list" ∈cn:=by decide
def KZ (b:Go Y F X E k cf)(B:b3 cf.sc "list" g=true) (e:b3 cf.sc "range" g2=true) (j:wb x=true) (v:PE X x (tD Y E (M.eval F a))):PE X (.Call g [.Call g2 [x] [] pos2] [] pos) (tD Y E (M.eval F (.b4 a))):=by
 obtain⟨p,rfl,C,L⟩:=Zc B
 obtain⟨N,rfl,f,o⟩:=Zc e
 refine PE.imp (DL b.calm (b.gl _ C) (b.blt _ HH) (b.gl _ f) (b.blt _ KJ) (Xf v jn (jb j)) (jb j)) λU H Q D=> ?_
 obtain⟨G,J,h,s,p⟩:=D
 refine Wa s.heap Ext.refl s p λO v1 K y t e1 u A r I d=> ?_
 obtain⟨n,z,d⟩:=d.of
 cases r.int z
 split at d
 .rename_i c
  refine⟨n.toNat,by rw [Int.toNat_of_nonneg c.1],by lia,λl q=> ?_⟩
  have m:ab Y y t ((Aa3 n.toNat).map λ(i:Nat)=>M.D.int i) ((Aa3 n.toNat).map λ(i:Nat)=>V.int i):=by
   induction Aa3 n.toNat with
   | nil=>rfl
   | cons i is w=>exact⟨_,_,rfl,rfl,w⟩
  exact av.own (av.mk d e1 s.heap) A.heap m l q
 .exact d.elim
def MT (q:Go Y F X E k cf){s:M.Tx}{d:List M.Tx}{l g:Nat}{o m c b:Pos}(f:(c.endLine==b.line)=u0) (i:mY (aF s) (d.map aF)=u0):
 PE X (.Call (.Attribute (.Constant (.str (aF s)) l o) (Xg "split") c) [.Constant (.str bS) g m] [] b) (tD Y E (M.eval F (.dN s d))):=by
 refine PE.imp (mn PySem.F.plainAttrs_str PySem.F.slot_str_split PySem.F.type_str_split D0 Nd oB (Xf oB jn rfl) rfl rfl f rfl rfl) λU H Q n=> ?_
 obtain⟨G,r,h,e,p⟩:=n
 rw [M.eval]at p
 exact⟨⟨_,rfl⟩,aF s,d.map aF,rfl,rfl,i,λa j=>av.own (av.mk p Ext.refl e.heap) e.heap (ZU _) a j⟩
def Cz (d:Go Y F X E k cf)(e:t≠ .au) (D:b3 cf.sc "isinstance" g=true) (w:b3 cf.sc (cY t) y=true) (j:wb x=true) (u:PE X x (tD Y E (M.eval F a))):PE X (.Call g [x,y] [] pos) (tD Y E (M.eval F (.bZ a t))):=by
 obtain⟨p,rfl,I,B⟩:=Zc D
 obtain⟨q,rfl,o,J⟩:=Zc w
 have dt:cY t∈cn:=by cases t<;>first | exact absurd rfl e | decide
 have bt:bootBuiltins (Xg (cY t))=k0 (.type (cY t)):=by cases t<;>first | exact absurd rfl e | decide +kernel
 have bi:bootBuiltins _=k0 _:=boot_isinstance
 have b: "isinstance" ∈cn:=by decide
 have f:PE X (.Name (Xg (cY t)) q) (tC (.ty (cY t))):=vM (d.gl _ o) (d.blt _ dt) bt rfl (jq dt) J
 refine PE.imp (Jn (B5 d.K) (d.gl _ I) (d.blt _ b) bi (Xf u (Xf f jn) (jb j)) (jq b) B (jb j) rfl) λU H Q K=> ?_
 obtain⟨G,O,h,s,p⟩:=K
 rw [M.eval]at p
 refine Wa s.heap Ext.refl s p λC v1 z A L e1 r l n N i=> ?_
 obtain⟨c,m,i⟩:=i.of
 exact⟨A,z,C,v1,t,c,rfl,e,l.heap,n,m,ay.val i e1 l.heap (v:= .bl c) rfl trivial⟩
def Np (xs:List α) (i):M.aP xs i=L2.aP xs i:=rfl
theorem ab.aP (z:ab Y G H ds vs) (e:M.aP ds i=k0 d): ∃v,L2.aP vs i=k0 v/\aC Y G H d v:=by
 unfold M.aP at e
 unfold L2.aP
 rw [z.length]at e
 cases q:M.dw vs.length i with
 | none=>rw [q]at e;cases e
 | some j=>
  rw [q]at e
  obtain⟨v,b,c⟩:=z.get (e)
  refine⟨v,?_,c⟩
  have a:L2.dw vs.length i=k0 j:=q
  rw [a]
  exact b
def qV (a:jd y=u0):tR y:=by
 intro o i
 cases y<;>first | rfl | (simp [jd]at a)
def B0 (t:Go Y F X E k cf) (K:jd y=u0) (J:PE X x (tD Y E (M.eval F a))) (D:PE X y (tD Y E (M.eval F b))):PE X (.Subscript x y pos) (tD Y E (M.eval F (.ix a b))):=by
 refine PE.imp (nW CD J D (qV K)) λU H Q P=> ?_
 obtain⟨G,τ,h,s,p⟩:=P
 refine Wa s.heap Ext.refl s p λL v1 h1 G1 H1 e1 C w g f1 R=> Wa s.heap e1 w R λw2 v2 N W V e2 o n z T m=> ?_
 obtain⟨d,q,m⟩:=m.of
 have g:=g.ext o w.heap
 unfold M.c9 at q
 split at q
 .rename_i i B
  cases z.int B
  split at q
  .rename_i j I
   cases g.str I
   split at q
   .rename_i S
    cases c:M.aP j i with
    | none=>rw [c]at q;cases q
    | some O=>
     rw [c]at q
     cases q
     refine .inr (.inr ⟨aF j,i,O,rfl,rfl,by rw [ze];have:=jj;lia,?_,ay.val m e2 n.heap rfl trivial⟩)
     have:(aF j).cps.toList=j:=by simp [aF]
     exact c
   .cases q
  .cases c:L.seq? N with
   | none=>rw [c]at q;cases q
   | some Z=>
    rw [c]at q
    obtain⟨l,r,rfl,f,A⟩:=g.seq n.heap c
    obtain⟨v,e,rd⟩:=A.aP (q)
    have u:=ay.val m e2 n.heap rd trivial
    obtain f | f:=f
    .exact .inl ⟨l,r,i,v,rfl,rfl,t.K▸f,e,u⟩
    .exact .inr (.inl ⟨l,r,i,v,rfl,rfl,t.K▸f,e,u⟩)
 .cases q
end
section
variable {Y:Ge}{F:M.Fx}{X:Cx}{E:XK}{k:Nat}{cf:Cf}{a b c:M.E}{x y z:Expr}{pos p2:Pos}
def nt (xs:List α) (lo hi):M.cut xs lo hi=(xs.drop (HT.aY xs.length 0 lo)).take (HT.aY xs.length xs.length hi-HT.aY xs.length 0 lo):=by
 unfold M.cut
 have e: ∀d o,M.aY xs.length d o=HT.aY xs.length d o:=λd o=>by cases o<;>rfl
 rw [e,e]
theorem ab.cut (z:ab Y G H ds vs) (lo hi):ab Y G H (M.cut ds lo hi) (kO vs lo hi):=by
 rw [nt]
 rw [z.length]
 exact(z.drop _).take _
def nF {d b:Option Int}(k:ai Y G0 h0 H0) (e:Ext G0 H0 G H) (i:ai Y G h H) (r:ak Y G H w v)
 (p:ay Y E G0 H0 (M.fq w d b h) λw _ G' H'=> ∀v,ak Y G' H' w v->aK τ U H0 w v->Q v H'):((nS Y.K v d b H Q\/nj Y.K v d b H Q)\/n7 Y.K v d b H Q)\/oW v d b H Q:=by
 unfold M.fq at p
 split at p
 .rename_i z q
  cases r.str q
  split at p
  .rename_i c
   have o:=jj
   refine .inr ⟨_,rfl,by rw [ze];lia,?_⟩
   have e1:kn (aF z) d b=aF (M.cut z d b):=by
    unfold kn
    rw [ze,nt]
    simp [aF]
   exact av.v (av.mk p e k) i rfl
  .exact p.elim
 .split at p
  .rename_i m q
   obtain⟨l,f,rfl,j,g⟩:=r.tup q
   by_cases c:HT.aY f.length 0 d=0/\HT.aY f.length f.length b=f.length
   .have e2:M.cut m d b=m:=by
     rw [nt,g.length,c.1,c.2,List.drop_zero,Nat.sub_zero,←g.length,Ap5]
    rw [e2]at p
    exact .inl (.inr ⟨l,f,rfl,j.sq,c.1,c.2,p G H e i _ ⟨l,f,rfl,j,g⟩ trivial⟩)
   .exact .inl (.inl (.inr ⟨l,f,rfl,j.sq,c,λa n=>av.tup (av.mk p e k) i (g.cut d b) a n⟩))
  .split at p
   .rename_i m q
    obtain⟨l,f,rfl,j,g⟩:=r.lst i q
    exact .inl <| .inl <| .inl ⟨l,f,rfl,j,λa n=>av.own (av.mk p e k) i (g.cut d b) a n⟩
   .exact p.elim
def DJ (K:Aa9):V->Option Int->Option Int->Hp->VK->Prop:=λx lo hi H Q=>((nS K x lo hi H Q\/nj K x lo hi H Q)\/n7 K x lo hi H Q)\/oW x lo hi H Q
def oG:gs X (DJ X.K):=((gG.or MZ).or Fl).or nz
def EA (y:Go Y F X E k cf){g f:M.E}(A:PE X x (tD Y E (M.eval F a))) (q:PE X l (tD Y E (M.eval F g))) (C:PE X u (tD Y E (M.eval F f))):PE X (.Subscript x (.Slice (k0 l) (k0 u) y0 p2) pos) (tD Y E (M.eval F (.sl a g f))):=by
 refine PE.imp (zR oG A (wR q) (wR C)) λU H Q D=> ?_
 obtain⟨G,P,h,s,p⟩:=D
 refine Wa s.heap Ext.refl s p λw1 v1 T V N e1 z m r O I=> Wa s.heap e1 m I λW v2 h2 L K e2 d e n J p2=> ?_
 obtain⟨i,w,p2⟩:=p2.of
 refine⟨i,n.int w,Wa s.heap e2 e p2 λZ v3 h3 S H3 o c v t R b=> ?_⟩
 obtain⟨j,B,b⟩:=b.of
 exact⟨j,t.int B,y.K▸nF s.heap o v.heap ((r.ext d m.heap).ext c e.heap) b⟩
def Eu (n:Go Y F X E k cf){c:M.E}(q:PE X x (tD Y E (M.eval F a))) (g:PE X l (tD Y E (M.eval F c))):PE X (.Subscript x (.Slice (k0 l) y0 y0 p2) pos) (tD Y E (M.eval F (.fW a c))):=by
 refine PE.imp (zR oG q (wR g) p6) λU H Q r=> ?_
 obtain⟨G,A,h,s,p⟩:=r
 refine Wa s.heap Ext.refl s p λI v1 B C y e1 o d j z t=> Wa s.heap e1 d t λD v2 J w v e2 b e f u p2=> ?_
 obtain⟨i,m,p2⟩:=p2.of
 exact⟨i,f.int m,n.K▸nF s.heap e2 e.heap (j.ext b d.heap) p2⟩
def E9 (j:Go Y F X E k cf)(m:PE X x (tD Y E (M.eval F a))) (n:PE X u (tD Y E (M.eval F hi))):PE X (.Subscript x (.Slice y0 (k0 u) y0 p2) pos) (tD Y E (M.eval F (.fc a hi))):=by
 refine PE.imp (zR oG m p6 (wR n)) λU H Q o=> ?_
 obtain⟨G,z,h,s,p⟩:=o
 refine Wa s.heap Ext.refl s p λD v1 A B w e1 l c f y q=> Wa s.heap e1 c q λC v2 I v t e2 b d e r p2=> ?_
 obtain⟨i,g,p2⟩:=p2.of
 exact⟨i,e.int g,j.K▸nF s.heap e2 d.heap (f.ext b c.heap) p2⟩
def B3 {st:Expr}(h:mu st=u0): ∃k p q,st= .UnaryOp .USub (.Constant (.int 1) k p) q:=by
 unfold mu at h
 split at h
 .exact⟨_,_,_,rfl⟩
 .cases h
def AU (i:Go Y F X E k cf){st:Expr}(c:mu st=u0) (o:PE X x (tD Y E (M.eval F a))):PE X (.Subscript x (.Slice y0 y0 (k0 st) p2) pos) (tD Y E (M.eval F (.fg a))):=by
 obtain⟨I,B,C,rfl⟩:=B3 c
 refine PE.imp (LL o (oy yz yC)) λU H Q t=> ?_
 obtain⟨G,y,h,s,p⟩:=t
 refine Wa s.heap Ext.refl s p λD v1 z A v e1 m r e w d=> ?_
 obtain⟨u,q,d⟩:=d.of
 obtain⟨l,f,rfl,n,g⟩:=e.tup q
 exact⟨1,rfl,rfl,l,f,rfl,i.K▸n.sq,λj b=>av.tup (av.mk d e1 s.heap) r.heap g.reverse j b⟩
def Gh.cell (G:Gh) (a:Addr):Gh:= { G with aS:=λr=>if r=G.n then a else G.aS r,n:=G.n+1 }
def rl (a):Mon G H (G.cell a) H:=⟨λ_ _ _ z=>z,Ag4 _,λr b=>by show(if r=G.n then a else G.aS r)=_;rw [if_neg (by lia)],λ_ z=>z⟩
def QH {a:Addr}{c:M.Cell}(d:ai Y G h H) (n: ¬G.fz a) (m:dM G a) (z:bC Y G H a c):ai Y (G.cell a) (h++ [c]) H where
 len:=by rw [Aa6,d.len];rfl
 any:=λr g q=>by
  show ¬G.fz (if r=G.n then a else G.aS r)/\bC Y (G.cell a) H (if r=G.n then a else G.aS r) g
  by_cases j:r=G.n
  .rw [if_pos j]
   rw [j,←d.len,Ad9 (Aa7 _),Am3]at q
   cases q
   exact⟨n,z.mon (rl a) λ_ e=>e⟩
  .rw [if_neg j]
   have i:r<G.n:=by
    have:=(Aa0.mp q).1
    rw [Aa6,d.len]at this
    simp at this
    lia
   rw [Ac9 (by rw [d.len];exact i)]at q
   exact⟨(d.any r g q).1,(d.any r g q).2.mon (rl a) λ_ e=>e⟩
 inj:=λr s k l e=>by
  have k:r<G.n+1:=k
  have l:s<G.n+1:=l
  have e:(if r=G.n then a else G.aS r)=(if s=G.n then a else G.aS s):=e
  by_cases f:r=G.n
  .by_cases b:s=G.n
   .lia
   .rw [if_pos f,if_neg b]at e
    exact absurd e.symm (m s (by lia))
  .by_cases b:s=G.n
   .rw [if_neg f,if_pos b]at e
    exact absurd e (m r (by lia))
   .rw [if_neg f,if_neg b]at e
    exact d.inj r s (by lia) (by lia) e
 live:=d.live
def Q0 {a:Addr}(b:ai Y G h H) (d: ¬G.fz a) (c:dM G a) (e:H a=k0 (.lst vs)) (z:ab Y G H xs vs) (f:M.Gc xs=u0):ai Y (G.cell a) (h++ [.lst xs]) H:=QH b d c ⟨f,vs,e,z⟩
def BC {a:Addr}(b:ai Y G h H) (d: ¬G.fz a) (c:dM G a)(e:H a=k0 (.ins (Y.ca c0) dx0 [])):ai Y (G.cell a) (h++ [.obj c0 []]) H:=QH b d c ⟨dx0,[],e,rfl⟩
def zA {a:Addr}(e:Ext G0 H0 G H) (d:H0 a=y0):Ext G0 H0 (G.cell a) H where
 keep:=e.keep
 le:=Ab5 e.le (Ag4 _)
 aS:=λr f=>by show(if r=G.n then a else G.aS r)=_;rw [if_neg (by have:=e.le;lia)];exact e.aS r f
 new:=λr g b=>by
  have b:r<G.n+1:=b
  show H0 (if r=G.n then a else G.aS r)=y0
  by_cases c:r=G.n
  .rw [if_pos c];exact d
  .rw [if_neg c];exact e.new r g (by lia)
 fz:=e.fz
 old:=e.old
 cells:=e.cells
def Ho:PE X (.Dict [] [] pos) (tD Y E (M.eval F .c7)):=by
 refine PE.imp ES λU H Q c=> ?_
 obtain⟨G,d,h,s,p⟩:=c
 intro a b
 have e1:Ext G H G (aQ H a (dS [])):=qt _ b
 refine ay.val p (zA e1 b) (QH (s.heap.new (dS []) b) (λz=>by obtain⟨o,q⟩:=s.heap.live a z;rw [b]at q;cases q) (s.heap.gb b) ⟨rfl,[],wc,rfl⟩) ?_ trivial
 show h.length<G.n+1/\V.ref a= .ref (if h.length=G.n then a else G.aS h.length)
 rw [s.heap.len,if_pos rfl]
 exact⟨Ag _,rfl⟩
abbrev dA (b:List (M.Tx×M.D)) (a:List V):List (Str×V):=(b.map λp=>aF p.1).zip a
def zS (e:M.GV h o=k0 (r,ks)):o=k0 (.v (.ref r))/\h[r]? =k0 (.aN ks):=by
 unfold M.GV at e
 split at e
 .split at e
  .rename_i q
   cases e
   exact⟨rfl,q⟩
  .cases e
 .cases e
def zq (s:aq Y G τ h U H)(e:M.GV h (M.Gn τ i)=k0 (r,ks)):U[i]? =k0 (k0 (.ref (G.aS r)))/\M.Gc (ks.map (·.2))=u0/\ ∃j,H (G.aS r)=k0 (dS (dA ks j))/\ab Y G H (ks.map (·.2)) j:=by
 obtain⟨e1,e2⟩:=zS e
 obtain⟨v,a,b⟩:=s.slot i _ e1
 obtain⟨d,c⟩:=(b)
 subst c
 exact⟨a,(s.heap.any r _ e2).2⟩
def pR (a b):(aF a==aF b)=(a==b):=by
 cases q:a==b with
 | true=>rw [eq_of_beq q];exact beq_self_eq_true _
 | false=>exact beq_eq_false_iff_ne.mpr λz=>(beq_eq_false_iff_ne.mp q) (ZD z)
section
variable {G:Gh}{H:Hp}
theorem p8 {k:M.Tx}: ∀ {ks}{i},ab Y G H (ks.map (·.2)) i->ks.lookup k=k0 d-> ∃v,(dA ks i).lookup (aF k)=k0 v/\aC Y G H d v
 | [],_,_,e=>by cases e
 | (g,x)::fs,_,⟨v,r,rfl,a,b⟩,e=>by
  rw [Ab7]at e
  show ∃w,((aF g,v)::dA fs r).lookup (aF k)=k0 w/\_
  rw [Ab7,pR]
  cases q:k==g with
  | true=>rw [q]at e;cases e;exact⟨v,rfl,a⟩
  | false=>rw [q]at e;exact p8 b e
theorem pb {k:M.Tx}: ∀ {ks}{i},ab Y G H (ks.map (·.2)) i->((dA ks i).lookup (aF k)).isSome=(ks.lookup k).isSome
 | [],_,_=>rfl
 | (g,x)::fs,_,⟨v,r,rfl,b,a⟩=>by
  show(((aF g,v)::dA fs r).lookup (aF k)).isSome=_
  rw [Ab7,Ab7,pR]
  cases q:k==g with
  | true=>rfl
  | false=>exact pb a
theorem ya {k:M.Tx}: ∀ {ks}{i},ab Y G H (ks.map (·.2)) i->((dA ks i).any λp=>u9 (p.1=aF k))=ks.any λp=>u9 (p.1=k)
 | [],_,_=>rfl
 | (g,x)::fs,_,⟨v,r,rfl,b,a⟩=>by
  show(u9 (aF g=aF k)||(dA fs r).any λp=>u9 (p.1=aF k))=(u9 (g=k)||fs.any λp=>u9 (p.1=k))
  rw [ya a]
  congr 1
  exact decide_eq_decide.mpr ⟨ZD,congrArg aF⟩
theorem tY {k:M.Tx}(rv:aC Y G H d v): ∀ {ks}{j},ab Y G H (ks.map (·.2)) j-> ∃i,ab Y G H ((ks.map λp=>if p.1=k then(p.1,d)else p).map (·.2)) i/\((dA ks j).map λp=>if p.1=aF k then(p.1,v)else p)=dA (ks.map λp=>if p.1=k then(p.1,d)else p) i
 | [],_,rfl=>⟨[],rfl,rfl⟩
 | (g,x)::fs,_,⟨u,r,rfl,e,f⟩=>by
  obtain⟨i,a,b⟩:=tY rv f
  by_cases q:g=k
  .refine⟨v::i,?_,?_⟩
   .simp only [Ab2,q,if_true]
    exact⟨v,i,rfl,rv,a⟩
   .show(if aF g=aF k then(aF g,v)else(aF g,u))::(dA fs r).map _=dA ((if g=k then(g,d)else(g,x))::fs.map _) (v::i)
    rw [b,if_pos (congrArg aF q),if_pos q]
    rfl
  .have c:=λz=>q (ZD z)
   refine⟨u::i,?_,?_⟩
   .simp only [Ab2,q,if_false]
    exact⟨u,i,rfl,e,a⟩
   .show(if aF g=aF k then(aF g,v)else(aF g,u))::(dA fs r).map _=dA ((if g=k then(g,d)else(g,x))::fs.map _) (u::i)
    rw [b,if_neg c,if_neg q]
    rfl
theorem wT {k:M.Tx}(rv:aC Y G H d v): ∀ {ks}{i},ab Y G H (ks.map (·.2)) i->ab Y G H ((ks++ [(k,d)]).map (·.2)) (i++ [v])/\dA ks i++ [(aF k,v)]=dA (ks++ [(k,d)]) (i++ [v])
 | [],_,rfl=>⟨⟨v,[],rfl,rv,rfl⟩,rfl⟩
 | (g,x)::fs,_,⟨u,r,rfl,b,a⟩=>⟨⟨u,_,rfl,b,(wT rv a).1⟩,congrArg ((aF g,u):: ·) (wT rv a).2⟩
def FU {k:M.Tx}(rv:aC Y G H d v)(z:ab Y G H (ks.map (·.2)) us): ∃i,ab Y G H ((M.GE ks k d).map (·.2)) i/\g7 (dA ks us) (aF k) v=dA (M.GE ks k d) i:=by
 unfold M.GE g7
 rw [ya z]
 by_cases c:(ks.any λp=>u9 (p.1=k))=u0
 .rw [if_pos c,if_pos c];exact tY rv z
 .rw [if_neg c,if_neg c];exact⟨_,wT rv z⟩
end
theorem xP: ∀ {ds},M.Gc ds=u0↔ ∀d∈ds,M.Gd d=u0
 | []=>⟨λ_ _ h=>absurd h Ai4,λ_=>rfl⟩
 | d::ds=>by
  rw [Aa1,xP,List.forall_mem_cons]
def DE {k:M.Tx}(b:M.Gd d=u0)(z:M.Gc (ks.map (·.2))=u0):M.Gc ((M.GE ks k d).map (·.2))=true:=by
 rw [xP]at z ⊢
 unfold M.GE
 split
 .intro y a
  rw [Ad1,Ab6]at a
  obtain⟨p,c,rfl⟩:=a
  dsimp only [Function.comp]
  split
  .exact b
  .exact z _ (List.mem_map_of_mem c)
 .intro y a
  rw [Ae0,Ac8]at a
  obtain a | a:=a
  .exact z y a
  .cases Ac3.mp a;exact b
def AD (z:ab Y G H (ks.map (·.2)) us):(dA ks us).length=ks.length:=by
 have:=z.length
 rw [Aa]at this
 rw [Al8,Aa];lia
def Bt:R2:=λx y H Q=> ∃k a kvs v,y= .str k/\x= .ref a/\H a=k0 (dS kvs)/\kvs.lookup k=k0 v/\Q v H
def vj:gi X Bt:=by
 intro b c e o U H x y v u Q I l m ⟨k,a,i,d,n,ex,f,g,q⟩ j
 subst ex n
 cases l
 obtain⟨_,_,_,_,dd⟩:=J7 I f
 exact tail_any dd.mapOf.typeIs slot_dict_getitem.lookup (EU I f m g λp s h r=>⟨_,H,h,r,q⟩) j
def Il (neg:Bool):R2:=λx y H Q=> ∃k a kvs,x= .str k/\y= .ref a/\H a=k0 (dS kvs)/\Q (.bl (if neg then !(kvs.lookup k).isSome else(kvs.lookup k).isSome)) H
def yE (neg):b0 X (compareOp (lV neg)) (Il neg):=by
 intro c i U H x y v u Q I d g ⟨k,a,j,ex,h,e,q⟩
 subst ex h
 cases g
 cases neg with
 | false=>exact Ck I e d λf b=>⟨.bl _,H,b,rfl,q⟩
 | true=>exact Lv I e d λf b=>⟨.bl _,H,b,rfl,q⟩
def Ln:V->V->V->Hp->(Hp->Prop)->Prop:=λo i v H Q=> ∃k a kvs,i= .str k/\o= .ref a/\H a=k0 (dS kvs)/\kvs.length<sizeLine/\Q (aQ H a (dS (g7 kvs k v)))
def L6:om X Ln:=by
 intro b l U H o i v p m u Q I j g rv ⟨k,a,r,e,f,h,c,q⟩
 subst e f
 cases j
 exact C3 I h g rv c λn d=>⟨_,d,q⟩
def Mw:List V->Hp->VK->Prop:=λb H Q=> ∃a kvs,b= [.ref a]/\H a=k0 (dS kvs)/\ ∀p,H p=y0->Q (.ref p) (aQ H p (dS kvs))
def Bp:Wr X (.type "dict") Mw:=by
 intro b k U H l j Q I rv ⟨a,f,h,i,q⟩
 subst h
 cases rv with
 | cons d c=>
  cases c
  cases d
  exact BV I i λp m g e=>⟨.ref p,_,e,rfl,q p g⟩
def M6 (w:PE X x (tD Y E (M.eval F a))):PE X x (tD Y E (M.eval F (.share a))):=by
 refine PE.imp w λU H Q z=> ?_
 obtain⟨G,D,h,s,p⟩:=z
 refine Wa s.heap Ext.refl s p λy v1 e g C e1 t i m r b=> ?_
 cases y with
 | own c=>
  obtain⟨l,B,rfl,u,o,n,q⟩:=m
  obtain⟨A,k,j⟩:=r
  cases k
  have b:ay Y E G H (if M.Gc c=u0 then M.ag _ (e++ [.lst c])else .fail) _:=b
  by_cases f:M.Gc c=u0
  rotate_left
  .rw [if_neg f]at b;exact b.elim
  rw [if_pos f]at b
  refine ay.val b (zA e1 j) (Q0 i.heap u o n q f) ?_ trivial
  show e.length<g.n+1/\V.ref l= .ref (if e.length=g.n then l else g.aS e.length)
  rw [i.heap.len,if_pos rfl]
  exact⟨Ag _,rfl⟩
 | v d=>exact b.elim
 | bor c=>exact b.elim
end
structure QJ (Y:Ge) (J:It) (ds:List M.D) (C:Gh->Hp->Prop):Prop where
 go: ∀i G H,C G H->i<ds.length->J.go i H
 fj: ∀i G H x H',C G H->i<ds.length->J.fj i H x H'-> ∃G',Ext G H G' H'/\(∀ h,ai Y G h H->ai Y G' h H')/\ ∃d,ds[i]? =k0 d/\aC Y G' H' d x
 stop: ∀i G H,C G H->ds.length<=i->i<=ds.length->J.stop i H
 keep: ∀G H G' H' h,C G H->Ext G H G' H'->ai Y G h H->C G' H'
noncomputable def xq (τ:M.Sl) (U:St) (H:Hp):Hp:=λa=>open Classical in if ∃(i:Nat) (xs:List M.D),M.Gn τ i=k0 (.own xs)/\U[i]? =k0 (k0 (.ref a))then y0 else H a
def gr (Y:Ge) (E:XK) (a:Bool) (m:M.Sl->M.AH->M.R (List M.D)):TI:=λU H R=> ∃G τ h,aq Y G τ h U H/\ay Y E G H (m τ h) λds _ G' H'=> ∀J C,QJ Y J ds C->C G' H'->(a=u0->C G' (xq τ U H'))->R J H'
def PI.imp (h:PI X tg e t) (k: ∀U H R,t' U H R->t U H R):PI X tg e t':=λa s U H R I q=>h a s U H R I (k _ _ _ q)
section
variable {Y:Ge}{F:M.Fx}{X:Cx}{E:XK}{k:Nat}{cf:Cf}{a b c:M.E}{x y z tg:Expr}{pos p2:Pos}{lp:Bool}
def lj (Y:Ge) (G:Gh) (H:Hp) (l:Addr) (vs:List V):Prop:=(Rd H l (.lst vs)/\dM G l)\/uL Y l vs
def CL (Y:Ge) (ds:List M.D) (l:Addr) (vs:List V) (G:Gh) (H:Hp):Prop:=lj Y G H l vs/\ab Y G H ds vs
def lj.sq (z:lj Y G H l vs):bq Y.K H l vs:=z.elim (λz=> .inl z.1) .inr
def iO.nE (z:iO Y G H l vs) (a:ai Y G h H):lj Y G H l vs:=z.elim (λz=> .inl ⟨z.2,a.off z.1⟩) .inr
def CL.keep (z:CL Y ds l vs G H) (e:Ext G H G' H') (c:ai Y G h H):CL Y ds l vs G' H':=by
 obtain⟨a,d⟩:=z
 refine⟨?_,d.ext e c⟩
 obtain⟨a,b⟩ | a:=a
 .refine .inl ⟨e.rd a b,?_⟩
  obtain a | ⟨o,a⟩:=a
  .exact e.off a b
  .exact e.off a b
 .exact .inr a
def CL.walk {K:Aa9}(d:K=Y.K):QJ Y (lD K l) ds (CL Y ds l vs) where
 go:=by
  rintro i G H ⟨c,b⟩ a
  obtain⟨v,e,_⟩:=b.get (Aa4 a)
  exact⟨vs,v,d▸c.sq,e⟩
 fj:=by
  rintro i G H x f ⟨c,b⟩ a ⟨e,y⟩
  subst e
  obtain⟨v,e,rd⟩:=b.get (Aa4 a)
  have:=y vs (d▸c.sq)
  rw [e]at this
  cases this
  exact⟨G,Ext.refl,λ_ q=>q,_,Aa4 a,rd⟩
 stop:=λi G H ⟨c,b⟩ a _=>⟨vs,d▸c.sq,by rw [← b.length];exact a⟩
 keep:=λG H j f h z e g=>z.keep e g
def CT (Y:Ge) (ds:List M.D) (l:Addr) (vs:List V) (G:Gh) (H:Hp):Prop:=e8 Y G H l vs/\ab Y G H ds vs
def e8.mon (z:e8 Y G H l vs) (e:Mon G H G' H'):e8 Y G' H' l vs:=z.elim (λz=> .inl ⟨e.fz l z.1,e.keep l _ z.1 z.2⟩) λz=> .inr z
def CT.walk {K:Aa9}(d:K=Y.K):QJ Y (kH K l) ds (CT Y ds l vs) where
 go:=by
  rintro i G H ⟨c,b⟩ a
  obtain⟨v,e,_⟩:=b.get (Aa4 a)
  exact⟨vs,v,d▸c.sq,e⟩
 fj:=by
  rintro i G H x g ⟨c,b⟩ a ⟨e,y⟩
  subst e
  obtain⟨v,e,rd⟩:=b.get (Aa4 a)
  have:=y vs (d▸c.sq)
  rw [e]at this
  cases this
  exact⟨G,Ext.refl,λ_ q=>q,_,Aa4 a,rd⟩
 stop:=λi G H ⟨c,b⟩ a _=>⟨vs,d▸c.sq,by rw [← b.length];exact a⟩
 keep:=λG H j g h z e f=>⟨z.1.mon (e.mon f),z.2.ext e f⟩
def F0 {b:Int}:QJ Y (mW b n) ((Aa3 n).map λ(i:Nat)=>M.D.int (b+(i:Int))) (λ_ _=>True) where
 go:=λi G H _ a=>show i<n by simpa using a
 fj:=λi G H x d _ a c=>by
  obtain⟨e,y⟩:=c
  subst e y
  have a:=by simpa using a
  exact⟨G,Ext.refl,λ_ q=>q,.int (b+i),by simp [a],rfl⟩
 stop:=λi G H _ a _=>show n<=i by simpa using a
 keep:=λ_ _ _ _ _ _ _ _=>trivial
def jK {z:M.Tx}:QJ Y (iy (aF z)) (M.g9 z) (λ_ _=>True) where
 go:=λi G H _ a=>by
  have a:=by simpa [M.g9]using a
  exact⟨z[i],by simp [aF,a]⟩
 fj:=λi G H x g _ a d=>by
  obtain⟨e,c,b,f⟩:=d
  subst e f
  have a:=by simpa [M.g9]using a
  have b:=by simpa [aF]using b
  exact⟨G,Ext.refl,λ_ q=>q,.str [c],by simp [M.g9,b],rfl⟩
 stop:=λi G H _ a _=>by
  have a:=by simpa [M.g9]using a
  show(aF z).cps[i]? =y0
  simp [aF,a]
 keep:=λ_ _ _ _ _ _ _ _=>trivial
def wm (a: ¬ ∃ i xs,M.Gn τ i=k0 (.own xs)/\U[i]? =k0 (k0 (.ref l))):xq τ U H l=H l:=by
 unfold xq
 rw [if_neg a]
def Qt (s:aq Y G τ h U H)(e:M.Gn τ i=k0 (.own xs)) (f:U[i]? =k0 (k0 (.ref l))): ¬G.fz l/\dM G l/\ ∃vs,H l=k0 (.lst vs)/\ab Y G H xs vs:=by
 obtain⟨v,b,a,vs,c,j,g,k,d⟩:=s.slot i _ e
 rw [f]at b
 cases b
 cases c
 exact⟨j,g,vs,k,d⟩
def qz (s:aq Y G τ h U H):Mon G H G (xq τ U H):=by
 refine⟨λa o z e=> ?_,Aa7 _,λ_ _=>rfl,λ_ z=>z⟩
 rw [wm λ⟨i,d,b,c⟩=>(Qt s b c).1 z]
 exact e
def BB (q:Go Y F X E k cf) (D:PE X x (tD Y E (M.eval F a))):PI X tg x (gr Y E k9 (M.Gk F (.seq a))):=by
 refine PI.imp (o6 D) λU H R L=> ?_
 obtain⟨G,A,h,s,p⟩:=L
 refine Wa s.heap Ext.refl s p λK v1 I o c e1 B r m N f=> ?_
 have lst: ∀ {e},ay Y E G H (.ok e I) (λe x y t=> ∀J C,QJ Y J e C->C y t->(k9=u0->C y (xq A U t))->R J t)->(∃ l b,v1= .ref l/\lj Y o c l b/\ab Y o c e b) →
  (∃ a,v1= .ref a/\(∃ w,bq X.K c a w)/\R _ c)\/(∃ a,v1= .ref a/\(∃ w,ck X.K c a w)/\R (kH X.K a) c)\/ ∃z,v1= .str z/\R (iy z) c:=λ{e} p ⟨l,b,i,j,n⟩=>
  .inl ⟨l,i,⟨b,q.K▸j.sq⟩,p o c e1 r.heap _ _ (CL.walk q.K) ⟨j,n⟩ λz=>absurd z Ac2⟩
 cases K with
 | v d=>
  cases d with
  | tup e=>
   obtain⟨l,b,rfl,j,g⟩:=m
   exact .inr (.inl ⟨l,rfl,⟨b,q.K▸j.sq⟩,f o c e1 r.heap _ _ (CT.walk q.K) ⟨j,g⟩ λz=>absurd z Ac2⟩)
  | lst e=>obtain⟨l,b,i,j,g⟩:=m;exact lst f ⟨l,b,i,j.nE r.heap,g⟩
  | au=>exact f.elim
  | bl _=>exact f.elim
  | int _=>exact f.elim
  | str z=>
   cases (show v1= .str (aF z)from m)
   exact .inr (.inr ⟨_,rfl,f o c e1 r.heap _ _ jK trivial λz=>absurd z Ac2⟩)
  | ref _=>exact f.elim
 | own e=>obtain⟨l,b,i,_,g,n,u⟩:=m;exact lst f ⟨l,b,i,.inl ⟨.inl n,g⟩,u⟩
 | bor e=>obtain⟨l,b,i,g,n,u⟩:=m;exact lst f ⟨l,b,i,.inl ⟨n,g⟩,u⟩
def Hu (n:Int):((Aa3 n.toNat).map λ(i:Nat)=>M.D.int (i:Int))=(Aa3 n.toNat).map λ(i:Nat)=>M.D.int (0+(i:Int)):=by
 congr 1;funext i;rw [Int.zero_add]
def MB: "range" ∈cn:=by decide
def XL (e:Go Y F X E k cf)(r:b3 cf.sc "range" g=true) (d:wb x=true) (l:PE X x (tD Y E (M.eval F a))):PI X tg (.Call g [x] [] pos) (gr Y E lp (M.Gk F (.aj a))):=by
 obtain⟨p,rfl,t,z⟩:=Zc r
 refine PI.imp (BK (e.gl _ t) (e.blt _ MB) (Xf l jn (jb d)) (jb d)) λU H R u=> ?_
 obtain⟨G,w,h,s,p⟩:=u
 refine Wa s.heap Ext.refl s p λA v1 y m i e1 j o f v b=> ?_
 obtain⟨n,q,b⟩:=b.of
 split at b
 .rename_i c
  rw [M.GQ]at c
  cases f.int q
  rw [Hu]at b
  exact⟨n,rfl,c.1,c.2,b m i e1 o.heap _ _ F0 trivial λ_=>trivial⟩
 .exact b.elim
end
section
variable {Y:Ge}{F:M.Fx}{X:Cx}{E:XK}{k:Nat}{cf:Cf}
theorem Zm: ∀(τ) (i j) (w),M.Gn (M.GB τ i w) j=if j=i/\i<τ.length then k0 w else M.Gn τ j
 | [],i,j,w=>by simp
 | x::r,0,0,w=>by simp
 | x::r,0,j+1,w=>by simp
 | x::r,i+1,0,w=>by simp
 | x::r,i+1,j+1,w=>by
  have:=Zm r i j w
  simp only [M.GB,M.Gn,this,Aa8]
  by_cases h:j=i/\i<r.length
  .rw [if_pos h,if_pos (by lia)]
  .rw [if_neg h,if_neg (by lia)]
theorem xx: ∀(τ) (i) (w),(M.GB τ i w).length=τ.length
 | [],_,_=>rfl
 | _::_,0,_=>rfl
 | _::r,i+1,w=>by simp [xx r i w]
theorem Xx: ∀ {τ}{i}{w},M.Gn τ i=k0 w->i<τ.length
 | [],_,_,e=>by simp at e
 | _::_,0,_,_=>by simp
 | _::r,i+1,w,e=>by
  have:=Xx (by simpa using e)
  simp;lia
theorem aq.set (s:aq Y G τ h U H)(r:ak Y G H w v)
 (l:dW w=u0-> ∀ j L,j≠i->M.Gn τ j=k0 L->dW L=u0-> ∀a,v= .ref a->U[j]? ≠k0 (k0 (.ref a))):aq Y G (M.GB τ i w) h (U.set i (k0 v)) H where
 len:=by rw [xx,Ae1];exact s.len
 slot:=λj L e=>by
  rw [Zm]at e
  by_cases c:j=i/\i<τ.length
  .rw [if_pos c]at e
   cases e
   obtain⟨rfl,c⟩:=c
   exact⟨v,Ab9 (by rw [← s.len];exact c),r⟩
  .rw [if_neg c]at e
   have y:=λz=>c ⟨z,by subst z;exact Xx e⟩
   obtain⟨u,o,x⟩:=s.slot j L e
   exact⟨u,by rw [Ae4 (Ne.symm y)];exact o,x⟩
 apart:=λp q t L a b e1 e2 k g=>by
  rw [Zm]at e1 e2
  by_cases f:p=i/\i<τ.length
  .rw [if_pos f]at e1
   cases e1
   obtain⟨rfl,f⟩:=f
   rw [if_neg (λz=>b z.1.symm)]at e2
   rw [Ab9 (by rw [← s.len];exact f)]at g
   cases g
   rw [Ae4 b]
   exact l rfl q L (Ne.symm b) e2 k a rfl
  .rw [if_neg f]at e1
   have m:=λz=>f ⟨z,by subst z;exact Xx e1⟩
   rw [Ae4 (Ne.symm m)]at g
   by_cases d:q=i/\i<τ.length
   .rw [if_pos d]at e2
    cases e2
    obtain⟨rfl,d⟩:=d
    rw [Ab9 (by rw [← s.len];exact d)]
    intro z
    cases z
    exact l k p _ m e1 rfl a rfl g
   .rw [if_neg d]at e2
    have n:=λz=>d ⟨z,by subst z;exact Xx e2⟩
    rw [Ae4 (Ne.symm n)]
    exact s.apart p q t L a b e1 e2 k g
 heap:=s.heap
def aq.ej (s:aq Y G τ h U H)(r:aC Y G H d v):aq Y G (M.GB τ i (.v d)) h (U.set i (k0 v)) H:=s.set r λz=>by cases z
def gD:List Nat->List V->St->St
 | i::is,v::a,U=>gD is a (U.set i (k0 v))
 | _,_,U=>U
theorem JQ : ∀ {is}{ds}{vs}{τ j}{U},M.aZ is ds τ=k0 j->ab Y G H ds vs->aq Y G τ h U H->aq Y G j h (gD is vs U) H/\is.length=vs.length
 | [],[],_,_,_,_,e,rfl,s=>by cases e;exact⟨s,rfl⟩
 | [],_::_,_,_,_,_,e,_,_=>by simp [M.aZ]at e
 | _::_,[],_,_,_,_,e,_,_=>by simp [M.aZ]at e
 | i::is,d::ds,_,_,_,_,e,⟨v,r,rfl,a,b⟩,s=>by
  obtain⟨c,f⟩:=JQ (by simpa [M.aZ]using e) b (s.ej a)
  exact⟨c,congrArg (· +1) f⟩
def gM (Y:Ge) (c:List Nat) (one:Bool):TG:=λv U H Q=>match one with
 | true=> ∃i,c= [i]/\Q (U.set i (k0 v)) H
 | false=> ∃G ds b a,v= .ref a/\e8 Y G H a b/\ab Y G H ds b/\c.length=b.length/\Q (gD c b U) H
theorem W5 (b:Go Y F X E k cf): ∀ {is}{es},Wv cf is es=u0->la X es (λvs U H Q=>vs.length=is.length/\Q (gD is vs U) H)
 | [],[],_=>λa s U H vs d Q I r h=>by
  have c:=Ai5 h.1
  subst c
  exact rF a s U H [] d Q I r ⟨rfl,h.2⟩
 | [],_::_,h=>by simp [Wv]at h
 | _::_,[],h=>by simp [Wv]at h
 | i::is,e::es,h=>by
  cases e with
  | Name x p=>
   simp only [Wv,Aa1,decide_eq_true_eq]at h
   obtain⟨⟨j,m⟩,l⟩:=h
   have g:=W5 b l
   have c:=b.iZ x m
   have f:=ZV (nQ (pos:=p) (by rw [b.N];exact b.nd) (by rw [b.N];exact j) c.1 c.2) g
   intro a s U H vs d Q I r q
   refine f a s U H vs d Q I r ?_
   cases vs with
   | nil=>simp at q
   | cons v vs=>
    refine⟨v,vs,rfl,?_⟩
    exact⟨by simpa using q.1,q.2⟩
  | _=>simp [Wv]at h
theorem sA : ∀ {is}{es},Wv cf is es=u0->(assignEach es env).length=is.length/\(assignEach es env).findIdx? (·.1)=y0
 | [],[],_=>⟨rfl,rfl⟩
 | [],_::_,h=>by simp [Wv]at h
 | _::_,[],h=>by simp [Wv]at h
 | i::is,e::es,h=>by
  cases e with
  | Name x p=>
   simp only [Wv,Aa1]at h
   obtain⟨a,b⟩:=sA h.2
   have e1:assignEach (.Name x p::es) env=(k9,assign (.Name x p) env)::assignEach es env:=rfl
   rw [e1]
   refine⟨congrArg (· +1) a,?_⟩
   rw [List.findIdx?_cons]
   simp [b]
  | _=>simp [Wv]at h
def qB (c:Go Y F X E k cf)(h:zg cf tg one e=u0):PG X e (gM Y tg one):=by
 cases one with
 | true=>
  cases e with
  | Name x p=>
   simp [zg,Aa1]at h
   cases tg with
   | nil=>simp at h
   | cons i r=>
    cases r with
    | cons _ _=>simp at h
    | nil=>
     simp only [Wv,Aa1,decide_eq_true_eq]at h
     obtain⟨_,⟨t,y⟩,_⟩:=h
     have g:=c.iZ x y
     have f:=nQ (pos:=p) (by rw [c.N];exact c.nd) (by rw [c.N];exact t) g.1 g.2
     intro b s U H v u Q I r q
     obtain⟨j,e,q⟩:=q
     cases e
     exact f b s U H v u Q I r q
  | _=>simp [zg]at h
 | false=>
  cases e with
  | Tuple A n p=>
   have h:=h
   obtain⟨w,d⟩:=sA h
   intro b s U H v u Q I r q
   obtain⟨G,z,m,a,rfl,o,B,l,q⟩:=q
   exact (yN (k:=n) (pos:=p) c.calm (W5 c h) w d) b s U H _ u Q I r ⟨a,m,rfl,c.K▸o.sq,l.symm,l.symm,q⟩
  | _=>simp [zg]at h
def xp (k) (l): ∀ i,M.Gn (Ab k y0++l) (k+i)=M.Gn l i:=by
 induction k with
 | zero=>intro i;simp
 | succ k a=>intro i;rw [Af3,show k+1+i=(k+i)+1 by lia];exact a i
def Jw (k) (l): ∀ {i},i<k->M.Gn (Ab k y0++l) i=none:=by
 induction k with
 | zero=>intro i h;lia
 | succ k a=>
  intro i h
  cases i with
  | zero=>rfl
  | succ i=>rw [Af3];exact a (by lia)
theorem ZH: ∀(l) (i),M.Gn l i=(l[i]?).join
 | [],_=>by simp
 | _::_,0=>by simp
 | _::r,i+1=>by simpa using ZH r i
def jP (s:aq Y G τ h U H)(e:M.Gi τ j=k0 w): ∃v,U[j]? =k0 (k0 v)/\ak Y G H w v/\(dW w=u0-> ∃i,M.Gn τ j=k0 i/\dW i=u0)/\mi w=true:=by
 unfold M.Gi at e
 cases q:M.Gn τ j with
 | none=>rw [q]at e;cases e
 | some i=>
  obtain⟨v,b,c⟩:=s.slot j i q
  rw [q]at e
  cases i with
  | v d=>cases e;exact⟨v,b,c,λz=>(by cases z),rfl⟩
  | own g=>cases e;obtain⟨a,m,l,o,f,n,k⟩:=c;exact⟨v,b,⟨a,m,l,f,.inl n,k⟩,λ_=>⟨_,rfl,rfl⟩,rfl⟩
  | bor g=>cases e;exact⟨v,b,c,λ_=>⟨_,rfl,rfl⟩,rfl⟩
def kc (k:Nat) (aB:List Nat) (τ:M.Sl):M.Sl:=Ab k y0++aB.map λj=>M.Gi τ j
def ME (s:aq Y G τ h U H) (kk) (aB)(b:Ub.length=kk+aB.length) (d: ∀i,i<aB.length->Ub[kk+i]? =k0 ((U[aB.getD i 0]?).join)):
 aq Y G (kc kk aB τ) h Ub H where
 len:=by unfold kc;rw [Aa6,Ae2,Aa,b]
 slot:=λi w e=>by
  unfold kc at e
  by_cases f:i<kk
  .rw [Jw kk _ f]at e;cases e
  .obtain⟨j,rfl⟩: ∃j,i=kk+j:=⟨i-kk,by lia⟩
   rw [xp,ZH,Ac]at e
   cases q:aB[j]? with
   | none=>rw [q]at e;cases e
   | some c=>
    rw [q]at e
    have e:=e
    obtain⟨v,g,k,_⟩:=jP s e
    have n:=(Aa0.mp q).1
    refine⟨v,?_,k⟩
    rw [d j n,Ac6,q]
    show k0 ((U[c]?).join)=_
    rw [g]
    rfl
 apart:=λi j r w a l e1 e2 o p=>by
  exfalso
  unfold kc at e1
  by_cases f:i<kk
  .rw [Jw kk _ f]at e1;cases e1
  .obtain⟨m,rfl⟩: ∃j,i=kk+j:=⟨i-kk,by lia⟩
   rw [xp,ZH,Ac]at e1
   cases q:aB[m]? with
   | none=>rw [q]at e1;cases e1
   | some c=>
    rw [q]at e1
    have e1:=e1
    obtain⟨_,_,_,_,z⟩:=jP s e1
    cases z
 heap:=s.heap
end
theorem xf {env:Env}{d:NameKind}(g:d≠ .free): ∀ {a:List (Str×NameKind)}{x},a.lookup x=k0 d →
 (a.map λ(n,k)=>if(k==NameKind.free&&env.scope.kind== .function&&env.kindOf n==k0 .cell)then(n,NameKind.cell)else(n,k)).lookup x=k0 d
 | [],_,h=>by simp at h
 | (n,k)::r,x,h=>by
  have i:= @xf env d g r x
  rw [Ab2]
  rw [Ab7]at h
  cases c:x==n with
  | true=>
   rw [c]at h
   have e:=by simpa using h
   subst e
   have j:(k==NameKind.free)=false:=by simpa using g
   simp only [j,Af,Ak4,if_false,Ab7,c]
  | false=>
   rw [c]at h
   have q:=i h
   by_cases b:(k==NameKind.free&&env.scope.kind== .function&&env.kindOf n==k0 .cell)=u0
   .simp only [b,if_true,Ab7,c]
    exact q
   .have f:=Ak8.mpr b
    simp only [f,Ak4,if_false,Ab7,c]
    exact q
section
variable {Y:Ge}{F:M.Fx}{X:Cx}{E:XK}{k:Nat}{cf:Cf}
structure kg (cf:Cf) (scope:Scope) (N:List Str) (k:Nat) (aB:List Nat):Prop where
 kind:scope.kind= .function
 D7:(scope.names.map Prod.fst).Nodup
 names: ∀y∈scope.names,y.2= .local->scope.names.lookup y.1=k0 .local
 free: ∀y∈scope.names,y.2= .free->cf.sc.names.lookup y.1=k0 .cell\/cf.sc.names.lookup y.1=k0 .free
 gF: ∀x∈N.drop k,scope.names.lookup x=k0 .free
 aB:jL cf aB (N.drop k)=u0
 le:k<=N.length
 nd:N.Nodup
def zJ (h:z9 cf scope N kk aB=u0):kg cf scope N kk aB:=by
 simp only [z9,Aa1,decide_eq_true_eq,Ai6]at h
 obtain⟨⟨⟨⟨⟨⟨⟨⟨d,e⟩,b⟩,c⟩,f⟩,k⟩,j⟩,g⟩,l⟩:=h
 exact⟨d,e,λy a=>b y a,λy a=>c y a,λx i=>f x i,k,j,g⟩
theorem wZ (a:Go Y F X E k cf): ∀ {aB}{xs},jL cf aB xs=u0->cE X aB xs
 | [],[],_=>trivial
 | [],_::_,h=>by simp [jL]at h
 | _::_,[],h=>by simp [jL]at h
 | j::e,x::xs,h=>by
  simp only [jL,Aa1,decide_eq_true_eq]at h
  obtain⟨⟨c,d⟩,b⟩:=h
  exact⟨by rw [a.N];exact c,a.mx x d,wZ a b⟩
def JW (a:Go Y F X E k cf)(h:kg cf scope N kk aB):W1 X scope N kk aB:=
 ⟨h.kind,h.D7,h.names,λy b c=>a.mx y.1 (h.free y b c),h.gF,wZ a h.aB,h.le⟩
def um (h:XV sc x=u0):sc.names.lookup x=k0 .local\/sc.names.lookup x=k0 .cell\/sc.names.lookup x=k0 .free:=by
 unfold XV at h
 split at h
 .rename_i q;exact .inl q
 .rename_i q;exact .inr (.inl q)
 .rename_i q;exact .inr (.inr q)
 .cases h
def vF (h:ig sc x=u0):sc.names.lookup x=k0 .local\/sc.names.lookup x=k0 .cell:=by
 unfold ig at h
 split at h
 .rename_i q;exact .inl q
 .rename_i q;exact .inr q
 .cases h
def vw (h:lq sc x=u0):sc.names.lookup x=k0 .globalImplicit:=by
 unfold lq at h
 split at h
 .rename_i q;exact q
 .cases h
def xD (a:Go Y F X E k cf)(h:kg cf scope N kk aB) (C:Addr) (m:List Addr) (s:Shared) (H:Hp):Go Y F (Ze X N scope C m s H) E0 k { cf with sc:=scope,N:=N } where
 N:=rfl
 K:=a.K
 cl:=a.cl
 ow:=a.ow
 nd:=h.nd
 hV:=λx b=>by
  rcases um b with q | q | q
  .exact .inl (xf (by decide) q)
  .exact .inr (.inl (xf (by decide) q))
  .exact .inr (Qk q)
 rN:=λx b=>xf (by decide) b
 iZ:=λx b=>by
  rcases vF b with q | q
  .exact⟨.inl (xf (by decide) q),.inr (xf (by decide) q)⟩
  .exact⟨.inr (xf (by decide) q),.inl (decide_eq_true q)⟩
 mx:=λx b=>by
  rcases b with q | q
  .exact .inl (xf (by decide) q)
  .exact Qk q
 gl:=λx b=>xf (by decide) (vw b)
 calm:=a.calm
 room:=a.room
 d8:=a.d8
 pass:=λc U u v e j _ i=>i.elim
 blt:=a.blt
 con:=a.con
 fn:=λf p=>by
  obtain⟨d,g,n,o,t,r,l⟩:=(a.fn f p).imp λd h=>h.ex
  exact⟨d,⟨g,n,o,t,r,l⟩⟩
 cls:=a.cls
 fld:=a.fld
 ki:=a.ki
 fe:=a.fe
theorem tZ: ∀(is) (vs) (U) (j),j∉is->(gD is vs U)[j]? =U[j]?
 | [],_,_,_,_=>rfl
 | _::_,[],_,_,_=>rfl
 | i::is,v::vs,U,j,h=>by
  show(gD is vs (U.set i (k0 v)))[j]? =U[j]?
  rw [tZ is vs _ j λz=>h (Aa2 _ z),Ae4 (λz:i=j=>h (by rw [z];exact Aa5))]
theorem wK: ∀(is) (vs) (U),(gD is vs U).length=U.length
 | [],_,_=>rfl
 | _::_,[],_=>rfl
 | i::is,v::vs,U=>by
  show(gD is vs (U.set i (k0 v))).length=U.length
  rw [wK is vs,Ae1]
def ae (e:M.Gr tg one d τ=k0 τ') (r:aC Y G H d x) (s:aq Y G τ h U H)
 (g: ∀L,aq Y G τ' h L H->(∀ j,j∉tg->L[j]? =U[j]?)->L.length=U.length->Q L H):gM Y tg one x U H Q:=by
 cases one with
 | true=>
  cases tg with
  | nil=>cases e
  | cons i o=>
   cases o with
   | cons _ _=>cases e
   | nil=>
    cases e
    exact⟨i,rfl,g _ (s.ej r) (λj c=>Ae4 λz=>c (by simp [z])) (Ae1 ..)⟩
 | false=>
  cases d with
  | tup l=>
   obtain⟨a,b,rfl,n,f⟩:=r
   obtain⟨m,k⟩:=JQ (e) f s
   exact⟨G,l,b,a,rfl,n,f,k,g _ m (λj c=>tZ tg b U j c) (wK tg b U)⟩
  | _=>cases e
def X8 {step:M.D->M.AH->M.R (Option M.D)}(e:M.Gy step (x::ds) h= .ok ys hf): ∃o h1 r,step x h= .ok o h1/\M.Gy step ds h1= .ok r hf/\ys=(match o with | some y=>y::r | none=>r):=by
 rw [M.Gy]at e
 split at e
 .rename_i o h1 e1
  split at e
  .rename_i r a e2
   cases e
   exact⟨o,h1,r,e1,e2,rfl⟩
  .cases e
 .cases e
def nR (F:M.Fx) (g:List Nat) (one:Bool) (f:M.Sl) (a:Bool) (c elt:M.E):M.D->M.AH->M.R (Option M.D):=λd h=>match M.Gr g one d f with
 | none=> .fail
 | some e=>(if a then(M.eval F c e h).bind λx h=>M.R.of h (M.G8 h x)else .ok u0 h).bind λb h=>match b with
  | true=>(M.eval F elt e h).bind λy h=>(M.R.of h y.d).bind λy h=> .ok (k0 y) h
  | false=> .ok y0 h
def Dn :M.eval F (.comp tg one kk aB it k6 c elt) τ h=(M.Gk F it τ h).bind λds h=>
 if ds.length<=M.bf then(M.Gy (nR F tg one (kc kk aB τ) k6 c elt) ds h).bind λys h=> .ok (.own ys) h else .fail:=by
 rw [M.eval];rfl
noncomputable def kN (F:M.Fx) (a:Bool) (c:M.E):M.Sl->M.AH->M.R Bool:=λτ h=>if a then M.Gm F c τ h else .ok u0 h
def ji {r:M.R α}(e:r.bind f= .ok b h): ∃a h1,r= .ok a h1/\f a h1= .ok b h:=by
 cases r with
 | ok a h1=>exact⟨a,h1,rfl,e⟩
 | fail=>cases e
def o5 (a:Jh iter=u0): ∀v,foldedSetIterable iter env v=pure v:=λv=>by cases iter<;>first | rfl | (simp [Jh]at a)
def vN (htk: ∀i∈tg,i<kk)(h0:tD Y E (M.eval F (.comp tg one kk aB it k6 c elt)) U H Q):
 mr kk aB (gr Y E k9 (M.Gk F it)) (λ_ _ _ _=>gM Y tg one) (λ_ _ _ _=>cS Y E0 (kN F k6 c)) (λ_ _ _ _=>tD Y E0 (M.eval F elt)) U H Q:=by
 obtain⟨G,S,h,s,p⟩:=h0
 rw [Dn]at p
 refine⟨G,S,h,s,?_⟩
 cases qi:M.Gk F it S h with
 | fail=>rw [qi]at p;exact p
 | ok f h1=>
  rw [qi]at p
  intro G1 H1 e1 u J C N c0 _ Ca fp st
  have p:ay Y E G H (if f.length<=M.bf then(M.Gy _ f h1).bind λys h=> .ok _ h else .fail) λw q n k=> ∀v,ak Y n k w v->aK S U H w v->Q v k:=p
  by_cases hL:f.length<=M.bf
  rotate_left
  .rw [if_neg hL]at p;exact p.elim
  rw [if_pos hL]at p
  cases qc:M.Gy _ f h1 with
  | fail=>rw [qc]at p;exact p.elim
  | ok ys hf=>
   rw [qc]at p
   have p:=p
   have hLs:=jj
   refine⟨λi m yv Ub k=> ∃n q done Zp,(m=f.length-i/\i<=f.length/\done.length<=i)/\Ext G1 H1 n k/\ai Y n q k/\C n k/\ab Y n k done yv ∧
    M.Gy (nR F tg one (kc kk aB S) k6 c elt) (f.drop i) q= .ok Zp hf/\ys=done++Zp/\Ub.length=kk+aB.length/\ ∀j,j<aB.length->Ub[kk+j]? =k0 ((U[aB.getD j 0]?).join),⟨f.length,?_⟩,?_⟩
   .refine⟨G1,h1,[],ys,⟨by simp,Ae6 _,Aa7 _⟩,Ext.refl,u,c0,rfl,qc,rfl,?_,λj hj=> ?_⟩
    .unfold mO;rw [Aa6,Ae2,Aa]
    .unfold mO
     rw [Ad9 (by simp),Ae2,An,Ac,Aa4 hj,Ac6,Aa4 hj]
     rfl
   .rintro i m yv Ub k ⟨n,q,done,Zp,⟨rfl,hi',hd⟩,e2,e,I,rd,X,y,g,A⟩
    have ldone:=rd.length
    by_cases t:i<f.length
    .refine .inr ⟨N.go i n k I t,by lia,_,λyv' Ub' R w=>⟨f.length-(i+1),by lia,w⟩,λx R hy=> ?_⟩
     obtain⟨G4,x4,hx4,d,ed,rdx⟩:=N.fj i n k x R I t hy
     have I:=N.keep _ _ _ _ q I x4 e
     have rd:=rd.ext x4 e
     have e2:=e2.trans u x4
     have e:=hx4 _ e
     have edr:f.drop i=d::f.drop (i+1):=by
      rw [Am4 t]
      rw [Aa4 t]at ed
      cases ed
      rfl
     rw [edr]at X
     obtain⟨o,h2,r,O,T,er⟩:=X8 X
     unfold nR at O
     cases qb:M.Gr tg one d (kc kk aB S)with
     | none=>rw [qb]at O;cases O
     | some K=>
      rw [qb]at O
      have so:=s.ext (e1.trans s.heap e2) e
      have sb:=ME so kk aB g A
      refine ae qb rdx sb λU2 s2 same W=> ?_
      have l: ∀j,j<aB.length->U2[kk+j]? =k0 _:=λj hj=>by
       rw [same _ λz=>by have:=htk _ z;lia];exact A j hj
      obtain⟨b,h3,B,a⟩:=ji (show (kN F k6 c K q).bind _=_ from O)
      refine⟨G4,K,q,s2,?_⟩
      rw [B]
      intro G3 H3 V P
      have s3:=s2.ext V P
      cases b with
      | false=>
       refine oF ?_
       have a:=a
       cases a
       exact⟨G3,_,done,r,⟨rfl,by lia,by lia⟩,e2.trans u V,P,N.keep _ _ _ _ q I V e,rd.ext V e,T,by rw [y,er],by rw [W];exact g,l⟩
      | true=>
       refine nq ?_
       obtain⟨w,h4,qe,a⟩:=ji (a)
       refine⟨G3,K,h3,s3,?_⟩
       rw [qe]
       intro G4 H4 e4 hr4 v rw' fw
       obtain⟨dd,h5,Z,a⟩:=ji (a)
       cases qw:w.d with
       | none=>rw [qw]at Z;cases Z
       | some d'=>
        rw [qw]at Z
        cases Z
        cases (a)
        have s4:=s3.ext e4 hr4
        obtain⟨G5,e5,s5,rdv,m5⟩:=pK e4 s4 s3 rw' fw qw
        have L:=V.trans e e5
        refine⟨G5,_,done++ [dd],r,⟨rfl,by lia,by rw [Aa6,List.length_singleton];lia⟩,e2.trans u L,s5.heap,N.keep _ _ _ _ q I L e,(rd.ext L e).append ⟨v,[],rfl,rdv,rfl⟩,T,?_,by rw [W];exact g,l⟩
        rw [y,er]
        simp
    .have ei:i=f.length:=by lia
     subst ei
     rw [List.drop_length]at X
     cases (X)
     rw [Ae3]at y
     subst y
     exact .inl ⟨N.stop _ n k I (Aa7 _) (Aa7 _),by lia,λD hD=>av.own (av.mk p (e1.trans s.heap e2) s.heap) e rd D hD⟩
def MD (e:Go Y F X E k cf)(b:kg cf scope N kk aB)
 (l:aB.length=(N.drop kk).length) (f:zg { cf with sc:=scope,N:=N } tg one t=u0) (d: ∀i∈tg,i<kk) (a:Jh iter=u0)
 (g:PI X t iter (gr Y E k9 (M.Gk F it)))
 (m: ∀C fp s H,PE (Ze X N scope C fp s H) y (tD Y E0 (M.eval F elt)))
 (h: ∀C fp s H,gJ (Ze X N scope C fp s H) ifs (cS Y E0 (kN F k6 c))):
 PE X (.ListComp y [⟨t,iter,ifs,0⟩] scope pos) (tD Y E (M.eval F (.comp tg one kk aB it k6 c elt))):=
 PE.imp (Cm (JW e b) g (λC fp s H=>qB (xD e b C fp s H) f) h m e.calm (o5 a)) λU H Q j=>vN d j
def X6 (a:Go Y F X E k cf)(n:cf.N[i]? =k0 x) (o:ig cf.sc x=u0)(j:swapsWith (.ListComp y [⟨t,iter,ifs,0⟩] scope p0) (k0 (.Name x pos2)) pos.line X.env=pure u0) (b:kg cf scope N kk aB)
 (p:aB.length=(N.drop kk).length) (f:zg { cf with sc:=scope,N:=N } tg one t=u0) (g: ∀i∈tg,i<kk) (e:Jh iter=u0)
 (m:PI X t iter (gr Y E k9 (M.Gk F it)))
 (r: ∀C fp s H,PE (Ze X N scope C fp s H) y (tD Y E0 (M.eval F elt)))
 (u: ∀C fp s H,gJ (Ze X N scope C fp s H) ifs (cS Y E0 (kN F k6 c))):
 PS X (.Assign [.Name x pos2] (.ListComp y [⟨t,iter,ifs,0⟩] scope p0) pos) (ia (tD Y E (M.eval F (.comp tg one kk aB it k6 c elt))) (zY i)):=by
 have l:=a.iZ x o
 have h:=Ig (by rw [a.N];exact a.nd) (by rw [a.N];exact n) l.1 (JW a b) m (λC fp s H=>qB (xD a b C fp s H) f) u r j a.calm (o5 e) l.2
 exact λd s U H D I q=>h d s U H D I (vN g q)
def jJ (e:M.GF h o=k0 (r,xs)):o=k0 (.v (.ref r))/\h[r]? =k0 (.lst xs):=by
 unfold M.GF at e
 split at e
 .split at e
  .rename_i q
   cases e
   exact⟨rfl,q⟩
  .cases e
 .cases e
def B7 :Wr X (.builtin "isinstance") (fun xs H Q=> ∃a vs,xs= [.ref a,.ty "list"]/\H a=some (.lst vs)/\Q (.bl true) H):=by
 intro b s U H xs g Q I r ⟨a,vs,d,rd,q⟩
 subst d
 obtain⟨u,h,rfl,e,f⟩:=nX r
 cases f
 exact Jj I e (.lst rd) (WT _) λc=>⟨.bl u0,H,I.tok c,rfl,q⟩
def K0 (c:Go Y F X E k cf)(C:b3 cf.sc "isinstance" g=true) (v:b3 cf.sc "list" y=true) (f:wb x=true) (u:PE X x (tD Y E (M.eval F a))):PE X (.Call g [x,y] [] pos) (tD Y E (M.eval F (.dW a))):=by
 obtain⟨p,rfl,D,A⟩:=Zc C
 obtain⟨q,rfl,o,I⟩:=Zc v
 have dt: "list" ∈cn:=by decide
 have bi:=boot_isinstance
 have b: "isinstance" ∈cn:=by decide
 have e:PE X (.Name _ q) (tC (.ty "list")):=vM (c.gl _ o) (c.blt _ dt) (by decide +kernel) rfl (jq dt) I
 refine PE.imp (Jn B7 (c.gl _ D) (c.blt _ b) bi (Xf u (Xf e jn) (jb f)) (jq b) A (jb f) rfl) λU H Q J=> ?_
 obtain⟨G,N,h,s,p⟩:=J
 refine Wa s.heap Ext.refl s p λB v1 w O K e1 t j n L d=> ?_
 cases q:M.GF w (k0 B)with
 | none=>rw [q]at d;exact d.elim
 | some i=>
  rw [q]at d
  obtain⟨z,r⟩:=jJ q
  cases z
  obtain⟨_,rfl⟩:=(n)
  obtain⟨_,m,l,_⟩:=j.heap.cell i.1 i.2 r
  exact⟨_,m,rfl,l,ay.val d e1 j.heap rfl trivial⟩
def jt (b:Go Y F X E k cf)(h1:cf.N[i]? =k0 x) (c:XV cf.sc x=u0) (a:bh x=u0):PE X (.Name x p) (lX i):=by
 unfold bh at a
 rw [Aa1]at a
 exact wI (by rw [b.N];exact h1) (b.hV x c) (by simpa using a.1) (by simpa using a.2)
def tX: "dict" ∈cn:=by decide
def Mv (g:Go Y F X E k cf)(h1:cf.N[i]? =k0 y) (u:XV cf.sc y=u0) (q:bh y=u0) (m:PE X x (tD Y E (M.eval F a))):PE X (.Compare x [lV neg] [.Name y j] pos) (tD Y E (M.eval F (.cR neg a i))):=by
 refine PE.imp (vx (yE neg) m (jt g h1 u q) (Jt rfl)) λU H Q v=> ?_
 obtain⟨G,B,h,s,p⟩:=v
 refine Wa s.heap Ext.refl s p λD v1 h1 n z e1 l b c A j=> ?_
 unfold M.cR at j
 split at j
 .rename_i o r I t
  cases c
  obtain⟨f,C,w,e,d⟩:=zq b t
  exact⟨_,f,aF o,_,_,rfl,rfl,e,by rw [pb d];exact j n _ e1 b.heap _ rfl trivial⟩
 .exact j.elim
def AJ (g:Go Y F X E k cf)(h1:cf.N[i]? =k0 y) (u:XV cf.sc y=u0) (q:bh y=u0) (m:PE X x (tD Y E (M.eval F a))):PT X (.Compare x [lV neg] [.Name y j] pos) (cS Y E (M.Gm F (.cR neg a i))):=by
 refine PT.imp (rb (yE neg) m (jt g h1 u q) (Jt rfl)) λU H Q v=> ?_
 obtain⟨G,B,h,s,p⟩:=v
 unfold M.Gm at p
 rw [M.eval,Zi]at p
 refine Wa s.heap Ext.refl s p λD v1 h1 n z e1 l b c A j=> ?_
 unfold M.cR at j
 split at j
 .rename_i o r I t
  cases c
  obtain⟨f,C,w,e,d⟩:=zq b t
  exact⟨_,f,aF o,_,_,rfl,rfl,e,_,rfl,by rw [pb d];exact j n _ e1 b.heap⟩
 .exact j.elim
def Mz (m:Go Y F X E k cf)(h1:cf.N[i]? =k0 y) (I:XV cf.sc y=u0) (C:bh y=u0) (u:jd x=u0) (t:PE X x (tD Y E (M.eval F a))):PE X (.Subscript (.Name y j) x pos) (tD Y E (M.eval F (.eZ i a))):=by
 refine PE.imp (nW vj (jt m h1 I C) t (qV u)) λU H Q K=> ?_
 obtain⟨G,n,h,s,p⟩:=K
 rw [M.eval]at p
 cases q:M.GV h (M.Gn n i)with
 | none=>rw [q]at p;exact p.elim
 | some w=>
  obtain⟨V,z⟩:=w
  rw [q]at p
  have sl:=(zq s q).1
  refine⟨_,sl,Wa s.heap Ext.refl s p λS v1 h1 R N e1 o e f O j=> ?_⟩
  unfold M.eZ at j
  split at j
  .rename_i B r T D
   cases f
   obtain⟨c,P,L,l,g⟩:=zq e D
   have b:=by rw [sl]at c;exact Ad6.inj (Ad6.inj c)
   split at j
   .rename_i d J
    obtain⟨v,A,rv⟩:=p8 g J
    exact⟨aF B,_,_,v,rfl,b,l,A,(av.mk j e1 s.heap).v e.heap rv⟩
   .exact j.elim
  .exact j.elim
def DY (d:Go Y F X E k cf)(w:b3 cf.sc "dict" g=true) (h1:cf.N[i]? =some y) (x:XV cf.sc y=true) (v:bh y=true):PE X (.Call g [.Name y p1] [] pos) (tD Y E (M.eval F (.ef i))):=by
 obtain⟨p,rfl,A,t⟩:=Zc w
 refine PE.imp (Wz Bp (d.gl _ A) (d.blt _ tX) (by decide +kernel) (Xf (jt d h1 x v) jn rfl) (jq tX) t rfl rfl) λU H Q B=> ?_
 obtain⟨G,m,h,s,p⟩:=B
 rw [M.eval]at p
 cases q:M.GV h (M.Gn m i)with
 | none=>rw [q]at p;exact p.elim
 | some u=>
  obtain⟨r,e⟩:=u
  rw [q]at p
  obtain⟨l,n,c,j,f⟩:=zq s q
  refine⟨_,l,_,_,rfl,j,λa b=> ?_⟩
  have e1:Ext G H G (aQ H a (dS (dA e c))):=qt _ b
  refine ay.val p (zA e1 b) (QH (s.heap.new (dS (dA e c)) b) (λz=>by obtain⟨o,q⟩:=s.heap.live a z;rw [b]at q;cases q) (s.heap.gb b) ⟨n,c,wc,f.ext e1 s.heap⟩) ?_ trivial
  show h.length<G.n+1/\V.ref a= .ref (if h.length=G.n then a else G.aS h.length)
  rw [s.heap.len,if_pos rfl]
  exact⟨Ag _,rfl⟩
def MY (a:M.Km d=u0) (z:aC Y G H d v):aC Y G' H' d v:=by
 cases d<;>first | exact z | exact absurd a (by simp)
def M7 (e:Ext G H G1 H1) (d:H a=y0):Ext G H G1 (aQ H1 a o):=
 ⟨λb u z c=>by rw [Qa (λq:b=a=>by rw [q,d]at z;cases z)];exact e.keep b u z c,e.le,e.aS,e.new,e.fz,e.old,λr g z=>by
   obtain⟨u,z⟩:=z
   obtain⟨f,h⟩:=e.cells r g ⟨u,z⟩
   exact⟨f,by rw [Qa (λq:G.aS r=a=>by rw [q,d]at z;cases z)];exact h⟩⟩
def LY (d:ai Y G h H) (f: ¬G.fz a) (of:dM G a):ai Y G h (aQ H a o):=by
 have mon:Mon G H G (aQ H a o):=⟨λb u z q=>by rw [Qa (λe:b=a=>f (e▸z))];exact q,Aa7 _,λ_ _=>rfl,λ_ z=>z⟩
 refine⟨d.len,λq c e=>⟨(d.any q c e).1,(d.any q c e).2.mon mon λu z=>by rw [Qa (of q (d.lt e))];exact z⟩,d.inj,λb z=> ?_⟩
 obtain⟨u,q⟩:=d.live b z
 exact⟨u,by rw [Qa (λe:b=a=>f (e▸z))];exact q⟩
def gT (G:Gh) (H:Hp) (a:Addr) (o:HO):Prop:=H a=k0 o/\ ¬G.fz a/\dM G a
def gT.ext (l:gT G H a o) (e:Ext G H G1 H1):gT G1 H1 a o:=
 ⟨e.keep a o l.1 l.2.2,λz=>(e.old a z).elim l.2.1 (λq=>by rw [l.1]at q;cases q),e.off l.1 l.2.2⟩
def DH {c b a k:M.Tx}(i:ak Y G H w1 v1) (h:ak Y G H w2 v2) (j:ak Y G H w3 v3) (e: [(c,w1),(b,w2),(a,w3)].lookup k=k0 w): ∃v,[(aF c,v1),(aF b,v2),(aF a,v3)].lookup (aF k)=k0 v/\ak Y G H w v:=by
 simp [Ab7,List.lookup_nil]at e ⊢
 simp [pR]
 cases d:k==c with
 | true=>rw [d]at e;cases e;exact⟨v1,rfl,i⟩
 | false=>
  rw [d]at e
  cases f:k==b with
  | true=>rw [f]at e;cases e;exact⟨v2,rfl,h⟩
  | false=>
   rw [f]at e
   cases g:k==a with
   | true=>rw [g]at e;cases e;exact⟨v3,rfl,j⟩
   | false=>rw [g]at e;cases e
def F4 (O:Go Y F X E k cf)(h1:cf.N[i]? =k0 x) (B:XV cf.sc x=u0) (D:bh x=u0) (y:iz k1 q1=u0) (t:iz k2 q2=u0) (o:iz k3 q3=u0) (hn: [k1,k2,k3].Nodup)
 (ha:PE X y1 (tD Y E (M.eval F a))) (hb:PE X y2 (tD Y E (M.eval F b))) (T:PE X y3 (tD Y E (M.eval F c))):PE X (.Subscript (.Dict [q1,q2,q3] [y1,y2,y3] L) (.Name x p2) pos) (tD Y E (M.eval F (.fK k1 a k2 b k3 c i))):=by
 obtain⟨j1,R,rfl⟩:=nM y
 obtain⟨N,o2,rfl⟩:=nM t
 obtain⟨j3,o3,rfl⟩:=nM o
 have ok:kR X [aF k1,aF k2,aF k3] [tD Y E _,tD Y E _,tD Y E _] [k0 (.Constant (.str (aF k1)) j1 R),k0 (.Constant (.str (aF k2)) N o2),k0 (.Constant (.str (aF k3)) j3 o3)] [y1,y2,y3]:=
  ⟨_,_,_,_,_,_,_,rfl,rfl,rfl,ha,_,_,_,_,_,_,_,rfl,rfl,rfl,hb,_,_,_,_,_,_,_,rfl,rfl,rfl,T,rfl,rfl,rfl⟩
 refine PE.imp (nW vj (Lo ok (by simp) (show 3<=15 by decide) (Ao7.map (l:= [k1,k2,k3]) aF (λa b z q=>z (ZD q)) hn)) (jt O h1 B D) (qV rfl)) λU H Q qq=> ?_
 obtain⟨G,Z,h,s,p⟩:=qq
 rw [M.eval]at p
 intro m e
 have J:Ext G H G (aQ H m (dS [])):=qt _ e
 have s0:aq Y G Z h U _:=s.ext J (s.heap.new _ e)
 have P:gT G (aQ H m (dS [])) m _:=⟨wc,s.heap.iT e,s.heap.gb e⟩
 refine Wa s.heap J s0 p λw1 v1 h1 G1 H1 e1 r A r1 f1 L=> Wa s.heap e1 A L λw2 v2 B G2 H2 e2 j w V f2 p2=> Wa s.heap e2 w p2 λw3 v3 D G3 H3 e3 g I K f3 f=> ?_
 have n:=((P.ext r).ext j).ext g
 refine⟨n.1,?_⟩
 unfold M.fK at f
 split at f
 .rename_i C es
  obtain⟨v,ev,rv⟩:=I.slot i _ es
  cases (show v= .str (aF C)from rv)
  split at f
  .rename_i d ed
   split at f
   .rename_i S
    obtain⟨u,eu,W⟩:=DH ((r1.ext j A.heap).ext g w.heap) (V.ext g w.heap) K ed
    exact⟨_,ev,aF C,_,_,u,rfl,rfl,wc,eu,ay.val f (M7 e3 e) (LY I.heap n.2.1 n.2.2) (v:=u) (show aC Y G3 _ d u from MY S W) trivial⟩
   .exact f.elim
  .exact f.elim
 .exact f.elim
def uK (h:Str.ofString a=Str.ofString b):a=b:=by
 rw [Str.ofString_eq_toList,Str.ofString_eq_toList]at h
 have e:=by
  have:=congrArg (λs:Str=>s.cps.toList) h
  simpa using this
 have inj: ∀(l m:List Char),l.map Char.toNat=m.map Char.toNat->l=m:=by
  intro l
  induction l with
  | nil=>intro m q;cases m with | nil=>rfl | cons _ _=>cases q
  | cons c l f=>
   intro m q
   cases m with
   | nil=>cases q
   | cons d m=>
    simp [List.cons.injEq]at q
    rw [Char.toNat_inj.mp q.1,f m q.2]
 exact String.toList_inj.mp (inj _ _ e)
def wM (e:M.GX h o=k0 (r,c,fs)):o=k0 (.v (.ref r))/\h[r]? =k0 (.obj c fs):=by
 unfold M.GX at e
 split at e
 .split at e
  .rename_i q
   cases e
   exact⟨rfl,q⟩
  .cases e
 .cases e
def sC (s:aq Y G τ h U H)(e:M.GX h (M.Gn τ i)=k0 (r,c,fs)):U[i]? =k0 (k0 (.ref (G.aS r))):=by
 obtain⟨e1,e2⟩:=wM e
 obtain⟨v,a,b⟩:=s.slot i _ e1
 obtain⟨_,d⟩:=(show r<G.n/\v= .ref (G.aS r)from b)
 rw [a,d]
abbrev gR (fs:List (String×M.D)):List Str:=fs.map λp=>Str.ofString p.1
section
variable {G:Gh}{H:Hp}
def tW (a b):(Xg a==Str.ofString b)=(a==b):=by
 cases q:a==b with
 | true=>rw [eq_of_beq q];exact beq_self_eq_true _
 | false=>exact beq_eq_false_iff_ne.mpr λz=>(beq_eq_false_iff_ne.mp q) (uK z)
theorem rC : ∀ {fs}{i},ab Y G H (fs.map (·.2)) i->fs.lookup f=k0 d-> ∃v,((gR fs).zip i).lookup (Xg f)=k0 v/\aC Y G H d v
 | [],_,_,e=>by cases e
 | (g,x)::fs,_,⟨v,r,rfl,a,b⟩,e=>by
  rw [Ab7]at e
  show ∃w,(((Str.ofString g),v)::(gR fs).zip r).lookup (Xg f)=k0 w/\_
  rw [Ab7,tW]
  cases q:f==g with
  | true=>rw [q]at e;cases e;exact⟨v,rfl,a⟩
  | false=>rw [q]at e;exact rC b e
theorem XX : ∀ {fs}{a:List V},fs.lookup f=y0->((gR fs).zip a).lookup (Xg f)=y0
 | [],_,_=>rfl
 | (g,x)::fs,[],_=>rfl
 | (g,x)::fs,v::r,e=>by
  rw [Ab7]at e
  show(((Str.ofString g),v)::(gR fs).zip r).lookup (Xg f)=y0
  rw [Ab7,tW]
  cases q:f==g with
  | true=>rw [q]at e;cases e
  | false=>rw [q]at e;exact XX e
theorem qT (rv:aC Y G H d v): ∀ {fs}{j},ab Y G H (fs.map (·.2)) j-> ∃i,ab Y G H ((M.aX f d fs).map (·.2)) i/\L2.aX (Xg f) v ((gR fs).zip j)=(gR (M.aX f d fs)).zip i
 | [],_,z=>by cases z;exact⟨[v],⟨v,[],rfl,rv,rfl⟩,rfl⟩
 | (g,x)::fs,_,⟨u,r,rfl,e,c⟩=>by
  show ∃i,ab Y G H ((if g=f then(g,d)::fs else(g,x)::M.aX f d fs).map (·.2)) i/\(if Str.ofString g=Xg f then(Str.ofString g,v)::(gR fs).zip r else(Str.ofString g,u)::L2.aX (Xg f) v ((gR fs).zip r))=(gR (if g=f then(g,d)::fs else(g,x)::M.aX f d fs)).zip i
  by_cases q:g=f
  .rw [if_pos q,if_pos (congrArg Str.ofString q)]
   exact⟨v::r,⟨v,r,rfl,rv,c⟩,rfl⟩
  .rw [if_neg q,if_neg λz=>q (uK z)]
   obtain⟨i,a,b⟩:=qT rv c
   exact⟨u::i,⟨u,i,rfl,e,a⟩,by rw [b];rfl⟩
end
def Mh (e:Ext G H G1 H1) (a:r<G.n):ak Y G1 H1 (.v (.ref r)) (.ref (G.aS r)):=⟨Ab3 a e.le,by rw [e.aS r a]⟩
def L8 (b:attributeBase o name env (eval o env)=eval o env) (c:methodCallForm args.length (backTo pos (starEach args env)) (backToKw pos (keywordEach [] env))=u0) (a:(apos.endLine==pos.line)=u0):
 eval (.Call (.Attribute o name apos) args [] pos) env=(do
  let i ←eval o env
  standAt apos.atName
  let (f,first) ←holding [i] (getMethod i name (do return (← importBound o env).getD u0))
  callWith pos f first (backTo pos (starEach args env)) (backToKw pos (keywordEach [] env))):=by
 have e1:methodCallForm (args.length+([]:List Keyword).length) _ _=true:=c
 have e2:methodCallPos u0 o env apos pos=pure pos:=by unfold methodCallPos;simp [a]
 rw [arm_eval_Call,b]
 unfold methodCall
 rw [e1]
 simp only [e2,calleeOf,if_true,pure_bind]
def Mq (h: ∀e∈args,wb e=u0) (b:args.length<29):methodCallForm args.length (backTo pos (starEach args env)) (backToKw pos (keywordEach [] env))=true:=by
 unfold methodCallForm
 have e1:(backTo pos (starEach args env)).all (λx=> !x.1)=true:=by
  have:=qs (env:=env) (pos:=pos) h
  rw [Ai6]
  intro x a
  rw [Ak7]at this
  simpa using this x a
 rw [e1]
 have e2:(backToKw pos (keywordEach [] env))= []:=rfl
 rw [e2]
 simp
 lia
def AQ (m:Go Y F X E k cf)(hg:b3 cf.sc c g=u0) (hm:cf.ob.fe.contains (c,q0)=u0) (C: ∀e∈y::ys,wb e=u0) (ha:PA X (y::ys) (fM Y E (M.Gf F es))):
 PE X (.Call g (y::ys) [] pos) (tD Y E (M.eval F (.make c q0 es))):=by
 obtain⟨p0,rfl,g2,g3⟩:=Zc hg
 obtain⟨u,fa,fd,ps,mk,q,bd⟩:=m.fe c q0 hm
 refine PE.imp (El mk q m.d8 (m.gl _ g2) u bd .nil m.pass ha g3 (jb (C _ Aa5)) (qs λe O=>C e (Aa2 _ O))) λU H Q qq=> ?_
 obtain⟨G,τ,h,s,p⟩:=qq
 refine Xs s.heap Ext.refl s p λK R i f t e1 Z j P b=> ?_
 intro a n l I ne
 rw [Ae3]
 have D:aQ t n (.own a) a=none:=by rw [Qa (Ne.symm ne)];exact l
 have x1:Ext f t f (aQ t n (.own a)):=qt _ I
 have L:=j.heap.new (.own a) I
 have x2:Ext f _ f (aQ _ a (.ins (Y.ca c) n [])):=qt _ D
 have S:=L.new (.ins (Y.ca c) n []) D
 have lU:=j.heap.iT l
 have W:=BC S lU (j.heap.gb l) wc
 have B:=zA (x1.trans j.heap x2) l
 have o:=by
  show i.length<f.n+1/\V.ref a= .ref (if i.length=f.n then a else f.aS i.length)
  rw [j.heap.len,if_pos rfl]
  exact⟨Ag _,rfl⟩
 refine⟨f.cell a,i++ [.obj c []],.v (.ref i.length)::K.map M.W.arg,W,⟨.ref a,R,rfl,o,bj.ext B j.heap (Wy P)⟩,λw x=> ?_,?_⟩
 .obtain rfl | x:=Ab8.mp x
  .rfl
  .exact Jz K w x
 .cases J:F.call q0 _ (i++ [.obj c []])with
  | fail=>rw [J]at b;exact b.elim
  | ok w h'=>
   rw [J]at b
   intro T N r z v rv _
   cases w with
   | own _=>exact b.elim
   | bor _=>exact b.elim
   | v d=>
    cases d with
    | au=>
     refine⟨rv,?_⟩
     have b:=b
     have A:=o.1
     exact b T N ((e1.trans s.heap B).trans s.heap r) z _ ⟨Ab3 A r.le,by rw [r.aS _ A];exact o.2⟩ trivial
    | _=>exact b.elim
def CF (i:Go Y F X E k cf)(j:cf.ob.fl.contains (c,f)=u0) (g:xU x=u0) (B:PE X x (tD Y E (M.eval F a))):PE X (.Attribute x (Xg f) pos) (tD Y E (M.eval F (.aJ a c f))):=by
 refine PE.imp (AK B (bB g _)) λU H Q L=> ?_
 obtain⟨G,R,h,s,p⟩:=L
 refine Wa s.heap Ext.refl s p λw v D e O e1 A l t P b=> ?_
 cases q:M.GX D (k0 w)with
 | none=>rw [q]at b;exact b.elim
 | some o=>
  obtain⟨r,z,fs⟩:=o
  rw [q]at b
  dsimp only at b
  split at b
  .rename_i g
   subst g
   obtain⟨d,K,b⟩:=b.of
   obtain⟨C,e2⟩:=wM q
   cases C
   obtain⟨_,y⟩:=(show r<e.n/\v= .ref (e.aS r)from t)
   obtain⟨S,J,N,m,n⟩:=l.heap.obj r _ fs e2
   obtain⟨u,I,rv⟩:=rC n K
   exact⟨e.aS r,Y.ca z,J,_,u,y,m,(i.fld _ _ j).1,(i.fld _ _ j).2,I,ay.val b e1 l.heap rv trivial⟩
  .exact b.elim
def Mi (g:Go Y F X E k cf)(hm:cf.ob.mt.contains (c,m,q0)=u0) (I:(apos.endLine==pos.line)=u0) (u:(y::ys).length<=20) (n:xU x=u0) (ho:PE X x (tD Y E (M.eval F a))) (d: ∀e∈y::ys,wb e=u0) (T:PA X (y::ys) (fM Y E (M.Gf F es))):
 PE X (.Call (.Attribute x (Xg m) apos) (y::ys) [] pos) (tD Y E (M.eval F (.bK a c m q0 es))):=by
 obtain⟨O,fa,fd,ps,V,f,R⟩:=g.ki c m q0 hm
 refine PE.imp (Dk ho O V f g.room R .nil g.pass T (jb (d _ Aa5)) (qs λe K=>d e (Aa2 _ K)) (L8 (bB n _) (Mq d (by lia)) I)) λU H Q S=> ?_
 obtain⟨G,τ,h,s,p⟩:=S
 refine Wa s.heap Ext.refl s p λw v Z l H1 e1 P z L f1 b=> ?_
 cases q:M.GX Z (k0 w)with
 | none=>rw [q]at b;exact b.elim
 | some o=>
  obtain⟨r,c',fs⟩:=o
  rw [q]at b
  dsimp only at b
  split at b
  .rename_i n
   obtain⟨rfl,u⟩:=n
   obtain⟨W,e2⟩:=wM q
   cases W
   obtain⟨i,rfl⟩:=(show r<l.n/\v= .ref (l.aS r)from L)
   obtain⟨nf,dx,us,B,ru⟩:=z.heap.obj r _ fs e2
   refine⟨l.aS r,dx,_,rfl,B,XX (Aj6.mp u),?_⟩
   refine Xs s.heap e1 z b λA J h2 N H2 e2 j C D p2=> ?_
   rw [Ae3]
   refine⟨N,h2,.v _::A.map M.W.arg,C.heap,⟨.ref _,J,rfl,Mh j i,Wy D⟩,λw t=> ?_,av.mk p2 e2 s.heap⟩
   obtain rfl | t:=Ab8.mp t
   .rfl
   .exact Jz A w t
  .exact b.elim
def CW (o:Go Y F X E k cf)(c:(apos.endLine==pos.line)=u0) (l:xU x=u0) (m:PE X x (tD Y E (M.eval F a))):
 PE X (.Call (.Attribute x (Xg "bit_length") apos) [] [] pos) (tD Y E (M.eval F (.fi a))):=by
 refine PE.imp (DD PySem.F.plainAttrs_int slot_int_bit_length type_int_bit_length Lc m (bB l _) c) λU H Q n=> ?_
 obtain⟨G,u,h,s,p⟩:=n
 refine Wa s.heap Ext.refl s p λw v y z r e1 g j e t b=> ?_
 obtain⟨i,f,b⟩:=b.of
 cases e.int f
 have d:Builtin.Int.intBits i=M.Kd i:=by
  unfold Builtin.Int.intBits M.Kd
  by_cases q:i=0
  .rw [if_pos q,if_pos (by rw [q];rfl)]
  .rw [if_neg q,if_neg (by simpa using q)]
 refine⟨rfl,i,rfl,rfl,?_⟩
 rw [d]
 exact ay.val b e1 j.heap rfl trivial
def FK (b:ai Y G h H) (l:dm H H'):Ext G H G H'/\ai Y G h H':=
 ⟨⟨λa o e _=>l a o e,Aa7 _,λ_ _=>rfl,λr f g=>absurd f (Ao.mpr g),λ_ h=>h,λ_ h=> .inl h,λr _ ⟨o,e⟩=>⟨o,l _ _ e⟩⟩,
  ⟨b.len,λr c e=>⟨(b.any r c e).1,(b.any r c e).2.mon ⟨λa o _ e=>l a o e,Aa7 _,λ_ _=>rfl,λ_ h=>h⟩ λo e=>l _ _ e⟩,b.inj,λa d=>(b.live a d).imp λo e=>l _ _ e⟩⟩
def fX (key:Int->M.R M.W) (m:Int):Int:=(M.G7 (key m)).getD 0
theorem q9 : ∀ {is}{b i},M.GW key b (fX key b) is=k0 i->(∀ m∈is,∃y,M.G7 (key m)=k0 y)/\i=fR (fX key) b is
 | [],b,i,h=>⟨λm a=>absurd a Ai4,(Ad6.inj h).symm⟩
 | x::is,b,i,h=>by
  rw [M.GW]at h
  cases q:M.G7 (key x)with
  | none=>rw [q]at h;cases h
  | some y=>
   have e:fX key x=y:=by rw [fX,q];rfl
   rw [q,Ag2]at h
   rw [fR,e]
   by_cases c:y<fX key b
   .rw [if_pos c,←e]at h
    rw [if_pos c]
    obtain⟨d,f⟩:=q9 h
    exact⟨λm a=>(Ab8.mp a).elim (λz=>z▸⟨y,q⟩) (d m),f⟩
   .rw [if_neg c]at h
    rw [if_neg c]
    obtain⟨d,f⟩:=q9 h
    exact⟨λm a=>(Ab8.mp a).elim (λz=>z▸⟨y,q⟩) (d m),f⟩
def Ea (h:M.Kb key o=k0 i): ∃n is,o=k0 (n::is)/\(∀ m∈n::is,∃y,M.G7 (key m)=k0 y)/\i=fR (fX key) n is:=by
 match o,h with
 | some (n::is),h=>
  rw [M.Kb]at h
  cases q:M.G7 (key n)with
  | none=>rw [q]at h;cases h
  | some y=>
   have e:fX key n=y:=by rw [fX,q];rfl
   rw [q,Ag2,←e]at h
   obtain⟨a,b⟩:=q9 h
   exact⟨n,is,rfl,λm c=>(Ab8.mp c).elim (λz=>z▸⟨y,q⟩) (a m),b⟩
def su: "min" ∈cn:=by decide
def Bw (h:M.G7 r=k0 y):r= .ok (.v (.int y)) []:=by
 unfold M.G7 at h
 split at h
 .cases h;rfl
 .cases h
def La (b:Go Y F X E k cf)(d:w.arg=some (Xg "key")) (A:b3 cf.sc f w.value=true) (K:cf.fns.contains f=true) (V:b3 cf.sc "min" g=true) (hx:wb x=true) (he:PE X x (tD Y E (M.eval F a))):
 PE X (.Call g [x] [w] pos) (tD Y E (M.eval F (.fh f a))):=by
 obtain⟨p0,rfl,g2,g3⟩:=Zc V
 obtain⟨wa,wv,wq⟩:=w
 obtain⟨t,e1,N,f3⟩:=Zc A
 have e1:=e1
 have d:=d
 subst e1 d
 obtain⟨T,fa,fd,u,bd,kp,C⟩:=(b.fn f K).imp λT h=>h.ex
 refine PE.imp (EZ (E:=E0) b.calm b.room.hd (b.gl _ g2) (b.blt _ su) (by decide +kernel) u b.d8 (b.gl _ N) C bd (λz H s e s' L=>L.elim) he (jq su) g3 f3 (jb hx)) λU H Q qq=> ?_
 obtain⟨G,τ,h,s,p⟩:=qq
 rw [M.eval]at p
 refine Wa s.heap Ext.refl s p λw v h1 G1 H1 e1 P D r1 f1 t=> ?_
 obtain⟨i,J,t⟩:=t.of
 obtain⟨n,is,O,Z,rfl⟩:=Ea J
 obtain⟨xs,ex,B⟩:=Ag8.mp O
 obtain⟨l,vs,rfl,sq,rd⟩:=r1.lst D.heap ex
 cases zM B rd
 refine⟨l,n,is,fX λx=>F.call f [.v (.int x)] [],rfl,b.K▸sq,λm C H2 _=> ?_,λH2 le=> ?_⟩
 .obtain⟨y,I⟩:=Z m C
  have W:fX (λx=>F.call f [.v (.int x)] []) m=y:=by rw [fX,I];rfl
  refine⟨⟨λ_=>False,λ_=>0,0⟩,[],[.v (.int m)],⟨rfl,λr c e=>by simp at e,λr s j=>absurd j (Ag7 _),λa S=>S.elim⟩,⟨.int m,[],rfl,rfl,rfl⟩,λw d=>by rw [Ac3.mp d];rfl,?_⟩
  rw [Bw I]
  intro G' H' e j v rv _
  have rv:=rv
  exact⟨by rw [rv,W],λa o q=>e.keep a o q λr j=>absurd j (Ag7 _)⟩
 .obtain⟨R,x2⟩:=FK D.heap le
  exact ay.val t (e1.trans s.heap R) x2 rfl trivial
end
def PW.eV (h:PT X (.BoolOp op vs pos) t):PW X (.BoolOp op vs pos) t:=λb a s U H Q I q=>by
 have:=h a s U H Q I q
 exact this
theorem xC : ∀ {es}{xs}{τ}{h}{ds}{h'},bW cf es xs=u0->M.Gx F es τ h= .ok ds h'->ds.length=xs.length
 | .nil,xs,_,_,_,_,c,e=>by
  cases Af8.mp c
  rw [M.Gx]at e;cases e;rfl
 | .cons a es,xs,τ,h,ds,h',c,e=>by
  refine kC (λx r c=> ?_) xs c
  obtain⟨w,f,e1,e⟩:=ji e
  obtain⟨d,i,e2,e⟩:=ji e
  obtain⟨r,g,b,e⟩:=ji e
  cases e
  rw [Aa8,Aa8,xC (a2 c).2 b]
theorem Wh : ∀ {es}{xs},bW cf es xs=u0-> ∀e∈xs,wb e=u0
 | .nil,xs,c=>by
  cases Af8.mp c
  intro e b;cases b
 | .cons a es,xs,c=>by
  refine kC (λx r c=> ?_) xs c
  intro e b
  rcases Ab8.mp b with rfl | b
  .exact(a3 c).1
  .exact Wh (a2 c).2 e b
theorem JJ : ∀ {aB}{xs},jL cf aB xs=u0->aB.length=xs.length
 | [],[],_=>rfl
 | [],_::_,h=>by simp [jL]at h
 | _::_,[],h=>by simp [jL]at h
 | j::a,x::xs,h=>by
  simp only [jL,Aa1]at h
  exact congrArg (· +1) (JJ h.2)
def EJ (h:Qo e f=u0):Jh e=true:=by
 refine zp (λg x l p h=> ?_) e h
 rfl
def Z3 (h:dY cf it e=u0):Jh e=true:=by
 cases it with
 | seq a=>exact(a2 h).1
 | aj a=>exact EJ h
 | enum a=>exact b8 h
 | cv a=>exact b8 h
section
variable {Y:Ge}{F:M.Fx}{k:Nat}
def bo (a:Go Y F X E k cf) (r:PE X x (tD Y E (M.eval F m))) (b: ∀i,isTrue x X.env i=(do let v ←i;standAt x.pos;holding [v] (truthy v))):PE X x (tD Y E (M.eval F m))/\(fQ m=u0->PT X x (cS Y E (M.Gm F m))):=⟨r,λ_=>D3 a r b⟩
mutual
theorem Qc: ∀(m:M.E){X:Cx}{E:XK}{cf:Cf}{e:Expr},Go Y F X E k cf->xc cf m e=u0->PE X e (tD Y E (M.eval F m))/\(fQ m=u0->PT X e (cS Y E (M.Gm F m)))
 | .var i,X,E,cf,e,go,h=>by
  refine JA (λx p h=> ?_) e h
  obtain⟨h1,h2,h3⟩:=fZ h
  exact bo go (B1 go h1 h2 h3) λ_=>rfl
 | .con c,X,E,cf,e,go,h=>by
  have r:=E8 go h
  obtain⟨p,rfl,_,_⟩:=Zc h
  exact bo go r λ_=>rfl
 | .int i,X,E,cf,e,go,h=>by
  refine qF (λx n p h=> ?_) e h
  cases of_decide_eq_true h;exact bo go IC λ_=>rfl
 | .bl i,X,E,cf,e,go,h=>by
  refine qF (λx n p h=> ?_) e h
  cases of_decide_eq_true h;exact bo go Fp λ_=>rfl
 | .au,X,E,cf,e,go,h=>by
  refine qF (λx n p h=> ?_) e h
  cases of_decide_eq_true h;exact bo go Dt λ_=>rfl
 | .str i,X,E,cf,e,go,h=>by
  refine qF (λx n p h=> ?_) e h
  cases of_decide_eq_true h;exact bo go Fu λ_=>rfl
 | .tup es,X,E,cf,e,go,h=>by
  refine nC (λx n p h=> ?_) e h
  obtain⟨h1,h2⟩:=a2 h
  exact bo go (Ie (of_decide_eq_true h1) (λτ hh ds h' q=>xC h2 q) (iK es go h2)) λ_=>rfl
 | .lst es,X,E,cf,e,go,h=>by
  refine D8 (λx p h=> ?_) e h
  obtain⟨h1,h2⟩:=a2 h
  exact bo go (Nc (of_decide_eq_true h1) (λτ hh ds h' q=>xC h2 q) (iK es go h2)) λ_=>rfl
 | .bin o a b,X,E,cf,e,go,h=>by
  refine EH (λx o y p h=> ?_) e h
  obtain⟨h0,ho,h1,h2⟩:=a4 h
  cases of_decide_eq_true h0
  exact bo go (Bh go ho (Qc a go h1).1 (Qc b go h2).1) λ_=>rfl
 | .cmp o a b,X,E,cf,e,go,h=>by
  refine lW (λx o y p h=> ?_) e h
  refine kC (λy r h=> ?_) y h
  obtain⟨h0,ho,hs,h1,h2⟩:=a5 h
  obtain⟨rfl,rfl⟩:=of_decide_eq_true h0
  exact⟨Eo go ho hs (Qc a go h1).1 (Qc b go h2).1,λ_=>He go ho hs (Qc a go h1).1 (Qc b go h2).1⟩
 | .chain o q a b c,X,E,cf,e,go,h=>by
  refine lW (λx o y p h=> ?_) e h
  refine kC (λy r h=> ?_) y h
  refine kC (λz r h=> ?_) r h
  obtain⟨h0,ho,hq,hs,h1,h2,h3⟩:=a7 h
  obtain⟨rfl,rfl⟩:=of_decide_eq_true h0
  exact⟨Cb go ho hq hs (Qc a go h1).1 (Qc b go h2).1 (Qc c go h3).1,λ_=>HJ go ho hq hs (Qc a go h1).1 (Qc b go h2).1 (Qc c go h3).1⟩
 | .fk neg a,X,E,cf,e,go,h=>by
  refine lW (λx o y p h=> ?_) e h
  refine kC (λy r h=> ?_) y h
  refine qF (λj n p h=> ?_) y h
  obtain⟨h0,h1,h2⟩:=a3 h
  obtain⟨rfl,rfl⟩:=of_decide_eq_true h0
  cases of_decide_eq_true h1
  exact⟨L1 (Qc a go h2).1,λ_=>C8 (Qc a go h2).1⟩
 | .neg a,X,E,cf,e,go,h=>by
  refine pH (λo x p h=> ?_) e h
  cases of_decide_eq_true (a2 h).1
  exact bo go (LM (Qc a go (a2 h).2).1) λ_=>rfl
 | .inv a,X,E,cf,e,go,h=>by
  refine pH (λo x p h=> ?_) e h
  cases of_decide_eq_true (a2 h).1
  exact bo go (BA (Qc a go (a2 h).2).1) λ_=>rfl
 | .not a,X,E,cf,e,go,h=>by
  refine pH (λo x p h=> ?_) e h
  cases of_decide_eq_true (a2 h).1
  exact⟨Im go (Qc a go (a2 h).2).1,λt=>FW ((Qc a go (a2 h).2).2 t)⟩
 | .and a b,X,E,cf,e,go,h=>by
  refine rj (λo x p h=> ?_) e h
  refine kC (λx r h=> ?_) x h
  refine kC (λy r h=> ?_) r h
  obtain⟨h0,h1,h2⟩:=a3 h
  cases of_decide_eq_true h0
  cases r with
  | nil=>exact⟨sY go (Qc a go h1).1 (yB (Qc b go h2).1),λt=>(rV ((Qc a go h1).2 (a2 t).1) (Cj ((Qc b go h2).2 (a2 t).2))).pt⟩
  | cons z r=>exact⟨sY go (Qc a go h1).1 (Qc b go h2).1,λt=>(rV ((Qc a go h1).2 (a2 t).1) (PW.eV ((Qc b go h2).2 (a2 t).2))).pt⟩
 | .or a b,X,E,cf,e,go,h=>by
  refine rj (λo x p h=> ?_) e h
  refine kC (λx r h=> ?_) x h
  refine kC (λy r h=> ?_) r h
  obtain⟨h0,h1,h2⟩:=a3 h
  cases of_decide_eq_true h0
  cases r with
  | nil=>exact⟨uS go (Qc a go h1).1 (yB (Qc b go h2).1),λt=>(rQ ((Qc a go h1).2 (a2 t).1) (HS ((Qc b go h2).2 (a2 t).2))).pt⟩
  | cons z r=>exact⟨uS go (Qc a go h1).1 (Qc b go h2).1,λt=>(rQ ((Qc a go h1).2 (a2 t).1) (PW.eV ((Qc b go h2).2 (a2 t).2))).pt⟩
 | .call f es,X,E,cf,e,go,h=>by
  refine zp (λg x l p h=> ?_) e h
  refine kE (λh=> ?_) l h
  obtain⟨h1,h2,h3⟩:=a3 h
  cases x with
  | nil=>
   cases es with
   | cons _ _=>exact b8 h3
   | nil=>
    have r:=CH (pos:=p) go h1 h2
    obtain⟨p,rfl,_,_⟩:=Zc h1
    exact bo go r λ_=>rfl
  | cons x r=>
   have r:=DB (pos:=p) go h1 h2 (Wh h3) (dB es go h3)
   obtain⟨p,rfl,_,_⟩:=Zc h1
   exact bo go r λ_=>rfl
 | .bi b es,X,E,cf,e,go,h=>by
  refine zp (λg x l p h=> ?_) e h
  refine kE (λh=> ?_) l h
  refine kC (λx r h=> ?_) x h
  obtain⟨h1,h2,h3⟩:=a3 h
  have r:=Ir (pos:=p) go h2 h1 (Wh h3) (dB es go h3)
  obtain⟨p,rfl,_,_⟩:=Zc h1
  exact bo go r λ_=>rfl
 | .bZ a t,X,E,cf,e,go,h=>by
  refine zp (λg x l p h=> ?_) e h
  refine kE (λh=> ?_) l h
  refine kC (λx r h=> ?_) x h
  refine kC (λy r h=> ?_) r h
  refine kE (λh=> ?_) r h
  obtain⟨h1,h2,h3,h4,h5⟩:=a5 h
  have r:=Cz (pos:=p) go (of_decide_eq_true h3) h1 h2 h4 (Qc a go h5).1
  obtain⟨p,rfl,_,_⟩:=Zc h1
  exact bo go r λ_=>rfl
 | .ix a b,X,E,cf,e,go,h=>by
  refine gd (λx y p h=> ?_) e h
  obtain⟨h1,h2,h3⟩:=a3 h
  exact bo go (B0 go h1 (Qc a go h2).1 (Qc b go h3).1) λ_=>rfl
 | .sl a lo hi,X,E,cf,e,go,h=>by
  refine gd (λx y p h=> ?_) e h
  refine mH (λl u z p2 h=> ?_) y h
  refine kS (λl h=> ?_) l h
  refine kS (λu h=> ?_) u h
  obtain⟨h0,h1,h2,h3⟩:=a4 h
  cases nn h0
  exact bo go (EA go (Qc a go h1).1 (Qc lo go h2).1 (Qc hi go h3).1) λ_=>rfl
 | .fW a lo,X,E,cf,e,go,h=>by
  refine gd (λx y p h=> ?_) e h
  refine mH (λl u z p2 h=> ?_) y h
  refine kS (λl h=> ?_) l h
  obtain⟨h0,h1,h2,h3⟩:=a4 h
  cases nn h0;cases nn h1
  exact bo go (Eu go (Qc a go h2).1 (Qc lo go h3).1) λ_=>rfl
 | .fc a hi,X,E,cf,e,go,h=>by
  refine gd (λx y p h=> ?_) e h
  refine mH (λl u z p2 h=> ?_) y h
  refine kS (λu h=> ?_) u h
  obtain⟨h0,h1,h2,h3⟩:=a4 h
  cases nn h0;cases nn h1
  exact bo go (E9 go (Qc a go h2).1 (Qc hi go h3).1) λ_=>rfl
 | .fg a,X,E,cf,e,go,h=>by
  refine gd (λx y p h=> ?_) e h
  refine mH (λl u z p2 h=> ?_) y h
  refine kS (λz h=> ?_) z h
  obtain⟨h0,h1,h2,h3⟩:=a4 h
  cases nn h0;cases nn h1
  exact bo go (AU go h2 (Qc a go h3).1) λ_=>rfl
 | .dW a,X,E,cf,e,go,h=>by
  refine zp (λg x l p h=> ?_) e h
  refine kE (λh=> ?_) l h
  refine kC (λx r h=> ?_) x h
  refine kC (λy r h=> ?_) r h
  refine kE (λh=> ?_) r h
  obtain⟨h1,h2,h3,h4⟩:=a4 h
  have r:=K0 (pos:=p) go h1 h2 h3 (Qc a go h4).1
  obtain⟨p,rfl,_,_⟩:=Zc h1
  exact bo go r λ_=>rfl
 | .comp tg one kk aB it k6 c elt,X,E,cf,e,go,h=>by
  refine yx (λy g s p h=> ?_) e h
  refine kC (λg r h=> ?_) g h
  obtain⟨t,iter,ifs,z⟩:=g
  obtain⟨h0,h1,h2,h3,h4,h5,h6⟩:=a7 h
  obtain⟨rfl,rfl⟩:=of_decide_eq_true h0
  simp only [Ai6,decide_eq_true_eq]at h2
  have sc:=zJ h1
  have ht: ∀C fp w H,gJ (Ze X (jy cf t aB) s C fp w H) ifs (cS Y E0 (kN F k6 c)):=λC fp w H=>by
   have gc:=xD go sc C fp w H
   cases k6 with
   | true=>
    refine kC (λz r h=> ?_) ifs h6
    refine kE (λh=> ?_) r h
    exact vO ((Qc c gc (a2 h).2).2 (a2 h).1)
   | false=>
    cases Af8.mp h6
    intro pins s1 U H1 Q I ⟨G,τ,h,st,p⟩
    exact yV pins s1 U H1 Q I (p G H1 Ext.refl st.heap)
  exact bo go (MD go sc (JJ sc.aB) h3 h2 (Z3 h4) (lP it go h4) (λC fp s H=>(Qc elt (xD go sc C fp s H) h5).1) ht) λ_=>rfl
 | .c7,X,E,cf,e,go,h=>by
  refine tK (λx y p h=> ?_) e h
  cases Af8.mp (a2 h).1
  cases Af8.mp (a2 h).2
  exact bo go Ho λ_=>rfl
 | .eZ i a,X,E,cf,e,go,h=>by
  refine gd (λg y p h=> ?_) e h
  refine JA (λx p1 h=> ?_) g h
  obtain⟨h0,h4,h5⟩:=a3 h
  obtain⟨h1,h2,h3⟩:=fZ h0
  exact bo go (Mz go h1 h2 h3 h4 (Qc a go h5).1) λ_=>rfl
 | .cR neg a i,X,E,cf,e,go,h=>by
  refine lW (λx o y p h=> ?_) e h
  refine kC (λy r h=> ?_) y h
  refine JA (λy p1 h=> ?_) y h
  obtain⟨h0,h1,h4⟩:=a3 h
  obtain⟨rfl,rfl⟩:=of_decide_eq_true h0
  obtain⟨h1,h2,h3⟩:=fZ h1
  exact⟨Mv go h1 h2 h3 (Qc a go h4).1,λ_=>AJ go h1 h2 h3 (Qc a go h4).1⟩
 | .fK k1 a k2 b k3 c i,X,E,cf,e,go,h=>by
  refine gd (λd y p h=> ?_) e h
  refine tK (λks vs p0 h=> ?_) d h
  refine JA (λx p1 h=> ?_) y h
  refine kC (λq1 ks h=> ?_) ks h
  refine kC (λq2 ks h=> ?_) ks h
  refine kC (λq3 ks h=> ?_) ks h
  refine kE (λh=> ?_) ks h
  refine kC (λv1 vs h=> ?_) vs h
  refine kC (λv2 vs h=> ?_) vs h
  refine kC (λv3 vs h=> ?_) vs h
  refine kE (λh=> ?_) vs h
  obtain⟨g1,g2⟩:=a2 h
  obtain⟨h0,h4,h5,h6⟩:=a4 g1
  obtain⟨h7,h8,h9,h10⟩:=a4 g2
  obtain⟨h1,h2,h3⟩:=fZ h0
  exact bo go (F4 go h1 h2 h3 h4 h5 h6 (of_decide_eq_true h7) (Qc a go h8).1 (Qc b go h9).1 (Qc c go h10).1) λ_=>rfl
 | .ef i,X,E,cf,e,go,h=>by
  refine zp (λg x l p h=> ?_) e h
  refine kE (λh=> ?_) l h
  refine kC (λx r h=> ?_) x h
  refine kE (λh=> ?_) r h
  obtain⟨h0,h1⟩:=a2 h
  refine JA (λx p1 h=> ?_) x h1
  obtain⟨h1,h2,h3⟩:=fZ h
  exact bo go (DY go h0 h1 h2 h3) λ_=>rfl
 | .share a,X,E,cf,e,go,h=>⟨M6 (Qc a go h).1,λt=>b8 t⟩
 | .b4 a,X,E,cf,e,go,h=>by
  refine zp (λg x l p h=> ?_) e h
  refine kE (λh=> ?_) l h
  refine kC (λx r h=> ?_) x h
  refine kE (λh=> ?_) r h
  refine zp (λg2 x l p2 h=> ?_) x h
  refine kE (λh=> ?_) l h
  refine kC (λx r h=> ?_) x h
  refine kE (λh=> ?_) r h
  obtain⟨h1,h2,h3,h4⟩:=a4 h
  exact bo go (KZ go h1 h2 h3 (Qc a go h4).1) λ_=>rfl
 | .dN s ts,X,E,cf,e,go,h=>by
  refine zp (λg x l p h=> ?_) e h
  refine kE (λh=> ?_) l h
  refine kC (λx r h=> ?_) x h
  refine kE (λh=> ?_) r h
  refine WU (λo n q h=> ?_) g h
  refine qF (λc k1 p1 h=> ?_) o h
  refine qF (λc2 k2 p2 h=> ?_) x h
  obtain⟨h1,h2,h3,h4,h5⟩:=a5 h
  cases of_decide_eq_true h1
  cases of_decide_eq_true h2
  cases of_decide_eq_true h3
  exact bo go (MT go h4 h5) λ_=>rfl
 | .make c q es,X,E,cf,e,go,h=>by
  refine zp (λg x l p h=> ?_) e h
  refine kE (λh=> ?_) l h
  refine kC (λx r h=> ?_) x h
  obtain⟨h1,h2,h3⟩:=a3 h
  exact bo go (AQ go h1 h2 (Wh h3) (dB es go h3)) λ_=>rfl
 | .aJ a c f,X,E,cf,e,go,h=>by
  refine WU (λx n q h=> ?_) e h
  obtain⟨h0,h1,h2,h3⟩:=a4 h
  cases of_decide_eq_true h0
  exact bo go (CF go h1 h2 (Qc a go h3).1) λ_=>rfl
 | .bK a c m q es,X,E,cf,e,go,h=>by
  refine zp (λg ys l p h=> ?_) e h
  refine kE (λh=> ?_) l h
  refine WU (λx n p2 h=> ?_) g h
  obtain⟨h0,h1,h2,h3,h4,h5,h6⟩:=a7 h
  cases of_decide_eq_true h0
  revert h3
  refine kC (λy ys h6 h3=> ?_) ys h6
  exact bo go (Mi go h1 h2 (of_decide_eq_true h3) h4 (Qc a go h5).1 (Wh h6) (dB es go h6)) λ_=>rfl
 | .fi a,X,E,cf,e,go,h=>by
  refine zp (λg ys l p h=> ?_) e h
  refine kE (λh=> ?_) l h
  refine kE (λh=> ?_) ys h
  refine WU (λx n p2 h=> ?_) g h
  obtain⟨h0,h1,h2,h3⟩:=a4 h
  cases of_decide_eq_true h0
  exact bo go (CW go h1 h2 (Qc a go h3).1) λ_=>rfl
 | .fh f a,X,E,cf,e,go,h=>by
  refine zp (λg ys l p h=> ?_) e h
  refine kC (λx r h=> ?_) ys h
  refine kE (λh=> ?_) r h
  refine kC (λw r h=> ?_) l h
  refine kE (λh=> ?_) r h
  obtain⟨h0,h1,h2,h3,h4,h5⟩:=a6 h
  exact bo go (La go (of_decide_eq_true h0) h1 h2 h3 h4 (Qc a go h5).1) λ_=>rfl
 | .dG m a es,X,E,cf,e,go,h=>by
  refine zp (λg x l p h=> ?_) e h
  refine kE (λh=> ?_) l h
  refine kC (λx r h=> ?_) x h
  refine kE (λh=> ?_) r h
  refine WU (λo n q h=> ?_) g h
  obtain⟨h1,h2,h3,h4,h5,h6⟩:=a6 h
  cases of_decide_eq_true h1
  exact bo go (Hg go h2 h3 h4 (Wh h6 _ Aa5) (Qc a go h5).1 (dB es go h6)) λ_=>rfl
theorem iK: ∀(es:M.Es){X:Cx}{E:XK}{cf:Cf}{xs:List Expr},Go Y F X E k cf->bW cf es xs=u0->PA X xs (iD Y E (M.Gx F es))
 | .nil,X,E,cf,xs,go,h=>by
  cases Af8.mp h
  exact AF
 | .cons a es,X,E,cf,xs,go,h=>by
  refine kC (λx r h=> ?_) xs h
  obtain⟨h1,h2,h3⟩:=a3 h
  exact FE h1 (Qc a go h2).1 (iK es go h3)
theorem dB: ∀(es:M.Es){X:Cx}{E:XK}{cf:Cf}{xs:List Expr},Go Y F X E k cf->bW cf es xs=u0->PA X xs (fM Y E (M.Gf F es))
 | .nil,X,E,cf,xs,go,h=>by
  cases Af8.mp h
  exact Hd
 | .cons a es,X,E,cf,xs,go,h=>by
  refine kC (λx r h=> ?_) xs h
  obtain⟨h1,h2,h3⟩:=a3 h
  exact A5 h1 (Qc a go h2).1 (dB es go h3)
theorem lP: ∀(it:M.It){X:Cx}{E:XK}{cf:Cf}{tg e:Expr},Go Y F X E k cf->dY cf it e=u0->PI X tg e (gr Y E k9 (M.Gk F it))
 | .seq a,X,E,cf,tg,e,go,h=>BB go (Qc a go (a2 h).2).1
 | .aj a,X,E,cf,tg,e,go,h=>by
  refine zp (λg x l p h=> ?_) e h
  refine kE (λh=> ?_) l h
  refine kC (λx r h=> ?_) x h
  refine kE (λh=> ?_) r h
  obtain⟨h1,h2,h3⟩:=a3 h
  exact XL go h1 h2 (Qc a go h3).1
 | .enum a,X,E,cf,tg,e,go,h=>b8 h
 | .cv a,X,E,cf,tg,e,go,h=>b8 h
end
end
structure Bs where
 G:Gh
 H:Hp
 h:M.AH
structure br (Y:Ge) (B:Bs) (G:Gh) (τ:M.Sl) (h:M.AH) (U:St) (H:Hp):Prop where
 st:aq Y G τ h U H
 ext:Ext B.G B.H G H
 hr:ai Y B.G B.h B.H
 own: ∀i xs a,M.Gn τ i=k0 (.own xs)->U[i]? =k0 (k0 (.ref a))->B.H a=y0
def Jv (Y:Ge) (E:XK) (B:Bs) (o:M.O) (D:ir):Prop:=match o with
 | .next τ h=> ∀G U H,br Y B G τ h U H->D.nx U H
 | .ret w h=> ∀G v H,Ext B.G B.H G H->ai Y G h H->ak Y G H w v->aK [] [] B.H w v->D.rt v H
 | .brk τ h=> ∀G U H,br Y B G τ h U H->D.bk U H
 | .cont τ h=> ∀G U H,br Y B G τ h U H->D.ct U H
 | .fail=>False
def cL (Y:Ge) (E:XK) (m:M.Sl->M.AH->M.O):TS:=λD U H=> ∃B G τ h,br Y B G τ h U H/\Jv Y E B (m τ h) D
def PS.imp {st:Stmt}(h:PS X st t) (k: ∀D U H,t' D U H->t D U H):PS X st t':=λa s U H D I q=>h a s U H D I (k _ _ _ q)
def dk.imp {st:List Stmt}(h:dk X st t) (k: ∀D U H,t' D U H->t D U H):dk X st t':=λa s U H D I q=>h a s U H D I (k _ _ _ q)
section
variable {Y:Ge}{E:XK}{B:Bs}{G G1:Gh}{τ:M.Sl}{h h1:M.AH}{U:St}{H H1:Hp}{D:ir}
def br.on (s:br Y B G τ h U H) (e:Ext G H G1 H1) (a:ai Y G1 h1 H1):br Y B G1 τ h1 U H1:=⟨s.st.ext e a,s.ext.trans s.hr e,s.hr,s.own⟩
def Xc (s:br Y B G τ h U H) (p:Jv Y E B ((m τ h).cA f) D)
 (k: ∀w v h1 G1 H1,Ext G H G1 H1->br Y B G1 τ h1 U H1->ak Y G1 H1 w v->aK τ U H w v->Jv Y E B (f w h1) D->Q v H1):tD Y E m U H Q:=by
 refine⟨G,τ,h,s.st,?_⟩
 cases q:m τ h with
 | ok w h1=>rw [q]at p;exact λG1 H1 e c v a b=>k w v h1 G1 H1 e (s.on e c) a b p
 | fail=>rw [q]at p;exact p
def uN (s:br Y B G τ h U H) (p:Jv Y E B ((m τ h).cA f) D)
 (k: ∀b h1 G1 H1,Ext G H G1 H1->br Y B G1 τ h1 U H1->Jv Y E B (f b h1) D->Q b H1):cS Y E m U H Q:=by
 refine⟨G,τ,h,s.st,?_⟩
 cases q:m τ h with
 | ok w h1=>rw [q]at p;exact λG1 H1 e a=>k w h1 G1 H1 e (s.on e a) p
 | fail=>rw [q]at p;exact p
theorem br.set (k:br Y B G τ h U H) (e:Ext G H G1 H1) (s:br Y B G1 τ h1 U H1) (r:ak Y G1 H1 w v) (f:aK τ U H w v) (u: ∀xs,w≠ .bor xs):br Y B G1 (M.GB τ i w) h1 (U.set i (k0 v)) H1:=by
 refine⟨s.st.set r λq j x p e1 g a t z=> ?_,s.ext,s.hr,λj xs a e1 e2=> ?_⟩
 .cases w with
  | v d=>cases q
  | bor xs=>exact u xs rfl
  | own xs=>
   obtain⟨b,l,m⟩:=f
   subst t
   cases l
   obtain⟨o,n⟩:=k.st.cP e1 g z
   rw [m]at n;cases n
 .rw [Zm]at e1
  by_cases c:j=i/\i<τ.length
  .rw [if_pos c]at e1
   cases e1
   obtain⟨rfl,c⟩:=c
   rw [Ab9 (by rw [← s.st.len];exact c)]at e2
   cases e2
   obtain⟨b,l,m⟩:=f
   cases l
   exact k.ext.none k.hr m
  .rw [if_neg c]at e1
   have p:=λz=>c ⟨z,by subst z;exact Xx e1⟩
   rw [Ae4 (Ne.symm p)]at e2
   exact s.own j xs a e1 e2
def br.fz (a:br Y B G τ h U H) (e:Ext G H G1 H1) (s:br Y B G1 τ h1 U H1) (r:ak Y G1 H1 w v) (f:aK τ U H w v) (c:w.d=k0 d): ∃G2,Ext G H G2 H1/\br Y B G2 τ h1 U H1/\aC Y G2 H1 d v:=by
 obtain⟨G2,e2,b,rd,_⟩:=pK e s.st a.st r f c
 exact⟨G2,e2,⟨b,a.ext.trans a.hr e2,s.hr,s.own⟩,rd⟩
def br.ej (s:br Y B G τ h U H) (r:aC Y G H d v):br Y B G (M.GB τ i (.v d)) h (U.set i (k0 v)) H:=br.set s Ext.refl s r trivial λa z=>by cases z
theorem br.aZ: ∀ {is}{ds}{vs}{τ j}{U},M.aZ is ds τ=k0 j->ab Y G H ds vs->br Y B G τ h U H->br Y B G j h (gD is vs U) H/\is.length=vs.length
 | [],[],_,_,_,_,e,rfl,s=>by cases e;exact⟨s,rfl⟩
 | [],_::_,_,_,_,_,e,_,_=>by simp [M.aZ]at e
 | _::_,[],_,_,_,_,e,_,_=>by simp [M.aZ]at e
 | i::is,d::ds,_,_,_,_,e,⟨v,r,rfl,a,b⟩,s=>by
  obtain⟨c,f⟩:=br.aZ (by simpa [M.aZ]using e) b (s.ej a)
  exact⟨c,congrArg (· +1) f⟩
def yb (e:M.Gr tg one d τ=k0 τ') (r:aC Y G H d x) (s:br Y B G τ h U H) (b: ∀j,br Y B G τ' h j H->Q j H):gM Y tg one x U H Q:=by
 cases one with
 | true=>
  cases tg with
  | nil=>cases e
  | cons i f=>
   cases f with
   | cons _ _=>cases e
   | nil=>
    cases e
    exact⟨i,rfl,b _ (s.ej r)⟩
 | false=>
  cases d with
  | tup l=>
   obtain⟨a,m,rfl,g,c⟩:=r
   obtain⟨n,k⟩:=br.aZ (e) c s
   exact⟨G,l,m,a,rfl,g,c,k,b _ n⟩
  | _=>cases e
def br.write (s:br Y B G τ h U H) (f:M.Gn τ i=k0 (.own xs)) (n:U[i]? =k0 (k0 (.ref a))) (r:ab Y G H ys us):br Y B G (M.GB τ i (.own ys)) h U (aQ H a (.lst us)):=by
 obtain⟨O,of,Z,ha,_⟩:=Qt s.st f n
 have P:=s.own i xs a f n
 have mon:Mon G H G (aQ H a (.lst us)):=⟨λb o z q=>by rw [Qa (λe:b=a=>O (e▸z))];exact q,Aa7 _,λ_ _=>rfl,λ_ z=>z⟩
 have V:=Xx f
 have L:ai Y G h (aQ H a (.lst us)):=by
  refine⟨s.st.heap.len,λq c e=>⟨(s.st.heap.any q c e).1,(s.st.heap.any q c e).2.mon mon λo z=>by rw [Qa (of q (s.st.heap.lt e))];exact z⟩,s.st.heap.inj,λb z=> ?_⟩
  obtain⟨o,q⟩:=s.st.heap.live b z
  exact⟨o,by rw [Qa (λe:b=a=>O (e▸z))];exact q⟩
 refine⟨⟨by rw [xx];exact s.st.len,λj w e=> ?_,λp q I w b N k l R T=> ?_,L⟩,⟨λb o q D=> ?_,s.ext.le,s.ext.aS,s.ext.new,s.ext.fz,s.ext.old,λq A z=> ?_⟩,s.hr,λj I b k l=> ?_⟩
 .rw [Zm]at e
  by_cases c:j=i/\i<τ.length
  .rw [if_pos c]at e
   cases e
   obtain⟨rfl,_⟩:=c
   exact⟨.ref a,n,a,us,rfl,O,of,wc,r.mon mon⟩
  .rw [if_neg c]at e
   have Q:=λz=>c ⟨z,by subst z;exact Xx e⟩
   obtain⟨v,E,J⟩:=s.st.slot j w e
   refine⟨v,E,?_⟩
   cases w with
   | v d=>exact aC.mon mon J
   | own X=>
    obtain⟨b,bs,rfl,W,x,m,K⟩:=J
    have u:b≠a:=λz=>s.st.apart i j xs _ a (Ne.symm Q) f e rfl n (z▸E)
    exact⟨b,bs,rfl,W,x,by rw [Qa u];exact m,K.mon mon⟩
   | bor X=>
    obtain⟨b,bs,rfl,x,m,K⟩:=J
    have u:b≠a:=λz=>s.st.apart i j xs _ a (Ne.symm Q) f e rfl n (z▸E)
    refine⟨b,bs,rfl,x,?_,K.mon mon⟩
    obtain m | ⟨o,m⟩:=m
    .exact .inl (by rw [Qa u];exact m)
    .exact .inr ⟨o,by rw [Qa u];exact m⟩
 .rw [Zm]at k l
  have F: ∃g,M.Gn τ p=k0 (.own g):=by
   by_cases c:p=i/\i<τ.length
   .exact⟨xs,by rw [c.1];exact f⟩
   .rw [if_neg c]at k;exact⟨I,k⟩
  have C: ∃t,M.Gn τ q=k0 t/\dW t=true:=by
   by_cases c:q=i/\i<τ.length
   .exact⟨.own xs,by rw [c.1];exact f,rfl⟩
   .rw [if_neg c]at l;exact⟨w,l,R⟩
  obtain⟨g,F⟩:=F
  obtain⟨t,C,y⟩:=C
  exact s.st.apart p q g t b N F C y T
 .rw [Qa (λe:b=a=>by rw [e,P]at q;cases q)]
  exact s.ext.keep b o q D
 .obtain⟨o,S⟩:=s.ext.cells q A z
  have:B.G.aS q≠a:=λe=>by
   have:=of q (Ab3 A s.ext.le)
   rw [s.ext.aS q A]at this
   exact this e
  exact⟨o,by rw [Qa this];exact S⟩
 .rw [Zm]at k
  by_cases c:j=i/\i<τ.length
  .obtain⟨rfl,_⟩:=c
   rw [n]at l
   cases l
   exact P
  .rw [if_neg c]at k;exact s.own j I b k l
theorem XB: ∀(xs) (n){d},M.Gc xs=u0->M.Gd d=u0->M.Gc (xs.set n d)=u0
 | [],_,_,_,_=>rfl
 | x::xs,0,d,h,a=>by
  have h:=h
  rw [Aa1]at h
  show(M.Gd d&&M.Gc xs)=u0
  rw [a,h.2];rfl
 | x::xs,n+1,d,h,a=>by
  have h:=h
  rw [Aa1]at h
  show(M.Gd x&&M.Gc (xs.set n d))=u0
  rw [h.1,XB xs n h.2 a];rfl
def br.fV (s:br Y B G τ h U H) (p:h[r]? =k0 c0) (z:bC Y G (aQ H (G.aS r) o1) (G.aS r) c1):br Y B G τ (h.set r c1) U (aQ H (G.aS r) o1):=by
 have t:=(Aa0.mp p).1
 have g:=s.st.heap.lt p
 have n:=s.st.heap.lU g
 have mon:Mon G H G (aQ H _ o1):=⟨λb o w q=>by rw [Qa (λe:b=G.aS r=>n (e▸w))];exact q,Aa7 _,λ_ _=>rfl,λ_ w=>w⟩
 have m:ai Y G (h.set r c1) (aQ H (G.aS r) o1):=by
  refine⟨by rw [Ae1];exact s.st.heap.len,λq c e=> ?_,s.st.heap.inj,λb w=> ?_⟩
  .by_cases c:q=r
   .subst c
    rw [Ab9 t]at e
    cases e
    exact⟨n,z⟩
   .rw [Ae4 (Ne.symm c)]at e
    exact⟨(s.st.heap.any q _ e).1,(s.st.heap.any q _ e).2.mon mon λo w=>by rw [Qa λx=>c (s.st.heap.inj q r (s.st.heap.lt e) g x)];exact w⟩
  .obtain⟨o,q⟩:=s.st.heap.live b w
   exact⟨o,by rw [Qa (λe:b=G.aS r=>n (e▸w))];exact q⟩
 refine⟨⟨s.st.len,λj w e=> ?_,s.st.apart,m⟩,⟨λb o q i=> ?_,s.ext.le,s.ext.aS,s.ext.new,s.ext.fz,s.ext.old,λq u w=> ?_⟩,s.hr,s.own⟩
 .obtain⟨v,y,k⟩:=s.st.slot j w e
  refine⟨v,y,?_⟩
  cases w with
  | v d=>exact aC.mon mon k
  | own E=>
   obtain⟨b,bs,rfl,D,f,a,l⟩:=k
   exact⟨b,bs,rfl,D,f,by rw [Qa (Ne.symm (f r g))];exact a,l.mon mon⟩
  | bor E=>
   obtain⟨b,bs,rfl,f,a,l⟩:=k
   refine⟨b,bs,rfl,f,?_,l.mon mon⟩
   obtain a | ⟨o,a⟩:=a
   .exact .inl (by rw [Qa (Ne.symm (f r g))];exact a)
   .exact .inr ⟨o,by rw [Qa (Ne.symm (f r g))];exact a⟩
 .have C:b≠G.aS r:=λe=>by
   by_cases c:r<B.G.n
   .exact i r c (by rw [← s.ext.aS r c];exact e.symm)
   .have:=s.ext.new r (Nat.not_lt.mp c) g
    rw [← e,q]at this
    cases this
  rw [Qa C]
  exact s.ext.keep b o q i
 .by_cases c:B.G.aS q=G.aS r
  .exact⟨_,by rw [c];exact wc⟩
  .obtain⟨o,A⟩:=s.ext.cells q u w
   exact⟨o,by rw [Qa c];exact A⟩
def qU (a:ai Y G h H) (c:r<G.n) (o):Mon G H G (aQ H (G.aS r) o):=⟨λb o w q=>by rw [Qa (λe:b=G.aS r=>a.lU c (e▸w))];exact q,Aa7 _,λ_ _=>rfl,λ_ w=>w⟩
def br.cell (s:br Y B G τ h U H) (a:h[r]? =k0 (.lst xs)) (b:M.Gc ys=u0) (z:ab Y G H ys us):br Y B G τ (h.set r (.lst ys)) U (aQ H (G.aS r) (.lst us)):=
 s.fV a ⟨b,us,wc,z.mon (qU s.st.heap (s.st.heap.lt a) _)⟩
def br.hJ (s:br Y B G τ h U H) (a:h[r]? =k0 (.obj c0 xs)) (z:ab Y G H (ys.map (·.2)) us):br Y B G τ (h.set r (.obj c0 ys)) U (aQ H (G.aS r) (.ins (Y.ca c0) dx0 ((ys.map λp=>Str.ofString p.1).zip us))):=
 s.fV a ⟨dx0,us,wc,z.mon (qU s.st.heap (s.st.heap.lt a) _)⟩
end
structure md (Y:Ge) (F:M.Fx) (X:Cx) (E:XK) (k:Nat) (cf:Cf):Prop extends Go Y F X E k cf where
 iF:PassesOwn (model X.prog X.w) X.A X.env X.xe
 m9:X.stack=X.env::X.outer
 HB:X.env.frame=k0 X.env.locals
 ex:X.ex= []
section
variable {Y:Ge}{F:M.Fx}{X:Cx}{E:XK}{k:Nat}{cf:Cf}
def qI (h:JG cf i x=u0):cf.N[i]? =k0 x/\ig cf.sc x=true:=by
 simpa [JG]using h
def EB (x:tD Y E (M.eval F (.share a)) U H Q):tD Y E (M.eval F a) U H Q:=by
 obtain⟨G,B,h,s,p⟩:=x
 refine Wa s.heap Ext.refl s p λw v1 e g A e1 t i m r b=> ?_
 cases w with
 | own c=>
  obtain⟨l,z,rfl,u,o,n,q⟩:=m
  obtain⟨y,k,j⟩:=r
  cases k
  have b:ay Y E G H (if M.Gc c=u0 then M.ag _ (e++ [.lst c])else .fail) _:=b
  by_cases f:M.Gc c=u0
  rotate_left
  .rw [if_neg f]at b;exact b.elim
  rw [if_pos f]at b
  refine ay.val b (zA e1 j) (Q0 i.heap u o n q f) ?_ trivial
  show e.length<g.n+1/\V.ref l= .ref (if e.length=g.n then l else g.aS e.length)
  rw [i.heap.len,if_pos rfl]
  exact⟨Ag _,rfl⟩
 | v d=>exact b.elim
 | bor c=>exact b.elim
def jm (h:xE v=u0):swapsWith v t l env=pure false:=by
 cases v<;>first | rfl | (simp [xE]at h)
def xQ :swapsWith v (k0 (.Attribute o n p)) l env=pure false:=by cases v<;>rfl
def zX (b:Go Y F X E k cf)(a:JG cf i x=u0) (c:PE X v (tD Y E (M.eval F m))) (d:swapsWith v (k0 (.Name x p)) pos.line X.env=pure k9):
 PS X (.Assign [.Name x p] v pos) (ia (tD Y E (M.eval F m)) (zY i)):=by
 obtain⟨e,f⟩:=qI a
 have a:=b.iZ x f
 exact Fb (by rw [b.N];exact b.nd) (by rw [b.N];exact e) a.1 c d a.2
def yw:M.E->Bool
 | .share _=>u0
 | .comp .. =>u0
 | _=>k9
def Hw (h:xc cf m v=u0) (a:yw m=k9):xE v=true:=by
 cases v with
 | ListComp _ _ _ _=>cases m<;>first | exact b8 h | (exact absurd (a) Ap8)
 | SetComp _ _ _ _=>cases m<;>first | exact b8 h | (exact absurd (a) Ap8)
 | DictComp _ _ _ _ _=>cases m<;>first | exact b8 h | (exact absurd (a) Ap8)
 | _=>rfl
def HQ (d:Cf) (a:Bool) (b:List Expr) (c:M.E):Bool:=bif a then(lC b λz r=>kZ r (fQ c&&xc d c z))else b.isEmpty
def LI (h:xc cf (.comp tg one kk aB it k6 c elt) v=u0): ∃y t iter ifs scope p0,v= .ListComp y [⟨t,iter,ifs,0⟩] scope p0 ∧
 kg cf scope (jy cf t aB) kk aB/\(∀ i∈tg,i<kk)/\zg { cf with sc:=scope,N:=jy cf t aB } tg one t=u0/\dY cf it iter=u0/\xc { cf with sc:=scope,N:=jy cf t aB } elt y=u0 ∧
 HQ { cf with sc:=scope,N:=jy cf t aB } k6 ifs c=true:=by
 refine yx (λy g s p h=> kC (λg r h=> ?_) g h) v h
 obtain⟨t,iter,ifs,z⟩:=g
 obtain⟨k,e,a,f,d,j,b⟩:=a7 h
 obtain⟨rfl,rfl⟩:=of_decide_eq_true k
 simp [decide_eq_true_eq]at a
 exact⟨y,t,iter,ifs,s,p,rfl,zJ e,a,f,d,j,b⟩
def HM (e:Go Y F X E k cf)(m:JG cf i x=u0)(h:xc cf (.comp tg one kk aB it k6 c elt) v=u0):
 PS X (.Assign [.Name x p] v pos) (ia (tD Y E (M.eval F (.comp tg one kk aB it k6 c elt))) (zY i)):=by
 obtain⟨y,t,f,d,a,D,rfl,l,L,K,o,N,n⟩:=LI h
 obtain⟨b,u⟩: ∃b,swapsWith (.ListComp y [⟨t,f,d,0⟩] a D) (k0 (.Name x p)) pos.line X.env=pure b:=⟨_,rfl⟩
 cases b with
 | false=>exact zX e m ((Qc _ e h).1) u
 | true=>
  obtain⟨A,O⟩:=qI m
  have B: ∀C j s H,gJ (Ze X _ a C j s H) d (cS Y E0 (kN F k6 c)):=λC j s H=>by
   cases k6 with
   | true=>
    exact kC (λz r h=> kE (λh=> vO ((Qc c (xD e l C j s H) (a2 h).2).2 (a2 h).1)) r h) d n
   | false=>
    cases Af8.mp n
    intro g J U q Q I ⟨G,P,h,w,p⟩
    exact yV g J U q Q I (p G q Ext.refl w.heap)
  exact X6 e A O u l (JJ l.aB) K L (Z3 o) (lP it e o) (λC j s H=>(Qc elt (xD e l C j s H) N).1) B
def Jb (a:Go Y F X E k cf)(c:JG cf i x=u0)(h:xc cf m v=u0) (b:yw m=k9):PS X (.Assign [.Name x p] v pos) (ia (tD Y E (M.eval F m)) (zY i)):=
 zX a c (Qc m a h).1 (jm (Hw h b))
theorem pj (c:Go Y F X E k cf)(b:JG cf i x=u0): ∀ m,xc cf m v=u0->PS X (.Assign [.Name x p] v pos) (ia (tD Y E (M.eval F m)) (zY i))
 | .share a,h=>PS.imp (pj c b a h) λD U H q=>EB q
 | .comp ..,h=>HM c b h
 | .c7,h=>Jb c b h rfl
 | .eZ ..,h=>Jb c b h rfl
 | .cR ..,h=>Jb c b h rfl
 | .ef _,h=>Jb c b h rfl
 | .fK ..,h=>Jb c b h rfl
 | .var _,h=>Jb c b h rfl
 | .con _,h=>Jb c b h rfl
 | .int _,h=>Jb c b h rfl
 | .bl _,h=>Jb c b h rfl
 | .au,h=>Jb c b h rfl
 | .str _,h=>Jb c b h rfl
 | .tup _,h=>Jb c b h rfl
 | .lst _,h=>Jb c b h rfl
 | .bin ..,h=>Jb c b h rfl
 | .cmp ..,h=>Jb c b h rfl
 | .chain ..,h=>Jb c b h rfl
 | .fk ..,h=>Jb c b h rfl
 | .neg _,h=>Jb c b h rfl
 | .inv _,h=>Jb c b h rfl
 | .not _,h=>Jb c b h rfl
 | .and ..,h=>Jb c b h rfl
 | .or ..,h=>Jb c b h rfl
 | .call ..,h=>Jb c b h rfl
 | .bi ..,h=>Jb c b h rfl
 | .bZ ..,h=>Jb c b h rfl
 | .dW _,h=>Jb c b h rfl
 | .fg _,h=>Jb c b h rfl
 | .ix ..,h=>Jb c b h rfl
 | .sl ..,h=>Jb c b h rfl
 | .fW ..,h=>Jb c b h rfl
 | .fc ..,h=>Jb c b h rfl
 | .b4 _,h=>Jb c b h rfl
 | .dN ..,h=>Jb c b h rfl
 | .dG ..,h=>Jb c b h rfl
 | .make ..,h=>Jb c b h rfl
 | .aJ ..,h=>Jb c b h rfl
 | .bK ..,h=>Jb c b h rfl
 | .fi ..,h=>Jb c b h rfl
 | .fh ..,h=>Jb c b h rfl
def EG (n:Go Y F X E k cf)(l:JG cf i x=u0)(h:xc cf m v=u0):PS X (.Assign [.Name x p] v pos) (cL Y E (M.exec F (.set i m))):=by
 refine PS.imp (pj n l m h) λD U H o=> ?_
 obtain⟨B,G,q,h,s,p⟩:=o
 refine Xc s p λw v r g e e1 j b f a=> ?_
 cases w with
 | bor c=>exact a.elim
 | v d=>exact a g _ e (br.set s e1 j b f λc z=>by cases z)
 | own t=>exact a g _ e (br.set s e1 j b f λc z=>by cases z)
def Ll (g:Go Y F X E k cf)(c:JG cf i x=u0)(h:xc cf m v=u0):PS X (.Assign [.Name x p] v pos) (cL Y E (M.exec F (.af i m))):=by
 refine PS.imp (pj g c m h) λD U H o=> ?_
 obtain⟨B,G,r,h,s,p⟩:=o
 refine Xc s p λw v t u j e1 n e l a=> ?_
 cases q:w.d with
 | none=>rw [q]at a;exact a.elim
 | some d=>
  rw [q]at a
  obtain⟨f,e2,b,rd⟩:=br.fz s e1 n e l q
  exact a f _ j (b.ej rd)
def j2 :swapsWithSole [.Tuple ts n p] v l env=pure false:=by
 cases v<;>rfl
def xI (h:Xk v=u0):swappedStores [.Tuple ts n p] v env=pure none:=by
 cases v<;>first | rfl | (simp [Xk]at h)
def CK (f:Go Y F X E k cf)(o:Wv cf is ts=u0) (u:Xk v=u0)(h:xc cf m v=u0):PS X (.Assign [.Tuple ts n p] v pos) (cL Y E (M.exec F (.eE is m))):=by
 refine PS.imp (XY (Qc m f h).1 (qB f (one:=k9) o) j2 (xI u) rfl) λD U H y=> ?_
 obtain⟨B,G,e,h,s,p⟩:=y
 refine Xc s p λw v r t j e1 x i z a=> ?_
 cases w with
 | v d=>
  cases d with
  | tup c=>
   have a:Jv Y E B (match M.aZ is c e with | some b=> .next b r | none=> .fail) D:=a
   cases q:M.aZ is c e with
   | none=>rw [q]at a;exact a.elim
   | some b=>
    rw [q]at a
    exact yb (show M.Gr is k9 (.tup c) e=k0 b from q) i x λg l=>a t g j l
  | _=>exact a.elim
 | own _=>exact a.elim
 | bor _=>exact a.elim
def qK :swapsWithSole [.Subscript x y p] v l env=pure false:=by
 cases v<;>rfl
def wC :swappedStores [.Subscript x y p] v env=pure none:=by
 cases v<;>rfl
def xV (a:jd y=u0) (v):assign (.Subscript x y p) env v=(do
 let i ←holding [v] (eval x env)
 let j ←holding [v,i] (eval y env)
 standAt p
 holding [v,i,j] (setItem i j v)
 release [v,i,j] []):=by
 cases y<;>first | rfl | (simp [jd]at a)
def JT (a:M.Km d=u0) (z:aC Y G H d v):aC Y G' H' d v:=by
 cases d with
 | au=>exact z
 | bl _=>exact z
 | int _=>exact z
 | str _=>exact z
 | _=>exact absurd (a) Ac2
def ZN (a:M.Km d=u0):M.Gd d=true:=by
 cases d<;>first | rfl | exact absurd (a) Ac2
def K4 (e:Go Y F X E k cf)(K:jd y=u0)(O:xc cf o x=u0) (A:xc cf kx y=u0) (h:xc cf m v=u0):PS X (.Assign [.Subscript x y p] v pos) (cL Y E (M.exec F (.bV o kx m))):=by
 refine PS.imp (XY (Qc m e h).1 (mG (Qc o e O).1 (Qc kx e A).1 QR (xV K)) qK wC rfl) λD U H R=> ?_
 obtain⟨B,G,τ,h,s,p⟩:=R
 refine Xc s p λw v h1 G1 H1 e1 L I f1 S=> Xc L S λow ov h2 W V e2 f t T P=> Xc f P λkw iv h3 g N u b J f3 a=> ?_
 unfold M.Kn at a
 split at a
 .rename_i d r j
  split at a
  .rename_i c q
   split at a
   .rename_i n z
    split at a
    .rename_i i
     obtain⟨Z,Q⟩:=(ak.ext u f.st.heap t)
     subst Q
     cases (J)
     have rd:aC Y g N d v:=JT i I
     obtain⟨_,C,l,rv⟩:=b.st.heap.cell r c q
     refine⟨_,C,j,n,rfl,rfl,l,by rw [← rv.length];exact z,?_⟩
     exact a g U _ (b.cell q (XB c n (b.st.heap.pure r c q) (ZN i)) (ab.set rd n rv))
    .exact a.elim
   .exact a.elim
  .exact a.elim
 .exact a.elim
def F3 (h:M.gf w=k0 (a,b)):w= .v (.tup [a,b]):=by
 unfold M.gf at h
 split at h
 .cases h;rfl
 .cases h
def FH (f:Go Y F X E k cf)(hy:jd y=u0) (hn:Xk v=u0) (Z:JG cf j a=u0)(R:xc cf o x=u0) (hk:xc cf kx y=u0) (h:xc cf m v=u0):PS X (.Assign [.Tuple [.Subscript x y p,.Name a pa] n pt] v pos) (cL Y E (M.exec F (.fU o kx j m))):=by
 obtain⟨j1,L⟩:=qI Z
 have u:=f.iZ a L
 refine PS.imp (XY (Qc m f h).1 (yN f.calm (ZV (mG (Qc o f R).1 (Qc kx f hk).1 QR (xV hy)) (ZV (nQ (by rw [f.N];exact f.nd) (by rw [f.N];exact j1) u.1 u.2) rF))) j2 (xI hn) rfl) λD U H qq=> ?_
 obtain⟨B,G,V,h,s,p⟩:=qq
 refine Xc s p λw v h1 G1 H1 e1 P r1 f1 l=> ?_
 cases I:M.gf w with
 | none=>rw [I]at l;exact l.elim
 | some dd=>
  obtain⟨d1,d2⟩:=dd
  cases F3 I
  obtain⟨b,z,rfl,N,v1,r',rfl,z3,v2,r'',rfl,T,rfl⟩:=(r1)
  refine⟨b,[v1,v2],rfl,f.K▸N.sq,rfl,v1,[v2],rfl,?_⟩
  refine Xc P l λow ov h2 G2 H2 e2 C S f2 p2=> ?_
  refine Xc C p2 λO iv h3 J Q e3 t K f3 e=> ?_
  split at e
  rotate_left
  .exact e.elim
  rename_i g
  cases c:M.Kn _ ow O V h3 with
  | next W h'=>
   rw [c]at e
   unfold M.Kn at c
   split at c
   .rename_i d r j' e1
    cases e1
    split at c
    .rename_i i q
     split at c
     .rename_i n qn
      split at c
      .rename_i A
       cases c
       obtain⟨h4,h5⟩:=(ak.ext e3 C.st.heap S)
       subst h5
       cases (K)
       have rd:aC Y J Q d1 v1:=JT A z3
       obtain⟨_,z,hv,rv⟩:=t.st.heap.cell r i q
       refine⟨_,z,j',n,rfl,rfl,hv,by rw [← rv.length];exact qn,?_⟩
       have s4:=t.cell q (XB i n (t.st.heap.pure r i q) (ZN A)) (ab.set rd n rv)
       exact⟨v2,[],rfl,rfl,e J _ _ (s4.ej (JT g T))⟩
      .cases c
     .cases c
    .cases c
   .cases c
  | ret _ _=>rw [c]at e;exact e.elim
  | brk _ _=>rw [c]at e;exact e.elim
  | cont _ _=>rw [c]at e;exact e.elim
  | fail=>rw [c]at e;exact e.elim
def pU (h:qY cf i m e cpos=u0): ∃x p apos,e= .Attribute (.Name x p) m apos/\cf.N[i]? =k0 x/\XV cf.sc x=u0/\bh x=u0/\(apos.endLine==cpos.line)=true:=by
 refine WU (λx n q h=> JA (λx p h=> ?_) x h) e h
 obtain⟨h,f,c⟩:=a3 h
 obtain⟨b,d,a⟩:=fZ h
 cases of_decide_eq_true f
 exact⟨_,_,_,rfl,b,d,a,c⟩
def Bl (g:Go Y F X E k cf)(R:qY cf i "append" f cpos=true) (e:wb v=true)(h:xc cf m v=true):PS X (.Expr (.Call f [v] [] cpos) pos) (cL Y E (M.exec F (.app i m))):=by
 obtain⟨x,p,y,rfl,l,T,c,K⟩:=pU R
 unfold bh at c
 rw [Aa1]at c
 have pv:=wI (pos:=p) (by rw [g.N];exact l) (g.hV x T) (by simpa using c.1) (by simpa using c.2)
 refine PS.imp (QU (nN PySem.F.plainAttrs_list PySem.F.slot_list_append PySem.F.type_list_append WY pv (Xf (Qc m g h).1 jn (jb e)) rfl (by rw [jb e];rfl) K (jb e) rfl) (jm rfl)) λD U H V=> ?_
 obtain⟨B,G,O,h,s,p⟩:=V
 rw [M.exec]at p
 cases q:M.Gn O i with
 | none=>rw [q]at p;exact p.elim
 | some Q=>
  rw [q]at p
  cases Q with
  | v d=>exact p.elim
  | bor n=>exact p.elim
  | own n=>
   obtain⟨v0,j,a,C,rfl,z2,W,J,Z⟩:=s.st.slot i _ q
   refine⟨.ref a,j,.inl ⟨rfl,C,bq.of J⟩,Xc s p λw v l G1 H1 e1 S I N b=> ?_⟩
   cases o:w.d with
   | none=>rw [o]at b;exact b.elim
   | some d=>
    rw [o]at b
    obtain⟨L,e2,r,rd⟩:=br.fz s e1 S I N o
    have b:Jv Y E B (if n.length<M.bf then .next _ l else .fail) D:=b
    by_cases z:n.length<M.bf
    .rw [if_pos z]at b
     obtain⟨nf,of,A,P,t⟩:=Qt r.st q j
     have u:=t.length
     exact⟨a,A,v,rfl,rfl,P,by have:=jj;lia,b L U _ (r.write q j (t.append ⟨v,[],rfl,rd,rfl⟩))⟩
    .rw [if_neg z]at b;exact b.elim
def EO (n:Go Y F X E k cf)(W:qY cf i "extend" f cpos=true) (j:wb v=true)(h:xc cf m v=true):PS X (.Expr (.Call f [v] [] cpos) pos) (cL Y E (M.exec F (.ext i m))):=by
 obtain⟨x,p,C,rfl,t,Z,g,P⟩:=pU W
 unfold bh at g
 rw [Aa1]at g
 have pv:=wI (pos:=p) (by rw [n.N];exact t) (n.hV x Z) (by simpa using g.1) (by simpa using g.2)
 refine PS.imp (QU (nN PySem.F.plainAttrs_list PySem.F.slot_list_extend PySem.F.type_list_extend Iy pv (Xf (Qc m n h).1 jn (jb j)) rfl (by rw [jb j];rfl) P (jb j) rfl) (jm rfl)) λD U H qq=> ?_
 obtain⟨B,G,Q,h,s,p⟩:=qq
 rw [M.exec]at p
 cases q:M.Gn Q i with
 | none=>rw [q]at p;exact p.elim
 | some V=>
  rw [q]at p
  cases V with
  | v d=>exact p.elim
  | bor u=>exact p.elim
  | own u=>
   obtain⟨v0,r,a,L,rfl,z2,z3,O,z5⟩:=s.st.slot i _ q
   refine⟨.ref a,r,.inl ⟨rfl,L,bq.of O⟩,Xc s p λw v t T H1 e1 I N f1 c=> ?_⟩
   cases w with
   | v d=>exact c.elim
   | bor o=>exact c.elim
   | own o=>
    obtain⟨b,y,rfl,_,_,R,e⟩:=N
    have c:Jv Y E B (if u.length+o.length<M.bf then .next _ t else .fail) D:=c
    by_cases J:u.length+o.length<M.bf
    .rw [if_pos J]at c
     obtain⟨nf,of,K,S,z⟩:=Qt I.st q r
     have A:=z.length
     have l:=e.length
     exact⟨a,b,K,y,rfl,rfl,S,R,by have:=jj;lia,c T U _ (I.write q r (z.append e))⟩
    .rw [if_neg J]at c;exact c.elim
theorem ZP: ∀ {xs ys},M.Gc xs=u0->M.Gc ys=u0->M.Gc (xs++ys)=u0
 | [],_,_,h=>h
 | x::xs,ys,h,a=>by
  have h:=h
  rw [Aa1]at h
  show(M.Gd x&&M.Gc (xs++ys))=u0
  rw [h.1,ZP h.2 a];rfl
def KU (z:Go Y F X E k cf)(J:attributeBase x "append" X.env (eval x X.env)=eval x X.env) (L:(apos.endLine==cpos.line)=true) (e:wb v=true) (P:xc cf a x=true) (h:xc cf m v=true):PS X (.Expr (.Call (.Attribute x "append" apos) [v] [] cpos) pos) (cL Y E (M.exec F (.eB a m))):=by
 refine PS.imp (QU (nN PySem.F.plainAttrs_list PySem.F.slot_list_append PySem.F.type_list_append WY (Qc a z P).1 (Xf (Qc m z h).1 jn (jb e)) J (by rw [jb e];rfl) L (jb e) rfl) (jm rfl)) λD U H qq=> ?_
 obtain⟨B,G,τ,h,s,p⟩:=qq
 refine Xc s p λo vo h0 G0 H0 e0 g Z f0 c=> ?_
 cases q:M.GF h0 (k0 o)with
 | none=>rw [q]at c;exact c.elim
 | some A=>
  rw [q]at c
  obtain⟨S,T⟩:=jJ q
  cases S
  obtain⟨l,rfl⟩:=(Z)
  obtain⟨_,t,n,_⟩:=g.st.heap.cell A.1 A.2 T
  refine⟨.inl ⟨rfl,t,bq.of n⟩,?_⟩
  refine Xc g c λw v h1 G1 H1 e1 W K O b=> ?_
  split at b
  .rename_i d r i qd Q
   obtain⟨N,e2,f,rd⟩:=br.fz g e1 W K O qd
   by_cases C:i.length<M.bf/\M.Gd d=u0
   .rw [if_pos C]at b
    obtain⟨V,j⟩:=jJ Q
    cases V
    obtain⟨_,I,R,u⟩:=f.st.heap.cell _ i j
    have y:=u.length
    exact⟨_,I,v,by rw [e2.aS _ l],rfl,R,by have:=jj;lia,b N U _ (f.cell j (ZP (f.st.heap.pure _ i j) (by simp_all)) (u.append ⟨v,[],rfl,rd,rfl⟩))⟩
   .rw [if_neg C]at b;exact b.elim
  .exact b.elim
def w6 (a:Go Y F X E k cf)(h1:cf.N[i]? =k0 x) (L:XV cf.sc x=u0) (I:bh x=u0) (n:cf.ob.fl.contains (c,f)=u0) (h:xc cf m v=u0):PS X (.Assign [.Attribute (.Name x j) (Xg f) p2] v pos) (cL Y E (M.exec F (.bH i c f m))):=by
 refine PS.imp (tF (jt a h1 L I) (Qc m a h).1 xQ) λD U H O=> ?_
 obtain⟨B,G,A,h,s,p⟩:=O
 refine Xc s p λw v h1 l R e1 e u S j=> ?_
 cases w with
 | own _=>exact j.elim
 | bor _=>exact j.elim
 | v d=>
  cases q:M.GX h1 (M.Gn A i)with
  | none=>rw [q]at j;exact j.elim
  | some o=>
   obtain⟨r,z,fs⟩:=o
   rw [q]at j
   dsimp only at j
   split at j
   .rename_i C
    obtain⟨rfl,Q⟩:=C
    obtain⟨e2,g⟩:=wM q
    obtain⟨T,J,P,K,t⟩:=e.st.heap.obj r _ fs g
    obtain⟨y,b,N⟩:=qT (u) t
    refine⟨_,sC e.st q,l.aS r,Y.ca z,J,_,rfl,K,(a.fld _ _ n).1,(a.fld _ _ n).2,?_,?_⟩
    .rw [Al8,Aa];lia
    .rw [N]
     exact j l U _ (e.hJ g b)
   .exact j.elim
def J2 (a:Go Y F X E k cf)(h1:cf.N[i]? =k0 x) (P:XV cf.sc x=u0) (L:bh x=u0) (t:cf.ob.fl.contains (c,f)=u0) (h:xc cf m v=u0):PS X (.Assign [.Attribute (.Name x j) (Xg f) p2] v pos) (cL Y E (M.exec F (.bT i c f m))):=by
 refine PS.imp (tF (jt a h1 P L) (Qc m a h).1 xQ) λD U H R=> ?_
 obtain⟨B,G,I,h,s,p⟩:=R
 refine Xc s p λw v h1 W V e1 J y A j=> ?_
 cases g:w.d with
 | none=>rw [g]at j;exact j.elim
 | some d=>
  rw [g]at j
  obtain⟨n,e2,e,rd⟩:=br.fz s e1 J y A g
  cases q:M.GX h1 (M.Gn I i)with
  | none=>rw [q]at j;exact j.elim
  | some o=>
   obtain⟨r,C,fs⟩:=o
   rw [q]at j
   dsimp only at j
   split at j
   .rename_i K
    obtain⟨rfl,Z,T⟩:=K
    obtain⟨e2,l⟩:=wM q
    obtain⟨nf,N,S,O,u⟩:=e.st.heap.obj r _ fs l
    obtain⟨z,b,Q⟩:=qT rd u
    refine⟨_,sC e.st q,n.aS r,Y.ca C,N,_,rfl,O,(a.fld _ _ t).1,(a.fld _ _ t).2,?_,?_⟩
    .rw [Al8,Aa];lia
    .rw [Q]
     exact j n U _ (e.hJ l b)
   .exact j.elim
def DZ (g:Go Y F X E k cf)(h1:cf.N[i]? =k0 x) (z:XV cf.sc x=u0) (R:bh x=u0) (O:jd y=u0)(C:xc cf kx y=u0) (h:xc cf m v=u0):PS X (.Assign [.Subscript (.Name x p) y p2] v pos) (cL Y E (M.exec F (.cu i kx m))):=by
 refine PS.imp (XY (Qc m g h).1 (mG (jt g h1 z R) (Qc kx g C).1 L6 (xV O)) qK wC rfl) λD U H T=> ?_
 obtain⟨B,G,L,h,s,p⟩:=T
 refine Xc s p λw v h1 G1 H1 e1 l I f1 e=> ?_
 cases q:M.GV h1 (M.Gn L i)with
 | none=>rw [q]at e;exact e.elim
 | some P=>
  obtain⟨r0,Q⟩:=P
  rw [q]at e
  have sl:=(zq l.st q).1
  refine⟨_,sl,Xc l e λkw iv z K Z e2 c A W p2=> ?_⟩
  split at p2
  .rename_i d t r ks n
   split at p2
   .rename_i S
    obtain⟨u,N,V,J,o⟩:=zq c.st n
    have j:=by rw [sl]at u;exact Ad6.inj (Ad6.inj u)
    cases A
    obtain⟨f,a,b⟩:=FU ((I).ext e2 l.st.heap) o
    refine⟨aF t,_,_,rfl,j,J,by rw [AD o];have:=jj;lia,?_⟩
    rw [b]
    exact p2 K U _ (c.fV (zS n).2 ⟨DE S.2 N,f,wc,a.mon (qU c.st.heap (c.st.heap.lt (zS n).2) _)⟩)
   .exact p2.elim
  .exact p2.elim
def Bm (c:Go Y F X E k cf)(h1:cf.N[i]? =k0 x) (r:XV cf.sc x=u0) (e:bh x=u0) (L:jd y=u0)(A:xc cf kx y=u0) (h:xc cf m v=u0):PS X (.Assign [.Subscript (.Name x p) y p2] v pos) (cL Y E (M.exec F (.cT i kx m))):=by
 unfold bh at e
 rw [Aa1]at e
 have pv:=wI (pos:=p) (by rw [c.N];exact h1) (c.hV x r) (by simpa using e.1) (by simpa using e.2)
 refine PS.imp (XY (Qc m c h).1 (mG pv (Qc kx c A).1 QR (xV L)) qK wC rfl) λD U H P=> ?_
 obtain⟨B,G,J,h,s,p⟩:=P
 refine Xc s p λw v h1 G1 Z e1 g C f1 b=> ?_
 cases q:M.Gn J i with
 | none=>rw [q]at b;exact b.elim
 | some N=>
  rw [q]at b
  cases N with
  | v d=>exact b.elim
  | bor O=>exact b.elim
  | own O=>
   obtain⟨v0,f,a,R,rfl,z2,T,S,W⟩:=g.st.slot i _ q
   refine⟨.ref a,f,Xc g b λkw iv r I V e2 l u Q p2=> ?_⟩
   split at p2
   .rename_i d j
    split at p2
    .rename_i n z
     cases (u)
     obtain⟨nf,of,t,K,o⟩:=Qt l.st q f
     refine⟨_,t,j,n,rfl,rfl,K,by rw [← o.length];exact z,?_⟩
     exact p2 I U _ (l.write q f (ab.set ((C).ext e2 g.st.heap) n o))
    .exact p2.elim
   .exact p2.elim
end
section
variable {Y:Ge}{E:XK}{B:Bs}{G:Gh}{τ:M.Sl}{h:M.AH}{U:St}{H:Hp}{D:ir}
def Az (c:M.Gn τ i=k0 (.own xs)) (b:U[i]? =k0 (k0 (.ref a))):xq τ U H a=none:=by
 unfold xq
 rw [if_pos ⟨i,xs,c,b⟩]
def yU (e:xq τ U H a=k0 o):H a=k0 o:=by
 unfold xq at e
 split at e
 .cases e
 .exact e
def KG (s:aq Y G τ h U H):ai Y G h (xq τ U H) where
 len:=s.heap.len
 any:=λr c e=>⟨(s.heap.any r c e).1,(s.heap.any r c e).2.mon (qz s) λo z=>by rw [wm λ⟨i,f,b,d⟩=>(Qt s b d).2.1 r (s.heap.lt e) rfl];exact z⟩
 inj:=s.heap.inj
 live:=λa z=>by
  obtain⟨o,q⟩:=s.heap.live a z
  exact⟨o,by rw [wm λ⟨i,f,b,d⟩=>(Qt s b d).1 z];exact q⟩
def nG (G:Gh) (τ:M.Sl) (h:M.AH) (U:St) (H:Hp):Bs:=⟨G,xq τ U H,h⟩
def zT (s:br Y B G τ h U H):Ext B.G B.H G (xq τ U H) where
 keep:=λa o e b=>by
  rw [wm λ⟨i,c,d,f⟩=>by rw [s.own i c a d f]at e;cases e]
  exact s.ext.keep a o e b
 le:=s.ext.le
 aS:=s.ext.aS
 new:=s.ext.new
 fz:=s.ext.fz
 old:=s.ext.old
 cells:=λr g z=>by
  obtain⟨o,q⟩:=s.ext.cells r g z
  refine⟨o,?_⟩
  rw [wm λj=>by
   obtain⟨i,c,d,f⟩:=j
   obtain⟨u,z⟩:=z
   rw [s.own i c _ d f]at z
   cases z]
  exact q
def MI (s:br Y B G τ h U H):br Y (nG G τ h U H) G τ h U H where
 st:=s.st
 ext:=⟨λa o e _=>yU e,Aa7 _,λ_ _=>rfl,λr h1 h2=>absurd h1 (Ao.mpr h2),λ_ z=>z,λ_ z=> .inl z,λr hr ⟨o,z⟩=>⟨o,yU z⟩⟩
 hr:=KG s.st
 own:=λi xs a e1 e2=>Az e1 e2
def wV (s:br Y B G τ h U H)(b:br Y (nG G τ h U H) G2 τ2 h2 U2 H2):br Y B G2 τ2 h2 U2 H2:=
 ⟨b.st,(zT s).trans s.hr b.ext,s.hr,λi c a e1 e2=>(zT s).none s.hr (b.own i c a e1 e2)⟩
def ER (s:br Y B G τ h U H)(p:Jv Y E B o D):Jv Y E (nG G τ h U H) o D:=by
 cases o with
 | next j k=>exact λc g b i=>p c g b (wV s i)
 | brk j k=>exact λc g b i=>p c g b (wV s i)
 | cont j k=>exact λc g b i=>p c g b (wV s i)
 | ret w k=>
  refine λc v b e n r f=>p c v b ((zT s).trans s.hr e) n r ?_
  cases w with
  | v d=>trivial
  | own m=>obtain⟨a,l,q⟩:=f;exact⟨a,l,(zT s).none s.hr q⟩
  | bor m=>exact f
 | fail=>exact p
end
section
variable {Y:Ge}{F:M.Fx}{X:Cx}{E:XK}{k:Nat}{cf:Cf}
def CL.hide (s:aq Y G τ h U H) (c:CL Y ds l vs G H) (b: ¬ ∃ i xs,M.Gn τ i=k0 (.own xs)/\U[i]? =k0 (k0 (.ref l))):CL Y ds l vs G (xq τ U H):=by
 obtain⟨a,e⟩:=c
 refine⟨?_,e.mon (qz s)⟩
 obtain⟨a,d⟩ | a:=a
 .refine .inl ⟨?_,d⟩
  obtain a | ⟨o,a⟩:=a
  .exact .inl (by rw [wm b];exact a)
  .exact .inr ⟨o,by rw [wm b];exact a⟩
 .exact .inr a
def CL.gY (s:aq Y G τ h U H) (a:iO Y G H l vs) (b:ab Y G H ds vs):CL Y ds l vs G (xq τ U H):=by
 refine⟨?_,b.mon (qz s)⟩
 obtain a | a:=a
 .exact(CL.hide s ⟨.inl ⟨a.2,s.heap.off a.1⟩,b⟩ λ⟨j,e,c,d⟩=>(Qt s c d).1 a.1).1
 .exact .inr a
def CT.hide (s:aq Y G τ h U H) (c:CT Y ds l vs G H):CT Y ds l vs G (xq τ U H):=⟨c.1.mon (qz s),c.2.mon (qz s)⟩
def J3 (h:M.GK a=k0 i):a= .var i:=by
 cases a<;>first | (cases h;rfl) | cases h
def MC (h:xc cf (.var i) e=u0): ∃x p,e= .Name x p/\cf.N[i]? =k0 x/\XV cf.sc x=u0/\bh x=true:=by
 exact JA (λx p h=> ⟨_,_,rfl,fZ h⟩) e h
def p9 (b:Go Y F X E k cf)(h:xc cf (.var i) e=u0):PE X e (lX i):=by
 obtain⟨x,p,rfl,c,d,a⟩:=MC h
 unfold bh at a
 rw [Aa1]at a
 exact wI (by rw [b.N];exact c) (b.hV x d) (by simpa using a.1) (by simpa using a.2)
def Iw (s:aq Y G τ h U H)(e:M.Gn τ i=k0 w) (n:w= .v (.lst xs)\/w= .bor xs):
 ∃l vs,U[i]? =k0 (k0 (.ref l))/\CL Y xs l vs G H/\CL Y xs l vs G (xq τ U H):=by
 obtain⟨v,e2,r⟩:=s.slot i w e
 obtain rfl | rfl:=n
 .obtain⟨l,vs,rfl,b,a⟩:=r
  exact⟨l,vs,e2,⟨b.nE s.heap,a⟩,CL.gY s b a⟩
 .obtain⟨l,vs,rfl,b,a,g⟩:=r
  have c:CL Y xs l vs G H:=⟨.inl ⟨a,b⟩,g⟩
  refine⟨l,vs,e2,c,c.hide s λ⟨j,m,f,k⟩=> ?_⟩
  have d:j≠i:=λz=>by rw [z,e]at f;cases f
  exact s.apart j i m _ l d f e rfl k e2
def QW (d:aq Y G0 τ h0 U H0) (s:aq Y G τ h U H)(r:ak Y G H w v) (f:aK τ U H0 w v) (p:w= .v (.lst xs)\/w= .own xs):
 ∃l vs,v= .ref l/\CL Y xs l vs G H/\CL Y xs l vs G (xq τ U H):=by
 obtain rfl | rfl:=p
 .obtain⟨l,vs,rfl,b,a⟩:=r
  exact⟨l,vs,rfl,⟨b.nE s.heap,a⟩,CL.gY s b a⟩
 .obtain⟨l,vs,rfl,b,a,g,i⟩:=r
  obtain⟨q,e,k⟩:=f
  cases e
  have c:CL Y xs l vs G H:=⟨.inl ⟨.inl g,a⟩,i⟩
  refine⟨l,vs,rfl,c,c.hide s λ⟨j,t,m,n⟩=> ?_⟩
  obtain⟨o,z⟩:=d.cP m rfl n
  rw [k]at z;cases z
def Cg (g:Go Y F X E k cf)(P:xc cf a e=u0):PI X tg e (gr Y E u0 (M.Gs F (.seq a))):=by
 cases q:M.GK a with
 | some i=>
  cases J3 q
  refine PI.imp (o6 (p9 g P)) λU H R O=> ?_
  obtain⟨G,B,h,s,p⟩:=O
  have p:ay Y E G H (M.R.of h _) λt _ o f=> ∀J C,QJ Y J t C->C o f->(u0=u0->C o _)->R J f:=p
  cases x:M.Gn B i with
  | none=>rw [x]at p;exact p.elim
  | some w=>
   rw [x]at p
   have lst: ∀ {b},_->ay Y E G H (.ok b h) (λt _ o f=> ∀J C,QJ Y J t C->C o f->(u0=u0->C o (xq B U f))->R J f) →
    ∃v,U[i]? =k0 (k0 v)/\((∃ a,v= .ref a/\(∃ b,bq X.K H a b)/\R (lD X.K a) H)\/(∃ a,v= .ref a/\(∃ b,ck X.K H a b)/\R (kH X.K a) H)\/ ∃z,v= .str z/\R (iy z) H):=λ{b} N p=>by
    obtain⟨l,j,e2,y,L⟩:=Iw s x N
    exact⟨_,e2,.inl ⟨l,rfl,⟨j,g.K▸y.1.sq⟩,p G H Ext.refl s.heap _ _ (CL.walk g.K) y λ_=>L⟩⟩
   cases w with
   | v d=>
    cases d with
    | lst b=>exact lst (.inl rfl) p
    | tup b=>
     obtain⟨v,e2,l,j,rfl,u,K⟩:=s.slot i _ x
     have c:CT Y b l j G H:=⟨u,K⟩
     exact⟨_,e2,.inr (.inl ⟨l,rfl,⟨j,g.K▸u.sq⟩,p G H Ext.refl s.heap _ _ (CT.walk g.K) c λ_=>c.hide s⟩)⟩
    | au=>exact p.elim
    | bl _=>exact p.elim
    | int _=>exact p.elim
    | str z=>
     obtain⟨v,e2,r⟩:=s.slot i _ x
     cases (show v= .str (aF z)from r)
     exact⟨_,e2,.inr (.inr ⟨_,rfl,p G H Ext.refl s.heap _ _ jK trivial λ_=>trivial⟩)⟩
    | ref _=>exact p.elim
   | bor b=>exact lst (.inr rfl) p
   | own b=>exact p.elim
 | none=>
  refine PI.imp (o6 (Qc a g P).1) λU H R O=> ?_
  obtain⟨G,B,h,s,p⟩:=O
  have p:=by
   unfold M.Gs at p
   dsimp only at p
   rw [q]at p
   exact p
  refine Wa s.heap Ext.refl s p λV v1 T D m e1 S A I Q n=> ?_
  have lst: ∀ {b},_->ay Y E G H (.ok b T) (λt _ o f=> ∀J C,QJ Y J t C->C o f->(u0=u0->C o (xq B U f))->R J f) →
   ((∃ a,v1= .ref a/\(∃ b,bq X.K m a b)/\R _ m)\/(∃ a,v1= .ref a/\(∃ b,ck X.K m a b)/\R (kH X.K a) m)\/ ∃z,v1= .str z/\R (iy z) m):=λ{b} N p=>by
   obtain⟨l,j,e2,y,L⟩:=QW s A I Q N
   exact .inl ⟨l,e2,⟨j,g.K▸y.1.sq⟩,p D m e1 A.heap _ _ (CL.walk g.K) y λ_=>L⟩
  cases V with
  | v d=>
   cases d with
   | lst b=>exact lst (.inl rfl) n
   | tup b=>
    obtain⟨l,j,rfl,u,K⟩:=I
    have c:CT Y b l j D m:=⟨u,K⟩
    exact .inr (.inl ⟨l,rfl,⟨j,g.K▸u.sq⟩,n D m e1 A.heap _ _ (CT.walk g.K) c λ_=>c.hide A⟩)
   | au=>exact n.elim
   | bl _=>exact n.elim
   | int _=>exact n.elim
   | str z=>
    cases (show v1= .str (aF z)from I)
    exact .inr (.inr ⟨_,rfl,n D m e1 A.heap _ _ jK trivial λ_=>trivial⟩)
   | ref _=>exact n.elim
  | own b=>exact lst (.inr rfl) n
  | bor b=>exact n.elim
theorem Wq: ∀(ds) (i),(M.GY i ds).length=ds.length
 | [],_=>rfl
 | d::ds,i=>congrArg (· +1) (Wq ds (i+1))
theorem qS: ∀(ds) (j i) (h:i<ds.length),(M.GY j ds)[i]? =k0 (.tup [.int ((j+i:Nat):Int),ds[i]])
 | d::ds,j,0,_=>rfl
 | d::ds,j,i+1,h=>by
  have:=qS ds (j+1) i (by simpa using h)
  rw [show j+1+i=j+(i+1)by lia]at this
  simpa [M.GY]using this
def uU: "enumerate" ∈cn:=by decide
def CT.f9 {K:Aa9}(g:K=Y.K):QJ Y (oO K l) (M.GY 0 ds) (CT Y ds l vs) where
 go:=by
  rintro i G H ⟨d,c⟩ b
  rw [Wq]at b
  obtain⟨v,e,_⟩:=c.get (Aa4 b)
  exact⟨vs,v,g▸d.sq,e⟩
 fj:=by
  rintro i G H x m ⟨d,c⟩ b ⟨p,y,j,ex,k,r⟩
  rw [Wq]at b
  subst ex k
  obtain⟨v,e,rd⟩:=c.get (Aa4 b)
  have:=r vs (g▸d.sq)
  rw [e]at this
  cases this
  refine⟨G.more p,Xz _ j,λh f=>f.iR _ j,.tup [.int i,ds[i]],by rw [qS ds 0 i b,Ak0],⟨p,[.int i,y],rfl,.inl ⟨.inr rfl,wc⟩,⟨.int i,[y],rfl,rfl,⟨y,[],rfl,?_,rfl⟩⟩⟩⟩
  have n:Mon G H (G.more p) (aQ H p (.tup [.int i,y])):=⟨λa o w q=>by rw [Qa (Zb q j)];exact q,Aa7 _,λ_ _=>rfl,λ_ z=>Or.inl z⟩
  exact rd.mon n
 stop:=by
  rintro i G H ⟨d,c⟩ s t
  rw [Wq]at s t
  exact⟨vs,g▸d.sq,by rw [← c.length];lia⟩
 keep:=λG H u m h z e f=>⟨z.1.mon (e.mon f),z.2.ext e f⟩
def MU (e:Go Y F X E k cf)(z:b3 cf.sc "enumerate" g=true) (i:wb x=true) (w:PE X x (tD Y E (M.eval F a))):PI X (.Tuple elts x1 tp) (.Call g [x] [] pos) (gr Y E true (M.Gs F (.enum a))):=by
 obtain⟨I,rfl,A,K⟩:=Zc z
 refine PI.imp (Mo (e.gl _ A) (e.blt _ uU) (Xf w jn (jb i)) (jb i)) λU H R B=> ?_
 obtain⟨G,D,h,s,p⟩:=B
 have p:=p
 refine Wa s.heap Ext.refl s p λy v1 J o m e1 u q r C b=> ?_
 cases y with
 | v d=>
  cases d with
  | tup f=>
   obtain⟨l,j,rfl,n,t⟩:=r
   have c:CT Y f l j o m:=⟨n,t⟩
   exact⟨l,j,rfl,e.K▸n.sq,b o m e1 q.heap _ _ (CT.f9 e.K) c λ_=>c.hide q⟩
  | au=>exact b.elim
  | bl _=>exact b.elim
  | int _=>exact b.elim
  | str _=>exact b.elim
  | lst _=>exact b.elim
  | ref _=>exact b.elim
 | own f=>exact b.elim
 | bor f=>exact b.elim
def CL.f9 {l:Addr}{vs:List V}{K:Aa9}(f:K=Y.K):QJ Y (ph K l) (M.GY 0 ds) (CL Y ds l vs) where
 go:=by
  rintro i G H ⟨d,c⟩ b
  rw [Wq]at b
  obtain⟨v,e,_⟩:=c.get (Aa4 b)
  exact⟨vs,v,f▸d.sq,e⟩
 fj:=by
  rintro i G H x m ⟨d,c⟩ b ⟨p,y,j,ex,k,r⟩
  rw [Wq]at b
  subst ex k
  obtain⟨v,e,rd⟩:=c.get (Aa4 b)
  have:=r vs (f▸d.sq)
  rw [e]at this
  cases this
  refine⟨G.more p,Xz _ j,λh g=>g.iR _ j,.tup [.int i,ds[i]],by rw [qS ds 0 i b,Ak0],⟨p,[.int i,y],rfl,.inl ⟨.inr rfl,wc⟩,⟨.int i,[y],rfl,rfl,⟨y,[],rfl,?_,rfl⟩⟩⟩⟩
  have n:Mon G H (G.more p) (aQ H p (.tup [.int i,y])):=⟨λa o w q=>by rw [Qa (Zb q j)];exact q,Aa7 _,λ_ _=>rfl,λ_ z=>Or.inl z⟩
  exact rd.mon n
 stop:=by
  rintro i G H ⟨d,c⟩ s t
  rw [Wq]at s t
  exact⟨vs,f▸d.sq,by rw [← c.length];lia⟩
 keep:=λG H u m h z e g=>z.keep e g
def CU (b:Go Y F X E k cf)(y:b3 cf.sc "enumerate" g=true) (d:wb x=true) (w:xc cf a x=true):PI X (.Tuple elts x1 tp) (.Call g [x] [] pos) (gr Y E true (M.Gs F (.cv a))):=by
 obtain⟨D,rfl,A,J⟩:=Zc y
 refine PI.imp (Bf (b.gl _ A) (b.blt _ uU) (Xf (Qc a b w).1 jn (jb d)) (jb d)) λU H R B=> ?_
 obtain⟨G,C,h,s,p⟩:=B
 refine Wa s.heap Ext.refl s p λj v1 I v o e1 t i n r c=> ?_
 obtain⟨e,q,c⟩:=c.of
 have z:j= .v (.lst e)\/j= .own e:=by
  unfold M.yG at q
  split at q
  .cases q;exact .inl rfl
  .cases q;exact .inr rfl
  .cases q
 obtain⟨l,m,e2,f,u⟩:=QW s i n r z
 subst e2
 exact⟨l,m,rfl,b.K▸f.1.sq,c v o e1 i.heap _ _ (CL.f9 b.K) f λ_=>u⟩
def Fo (b:Go Y F X E k cf)(j:oD it tg=u0) (h:o9 cf it e=u0):PI X tg e (gr Y E u0 (M.Gs F it))/\Jh e=true:=by
 cases it with
 | seq a=>exact⟨Cg b (a2 h).2,(a2 h).1⟩
 | aj a=>
  refine zp (λg x l p h=> ?_) e h
  refine kE (λh=> ?_) l h
  refine kC (λx r h=> ?_) x h
  refine kE (λh=> ?_) r h
  obtain⟨f,i,c⟩:=a3 h
  exact⟨XL b f i (Qc a b c).1,rfl⟩
 | cv a=>
  cases tg with
  | Tuple d n m=>
   refine zp (λg x l p h=> ?_) e h
   refine kE (λh=> ?_) l h
   refine kC (λx r h=> ?_) x h
   refine kE (λh=> ?_) r h
   obtain⟨f,i,c⟩:=a3 h
   exact⟨CU b f i c,rfl⟩
  | _=>exact b8 j
 | enum a=>
  cases tg with
  | Tuple d n m=>
   refine zp (λg x l p h=> ?_) e h
   refine kE (λh=> ?_) l h
   refine kC (λx r h=> ?_) x h
   refine kE (λh=> ?_) r h
   obtain⟨f,i,c⟩:=a3 h
   exact⟨MU b f i (Qc a b c).1,rfl⟩
  | _=>exact b8 j
end
section
variable {Y:Ge}{G G0:Gh}{H H0:Hp}{h:M.AH}
def Gh.cut (G:Gh) (n:Nat):Gh:= { G with n:=n }
mutual
theorem aC.cut (n:Nat): ∀ {d:M.D}{v:V},M.Gd d=u0->aC Y G H d v->aC Y (G.cut n) H d v
 | .au,_,_,z=>z
 | .bl _,_,_,z=>z
 | .int _,_,_,z=>z
 | .str _,_,_,z=>z
 | .tup _,_,q,⟨a,vs,z1,z2,z3⟩=>⟨a,vs,z1,z2,ab.el n (by simpa [M.Gd]using q) z3⟩
 | .lst _,_,q,⟨a,vs,z1,z2,z3⟩=>⟨a,vs,z1,z2,ab.el n (by simpa [M.Gd]using q) z3⟩
 | .ref r,_,q,_=>by simp [M.Gd]at q
theorem ab.el (n:Nat): ∀ {ds:List M.D}{vs:List V},M.Gc ds=u0->ab Y G H ds vs->ab Y (G.cut n) H ds vs
 | [],_,_,z=>z
 | d::ds,_,q,⟨v,r,z1,z2,z3⟩=>by
  have q':M.Gd d=u0/\M.Gc ds=true:=by simpa [M.Gc]using q
  exact⟨v,r,z1,aC.cut n q'.1 z2,ab.el n q'.2 z3⟩
end
theorem ai.cut (r:ai Y G h H)(k:n<=G.n) (p:M.Gu (h.take n)=u0):ai Y (G.cut n) (h.take n) H where
 len:=by rw [Af6,r.len];exact Ak5 k
 any:=λi c e=>by
  have l:i<n:=by
   have:=(Aa0.mp e).1
   rw [Af6]at this
   lia
  have s:=Ai6.mp p c (Ac4 e)
  rw [Am7 l]at e
  obtain⟨o,g⟩:=r.any i c e
  refine⟨o,?_⟩
  cases c with
  | lst v=>obtain⟨d,m,b,a⟩:=g;exact⟨d,m,b,ab.el n d a⟩
  | aN w=>obtain⟨d,f,b,a⟩:=g;exact⟨d,f,b,ab.el n d a⟩
  | obj c fs=>obtain⟨t,f,b,a⟩:=g;exact⟨t,f,b,ab.el n s a⟩
 inj:=λi j q u e=>r.inj i j (Ab3 q k) (Ab3 u k) e
 live:=r.live
theorem Ext.cut (e:Ext G0 H0 G H):Ext G0 H0 (G.cut G0.n) H:=⟨e.keep,Aa7 _,e.aS,λr b a=>absurd b (Ao.mpr a),e.fz,e.old,e.cells⟩
theorem ak.cut (n) (f:n<=G.n)(q:w.keep=u0) (j: ∀xs,w≠ .bor xs) (z:ak Y G H w v):ak Y (G.cut n) H w v:=by
 cases w with
 | v d=>exact aC.cut n q z
 | own xs=>
  obtain⟨a,g,b,c,i,h,k⟩:=z
  exact⟨a,g,b,c,λr e=>i r (Ab3 e f),h,ab.el n q k⟩
 | bor xs=>exact absurd rfl (j xs)
end
section
variable {Y:Ge}{F:M.Fx}{X:Cx}{E:XK}{k:Nat}{cf:Cf}
def M9 (a:Go Y F X E k cf)(d:xE v=u0)(h:xc cf m v=u0):PS X (.Expr v pos) (cL Y E (M.exec F (.ex m))):=by
 refine PS.imp (QU (Qc m a h).1 (jm d)) λD U H f=> ?_
 obtain⟨B,G,l,h,s,p⟩:=f
 exact Xc s p λw v n c b e1 e i j g=>g c U b e
def E4 (s:br Y B G τ h U H)(f:aK τ U H w v) (e: ∀xs,w≠ .bor xs):aK [] [] B.H w v:=by
 cases w with
 | v d=>trivial
 | own xs=>obtain⟨a,b,c⟩:=f;exact⟨a,b,s.ext.none s.hr c⟩
 | bor xs=>exact absurd rfl (e xs)
def CC (n:Go Y F X E k cf)(h:xc cf m v=u0):PS X (.Return (k0 v) pos) (cL Y E (M.exec F (.ret m))):=by
 cases q:M.GK m with
 | some i=>
  cases J3 q
  refine PS.imp (vL (p9 n h)) λD U H g=> ?_
  obtain⟨B,G,f,h,s,p⟩:=g
  rw [M.exec,q]at p
  dsimp only at p
  cases c:M.Gn f i with
  | none=>rw [c]at p;exact p.elim
  | some w=>
   rw [c]at p
   obtain⟨v,e2,r⟩:=s.st.slot i w c
   refine⟨v,e2,?_⟩
   cases w with
   | bor b=>exact p.elim
   | v d=>exact p G v H s.ext s.st.heap r trivial
   | own b=>
    have x:=r
    obtain⟨a,y,rfl,_⟩:=x
    exact p G _ H s.ext s.st.heap r ⟨a,rfl,s.own i b a c e2⟩
 | none=>
  refine PS.imp (vL (Qc m n h).1) λD U H g=> ?_
  obtain⟨B,G,f,h,s,p⟩:=g
  have p:Jv Y E B ((M.eval F m f h).cA λw h=>match w with
   | .bor _=> .fail
   | w=> .ret w h) D:=by
   rw [M.exec,q]at p;exact p
  refine Xc s p λw v A t o e1 e l u j=> ?_
  cases w with
  | bor b=>exact j.elim
  | v d=>exact j t v o e.ext e.st.heap l trivial
  | own b=>exact j t v o e.ext e.st.heap l (E4 s u λb z=>by cases z)
def Lg (l:PT X x (cS Y E (M.Gm F c))) (k:dk X ys (cL Y E (M.execs F a))) (j:dk X zs (cL Y E (M.execs F b))):PS X (.If x ys zs pos) (cL Y E (M.exec F (.iff c a b))):=by
 refine PS.imp (K8 l k j) λD U H m=> ?_
 obtain⟨B,G,d,h,s,p⟩:=m
 refine uN s p λt e f n e1 g i=> ?_
 cases t with
 | true=>exact nq ⟨B,f,d,e,g,i⟩
 | false=>exact oF ⟨B,f,d,e,g,i⟩
def MN {st:Stmt}(h1:PS X st (cL Y E (M.exec F s))) (g:dk X sts (cL Y E (M.execs F ss))):dk X (st::sts) (cL Y E (M.execs F (.cons s ss))):=by
 refine dk.imp (IA h1 g) λD U H i=> ?_
 obtain⟨B,G,c,h,f,p⟩:=i
 rw [M.execs]at p
 refine⟨B,G,c,h,f,?_⟩
 cases q:M.exec F s c h with
 | next a b=>rw [q]at p;exact λe j k d=>⟨B,e,a,b,d,p⟩
 | ret w b=>rw [q]at p;exact p
 | brk a b=>rw [q]at p;exact p
 | cont a b=>rw [q]at p;exact p
 | fail=>rw [q]at p;exact p
def K5:dk X [] (cL Y E (M.execs F .nil)):=dk.imp Mu λD U H ⟨B,G,a,h,s,p⟩=>p G U H s
def Eh (A:md Y F X E k cf)(J:PT X x (cS Y E (M.Gm F c))) (I:dk X ys (cL Y E (M.execs F b))):PS X (.While x ys [] pos) (cL Y E (M.exec F (.ij n c b))):=by
 refine PS.imp (DX A.iF J I) λD U H K=> ?_
 obtain⟨B,G,a,h,s,p⟩:=K
 refine⟨λm U H=> ∃G a h,br Y B G a h U H/\Jv Y E B (M.GI (λa h=>M.Gm F c a h) (λa h=>M.execs F b a h) m a h) D,⟨n,G,a,h,s,p⟩,?_⟩
 rintro m U H ⟨G,a,h,s,p⟩
 cases m with
 | zero=>exact p.elim
 | succ m=>
  refine uN s p λt r y C e1 z d=> ?_
  cases t with
  | false=>exact oF (d y U C z)
  | true=>
   refine nq ⟨_,λu v w=>⟨m,Ag _,w⟩,B,y,a,r,z,?_⟩
   have d:Jv Y E B (match M.execs F b a r with
    | .next e i=>M.GI (λa h=>M.Gm F c a h) (λa h=>M.execs F b a h) m e i
    | .cont e i=>M.GI (λa h=>M.Gm F c a h) (λa h=>M.execs F b a h) m e i
    | .brk e i=> .next e i
    | o=>o) D:=d
   cases q:M.execs F b a r with
   | next f g=>rw [q]at d;exact λl u v j=>⟨l,f,g,j,d⟩
   | cont f g=>rw [q]at d;exact λl u v j=>⟨l,f,g,j,d⟩
   | ret w g=>rw [q]at d;exact d
   | brk f g=>rw [q]at d;exact d
   | fail=>rw [q]at d;exact d
def M4 (A:md Y F X E k cf)(he:oD it t=u0) (ht:zg cf tg one t=u0) (hi:o9 cf it iter=u0) (hb:dk X ys (cL Y E (M.execs F b))):
 PS X (.For t iter ys [] pos) (cL Y E (M.exec F (.for tg one it b))):=by
 obtain⟨li,ls⟩:=Fo A.toGo he hi
 refine PS.imp (Mc A.iF A.calm li (qB A.toGo ht) hb (o5 ls)) λD U H qq=> ?_
 obtain⟨B,G,j,h,s,p⟩:=qq
 rw [M.exec]at p
 refine⟨G,j,h,s.st,?_⟩
 cases q:M.Gs F it j h with
 | fail=>rw [q]at p;exact p
 | ok g h1=>
  rw [q]at p
  intro G1 H1 e hr J C I c0 S
  have W:=s.on e hr
  have p1:=ER W p
  have cB:=S rfl
  have s2:=MI W
  refine⟨λi m K v=> ∃y n z,(m=g.length-i/\i<=g.length)/\br Y _ y n z K v/\Jv Y E _ (M.Gp _ (λj h=>M.execs F b j h) (g.drop i) n z) D,
   ⟨g.length,G1,j,h1,⟨by simp,Ae6 _⟩,s2,p1⟩,?_⟩
  rintro i m K v ⟨y,n,z,⟨rfl,hi'⟩,r,c⟩
  have O:=I.keep _ _ _ _ _ cB r.ext r.hr
  by_cases l:i<g.length
  .refine .inr ⟨I.go i y v O l,_,λU2 H2 w=>⟨g.length-(i+1),by lia,w⟩,λx N hy=> ?_⟩
   obtain⟨G4,x4,V,d,Z,T⟩:=I.fj i y v x N O l hy
   have r:=r.on x4 (V _ r.st.heap)
   have R:g.drop i=d::g.drop (i+1):=by
    rw [Am4 l]
    rw [Aa4 l]at Z
    cases Z
    rfl
   rw [R,M.Gp]at c
   cases Q:M.Gr tg one d n with
   | none=>rw [Q]at c;exact c.elim
   | some u=>
    rw [Q]at c
    refine yb Q T r λU2 s3=>⟨_,G4,u,z,s3,?_⟩
    have c:Jv Y E _ (match M.execs F b u z with
     | .next a f=>M.Gp _ (λj h=>M.execs F b j h) _ a f
     | .cont a f=>M.Gp _ (λj h=>M.execs F b j h) _ a f
     | .brk a f=> .next a f
     | o=>o) D:=c
    cases q:M.execs F b u z with
    | next a f=>rw [q]at c;exact λP U3 H3 L=>⟨P,a,f,⟨rfl,by lia⟩,L,c⟩
    | cont a f=>rw [q]at c;exact λP U3 H3 L=>⟨P,a,f,⟨rfl,by lia⟩,L,c⟩
    | ret w f=>rw [q]at c;exact c
    | brk a f=>rw [q]at c;exact c
    | fail=>rw [q]at c;exact c
  .have ei:i=g.length:=by lia
   subst ei
   rw [List.drop_length]at c
   exact .inl ⟨I.stop _ y v O (Aa7 _) (Aa7 _),c y K v r⟩
end
section
variable {Y:Ge}{F:M.Fx}{k:Nat}{X:Cx}{E:XK}{cf:Cf}
mutual
theorem Iq (go:md Y F X E k cf): ∀(m:M.S){st:Stmt},vp cf m st=u0->PS X st (cL Y E (M.exec F m))
 | .set i e,st,h=>by
  refine gU (λts v p h=> ?_) st h
  refine kC (λt r h=> ?_) ts h
  refine JA (λx p1 h=> ?_) t h
  refine kE (λh=> ?_) r h
  exact EG go.toGo (a2 h).1 (a2 h).2
 | .af i e,st,h=>by
  refine gU (λts v p h=> ?_) st h
  refine kC (λt r h=> ?_) ts h
  refine JA (λx p1 h=> ?_) t h
  refine kE (λh=> ?_) r h
  exact Ll go.toGo (a2 h).1 (a2 h).2
 | .eE is e,st,h=>by
  refine gU (λts v p h=> ?_) st h
  refine kC (λt r h=> ?_) ts h
  refine nC (λx n p1 h=> ?_) t h
  refine kE (λh=> ?_) r h
  obtain⟨h1,h2,h3⟩:=a3 h
  exact CK go.toGo h1 h2 h3
 | .bT i c f e,st,h=>by
  refine gU (λts v p h=> ?_) st h
  refine kC (λt r h=> ?_) ts h
  refine WU (λx n p1 h=> ?_) t h
  refine JA (λx p2 h=> ?_) x h
  refine kE (λh=> ?_) r h
  obtain⟨h0,h⟩:=a2 h
  obtain⟨hn,h4,h6⟩:=a3 h
  obtain⟨h1,h2,h3⟩:=fZ h0
  cases of_decide_eq_true hn
  exact J2 go.toGo h1 h2 h3 h4 h6
 | .cT i kx e,st,h=>by
  refine gU (λts v p h=> ?_) st h
  refine kC (λt r h=> ?_) ts h
  refine gd (λx y p1 h=> ?_) t h
  refine JA (λx p2 h=> ?_) x h
  refine kE (λh=> ?_) r h
  obtain⟨h0,h4,h6,h7⟩:=a4 h
  obtain⟨h1,h2,h3⟩:=fZ h0
  exact Bm go.toGo h1 h2 h3 h4 h6 h7
 | .cu i kx e,st,h=>by
  refine gU (λts v p h=> ?_) st h
  refine kC (λt r h=> ?_) ts h
  refine gd (λx y p1 h=> ?_) t h
  refine JA (λx p2 h=> ?_) x h
  refine kE (λh=> ?_) r h
  obtain⟨h0,h4,h6,h7⟩:=a4 h
  obtain⟨h1,h2,h3⟩:=fZ h0
  exact DZ go.toGo h1 h2 h3 h4 h6 h7
 | .fU o kx j e,st,h=>by
  refine gU (λts v p h=> ?_) st h
  refine kC (λt r h=> ?_) ts h
  refine kE (λh=> ?_) r h
  refine nC (λts n p h=> ?_) t h
  refine kC (λt1 r h=> ?_) ts h
  refine kC (λt2 r h=> ?_) r h
  refine kE (λh=> ?_) r h
  refine gd (λx y p1 h=> ?_) t1 h
  refine JA (λa p2 h=> ?_) t2 h
  obtain⟨h1,h2,h3,h4,h5⟩:=a5 h
  obtain⟨h5,h6⟩:=a2 h5
  exact FH go.toGo h1 h2 h3 h4 h5 h6
 | .bV o kx e,st,h=>by
  refine gU (λts v p h=> ?_) st h
  refine kC (λt r h=> ?_) ts h
  refine gd (λx y p1 h=> ?_) t h
  refine kE (λh=> ?_) r h
  obtain⟨h1,_,_,h4,h5,h6⟩:=a6 h
  exact K4 go.toGo h1 h4 h5 h6
 | .app i e,st,h=>by
  refine mT (λc p h=> ?_) st h
  refine zp (λf x l q h=> ?_) c h
  refine kE (λh=> ?_) l h
  refine kC (λv r h=> ?_) x h
  refine kE (λh=> ?_) r h
  obtain⟨h1,h2,h3⟩:=a3 h
  exact Bl go.toGo h1 h2 h3
 | .ext i e,st,h=>by
  refine mT (λc p h=> ?_) st h
  refine zp (λf x l q h=> ?_) c h
  refine kE (λh=> ?_) l h
  refine kC (λv r h=> ?_) x h
  refine kE (λh=> ?_) r h
  obtain⟨h1,h2,h3⟩:=a3 h
  exact EO go.toGo h1 h2 h3
 | .eB a e,st,h=>by
  refine mT (λc p h=> ?_) st h
  refine zp (λf x l q h=> ?_) c h
  refine kE (λh=> ?_) l h
  refine kC (λv r h=> ?_) x h
  refine kE (λh=> ?_) r h
  refine WU (λx n q h=> ?_) f h
  obtain⟨h0,h1,h2,h3,h4⟩:=a5 h
  rw [Aa1]at h4
  cases of_decide_eq_true h0
  refine KU go.toGo ?_ h1 h2 h3 h4.1
  cases x with
  | Name _ _=>rfl
  | Subscript _ _ _=>rfl
  | _=>cases h4.2
 | .bH i c f e,st,h=>by
  refine gU (λts v p h=> ?_) st h
  refine kC (λt r h=> ?_) ts h
  refine WU (λx n p1 h=> ?_) t h
  refine JA (λx p2 h=> ?_) x h
  refine kE (λh=> ?_) r h
  obtain⟨h0,hn,h4,h6⟩:=a4 h
  obtain⟨h1,h2,h3⟩:=fZ h0
  cases of_decide_eq_true hn
  exact w6 go.toGo h1 h2 h3 h4 h6
 | .dF,st,h=>λpins s U H D I ⟨B,G,τ,h,s',p⟩=>p.elim
 | .ex e,st,h=>by
  refine mT (λv p h=> ?_) st h
  exact M9 go.toGo (a2 h).1 (a2 h).2
 | .ret e,st,h=>by
  refine MM (λv p h=> ?_) st h
  refine kS (λv h=> ?_) v h
  exact CC go.toGo h
 | .iff c a b,st,h=>by
  refine C6 (λx y z p h=> ?_) st h
  obtain⟨h0,h1,h2,h3⟩:=a4 h
  exact Lg ((Qc c go.toGo h1).2 h0) (dy go a h2) (dy go b h3)
 | .ij n c b,st,h=>by
  refine KN (λx y z p h=> ?_) st h
  refine kE (λh=> ?_) z h
  obtain⟨h0,h1,h2⟩:=a3 h
  exact Eh go ((Qc c go.toGo h1).2 h0) (dy go b h2)
 | .for tg one it b,st,h=>by
  refine Lh (λt i y z p h=> ?_) st h
  refine kE (λh=> ?_) z h
  obtain⟨h1,h2,h3,h4⟩:=a4 h
  exact M4 go h1 h2 h3 (dy go b h4)
theorem dy (go:md Y F X E k cf): ∀(m:M.Ss){sts:List Stmt},cV cf m sts=u0->dk X sts (cL Y E (M.execs F m))
 | .nil,sts,h=>by
  cases Af8.mp h
  exact K5
 | .cons s ss,sts,h=>by
  refine kC (λst r h=> ?_) sts h
  exact MN (Iq go s (a2 h).1) (dy go ss (a2 h).2)
end
end
section
variable {P:Program}{w:World}{K:Aa9}{mg:Str->Option Value}{base:Heap}{N:List Str}{k7:Str}{scope:Scope}{f:Addr}{cd:Value}{A:Around}{outer:List Env}{s:Shared}{H:Hp}{E:XK}
def Eg:jG (eJ P w) (hB (eJ P w) P w K mg base N k7 scope f cd A outer s H E) E:=λ_ _ _ _ _ _ _ z=>z.elim
end
structure Txt (K:Aa9) (mg:Str->Option Value) (f:String) where
 st:Stmt
 fa:Addr
 fd:FuncData
 N:List Str
 ps:List Str
structure mE {K:Aa9}{mg:Str->Option Value}{f:String}(t:Txt K mg f) (d:M.Fn) (fns own d9 dO:List String) (ob:gv):Prop where
 fn: ∃x k7,m1 K x k7 t.st t.fa t.fd
 bd:Binds K t.fd t.ps []
 sc:zD t.N t.ps (Wn t.st)
 n:t.N.length=d.n
 p:t.ps.length=d.ps
 le:d.ps<=d.n
 AZ:cV ⟨Wn t.st,t.N,fns,own,d9,dO,ob⟩ d.body (WJ t.st)=u0
structure oZ (Y:Ge) (p:M.Prog) (mg:Str->Option Value) (own d9 dO:List String) (ob:gv):Prop where
 cl:p.cl=Y.cl
 ow:own=Y.own
 blt: ∀x,x∈cn->mg (Xg x)=y0
 con: ∀x d,p.con.lookup x=k0 d-> ∃u v,mg (Xg x)=k0 u/\RelV v u/\ ∀G H,aC Y G H d v
 cls: ∀c,own.contains c=u0->mg (Xg c)=k0 (.ref (Y.ca c))
 fld: ∀c f,ob.fl.contains (c,f)=u0->dR Y.K (Y.ca c)/\b7 Y.K (Y.ca c) (Xg f)
 ki: ∀c m q,ob.mt.contains (c,m,q)=u0->dR Y.K (Y.ca c)/\ob.ms.contains q=u0/\mZ Y.K (Y.ca c) (Xg m) (Y.ma q)
 fe: ∀c q,ob.fe.contains (c,q)=u0->mg (Xg c)=k0 (.ref (Y.ca c))/\ob.ms.contains q=u0/\Mk Y.K (Y.ca c) (Y.ma q)
section
variable {P:Program}{w:World}{Y:Ge}{mg:Str->Option Value}{base:Heap}{p:M.Prog}{own d9 dO fns:List String}{ob:gv}
def LC (k:ai Y G h H) (r:bj Y G H ws vs) (no: ∀w∈ws,mi w=u0) (u:N.length=n):br Y ⟨G,H,h⟩ G (ws.map k0++Ab (n-ws.length) y0) h (start N vs) H:=by
 have get: ∀ {i}{w},M.Gn (ws.map k0++Ab (n-ws.length) y0) i=k0 w->ws[i]? =k0 w:=λ{i w} e=>by
  rw [ZH]at e
  by_cases d:i<ws.length
  .rw [Ac9 (by simpa using d),Ac]at e
   cases q:ws[i]? with
   | none=>rw [q]at e;cases e
   | some z=>rw [q]at e;exact e
  .rw [Ad9 (by simpa using d),Ai2]at e
   split at e<;>cases e
 have f: ∀ {ws}{vs}{i:Nat}{w},bj Y G H ws vs->ws[i]? =k0 w-> ∃v,vs[i]? =k0 v/\ak Y G H w v:=by
  intro ws
  induction ws with
  | nil=>intro vs i w _ e;simp at e
  | cons a r s=>
   intro vs i w ⟨v,y,e1,l,o⟩ e
   subst e1
   cases i with
   | zero=>simp at e;subst e;exact⟨v,rfl,l⟩
   | succ i=>
    obtain⟨m,t,x⟩:=s o (by assumption)
    exact⟨m,by simpa using t,x⟩
 have b: ∀ {i}{c},M.Gn _ i≠k0 (.own c):=λ{i c} e=>by
  have:=no _ (Ac4 (get e))
  cases this
 refine⟨⟨?_,λi w e=> ?_,λi j c w a p e1=>absurd e1 b,k⟩,Ext.refl,k,λi c a e1=>absurd e1 b⟩
 .unfold start
  rw [Aa6,Aa6,Aa,Aa,Ae2,Ae2,u,r.length]
 .obtain⟨v,e2,g⟩:=f r (get e)
  refine⟨v,?_,g⟩
  unfold start
  have d:=(Aa0.mp e2).1
  rw [Ac9 (by simp_all),Ac,e2]
  rfl
def AR (k:ai Y G h H) (p:av Y E G H (M.Gw h.length o) Q):Jv Y E ⟨G,H,h⟩ o { nx:=λ_ H'=>Q .au H',rt:=Q }:=by
 have g: ∀ {w}{c}{b}{H'}{v},_->av Y E G H (M.fin h.length w c) Q->Ext G H b H'->ai Y b c H'->ak Y b H' w v->aK [] [] H w v->Q v H':=λ{w c b H' v} q p e a r f=>by
  unfold M.fin at p
  split at p
  .exact p b H' e a v r f
  .split at p
   .rename_i j
    rw [Aa1,k.len]at j
    have n:=e.cut
    rw [k.len]at p
    exact p _ H' n (a.cut e.le j.2) v (r.cut G.n e.le j.1 q) f
   .exact p b H' e a v r f
 cases o with
 | next l c=>exact λb s H' m=>g (λi z=>by cases z) p m.ext m.st.heap rfl trivial
 | ret w c=>
  cases w with
  | bor i=>exact p.elim
  | v d=>exact λb v H' e a r f=>g (λi z=>by cases z) p e a r f
  | own i=>exact λb v H' e a r f=>g (λi z=>by cases z) p e a r f
 | brk l c=>exact p.elim
 | cont l c=>exact p.elim
 | fail=>exact p.elim
end
section
variable {P:Program}{w:World}{Y:Ge}{mg:Str->Option Value}{base:Heap}{p:M.Prog}{own d9 dO fns:List String}{ob:gv}
def vR (P:Program) (w:World) (Y:Ge) (b:Str->Option Value) (base:Heap) (p:M.Prog) (k:Nat) (f:String):Prop:=
 ∃ps a fd,QG P w Y.K b base (eJ P w) (2*k+1) a fd ps (gO Y (M.call p k f))/\Binds Y.K fd ps []/\Ah5 Y.K (.ref a)=u0/\b (Xg f)=k0 (.ref a)
def sx (P:Program) (w:World) (Y:Ge) (a:Str->Option Value) (base:Heap) (p:M.Prog) (k:Nat) (q:String):Prop:=
 ∃ps fd,QG P w Y.K a base (eJ P w) (2*k+1) (Y.ma q) fd ps (gO Y (M.call p k q))/\Binds Y.K fd ps []
def pz (l:oZ Y p mg own d9 dO ob){t:Txt Y.K mg f}(ok:mE t d fns own d9 dO ob) (J:p.fns.lookup f=k0 d) (k) (X: ∀g,fns.contains g=u0->vR P w Y mg base p k g) (S: ∀q,ob.ms.contains q=u0->sx P w Y mg base p k q):
 QG P w Y.K mg base (eJ P w) (2*(k+1)+1) t.fa t.fd t.ps (gO Y (M.call p (k+1) f)):=by
 have a: ∀ {e}{h},e.length≠d.ps->M.call p (k+1) f e h= .fail:=λ{e h} I=>by
  rw [M.call,J]
  simp [M.run,I]
 have j:=λ{e h} I=>M.Gb J k e h I
 obtain⟨x,R,F⟩:=ok.fn
 refine L9 F ok.sc (λT H Q E ⟨G,h,e,B,v,no,q⟩=> ?_) λU A C s H T Q E b ⟨G,h,e,B,v,no,q⟩=> ?_
 .by_cases n:e.length=d.ps
  .rw [← v.length,n,ok.p]
  .rw [a n]at q;exact q.elim
 .by_cases n:e.length=d.ps
  rotate_left
  .rw [a n]at q;exact q.elim
  rw [j n]at q
  refine⟨cL Y E (M.execs ⟨M.call p k,p.cl,p.con⟩ d.body),dy (k:=2*k+1) ?_ d.body ok.AZ,?_⟩
  .refine { N:=rfl,K:=rfl,cl:=l.cl,ow:=l.ow,nd:=ok.sc.nd,hV:=λx i=>um i,rN:=λx i=>i,iZ:=λx i=>⟨vF i,.inl rfl⟩,mx:=λx i=>i,gl:=λx i=>vw i,calm:=rfl,room:=b.mono (by lia),d8:=b,pass:=Eg,blt:=l.blt,con:=l.con,fn:=λg hg=> ?_,cls:=l.cls,fld:=l.fld,ki:=λc m q u=> ?_,fe:=λc q u=> ?_,iF:=DT,m9:=rfl,HB:=rfl,ex:=rfl }
   .obtain⟨L,V,O,o,r,Z,W⟩:=X g hg
    exact⟨L,⟨V,O,o,r,Z,W⟩⟩
   .obtain⟨z,D,y⟩:=l.ki c m q u
    obtain⟨L,O,o,r⟩:=S q D
    exact⟨z,_,O,L,y,o,r⟩
   .obtain⟨z,D,y⟩:=l.fe c q u
    obtain⟨L,O,o,r⟩:=S q D
    exact⟨z,_,O,L,y,o,r⟩
  .refine⟨⟨G,H,h⟩,G,e.map k0++Ab _ y0,h,?_,AR B q⟩
   have:=LC B v no ok.n
   rw [n]at this
   exact this
def uv (f) (fa) (fd) (ps):QG P w Y.K mg base (eJ P w) (2*0+1) fa fd ps (gO Y (M.call p 0 f)):=
 ⟨λe H Q E ⟨G,h,g,c,d,no,q⟩=>q.elim,λA a s H b i e Q E _ _ _ _ ⟨G,h,g,c,d,no,q⟩=>q.elim⟩
def Ft (l:oZ Y p mg own d9 dO ob) (all: ∀f,fns.contains f=u0-> ∃d,p.fns.lookup f=k0 d/\ ∃t:Txt Y.K mg f,mE t d fns own d9 dO ob/\Ah5 Y.K (.ref t.fa)=u0/\mg (Xg f)=k0 (.ref t.fa))
 (a: ∀q,ob.ms.contains q=u0-> ∃d,p.fns.lookup q=k0 d/\ ∃t:Txt Y.K mg q,mE t d fns own d9 dO ob/\t.fa=Y.ma q): ∀k,(∀ f,fns.contains f=u0->vR P w Y mg base p k f)/\ ∀q,ob.ms.contains q=u0->sx P w Y mg base p k q:=by
 intro k
 induction k with
 | zero=>
  refine⟨λf g=> ?_,λq e=> ?_⟩
  .obtain⟨d,b,t,ok,i,h⟩:=all f g
   exact⟨t.ps,t.fa,t.fd,uv f _ _ _,ok.bd,i,h⟩
  .obtain⟨d,b,t,ok,j⟩:=a q e
   exact⟨t.ps,t.fd,uv q _ _ _,ok.bd⟩
 | succ k c=>
  refine⟨λf g=> ?_,λq e=> ?_⟩
  .obtain⟨d,b,t,ok,i,h⟩:=all f g
   exact⟨t.ps,t.fa,t.fd,pz l ok b k c.1 c.2,ok.bd,i,h⟩
  .obtain⟨d,b,t,ok,j⟩:=a q e
   exact⟨t.ps,t.fd,j▸pz l ok b k c.1 c.2,ok.bd⟩
def pS (K:Aa9):Sp:=λc H Q _=> ∃(a:Addr) (b:List Int),c= [.ref a]/\bq K H a (b.map V.int)/\b.length<=63/\ ∀H',Q (.bl u0) H'
theorem yI : ∀(ns:List Int),ab Y G H (ns.map M.D.int) (ns.map V.int)
 | []=>rfl
 | n::ns=>⟨_,_,rfl,rfl,yI ns⟩
def EV (F:QG P w Y.K mg base (eJ P w) n fa fd ps (gO Y (M.call p k "law"))) (fD: ∀ns:List Int,ns.length<=63-> ∃h',M.call p k "law" [.v (.lst (ns.map .int))] []= .ok (.v (.bl true)) h'):
 QG P w Y.K mg base k5 n fa fd ps (pS Y.K):=by
 refine Lp F ?_
 rintro x H Q E ⟨a,ns,h,d,m,q⟩
 subst h
 obtain⟨h',t⟩:=fD ns m
 have fin: ∀G:Gh,ai Y G [] H->iO Y G H a _->gO Y (M.call p k "law") [.ref a] H Q (fun _ _ _=>False):=fun G l j=>by
  refine⟨G,[],[.v (.lst _)],l,⟨.ref a,[],rfl,⟨a,ns.map V.int,rfl,j,yI ns⟩,rfl⟩,λw u=> ?_,?_⟩
  .cases Ac3.mp u;rfl
  .rw [t]
   intro y i _ _ v r _
   cases (r)
   exact q i
 obtain d | d:=d
 .refine fin ⟨λb=>b=a,λ_=>0,0⟩ ⟨rfl,λr c e=>by simp at e,λr s g=>absurd g (Ag7 _),λb f=> ?_⟩ (.inl ⟨rfl,d⟩)
  subst f
  obtain z | ⟨o,z⟩:=d
  .exact⟨_,z⟩
  .exact⟨_,z⟩
 .exact fin ⟨λ_=>False,λ_=>0,0⟩ ⟨rfl,λr c e=>by simp at e,λr s g=>absurd g (Ag7 _),λb f=>f.elim⟩ (.inr d)
def walk {l:PySem.W.OpenLaw}{K:Params->Aa9}(k) (e:bc k callerA) (j:l.most=k0 63) (b:d.params.defaults= [])
 (n: ∀ w h,YP w h->(K w.params).In h)
 (F: ∀ w mg i h,(K w.params).In h->h.Ns mainGlobals mg->mg d.name=k0 (.ref i) →
   ∃fd:FuncData,(∀ s u,BindsTo s fd ⟨[u],[]⟩ [(x,u)])/\ ∀base:Heap,(K w.params).In base->base.Ns mainGlobals mg->QG l.prog w (K w.params) mg base k5 k i fd [x] (pS (K w.params))):
 PySem.W.WalkO q loose XP YP l.row.toRowW d [] (λf vs=>PySem.call f vs):=
 L2.gA j (by decide) b e n F (λ_ _ a m c _ g=>⟨a,m,rfl,g,c,λ_=>rfl⟩) λ_ _ _ _ _ z=>z
end
open PySem PySem.W PyProof.Rows KTD
theorem uw {f g:Str->Option (Str×Value)}: ∀ {l:List Str},(∀ n∈l,f n=g n)->l.filterMap f=l.filterMap g
 | [],_=>rfl
 | a::l,h=>by rw [Aj9,Aj9,h a Aa5,uw λn b=>h n (Aa2 _ b)]
theorem yq: ∀ {ps:List Str}{a:List Value},ps.Nodup->a.length=ps.length->ps.filterMap (λn=>((ps.zip a).lookup n).map (n, ·))=ps.zip a
 | [],a,_,_=>rfl
 | p::ps,[],_,h=>by cases h
 | p::ps,u::a,c,h=>by
  have b:=Ai.mp c
  rw [List.zip_cons_cons,List.filterMap_cons_some (by rw [List.lookup_cons_self];rfl)]
  congr 1
  refine(uw λn d=> ?_).trans (yq b.2 (Nat.succ.inj h))
  rw [Ab7,beq_eq_false_iff_ne.mpr (λe=>b.1 (e▸d):n≠p)]
def Cy {ps:List Str}{a:List Value}(h:a.length=ps.length)(b:n∈ps):((ps.zip a).lookup n).isSome=true:=by
 induction ps generalizing a with
 | nil=>cases b
 | cons p ps c=>
  cases a with
  | nil=>cases h
  | cons u a=>
   rw [List.zip_cons_cons,Ab7]
   cases e:n==p with
   | true=>rfl
   | false=>exact c (Nat.succ.inj h) ((Ab8.mp b).resolve_left (beq_eq_false_iff_ne.mp e))
abbrev ea (a:FuncData):List Str:=a.params.args.map (·.arg)
def LK (h1:fd.params.posonlyargs= []) (h2:fd.params.vararg=y0) (h3:fd.params.kwonlyargs= []) (h4:fd.params.kwarg=y0) (h5:fd.defaults= .none) (nd:(ea fd).Nodup)(hl:us.length=(ea fd).length):bindArgs fd ⟨us,[]⟩=pure ((ea fd).zip us):=by
 have e: ∀k,((ea fd).take k).filter (λn=>(((ea fd).zip us).lookup n).isNone)= []:=λk=>List.filter_eq_nil_iff.mpr λn hn=>by
  have:=Cy hl (List.mem_of_mem_take hn)
  cases q:((ea fd).zip us).lookup n with
  | none=>rw [q]at this;cases this
  | some _=>simp
 obtain⟨n,q,⟨po,as,va,ko,kd,ka,df⟩,b,sc,g,cl,d,kV,doc,pm,an,cd,ct,bi⟩:=fd
 cases h1
 cases h2
 cases h3
 cases h4
 cases h5
 refine(if_neg ?_).trans ((if_neg ?_).trans ?_)
 .simpa using Al1 hl
 .exact λz=>by
   have z':=(congrArg (λl:List Str=> !l.isEmpty) (e _)).symm.trans z
   cases z'
 .refine Eq.trans ?_ (congrArg pure (yq nd hl))
  rw [show ∀k,List.drop k (none.getD #[]).toList= []from λk=>List.drop_nil,List.zip_nil_right]
  exact congrArg (λl:List Str=>(pure _:Sem _)) (Ae3 _)
noncomputable def mN (K:Frag) (a:Addr) (f:FuncData->List Stmt->Bool):Bool:=match K.lookup a with
 | some ⟨_,_,.func fd,_⟩=>(match fd.body with
  | .stmts b=>f fd b
  | _=>k9)
 | _=>k9
def sX {K:Frag}(h:mN K a f=u0): ∃oc i fd sl b,K.lookup a=k0 ⟨oc,i,.func fd,sl⟩/\fd.body= .stmts b/\f fd b=true:=by
 unfold mN at h
 split at h
 .rename_i e
  split at h
  .rename_i e2
   exact⟨_,_,_,_,_,e,e2,h⟩
  .cases h
 .cases h
def mQ (K:Frag) (a:Addr) (b:FuncData) (N:List Str):Prop:=
 (b.globals=mainGlobals/\b.builtins=builtinsNs/\b.closure= []/\b.defaults= .none)/\codeIn K b.code b.qualname=u0/\keepIn K (.ref a)=u0 ∧
 (b.params.posonlyargs.isEmpty=u0/\b.params.vararg.isNone=u0/\b.params.kwonlyargs.isEmpty=u0/\b.params.kwarg.isNone=u0) ∧
 b.scope.kind= .function/\b.scope.isCoroutine=k9/\b.scope.isGenerator=k9/\N.Nodup/\N.take (ea b).length=ea b/\(∀ x∈ea b,b.scope.names.lookup x=k0 .local\/b.scope.names.lookup x=k0 .cell)/\ ∀y∈b.scope.names,y.2≠ .free
instance {K:Frag}{a:Addr}{fd:FuncData}{N:List Str}:Decidable (mQ K a fd N):=by unfold mQ;infer_instance
def K3 {K:Frag}(l:K.lookup a=k0 ⟨oc,od,.func fd,sl⟩) (o:fd.body= .stmts b) (p:mQ K a fd N):
 ∃st x q,WJ st=b/\Wn st=fd.scope/\m1 K x q st a fd/\zD N (ea fd) fd.scope/\ ∀i:List Value,i.length=(ea fd).length->bindArgs fd ⟨i,[]⟩=pure ((ea fd).zip i):=by
 obtain⟨⟨g,bi,n,e⟩,r,u,⟨j,a2,a3,a4⟩,s,f,k,c,d,m,t⟩:=p
 refine⟨.FunctionDef fd.name fd.params b [] y0 [] fd.scope y0 fd.name ⟨0,0,0,0⟩,fd.name,fd.qualname,rfl,rfl,⟨⟨oc,od,fd.kwdefaults,fd.doc,fd.pyModule,fd.annotations,fd.code,fd.closureTuple,sl,?_,l,r⟩,u⟩,⟨s,f,k,c,d,m,t⟩,λi h=>LK (Af8.mp j) (Aj6.mp a2) (Af8.mp a3) (Aj6.mp a4) e (d▸(List.take_sublist _ _).nodup c) h⟩
 cases fd
 cases o
 cases g
 cases bi
 cases n
 cases e
 rfl
def pE:Option (Option Value)->Addr
 | some (k0 (.ref a))=>a
 | _=>0
abbrev eh (K:Frag) (c:String):Addr:=pE (nsIn K mainGlobals (Xg c))
abbrev nP (K:Frag) (c:String):Prop:=nsIn K mainGlobals (Xg c)=k0 (k0 (.ref (eh K c)))
noncomputable def hU (K:Frag) (a:gv) (q:String):Addr:=match a.mt.find? (·.2.2==q)with
 | some (c,m,_)=>pE (findIn K (.ref (eh K c)) (Xg m))
 | none=>match a.fe.find? (·.2==q)with
  | some (c,_)=>pE (findIn K (.ref (eh K c)) "__init__")
  | none=>0
def Hl (sc:Scope):List Str:=sc.names.filterMap λy=>if y.2= .local\/y.2= .cell then k0 y.1 else y0
def pf (K:Frag) (p:M.Prog) (e own c g:List String) (h:gv) (nm:List (String×List String)) (a:Addr) (f:String):Bool:=mN K a λfd b=>match p.fns.lookup f with
 | some d=>(λN=>u9 (mQ K a fd N/\N.length=d.n/\(ea fd).length=d.ps/\d.ps<=d.n)&&cV ⟨fd.scope,N,e,own,c,g,h⟩ d.body b) (((nm.lookup f).map λl=>l.map Xg).getD (Hl fd.scope))
 | none=>k9
def pw {K:Frag}(mg) (h:pf K p fns own d9 dO ob nm a f=u0):
 ∃d,p.fns.lookup f=k0 d/\ ∃t:Txt K mg f,mE t d fns own d9 dO ob/\t.fa=a/\keepIn K (.ref a)=u0/\ ∃oc j sl,K.lookup a=k0 ⟨oc,j,.func t.fd,sl⟩/\t.ps=ea t.fd/\ ∀i:List Value,i.length=t.ps.length->bindArgs t.fd ⟨i,[]⟩=pure (t.ps.zip i):=by
 obtain⟨oc,j,L,sl,b,l,r,h⟩:=sX h
 cases e:p.fns.lookup f with
 | none=>rw [e]at h;cases h
 | some d=>
  rw [e]at h
  generalize ((nm.lookup f).map λl=>l.map Xg).getD _=N at h
  obtain⟨s,k⟩:=(Aa1 _ _).mp h
  obtain⟨q,u,n,w⟩:=of_decide_eq_true s
  obtain⟨m,x,v,rfl,o,F,c,g⟩:=K3 l r q
  rw [← o]at c k
  exact⟨d,rfl,⟨m,a,L,_,ea L⟩,⟨⟨x,v,F⟩,.all g,c,u,n,w,k⟩,rfl,F.kp,oc,j,sl,l,rfl,g⟩
noncomputable def pe (K:Frag) (a:Addr) (f:List Value->Bool):Bool:=match K.lookup a with
 | some o=>(match o.data with
  | .seq b _=>u9 (o.cls= .type "tuple" /\o.dict=none/\b.size<=100)&&f b.toList
  | _=>k9)
 | none=>k9
def F5 (h:pe Y.K a f=u0): ∃i,f i=u0/\ ∀vs,Vals vs i-> ∀G H,e8 Y G H a vs:=by
 unfold pe at h
 split at h
 .rename_i o e
  split at h
  .rename_i b n e2
   obtain⟨d,g⟩:=(Aa1 _ _).mp h
   obtain⟨k,c,j⟩:=of_decide_eq_true d
   exact⟨_,g,λvs r G H=> .inr ⟨o,b,n,e,k,c,e2,Ab5 j (by rw [sizeLine_eq];decide),r⟩⟩
  .cases h
 .cases h
mutual
noncomputable def oR (K:Frag):M.D->Value->Bool
 | .int i,.int j _=>u9 (i=j)
 | .str s,.str t _=>u9 (aF s=t)
 | .tup ds,.ref a=>pe K a λus=>fP K ds us
 | _,_=>k9
noncomputable def fP (K:Frag):List M.D->List Value->Bool
 | [],[]=>u0
 | d::ds,u::us=>oR K d u&&fP K ds us
 | _,_=>k9
end
def vC (K:Frag) (x:String) (d:M.D):Bool:=match nsIn K mainGlobals (Xg x)with
 | some (k0 u)=>oR K d u
 | _=>k9
mutual
theorem ve {Y:Ge}: ∀ {d:M.D}{u:Value},oR Y.K d u=u0-> ∃v,RelV v u/\ ∀G H,aC Y G H d v
 | .int _,.int _ _,h=>by cases of_decide_eq_true h;exact⟨.int _,⟨_,rfl⟩,λ_ _=>rfl⟩
 | .str _,.str _ _,h=>by cases of_decide_eq_true h;exact⟨.str _,⟨_,rfl⟩,λ_ _=>rfl⟩
 | .tup ds,.ref a,h=>by
  obtain⟨us,h1,h2⟩:=F5 h
  obtain⟨vs,r,h3⟩:=eX h1
  exact⟨.ref a,rfl,λG H=>⟨a,vs,rfl,h2 vs r G H,h3 G H⟩⟩
theorem eX {Y:Ge}: ∀ {ds:List M.D}{us:List Value},fP Y.K ds us=u0-> ∃vs,Vals vs us/\ ∀G H,ab Y G H ds vs
 | [],[],_=>⟨[],.nil,λ_ _=>rfl⟩
 | d::ds,u::us,h=>by
  obtain⟨h1,h2⟩:=(Aa1 _ _).mp h
  obtain⟨v,r1,h3⟩:=ve h1
  obtain⟨vs,r2,h4⟩:=eX h2
  exact⟨v::vs,.cons r1 r2,λG H=>⟨v,vs,rfl,h3 G H,h4 G H⟩⟩
end
theorem sT : ∀ {l:List (String×α)}{x}{d},l.lookup x=k0 d->(x,d)∈l
 | (k,v)::l,x,d,h=>by
  rw [Ab7]at h
  by_cases q:(x==k)=u0
  .rw [q]at h;cases h;rw [eq_of_beq q];exact Aa5
  .rw [eq_false_of_ne_true q]at h;exact Aa2 _ (sT h)
abbrev vd (K:Frag) (C:Addr):Prop:=plainGet K C Str.empty=true/\hasDictIn K C=true/\plainOver K C=true/\findIn K (.ref C) "__setattr__" =some (some (.builtin "object.__setattr__"))
def pF (K:Frag) (p:M.Prog) (b own d e:List String) (a:gv) (nm:List (String×List String)):Prop:=
 (∀ x∈cn,nsIn K mainGlobals (Xg x)=k0 y0)/\(∀ x∈p.con,vC K x.1 x.2=u0)/\(∀ c∈own,nP K c) ∧
 (∀ c∈a.fl,vd K (eh K c.1)/\findIn K (.ref (eh K c.1)) (Xg c.2)=k0 y0) ∧
 (∀ c∈a.mt,vd K (eh K c.1)/\a.ms.contains c.2.2=u0/\findIn K (.ref (eh K c.1)) (Xg c.2.1)=k0 (k0 (.ref (hU K a c.2.2)))/\isFn K (.ref (hU K a c.2.2))=u0/\keepIn K (.ref (hU K a c.2.2))=u0) ∧
 (∀ c∈a.fe,nP K c.1/\a.ms.contains c.2=true/\makesIn K (eh K c.1)=true/\findIn K (.ref (eh K c.1)) "__init__" =some (some (.ref (hU K a c.2)))/\isFn K (.ref (hU K a c.2))=true/\keepIn K (.ref (eh K c.1))=true) ∧
 (∀ f∈b,nP K f/\pf K p b own d e a nm (eh K f) f=true)/\(∀ q∈a.ms,pf K p b own d e a nm (hU K a q) q=true)/\b.contains "law" =true/\mN K (eh K "law") (fun fd _=>decide (ea fd= [("_law_script" :Str)]))=true
set_option synthInstance.maxSize 1000 in
instance {K:Frag}{p:M.Prog}{fns own d9 dO:List String}{ob:gv}{nm:List (String×List String)}:Decidable (pF K p fns own d9 dO ob nm):=by unfold pF;infer_instance
def wY  [BEq α] [LawfulBEq α] {l:List α}(h:l.contains x=u0):x∈l:=List.contains_iff_mem.mp h
def i8 {l:OpenLaw}{K:Frag}(p) (fns own d9 dO) (ob) (nm) (k) (X:K.In h) (G:h.Ns mainGlobals mg) (H:mg "law" =some (.ref fa)) (T:decide (pF K p fns own d9 dO ob nm)=true)
 (fD: ∀ns:List Int,ns.length<=63-> ∃h',M.call p (k+1) "law" [.v (.lst (ns.map .int))] []= .ok (.v (.bl true)) h'):
 ∃fd:FuncData,(∀ s v,BindsTo s fd ⟨[v],[]⟩ [("_law_script",v)])/\ ∀base:Heap,K.In base->base.Ns mainGlobals mg->QG l.prog w K mg base k5 (2*(k+1)+1) fa fd ["_law_script"] (pS K):=by
 obtain⟨O,V,t2,S,N,t8,E,F,y,C⟩:=of_decide_eq_true T
 have I:oZ ⟨K,eh K,p.cl,own,hU K ob⟩ p mg own d9 dO ob:=by
  refine⟨rfl,rfl,λx R=>mg_none_of X G (O x R),λx d b=> ?_,λc a=>mg_of X G (t2 c (wY a)),λc f a=> ?_,λc m q a=> ?_,λc q a=> ?_⟩
  .have z:=V _ (sT b)
   unfold vC at z
   split at z
   .rename_i u e
    obtain⟨v,r⟩:=ve (Y:=⟨K,eh K,p.cl,own,hU K ob⟩) z
    exact⟨u,v,mg_of X G e,r⟩
   .cases z
  .obtain⟨⟨e1,e2,i,n⟩,o⟩:=S _ (wY a)
   exact⟨⟨e1,e2,i,n⟩,o⟩
  .obtain⟨⟨e1,e2,i,n⟩,o,D,U,Z⟩:=N (c,m,q) (wY a)
   exact⟨⟨e1,e2,i,n⟩,o,D,U,Z⟩
  .obtain⟨e1,e2,i,n,o,D⟩:=t8 (c,q) (wY a)
   exact⟨mg_of X G e1,e2,i,n,o,D⟩
 have A:=λf B=>mg_of X G (E f (wY B)).1
 have e:eh K "law" =fa:=by
  have:=(A "law" y).symm.trans H
  cases this
  rfl
 obtain⟨d,b,t,ok,g,L,oc,od,sl,lk,ep,W⟩:=pw mg (E "law" (wY y)).2
 obtain⟨_,_,fd,_,_,j,_,z⟩:=sX C
 rw [lk]at j
 cases j
 have z:=ep.trans (of_decide_eq_true z)
 refine⟨t.fd,λs v=> .of_eq ((W [v] (by rw [z];rfl)).trans (by rw [z];rfl)),λbase _ _=> ?_⟩
 have J:=Ft (P:=l.prog) (w:=w) (base:=base) I (λf B=>by
  obtain⟨d,b,t,ok,g,L,_⟩:=pw mg (E f (wY B)).2
  exact⟨d,b,t,ok,g▸L,g▸A f B⟩) (λq Q=>by
  obtain⟨d,b,t,ok,g,_⟩:=pw mg (F q (wY Q))
  exact⟨d,b,t,ok,g⟩) k
 have:=EV (pz I ok b k J.1 J.2) fD
 rw [g,e,z]at this
 exact this
end L2.MS
namespace Wf
def gP (t k):t / 2 ^ k % 2=(t.testBit k).toNat:=(Nat.toNat_testBit t k).symm
theorem XN: ∀(n a b:Nat),a<=n->(a ||| b)+(a &&& b)=a+b
 | 0,a,b,h=>by
  have:a=0:=by lia
  subst this;simp
 | n+1,a,b,h=>by
  by_cases c:a=0
  .subst c;simp
  have j:=XN n (a / 2) (b / 2) (by lia)
  have e1:=Am (a ||| b) 2
  have e2:=Am (a &&& b) 2
  rw [Nat.or_div_two]at e1
  rw [Nat.and_div_two]at e2
  have e:(a ||| b) % 2=1↔a % 2=1\/b % 2=1:=Nat.or_mod_two_eq_one
  have d:(a &&& b) % 2=1↔a % 2=1/\b % 2=1:=Nat.and_mod_two_eq_one
  have k:=Am a 2
  have l:=Am b 2
  have g:(a ||| b) % 2<2:=Aj5 _ (by decide)
  have i:(a &&& b) % 2<2:=Aj5 _ (by decide)
  generalize (a ||| b) % 2=p at*
  generalize (a &&& b) % 2=q at*
  by_cases c:a % 2=1<;>by_cases f:b % 2=1
  .have:p=1:=e.mpr (.inl c)
   have:q=1:=d.mpr ⟨c,f⟩
   lia
  .have:p=1:=e.mpr (.inl c)
   have: ¬q=1:=λh=>f (d.mp h).2
   lia
  .have:p=1:=e.mpr (.inr f)
   have: ¬q=1:=λh=>c (d.mp h).1
   lia
  .have: ¬p=1:=λh=>(e.mp h).elim c f
   have: ¬q=1:=λh=>c (d.mp h).1
   lia
def KP (a b:Nat):a-(a &&& b)=a ^^^ (a &&& b):=by
 have h:=XN _ (a ^^^ (a &&& b)) (a &&& b) (Aa7 _)
 have e1:(a ^^^ (a &&& b)) ||| (a &&& b)=a:=Aj8 λk=>by
  simp [Ah2]
  cases a.testBit k<;>cases b.testBit k<;>rfl
 have e2:(a ^^^ (a &&& b)) &&& (a &&& b)=0:=Aj8 λk=>by
  simp only [Nat.testBit_xor,Ah2,Af9]
  cases a.testBit k<;>cases b.testBit k<;>rfl
 lia
def aR (a b k:Nat):(a-(a &&& b)).testBit k=(a.testBit k&& !b.testBit k):=by
 rw [KP]
 simp [Ah2]
 cases a.testBit k<;>cases b.testBit k<;>rfl
def aw (n t:Nat):List (Nat×Nat):=((Aa3 (n*n)).filter t.testBit).map λk=>(k / n,k % n)
def cQ (n:Nat) (ps:List (Nat×Nat)):Nat:=ps.foldl (λt p=>t ||| 2 ^ (p.1*n+p.2)) 0
def gq (n:Nat) (ps:List (Nat×Nat)):Prop:= ∀p∈ps,p.1<n/\p.2<n
def place_lt {n a b:Nat}(c:a<n) (d:b<n):a*n+b<n*n:=by
 have:a*n+n<=n*n:=by
  have:=Ao2 n (Nat.succ_le_of_lt c)
  rwa [Nat.succ_mul]at this
 lia
def aE {n a b:Nat}(c:b<n):(a*n+b) / n=a:=by
 rw [An8,Nat.mul_add_div (by lia),Nat.div_eq_of_lt c,Nat.add_zero]
def aI {n a b:Nat}(c:b<n):(a*n+b) % n=b:=by
 rw [An8,Nat.mul_add_mod,Nat.mod_eq_of_lt c]
def bb {n k:Nat}(h:k<n*n):k / n<n:=Nat.div_lt_of_lt_mul h
def aW {n k:Nat}(h:k<n*n):k % n<n:=Aj5 _ (by
 cases n with
 | zero=>simp at h
 | succ m=>lia)
def bu (n k:Nat):k / n*n+k % n=k:=by rw [An8];exact Am k n
theorem p5 (n): ∀(ps:List (Nat×Nat)) (t k:Nat),(ps.foldl (λt p=>t ||| 2 ^ (p.1*n+p.2)) t).testBit k=(t.testBit k||ps.any λp=>u9 (p.1*n+p.2=k))
 | [],t,k=>by simp
 | p::r,t,k=>by
  rw [Ak3,p5 n r,Af0,Ad7,Ag9,Bool.or_assoc]
def cI (n) (ps) (k):(cQ n ps).testBit k=ps.any λp=>u9 (p.1*n+p.2=k):=by
 unfold cQ;rw [p5];simp
def cZ (h:gq n ps):cQ n ps<2 ^ (n*n):=by
 refine Nat.lt_pow_two_of_testBit _ λi b=> ?_
 rw [cI,Ak7]
 intro p a
 have:=h p a
 have:=place_lt this.1 this.2
 simp;lia
def bE :p∈aw n t↔ ∃k,k<n*n/\t.testBit k=u0/\p=(k / n,k % n):=by
 unfold aw
 simp [Ab4]
 constructor
 .rintro ⟨k,⟨a,b⟩,rfl⟩;exact⟨k,a,b,rfl⟩
 .rintro ⟨k,a,b,rfl⟩;exact⟨k,⟨a,b⟩,rfl⟩
def bO (n t):gq n (aw n t):=λp b=>by
 obtain⟨k,a,c,rfl⟩:=bE.mp b
 exact⟨bb a,aW a⟩
def lK (ps:List (Nat×Nat)):List (Nat×Nat):=ps.map λp=>(p.2,p.1)
def eR (h:gq n ps):gq n (lK ps):=λp b=>by
 obtain⟨q,a,rfl⟩:=Ab6.mp b
 exact⟨(h q a).2,(h q a).1⟩
def bG (n t:Nat):Nat:=cQ n (lK (aw n t))
def f7 (n t):bG n t<2 ^ (n*n):=cZ (eR (bO n t))
def ff (g:k<n*n):(bG n t).testBit k=t.testBit (k % n*n+k / n):=by
 unfold bG
 rw [cI]
 have c:=bb g
 by_cases h:t.testBit (k % n*n+k / n)=u0
 .rw [h,Ad2]
  refine⟨(k / n,k % n),?_,?_⟩
  .refine Ab6.mpr ⟨(k % n,k / n),bE.mpr ⟨k % n*n+k / n,place_lt (aW g) c,h,?_⟩,rfl⟩
   rw [aE c,aI c]
  .simp [decide_eq_true_eq];exact bu n k
 .have d:=by simpa using h
  rw [d,Ak7]
  intro p l
  obtain⟨q,i,rfl⟩:=Ab6.mp l
  obtain⟨j,b,a,rfl⟩:=bE.mp i
  simp [decide_eq_true_eq]
  intro e
  subst e
  have f:=bb b
  have a2:=aW b
  rw [aE f,aI f,bu]at d
  rw [d]at a
  cases a
def bF (n:Nat):Nat:=cQ n ((Aa3 n).map λa=>(a,a))
def dX (n):gq n ((Aa3 n).map λa=>(a,a)):=λp c=>by
 obtain⟨a,b,rfl⟩:=Ab6.mp c
 exact⟨Ab4.mp b,Ab4.mp b⟩
def Lx (c:k<n*n):(bF n).testBit k=u9 (k / n=k % n):=by
 unfold bF
 rw [cI]
 have f:=aW c
 by_cases h:k / n=k % n
 .rw [decide_eq_true h,Ad2]
  refine⟨_,Ab6.mpr ⟨k / n,Ab4.mpr (bb c),rfl⟩,?_⟩
  simp [decide_eq_true_eq]
  have:=bu n k
  rw [← h]at this
  exact this
 .rw [decide_eq_false h,Ak7]
  intro p d
  obtain⟨a,b,rfl⟩:=Ab6.mp d
  simp [decide_eq_true_eq]
  intro e
  subst e
  have b:=Ab4.mp b
  exact h (by rw [aE b,aI b])
def cg (n p b:Nat):Nat:=p / 2 ^ (b*n) % 2 ^ n
def joinM (n o p:Nat):Nat:=(aw n o).foldl (λt q=>t ||| cg n p q.2*2 ^ (q.1*n)) 0
def c5 (n p b):cg n p b<2 ^ n:=Aj5 _ (Nat.pow_pos (by decide))
def sy (a:c<n):(cg n p b).testBit c=p.testBit (b*n+c):=by
 unfold cg
 rw [Ah,decide_eq_true a,Ae5,Ah0,Ap4]
def FO (f:x<2 ^ n) (d:0<n):(x*2 ^ (a*n)).testBit k=(u9 (k / n=a)&&x.testBit (k % n)):=by
 rw [Nat.testBit_mul_two_pow]
 have e:=bu n k
 by_cases h:k / n=a
 .subst h
  rw [decide_eq_true rfl,Ae5]
  have:k / n*n<=k:=by lia
  rw [decide_eq_true (this),Ae5]
  rw [show k-k / n*n=k % n by lia]
 .rw [decide_eq_false h,Af]
  by_cases b:k>=a*n
  .rw [decide_eq_true b,Ae5]
   refine Ai8 (Ab3 f (Ad0 (by decide) ?_))
   have c:a<k / n:=by
    have:a<=k / n:=(Nat.le_div_iff_mul_le d).mpr b
    lia
   have g:=Ao2 n c
   lia
  .rw [decide_eq_false b,Af]
theorem t7 (n p) (a:0<n): ∀(ps:List (Nat×Nat)) t k,(ps.foldl (λt q=>t ||| cg n p q.2*2 ^ (q.1*n)) t).testBit k=(t.testBit k||ps.any λq=>u9 (k / n=q.1)&&(cg n p q.2).testBit (k % n))
 | [],t,k=>by simp
 | q::r,t,k=>by
  rw [Ak3,t7 n p a r,Af0,FO (c5 n p q.2) a,Ag9,Bool.or_assoc]
def Mb (h:k<n*n):0<n:=by
 cases n with
 | zero=>simp at h
 | succ m=>lia
def JB (n o p k:Nat):Bool:=(Aa3 n).any λb=>o.testBit (k / n*n+b)&&p.testBit (b*n+k % n)
def cb (f:k<n*n):(joinM n o p).testBit k=JB n o p k:=by
 have h:=aW f
 unfold joinM JB
 rw [t7 n p (Mb f)]
 simp [Bool.false_or]
 rw [Bool.eq_iff_iff,Ad2,Ad2]
 constructor
 .rintro ⟨q,i,a⟩
  obtain⟨j,g,c,rfl⟩:=bE.mp i
  rw [Aa1,decide_eq_true_eq]at a
  obtain⟨e,a⟩:=a
  refine⟨j % n,Ab4.mpr (aW g),?_⟩
  rw [sy h]at a
  rw [e,bu,c,a];rfl
 .rintro ⟨b,a,d⟩
  have a:=Ab4.mp a
  rw [Aa1]at d
  refine⟨_,bE.mpr ⟨k / n*n+b,place_lt (bb f) a,d.1,by rw [aE a,aI a]⟩,?_⟩
  rw [sy h,d.2]
  simp
def dh (n o p):joinM n o p<2 ^ (n*n):=by
 have c: ∀(a:List (Nat×Nat)) t,(∀ q∈a,q.1<n)->t<2 ^ (n*n)->a.foldl (λt q=>t ||| cg n p q.2*2 ^ (q.1*n)) t<2 ^ (n*n):=by
  intro a
  induction a with
  | nil=>intro t _ h;exact h
  | cons q r f=>
   intro t d g
   refine f _ (λz i=>d z (Aa2 _ i)) (Ak9 g ?_)
   have b:=d q Aa5
   have:=c5 n p q.2
   have e:2 ^ n*2 ^ (q.1*n)<=2 ^ (n*n):=by
    rw [← Nat.pow_add]
    refine Ad0 (by decide) ?_
    have:=Ao2 n (Nat.succ_le_of_lt b)
    lia
   exact Ab3 (Nat.mul_lt_mul_of_pos_right this (Nat.pow_pos (by decide))) e
 exact c _ _ (λq b=>(bO n o q b).1) (Nat.pow_pos (by decide))
def et (b:s<2 ^ n) (a:t<2 ^ n) (h: ∀k,k<n->s.testBit k=t.testBit k):s=t:=
 Aj8 λk=>by
  by_cases c:k<n
  .exact h k c
  .rw [Ai8 (Ab3 b (Ad0 (by decide) (by lia))),Ai8 (Ab3 a (Ad0 (by decide) (by lia)))]
def ek (d:a<n) (c:b<n):(bF n).testBit (a*n+b)=u9 (a=b):=by
 rw [Lx (place_lt d c),aE c,aI c]
def fN (n):bF n<2 ^ (n*n):=cZ (dX n)
inductive TC (n t a:Nat):Nat->Prop
 | step {b:Nat}:a<n->b<n->t.testBit (a*n+b)=u0->TC n t a b
 | more {b c:Nat}:TC n t a b->b<n->c<n->t.testBit (b*n+c)=u0->TC n t a c
def TC.trans (h1:TC n t a b) (e:TC n t b c):TC n t a c:=by
 induction e with
 | step x y z=>exact .more h1 x y z
 | more _ x y z d=>exact .more d x y z
structure fb (n t r:Nat):Prop where
 lt:r<2 ^ (n*n)
 bit: ∀a b,a<n->b<n->(r.testBit (a*n+b)=u0↔TC n t a b)
structure fG (n t r:Nat):Prop where
 lt:r<2 ^ (n*n)
 sub: ∀a b,a<n->b<n->r.testBit (a*n+b)=u0->TC n t a b
 sup: ∀k,t.testBit k=u0->r.testBit k=u0
def fG.start (h:t<2 ^ (n*n)):fG n t t:=⟨h,λ_ _ a b h=> .step a b h,λ_ h=>h⟩
def cH (d:c<n):JB n o p (a*n+c)=(Aa3 n).any λb=>o.testBit (a*n+b)&&p.testBit (b*n+c):=by
 unfold JB
 rw [aE d,aI d]
def fG.next (h:fG n t r):fG n t (r ||| joinM n r r):=by
 refine⟨Ak9 h.lt (dh _ _ _),λa b g f d=> ?_,λk i=> ?_⟩
 .rw [Af0,Ae8]at d
  obtain d | d:=d
  .exact h.sub a b g f d
  .rw [cb (place_lt g f),cH f,Ad2]at d
   obtain⟨c,e,d⟩:=d
   have e:=Ab4.mp e
   rw [Aa1]at d
   exact(h.sub a c g e d.1).trans (h.sub c b e f d.2)
 .rw [Af0,h.sup k i,Am2]
def D6 {a b:Nat}(h:a ||| b=a) (k) (c:b.testBit k=u0):a.testBit k=true:=by
 rw [← h,Af0,c,Bool.or_true]
def fG.done (h:fG n t r) (e:r ||| joinM n r r=r):fb n t r:=by
 refine⟨h.lt,λa b g k=>⟨h.sub a b g k,λi=> ?_⟩⟩
 induction i with
 | step d f c=>exact h.sup _ c
 | more i d f c j=>
  refine D6 e _ ?_
  rw [cb (place_lt g f),cH f,Ad2]
  exact⟨_,Ab4.mpr d,by rw [(j d),h.sup _ c];rfl⟩
def fG.grow (h:fG n t r) (ne:r ||| joinM n r r≠r):r<r ||| joinM n r r:=by
 have:= @Nat.left_le_or r (joinM n r r)
 lia
structure Nu (n t a:Nat) (re wa:List Nat):Prop where
 an:a<n
 nd:re.Nodup
 tc: ∀x∈re,TC n t a x
 wl: ∀x∈wa,x<n/\(x=a\/x∈re)
 cl: ∀x,(x=a\/x∈re)->x∉wa-> ∀b,b<n->t.testBit (x*n+b)=u0->b∈re
structure Lk (n t a:Nat) (re wa:List Nat) (h b:Nat):Prop where
 an:a<n
 nd:re.Nodup
 tc: ∀x∈re,TC n t a x
 wl: ∀x∈wa,x<n/\(x=a\/x∈re)
 cl: ∀x,(x=a\/x∈re)->x∉wa->x≠h-> ∀b,b<n->t.testBit (x*n+b)=u0->b∈re
 hn:h<n
 hr:h=a\/h∈re
 hb: ∀b',b'<b->t.testBit (h*n+b')=u0->b'∈re
end Wf
namespace M
noncomputable abbrev yD:Tx:=[115,111,109,101,32,110,111,32,108,101,97,115,116,32,109,111,115,116,32,101,97,99,104,32,105,110,32,97,110,100,32,111,114,32,110,111,116,32,115,97,109,101,32,97,108,108,32,110,111,110,101,32,107,105,110,100,32,116,105,101,32,115,97,121]
abbrev fB:Tx:=[119,111,114,108,100]
abbrev eM:Tx:=[115,97,109,101]
abbrev fY:Tx:=[108,101,97,115,116]
abbrev tj:Tx:=[97,98,99,100,101,102,103,104,105,106,107,108,109,110,111,112,113,114,115,116,117,118,119,120,121,122]
abbrev eP:Tx:=[110,111,116]
abbrev iV:Tx:=[98,114,111,107,101,110]
abbrev gm:Tx:=[115,111,109,101]
abbrev gW:Tx:=[109,111,115,116]
abbrev mD:Tx:=[101,97,99,104,108,101,97,115,116]
abbrev i5:Tx:=[101,113,117,97,108]
abbrev iX:Tx:=[110,111,110,101]
abbrev lT:Tx:=[115,112,108,105,116]
abbrev hF:Tx:=[97,110,100]
abbrev f6:Tx:=[111,114]
abbrev fH:Tx:=[105,110]
abbrev nL:Tx:=[106,111,105,110,101,100]
abbrev ot:Tx:=[116,117,114,110,101,100]
abbrev ip:Tx:=[97,108,108]
abbrev vg:Tx:=[101,97,99,104,109,111,115,116]
abbrev l6:Tx:=[108,101,115,115]
abbrev gX:Tx:=[110,111]
abbrev m4:Tx:=[110,97,109,101]
abbrev vT:Tx:=[99,108,111,115,101,100]
abbrev pQ:Tx:=[112,108,117,115]
abbrev n0:Tx:=[98,111,116,104]
abbrev ub:Tx:=[112,97,112,101,114]
abbrev S.r (c x:E):S:= .iff c (.cons (.ret x) .nil) .nil
abbrev E.v0:E:= .var 0
abbrev E.v1:E:= .var 1
abbrev E.v2:E:= .var 2
abbrev E.v3:E:= .var 3
abbrev E.v4:E:= .var 4
abbrev E.v5:E:= .var 5
abbrev E.v6:E:= .var 6
abbrev E.v7:E:= .var 7
abbrev E.v8:E:= .var 8
abbrev E.v9:E:= .var 9
abbrev E.i0:E:= .int 0
abbrev E.i1:E:= .int 1
abbrev E.i2:E:= .int 2
abbrev E.i3:E:= .int 3
abbrev E.i4:E:= .int 4
abbrev Es.a (x:E):Es:= .cons x .nil
abbrev Es.b (x y:E):Es:= .cons x (.cons y .nil)
abbrev Es.c (x y z:E):Es:= .cons x (.cons y (.cons z .nil))
abbrev Es.d (x y z u:E):Es:= .cons x (.cons y (.cons z (.cons u .nil)))
abbrev Es.f (x y z u v:E):Es:= .cons x (.cons y (.cons z (.cons u (.cons v .nil))))
abbrev Es.g (x y z u v w:E):Es:= .cons x (.cons y (.cons z (.cons u (.cons v (.cons w .nil)))))
abbrev Ss.a (x:S):Ss:= .cons x .nil
abbrev Ss.b (x y:S):Ss:= .cons x (.cons y .nil)
abbrev Ss.c (x y z:S):Ss:= .cons x (.cons y (.cons z .nil))
abbrev Ss.d (x y z u:S):Ss:= .cons x (.cons y (.cons z (.cons u .nil)))
abbrev Ss.f (x y z u v:S):Ss:= .cons x (.cons y (.cons z (.cons u (.cons v .nil))))
abbrev Ss.g (x y z u v w:S):Ss:= .cons x (.cons y (.cons z (.cons u (.cons v (.cons w .nil)))))
abbrev Ss.h (x y z u v w a:S):Ss:= .cons x (.cons y (.cons z (.cons u (.cons v (.cons w (.cons a .nil))))))
abbrev Ss.k (x y z u v w a b:S):Ss:= .cons x (.cons y (.cons z (.cons u (.cons v (.cons w (.cons a (.cons b .nil)))))))
noncomputable abbrev Ss.m (x y z u v w a b c:S):Ss:= .cons x (.cons y (.cons z (.cons u (.cons v (.cons w (.cons a (.cons b (.cons c .nil))))))))
def DI:Fn:=⟨1,1,.a (.ret (.and (.bZ .v0 .int) (.not (.bZ .v0 .bool))))⟩
def jC:Fn:=⟨2,2,.a (.ret (.and (.call "is_whole" (.a .v0)) (.chain .le .lt .i0 .v0 .v1)))⟩
noncomputable def zG:E:= .comp [0] u0 1 [1,0] (.aj (.bin .mul .v0 .v0)) u0 (.bin .band (.bin .shr .v1 .v0) .i1) (.bi .divmod (.b .v0 .v2))
def JO:Fn:=⟨2,2,.a (.ret zG)⟩
def wj:Ss:= .a (.af 2 (.bin .bor .v2 (.bin .shl .i1 (.bin .add (.bin .mul .v3 .v0) .v4))))
def qP:Fn:=⟨2,5,.c (.af 2 .i0) (.for [3,4] k9 (.seq .v1) wj) (.ret .v2)⟩
def sV:Fn:=⟨2,2,.a (.ret (.bin .band .v0 .v1))⟩
def rL:Fn:=⟨2,2,.a (.ret (.bin .bor .v0 .v1))⟩
def Z0:Fn:=⟨2,2,.a (.ret (.bin .band .v0 (.inv .v1)))⟩
def qC:E:= .comp [0,1] false 2 [] (.seq (.call "pairs_of" (.b .v0 .v1))) false (.bl true) (.tup (.b .v1 .v0))
def sH:Fn:=⟨2,2,.a (.ret (.call "gathered" (.b .v0 qC)))⟩
noncomputable def Ju:Ss:= .b (.af 7 (.bin .band (.bin .shr .v2 (.bin .mul .v6 .v0)) .v3)) (.af 4 (.bin .bor .v4 (.bin .shl .v7 (.bin .mul .v5 .v0))))
def tT:Fn:=⟨3,8,.d (.af 3 (.bin .sub (.bin .shl .i1 .v0) .i1)) (.af 4 .i0) (.for [5,6] k9 (.seq (.call "pairs_of" (.b .v0 .v1))) Ju) (.ret .v4)⟩
def Xu:E:= .cmp .ne .v3 .v2
def Qv:Ss:= .b (.af 2 .v3) (.af 3 (.call "either" (.b .v2 (.call "joined" (.c .v0 .v2 .v2)))))
def rm:Fn:=⟨2,4,.d (.af 2 .v1) (.af 3 (.call "either" (.b .v2 (.call "joined" (.c .v0 .v2 .v2))))) (.ij 100000 Xu Qv) (.ret .v2)⟩
def XS:E:= .comp [0] u0 1 [] (.aj .v0) k9 (.bl u0) (.tup (.b .v0 .v0))
def yt:Fn:=⟨1,1,.a (.ret (.call "gathered" (.b .v0 XS)))⟩
def uC:Fn:=⟨1,1,.a (.ret (.bin .sub (.bin .shl .i1 (.bin .mul .v0 .v0)) .i1))⟩
def xi:E:= .comp [0] u0 1 [4] (.aj .v3) u0 (.bin .band (.bin .shr .v1 .v0) .i1) (.tup (.b .v0 .v0))
def Qs:Fn:=⟨3,5,.d (.r (.cmp .mem .v2 (.ix .v0 .i1)) (.ix (.ix .v1 .i2) (.dG .index (.ix .v0 .i1) (.a .v2)))) (.af 3 (.ix .v1 .i0)) (.af 4 (.ix (.ix .v1 .i1) (.dG .index (.ix .v0 .i0) (.a .v2)))) (.ret (.call "gathered" (.b .v3 xi)))⟩
def Qz:Fn:=⟨3,3,.m (.r (.cmp .eq .v1 (.str eM)) (.call "same" (.a .v0))) (.r (.cmp .eq .v1 (.str ip)) (.call "every" (.a .v0))) (.r (.cmp .eq .v1 (.str iX)) .i0) (.r (.cmp .eq .v1 (.str pQ)) (.call "either" (.b (.ix .v2 .i0) (.ix .v2 .i1)))) (.r (.cmp .eq .v1 (.str l6)) (.call "without" (.b (.ix .v2 .i0) (.ix .v2 .i1)))) (.r (.cmp .eq .v1 (.str n0)) (.call "common" (.b (.ix .v2 .i0) (.ix .v2 .i1)))) (.r (.cmp .eq .v1 (.str nL)) (.call "joined" (.c .v0 (.ix .v2 .i0) (.ix .v2 .i1)))) (.r (.cmp .eq .v1 (.str ot)) (.call "turned" (.b .v0 (.ix .v2 .i0)))) (.ret (.call "closed" (.b .v0 (.ix .v2 .i0))))⟩
def ZE:E:= .comp [0] u0 1 [4] (.aj .v0) k9 (.bl u0) (.dG .count .v1 (.a .v0))
def qE:E:= .comp [0,1] k9 2 [] (.seq .v3) k9 (.bl u0) .v0
def rB:Fn:=⟨3,5,.d (.af 3 (.call "pairs_of" (.b .v0 .v2))) (.r (.cmp .mem .v1 (.tup (.b (.str fY) (.str gW)))) (.lst (.a (.bi .len (.a .v3))))) (.af 4 qE) (.ret ZE)⟩
def QB:E:= .comp [0,1] k9 2 [] (.seq .v5) k9 (.bl u0) .v1
def WD:E:= .comp [0,1] k9 2 [] (.seq .v5) k9 (.bl u0) .v0
def Wu:E:= .comp [0] u0 1 [0,1] (.seq (.fW .v2 .i1)) k9 (.bl u0) (.call "bounds" (.c .v1 .v2 .v0))
def bD:Fn:=⟨3,9,.k (.af 3 (.ix .v2 .i0)) (.iff (.cmp .eq .v3 (.str m4)) (.b (.af 4 (.ix .v2 .i1)) (.ret (.tup (.b (.call "value_of_name" (.c .v0 (.ix .v1 .i0) .v4)) (.call "value_of_name" (.c .v0 (.ix .v1 .i1) .v4)))))) .nil) (.af 5 Wu) (.af 6 WD) (.af 7 QB) (.r (.cmp .eq .v3 (.str l6)) (.tup (.b (.call "without" (.b (.ix .v6 .i0) (.ix .v7 .i1))) (.call "without" (.b (.ix .v7 .i0) (.ix .v6 .i1)))))) (.af 8 (.ix (.ix .v1 .i0) .i0)) (.ret (.tup (.b (.call "made" (.c .v8 .v3 .v6)) (.call "made" (.c .v8 .v3 .v7)))))⟩
def XZ:Fn:=⟨2,2,.c (.r .v0 (.bl u0)) (.r .v1 (.bl k9)) (.ret .au)⟩
def XO:Fn:=⟨1,1,.a (.ret (.call "settled" (.b (.cmp .cX .v0 (.bl false)) (.cmp .cX .v0 (.bl true)))))⟩
def wP:Fn:=⟨2,2,.a (.ret (.call "settled" (.b (.and (.cmp .cX .v0 (.bl true)) (.cmp .cX .v1 (.bl true))) (.or (.cmp .cX .v0 (.bl false)) (.cmp .cX .v1 (.bl false))))))⟩
def X0:Fn:=⟨2,2,.a (.ret (.call "settled" (.b (.or (.cmp .cX .v0 (.bl true)) (.cmp .cX .v1 (.bl true))) (.and (.cmp .cX .v0 (.bl false)) (.cmp .cX .v1 (.bl false))))))⟩
def zZ:Fn:=⟨2,2,.a (.ret (.call "settled" (.b (.cmp .eq (.call "without" (.b (.ix .v0 .i1) (.ix .v1 .i0))) .i0) (.cmp .ne (.call "without" (.b (.ix .v0 .i0) (.ix .v1 .i1))) .i0))))⟩
def jw:E:= .comp [0] u0 1 [2] (.seq .v5) k9 (.bl u0) (.cmp .le .v0 .v1)
def zx:E:= .comp [0] u0 1 [2] (.seq .v4) k9 (.bl u0) (.cmp .gt .v0 .v1)
def zw:E:= .comp [0] u0 1 [2] (.seq .v4) k9 (.bl u0) (.cmp .ge .v0 .v1)
def Zw:E:= .comp [0] u0 1 [2] (.seq .v5) k9 (.bl u0) (.cmp .lt .v0 .v1)
def qG:Fn:=⟨4,6,.d (.af 4 (.call "counts" (.c .v0 .v1 (.ix .v3 .i0)))) (.af 5 (.call "counts" (.c .v0 .v1 (.ix .v3 .i1)))) (.r (.cmp .mem .v1 (.tup (.b (.str fY) (.str mD)))) (.call "settled" (.b (.bi .all (.a zw)) (.bi .any (.a Zw))))) (.ret (.call "settled" (.b (.bi .all (.a jw)) (.bi .any (.a zx)))))⟩
def cz:Fn:=⟨3,4,.f (.af 3 (.ix .v2 .i0)) (.r (.cmp .eq .v3 (.str eP)) (.call "not_told" (.a (.call "told" (.c .v0 .v1 (.ix .v2 .i1)))))) (.r (.cmp .eq .v3 (.str hF)) (.call "and_told" (.b (.call "told" (.c .v0 .v1 (.ix .v2 .i1))) (.call "told" (.c .v0 .v1 (.ix .v2 .i2)))))) (.r (.cmp .eq .v3 (.str f6)) (.call "or_told" (.b (.call "told" (.c .v0 .v1 (.ix .v2 .i1))) (.call "told" (.c .v0 .v1 (.ix .v2 .i2)))))) (.ret (.call "fact_told" (.c .v0 .v1 .v2)))⟩
def aU:Fn:=⟨3,7,.k (.af 3 (.ix .v2 .i0)) (.af 4 (.ix (.ix .v1 .i0) .i0)) (.af 5 (.call "bounds" (.c .v0 .v1 (.ix .v2 (.neg .i1))))) (.r (.cmp .eq .v3 (.str gm)) (.call "count_told" (.d .v4 (.str fY) .i1 .v5))) (.r (.cmp .eq .v3 (.str gX)) (.call "count_told" (.d .v4 (.str gW) .i0 .v5))) (.r (.cmp .eq .v3 (.str fH)) (.call "in_told" (.b (.call "bounds" (.c .v0 .v1 (.ix .v2 .i1))) .v5))) (.iff (.cmp .eq .v3 (.str i5)) (.b (.af 6 (.call "bounds" (.c .v0 .v1 (.ix .v2 .i1)))) (.ret (.call "and_told" (.b (.call "in_told" (.b .v6 .v5)) (.call "in_told" (.b .v5 .v6)))))) .nil) (.ret (.call "count_told" (.d .v4 .v3 (.ix .v2 .i1) .v5)))⟩
def xY:Fn:=⟨1,1,.a (.ret (.call "is_below" (.b .v0 (.bin .add (.con "GREATEST_SIZE") .i1))))⟩
noncomputable def tM:Fn:=⟨2,2,.a (.ret (.bin .add (.bin .mul (.lst (.a .v1)) (.bi .len (.a (.ix .v0 .i0)))) (.bin .mul (.lst (.a (.bin .mul .v1 .v1))) (.bi .len (.a (.ix .v0 .i1))))))⟩
def rD:Fn:=⟨2,2,.a (.ret (.bi .sum (.a (.call "widths" (.b .v0 .v1)))))⟩
def xG:Fn:=⟨1,1,.a (.iff (.not (.call "is_size" (.a .v0))) (.a .dF) .nil)⟩
def JF:Fn:=⟨3,4,.c (.ex (.call "check_size" (.a .v1))) (.af 3 (.call "bits" (.b .v0 .v1))) (.iff (.cmp .gt .v3 .v2) (.a .dF) .nil)⟩
def Xt:Ss:= .b (.app 3 (.bin .band .v4 (.bin .sub (.bin .shl .i1 .v5) .i1))) (.af 4 (.bin .shr .v4 .v5))
def wQ:Fn:=⟨3,7,.h (.ex (.call "check_size" (.a .v1))) (.iff (.not (.call "is_below" (.b .v2 (.bin .shl .i1 (.call "bits" (.b .v0 .v1)))))) (.a .dF) .nil) (.set 3 (.lst .nil)) (.af 4 .v2) (.for [5] true (.seq (.call "widths" (.b .v0 .v1))) Xt) (.af 6 (.bi .len (.a (.ix .v0 .i0)))) (.ret (.tup (.c .v1 (.bi .tuple (.a (.fc .v3 .v6))) (.bi .tuple (.a (.fW .v3 .v6))))))⟩
def Xq:E:= .comp [0,1] false 2 [3] (.seq (.call "pairs_of" (.b .v1 (.call "every" (.a .v1))))) false (.bl true) (.tup (.c .v2 .v0 .v1))
def wA:Ss:= .a (.ext 2 Xq)
def Zq:E:= .comp [0] u0 1 [3] (.aj .v1) k9 (.bl u0) (.tup (.c .v1 .v0 .v0))
def jB:Ss:= .a (.ext 2 Zq)
noncomputable def zy:Fn:=⟨2,4,.d (.set 2 (.lst .nil)) (.for [3] u0 (.seq (.ix .v0 .i0)) jB) (.for [3] u0 (.seq (.ix .v0 .i1)) wA) (.ret .v2)⟩
noncomputable def WA:Fn:=⟨3,3,.b (.r (.or (.not (.bZ .v0 .tuple)) (.cmp .ne (.bi .len (.a .v0)) .v2)) (.bl k9)) (.ret (.and (.bZ (.ix .v0 .i0) .str) (.cmp .eq (.ix .v0 .i0) .v1)))⟩
def jk:Fn:=⟨3,3,.f (.bH 0 "Cases" "words" (.ix .v1 .i0)) (.bH 0 "Cases" "sayings" (.ix .v1 .i1)) (.bH 0 "Cases" "size" .v2) (.bT 0 "Cases" "places" (.call "places_of" (.b (.ix .v1 .i0) .v2))) (.bH 0 "Cases" "whole" (.bin .sub (.bin .shl .i1 (.bi .len (.cons (.aJ .v0 "Cases" "places") .nil))) .i1))⟩
def Qj:Fn:=⟨2,2,.a (.ret (.call "world_of" (.cons (.aJ .v0 "Cases" "words") (.cons (.aJ .v0 "Cases" "size") (.a .v1)))))⟩
def jz:Fn:=⟨4,5,.b (.af 4 (.tup (.cons (.bK .v0 "Cases" "world_of_code" "Cases.world_of_code" (.a .v2)) (.cons (.bK .v0 "Cases" "world_of_code" "Cases.world_of_code" (.a .v3)) .nil)))) (.ret (.call "told" (.cons (.aJ .v0 "Cases" "words") (.b .v4 (.ix (.aJ .v0 "Cases" "sayings") .v1)))))⟩
def Qw:Fn:=⟨4,4,.c (.r (.or (.not (.bZ .v1 .str)) (.or (.not (.call "is_whole" (.a .v2))) (.not (.call "is_whole" (.a .v3))))) .i0) (.r (.cmp .e7 (.tup (.c .v1 .v2 .v3)) (.aJ .v0 "Cases" "places")) .i0) (.ret (.bin .shl .i1 (.dG .b5 (.aJ .v0 "Cases" "places") (.a (.tup (.c .v1 .v2 .v3))))))⟩
def xg:Fn:=⟨4,6,.f (.iff (.call "is_tuple_of" (.c .v1 (.str iV) .i2)) (.b (.af 4 (.ix .v1 .i1)) (.ret (.and (.call "is_below" (.b .v4 (.bi .len (.cons (.aJ .v0 "Cases" "sayings") .nil)))) (.cmp .cX (.bK .v0 "Cases" "truth" "Cases.truth" (.c .v4 .v2 .v3)) (.bl false))))) .nil) (.r (.not (.call "is_tuple_of" (.c .v1 (.str lT) (.int 6)))) (.bl false)) (.af 5 (.bK .v0 "Cases" "bit_of" "Cases.bit_of" (.c (.ix .v1 .i1) (.ix .v1 .i2) (.ix .v1 .i3)))) (.r (.cmp .eq (.bin .band (.bin .band .v5 .v3) (.inv .v2)) .i0) (.bl false)) (.ret (.and (.bK .v0 "Cases" "is_shown" "Cases.is_shown" (.c (.ix .v1 .i4) (.bin .bor .v2 .v5) .v3)) (.bK .v0 "Cases" "is_shown" "Cases.is_shown" (.c (.ix .v1 (.int 5)) .v2 (.bin .band .v3 (.inv .v5))))))⟩
def zn:Ss:= .a (.iff (.bZ .v2 .tuple) (.a (.ext 1 (.call "names_in" (.a .v2)))) .nil)
noncomputable def QD:Fn:=⟨1,3,.d (.r (.cmp .eq (.ix .v0 .i0) (.str m4)) (.lst (.a (.ix .v0 .i1)))) (.set 1 (.lst .nil)) (.for [2] u0 (.seq (.fW .v0 .i1)) zn) (.ret .v1)⟩
def Jl:Ss:= .a (.iff (.cmp .mem (.ix .v5 .i0) .v2) (.a (.af 3 (.bin .bor .v3 (.bin .shl .i1 .v4)))) .nil)
def WQ:Fn:=⟨2,6,.d (.af 2 (.call "names_in" (.a .v1))) (.af 3 .i0) (.for [4,5] false (.cv (.aJ .v0 "Cases" "places")) Jl) (.ret .v3)⟩
def Wd:E:= .cmp .gt .v0 .i0
def xk:Ss:= .b (.af 0 (.bin .band .v0 (.bin .sub .v0 .i1))) (.af 1 (.bin .add .v1 .i1))
def jN:Fn:=⟨1,2,.c (.af 1 .i0) (.ij 100000 Wd xk) (.ret .v1)⟩
def wg:E:= .comp [0] u0 1 [0] (.seq (.ix .v1 .i1)) k9 (.bl u0) (.call "needed_bits" (.cons (.aJ .v1 "Search" "cases") (.a .v0)))
def zi:Fn:=⟨3,3,.b (.bH 0 "Search" "cases" (.make "Cases" "Cases.__init__" (.b .v1 .v2))) (.bT 0 "Search" "needs" wg)⟩
noncomputable def Jg:Fn:=⟨2,2,.a (.ret (.bK .v0 "Search" "told_of_case" "Search.told_of_case" (.cons .v1 (.cons .i0 (.cons (.aJ (.aJ .v0 "Search" "cases") "Cases" "whole") .nil)))))⟩
noncomputable def zh:E:= .comp [0] u0 1 [0,3,2] (.seq .v1) k9 (.bl u0) (.bin .band (.bin .band (.ix (.aJ .v1 "Search" "needs") .v0) .v2) (.inv .v3))
def qf:Fn:=⟨4,6,.c (.af 4 zh) (.af 5 (.fh "how_many_set" .v4)) (.ret (.bin .sub (.fi (.bin .band .v5 (.neg .v5))) .i1))⟩
noncomputable def ja:Ss:= .c (.af 6 (.bK (.aJ .v0 "Search" "cases") "Cases" "truth" "Cases.truth" (.c .v5 .v2 .v3))) (.r (.cmp .cX .v6 (.bl false)) (.tup (.b (.str ub) (.tup (.b (.str iV) .v5))))) (.iff (.fk false .v6) (.a (.app 4 .v5)) .nil)
def aL:Fn:=⟨4,7,.d (.set 4 (.lst .nil)) (.for [5] u0 (.seq .v1) ja) (.r (.cmp .eq .v4 (.lst .nil)) (.tup (.cons (.str fB) (.cons (.bK (.aJ .v0 "Search" "cases") "Cases" "world_of_code" "Cases.world_of_code" (.a .v2)) .nil)))) (.ret (.bK .v0 "Search" "told_of_halves" "Search.told_of_halves" (.c .v4 .v2 .v3)))⟩
noncomputable def aD:Fn:=⟨4,11,.k (.af 4 (.bK .v0 "Search" "chosen_place" "Search.chosen_place" (.c .v1 .v2 .v3))) (.af 5 (.bin .shl .i1 .v4)) (.af 6 (.bK .v0 "Search" "told_of_case" "Search.told_of_case" (.c .v1 (.bin .bor .v2 .v5) .v3))) (.r (.or (.cmp .eq (.ix .v6 .i0) (.str fB)) (.bK (.aJ .v0 "Search" "cases") "Cases" "is_shown" "Cases.is_shown" (.c (.ix .v6 .i1) .v2 .v3))) .v6) (.af 7 (.bK .v0 "Search" "told_of_case" "Search.told_of_case" (.c .v1 .v2 (.bin .band .v3 (.inv .v5))))) (.r (.cmp .eq (.ix .v7 .i0) (.str fB)) .v7) (.eE [8,9,10] (.ix (.aJ (.aJ .v0 "Search" "cases") "Cases" "places") .v4)) (.ret (.tup (.b (.str ub) (.tup (.g (.str lT) .v8 .v9 (.var 10) (.ix .v6 .i1) (.ix .v7 .i1))))))⟩
def X7:Fn:=⟨2,2,.b (.ex (.call "check_bits" (.c (.ix .v0 .i0) .v1 (.con "MOST_BITS")))) (.ret (.bK (.make "Search" "Search.__init__" (.b .v0 .v1)) "Search" "told_of_sayings" "Search.told_of_sayings" (.a (.b4 (.bi .len (.a (.ix .v0 .i1)))))))⟩
def WE:Fn:=⟨1,1,.a (.iff (.cmp .ge (.bi .len (.a (.ix .v0 .i1))) (.con "MOST_SAYINGS")) (.a .dF) .nil)⟩
def WL:Fn:=⟨3,5,.d (.eE [3,4] .v0) (.ex (.call "check_bits" (.c .v3 .v1 (.con "MOST_BITS")))) (.ex (.call "check_room" (.a .v0))) (.ret (.call "found" (.b (.tup (.b .v3 (.bin .add .v4 (.tup (.a (.tup (.b (.str eP) .v2))))))) .v1)))⟩
def Zh:Ss:= .c (.eE [9,10] (.call "follows" (.c (.ix .v3 (.bin .sub .i1 .v6)) .v5 .v8))) (.r (.cmp .eq .v9 (.str fB)) (.tup (.c (.str fB) (.var 10) (.bin .sub .i1 .v6)))) (.eB .v4 (.tup (.d .v5 .v6 .v7 (.var 10))))
def Xn:Ss:= .a (.for [7,8] k9 (.enum (.ix (.ix .v3 .v6) .i1)) Zh)
def jh:Ss:= .a (.for [6] u0 (.aj .i2) Xn)
def zk:Fn:=⟨3,11,.k (.iff (.cmp .ne (.ix .v0 .i0) (.ix .v1 .i0)) (.a .dF) .nil) (.ex (.call "check_bits" (.c (.ix .v0 .i0) .v2 (.con "MOST_BITS")))) (.ex (.call "check_room" (.a .v0))) (.ex (.call "check_room" (.a .v1))) (.af 3 (.tup (.b .v0 .v1))) (.set 4 (.share (.lst .nil))) (.for [5] true (.aj (.bin .add .v2 .i1)) jh) (.ret (.tup (.b (.str eM) .v4)))⟩
def qL:Fn:=⟨1,1,.a (.ret (.lst (.c .v0 .i0 (.bi .sum (.a (.fc .v0 .i1))))))⟩
noncomputable def QQ:Fn:=⟨1,1,.c (.bV .v0 .i1 (.bin .add (.ix .v0 .i1) .i1)) (.bV .v0 .i2 (.bin .mod (.bin .add (.bin .mul (.int 7) (.ix .v0 .i1)) (.bi .sum (.a (.fc (.ix .v0 .i0) (.int 9))))) (.int 16777213))) (.iff (.cmp .lt (.ix .v0 .i1) (.bi .len (.a (.ix .v0 .i0)))) (.a (.bV .v0 .i2 (.ix (.ix .v0 .i0) (.ix .v0 .i1)))) .nil)⟩
noncomputable def JE:Fn:=⟨2,3,.c (.iff (.not (.chain .le .lt .i0 (.ix .v0 .i2) (.bin .pow (.int 10) (.int 18)))) (.b (.fU .v0 .i2 2 (.bi .divmod (.b (.ix .v0 .i2) .v1))) (.ret .v2)) .nil) (.bV .v0 .i2 (.bin .mod (.bin .add (.bin .add (.bin .mul (.ix .v0 .i2) (.int 742939)) (.bin .mul (.ix .v0 .i1) (.int 65063))) (.int 40503)) (.int 16777213))) (.ret (.bin .mod (.bin .fdiv (.bin .mul (.ix .v0 .i2) (.bin .add (.bin .mod (.ix .v0 .i2) (.int 4093)) (.int 7))) (.int 64)) .v1))⟩
def Jk:Ss:= .c (.af 8 (.bin .add (.bin .add (.fc .v4 .v6) (.ix .v2 (.bin .mod (.bin .add .v3 (.bin .mul (.int 5) .v5)) (.int 26)))) (.fW .v4 .v6))) (.iff (.cmp .mem .v8 (.dN yD [gm,gX,fY,gW,[101,97,99,104],fH,hF,f6,eP,eM,ip,iX,[107,105,110,100],[116,105,101],[115,97,121]])) (.a (.af 8 (.bin .add .v8 (.str [113])))) .nil) (.app 7 .v8)
def Qq:Ss:= .a (.af 4 (.bin .add .v4 (.ix .v2 (.call "_law_draw" (.b .v0 (.int 26))))))
def xB:E:= .comp [0] u0 1 [2,3] (.aj .v1) k9 (.bl u0) (.bin .mul (.ix .v1 .v2) (.bin .add .v0 .i1))
def jx:Fn:=⟨2,9,.m (.af 2 (.str tj)) (.af 3 (.call "_law_draw" (.b .v0 (.int 26)))) (.r (.cmp .eq (.call "_law_draw" (.b .v0 .i3)) .i0) xB) (.af 4 (.str [])) (.for [5] true (.aj (.call "_law_draw" (.b .v0 (.int 6)))) Qq) (.af 6 (.call "_law_draw" (.b .v0 (.bin .add (.bi .len (.a .v4)) .i1)))) (.set 7 (.lst .nil)) (.for [5] true (.aj .v1) Jk) (.ret .v7)⟩
def zI:Fn:=⟨1,6,.d (.af 1 (.lst (.cons (.tup (.c .i0 .i1 .i2)) (.cons (.tup (.c .i1 .i1 .i1)) (.cons (.tup (.c .i0 .i1 .i2)) (.g (.tup (.c .i1 .i0 .i3)) (.tup (.c .i2 .i0 .i2)) (.tup (.c .i0 .i1 .i1)) (.tup (.c .i1 .i0 .i2)) (.tup (.c .i1 .i1 .i0)) (.tup (.c .i2 .i1 .i1)))))))) (.eE [2,3,4] (.ix .v1 (.call "_law_draw" (.b .v0 (.bi .len (.a .v1)))))) (.af 5 (.call "_law_names" (.b .v0 (.bin .add .v2 .v3)))) (.ret (.tup (.b .v4 (.tup (.b (.bi .tuple (.a (.bi .sorted (.a (.fc .v5 .v2))))) (.bi .tuple (.a (.bi .sorted (.a (.fW .v5 .v2))))))))))⟩
def Qe:E:= .comp [0] u0 1 [] (.seq .v1) k9 (.bl u0) (.tup (.b (.str m4) .v0))
def qg:Fn:=⟨3,7,.g (.af 3 (.call "_law_draw" (.b .v0 (.int 10)))) (.iff (.or (.cmp .eq .v2 .i0) (.cmp .lt .v3 .i3)) (.b (.af 4 (.bin .add (.bin .mul Qe .i2) (.lst (.c (.tup (.a (.str eM))) (.tup (.a (.str ip))) (.tup (.a (.str iX))))))) (.ret (.ix .v4 (.call "_law_draw" (.b .v0 (.bi .len (.a .v4))))))) .nil) (.af 5 (.call "_law_expression" (.c .v0 .v1 (.bin .sub .v2 .i1)))) (.r (.cmp .lt .v3 (.int 5)) (.tup (.b (.ix (.lst (.b (.str ot) (.str vT))) (.bin .sub .v3 .i3)) .v5))) (.af 6 (.call "_law_expression" (.c .v0 .v1 (.bin .sub .v2 .i1)))) (.ret (.tup (.c (.ix (.lst (.f (.str pQ) (.str l6) (.str n0) (.str nL) (.str nL))) (.bin .sub .v3 (.int 5))) .v5 .v6)))⟩
def bg:Fn:=⟨3,6,.h (.af 3 (.call "_law_draw" (.b .v0 (.int 11)))) (.iff (.and (.cmp .gt .v2 .i0) (.cmp .gt .v3 (.int 7))) (.c (.af 4 (.call "_law_saying" (.c .v0 .v1 (.bin .sub .v2 .i1)))) (.r (.cmp .eq .v3 (.int 8)) (.tup (.b (.str eP) .v4))) (.ret (.tup (.c (.ix (.lst (.b (.str hF) (.str f6))) (.bin .sub .v3 (.int 9))) .v4 (.call "_law_saying" (.c .v0 .v1 (.bin .sub .v2 .i1))))))) .nil) (.af 5 (.ix (.lst (.cons (.str fH) (.cons (.str i5) (.g (.str gm) (.str gX) (.str fY) (.str gW) (.str mD) (.str vg))))) (.bin .mod .v3 (.int 8)))) (.af 4 (.call "_law_expression" (.c .v0 .v1 .i1))) (.r (.or (.cmp .eq .v5 (.str fH)) (.cmp .eq .v5 (.str i5))) (.tup (.c .v5 .v4 (.call "_law_expression" (.c .v0 .v1 .i1))))) (.r (.or (.cmp .eq .v5 (.str gm)) (.cmp .eq .v5 (.str gX))) (.tup (.b .v5 .v4))) (.ret (.tup (.c .v5 (.ix (.lst (.cons .i0 (.cons .i1 (.g .i1 .i2 .i2 .i3 .i4 (.bin .add (.int 10) (.call "_law_draw" (.b .v0 (.int 90)))))))) (.call "_law_draw" (.b .v0 (.int 8)))) .v4)))⟩
def Ji:Ss:= .c (.ex (.call "_law_turn" (.a .v0))) (.app 4 (.call "_law_saying" (.c .v0 .v3 .i1))) (.iff (.and (.cmp .gt .v5 .i0) (.cmp .eq (.call "_law_draw" (.b .v0 (.int 9))) .i0)) (.a (.cT 4 (.neg .i1) (.tup (.b (.str eP) (.ix .v4 (.call "_law_draw" (.b .v0 .v5))))))) .nil)
def zt:Fn:=⟨3,6,.d (.af 3 (.bi .list (.a (.bin .add (.ix .v1 .i0) (.ix .v1 .i1))))) (.set 4 (.lst .nil)) (.for [5] u0 (.aj (.call "_law_draw" (.b .v0 (.bin .add .v2 .i1)))) Ji) (.ret (.tup (.b .v1 (.bi .tuple (.a .v4)))))⟩
noncomputable def Wi:Ss:= .a (.iff (.cmp .eq (.bin .band (.bin .shr .v1 (.bin .add (.bin .mul .v4 .v0) .v5)) .i1) .i1) (.b (.af 6 (.bin .band (.bin .shr .v2 (.bin .mul .v5 .v0)) (.bin .sub (.bin .shl .i1 .v0) .i1))) (.af 3 (.bin .bor .v3 (.bin .shl .v6 (.bin .mul .v4 .v0))))) .nil)
def Xw:Ss:= .a (.for [5] u0 (.aj .v0) Wi)
def XF:Fn:=⟨3,7,.c (.af 3 .i0) (.for [4] u0 (.aj .v0) Xw) (.ret .v3)⟩
noncomputable def jo:Ss:= .a (.iff (.cmp .eq (.bin .band (.bin .shr .v1 (.bin .add (.bin .mul .v3 .v0) .v4)) .i1) .i1) (.a (.af 2 (.bin .bor .v2 (.bin .shl .i1 (.bin .add (.bin .mul .v4 .v0) .v3))))) .nil)
def Ww:Ss:= .a (.for [4] u0 (.aj .v0) jo)
def Jr:Fn:=⟨2,5,.c (.af 2 .i0) (.for [3] u0 (.aj .v0) Ww) (.ret .v2)⟩
def xo:Ss:= .a (.af 2 (.bin .bor .v2 (.call "_law_joined" (.c .v0 .v2 .v1))))
def ZG:Fn:=⟨2,4,.c (.af 2 .v1) (.for [3] u0 (.aj .v0) xo) (.ret .v2)⟩
def Zu:E:= .comp [0] u0 1 [0] (.aj .v0) k9 (.bl u0) (.bin .shl .i1 (.bin .add (.bin .mul .v0 .v1) .v0))
def JP:Fn:=⟨1,1,.a (.ret (.bi .sum (.a Zu)))⟩
def WX:Fn:=⟨4,4,.c (.r (.cmp .eq .v0 (.str pQ)) (.bin .bor .v2 .v3)) (.r (.cmp .eq .v0 (.str n0)) (.bin .band .v2 .v3)) (.ret (.call "_law_joined" (.c .v1 .v2 .v3)))⟩
def ax:Fn:=⟨3,10,.cons (.af 3 (.ix .v2 .i0)) (.m (.af 4 (.bin .sub (.bin .shl .i1 (.bin .mul .v0 .v0)) .i1)) (.r (.cmp .eq .v3 (.str m4)) (.eZ 1 (.ix .v2 .i1))) (.iff (.cmp .mem .v3 (.lst (.c (.str eM) (.str ip) (.str iX)))) (.b (.af 5 (.fK eM (.call "_law_same" (.a .v0)) ip .v4 iX .i0 3)) (.ret (.tup (.b .v5 .v5)))) .nil) (.eE [6,7] (.call "_law_bounds" (.c .v0 .v1 (.ix .v2 .i1)))) (.r (.cmp .eq .v3 (.str ot)) (.tup (.b (.call "_law_turned" (.b .v0 .v6)) (.call "_law_turned" (.b .v0 .v7))))) (.r (.cmp .eq .v3 (.str vT)) (.tup (.b (.call "_law_closed" (.b .v0 .v6)) (.call "_law_closed" (.b .v0 .v7))))) (.eE [8,9] (.call "_law_bounds" (.c .v0 .v1 (.ix .v2 .i2)))) (.r (.cmp .eq .v3 (.str l6)) (.tup (.b (.bin .band .v6 (.bin .bxor .v4 .v9)) (.bin .band .v7 (.bin .bxor .v4 .v8))))) (.ret (.tup (.b (.call "_law_two" (.d .v3 .v0 .v6 .v8)) (.call "_law_two" (.d .v3 .v0 .v7 .v9))))))⟩
def Wm:E:= .cmp .gt .v0 .i0
def Qn:Ss:= .b (.af 1 (.bin .add .v1 (.bin .mod .v0 .i2))) (.af 0 (.bin .fdiv .v0 .i2))
def wN:Fn:=⟨1,2,.c (.af 1 .i0) (.ij 100000 Wm Qn) (.ret .v1)⟩
def xy:E:= .comp [0,1] k9 2 [1] (.seq .v2) k9 (.bl u0) (.cmp .gt .v0 .v2)
def zz:E:= .comp [0,1] k9 2 [1] (.seq .v2) k9 (.bl u0) (.cmp .le .v1 .v2)
def xA:E:= .comp [0,1] k9 2 [1] (.seq .v2) k9 (.bl u0) (.cmp .lt .v1 .v2)
def jA:E:= .comp [0,1] k9 2 [1] (.seq .v2) k9 (.bl u0) (.cmp .ge .v0 .v2)
noncomputable def wx:Fn:=⟨3,3,.c (.iff .v0 (.b (.r (.bi .all (.a jA)) (.bl u0)) (.ret (.ix (.lst (.b .au (.bl k9))) (.bi .int (.a (.bi .any (.a xA))))))) .nil) (.r (.bi .all (.a zz)) (.bl u0)) (.ret (.ix (.lst (.b .au (.bl k9))) (.bi .int (.a (.bi .any (.a xy))))))⟩
noncomputable def jF:Fn:=⟨2,2,.b (.r (.cmp .eq (.bin .band (.ix .v0 .i1) (.ix .v1 .i0)) (.ix .v0 .i1)) (.bl u0)) (.ret (.ix (.lst (.b .au (.bl k9))) (.bi .int (.a (.cmp .ne (.bin .band (.ix .v0 .i0) (.ix .v1 .i1)) (.ix .v0 .i0))))))⟩
def Js:E:= .comp [0] u0 1 [4,0,6,5] (.aj .v0) k9 (.bl u0) (.tup (.b (.call "_law_many" (.a (.bin .band (.bin .shr .v1 (.bin .mul .v0 .v2)) .v3))) (.call "_law_many" (.a (.bin .band (.bin .shr .v4 (.bin .mul .v0 .v2)) .v3)))))
def bp:Fn:=⟨3,8,.h (.af 3 (.ix .v2 .i0)) (.iff (.or (.cmp .eq .v3 (.str gm)) (.cmp .eq .v3 (.str gX))) (.b (.af 2 (.tup (.c (.ix (.lst (.b (.str gW) (.str fY))) (.bi .int (.a (.cmp .eq .v3 (.str gm))))) (.bi .int (.a (.cmp .eq .v3 (.str gm)))) (.ix .v2 .i1)))) (.af 3 (.ix .v2 .i0))) .nil) (.eE [4,5] (.call "_law_bounds" (.c .v0 .v1 (.ix .v2 .i2)))) (.r (.or (.cmp .eq .v3 (.str fY)) (.cmp .eq .v3 (.str gW))) (.call "_law_ruled" (.c (.cmp .eq .v3 (.str fY)) (.ix .v2 .i1) (.lst (.a (.tup (.b (.call "_law_many" (.a .v4)) (.call "_law_many" (.a .v5))))))))) (.af 6 (.bin .sub (.bin .shl .i1 .v0) .i1)) (.af 7 Js) (.ret (.call "_law_ruled" (.c (.cmp .eq .v3 (.str mD)) (.ix .v2 .i1) .v7)))⟩
def Zt:E:= .comp [0] u0 1 [0,1] (.seq .v5) k9 (.bl u0) (.call "_law_told" (.c .v1 .v2 .v0))
def a9:Fn:=⟨3,7,.f (.af 3 (.ix .v2 .i0)) (.iff (.cmp .eq .v3 (.str eP)) (.c (.af 4 (.call "_law_told" (.c .v0 .v1 (.ix .v2 .i1)))) (.r (.fk false .v4) .au) (.ret (.not .v4))) .nil) (.iff (.cmp .mem .v3 (.lst (.c (.str hF) (.str f6) (.str i5)))) (.g (.af 5 (.lst (.b (.ix .v2 .i1) (.ix .v2 .i2)))) (.iff (.cmp .eq .v3 (.str i5)) (.a (.af 5 (.lst (.b (.tup (.c (.str fH) (.ix .v2 .i1) (.ix .v2 .i2))) (.tup (.c (.str fH) (.ix .v2 .i2) (.ix .v2 .i1))))))) .nil) (.af 6 Zt) (.r (.cmp .mem (.cmp .eq .v3 (.str f6)) .v6) (.cmp .eq .v3 (.str f6))) (.r (.cmp .mem .au .v6) .au) (.ret (.cmp .ne .v3 (.str f6)))) .nil) (.r (.cmp .eq .v3 (.str fH)) (.call "_law_within" (.b (.call "_law_bounds" (.c .v0 .v1 (.ix .v2 .i1))) (.call "_law_bounds" (.c .v0 .v1 (.ix .v2 .i2)))))) (.ret (.call "_law_fact" (.c .v0 .v1 .v2)))⟩
def IF:Fn:=⟨1,1,.a (.ret (.and (.bZ .v0 .int) (.not (.bZ .v0 .bool))))⟩
noncomputable def Zo:E:= .comp [0] u0 1 [1,0] (.aj .v0) k9 (.bl u0) (.bin .shl (.bin .band (.bin .shr .v1 .v0) .i1) (.bin .add (.bin .mul .v0 .v2) .v0))
def wF:Fn:=⟨2,2,.a (.ret (.bi .sum (.a Zo)))⟩
def Zs:Ss:= .a (.cu 3 (.ix (.ix .v0 .i1) .v4) (.tup (.b (.ix (.ix .v1 .i2) .v4) (.ix (.ix .v1 .i2) .v4))))
def xt:Ss:= .b (.af 5 (.call "_law_spread" (.b .v2 (.ix (.ix .v1 .i1) .v4)))) (.cu 3 (.ix (.ix .v0 .i0) .v4) (.tup (.b .v5 .v5)))
def ZB:Fn:=⟨2,6,.f (.af 2 (.ix .v1 .i0)) (.set 3 .c7) (.for [4] u0 (.aj (.bi .len (.a (.ix .v0 .i0)))) xt) (.for [4] u0 (.aj (.bi .len (.a (.ix .v0 .i1)))) Zs) (.ret .v3)⟩
def Wj:Ss:= .a (.r (.or (.not (.call "_law_whole" (.a .v5))) (.not (.chain .le .lt .i0 .v5 (.bin .shl .i1 (.ix (.lst (.b .v1 (.bin .mul .v1 .v1))) .v3))))) (.bl false))
def jr:Ss:= .c (.af 4 (.ix .v2 (.bin .add .i1 .v3))) (.r (.or (.not (.bZ .v4 .tuple)) (.cmp .ne (.bi .len (.a .v4)) (.bi .len (.a (.ix .v0 .v3))))) (.bl k9)) (.for [5] u0 (.seq .v4) Wj)
def xw:Fn:=⟨3,6,.c (.r (.or (.not (.bZ .v2 .tuple)) (.or (.cmp .ne (.bi .len (.a .v2)) .i3) (.or (.not (.call "_law_whole" (.a (.ix .v2 .i0)))) (.cmp .ne (.ix .v2 .i0) .v1)))) (.bl false)) (.for [3] true (.aj .i2) jr) (.ret (.bl true))⟩
def wy:E:= .comp [0] true 1 [1,2] (.seq (.ix .v0 .i1)) false (.bl true) (.cmp .cX (.call "_law_told" (.c (.ix .v1 .i0) .v2 .v0)) (.bl true))
def Wx:Fn:=⟨2,3,.b (.af 2 (.call "_law_seen" (.b (.ix .v0 .i0) .v1))) (.ret (.bi .all (.a wy)))⟩
def Wt:Ss:= .a (.cu 2 .v3 (.tup (.b .i0 (.bin .sub (.bin .shl .i1 (.bin .mul .v1 .v1)) .i1))))
def ju:Ss:= .a (.cu 2 .v3 (.tup (.b .i0 (.call "_law_same" (.a .v1)))))
noncomputable def QE:Fn:=⟨2,4,.d (.set 2 .c7) (.for [3] u0 (.seq (.ix .v0 .i0)) ju) (.for [3] u0 (.seq (.ix .v0 .i1)) Wt) (.ret .v2)⟩
def Jx:Fn:=⟨3,11,.cons (.eE [3,4,5] .v2) (.cons (.r (.or (.not (.bZ .v3 .str)) (.or (.cR u0 .v3 1) (.or (.not (.call "_law_whole" (.a .v4))) (.not (.call "_law_whole" (.a .v5)))))) .au) (.m (.r (.or (.not (.chain .le .lt .i0 .v4 .v0)) (.not (.chain .le .lt .i0 .v5 .v0))) .au) (.eE [6,7] (.eZ 1 .v3)) (.af 8 (.bin .shl .i1 (.bin .add (.bin .mul .v4 .v0) .v5))) (.r (.or (.cmp .ne (.bin .band .v6 .v8) .i0) (.cmp .eq (.bin .band .v7 .v8) .i0)) .au) (.set 9 (.ef 1)) (.cu 9 .v3 (.tup (.b (.bin .bor .v6 .v8) .v7))) (.set 10 (.ef 1)) (.cu 10 .v3 (.tup (.b .v6 (.bin .sub .v7 .v8)))) (.ret (.lst (.b .v9 (.var 10))))))⟩
def Xp:Fn:=⟨4,5,.g (.r (.or (.not (.bZ .v3 .tuple)) (.cmp .eq (.bi .len (.a .v3)) .i0)) (.bl false)) (.iff (.and (.cmp .eq (.ix .v3 .i0) (.str iV)) (.cmp .eq (.bi .len (.a .v3)) .i2)) (.b (.r (.or (.not (.call "_law_whole" (.a (.ix .v3 .i1)))) (.not (.chain .le .lt .i0 (.ix .v3 .i1) (.bi .len (.a (.ix .v0 .i1)))))) (.bl false)) (.ret (.cmp .cX (.call "_law_told" (.c .v1 .v2 (.ix (.ix .v0 .i1) (.ix .v3 .i1)))) (.bl false)))) .nil) (.r (.or (.cmp .ne (.ix .v3 .i0) (.str lT)) (.cmp .ne (.bi .len (.a .v3)) (.int 6))) (.bl false)) (.af 4 (.call "_law_split" (.c .v1 .v2 (.sl .v3 .i1 .i4)))) (.r (.fk false .v4) (.bl false)) (.ret (.and (.call "_law_walks" (.d .v0 .v1 (.ix .v4 .i0) (.ix .v3 .i4))) (.call "_law_walks" (.d .v0 .v1 (.ix .v4 .i1) (.ix .v3 (.int 5))))))⟩
def qh:E:= .comp [0] u0 1 [] (.seq (.fc .v7 .i3)) k9 (.bl u0) (.call "_law_whole" (.a .v0))
def Je:Ss:= .g (.af 7 (.ix .v3 .v6)) (.r (.or (.not (.bZ .v7 .tuple)) (.or (.cmp .ne (.bi .len (.a .v7)) .i4) (.cmp .ne (.fc .v7 .i3) (.ix .v4 .v6)))) (.bl false)) (.r (.not (.bi .all (.a qh))) (.bl false)) (.eE [8,9] (.ix (.lst (.b (.tup (.b .v0 .v1)) (.tup (.b .v1 .v0)))) (.ix .v7 .i1))) (.af 10 (.tup (.b (.ix .v9 .i0) (.bin .add (.ix .v9 .i1) (.tup (.a (.tup (.b (.str eP) (.ix (.ix .v8 .i1) (.ix .v7 .i2)))))))))) (.r (.not (.call "_law_walks" (.d (.var 10) (.ix .v7 .i0) (.call "_law_open" (.b (.ix .v0 .i0) (.ix .v7 .i0))) (.ix .v7 .i3)))) (.bl false))
def we:E:= .comp [0] u0 1 [5] (.aj (.bi .len (.a (.ix .v1 .i1)))) k9 (.bl u0) (.tup (.c .v1 .i1 .v0))
def We:E:= .comp [0] u0 1 [5] (.aj (.bi .len (.a (.ix .v0 .i1)))) k9 (.bl u0) (.tup (.c .v1 .i0 .v0))
def Xe:Ss:= .b (.af 4 (.bin .add .v4 We)) (.af 4 (.bin .add .v4 we))
def qk:Fn:=⟨4,11,.f (.af 4 (.lst .nil)) (.for [5] u0 (.aj (.bin .add .v2 .i1)) Xe) (.r (.or (.not (.dW .v3)) (.cmp .ne (.bi .len (.a .v3)) (.bi .len (.a .v4)))) (.bl k9)) (.for [6] u0 (.aj (.bi .len (.a .v4))) Je) (.ret (.bl u0))⟩
def Qm:Fn:=⟨4,6,.k (.r (.or (.not (.bZ .v3 .tuple)) (.cmp .lt (.bi .len (.a .v3)) .i2)) (.bl false)) (.r (.cmp .eq (.ix .v3 .i0) (.str eM)) (.and (.cmp .eq (.bi .len (.a .v3)) .i2) (.call "_law_papers_are" (.d .v0 .v1 .v2 (.ix .v3 .i1))))) (.r (.or (.cmp .ne (.ix .v3 .i0) (.str fB)) (.or (.cmp .ne (.bi .len (.a .v3)) .i3) (.or (.not (.call "_law_whole" (.a (.ix .v3 .i2)))) (.not (.chain .le .le .i0 (.ix .v3 .i2) .i1))))) (.bl false)) (.r (.or (.not (.bZ (.ix .v3 .i1) .tuple)) (.or (.cmp .ne (.bi .len (.a (.ix .v3 .i1))) .i3) (.not (.call "_law_whole" (.a (.ix (.ix .v3 .i1) .i0)))))) (.bl false)) (.af 4 (.ix (.ix .v3 .i1) .i0)) (.r (.or (.not (.chain .le .le .i0 .v4 .v2)) (.not (.call "_law_is_world" (.c (.ix .v0 .i0) .v4 (.ix .v3 .i1))))) (.bl false)) (.af 5 (.lst (.b .v0 .v1))) (.ret (.and (.call "_law_keeps" (.b (.ix .v5 (.ix .v3 .i2)) (.ix .v3 .i1))) (.not (.call "_law_keeps" (.b (.ix .v5 (.bin .sub .i1 (.ix .v3 .i2))) (.ix .v3 .i1))))))⟩
def bw:Fn:=⟨2,5,.c (.set 2 (.bi .list (.cons (.fg (.ix .v1 .i1)) .nil))) (.iff (.cmp .ne .v2 (.lst .nil)) (.f (.af 3 (.call "_law_draw" (.b .v0 (.bi .len (.a .v2))))) (.af 4 (.call "_law_draw" (.b .v0 .i4))) (.iff (.cmp .eq .v4 .i0) (.a (.cT 2 .v3 (.tup (.b (.str eP) (.tup (.b (.str eP) (.ix .v2 .v3))))))) .nil) (.iff (.cmp .eq .v4 .i1) (.a (.cT 2 .v3 (.tup (.c (.str hF) (.ix .v2 .i0) (.ix .v2 .v3))))) .nil) (.iff (.cmp .eq .v4 .i2) (.a (.cT 2 .v3 (.tup (.c (.str f6) (.ix .v2 .i0) (.ix .v2 .v3))))) .nil)) .nil) (.ret (.tup (.b (.ix .v1 .i0) (.bi .tuple (.a .v2)))))⟩
def cJ:Fn:=⟨1,8,.cons (.set 1 (.share (.call "_law_start" (.a .v0)))) (.cons (.eE [2,3] (.call "_law_words" (.a .v1))) (.cons (.af 4 (.call "_law_theory" (.c .v1 .v3 .i2))) (.m (.af 5 (.call "_law_theory" (.c .v1 .v3 .i2))) (.ex (.call "_law_turn" (.a .v1))) (.iff (.cmp .eq (.call "_law_draw" (.b .v1 .i2)) .i0) (.a (.af 5 (.call "_law_other" (.b .v1 .v4)))) .nil) (.af 6 (.call "same_or_parted" (.c .v4 .v5 .v2))) (.r (.not (.call "_law_right" (.d .v4 .v5 .v2 .v6))) (.bl false)) (.iff (.cmp .eq (.ix .v6 .i0) (.str eM)) (.a (.eB (.ix .v6 .i1) .au)) .nil) (.af 7 (.call "same_or_parted" (.c .v5 .v4 .v2))) (.r (.or (.cmp .ne (.ix .v7 .i0) (.ix .v6 .i0)) (.not (.call "_law_right" (.d .v5 .v4 .v2 .v7)))) (.bl false)) (.ret (.call "_law_right" (.d .v4 .v5 .v2 (.call "same_or_parted" (.c .v4 .v5 .v2))))))))⟩
def prog:Prog:=⟨[("is_whole",DI),("is_below",jC),("pairs_of",JO),("gathered",qP),("common",sV),("either",rL),("without",Z0),("turned",sH),("joined",tT),("closed",rm),("same",yt),("every",uC),("value_of_name",Qs),("made",Qz),("counts",rB),("bounds",bD),("settled",XZ),("not_told",XO),("and_told",wP),("or_told",X0),("in_told",zZ),("count_told",qG),("told",cz),("fact_told",aU),("is_size",xY),("widths",tM),("bits",rD),("check_size",xG),("check_bits",JF),("world_of",wQ),("places_of",zy),("is_tuple_of",WA),("Cases.__init__",jk),("Cases.world_of_code",Qj),("Cases.truth",jz),("Cases.bit_of",Qw),("Cases.is_shown",xg),("names_in",QD),("needed_bits",WQ),("how_many_set",jN),("Search.__init__",zi),("Search.told_of_sayings",Jg),("Search.chosen_place",qf),("Search.told_of_case",aL),("Search.told_of_halves",aD),("found",X7),("check_room",WE),("follows",WL),("same_or_parted",zk),("_law_start",qL),("_law_turn",QQ),("_law_draw",JE),("_law_names",jx),("_law_words",zI),("_law_expression",qg),("_law_saying",bg),("_law_theory",zt),("_law_joined",XF),("_law_turned",Jr),("_law_closed",ZG),("_law_same",JP),("_law_two",WX),("_law_bounds",ax),("_law_many",wN),("_law_ruled",wx),("_law_within",jF),("_law_fact",bp),("_law_told",a9),("_law_whole",IF),("_law_spread",wF),("_law_seen",ZB),("_law_is_world",xw),("_law_keeps",Wx),("_law_open",QE),("_law_split",Jx),("_law_walks",Xp),("_law_papers_are",qk),("_law_right",Qm),("_law_other",bw),("law",cJ)],[("WorldError", "ValueError"),("NoSize", "WorldError"),("NoCode", "WorldError"),("Crowded", "WorldError"),("TooBig", "WorldError"),("Unlike", "WorldError")],[("GREATEST_SIZE",.int 4),("MOST_BITS",.int 16),("MOST_SAYINGS",.int 12)]⟩
abbrev k8 (m:Nat):Fx:=⟨call prog m,prog.cl,prog.con⟩
abbrev W.i (n:Nat):W:= .v (.int (n:Int))
abbrev W.r (n:Nat):W:= .v (.ref n)
abbrev W.s (t:Tx):W:= .v (.str t)
abbrev W.b (b:Bool):W:= .v (.bl b)
abbrev W.t (t:List D):W:= .v (.tup t)
abbrev W.l (t:List D):W:= .v (.lst t)
abbrev sv (d:D):Option W:=k0 (.v d)
abbrev si (n:Nat):Option W:=k0 (.i n)
def nk (m j:Nat) (h:j<=m): ∃k,m=k+j:=⟨m-j,by lia⟩
abbrev D.n (n:Nat):D:= .int (n:Int)
theorem jE (f): ∀ ds,(∀ d∈ds,step d h= .ok (f d) h)->Gy step ds h= .ok (ds.filterMap f) h
 | [],_=>rfl
 | d::ds,a=>by
  have b:=jE f ds λd c=>a d (Aa2 _ c)
  rw [Gy,a d Aa5]
  simp only [b]
  cases q:f d<;>simp [q]
def uD (f) (e:Gk F it τ h= .ok ds h) (g:ds.length<=bf)
 (l: ∀d∈ds,∃i b,Gr tg one d (Ab k y0++aB.map λj=>Gi τ j)=k0 i/\Gm F c i h= .ok b h/\(if b=u0 then ∃w y,eval F elt i h= .ok w h/\w.d=k0 y/\f d=k0 y else f d=y0)):
 eval F (.comp tg one k aB it u0 c elt) τ h= .ok (.own (ds.filterMap f)) h:=by
 rw [eval,e,R.ae,if_pos g,jE f]
 .rfl
 intro d p
 obtain⟨i,b,n,o,a⟩:=l d p
 rw [n]
 show((Gm F c i h).bind _)=_
 rw [o]
 cases b with
 | true=>
  obtain⟨w,y,e1,e2,m⟩:=a
  simp [e1,e2,m]
 | false=>
  rw [if_neg (by simp)]at a
  simp [a]
def zm (f) (a:Gk F it τ h= .ok ds h) (b:ds.length<=bf)
 (e: ∀d∈ds,∃i,Gr tg one d (Ab k y0++aB.map λj=>Gi τ j)=k0 i/\ ∃w,eval F elt i h= .ok w h/\w.d=k0 (f d)):
 eval F (.comp tg one k aB it k9 c elt) τ h= .ok (.own (ds.map f)) h:=by
 rw [eval,a,R.ae,if_pos b,jE (λd=>k0 (f d))]
 .simp [List.filterMap_eq_map']
 intro d l
 obtain⟨i,g,w,e1,e2⟩:=e d l
 rw [g]
 simp [e1,e2]
def JN (bnd) (body) (d) (ds) (τ) (h):Gp bnd body (d::ds) τ h=match bnd d τ with
 | none=> .fail
 | some c=>match body c h with
  | .next a b=>Gp bnd body ds a b
  | .cont a b=>Gp bnd body ds a b
  | .brk a b=> .next a b
  | o=>o:=rfl
@[simp] theorem jM (bnd) (body) (τ) (h):Gp bnd body [] τ h= .next τ h:=rfl
def zb (b:bnd d τ=k0 τ1) (a:body τ1 h= .next τ2 h2):Gp bnd body (d::ds) τ h=Gp bnd body ds τ2 h2:=by
 rw [JN,b];simp [a]
@[simp] theorem GC (i) (d) (τ):Gr [i] u0 d τ=k0 (GB τ i (.v d)):=rfl
@[simp] theorem G9 (tg) (ds) (τ):Gr tg k9 (.tup ds) τ=aZ tg ds τ:=rfl
def wd (a b:Nat):Ka (a:Int) (b:Int)=k0 ((a &&& b:Nat):Int):=by simp [Ka]
def xn (a b:Nat):kh (a:Int) (b:Int)=k0 ((a ||| b:Nat):Int):=by simp [kh]
@[simp] theorem Lz (i j):Gj .mod i j=if 0<j then k0 (i % j)else none:=rfl
@[simp] theorem Df (i j):Gj .fdiv i j=if 0<j/\j<kr then k0 (i / j)else none:=rfl
@[simp] theorem jc (i j):Gj .band i j=Ka i j:=rfl
@[simp] theorem Jo (i j):Gj .bor i j=kh i j:=rfl
def je (a b:Nat) (h:a<2 ^ 64):Gj .mul (a:Int) (b:Int)=k0 ((a*b:Nat):Int):=by
 have c:(-d6< a/\ a<d6)\/(-d6< b/\ b<d6):=by rw [GZ];lia
 show(if _ then _ else _)=_
 rw [if_pos c,Int.natCast_mul]
def J9 (k:Nat) (h:k<=1000000):Gj .shl 1 (k:Int)=k0 ((2 ^ k:Nat):Int):=by
 have a: 0<=(k:Int)/\ k<=BP/\(1:Int).natAbs<ku:=by rw [Kg,GD];exact⟨by lia,by lia,by decide⟩
 show(if _ then _ else _)=_
 rw [if_pos a,Int.one_mul,Ad5]
 simp
def Qp (t k:Nat):Gj .shr (t:Int) (k:Int)=k0 ((t / 2 ^ k:Nat):Int):=by
 simp [Gj,Int.natCast_pow]
def ZR (t k):(t / 2 ^ k &&& 1)=(t.testBit k).toNat:=by
 have:=Af4 (t / 2 ^ k) 1
 rw [this]
 exact Wf.gP t k
def pD (p:Nat×Nat):D:= .tup [.int (p.1:Nat),.int (p.2:Nat)]
def B2 (n t:Nat) (m):(((Aa3 m).map λi=>D.n i).filterMap λd=>match d with
 | .int i=>if t.testBit i.toNat then k0 (.tup [.int (i / (n:Int)),.int (i % (n:Int))])else y0
 | _=>y0)=(((Aa3 m).filter t.testBit).map λk=>(k / n,k % n)).map pD:=by
 induction Aa3 m with
 | nil=>rfl
 | cons x c a=>
  by_cases b:t.testBit x=u0
  .simp [b,pD,a]
  .simp [b,a]
def iu (m)(a:d∈(Aa3 m).map λi=>D.n i): ∃i:Nat,i<m/\d= .n i:=by
 obtain⟨i,b,rfl⟩:=Ab6.mp a
 exact⟨i,Ab4.mp b,rfl⟩
def zj (a:n<=20):n*n<=400:=Ab5 (Af5 a a) (by decide)
def vn (a:n<=20):n*n<=bf:=Ab5 (zj a) (by rw [Gg];decide)
def xj (e:eval F a τ h= .ok (.i m) h) (c:m<=1000000):Gk F (.aj a) τ h= .ok ((Aa3 m).map λi=> .n i) h:=by
 have b: -fL<= m/\ m<fL:=by rw [GQ];lia
 rw [Gk,e,R.ae,int?_int,R.ao,R.ae,if_pos b,Ad5]
def K6 (b:n<=20) (e:Gi τ i=si n/\Gi τ j=si n):Gk F (.aj (.bin .mul (.var i) (.var j))) τ h= .ok ((Aa3 (n*n)).map λi=> .n i) h:=by
 have c:=zj b
 refine xj ?_ (by lia)
 have a:=je n n (by lia)
 simp [e.1,e.2,a]
def Qu (k n t) (h) (c:n<=20):call prog (k+1) "pairs_of" [.i n,.i t] h= .ok (.own ((Wf.aw n t).map pD)) h:=by
 rw [Gb rfl _ _ _ rfl]
 simp only [JO,execs,exec,zG,GK]
 rw [uD (λd=>match d with
  | .int i=>if t.testBit i.toNat then k0 (.tup [.int _,.int (i % n)])else y0
  | _=>y0) (K6 c (by simp [Gi])) (by simpa using vn c)]
 .rw [B2]
  simp [Wf.aw]
 .intro d g
  obtain⟨i,f,rfl⟩:=iu _ g
  have b:0<n:=by cases n with
   | zero=>simp at f
   | succ m=>lia
  have a:0< n/\ n<kr:=by rw [GR];lia
  have j:Ka ((t / 2 ^ i:Nat)) 1=k0 (((t.testBit i).toNat:Nat):Int):=by
   rw [show 1=((1:Nat):Int)from rfl,wd,ZR]
  refine⟨_,t.testBit i,rfl,?_,?_⟩
  .unfold Gm
   simp only [eval,Gi,Af3,List.replicate_zero,Ab2,Ap6,Ae7,GB,Gn,R.ae,GH,Qp,jc,j,R.ao,y6]
   cases t.testBit i<;>rfl
  .by_cases e:t.testBit i=u0
   .simp [e,Gi,a,b]
   .simp [e]
end M
local macro_rules | `(tactic| simp_all [$xs,*]) => `(tactic| simp only [M.exec, M.execs, M.Gm, M.eval, M.Gf, M.Gx, M.Gk, M.Gs, M.GK, M.Gi, M.Gn, M.GB, M.aZ, M.R.ae, M.R.ar, M.R.ao, M.O.bx, M.O.bM, M.W.lN, M.W.dP, M.W.bX, M.W.eU, M.W.gy, Ab2, Af1, Ap6, Ae7, Nat.reduceSub, Af3, List.replicate_zero, M.GS, Ao8, Ao3, M.GH, Ag2, M.Kq, M.Ko, M.Kv, M.Kf, M.Kt, M.Kp, M.int?_int, M.Ga, M.Gv, M.Gz, M.GC, M.G9, $xs,*])
namespace M
def Bq (f:n<=20)(d:a<n) (i:b<n) (h):
 execs F wj [si n,k0 l,si t,si a,si b] h=
  .next [si n,k0 l,si (t ||| 2 ^ (a*n+b)),si a,si b] h:=by
 have g:=je a n (by lia)
 have c:Gj .shl 1 _=k0 ((2 ^ (a*n+b):Nat):Int):=J9 _ (by
  have:=Wf.place_lt d i
  have:=zj f
  lia)
 have e:=xn t (2 ^ (a*n+b))
 rw [Int.natCast_add]at c
 simp only [wj,execs,exec,eval,Gi,Gn,R.ae,R.ao,R.ar,O.bx,GH,g,Jc,c,Jo,e,W.lN,GB]
theorem ye (b:n<=20)(h): ∀ ps t r x y,Wf.gq n ps-> ∃i j,
 Gp (Gr [3,4] k9) (λτ h=>execs F wj τ h) (ps.map pD++r) [si n,k0 l,si t,x,y] h=
  Gp (Gr [3,4] k9) (λτ h=>execs F wj τ h) r [si n,k0 l,sv (.int ((ps.foldl (λt p=>t ||| 2 ^ (p.1*n+p.2)) t:Nat):Int)),i,j] h
 | [],t,r,x,y,_=>⟨x,y,rfl⟩
 | p::ps,t,r,x,y,c=>by
  have a:=c p Aa5
  obtain⟨i,j,e⟩:=ye b h ps (t ||| 2 ^ (p.1*n+p.2)) r (sv (.int p.1)) (sv (.int p.2)) λq d=>c q (Aa2 _ d)
  refine⟨i,j,?_⟩
  rw [Ab2,Ap6,zb rfl (Bq b a.1 a.2 h),e]
  rfl
def FA (k n) (ps) (l) (a:lF l=k0 (ps.map pD)) (h) (b:n<=20) (c:Wf.gq n ps):call prog (k+1) "gathered" [.i n,l] h= .ok (.i (Wf.cQ n ps)) h:=by
 rw [Gb rfl _ _ _ rfl]
 obtain⟨d,f,e⟩:=ye b h ps 0 [] y0 y0 c
 rw [Ae3,jM]at e
 simp [qP,a,R.ao]
 rw [show (0)=((0:Nat):Int)from rfl,e]
 simp [Wf.cQ]
def QK (k n) (ps) (h) (b:n<=20) (a:Wf.gq n ps):call prog (k+3) "gathered" [.i n,.bor (ps.map pD)] h= .ok (.i (Wf.cQ n ps)) h:=FA _ n ps _ rfl h b a
def XR (k s t) (h):call prog (k+1) "either" [.i s,.i t] h= .ok (.i (s ||| t)) h:=by
 rw [Gb rfl _ _ _ rfl]
 simp_all [rL,Jo,xn]
def Mp (k s t) (h):call prog (k+1) "common" [.i s,.i t] h= .ok (.i (s &&& t)) h:=by
 rw [Gb rfl _ _ _ rfl]
 simp_all [sV,jc,wd]
def qM (s t:Nat):Ka (s:Int) (-(t:Int)-1)=k0 ((s-(s &&& t):Nat):Int):=by
 have b: ¬(0<= -(t:Int)-1):=by lia
 have c: 0<=(s:Int):=by lia
 have a:(-(-(t:Int)-1)-1).toNat=t:=by lia
 rw [Ka,if_pos c,if_neg b,a,Ad5]
def wB (k s t) (h):call prog (k+1) "without" [.i s,.i t] h= .ok (.i (s-(s &&& t))) h:=by
 rw [Gb rfl _ _ _ rfl]
 simp_all [Z0,jc,qM]
def Hi (q:eval F e τ h= .ok (.own xs) h):Gk F (.seq e) τ h= .ok xs h:=by
 rw [Gk,q];rfl
def Mm (q:eval F e τ h= .ok (.t xs) h):Gk F (.seq e) τ h= .ok xs h:=by
 rw [Gk,q];rfl
def XH (n t) (a:n<=20):((Wf.aw n t).map pD).length<=bf:=by
 refine Ab5 ?_ (vn a)
 simp only [Wf.aw,Aa]
 exact Ab5 (Aj0 _ _) (by simp)
def DA (k n t) (h) (a:n<=20):call prog (k+4) "turned" [.i n,.i t] h= .ok (.i (Wf.bG n t)) h:=by
 rw [Gb rfl _ _ _ rfl]
 have b: ∀h,eval (k8 (k+3)) qC [si n,si t] h= .ok (.own ((Wf.lK (Wf.aw n t)).map pD)) h:=by
  intro h
  rw [qC,zm (λd=>match d with | .tup [x,y]=> .tup [y,x] | d=>d) (Hi ?_) (XH n t a)]
  .simp [Wf.lK,pD,Function.comp_def]
  .intro d c
   obtain⟨p,e,rfl⟩:=Ab6.mp c
   exact⟨_,rfl,_,rfl,rfl⟩
  .simp_all [Qu _ n t h a]
 simp_all [sH,b,QK k n _ h a (Wf.eR (Wf.bO n t))]
 rfl
def CO (k n) (h) (c:n<=20):call prog (k+4) "same" [.i n] h= .ok (.i (Wf.bF n)) h:=by
 rw [Gb rfl _ _ _ rfl]
 have b: ∀h,eval (k8 (k+3)) XS [si n] h= .ok (.own (((Aa3 n).map λa=>(a,a)).map pD)) h:=by
  intro h
  rw [XS,zm (λd=> .tup [d,d]) (xj (m:=n) (by simp_all []) (by lia)) (by simp;rw [Gg];lia)]
  .simp [pD,Function.comp_def]
  .intro d e
   exact⟨_,rfl,_,rfl,rfl⟩
 simp_all [yt,b,QK k n _ h c (Wf.dX n)]
 rfl
def sN (k n) (h) (c:n<=20):call prog (k+1) "every" [.i n] h= .ok (.i (2 ^ (n*n)-1)) h:=by
 rw [Gb rfl _ _ _ rfl]
 have b:=je n n (by lia)
 have a:=J9 (n*n) (by have:=zj c;lia)
 have d:((2 ^ (n*n):Nat))-1=((2 ^ (n*n)-1:Nat):Int):=by
  have:=Ad4 (n*n)
  lia
 simp_all [uC,b,a,zd,d]
def jU (x k:Nat) (b:x<2 ^ 64) (h:k<=1000000):Gj .shl (x:Int) (k:Int)=k0 ((x*2 ^ k:Nat):Int):=by
 have a: 0<=(k:Int)/\ k<=BP/\(x:Int).natAbs<ku:=by rw [Kg,GD];exact⟨by lia,by lia,by simpa using b⟩
 show(if _ then _ else _)=_
 rw [if_pos a,Ad5,Int.natCast_mul,Int.natCast_pow]
 rfl
def BW (d:n<=20) (e:a<n) (k:b<n)(h):
 execs F Ju [si n,si o,si p,si (2 ^ n-1),si t,si a,si b,x7] h=
  .next [si n,si o,si p,si (2 ^ n-1),si (t ||| Wf.cg n p b*2 ^ (a*n)),si a,si b,si (Wf.cg n p b)] h:=by
 have j:=je a n (by lia)
 have c:=je b n (by lia)
 have g:(p / 2 ^ (b*n) &&& (2 ^ n-1))=Wf.cg n p b:=by rw [Af4];rfl
 have f:=Ab5 (Af5 (Ag1 e) (Aa7 n)) (zj d)
 have i:=jU _ (a*n) (Ab3 (Wf.c5 n p b) (Ab5 (Ad0 (by decide) d) (by decide))) (by lia)
 simp_all [Ju,j,c,Qp,jc,wd,g,i,Jo,xn]
theorem yl (b:n<=20) (h): ∀ ps t x y z,Wf.gq n ps-> ∃i j L,
 Gp (Gr [5,6] k9) (λτ h=>execs F Ju τ h) (ps.map pD) [si n,si o,si p,si (2 ^ n-1),si t,x,y,z] h=
  .next [si n,si o,si p,si (2 ^ n-1),sv (.int ((ps.foldl (λt q=>t ||| Wf.cg n p q.2*2 ^ (q.1*n)) t:Nat):Int)),i,j,L] h
 | [],t,x,y,z,_=>⟨x,y,z,rfl⟩
 | q::ps,t,x,y,z,c=>by
  have a:=c q Aa5
  obtain⟨i,j,L,e⟩:=yl b h ps (t ||| Wf.cg n p q.2*2 ^ (q.1*n)) (sv (.int q.1)) (sv (.int q.2)) (si (Wf.cg n p q.2)) λq d=>c q (Aa2 _ d)
  refine⟨i,j,L,?_⟩
  rw [Ab2,zb rfl (BW b a.1 a.2 h),e]
  rfl
def JV (k n o p) (h) (a:n<=20):call prog (k+2) "joined" [.i n,.i o,.i p] h= .ok (.i (Wf.joinM n o p)) h:=by
 rw [Gb rfl _ _ _ rfl]
 have b:=J9 n (by lia)
 have c:((2 ^ n:Nat))-1=((2 ^ n-1:Nat):Int):=by
  have:=Ad4 n
  lia
 obtain⟨d,f,g,e⟩:=yl a h _ 0 y0 y0 y0 (Wf.bO n o)
 simp_all [tT,b,zd,c,Qu k n o h a]
 rw [show (0)=((0:Nat):Int)from rfl,e]
 simp_all []
 rfl
theorem Q2 (g:n<=20) (h): ∀ f r,2 ^ (n*n)-r<f->Wf.fG n t r-> ∃r',Wf.fb n t r' ∧
 GI (λτ h=>Gm (k8 (k+2)) Xu τ h) (λτ h=>execs (k8 (k+2)) Qv τ h) f [si n,si t,si r,si (r ||| Wf.joinM n r r)] h=
  .next [si n,si t,si r',si r'] h
 | 0,r,d,_=>absurd d (Ag7 _)
 | f+1,r,d,c=>by
  have j: ∀ a b,Gm (k8 (k+2)) Xu [si n,si t,si a,si b] h= .ok (!u9 (b=a)) h:=by
   intro a b
   simp [Gm,Xu,Gi,G6]
   by_cases q:b=a
   .simp [q]
   .have: ¬(b=(a:Int)):=by lia
    simp [q,this]
  rw [GI,j,R.ar]
  by_cases e:r ||| Wf.joinM n r r=r
  .refine⟨r,c.done e,?_⟩
   simp only [e,decide_true,Ao8]
  .have p:=c.grow e
   have m:=c.next.lt
   obtain⟨r',l,o⟩:=Q2 g h f (r ||| Wf.joinM n r r) (by lia) c.next
   refine⟨r',l,?_⟩
   simp only [e,decide_false,Ao3]
   have i:execs (k8 (k+2)) Qv [si n,si t,si r,si (r ||| Wf.joinM n r r)] h=
    .next [si n,si t,si (r ||| Wf.joinM n r r),si ((r ||| Wf.joinM n r r) ||| Wf.joinM n (r ||| Wf.joinM n r r) (r ||| Wf.joinM n r r))] h:=by
    simp_all [Qv,JV k n _ _ h g,XR (k+1) _ _ h]
   simp only [i]
   exact o
def BE (k n t) (h) (b:n<=4) (c:t<2 ^ (n*n)): ∃r,Wf.fb n t r/\call prog (k+3) "closed" [.i n,.i t] h= .ok (.i r) h:=by
 rw [Gb rfl _ _ _ rfl]
 have e:2 ^ (n*n)-t<100000:=by
  have:n*n<=16:=Af5 b b
  have:2 ^ _<=2 ^ 16:=Ad0 (by decide) this
  lia
 obtain⟨r,d,a⟩:=Q2 (by lia) h 100000 t e (Wf.fG.start c)
 refine⟨r,d,?_⟩
 simp [Gm]at a
 simp_all [rm,JV k n _ _ h (by lia),XR _ _ _ h]
 rw [a]
 simp_all []
def za (e:exec F s τ h= .next τ1 h1):execs F (.cons s ss) τ h=execs F ss τ1 h1:=by rw [execs,e,O.bx]
def fx (e:exec F s τ h= .next τ1 h1) (g:Gw n (execs F ss τ1 h1)=r):Gw n (execs F (.cons s ss) τ h)=r:=by rw [za e];exact g
def qa (e:exec F s τ h= .ret w h1):execs F (.cons s ss) τ h= .ret w h1:=by rw [execs,e,O.bM]
def xr (e:Gm F c τ h= .ok u0 h1):exec F (.iff c a b) τ h=execs F a τ h1:=by rw [exec,e,R.ar]
def g6 (e:Gm F c τ h= .ok k9 h1):exec F (.iff c a b) τ h=execs F b τ h1:=by rw [exec,e,R.ar]
def XC (a:GK e=y0) (q:eval F e τ h= .ok (.own xs) h1):exec F (.ret e) τ h= .ret (.own xs) h1:=by
 rw [exec,a];simp [q,R.ar]
def Ja (a:GK e=y0) (q:eval F e τ h= .ok (.v d) h1):exec F (.ret e) τ h= .ret (.v d) h1:=by
 rw [exec,a];simp [q,R.ar]
def zu (e:h[r]? =k0 (.lst xs)) (i):c9 (.r r) (.v (.int i)) h=aP xs i:=by
 simp [c9,W.de,W.seq?,e]
def km (x y z:D):aP [x,y,z] 0=k0 x:=rfl
def xZ (x y z:D):aP [x,y,z] 1=k0 y:=rfl
def kM (x y z:D):aP [x,y,z] 2=k0 z:=rfl
def M5:dw 3 2=k0 2:=rfl
def wz (b:eval F e τ h= .ok (.v d) h) (g:Gi τ i=k0 (.r r)) (c:h[r]? =k0 (.lst xs)) (f:dw xs.length j=k0 n) (k:Km d=u0) (a:h2=h.set r (.lst (xs.set n d))):
 exec F (.bV (.var i) (.int j) e) τ h= .next τ h2:=by
 subst a
 simp only [exec,b,R.ar,eval,g,Kn,c,f,k,if_true]
def oi (a b) (h: -(2:Int) ^ 64<b/\b<2 ^ 64):Gj .mul a b=k0 (a*b):=by
 have c:(-d6<a/\a<d6)\/(-d6<b/\b<d6):=by rw [GZ];exact .inr h
 show(if _ then _ else _)=_
 rw [if_pos c]
def Na (a b) (h: -(2:Int) ^ 64<a/\a<2 ^ 64):Gj .mul a b=k0 (a*b):=by
 have c:(-d6<a/\a<d6)\/(-d6<b/\b<d6):=by rw [GZ];exact .inl h
 show(if _ then _ else _)=_
 rw [if_pos c]
def ZJ (a b) (h:0<b):Gj .mod a b=k0 (a % b):=by
 rw [Lz,if_pos h]
def sL (a b) (h:0<b) (c:b<1073741824):Gj .fdiv a b=k0 (a / b):=by
 rw [Df,if_pos ⟨h,by rw [GR];exact c⟩]
def Dh (i j) (h):Gq .eq (.v (.int i)) (.v (.int j)) h=k0 (u9 (i=j)):=by
 rfl
theorem Q3: ∀xs:List Int,Kk (xs.map .int)=k0 xs.sum
 | []=>rfl
 | x::xs=>by simp [Kk,Q3 xs]
def HL (f:α->β) (xs) (lo hi):cut (xs.map f) lo hi=(cut xs lo hi).map f:=by
 simp [cut,List.map_take]
def F7 (xs:List α) (lo hi):(cut xs lo hi).length<=xs.length:=by
 simp [cut,Af7]
 lia
abbrev kX:Tx:= tj
noncomputable def BJ:List Tx:= [gm,gX,fY,gW,[101,97,99,104],fH,hF,f6,eP,eM,ip,iX,[107,105,110,100],[116,105,101],[115,97,121]]
structure Hq (t:Tx):Prop where
 lo:1<=t.length
 hi:t.length<=8
 A4: ∀c∈t,97<=c/\c<=122
 free:t∉BJ
def E5 (i:Nat) (h:i<26):aP kX (i:Int)=k0 (97+i):=by
 have: ∀i:Nat,i<26->aP kX i=k0 (97+i):=by decide
 exact this i h
def l1 (xs:List α) (n:Nat):cut xs y0 (k0 (n:Int))=xs.take n:=by
 have a: ¬((n:Int)<0):=by lia
 simp only [cut,aY,a,if_false,Ad5,List.drop_zero,Nat.sub_zero]
 by_cases q:n<=xs.length
 .rw [Ak5 q]
 .rw [Nat.min_eq_right (by lia),Ai7 (Aa7 _),Ai7 (by lia)]
def ZZ (xs:List α) (n:Nat):cut xs (k0 (n:Int)) y0=xs.drop n:=by
 have a: ¬((n:Int)<0):=by lia
 simp [cut,aY,a,Ad5]
 by_cases q:n<=xs.length
 .rw [Ak5 q,Ai7 (by simp)]
 .rw [Nat.min_eq_right (by lia),List.drop_of_length_le (Aa7 _),List.drop_of_length_le (by lia),List.take_nil]
def nz (s) (lo hi) (h) (a:s.length<=bf):fq (.s s) lo hi h= .ok (.s (cut s lo hi)) h:=by
 show(if s.length<=bf then _ else _)=_
 rw [if_pos a]
def mul_str (s) (n) (h) (b:n<=1000) (a:s.length*n<=1000000):GU .mul (.s s) (.i n) h= .ok (.v (.str (Ab n s).flatten)) h:=by
 show(if 0<=(n:Int)/\(n:Int)<=1000/\s.length*(n:Int).toNat<=bf then _ else _)=_
 rw [if_pos ⟨by lia,by lia,by rw [Gg,Ad5];exact a⟩,Ad5]
def add_str (s u) (h) (a:s.length+u.length<=1000000):GU .add (.s s) (.s u) h= .ok (.s (s++u)) h:=by
 rw [F8,if_pos (by rw [Gg];exact a)]
def JD (i) (a:i<26) (h):c9 (.s kX) (.i i) h=k0 (.str [97+i]):=by
 rw [nK,if_pos (by rw [Gg];decide),E5 i a]
 rfl
def ua (f:Nat->α) (m) (h:m<=8) (e: ∀i,i<8-> ∀j,j<8->i≠j->f i≠f j):((Aa3 m).map f).Nodup:=by
 rw [List.Nodup,List.pairwise_map]
 refine Ao7.imp_of_mem ?_ (List.nodup_range)
 intro a b d g c
 exact e a (by have:=Ab4.mp d;lia) b (by have:=Ab4.mp g;lia) c
def nZ (a b:Nat) (c:0<b):Gj .mod (a:Int) (b:Int)=k0 ((a % b:Nat):Int):=by
 rw [ZJ _ _ (by lia)];rfl
def MF (a b:Nat) (c:0<b) (d:b<1073741824):Gj .fdiv (a:Int) (b:Int)=k0 ((a / b:Nat):Int):=by
 rw [sL _ _ (by lia) (by lia)];rfl
def D1 (a b:Nat):Gj .add (a:Int) (b:Int)=k0 ((a+b:Nat):Int):=rfl
def Zd (xs:List α) (i) (h:i<xs.length):aP xs (i:Int)=xs[i]? :=by
 have:(i)< xs.length:=by lia
 simp [aP,dw,this]
def Jm (i j) (h):Gq .eq (.i i) (.i j) h=k0 (u9 (i=j)):=by
 rw [Dh]
 congr 1
 exact decide_eq_decide.mpr (by lia)
theorem jD: ∀i:List Tx,GO (i.map .str)=k0 i
 | []=>rfl
 | t::i=>by simp [GO,jD i]
theorem As (s): ∀i:List Tx,inD (.str s) (i.map .str)=u9 (s∈i)
 | []=>rfl
 | t::i=>by
  have a:=As s i
  simp only [inD]at a
  by_cases q:t=s
  .subst q
   simp [inD]
  .have b: ¬s=t:=λe=>q e.symm
   simp only [inD,Ab2,Ag9,a,Ab8,b,false_or]
   simp [q]
theorem tH: ∀(a:List Tx) (h),(GT h (a.map .str)=a.map .str/\Gc (a.map .str)=u0)/\GG (a.map .str)=0
 | [],_=>⟨⟨rfl,rfl⟩,rfl⟩
 | t::a,h=>by
  have b:=tH a h
  simp [b]
def xz (s) (a:List Tx) (w) (h) (b:tN (w.dd h)=k0 (GT h (a.map .str))):Kc (.s s) w h=k0 (u9 (s∈a)):=by
 have k:=tH a h
 unfold Kc
 simp [b,k,As]
structure Nm (ts:List Tx):Prop where
 nd:ts.Nodup
 good: ∀t∈ts,Hq t
def jf (x) (r:List α):aP (x::r) 0=k0 x:=by
 have: 0< (x::r).length:=by simp
 simp [aP,dw,this]
def CY (xs) (n) (h) (b:n<=1000) (a:xs.length*n<=1000000):GU .mul (.own xs) (.i n) h= .ok (.own (Ab n xs).flatten) h:=by
 show Kw xs n h=_
 rw [Kw,if_pos ⟨by lia,by lia,by rw [Ad5,Gg];exact a⟩,Ad5]
def me (a:Gd d=u0) (c:n<=h.length) (b:Gu (h.take n)=u0): ∃h',Gw n (.ret (.v d) h)= .ok (.v d) h'/\h'=h.take n:=by
 by_cases q:h.length=n
 .exact⟨h,by simp [Gw,fin,q],by rw [← q,Ap5]⟩
 .exact⟨h.take n,by simp [Gw,fin,q,W.keep,a,b],rfl⟩
theorem Xl: ∀i:List Tx,Gc (i.map .str)=u0
 | []=>rfl
 | t::i=>by simp [Xl i]
def MX (b:Gf F es τ h= .ok ws h) (a:F.call f (ws.map W.arg) h= .ok (.own xs) h) (c:Gc xs=u0):eval F (.share (.call f es)) τ h= .ok (.r h.length) (h++ [.lst xs]):=by
 simp only [eval,b,R.ae,a,c,if_true]
theorem Xr (x): ∀ys:List Tx,(Ki x ys).Perm (x::ys)
 | []=> .refl _
 | y::ys=>by
  unfold Ki
  by_cases q:y<x
  .rw [if_pos q]
   exact((Xr x ys).cons y).trans (.swap x y ys)
  .rw [if_neg q]
theorem zl: ∀xs:List Tx,(GA xs).Perm xs
 | []=> .refl _
 | x::xs=>(Xr x (GA xs)).trans ((zl xs).cons x)
abbrev hO (a:List Tx):D:= .tup (a.map .str)
abbrev wD (K T:List Tx):D:= .tup [hO K,hO T]
def jQ (ts) (h) (a:ts.length<64):dC .sorted [.own (ts.map .str)] h= .ok (.own ((GA ts).map .str)) h:=by
 show(R.of h ((k0 _).bind GO)).bind _=_
 rw [Ag2,jD,R.ao,R.ae,if_pos a]
abbrev aA (l:List Nat):List D:=l.map λ(x:Nat)=> .n x
abbrev iq (n:Nat) (b a:List Nat):D:= .tup [.n n,.tup (aA b),.tup (aA a)]
structure CJ (n K T:Nat) (ks ts:List Nat):Prop where
 n4:n<=4
 lk:ks.length=K
 lt:ts.length=T
 bk: ∀x∈ks,x<2 ^ n
 bt: ∀x∈ts,x<2 ^ (n*n)
inductive Ex where
 | name (t:Tx)
 | same
 | all
 | none
 | turned (a:Ex)
 | closed (a:Ex)
 | plus (a b:Ex)
 | less (a b:Ex)
 | both (a b:Ex)
 | joined (a b:Ex)
abbrev wh:Tx:= [110,97,109,101]
abbrev Zg:Tx:= [115,97,109,101]
abbrev jp:Tx:= [97,108,108]
abbrev Xh:Tx:= [110,111,110,101]
abbrev zF:Tx:= [112,108,117,115]
abbrev qr:Tx:= [108,101,115,115]
abbrev zB:Tx:= [98,111,116,104]
abbrev jg:Tx:= [106,111,105,110,101,100]
abbrev qj:Tx:= [116,117,114,110,101,100]
abbrev Xi:Tx:= [99,108,111,115,101,100]
noncomputable def aV:Ex->D
 | .name t=> .tup [.str wh,.str t]
 | .same=> .tup [.str Zg]
 | .all=> .tup [.str jp]
 | .none=> .tup [.str Xh]
 | .turned a=> .tup [.str qj,aV a]
 | .closed a=> .tup [.str Xi,aV a]
 | .plus a b=> .tup [.str zF,aV a,aV b]
 | .less a b=> .tup [.str qr,aV a,aV b]
 | .both a b=> .tup [.str zB,aV a,aV b]
 | .joined a b=> .tup [.str jg,aV a,aV b]
def Ex.wf (N:List Tx):Ex->Prop
 | .name t=>t∈N
 | .turned a=>a.wf N
 | .closed a=>a.wf N
 | .plus a b=>a.wf N/\b.wf N
 | .less a b=>a.wf N/\b.wf N
 | .both a b=>a.wf N/\b.wf N
 | .joined a b=>a.wf N/\b.wf N
 | _=>True
noncomputable def Ex.dp:Ex->Nat
 | .turned a=>a.dp+1
 | .closed a=>a.dp+1
 | .plus a b=>max a.dp b.dp+1
 | .less a b=>max a.dp b.dp+1
 | .both a b=>max a.dp b.dp+1
 | .joined a b=>max a.dp b.dp+1
 | _=>0
end M
namespace Wf
def wr (g:Nat->Nat->Bool):Nat->Nat->Nat->Bool
 | 0,a,b=>g a b
 | k+1,a,b=>wr g k a b||(wr g k a k&&wr g k k b)
theorem z8 : ∀k,g a b=u0->wr g k a b=u0
 | 0,h=>h
 | k+1,h=>by rw [wr,z8 k h,Am2]
theorem sR : ∀ k m,m<k-> ∀a b,wr g k a m=u0->wr g k m b=u0->wr g k a b=u0
 | 0,m,f=>absurd f (Ag7 _)
 | k+1,m,f=>λa b c d=>by
  rw [wr,Ae8,Aa1]at c d
  rw [wr,Ae8,Aa1]
  by_cases q:m=k
  .subst q
   have c:=c.elim id And.left
   have d:=d.elim id And.right
   exact .inr ⟨c,d⟩
  .have h:m<k:=by lia
   have e:=sR (g:=g) k m h
   rcases c with c | c<;>rcases d with d | d
   .exact .inl (e a b c d)
   .exact .inr ⟨e a k c d.1,d.2⟩
   .exact .inr ⟨c.1,e k b c.2 d⟩
   .exact .inr ⟨c.1,d.2⟩
theorem zH (e: ∀a b,a<n->b<n->(g a b=u0↔t.testBit (a*n+b)=u0)): ∀k,k<=n-> ∀a b,a<n->b<n->wr g k a b=u0->TC n t a b
 | 0,_,a,b,c,d,h=> .step c d ((e a b c d).mp h)
 | k+1,f,a,b,c,d,h=>by
  rw [wr,Ae8,Aa1]at h
  rcases h with h | h
  .exact zH e k (by lia) a b c d h
  .exact(zH e k (by lia) a k c (by lia) h.1).trans (zH e k (by lia) k b (by lia) d h.2)
def MW (f: ∀a b,a<n->b<n->(g a b=u0↔t.testBit (a*n+b)=u0))(h:TC n t a b):wr g n a b=true:=by
 induction h with
 | step c e d=>exact z8 n ((f _ _ c e).mpr d)
 | more j c e d i=>exact sR n _ c _ _ i (z8 n ((f _ _ c e).mpr d))
def iW (c: ∀a b,a<n->b<n->(g a b=u0↔t.testBit (a*n+b)=u0))(d:a<n) (e:b<n):wr g n a b=u0↔TC n t a b:=⟨zH c n (Aa7 n) a b d e,MW c⟩
end Wf
namespace M
def c4 (t:Tx) (a:List Tx):Nat:=(Kj t a).getD 0
theorem qo : ∀ {i},t∈i->Kj t i=k0 (c4 t i)/\c4 t i<i.length
 | y::b,h=>by
  unfold c4
  by_cases q:y=t
  .simp [Kj,q]
  .have a:t∈b:=by
    rcases Ab8.mp h with e | e
    .exact absurd e.symm q
    .exact e
   obtain⟨e,l⟩:=qo a
   simp only [Kj,q,if_false,e,Option.map_some,Al0,Aa8]at l ⊢
   exact⟨trivial,by lia⟩
structure Wo where
 n:Nat
 K:List Tx
 T:List Tx
 ks:List Nat
 ts:List Nat
structure Wo.Ok (w:Wo):Prop where
 hK:w.K.length<=4
 hT:w.T.length<=4
 nd:(w.K++w.T).Nodup
 wl:CJ w.n w.K.length w.T.length w.ks w.ts
def Wo.at (w:Wo) (t:Tx) (a b:Nat):Prop:=if t∈w.T then(w.ts.getD (c4 t w.T) 0).testBit (a*w.n+b)=u0 else a=b/\(w.ks.getD (c4 t w.K) 0).testBit a=u0
def fm (w:Wo):Ex->Nat->Nat->Prop
 | .name t,a,b=>w.at t a b
 | .same,a,b=>a=b
 | .all,_,_=>True
 | .none,_,_=>False
 | .turned e,a,b=>fm w e b a
 | .closed e,a,b=> ∃t,t<2 ^ (w.n*w.n)/\(∀ x y,x<w.n->y<w.n->(t.testBit (x*w.n+y)=u0↔fm w e x y))/\Wf.TC w.n t a b
 | .plus e f,a,b=>fm w e a b\/fm w f a b
 | .less e f,a,b=>fm w e a b/\ ¬fm w f a b
 | .both e f,a,b=>fm w e a b/\fm w f a b
 | .joined e f,a,b=> ∃c,c<w.n/\fm w e a c/\fm w f c b
def Is (w:Wo) (e:Ex) (v:Nat):Prop:=v<2 ^ (w.n*w.n)/\ ∀a b,a<w.n->b<w.n->(v.testBit (a*w.n+b)=u0↔fm w e a b)
def oY (b:s<2 ^ n) (a:t<2 ^ n):s ||| t<2 ^ n:=Ak9 b a
def Wo.words (w:Wo):D:=wD w.K w.T
def Wo.aT (w:Wo):D:=iq w.n w.ks w.ts
def mB (l) (i:Nat) (h:i<l.length):aP (aA l) (i:Int)=k0 (.n (l.getD i 0)):=by
 rw [Zd _ _ (by simp_all),Ac,Aa4 h,Ac6,Aa4 h]
 rfl
def Q5 (ts) (t) (h) (a:t∈ts) (b:ts.length<=1000):m7 .index (.v (hO ts)) [.s t] h= .ok (.i (c4 t ts)) h:=by
 show(R.of h ((k0 _).bind GO)).bind _=_
 rw [Ag2,jD,R.ao,R.ae]
 show(R.of h (k0 t)).bind _=_
 rw [R.ao,R.ae,(qo a).1,R.ao,R.ae,if_pos (by rw [Gg];lia)]
def CN (x y z:D):aP [x,y,z] 0=k0 x:=rfl
def Qh (x y:D):aP [x,y] 0=k0 x:=rfl
def Zf (x y:D):aP [x,y] 1=k0 y:=rfl
def Mn (x:D):aP [x] 0=k0 x:=rfl
def W9 (n x:Nat):List (Nat×Nat):=((Aa3 n).filter x.testBit).map λa=>(a,a)
def xT (n x):Wf.gq n (W9 n x):=λp c=>by
 obtain⟨a,b,rfl⟩:=Ab6.mp c
 have:=Ab4.mp (Ai9.mp b).1
 exact⟨this,this⟩
def rq (h:a<n) (g:b<n):(Wf.cQ n (W9 n x)).testBit (a*n+b)=u0↔a=b/\x.testBit a=true:=by
 rw [Wf.cI,Ad2]
 refine⟨λ⟨p,j,e⟩=> ?_,λ⟨e,i⟩=> ?_⟩
 .obtain⟨c,d,rfl⟩:=Ab6.mp j
  have f:=Ai9.mp d
  have d:=Ab4.mp f.1
  have e:=of_decide_eq_true e
  have e1:=congrArg (· / n) e
  have e2:=congrArg (· % n) e
  simp [Wf.aE d,Wf.aE g,Wf.aI d,Wf.aI g]at e1 e2
  subst e1
  exact⟨e2,f.2⟩
 .subst e
  exact⟨_,Ab6.mpr ⟨a,Ai9.mpr ⟨Ab4.mpr h,i⟩,rfl⟩,decide_eq_true rfl⟩
def Cv (n x) (l:n<=4) (h):eval F xi [a,b,c,si n,si x] h= .ok (.own ((W9 n x).map pD)) h:=by
 rw [xi,uD (λd=>match d with
  | .int i=>if x.testBit i.toNat then k0 (.tup [.int i,.int i])else y0
  | _=>y0) (xj (m:=n) (by simp_all []) (by lia)) (by simp;rw [Gg];lia)]
 .congr 2
  rw [List.filterMap_map,W9,Ad1]
  induction Aa3 n with
  | nil=>rfl
  | cons y o f=>
   by_cases e:x.testBit y=u0
   .simp [e,pD,f]
   .simp [e,f]
 .intro d g
  obtain⟨i,k,rfl⟩:=iu _ g
  have j:Ka ((x / 2 ^ i:Nat)) 1=k0 (((x.testBit i).toNat:Nat):Int):=by
   rw [show 1=((1:Nat):Int)from rfl,wd,ZR]
  refine⟨[si i,si x],x.testBit i,rfl,?_,?_⟩
  .unfold Gm
   simp only [eval,Gi,Gn,R.ae,GH,Qp,jc,j,R.ao,y6]
   cases x.testBit i<;>rfl
  .by_cases e:x.testBit i=u0
   .simp [e,Gi]
   .simp [e]
def sP (t) (ts) (h):Gq .mem (.s t) (.v (hO ts)) h=k0 (u9 (t∈ts)):=xz t ts (.v (hO ts)) h rfl
def xu (k)(ok:w.Ok) (t) (g:t∈w.K++w.T) (h): ∃v,Is w (.name t) v/\call prog (k+4) "value_of_name" [.v w.words,.v w.aT,.s t] h= .ok (.i v) h:=by
 rw [Gb rfl _ _ _ rfl]
 simp only [Qs]
 show ∃v,_/\Gw _ (execs _ _ [sv (wD w.K w.T),sv (iq w.n w.ks w.ts),k0 _,y0,y0] h)=_
 have j:=ok.hK
 have i:=ok.hT
 by_cases q:t∈w.T
 .have c:=(qo q).2
  refine⟨w.ts.getD (c4 t w.T) 0,⟨?_,λa b d f=> ?_⟩,?_⟩
  .rw [Ac6,Aa4 (by rw [ok.wl.lt];exact c)]
   exact ok.wl.bt _ (Al4 _)
  .show _↔w.at t a b
   rw [Wo.at,if_pos q]
  .rw [qa,Ga _ _ _ rfl]
   rw [xr (h1:=h) (by simp_all [aa,Zf,sP,decide_eq_true q])]
   exact qa (Ja rfl (by simp only [eval,Gf,Gi,Gn,R.ae,aa,Zf,kM,R.ao,p7,if_true,Q5 w.T t h q (by lia)];rw [mB _ _ (by rw [ok.wl.lt];exact c)];rfl))
 .have e:=(Ac8.mp g).resolve_right q
  have c:=(qo e).2
  have n4:=ok.wl.n4
  refine⟨Wf.cQ w.n (W9 w.n (w.ks.getD (c4 t w.K) 0)),⟨Wf.cZ (xT _ _),λa b d f=> ?_⟩,?_⟩
  .show _↔w.at t a b
   rw [Wo.at,if_neg q]
   exact rq d f
  .rw [za (τ1:= [sv (wD w.K w.T),sv (iq w.n w.ks w.ts),k0 (.s t),y0,y0]) (h1:=h) (by simp_all [aa,Zf,sP,decide_eq_false q])]
   rw [za (τ1:= [sv _,sv _,k0 _,si w.n,y0]) rfl]
   rw [za (τ1:= [sv _,sv _,k0 _,si w.n,si _]) (by simp only [exec,eval,Gf,Gi,Gn,R.ae,aa,Qh,xZ,R.ao,p7,if_true,Q5 w.K t h e (by lia)];rw [mB _ _ (by rw [ok.wl.lk];exact c)];rfl)]
   rw [qa (Ja rfl ?_),Ga _ _ _ rfl]
   simp only [eval,Gf,Gi,Gn,R.ae,Cv w.n _ n4 h,Ab2,Af1,W.bX,W.eU,QK k w.n _ h (by lia) (xT _ _)]
def Xa (s t:Tx) (h:AH):Gq .eq (.s s) (.s t) h=k0 (s==t):=by simp [G6]
def xa (e:Gm F c τ h= .ok k9 h):execs F (.cons (.iff c a .nil) ss) τ h=execs F ss τ h:=za (g6 e)
def zf (e:Gm F c τ h= .ok u0 h) (r:exec F s τ h= .ret w h):execs F (.cons (.iff c (.cons s .nil) .nil) ss) τ h= .ret w h:=qa ((xr e).trans (qa r))
def Qb (s X) (h):Gm F (.cmp .eq .v1 (.str X)) [a,k0 (.s s),c] h= .ok (s==X) h:=by
 simp only [Gm,eval,Gi,Gn,R.ae,Xa,R.ao,GS]
abbrev kI (n:Nat) (s:Tx) (l:List D):Sl:= [si n,k0 (.s s),k0 (.l l)]
def Hr (k n) (l) (h) (a:n<=4):call prog (k+5) "made" [.i n,.s Zg,.l l] h= .ok (.i (Wf.bF n)) h:=by
 rw [Gb rfl _ _ _ rfl]
 simp only [Qz]
 show Gw _ (execs _ _ (kI n Zg l) h)=_
 rw [zf (Qb _ _ _) (Ja rfl (by simp only [eval,Gf,Gi,Gn,R.ae,Ab2,Af1,W.bX,CO k n h (by lia)];rfl)),Ga _ _ _ rfl]
def Ih (k n) (l) (h) (a:n<=4):call prog (k+5) "made" [.i n,.s jp,.l l] h= .ok (.i (2 ^ (n*n)-1)) h:=by
 rw [Gb rfl _ _ _ rfl]
 simp only [Qz]
 show Gw _ (execs _ _ (kI n jp l) h)=_
 rw [xa (Qb _ _ _),zf (Qb _ _ _) (Ja rfl (by simp only [eval,Gf,Gi,Gn,R.ae,Ab2,Af1,W.bX,sN _ n h (by lia)];rfl)),Ga _ _ _ rfl]
def Ci (k n) (l) (h):call prog (k+5) "made" [.i n,.s Xh,.l l] h= .ok (.i (0)) h:=by
 rw [Gb rfl _ _ _ rfl]
 simp only [Qz]
 rw [xa (Qb _ _ _),xa (Qb _ _ _),zf (Qb _ _ _) _,Ga _ _ _ rfl]
 rfl
abbrev l2 (s t:Nat):List D:= [.n s,.n t]
def X4 (k n s t) (h):call prog (k+5) "made" [.i n,.s zF,.l (l2 s t)] h= .ok (.i (s ||| t)) h:=by
 rw [Gb rfl _ _ _ rfl]
 simp only [Qz]
 show Gw _ (execs _ _ (kI n zF _) h)=_
 rw [xa (Qb _ _ _),xa (Qb _ _ _),xa (Qb _ _ _),zf (Qb _ _ _) (Ja rfl (by simp only [eval,Gf,Gi,Gn,R.ae,zr,Qh,Zf,R.ao,Ab2,Af1,W.bX,XR _ s t h];rfl)),Ga _ _ _ rfl]
def wX (k n s t) (h):call prog (k+5) "made" [.i n,.s zB,.l (l2 s t)] h= .ok (.i (s &&& t)) h:=by
 rw [Gb rfl _ _ _ rfl]
 simp only [Qz]
 show Gw _ (execs _ _ (kI n zB _) h)=_
 rw [xa (Qb _ _ _),xa (Qb _ _ _),xa (Qb _ _ _),xa (Qb _ _ _),xa (Qb _ _ _),zf (Qb _ _ _) (Ja rfl (by simp only [eval,Gf,Gi,Gn,R.ae,zr,Qh,Zf,R.ao,Ab2,Af1,W.bX,Mp _ s t h];rfl)),Ga _ _ _ rfl]
def qJ (k n s t) (h) (a:n<=4):call prog (k+5) "made" [.i n,.s jg,.l (l2 s t)] h= .ok (.i (Wf.joinM n s t)) h:=by
 rw [Gb rfl _ _ _ rfl]
 simp only [Qz]
 show Gw _ (execs _ _ (kI n jg _) h)=_
 rw [xa (Qb _ _ _),xa (Qb _ _ _),xa (Qb _ _ _),xa (Qb _ _ _),xa (Qb _ _ _),xa (Qb _ _ _),zf (Qb _ _ _) (Ja rfl (by simp only [eval,Gf,Gi,Gn,R.ae,zr,Qh,Zf,R.ao,Ab2,Af1,W.bX,JV _ n s t h (by lia)];rfl)),Ga _ _ _ rfl]
def ZM (k n s) (h) (a:n<=4):call prog (k+5) "made" [.i n,.s qj,.l [.n s]] h= .ok (.i (Wf.bG n s)) h:=by
 rw [Gb rfl _ _ _ rfl]
 simp only [Qz]
 show Gw _ (execs _ _ (kI n qj [.n s]) h)=_
 rw [xa (Qb _ _ _),xa (Qb _ _ _),xa (Qb _ _ _),xa (Qb _ _ _),xa (Qb _ _ _),xa (Qb _ _ _),xa (Qb _ _ _),zf (Qb _ _ _) (Ja rfl (by simp only [eval,Gf,Gi,Gn,R.ae,zr,Mn,R.ao,Ab2,Af1,W.bX,DA k n s h (by lia)];rfl)),Ga _ _ _ rfl]
def xK (k n s) (h) (c:n<=4) (b:s<2 ^ (n*n)): ∃r,Wf.fb n s r/\call prog (k+5) "made" [.i n,.s Xi,.l [.n s]] h= .ok (.i r) h:=by
 obtain⟨r,a,e⟩:=BE (k+1) n s h c b
 refine⟨r,a,?_⟩
 rw [Gb rfl _ _ _ rfl]
 simp only [Qz]
 rw [xa (Qb _ _ _),xa (Qb _ _ _),xa (Qb _ _ _),xa (Qb _ _ _),xa (Qb _ _ _),xa (Qb _ _ _),xa (Qb _ _ _),xa (Qb _ _ _),qa (Ja rfl (by assumption)),Ga _ _ _ rfl]
def A8 (a:Gk F it τ h= .ok [] h):eval F (.comp tg one k aB it k9 c elt) τ h= .ok (.own []) h:=by
 rw [eval,a,R.ae,if_pos (show [].length<=bf from Ae6 _)]
 rfl
def uj (a:Gk F it τ h= .ok [d] h) (e:eval F elt (GB (Ab k y0++aB.map λj=>Gi τ j) 0 (.v d)) h= .ok (.v y) h):eval F (.comp [0] u0 k aB it k9 c elt) τ h= .ok (.own [y]) h:=by
 have b: [d].length<=bf:=by rw [Gg];simp
 rw [eval,a,R.ae,if_pos b]
 simp [Gy,e,R.ao]
def Z5 (a:Gk F it τ h= .ok [d1,d2] h) (d:eval F elt (GB (Ab k y0++aB.map λj=>Gi τ j) 0 (.v d1)) h= .ok (.v y1) h) (e:eval F elt (GB (Ab k y0++aB.map λj=>Gi τ j) 0 (.v d2)) h= .ok (.v y2) h):eval F (.comp [0] u0 k aB it k9 c elt) τ h= .ok (.own [y1,y2]) h:=by
 have b: [d1,d2].length<=bf:=by rw [Gg];simp
 rw [eval,a,R.ae,if_pos b]
 simp [Gy,d,e,R.ao]
def wn (f) (l:eval F e τ h= .ok (.i n) h) (m:n<=1000)
 (b: ∀i,i<n-> ∃w,eval F elt (si i::aB.map λj=>Gi τ j) h= .ok w h/\w.d=k0 (f i)):eval F (.comp [0] u0 1 aB (.aj e) k9 (.bl u0) elt) τ h= .ok (.own ((Aa3 n).map f)) h:=by
 rw [zm (λd=>match d with | .int i=>f i.toNat | d=>d) (xj l (by lia)) (by simp;rw [Gg];lia)]
 .simp [Function.comp_def]
 .intro d k
  obtain⟨i,a,rfl⟩:=iu _ k
  obtain⟨w,c,g⟩:=b i a
  exact⟨_,rfl,w,c,by simpa using g⟩
def qu (x y) (r:List D):aP (x::y::r) 1=k0 y:=by
 have:=Zd (x::y::r) 1 (by simp)
 exact this
abbrev tb (n v:Nat) (a b:Nat):Bool:=v.testBit (a*n+b)
def z6 (n:Nat) (g:Nat->Nat->Bool) (a:Nat):Nat:=((Aa3 n).map λb=>(g a b).toNat).sum
theorem zv (g): ∀l:List Nat,(l.filter g).length=(l.map λb=>(g b).toNat).sum
 | []=>rfl
 | x::l=>by
  have a:=zv g l
  by_cases q:g x=u0
  .rw [List.filter_cons_of_pos q,Aa8,Ab2,Am9,a,q];simp;lia
  .have c:=by simpa using q
   rw [List.filter_cons_of_neg q,Ab2,Am9,a,c];simp
def WC (m n):Aa3 ((m+1)*n)=Aa3 (m*n)++(Aa3 n).map (m*n+ ·):=by
 rw [Nat.succ_mul,List.range_add]
def ET {b:Nat}(a:b<n):(m*n+b) / n=m:=Wf.aE a
theorem rk (n v) (a): ∀m,((((Aa3 (m*n)).filter v.testBit).map (· / n)).count a)=if a<m then z6 n (tb n v) a else 0
 | 0=>by simp
 | m+1=>by
  have d:=rk n v a m
  rw [WC,List.filter_append,Ae0,List.count_append,d,An5,Ad1]
  have e:((Aa3 n).filter (v.testBit∘(m*n+ ·))).map ((· / n)∘(m*n+ ·))=Ab ((Aa3 n).filter (v.testBit∘(m*n+ ·))).length m:=by
   rw [List.eq_replicate_iff]
   refine⟨by simp,λx g=> ?_⟩
   obtain⟨b,h,rfl⟩:=Ab6.mp g
   exact ET (Ab4.mp (Ai9.mp h).1)
  rw [e,List.count_replicate,zv]
  by_cases q:a=m
  .subst q
   simp [z6,tb]
  .have f: ¬(m==a)=true:=by simp;exact λe=>q e.symm
   rw [if_neg f]
   by_cases c:a<m
   .rw [if_pos c,if_pos (by lia)];lia
   .rw [if_neg c,if_neg (by lia)]
def LR (b:a<n):((Wf.aw n v).map (·.1)).count a=z6 n (tb n v) a:=by
 have:=rk n v a n
 rw [if_pos b]at this
 rw [← this,Wf.aw,Ad1]
 rfl
theorem xH (n v): ∀m,((Aa3 (m*n)).filter v.testBit).length=((Aa3 m).map (z6 n (tb n v))).sum
 | 0=>by simp
 | m+1=>by
  have a:=xH n v m
  rw [WC,List.filter_append,Aa6,a,An5,Aa,zv,An3,Ae0,List.sum_append]
  simp [z6,tb]
def KR (n v):(Wf.aw n v).length=((Aa3 n).map (z6 n (tb n v))).sum:=by
 rw [Wf.aw,Aa,xH]
abbrev Za:Tx:= [108,101,97,115,116]
abbrev zc:Tx:= [109,111,115,116]
abbrev xb:Tx:= [101,97,99,104,108,101,97,115,116]
abbrev Qi:Tx:= [101,97,99,104,109,111,115,116]
abbrev JH:Tx:= [105,110]
abbrev Xb:Tx:= [101,113,117,97,108]
abbrev Zk:Tx:= [115,111,109,101]
abbrev z4:Tx:= [110,111]
def JS (s a b) (h):Gq .mem (.s s) (.t [.str a,.str b]) h=k0 (u9 (s∈ [a,b])):=xz s [a,b] (.t [.str a,.str b]) h rfl
def XE (n v:Nat):List Nat:=(Aa3 n).map (z6 n (tb n v))
def jl (n v:Nat) (s:Tx):List Nat:=if s∈ [Za,zc]then [(XE n v).sum]else XE n v
theorem Q8: ∀l:List Nat,GN (aA l)=k0 (l.map λ(x:Nat)=>(x:Int))
 | []=>rfl
 | x::l=>by
  have:=Q8 l
  simp only [Ab2,GN]at this ⊢
  rw [this];rfl
def BN (l:List Nat) (a:Nat):(l.map λ(x:Nat)=>(x:Int)).count (a:Int)=l.count a:=by
 induction l with
 | nil=>rfl
 | cons x l b=>
  rw [Ab2,List.count_cons,List.count_cons,b]
  by_cases q:x=a
  .simp [q]
  .have: ¬(x=(a:Int)):=by lia
   simp [q,this]
def rP (k n v) (s) (i:n<=4) (h):call prog (k+2) "counts" [.i n,.s s,.i v] h= .ok (.own (aA (jl n v s))) h:=by
 rw [Gb rfl _ _ _ rfl]
 simp only [rB]
 refine fx (by simp_all [Qu k n v h (by lia)];rfl) ?_
 by_cases q:s∈ [Za,zc]
 .rw [qa,Gv _ _ _ rfl]
  rw [xr (h1:=h) (by simp_all [JS,decide_eq_true q])]
  refine qa (XC rfl ?_)
  simp only [eval,Gx,Gf,Gi,Gn,R.ae,Qx,W.lN,R.ao,Aa,KR]
  rw [jl,if_pos q]
  rfl
 .refine fx (by simp_all [JS,decide_eq_false q];rfl) ?_
  have e2:eval (k8 (k+1)) qE [si n,k0 (.s s),si v,k0 (.l ((Wf.aw n v).map pD)),y0] h= .ok (.own (aA ((Wf.aw n v).map (·.1)))) h:=by
   rw [qE,zm (λd=>match d with | .tup [x,_]=>x | d=>d) (by simp_all []) (XH n v (by lia))]
   .simp [pD,aA,Function.comp_def]
   .intro d g
    obtain⟨p,_,rfl⟩:=Ab6.mp g
    exact⟨_,rfl,_,rfl,rfl⟩
  have e1:eval (k8 (k+1)) ZE [si n,k0 (.s s),si v,k0 (.l ((Wf.aw n v).map pD)),k0 (.l (aA ((Wf.aw n v).map (·.1))))] h= .ok (.own (aA (XE n v))) h:=by
   rw [ZE,wn (λa=> .n _) rfl (by lia) λa b=>⟨.i _,?_,rfl⟩]
   .rw [aA,XE,Ad1];rfl
   .have e:((((Wf.aw n v).map (·.1)).map λ(x:Nat)=>(x:Int))).length<=bf:=by
     have:=XH n v (show n<=20 by lia)
     simpa using this
    have f:m7 .count (.l (aA ((Wf.aw n v).map (·.1)))) [.i a] h= .ok (.i (z6 n (tb n v) a)) h:=by
     show(R.of h ((k0 (aA ((Wf.aw n v).map (·.1)))).bind GN)).bind _=_
     rw [Ag2,Q8,R.ao,R.ae]
     show(R.of h (k0 (a:Int))).bind _=_
     rw [R.ao,R.ae,if_pos e,BN,LR b]
    have c:lZ .count (.l (aA ((Wf.aw n v).map (·.1)))) h=true:=rfl
    simp only [eval,Gf,Gi,Gn,Ab2,Af1,R.ae,c,if_true,f]
  rw [za (τ1:= [si n,k0 (.s s),si v,k0 (.l ((Wf.aw n v).map pD)),k0 (.l (aA ((Wf.aw n v).map (·.1))))]) (by rw [exec,e2];rfl)]
  rw [qa (XC rfl e1),Gv _ _ _ rfl,jl,if_neg q]
inductive Fc where
 | dH (a b:Ex)
 | dZ (a b:Ex)
 | d4 (a:Ex)
 | au (a:Ex)
 | cnt (s:Tx) (k:Nat) (a:Ex)
def dv:Fc->D
 | .dH a b=> .tup [.str JH,aV a,aV b]
 | .dZ a b=> .tup [.str Xb,aV a,aV b]
 | .d4 a=> .tup [.str Zk,aV a]
 | .au a=> .tup [.str z4,aV a]
 | .cnt s k a=> .tup [.str s,.n k,aV a]
def Fc.wf (N:List Tx):Fc->Prop
 | .dH a b=>a.wf N/\b.wf N
 | .dZ a b=>a.wf N/\b.wf N
 | .d4 a=>a.wf N
 | .au a=>a.wf N
 | .cnt s _ a=>s∈ [Za,zc,xb,Qi]/\a.wf N
def Fc.dp:Fc->Nat
 | .dH a b=>max a.dp b.dp
 | .dZ a b=>max a.dp b.dp
 | .d4 a=>a.dp
 | .au a=>a.dp
 | .cnt _ _ a=>a.dp
theorem oU: ∀bs:List Bool,Kl (bs.map .bl)=k0 bs
 | []=>rfl
 | b::bs=>by simp [Kl,oU bs]
def Zv {bs:List Bool}(q:eval F e τ h= .ok (.own (bs.map .bl)) h):eval F (.bi .all (.cons e .nil)) τ h= .ok (.b (bs.all id)) h:=by
 rw [eval,Gf,q]
 simp [oU,R.ao]
def oQ (p) (l:List α):(l.map p).all id=l.all p:=by
 rw [An6];rfl
theorem WS: ∀l:List Nat,Kk (aA l)=k0 ((l.sum:Nat):Int)
 | []=>rfl
 | x::l=>by
  have:=WS l
  simp only [Ab2,Kk]at this ⊢
  rw [this,Am9]
  simp
def Nl :eval F (.neg (.int 1)) τ h= .ok (.v (.int (-1))) h:=rfl
def uW (x y:D):aP [x,y] (-1)=k0 y:=rfl
def XU (x y z:D):aP [x,y,z] (-1)=k0 z:=rfl
def Aq (s:Tx) (k:Nat) (l:List Nat):Bool:=if s∈ [Za,xb]then l.all λx=>u9 (k<=x)else l.all λx=>u9 (x<=k)
def xF (x y z:D):aP [x,y,z] 2=k0 z:=rfl
def xl (X)(e:Gn τ i=k0 (.s s)):Gm F (.cmp .eq (.var i) (.str X)) τ h= .ok (s==X) h:=by
 simp only [Gm,eval,Gi,e,R.ae,Xa,R.ao,GS]
structure V (n v:Nat) (g:Nat->Nat->Bool):Prop where
 lt:v<2 ^ (n*n)
 bit: ∀a b,a<n->b<n->(v.testBit (a*n+b)=u0↔g a b=u0)
section
variable {n s t:Nat}{g f:Nat->Nat->Bool}
def V.plus (h:V n s g) (q:V n t f):V n (s ||| t) λa b=>g a b||f a b:=⟨oY h.1 q.1,λa b c d=>by
 rw [Af0,Ae8,h.2 a b c d,q.2 a b c d,Ae8]⟩
def V.both (h:V n s g) (q:V n t f):V n (s &&& t) λa b=>g a b&&f a b:=⟨Nat.and_lt_two_pow s q.1,λa b c d=>by
 rw [Ah2,Aa1,h.2 a b c d,q.2 a b c d,Aa1]⟩
def V.less (h:V n s g) (q:V n t f):V n (s-(s &&& t)) λa b=>g a b&& !f a b:=⟨Ah6 (Ap0 _ _) h.1,λa b c d=>by
 rw [Wf.aR,Aa1,h.2 a b c d,(Bool.eq_iff_iff.mpr (q.2 a b c d)),Aa1]⟩
def V.turned (h:V n s g):V n (Wf.bG n s) λa b=>g b a:=⟨Wf.f7 _ _,λa b d c=>by
 rw [Wf.ff (Wf.place_lt d c),Wf.aE c,Wf.aI c,h.2 b a c d]⟩
def V.joined (h:V n s g) (q:V n t f):V n (Wf.joinM n s t) λa b=>(Aa3 n).any λc=>g a c&&f c b:=⟨Wf.dh _ _ _,λa b j i=>by
 rw [Wf.cb (Wf.place_lt j i),Wf.cH i,Ad2,Ad2]
 constructor
 .rintro ⟨c,e,z⟩
  have d:=Ab4.mp e
  rw [Aa1]at z
  exact⟨c,e,by rw [Aa1];exact⟨(h.2 a c j d).mp z.1,(q.2 c b d i).mp z.2⟩⟩
 .rintro ⟨c,e,z⟩
  have d:=Ab4.mp e
  rw [Aa1]at z
  exact⟨c,e,by rw [Aa1];exact⟨(h.2 a c j d).mpr z.1,(q.2 c b d i).mpr z.2⟩⟩⟩
def V.closed (h:V n s g)(q:Wf.fb n s r):V n r (Wf.wr g n):=⟨q.lt,λa b c d=>(q.bit a b c d).trans (Wf.iW (λx y f e=>(h.2 x y f e).symm) c d).symm⟩
end
abbrev wW (s:Tx):Nat->Nat->Bool:=λa b=>(s==jp)||((s==Zg)&&u9 (a=b))
abbrev bY (a b:Wo):D:= .tup [a.aT,b.aT]
structure Pt (a b:Wo):Prop where
 n9:a.Ok
 Ii:b.Ok
 en:b.n=a.n
 eK:b.K=a.K
 eT:b.T=a.T
def Pt.ew (p:Pt a b):b.words=a.words:=by rw [Wo.words,Wo.words,p.eK,p.eT]
abbrev fE (a b:Wo) (d:D) (s:Tx) (e x5 c x7 x8:Option W):Sl:= [sv a.words,sv (bY a b),sv d,k0 (.s s),e,x5,c,x7,x8]
abbrev a8 (v u:Nat):D:= .tup [.n v,.n u]
section
variable {m:Nat}{a b:Wo}{h:AH}
def iY :Gk F (.seq (.fW .v2 (.int 1))) (fE a b (.tup (s::ds)) z x4 x5 x6 x7 x8) h= .ok ds h:=by
 have e:cut (s::ds) (k0 1) y0=ds:=ZZ (s::ds) 1
 refine Mm ?_
 show(if aY (s::ds).length 0 (k0 1)=0/\aY (s::ds).length (s::ds).length y0=(s::ds).length then R.fail else R.ok _ h)=_
 rw [if_neg (λc=>by have:=c.1;simp [aY]at this),e]
def qx (q:call prog m "bounds" [.v a.words,.v (bY a b),.v d] h= .ok (.v y) h):eval (k8 m) (.call "bounds" (.c .v1 .v2 .v0)) (GB (List.replicate 1 none++ [0,1].map fun j=>Gi (fE a b v z x4 x5 x6 x7 x8) j) 0 (.v d)) h= .ok (.v y) h:=by simp_all
def vY {s:Tx}{ds:List D}{x:W}(f:(s==wh)=k9){ps:List (Nat×Nat)}(i:ps.length<=2)
 (h1:eval (k8 m) Wu (fE a b (.tup (.str s::ds)) s y0 y0 y0 y0 y0) h= .ok (.own (ps.map pD)) h){d:D}
 (q:execs (k8 m) (match bD.body with | .cons _ (.cons _ (.cons _ (.cons _ (.cons _ r))))=>r | r=>r) (fE a b (.tup (.str s::ds)) s y0 (k0 (.l (ps.map pD))) (k0 (.l (aA (ps.map (·.1))))) (k0 (.l (aA (ps.map (·.2))))) y0) h= .ret (.v d) h):
 call prog (m+1) "bounds" [.v a.words,.v (bY a b),.t (.str s::ds)] h= .ok (.v d) h:=by
 rw [Gb (d:=bD) rfl _ _ _ rfl]
 simp only [bD]at q ⊢
 refine fx (by simp_all [aa,jf];rfl) ?_
 rw [xa (by simp_all [Xa,f])]
 have e:(ps.map pD).length<=bf:=by rw [Gg];simp;lia
 rw [za (τ1:=fE a b _ s y0 _ y0 y0 y0) (h1:=h) (by rw [exec,h1];rfl)]
 have e2:eval (k8 m) WD (fE a b (.tup (.str s::ds)) s y0 (k0 (.l (ps.map pD))) y0 y0 y0) h= .ok (.own (aA (ps.map (·.1)))) h:=by
  rw [WD,zm (h:=h) (ds:=ps.map pD) (λd=>match d with | .tup [x,_]=>x | d=>d) (by simp_all []) e]
  .simp [pD,aA,Function.comp_def]
  .intro d c
   obtain⟨p,_,rfl⟩:=Ab6.mp c
   exact⟨_,rfl,_,rfl,rfl⟩
 rw [za (τ1:=fE a b _ s y0 _ _ y0 y0) (h1:=h) (by rw [exec,e2];rfl)]
 have g:eval (k8 m) QB (fE a b (.tup (.str s::ds)) s y0 (k0 (.l (ps.map pD))) (k0 (.l (aA (ps.map (·.1))))) y0 y0) h= .ok (.own (aA (ps.map (·.2)))) h:=by
  rw [QB,zm (h:=h) (ds:=ps.map pD) (λd=>match d with | .tup [_,x]=>x | d=>d) (by simp_all []) e]
  .simp [pD,aA,Function.comp_def]
  .intro d c
   obtain⟨p,_,rfl⟩:=Ab6.mp c
   exact⟨_,rfl,_,rfl,rfl⟩
 rw [za (τ1:=fE a b _ s y0 _ _ _ y0) (h1:=h) (by rw [exec,g];rfl)]
 rw [q,Ga _ _ _ rfl]
def JC {s:Tx}{ds:List D}(e:(s==wh)=k9) (c:(s==qr)=k9){ps:List (Nat×Nat)}(f:ps.length<=2){v u:Nat}
 (h1:eval (k8 m) Wu (fE a b (.tup (.str s::ds)) s y0 y0 y0 y0 y0) h= .ok (.own (ps.map pD)) h)
 (g:call prog m "made" [.i a.n,.s s,.l (aA (ps.map (·.1)))] h= .ok (.i v) h) (d:call prog m "made" [.i a.n,.s s,.l (aA (ps.map (·.2)))] h= .ok (.i u) h):
 call prog (m+1) "bounds" [.v a.words,.v (bY a b),.t (.str s::ds)] h= .ok (.v (a8 v u)) h:=by
 refine vY (x:= .v .au) e f h1 ?_
 simp only [bD]
 rw [xa (by simp_all [Xa,c])]
 have i:c9 (.v (bY a b)) (.v (.int 0)) h=k0 a.aT:=rfl
 have e1:c9 (.v a.aT) (.v (.int 0)) h=k0 _:=rfl
 refine(za (by simp_all [e1];rfl)).trans ?_
 rw [qa (Ja rfl (by simp_all [g,d];rfl))]
def Fw 
 (h1:eval (k8 (k+1)) Wu (fE a b (.tup (.str qr::ds)) qr y0 y0 y0 y0 y0) h= .ok (.own ([(s,s'),(t,t')].map pD)) h):
 call prog (k+2) "bounds" [.v a.words,.v (bY a b),.t (.str qr::ds)] h= .ok (.v (a8 (s-(s &&& t')) (s'-(s' &&& t)))) h:=by
 refine vY (x:= .v .au) rfl (by simp) h1 ?_
 refine qa ((xr (h1:=h) ?_).trans (qa (Ja rfl ?_)))
 .simp_all [Xa];rfl
 .simp_all [zr,Qh,Zf,wB k s t' h,wB k s' t h]
end
abbrev QI:Tx:= [110,111,116]
abbrev Zx:Tx:= [97,110,100]
abbrev XA:Tx:= [111,114]
inductive Sy where
 | fact (f:Fc)
 | neg (a:Sy)
 | bU (a b:Sy)
 | bP (a b:Sy)
def az:Sy->D
 | .fact f=>dv f
 | .neg a=> .tup [.str QI,az a]
 | .bU a b=> .tup [.str Zx,az a,az b]
 | .bP a b=> .tup [.str XA,az a,az b]
def Sy.wf (N:List Tx):Sy->Prop
 | .fact f=>f.wf N
 | .neg a=>a.wf N
 | .bU a b=>a.wf N/\b.wf N
 | .bP a b=>a.wf N/\b.wf N
def Sy.dp:Sy->Nat
 | .fact f=>f.dp
 | .neg a=>a.dp+1
 | .bU a b=>max a.dp b.dp+1
 | .bP a b=>max a.dp b.dp+1
def BM (f) (wf:f.wf N): ∃s ds,dv f= .tup (.str s::ds)/\(s==QI)=k9/\(s==Zx)=k9/\(s==XA)=false:=by
 cases f with
 | dH a b=>exact⟨JH,_,rfl,rfl,rfl,rfl⟩
 | dZ a b=>exact⟨Xb,_,rfl,rfl,rfl,rfl⟩
 | d4 a=>exact⟨Zk,_,rfl,rfl,rfl,rfl⟩
 | au a=>exact⟨z4,_,rfl,rfl,rfl,rfl⟩
 | cnt s j a=>
  have: ∀s∈ [Za,zc,xb,Qi],(s==QI)=k9/\(s==Zx)=k9/\(s==XA)=false:=by decide
  exact⟨s,_,rfl,this s wf.1⟩
def aH:Option Bool->D
 | none=> .au
 | some b=> .bl b
def wS (a b:Bool):Option Bool:=if a then k0 u0 else if b then k0 k9 else y0
def Q9 (r q:Option Bool):Option Bool:=wS (r==k0 u0&&q==k0 u0) (r==k0 k9||q==k0 k9)
def zev (r q:Option Bool):Option Bool:=wS (r==k0 u0||q==k0 u0) (r==k0 k9&&q==k0 k9)
def qp (k) (a b) (h):call prog (k+1) "settled" [.b a,.b b] h= .ok (.v (aH (wS a b))) h:=by
 rw [Gb rfl _ _ _ rfl]
 simp [XZ]
 cases a
 .cases b
  .simp_all []
   rfl
  .simp_all []
   rfl
 .simp_all []
  rfl
def M0 (r) (b):Kr (.v (aH r)) (.b b)=k0 (r==k0 b):=by
 cases r with
 | none=>rfl
 | some c=>cases c<;>cases b<;>rfl
def kj (r) (b) (h):Gq .cX (.v (aH r)) (.b b) h=k0 (r==k0 b):=M0 r b
section
variable {k:Nat}{r q:Option Bool}{h:AH}
def K9:call prog (k+2) "not_told" [.v (aH r)] h= .ok (.v (aH (r.map (!·)))) h:=by
 rw [Gb rfl _ _ _ rfl]
 simp only [XO]
 rw [qa (Ja (d:=aH (wS (r==k0 k9) (r==k0 u0))) (h1:=h) rfl (by simp_all [kj,qp])),Ga _ _ _ rfl]
 cases r with
 | none=>rfl
 | some c=>cases c<;>rfl
def kG (h1:eval F e τ h= .ok (.b a) h) (c:eval F f τ h= .ok (.b b) h):eval F (.or e f) τ h= .ok (.b (a||b)) h:=by
 rw [eval,h1]
 cases a
 .simp [c,Bool.false_or]
 .simp [Am2]
def J5 (h1:eval F e τ h= .ok (.b a) h) (c:eval F f τ h= .ok (.b b) h):eval F (.and e f) τ h= .ok (.b (a&&b)) h:=by
 rw [eval,h1]
 cases a
 .simp [Af]
 .simp [c,Ae5]
def WF (b) (e:Gi τ i=sv (aH r)):eval F (.cmp .cX (.var i) (.bl b)) τ h= .ok (.b (r==k0 b)) h:=by
 simp [e,kj,R.ao]
def WP:call prog (k+2) "and_told" [.v (aH r),.v (aH q)] h= .ok (.v (aH (Q9 r q))) h:=by
 rw [Gb rfl _ _ _ rfl]
 simp only [wP]
 show Gw _ (execs _ _ [sv _,sv _] h)=_
 have e1:=J5 (F:=(k8 (k+1))) (WF (h:=h) (τ:= [sv (aH r),sv (aH q)]) (i:=0) u0 rfl) (WF (i:=1) u0 rfl)
 have e2:=kG (F:=(k8 (k+1))) (WF (h:=h) (τ:= [sv (aH r),sv (aH q)]) (i:=0) k9 rfl) (WF (i:=1) k9 rfl)
 rw [qa (Ja (d:=aH (Q9 r q)) rfl (by
  rw [eval,Gf,e1,R.ae,Gf,e2]
  simp only [R.ae,Gf,Ab2,Af1,W.bX,qp]
  rfl)),Ga _ _ _ rfl]
def AL:call prog (k+2) "or_told" [.v (aH r),.v (aH q)] h= .ok (.v (aH (zev r q))) h:=by
 rw [Gb rfl _ _ _ rfl]
 simp only [X0]
 show Gw _ (execs _ _ [sv _,sv _] h)=_
 have e1:=kG (F:=(k8 (k+1))) (WF (h:=h) (τ:= [sv (aH r),sv (aH q)]) (i:=0) u0 rfl) (WF (i:=1) u0 rfl)
 have e2:=J5 (F:=(k8 (k+1))) (WF (h:=h) (τ:= [sv (aH r),sv (aH q)]) (i:=0) k9 rfl) (WF (i:=1) k9 rfl)
 rw [qa (Ja (d:=aH (zev r q)) rfl (by
  rw [eval,Gf,e1,R.ae,Gf,e2]
  simp only [R.ae,Gf,Ab2,Af1,W.bX,qp]
  rfl)),Ga _ _ _ rfl]
end
def XG {bs:List Bool}(q:eval F e τ h= .ok (.own (bs.map .bl)) h):eval F (.bi .any (.cons e .nil)) τ h= .ok (.b (bs.any id)) h:=by
 rw [eval,Gf,q]
 simp [oU,R.ao]
def nJ (p) (l:List α):(l.map p).any id=l.any p:=by
 rw [Ap2];rfl
def KY (n) (h):Gq .ne (.i n) (.v (.int 0)) h=k0 (!u9 (n=0)):=by
 have this:Gq .eq _ (.v (.int 0)) h=k0 _:=Jm n 0 h
 rw [Nb]at this
 rw [Er]
 split at this
 .rename_i c
  rw [if_pos c]
  have:=Ad6.inj this
  rw [← this]
 .cases this
def nO (n) (h):Gq .eq (.i n) (.v (.int 0)) h=k0 (u9 (n=0)):=Jm n 0 h
def dt (v u b a:Nat):Option Bool:=wS (u9 (u-(u &&& b)=0)) (!u9 (v-(v &&& a)=0))
def WW (k v u v' u') (h):call prog (k+2) "in_told" [.v (a8 v u),.v (a8 v' u')] h= .ok (.v (aH (dt v u v' u'))) h:=by
 rw [Gb rfl _ _ _ rfl]
 simp only [zZ]
 rw [qa (Ja (d:=aH (dt v u v' u')) rfl (by simp_all [aa,Qh,Zf,wB k u v' h,wB k v u' h,nO,KY,qp];rfl)),Ga _ _ _ rfl]
noncomputable def JM (s:Tx) (j:Nat) (l u:List Nat):Option Bool:=if s∈ [Za,xb]then wS (l.all λx=>u9 (j<=x)) (u.any λx=>u9 (x<j))else wS (u.all λx=>u9 (x<=j)) (l.any λx=>u9 (j<x))
def mf (p) (m:l.length<=4) (b:Gi τ i=k0 (.l (aA l))) (a:Gi τ c=si j) (g: ∀x:Nat,Gq o (.i x) (.i j) h=k0 (p x)):
 eval F (.comp [0] u0 1 [c] (.seq (.var i)) k9 (.bl u0) (.cmp o .v0 .v1)) τ h= .ok (.own ((l.map p).map .bl)) h:=by
 have e:Gk F (.seq (.var i)) τ h= .ok (aA l) h:=by
  simp [b,R.ae]
 rw [zm (λd=>match d with | .int x=> .bl (p x.toNat) | d=>d) e (by rw [Gg,aA,Aa];lia)]
 .simp [Function.comp_def]
 .intro k f
  obtain⟨x,_,rfl⟩:=Ab6.mp f
  refine⟨[si x,si j],by simp only [Ab2,a];rfl,.b (p x),?_,by simp⟩
  simp_all [g]
def yM (j x) (h):Gq .le (.i x) (.i j) h=k0 (u9 (x<=j)):=by
 rw [jX];congr 1;exact decide_eq_decide.mpr (by lia)
def tP (j x) (h):Gq .ge (.i x) (.i j) h=k0 (u9 (j<=x)):=by
 rw [A0];congr 1;exact decide_eq_decide.mpr (by lia)
def mV (j x) (h):Gq .lt (.i x) (.i j) h=k0 (u9 (x<j)):=by
 rw [Z1];congr 1;exact decide_eq_decide.mpr (by lia)
def gz (j x) (h):Gq .gt (.i x) (.i j) h=k0 (u9 (j<x)):=by
 rw [Lr];congr 1;exact decide_eq_decide.mpr (by lia)
def ym (n v) (s) (a:n<=4):(jl n v s).length<=4:=by
 rw [jl]
 split
 .simp
 .simp [XE];lia
abbrev mI (n:Nat) (s:Tx) (j v u:Nat) (a x5:Option W):Sl:= [si n,k0 (.s s),si j,sv (a8 v u),a,x5]
def wt (k n) (s) (j v u) (a:n<=4) (h):call prog (k+3) "count_told" [.i n,.s s,.i j,.v (a8 v u)] h= .ok (.v (aH (JM s j (jl n v s) (jl n u s)))) h:=by
 rw [Gb rfl _ _ _ rfl]
 simp only [qG]
 refine fx (by simp_all [aa,Qh,rP k n v s a h];rfl) ?_
 refine fx (by simp_all [aa,Zf,rP k n u s a h];rfl) ?_
 have e:=ym n v s a
 have b:=ym n u s a
 rw [JM]
 by_cases q:s∈ [Za,xb]
 .have e1:=mf (F:=(k8 (k+2))) (τ:=mI n s j v u (k0 (.l _)) (k0 (.l (aA (jl n u s))))) (i:=4) (c:=2) _ e rfl rfl λx=>tP j x h
  have e2:=mf (F:=(k8 (k+2))) (τ:=mI n s j v u (k0 (.l (aA (jl n v s)))) (k0 (.l _))) (i:=5) (c:=2) (h:=h) _ b rfl rfl λx=>mV j x h
  rw [if_pos q,zf (by simp_all [JS,decide_eq_true q]) (Ja (d:=aH (wS ((jl n v s).all λx=>u9 (j<=x)) ((jl n u s).any λx=>u9 (x<j)))) rfl (by
   rw [eval,Gf,zw,Zv e1,R.ae,Gf,Zw,XG e2,oQ,nJ]
   simp only [R.ae,Gf,Ab2,Af1,W.bX,qp])),Ga _ _ _ rfl]
 .have e1:=mf (F:=(k8 (k+2))) (τ:=mI n s j v u (k0 (.l (aA (jl n v s)))) (k0 (.l (aA (jl n u s))))) (i:=5) (c:=2) (o:= .le) (h:=h) _ b rfl rfl λx=>yM j x h
  have e2:=mf (F:=(k8 (k+2))) (τ:=mI n s j v u (k0 (.l (aA (jl n v s)))) (k0 (.l (aA (jl n u s))))) (i:=4) (c:=2) (o:= .gt) (h:=h) _ e rfl rfl λx=>gz j x h
  rw [if_neg q,xa (by simp_all [JS,decide_eq_false q]),qa (Ja (d:=aH (wS ((jl n u s).all λx=>u9 (x<=j)) ((jl n v s).any λx=>u9 (j<x)))) (h1:=h) rfl (by
   rw [eval,Gf,jw,Zv e1,R.ae,Gf,zx,XG e2,oQ,nJ]
   simp only [R.ae,Gf,Ab2,Af1,W.bX,qp])),Ga _ _ _ rfl]
noncomputable abbrev uo (a b:Wo) (d:D) (s:Tx) (v u:Nat) (c:Option W):Sl:= [sv a.words,sv (bY a b),sv d,k0 (.s s),si a.n,sv (a8 v u),c]
section
variable {k m:Nat}{a b:Wo}{h:AH}{v u v' u':Nat}{e e':Ex}
def Zy (c:aP (.str s::ds) (-1)=k0 (aV e)) (f:call prog m "bounds" [.v a.words,.v (bY a b),.v (aV e)] h= .ok (.v (a8 v u)) h)
 (q:execs (k8 m) (match aU.body with | .cons _ (.cons _ (.cons _ r))=>r | r=>r) (uo a b (.tup (.str s::ds)) s v u y0) h= .ret (.v d) h):call prog (m+1) "fact_told" [.v a.words,.v (bY a b),.t (.str s::ds)] h= .ok (.v d) h:=by
 rw [Gb rfl _ _ _ rfl]
 simp only [aU]at q ⊢
 have i0:c9 (.v (bY a b)) (.v (.int 0)) h=k0 a.aT:=rfl
 have i1:c9 (.v a.aT) (.v (.int 0)) h=k0 _:=rfl
 refine fx (by simp_all [aa,jf];rfl) ?_
 refine fx (by simp_all [i1];rfl) ?_
 rw [za (τ1:=uo a b (.tup (.str s::ds)) s v u y0) (h1:=h) (by simp_all [aa,c,f]),q,Ga _ _ _ rfl]
variable (n4:a.n<=4) (e1:call prog (k+3) "bounds" [.v a.words,.v (bY a b),.v (aV e)] h= .ok (.v (a8 v u)) h) (e2:call prog (k+3) "bounds" [.v a.words,.v (bY a b),.v (aV e')] h= .ok (.v (a8 v' u')) h)
include n4 e1
def FV:call prog (k+4) "fact_told" [.v a.words,.v (bY a b),.v (dv (.d4 e))] h= .ok (.v (aH (JM Za 1 (jl a.n v Za) (jl a.n u Za)))) h:=by
 refine Zy (uW _ _) e1 ?_
 have c:=wt k a.n Za 1 v u n4 h
 have c:=c
 simp only [aU]
 rw [zf (xl (s:=Zk) _ rfl) (Ja rfl (by assumption))]
def KW:call prog (k+4) "fact_told" [.v a.words,.v (bY a b),.v (dv (.au e))] h= .ok (.v (aH (JM zc 0 (jl a.n v zc) (jl a.n u zc)))) h:=by
 refine Zy (uW _ _) e1 ?_
 have c:=wt k a.n zc 0 v u n4 h
 have c:=c
 simp only [aU]
 rw [xa (xl (s:=z4) _ rfl),zf (xl (s:=z4) _ rfl) (Ja rfl (by assumption))]
def AO (d:s∈ [Za,zc,xb,Qi]):call prog (k+4) "fact_told" [.v a.words,.v (bY a b),.v (dv (.cnt s j e))] h= .ok (.v (aH (JM s j (jl a.n v s) (jl a.n u s)))) h:=by
 refine Zy (XU _ _ _) e1 ?_
 have c:=wt k a.n s j v u n4 h
 have ne:=by
  have: ∀s∈ [Za,zc,xb,Qi],(s==Zk)=k9/\(s==z4)=k9/\(s==JH)=k9/\(s==Xb)=false:=by decide
  exact this s d
 simp only [aU]
 rw [xa ((xl _ rfl).trans (by rw [ne.1])),xa ((xl _ rfl).trans (by rw [ne.2.1])),xa ((xl _ rfl).trans (by rw [ne.2.2.1])),xa ((xl _ rfl).trans (by rw [ne.2.2.2])),qa (Ja rfl (by assumption))]
include e2
theorem IW:call prog (k+4) "fact_told" [.v a.words,.v (bY a b),.v (dv (.dH e' e))] h= .ok (.v (aH (dt v' u' v u))) h:=by
 refine Zy (XU _ _ _) e1 ?_
 simp only [aU]
 rw [xa (xl (s:=JH) _ rfl),xa (xl (s:=JH) _ rfl),zf (xl (s:=JH) _ rfl) (Ja rfl (by simp_all [aa,qu,e2,WW];rfl))]
theorem Bd:call prog (k+4) "fact_told" [.v a.words,.v (bY a b),.v (dv (.dZ e' e))] h= .ok (.v (aH (Q9 (dt v' u' v u) (dt v u v' u')))) h:=by
 refine Zy (XU _ _ _) e1 ?_
 simp only [aU]
 rw [xa (xl (s:=Xb) _ rfl),xa (xl (s:=Xb) _ rfl),xa (xl (s:=Xb) _ rfl)]
 refine qa ((xr (xl (s:=Xb) _ rfl)).trans ?_)
 refine(za (by simp_all [aa,qu,e2];rfl)).trans ?_
 exact qa (Ja rfl (by simp_all [WW,WP]))
end
def V.leaf :V n (Wf.bF n) (wW Zg)/\V n (2 ^ (n*n)-1) (wW jp)/\V n 0 (wW Xh):=by
 refine⟨⟨Wf.fN _,λa b c d=> ?_⟩,⟨Nat.sub_lt (Ad4 _) (by decide),λa b c d=> ?_⟩,⟨Ad4 _,λa b c d=> ?_⟩⟩
 .rw [Wf.ek c d,decide_eq_true_eq]
  show _↔(k9||(u0&&decide _))=u0
  simp
 .rw [Ag3,decide_eq_true (Wf.place_lt c d)]
  show _↔(u0||(k9&&decide _))=u0
  simp
 .rw [Af9]
  show _↔(k9||(k9&&decide _))=u0
  simp
noncomputable def bh (w:Wo) (t:Tx) (x y:Nat):Bool:=if t∈w.T then(w.ts.getD (c4 t w.T) 0).testBit (x*w.n+y)else u9 (x=y)&&(w.ks.getD (c4 t w.K) 0).testBit x
def yT (w) (t) (x y):bh w t x y=u0↔fm w (.name t) x y:=by
 show _↔w.at t x y
 unfold bh Wo.at
 split
 .exact Iff.rfl
 .rw [Aa1,decide_eq_true_eq]
def bt (a b:Wo):Bool->Ex->Nat->Nat->Bool
 | false,.name t=>bh a t
 | true,.name t=>bh b t
 | _,.same=>wW Zg
 | _,.all=>wW jp
 | _,.none=>wW Xh
 | p,.turned e=>λx y=>bt a b p e y x
 | p,.closed e=>Wf.wr (bt a b p e) a.n
 | p,.plus e f=>λx y=>bt a b p e x y||bt a b p f x y
 | p,.less e f=>λx y=>bt a b p e x y&& !bt a b (!p) f x y
 | p,.both e f=>λx y=>bt a b p e x y&&bt a b p f x y
 | p,.joined e f=>λx y=>(Aa3 a.n).any λc=>bt a b p e x c&&bt a b p f c y
def MR (w): ∀ e p,bt w w p e=bt w w u0 e:=by
 intro e
 induction e with
 | name t=>intro p;cases p<;>rfl
 | turned e b=>intro p;simp [bt,b p]
 | closed e b=>intro p;simp [bt,b p]
 | plus e f b a=>intro p;simp [bt,b p,a p]
 | less e f b a=>intro p;simp [bt,b p,a _]
 | both e f b a=>intro p;simp [bt,b p,a p]
 | joined e f b a=>intro p;simp [bt,b p,a p]
 | _=>intro p;cases p<;>rfl
structure Le (a c:Wo):Prop where
 en:c.n=a.n
 nm: ∀t x y,bh a t x y=u0->bh c t x y=u0
def Le.refl (a):Le a a:=⟨rfl,λ_ _ _ h=>h⟩
theorem lR (h: ∀x y,g x y=u0->g' x y=u0): ∀k x y,Wf.wr g k x y=u0->Wf.wr g' k x y=u0
 | 0,x,y,z=>h x y z
 | k+1,x,y,z=>by
  rw [Wf.wr,Ae8,Aa1]at z ⊢
  exact z.elim (λz=> .inl (lR h k x y z)) λz=> .inr ⟨lR h k _ _ z.1,lR h k _ _ z.2⟩
def uP (h: ∀c,f c=u0->g c=u0) (l:List Nat) (z:l.any f=u0):l.any g=true:=by
 rw [Ad2]at z ⊢
 exact let ⟨c,a,b⟩:=z; ⟨c,a,h c b⟩
def wU (L:Le a a') (h:Le b' b): ∀ e x y,(bt a b k9 e x y=u0->bt a' b' k9 e x y=u0)/\(bt a' b' u0 e x y=u0->bt a b u0 e x y=u0):=by
 intro e
 induction e with
 | name t=>exact λx y=>⟨L.nm t x y,h.nm t x y⟩
 | same=>exact λx y=>⟨id,id⟩
 | all=>exact λx y=>⟨id,id⟩
 | none=>exact λx y=>⟨id,id⟩
 | turned e g=>exact λx y=>g y x
 | closed e g=>
  intro x y
  simp [bt,L.en]
  exact⟨lR (λx y=>(g x y).1) _ x y,lR (λx y=>(g x y).2) _ x y⟩
 | plus e f g d=>
  intro x y
  simp [bt,Ae8]
  exact⟨λz=>z.elim (λz=> .inl ((g x y).1 z)) λz=> .inr ((d x y).1 z),λz=>z.elim (λz=> .inl ((g x y).2 z)) λz=> .inr ((d x y).2 z)⟩
 | less e f g d=>
  intro x y
  simp only [bt,Aa1,Ag6,←Ap7]
  exact⟨λz=>⟨(g x y).1 z.1,λq=>z.2 ((d x y).2 q)⟩,λz=>⟨(g x y).2 z.1,λq=>z.2 ((d x y).1 q)⟩⟩
 | both e f g d=>
  intro x y
  simp only [bt,Aa1]
  exact⟨λz=>⟨(g x y).1 z.1,(d x y).1 z.2⟩,λz=>⟨(g x y).2 z.1,(d x y).2 z.2⟩⟩
 | joined e f g d=>
  intro x y
  simp only [bt,L.en]
  exact⟨uP (λc z=>by rw [Aa1]at z ⊢;exact⟨(g x c).1 z.1,(d c y).1 z.2⟩) _,uP (λc z=>by rw [Aa1]at z ⊢;exact⟨(g x c).2 z.1,(d c y).2 z.2⟩) _⟩
def Sub (v w:Nat):Prop:= ∀k,v.testBit k=u0->w.testBit k=u0
def V.sub (h:V n v g) (q:V n w f) (d: ∀x y,g x y=u0->f x y=u0):Sub v w:=λk z=>by
 by_cases a:k<n*n
 .have b:=h.2 _ _ (Wf.bb a) (Wf.aW a)
  have c:=q.2 _ _ (Wf.bb a) (Wf.aW a)
  rw [Wf.bu]at b c
  exact c.mpr (d _ _ (b.mp z))
 .rw [Ai8 (Ab3 h.1 (Ad0 (by decide) (Nat.not_lt.mp a)))]at z
  cases z
def Sub.and (h:Sub v w):v &&& w=v:=Aj8 λk=>by
 rw [Ah2]
 cases q:v.testBit k with
 | false=>rfl
 | true=>rw [h k q];rfl
def sub_zero :v-(v &&& w)=0↔Sub v w:=by
 refine⟨λh k z=> ?_,λh=>by rw [h.and,Am3]⟩
 have e:=congrArg (·.testBit k) h
 simp [Wf.aR,z,Ae5]at e
 simpa using e
structure B (a b:Wo) (e:Ex) (v u:Nat):Prop where
 lo:V a.n v (bt a b k9 e)
 hi:V a.n u (bt a b u0 e)
section
variable {a b a' b':Wo}{e:Ex}{v u w z:Nat}
def B.mono (h:B a b e v u) (q:B a' b' e w z) (L:Le a a') (c:Le b' b):Sub v w/\Sub z u:=
 ⟨V.sub h.lo (L.en▸q.lo) λx y=>(wU L c e x y).1,V.sub (L.en▸q.hi) h.hi λx y=>(wU L c e x y).2⟩
def B.in (h:B a b e v u) (L:Le a b):Sub v u:=V.sub h.lo h.hi λx y q=>(wU (Le.refl a) L e x y).2 (MR a e k9▸(wU (Le.refl a) L e x y).1 q)
end
def WH (h:a=u0->a'=u0) (q:b=u0->b'=u0) (n:a'=u0->b'=u0->False) (e:wS a b=k0 x):wS a' b'=k0 x:=by
 cases a with
 | true=>rw [h rfl];exact e
 | false=>
  cases b with
  | false=>cases e
  | true=>
   rw [q rfl]
   cases a' with
   | true=>exact(n rfl (q rfl)).elim
   | false=>exact e
def yc (a):wS a (!a)=k0 a:=by cases a<;>rfl
def WR (h:Sub v w/\Sub z u) (q:Sub v' w'/\Sub z' u') (h1:Sub w z) (c:Sub w' z') (e:dt v u v' u'=k0 x):dt w z w' z'=k0 x:=by
 refine WH (λk=> ?_) (λk=> ?_) (λk b=> ?_) e
 .rw [decide_eq_true_eq,sub_zero]at k ⊢
  exact λi a=>q.1 i (k i (h.2 i a))
 .rw [Ag6,decide_eq_false_iff_not,sub_zero]at k ⊢
  exact λl=>k λi a=>q.2 i (l i (h.1 i a))
 .rw [decide_eq_true_eq,sub_zero]at k
  rw [Ag6,decide_eq_false_iff_not,sub_zero]at b
  exact b λi a=>c i (k i (h1 i a))
def dq:List Nat->List Nat->Prop
 | [],[]=>True
 | x::xs,y::ys=>x<=y/\dq xs ys
 | _,_=>False
theorem dq.map (h: ∀x,f x<=g x): ∀l:List Nat,dq (l.map f) (l.map g)
 | []=>trivial
 | x::l=>⟨h x,dq.map h l⟩
theorem dq.sum: ∀ {l m},dq l m->l.sum<=m.sum
 | [],[],_=>Aa7 _
 | x::a,y::b,h=>by
  exact Nat.add_le_add h.1 (dq.sum h.2)
 | [],_::_,h=>h.elim
 | _::_,[],h=>h.elim
theorem dq.all (a: ∀x y,x<=y->p x=u0->q y=u0): ∀ {l m},dq l m->l.all p=u0->m.all q=u0
 | [],[],_,_=>rfl
 | x::b,y::c,h,z=>by
  rw [Al6,Aa1]at z ⊢
  exact⟨a x y h.1 z.1,dq.all a h.2 z.2⟩
 | [],_::_,h,_=>h.elim
 | _::_,[],h,_=>h.elim
theorem dq.dn (a: ∀x y,x<=y->p y=u0->q x=u0): ∀ {l m},dq l m->m.all p=u0->l.all q=u0
 | [],[],_,_=>rfl
 | x::b,y::c,h,z=>by
  rw [Al6,Aa1]at z ⊢
  exact⟨a x y h.1 z.1,dq.dn a h.2 z.2⟩
 | [],_::_,h,_=>h.elim
 | _::_,[],h,_=>h.elim
def u2 (p q) (h: ∀x,p x= !q x) (l:List Nat):l.any p= !l.all q:=by
 induction l with
 | nil=>rfl
 | cons x l a=>rw [Ag9,Al6,a,h x,Bool.not_and]
def rO (j x:Nat):u9 (x<j)= !u9 (j<=x):=by grind
def yo (s) (j) (l u):JM s j l u=if s∈ [Za,xb]then wS (l.all λx=>u9 (j<=x)) (!u.all λx=>u9 (j<=x))else wS (u.all λx=>u9 (x<=j)) (!l.all λx=>u9 (x<=j)):=by
 rw [JM,u2 _ (λx=>decide _) (λx=>rO j x),u2 (λx=>decide _) (λx=>decide _) (λx=>rO x j)]
def Cr (h:dq l l') (q:dq u' u) (n:dq l' u') (e:JM s j l u=k0 x):JM s j l' u'=k0 x:=by
 have up: ∀x y:Nat,x<=y->u9 (j<=x)=u0->u9 (j<=y)=true:=λx y h k=>by
  rw [decide_eq_true_eq]at k ⊢;lia
 have dn: ∀x y:Nat,x<=y->u9 (y<=j)=u0->u9 (x<=j)=true:=λx y h k=>by
  rw [decide_eq_true_eq]at k ⊢;lia
 rw [yo]at e ⊢
 split at e
 .rename_i c
  rw [if_pos c]
  refine WH (λk=>h.all up k) (λk=> ?_) (λk a=> ?_) e
  .rw [Ag6,←Ap7]at k ⊢
   exact λl=>k (q.all up l)
  .rw [n.all up k]at a;cases a
 .rename_i c
  rw [if_neg c]
  refine WH (λk=>q.dn dn k) (λk=> ?_) (λk a=> ?_) e
  .rw [Ag6,←Ap7]at k ⊢
   exact λl=>k (h.dn dn l)
  .rw [n.dn dn k]at a;cases a
def Z7 (s) (h:Sub v w):dq (jl n v s) (jl n w s):=by
 have r:dq (XE n v) (XE n w):=dq.map (λa=>dq.sum (dq.map (λb=>by
  unfold tb
  cases q:v.testBit (a*n+b)with
  | false=>exact Ae6 _
  | true=>rw [h _ q];exact Aa7 _) _)) _
 unfold jl
 split
 .exact⟨r.sum,trivial⟩
 .exact r
def XI (s) (j) (l):JM s j l l=k0 (Aq s j l):=by
 rw [yo,Aq]
 split<;>exact yc _
def ZS (v u):dt v v u u=k0 (u9 (v-(v &&& u)=0)):=yc _
def gw (a b:Wo):Fc->Option Bool->Prop
 | .dH x y,r=> ∃v u v' u',B a b x v u/\B a b y v' u'/\r=dt v u v' u'
 | .dZ x y,r=> ∃v u v' u',B a b x v u/\B a b y v' u'/\r=Q9 (dt v u v' u') (dt v' u' v u)
 | .d4 x,r=> ∃v u,B a b x v u/\r=JM Za 1 (jl a.n v Za) (jl a.n u Za)
 | .au x,r=> ∃v u,B a b x v u/\r=JM zc 0 (jl a.n v zc) (jl a.n u zc)
 | .cnt s j x,r=> ∃v u,B a b x v u/\r=JM s j (jl a.n v s) (jl a.n u s)
def Td (a b:Wo):Sy->Option Bool->Prop
 | .fact f,r=>gw a b f r
 | .neg s,r=> ∃q,Td a b s q/\r=q.map (!·)
 | .bU s t,r=> ∃p q,Td a b s p/\Td a b t q/\r=Q9 p q
 | .bP s t,r=> ∃p q,Td a b s p/\Td a b t q/\r=zev p q
def W3 (h: ∀x,p=k0 x->p'=k0 x) (k: ∀x,q=k0 x->q'=k0 x) (e:Q9 p q=k0 x):Q9 p' q'=k0 x:=by
 rcases p with _ | _ | _<;>rcases q with _ | _ | _<;>cases e<;>(first | rw [h _ rfl] | skip)<;>(first | rw [k _ rfl] | skip)<;>first | rfl | (rcases p' with _ | _ | _<;>rfl) | (rcases q' with _ | _ | _)
def Ee (h: ∀x,p=k0 x->p'=k0 x) (k: ∀x,q=k0 x->q'=k0 x) (e:zev p q=k0 x):zev p' q'=k0 x:=by
 rcases p with _ | _ | _<;>rcases q with _ | _ | _<;>cases e<;>(first | rw [h _ rfl] | skip)<;>(first | rw [k _ rfl] | skip)<;>first | rfl | (rcases p' with _ | _ | _<;>rfl) | (rcases q' with _ | _ | _)
theorem gw.mono (L:Le a a') (g:Le b' b) (k:Le a' b')(h:gw a b f r) (q:gw a' b' f r') (e:r=k0 x):r'=k0 x:=by
 have cnt: ∀ {y}{v u l n}{s}{j},B a b y v u->B a' b' y l n->JM s j _ _=k0 x->JM s j (jl a'.n l s) (jl a'.n n s)=k0 x:=λd c e=>by
  have m:=d.mono c L g
  rw [L.en]
  exact Cr (Z7 _ m.1) (Z7 _ m.2) (Z7 _ (c.in k)) e
 cases f with
 | dH y z=>
  obtain⟨v,u,l,n,d,o,rfl⟩:=h
  obtain⟨w,t,p,A,c,i,rfl⟩:=q
  exact WR (d.mono c L g) (o.mono i L g) (c.in k) (i.in k) e
 | dZ y z=>
  obtain⟨v,u,l,n,d,o,rfl⟩:=h
  obtain⟨w,t,p,A,c,i,rfl⟩:=q
  exact W3 (λx=>WR (d.mono c L g) (o.mono i L g) (c.in k) (i.in k)) (λx=>WR (o.mono i L g) (d.mono c L g) (i.in k) (c.in k)) e
 | d4 y=>
  obtain⟨v,u,d,rfl⟩:=h
  obtain⟨w,t,c,rfl⟩:=q
  exact cnt d c e
 | au y=>
  obtain⟨v,u,d,rfl⟩:=h
  obtain⟨w,t,c,rfl⟩:=q
  exact cnt d c e
 | cnt s j y=>
  obtain⟨v,u,d,rfl⟩:=h
  obtain⟨w,t,c,rfl⟩:=q
  exact cnt d c e
theorem Td.mono (L:Le a a') (d:Le b' b) (g:Le a' b'): ∀ s r r' x,Td a b s r->Td a' b' s r'->r=k0 x->r'=k0 x
 | .fact f,r,r',x,h,q,e=>gw.mono L d g h q e
 | .neg s,r,r',x,⟨p,h,i⟩,⟨w,q,c⟩,e=>by
  rw [c] ;rw [i]at e
  cases p with
  | none=>cases e
  | some y=>rw [Td.mono L d g s _ _ y h q rfl];exact e
 | .bU s t,r,r',x,⟨v,u,k,m,i⟩,⟨n,o,l,j,c⟩,e=>by
  rw [c];rw [i]at e
  exact W3 (λy z=>Td.mono L d g s _ _ y k l z) (λy z=>Td.mono L d g t _ _ y m j z) e
 | .bP s t,r,r',x,⟨v,u,k,m,i⟩,⟨n,o,l,j,c⟩,e=>by
  rw [c];rw [i]at e
  exact Ee (λy z=>Td.mono L d g s _ _ y k l z) (λy z=>Td.mono L d g t _ _ y m j z) e
def Jp (P:Pt a b) (h): ∀ e m,e.dp+7<=m->e.wf (a.K++a.T)-> ∃v u,B a b e v u/\call prog m "bounds" [.v a.words,.v (bY a b),.v (aV e)] h= .ok (.v (a8 v u)) h:=by
 have n4:=P.n9.wl.n4
 have ew:=P.ew
 have leaf: ∀ e s k v,aV e= .tup [.str s]->(s==wh)=k9->(s==qr)=k9->V a.n v (bt a b k9 e)->V a.n v (bt a b u0 e)->(∀ l,call prog (k+5) "made" [.i a.n,.s s,.l l] h= .ok (.i v) h)-> ∃v u,B a b e v u/\call prog (k+6) "bounds" [.v a.words,.v (bY a b),.v (aV e)] h= .ok (.v (a8 v u)) h:=by
  intro e s k v K F O z A f
  rw [K]
  exact⟨v,v,⟨z,A⟩,JC (ps:= []) F O (by simp) (A8 iY) (f _) (f _)⟩
 intro e
 induction e with
 | name t=>
  intro m f wf
  obtain⟨k,rfl⟩: ∃k,m=k+6:=⟨m-6,by simp [Ex.dp]at f;lia⟩
  have G:t∈b.K++b.T:=by rw [P.eK,P.eT];exact wf
  obtain⟨v,z,e1⟩:=xu (k+1) P.n9 t wf h
  obtain⟨u,A,e2⟩:=xu (k+1) P.Ii t G h
  have M:V a.n v _:=⟨z.1,λx y C D=>(z.2 x y C D).trans (yT a t x y).symm⟩
  have J:V b.n u _:=⟨A.1,λx y C D=>(A.2 x y C D).trans (yT b t x y).symm⟩
  rw [P.en]at J
  rw [ew]at e2
  refine⟨v,u,⟨M,J⟩,?_⟩
  rw [Gb (d:=bD) rfl _ _ _ rfl]
  simp only [bD,aV]
  have i0:c9 (.v (bY a b)) (.v (.int 0)) h=k0 a.aT:=rfl
  have i1:c9 (.v (bY a b)) (.v (.int 1)) h=k0 b.aT:=rfl
  refine fx (by simp_all [aa,jf];rfl) ?_
  rw [qa (w:= .v (a8 v u)) (h1:=h) ((xr (h1:=h) (xl (s:=wh) _ rfl)).trans ?_),Ga _ _ _ rfl]
  refine(za (by simp_all [aa,Zf];rfl)).trans ?_
  exact qa (Ja rfl (by simp_all [i0,i1,e1,e2]))
 | same=>
  intro m f wf
  obtain⟨k,rfl⟩: ∃k,m=k+6:=⟨m-6,by simp [Ex.dp]at f;lia⟩
  exact leaf .same Zg k _ rfl rfl rfl V.leaf.1 V.leaf.1 λl=>Hr k a.n l h n4
 | all=>
  intro m f wf
  obtain⟨k,rfl⟩: ∃k,m=k+6:=⟨m-6,by simp [Ex.dp]at f;lia⟩
  exact leaf .all jp k _ rfl rfl rfl V.leaf.2.1 V.leaf.2.1 λl=>Ih k a.n l h n4
 | none=>
  intro m f wf
  obtain⟨k,rfl⟩: ∃k,m=k+6:=⟨m-6,by simp [Ex.dp]at f;lia⟩
  exact leaf .none Xh k _ rfl rfl rfl V.leaf.2.2 V.leaf.2.2 λl=>Ci k a.n l h
 | turned c E=>
  intro m f wf
  simp only [Ex.dp]at f
  obtain⟨k,rfl⟩:=nk m 6 (by lia)
  obtain⟨v,u,q,e1⟩:=E (k+5) (by lia) wf
  exact⟨_,_,⟨q.lo.turned,q.hi.turned⟩,JC (ps:= [(v,u)]) rfl rfl (by simp) (uj iY (qx e1)) (ZM k a.n v h n4) (ZM k a.n u h n4)⟩
 | closed c E=>
  intro m f wf
  simp only [Ex.dp]at f
  obtain⟨k,rfl⟩:=nk m 6 (by lia)
  obtain⟨v,u,q,e1⟩:=E (k+5) (by lia) wf
  obtain⟨r,L,N⟩:=xK k a.n v h n4 q.lo.1
  obtain⟨Q,H,I⟩:=xK k a.n u h n4 q.hi.1
  exact⟨_,_,⟨q.lo.closed L,q.hi.closed H⟩,JC (ps:= [(v,u)]) rfl rfl (by simp) (uj iY (qx e1)) N I⟩
 | plus c d g i=>
  intro m f wf
  simp only [Ex.dp]at f
  obtain⟨k,rfl⟩:=nk m 6 (by lia)
  obtain⟨v,u,q,e1⟩:=g (k+5) (by lia) wf.1
  obtain⟨o,p,n,j⟩:=i (k+5) (by lia) wf.2
  exact⟨_,_,⟨q.lo.plus n.lo,q.hi.plus n.hi⟩,JC (ps:= [(v,u),(o,p)]) rfl rfl (by simp) (Z5 iY (qx e1) (qx j)) (X4 k a.n v o h) (X4 k a.n u p h)⟩
 | less c d g i=>
  intro m f wf
  simp only [Ex.dp]at f
  obtain⟨k,rfl⟩:=nk m 6 (by lia)
  obtain⟨v,u,q,e1⟩:=g (k+5) (by lia) wf.1
  obtain⟨o,p,n,j⟩:=i (k+5) (by lia) wf.2
  exact⟨_,_,⟨q.lo.less n.hi,q.hi.less n.lo⟩,Fw (Z5 iY (qx e1) (qx j))⟩
 | both c d g i=>
  intro m f wf
  simp only [Ex.dp]at f
  obtain⟨k,rfl⟩:=nk m 6 (by lia)
  obtain⟨v,u,q,e1⟩:=g (k+5) (by lia) wf.1
  obtain⟨o,p,n,j⟩:=i (k+5) (by lia) wf.2
  exact⟨_,_,⟨q.lo.both n.lo,q.hi.both n.hi⟩,JC (ps:= [(v,u),(o,p)]) rfl rfl (by simp) (Z5 iY (qx e1) (qx j)) (wX k a.n v o h) (wX k a.n u p h)⟩
 | joined c d g i=>
  intro m f wf
  simp only [Ex.dp]at f
  obtain⟨k,rfl⟩:=nk m 6 (by lia)
  obtain⟨v,u,q,e1⟩:=g (k+5) (by lia) wf.1
  obtain⟨o,p,n,j⟩:=i (k+5) (by lia) wf.2
  exact⟨_,_,⟨q.lo.joined n.lo,q.hi.joined n.hi⟩,JC (ps:= [(v,u),(o,p)]) rfl rfl (by simp) (Z5 iY (qx e1) (qx j)) (qJ k a.n v o h n4) (qJ k a.n u p h n4)⟩
def w9 (P:Pt a b) (h) (f) (m) (c:f.dp+7<=m) (wf:f.wf (a.K++a.T)): ∃r,gw a b f r/\call prog (m+1) "fact_told" [.v a.words,.v (bY a b),.v (dv f)] h= .ok (.v (aH r)) h:=by
 have n4:=P.n9.wl.n4
 obtain⟨k,rfl⟩:=nk m 3 (by lia)
 cases f with
 | dH x y=>
  simp [Fc.dp]at c
  obtain⟨i,l,d,g⟩:=Jp P h x (k+3) (by lia) wf.1
  obtain⟨v,u,q,e⟩:=Jp P h y (k+3) (by lia) wf.2
  exact⟨_,⟨i,l,v,u,d,q,rfl⟩,IW n4 e g⟩
 | dZ x y=>
  simp [Fc.dp]at c
  obtain⟨i,l,d,g⟩:=Jp P h x (k+3) (by lia) wf.1
  obtain⟨v,u,q,e⟩:=Jp P h y (k+3) (by lia) wf.2
  exact⟨_,⟨i,l,v,u,d,q,rfl⟩,Bd n4 e g⟩
 | d4 x=>
  obtain⟨v,u,q,e⟩:=Jp P h x _ c wf
  exact⟨_,⟨v,u,q,rfl⟩,FV n4 e⟩
 | au x=>
  obtain⟨v,u,q,e⟩:=Jp P h x _ c wf
  exact⟨_,⟨v,u,q,rfl⟩,KW n4 e⟩
 | cnt s j x=>
  obtain⟨v,u,q,e⟩:=Jp P h x _ c wf.2
  exact⟨_,⟨v,u,q,rfl⟩,AO n4 e wf.1⟩
abbrev sF (a b:Wo) (d:D) (s:Tx):Sl:= [sv a.words,sv (bY a b),sv d,k0 (.s s)]
section
variable {m k:Nat}{a b:Wo}{h:AH}{x y:D}{r q:Option Bool}
def wH (z:execs (k8 m) (match cz.body with | .cons _ r=>r | r=>r) (sF a b (.tup (.str s::ds)) s) h= .ret (.v d) h):call prog (m+1) "told" [.v a.words,.v (bY a b),.t (.str s::ds)] h= .ok (.v d) h:=by
 rw [Gb rfl _ _ _ rfl]
 simp only [cz]at z ⊢
 rw [za (τ1:=sF a b (.tup (.str s::ds)) s) (h1:=h) (by simp_all [aa,jf]),z,Ga _ _ _ rfl]
def IV (c:call prog (k+2) "told" [.v a.words,.v (bY a b),.v x] h= .ok (.v (aH r)) h):call prog (k+3) "told" [.v a.words,.v (bY a b),.t [.str QI,x]] h= .ok (.v (aH (r.map (!·)))) h:=by
 refine wH ?_
 simp only [cz]
 rw [zf (xl (s:=QI) _ rfl) (Ja rfl (by simp_all [aa,qu,c,K9];rfl))]
def AX (d:call prog (k+2) "told" [.v a.words,.v (bY a b),.v x] h= .ok (.v (aH r)) h) (c:call prog (k+2) "told" [.v a.words,.v (bY a b),.v y] h= .ok (.v (aH q)) h):call prog (k+3) "told" [.v a.words,.v (bY a b),.t [.str Zx,x,y]] h= .ok (.v (aH (Q9 r q))) h:=by
 refine wH ?_
 simp only [cz]
 rw [xa (xl (s:=Zx) _ rfl),zf (xl (s:=Zx) _ rfl) (Ja rfl (by simp_all [aa,qu,xF,d,c,WP];rfl))]
def By (d:call prog (k+2) "told" [.v a.words,.v (bY a b),.v x] h= .ok (.v (aH r)) h) (c:call prog (k+2) "told" [.v a.words,.v (bY a b),.v y] h= .ok (.v (aH q)) h):call prog (k+3) "told" [.v a.words,.v (bY a b),.t [.str XA,x,y]] h= .ok (.v (aH (zev r q))) h:=by
 refine wH ?_
 simp only [cz]
 rw [xa (xl (s:=XA) _ rfl),xa (xl (s:=XA) _ rfl),zf (xl (s:=XA) _ rfl) (Ja rfl (by simp_all [aa,qu,xF,d,c,AL];rfl))]
def C0 (wf:f.wf N) (e:call prog m "fact_told" [.v a.words,.v (bY a b),.v (dv f)] h= .ok (.v (aH r)) h):call prog (m+1) "told" [.v a.words,.v (bY a b),.v (dv f)] h= .ok (.v (aH r)) h:=by
 obtain⟨s,j,c,g,i,d⟩:=BM f wf
 rw [c]at e ⊢
 refine wH ?_
 simp only [cz]
 rw [xa ((xl _ rfl).trans (by rw [g])),xa ((xl _ rfl).trans (by rw [i])),xa ((xl _ rfl).trans (by rw [d])),qa (Ja rfl (by assumption))]
end
def BZ (P:Pt a b) (h): ∀ s m,s.dp+9<=m->s.wf (a.K++a.T)-> ∃r,Td a b s r/\call prog m "told" [.v a.words,.v (bY a b),.v (az s)] h= .ok (.v (aH r)) h:=by
 intro s
 induction s with
 | fact f=>
  intro m g wf
  simp [Sy.dp]at g
  obtain⟨k,rfl⟩:=nk m 2 (by lia)
  obtain⟨r,t,e⟩:=w9 P h f k (by lia) wf
  exact⟨r,t,C0 wf e⟩
 | neg x l=>
  intro m g wf
  simp [Sy.dp]at g
  obtain⟨k,rfl⟩:=nk m 3 (by lia)
  obtain⟨r,t,e⟩:=l (k+2) (by lia) wf
  exact⟨_,⟨r,t,rfl⟩,IV e⟩
 | bU x y d c=>
  intro m g wf
  simp [Sy.dp]at g
  obtain⟨k,rfl⟩:=nk m 3 (by lia)
  obtain⟨r,t,e⟩:=d (k+2) (by lia) wf.1
  obtain⟨q,j,i⟩:=c (k+2) (by lia) wf.2
  exact⟨_,⟨r,q,t,j,rfl⟩,AX e i⟩
 | bP x y d c=>
  intro m g wf
  simp [Sy.dp]at g
  obtain⟨k,rfl⟩:=nk m 3 (by lia)
  obtain⟨r,t,e⟩:=d (k+2) (by lia) wf.1
  obtain⟨q,j,i⟩:=c (k+2) (by lia) wf.2
  exact⟨_,⟨r,q,t,j,rfl⟩,By e i⟩
mutual
theorem rJ: ∀ {d:D},Gd d=u0->cy d d=u0
 | .au,_=>rfl
 | .bl b,_=>by simp
 | .int i,_=>by simp
 | .str s,_=>by simp
 | .tup xs,h=>by
  rw [cy];exact GJ (by simpa [Gd]using h)
 | .lst xs,h=>by
  rw [cy];exact GJ (by simpa [Gd]using h)
 | .ref _,h=>by simp at h
theorem GJ: ∀ {xs:List D},Gc xs=u0->GL xs xs=u0
 | [],_=>rfl
 | x::xs,h=>by
  have h':Gd x=u0/\Gc xs=true:=by simpa [Gc]using h
  rw [GL,rJ h'.1,GJ h'.2];rfl
end
mutual
theorem W4 {h:AH}: ∀ {d:D},Gd d=u0->res h d=d
 | .au,_=>rfl
 | .bl b,_=>rfl
 | .int i,_=>rfl
 | .str s,_=>rfl
 | .tup xs,q=>by
  rw [res,GM (by simpa [Gd]using q)]
 | .lst xs,q=>by
  rw [res,GM (by simpa [Gd]using q)]
 | .ref _,q=>by simp at q
theorem GM {h:AH}: ∀ {xs:List D},Gc xs=u0->GT h xs=xs
 | [],_=>rfl
 | x::xs,q=>by
  have h':Gd x=u0/\Gc xs=true:=by simpa [Gc]using q
  rw [GT,W4 h'.1,GM h'.2]
end
theorem ql (f) (a: ∀x,Gd (f x)=u0): ∀l:List α,Gc (l.map f)=u0
 | []=>rfl
 | x::l=>by simp [a x,ql f a l]
theorem Zz (f) (k) (a: ∀x,dep (f x)<=k): ∀l:List α,GG (l.map f)<=k
 | []=>Ae6 _
 | x::l=>by
  have b:=a x
  have c:=Zz f k a l
  exact Nat.max_le.mpr ⟨b,c⟩
def xS (d) (a:Gd d=u0) (b:dep d<150) (h):Gq .ne (.v d) (.v d) h=k0 false:=by
 show(if G6 (res h d) (res h d)then k0 (!cy (res h d) (res h d))else y0)=_
 rw [W4 a,if_pos (by simp_all),rJ a];rfl
def Z2 (g f) (l:List α) (b:Gk F it τ h= .ok (l.map g) h) (k:l.length<=1000) (e: ∀x∈l,∃w,eval F elt (sv (g x)::aB.map λj=>Gi τ j) h= .ok w h/\w.d=k0 (f x)):eval F (.comp [0] u0 1 aB it k9 (.bl u0) elt) τ h= .ok (.own (l.map f)) h:=by
 rw [eval,b,R.ae,if_pos (by rw [Gg,Aa];lia)]
 have i: ∀ step (l:List α),(∀ x∈l,step (g x) h= .ok (k0 (f x)) h)->Gy step (l.map g) h= .ok (l.map f) h:=λstep l=>by
  induction l with
  | nil=>intro _;rfl
  | cons x l c=>
   intro a
   rw [Ab2,Gy,a x Aa5]
   simp [c λy d=>a y (Aa2 _ d),Ab2]
 rw [i _ l λx a=> ?_]
 .rfl
 .obtain⟨w,e1,e2⟩:=e x a
  show(eval F elt (sv _::aB.map λj=>Gi τ j) h).bind _=_
  rw [e1]
  simp [e2,R.ao]
def Qr:D->Bool
 | .int _=>u0
 | _=>k9
def Ws (d:D) (e:Int):Bool:=match d with
 | .int i=>u9 (0<=i)&&u9 (i<e)
 | _=>k9
def qD (k) (d) (h) (a:Gd d=u0):call prog (k+1) "is_whole" [.v d] h= .ok (.b (Qr d)) h:=by
 cases d<;>first | exact Ga _ _ _ rfl | cases a
def wE (k) (d) (e) (h) (a:Gd d=u0):call prog (k+2) "is_below" [.v d,.v (.int e)] h= .ok (.b (Ws d e)) h:=by
 rw [Gb rfl _ _ _ rfl]
 have b:=qD k d h a
 cases d with
 | int i=>
  simp [b,jC,Qr,Ws,Gi]
  by_cases c:0<=i<;>simp [c]
 | _=>first | (simp [b,jC,Qr,Ws,Gi]) | (simp at a)
def l3 (l):Gc (aA l)=true:=ql _ (λ_=>rfl) l
def AW (l):GG (aA l)<=0:=Zz _ 0 (λ_=>Aa7 _) l
def Fy (k) (d) (h) (a:Gd d=u0):call prog (k+3) "is_size" [.v d] h= .ok (.b (Ws d 5)) h:=by
 rw [Gb rfl _ _ _ rfl]
 have c:=wE k d 5 h a
 have b:prog.con.lookup "GREATEST_SIZE" =some _:=rfl
 have e:(4:Int)+1=5:=rfl
 simp only [xY]
 simp_all [b,Jc,e,c]
def ug (k) (d) (h) (b:Gd d=u0) (c:Ws d 5=u0):call prog (k+4) "check_size" [.v d] h= .ok (.v .au) h:=by
 rw [Gb rfl _ _ _ rfl]
 have a:=Fy k d h b
 rw [c]at a
 simp only [xG]
 rw [xa (by simp_all [a])]
 simp_all []
def cd:List (Nat×Nat)->Nat
 | []=>0
 | q::r=>q.2+2 ^ q.1*cd r
def dg:List Nat->Nat->List Nat
 | [],_=> []
 | w::a,c=>c % 2 ^ w::dg a (c / 2 ^ w)
def cU (n K T:Nat):List Nat:=Ab K n++Ab T (n*n)
structure Wl (n:Nat) (ks ts:List Nat):Prop where
 n4:n<=4
 k4:ks.length<=4
 t4:ts.length<=4
 bk: ∀x∈ks,x<2 ^ n
 bt: ∀x∈ts,x<2 ^ (n*n)
def mR (n K T):(cU n K T).length=K+T:=by simp [cU]
abbrev mL (A B:List D):D:= .tup [.tup A,.tup B]
def LU (n K T):aA (cU n K T)=Ab K (.n n)++Ab T (.n (n*n)):=by simp [cU]
theorem zC (x): ∀m,(Ab m x).sum=m*x
 | 0=>by simp
 | m+1=>by rw [Af3,Am9,zC x m,Nat.succ_mul,Ap4]
def ou (n K T):(cU n K T).sum=K*n+T*(n*n):=by rw [cU,List.sum_append,zC,zC]
theorem td (h): ∀ ws c i x5,(∀ w∈ws,w<=16)->i.length+ws.length<=1000-> ∃L j,
 Gp (Gr [5] u0) (λτ h=>execs F Xt τ h) (aA ws) [x0,x1,x2,k0 (.own (aA i)),si c,x5,x6] h= .next [x0,x1,x2,k0 (.own (aA (i++dg ws c))),L,j,x6] h
 | [],c,i,x5,_,_=>⟨si c,x5,by simp [dg]⟩
 | w::ws,c,i,x5,b,d=>by
  rw [Aa8]at d
  have l:=b w Aa5
  obtain⟨L,j,e⟩:=td h ws (c / 2 ^ w) (i++ [c % 2 ^ w]) (si w) (λx g=>b x (Aa2 _ g)) (by simp;lia)
  refine⟨L,j,?_⟩
  have k:=J9 w (by lia)
  have p:0<2 ^ w:=Nat.pow_pos (by decide)
  have m:((2 ^ w:Nat))-1=((2 ^ w-1:Nat):Int):=by lia
  have a:=wd c (2 ^ w-1)
  rw [Af4]at a
  have o:=Qp c w
  have n:(aA i).length<bf:=by rw [Gg,Aa];lia
  have f:aA (i++ [c % 2 ^ w])=aA i++ [.n (c % 2 ^ w)]:=by simp
  rw [show aA (w::ws)= .n w::aA ws from rfl,zb rfl ?_,e,Ae]
  .rfl
  .rw [f]
   simp_all [Xt,k,zd,m,jc,a,n,if_true,o]
def vU (x) (m) (a:m<=1000) (h):GU .mul (.own [x]) (.i m) h= .ok (.own (Ab m x)) h:=by
 show Kw [x] m h=_
 have c: -1000<=(m:Int)/\(m:Int)<=1000/\ [x].length*(m:Int).toNat<=bf:=by rw [Gg,Ad5];simp;lia
 rw [Kw,if_pos c,Ad5,show(Ab m [x]).flatten=Ab m x by simp]
def pZ (k n) (A B) (h) (g:n<=4) (e:A.length<=4) (f:B.length<=4):call prog (k+1) "widths" [.v (mL A B),.i n] h= .ok (.own (aA (cU n A.length B.length))) h:=by
 rw [Gb rfl _ _ _ rfl]
 have d:=je n n (by lia)
 have c:=vU (.n n) A.length (by lia) h
 have a:=vU (.n (n*n)) B.length (by lia) h
 have b:(Ab A.length (D.n n)).length+(Ab B.length (D.n (n*n))).length<=bf:=by rw [Gg];simp;lia
 rw [LU]
 simp only [tM]
 simp_all [aa,Qh,Zf,Wc,c,d,a,Ct,b,if_true]
def vP (k n) (A B) (h) (e:n<=4) (a:A.length<=4) (d:B.length<=4):call prog (k+2) "bits" [.v (mL A B),.i n] h= .ok (.i ((cU n A.length B.length).sum)) h:=by
 rw [Gb rfl _ _ _ rfl]
 have c:=pZ k n A B h e a d
 have b:(aA (cU n A.length B.length)).length<=bf:=by rw [Gg,Aa,mR];lia
 simp only [rD]
 simp_all [c,tQ,b,if_true,WS]
theorem vq (n): ∀m,Aa3 (m*n)=(Aa3 m).flatMap λa=>(Aa3 n).map (a*n+ ·)
 | 0=>by simp
 | m+1=>by rw [WC,vq n m,An3,List.flatMap_append];simp
def C1 (n t):Wf.aw n t=(Aa3 n).flatMap λa=>((Aa3 n).filter λb=>t.testBit (a*n+b)).map λb=>(a,b):=by
 unfold Wf.aw
 rw [vq n n,List.filter_flatMap,List.map_flatMap]
 rw [List.flatMap_def,List.flatMap_def]
 congr 1
 refine Ai1 λa d=> ?_
 rw [An5,Ad1]
 refine Ai1 λb c=> ?_
 have c:=Ab4.mp (Ai9.mp c).1
 show(_ / n,_ % n)=_
 rw [Wf.aE c,Wf.aI c]
def JX (n t) (f) (z:α):(Wf.aw n t).foldl f z=(Aa3 n).foldl (λz a=>(Aa3 n).foldl (λz b=>if t.testBit (a*n+b)then f z (a,b)else z) z) z:=by
 rw [C1,List.foldl_flatMap]
 congr 1
 funext z a
 rw [List.foldl_map,List.foldl_filter]
def kP (e:Gi τ i=si n) (a:n<=1000000):Gs F (.aj (.var i)) τ h= .ok ((Aa3 n).map λi=> .n i) h:=xj (by rw [eval,e]) a
def sM {st:Nat->Option W->Option W->Option W->Sl}{f:Nat->Nat->Nat->Nat}(w:n<=1000)
 (m:b2= .a (.for [j] u0 (.aj .v0) b1)) (u: ∀t x y z,Gi (st t x y z) 0=si n)
 (q: ∀d t x y z,GB (st t x y z) i (.v d)=st t (sv d) y z) (A: ∀d t x y z,GB (st t x y z) j (.v d)=st t x (sv d) z)
 (s: ∀a b t z,a<n->b<n-> ∃L,execs F b1 (st t (si a) (si b) z) h= .next (st (f a b t) (si a) (si b) L) h):
 ∀(l:List Nat) t x y z,(∀ a∈l,a<n)-> ∃V M L,Gp (Gr [i] u0) (λτ h=>execs F b2 τ h) (l.map λa=>D.n a) (st t x y z) h= .next (st (l.foldl (λt a=>(Aa3 n).foldl (λt b=>f a b t) t) t) V M L) h:=by
 have dH: ∀ a,a<n-> ∀(l:List Nat) t y z,(∀ b∈l,b<n)-> ∃M L,Gp (Gr [j] u0) (λτ h=>execs F b1 τ h) (l.map λb=>D.n b) (st t (si a) y z) h= .next (st (l.foldl (λt b=>f a b t) t) (si a) M L) h:=by
  intro a r l
  induction l with
  | nil=>exact λt y z _=>⟨y,z,rfl⟩
  | cons b l o=>
   intro t y z g
   obtain⟨k,e1⟩:=s a b t z r (g b Aa5)
   obtain⟨M,L,e⟩:=o _ _ k λc p=>g c (Aa2 _ p)
   refine⟨M,L,?_⟩
   rw [Ab2,zb (by simp_all) e1,e]
   rfl
 intro l
 induction l with
 | nil=>exact λt x y z _=>⟨x,y,z,rfl⟩
 | cons a l o=>
  intro t x y z g
  obtain⟨v,k,e1⟩:=dH a (g a Aa5) _ t y z λb m=>Ab4.mp m
  obtain⟨V,M,L,e⟩:=o _ _ v k λc p=>g c (Aa2 _ p)
  refine⟨V,M,L,?_⟩
  rw [Ab2,zb (by rw [GC,q]) (by
   rw [m,execs,exec]
   rw [kP (u _ _ _ _) (by lia),R.ar,e1,O.bx,execs]),e]
  rfl
def nA (o c):Gj .band ((o / 2 ^ c:Nat):Int) 1=k0 ((((o.testBit c).toNat:Nat)):Int):=by
 rw [jc,show 1=((1:Nat):Int)from rfl,wd,ZR]
def uF (x) (h):Gq .eq (.i (x.toNat)) (.v (.int 1)) h=k0 x:=by
 cases x<;>rfl
abbrev kQ (n o p t:Nat) (x y z:Option W):Sl:= [si n,si o,si p,si t,x,y,z]
def Q1 (k n o p) (h) (l:n<=20):call prog (k+1) "_law_joined" [.i n,.i o,.i p] h= .ok (.i (Wf.joinM n o p)) h:=by
 rw [Gb rfl _ _ _ rfl]
 have step: ∀a b t z,a<n->b<n-> ∃c,execs (k8 k) Wi (kQ n o p t (si a) (si b) z) h= .next (kQ n o p (if o.testBit (a*n+b)then t ||| Wf.cg n p b*2 ^ (a*n)else t) (si a) (si b) c) h:=by
  intro a b t z f B
  have m:Gj .mul (a:Int) (n:Int)=k0 _:=je a n (by lia)
  have d:Gj .mul (b:Int) (n:Int)=k0 _:=je b n (by lia)
  have v:(p / 2 ^ (b*n) &&& (2 ^ n-1))=Wf.cg n p b:=by rw [Af4];rfl
  have r:a*n<=400:=Ab5 (Af5 (Ag1 f) (Aa7 n)) (zj l)
  have y:=jU _ (a*n) (Ab3 (Wf.c5 n p b) (Ab5 (Ad0 (by decide) l) (by decide))) (by lia)
  have A:=J9 n (by lia)
  have g:((2 ^ n:Nat):Int)-1=((2 ^ n-1:Nat):Int):=by
   have:=Ad4 n
   lia
  have j:Gm (k8 k) (.cmp .eq (.bin .band (.bin .shr .v1 (.bin .add (.bin .mul .v4 .v0) .v5)) (.int 1)) (.int 1)) (kQ n o p t (si a) (si b) z) h= .ok (o.testBit (a*n+b)) h:=by
   have s:(((a*n:Nat):Int)+(b:Int))=((a*n+b:Nat):Int):=rfl
   simp_all [m,Jc,s,Qp,nA,uF]
  cases q:o.testBit (a*n+b)with
  | false=>
   refine⟨z,?_⟩
   unfold Wi
   rw [xa (by rw [j,q]),execs]
   rfl
  | true=>
   refine⟨si (Wf.cg n p b),?_⟩
   unfold Wi
   rw [execs,xr (by rw [j,q])]
   simp_all [m,d,Qp,A,zd,g,jc,wd,v,y,Jo,xn,if_true]
 obtain⟨u,x,c,e⟩:=sM (i:=4) (b2:=Xw) (by lia) rfl (λ_ _ _ _=>rfl) (λ_ _ _ _ _=>rfl) (λ_ _ _ _ _=>rfl) step _ 0 y0 y0 y0 λa f=>Ab4.mp f
 simp only [XF]
 rw [za (τ1:=kQ n o p 0 y0 y0 y0) rfl]
 rw [za (τ1:=kQ n o p (Wf.joinM n o p) u x c) (h1:=h) (by
  rw [exec,kP (n:=n) rfl (by lia),R.ar,e]
  rw [Wf.joinM,JX])]
 rw [qa (w:= .i (Wf.joinM n o p)) (h1:=h) rfl,Ga _ _ _ rfl]
abbrev kl (n o t:Nat) (x y:Option W):Sl:= [si n,si o,si t,x,y]
def uR (k n o) (h) (A:n<=20):call prog (k+1) "_law_turned" [.i n,.i o] h= .ok (.i (Wf.bG n o)) h:=by
 rw [Gb (d:=Jr) rfl _ _ _ rfl]
 have step: ∀a b t (z:Option W),a<n->b<n-> ∃s:Option W,execs (k8 k) jo (kl n o t (si a) (si b)) h= .next (kl n o (if o.testBit (a*n+b)then t ||| 2 ^ (b*n+a)else t) (si a) (si b)) h:=by
  intro a b t z f u
  refine⟨y0,?_⟩
  have B:Gj .mul (a:Int) (n:Int)=k0 _:=je a n (by lia)
  have c:Gj .mul (b:Int) (n:Int)=k0 _:=je b n (by lia)
  have l:b*n+a<=400:=Ab5 (Ag1 (Wf.place_lt u f)) (zj A)
  have C:=J9 (b*n+a) (by lia)
  have p:(((b*n:Nat):Int)+(a:Int))=((b*n+a:Nat):Int):=rfl
  have g:Gm (k8 k) (.cmp .eq (.bin .band (.bin .shr .v1 (.bin .add (.bin .mul .v3 .v0) .v4)) (.int 1)) (.int 1)) (kl n o t (si a) (si b)) h= .ok (o.testBit (a*n+b)) h:=by
   have m:(((a*n:Nat):Int)+(b:Int))=((a*n+b:Nat):Int):=rfl
   simp_all [B,Jc,m,Qp,nA,uF]
  unfold jo
  cases q:o.testBit (a*n+b)with
  | false=>
   rw [xa (by rw [g,q]),execs]
   rfl
  | true=>
   rw [execs,xr (h1:=h) (by rw [g,q])]
   simp_all [c,Jc,p,C,Jo,xn,if_true]
 obtain⟨r,v,s,e⟩:=sM (st:=λt x y _=>kl n o t x y) (i:=3) (j:=4) (b2:=Ww) (by lia) rfl (λ_ _ _ _=>rfl) (λ_ _ _ _ _=>rfl) (λ_ _ _ _ _=>rfl) step _ 0 y0 y0 y0 λa f=>Ab4.mp f
 simp only [Jr]
 rw [za (τ1:=kl n o 0 y0 y0) (h1:=h) rfl]
 rw [za (τ1:=kl n o (Wf.bG n o) r v) (h1:=h) (by
  rw [exec,kP (n:=n) rfl (by lia),R.ar,e]
  rw [Wf.bG,Wf.cQ,Wf.lK,List.foldl_map,JX])]
 rw [qa (w:= .i (Wf.bG n o)) (h1:=h) rfl,Ga _ _ _ rfl]
def cK (n t:Nat):Nat->Nat
 | 0=>t
 | i+1=>cK n t i ||| Wf.joinM n (cK n t i) t
theorem mC : ∀ {l:List Nat},(∀ x∈l,p x=u0->q x=u0)->(∃ x∈l,q x=u0/\p x=k9)->(l.filter p).length<(l.filter q).length
 | [],_,h=>by obtain⟨x,a,_⟩:=h;cases a
 | y::l,h,i=>by
  have le: ∀l:List Nat,(∀ x∈l,p x=u0->q x=u0)->(l.filter p).length<=(l.filter q).length:=by
   intro l
   induction l with
   | nil=>exact λ_=>Aa7 _
   | cons z l b=>
    intro c
    have f:=b λx a=>c x (Aa2 _ a)
    have j:=c z Aa5
    rw [Al5,Al5]
    cases e1:p z with
    | true=>rw [j e1,if_pos rfl,if_pos rfl,Aa8,Aa8];lia
    | false=>
     rw [if_neg Ac2]
     cases q z with
     | true=>rw [if_pos rfl,Aa8];lia
     | false=>rw [if_neg Ac2];exact f
  have k:=le l λx a=>h x (Aa2 _ a)
  have g:=h y Aa5
  obtain⟨x,a,e,d⟩:=i
  rw [Al5,Al5]
  rcases Ab8.mp a with rfl | a
  .rw [e,d,if_pos rfl,if_neg Ac2,Aa8];lia
  .have b:=mC (λx a=>h x (Aa2 _ a)) ⟨x,a,e,d⟩
   cases e1:p y with
   | true=>rw [g e1,if_pos rfl,if_pos rfl,Aa8,Aa8];lia
   | false=>
    rw [if_neg Ac2]
    cases q y with
    | true=>rw [if_pos rfl,Aa8];lia
    | false=>rw [if_neg Ac2];exact b
section
variable {n t:Nat}
def qv (e:a<n) (d:b<n):(cK n t (i+1)).testBit (a*n+b)=((cK n t i).testBit (a*n+b)||(Aa3 n).any λc=>(cK n t i).testBit (a*n+c)&&t.testBit (c*n+b)):=by
 rw [cK,Af0,Wf.cb (Wf.place_lt e d),Wf.cH d]
def kJ (n t i a:Nat):Prop:= ∀b,b<n->(cK n t (i+1)).testBit (a*n+b)=(cK n t i).testBit (a*n+b)
def QY (e:a<n) (h:kJ n t i a):kJ n t (i+1) a:=λb f=>by
 rw [qv e f]
 cases q:(Aa3 n).any λc=>(cK n t _).testBit _&&t.testBit (c*n+b)with
 | false=>rw [Bool.or_false]
 | true=>
  rw [Bool.or_true,qv e f,Ao5.mpr (.inr ?_)]
  rw [Ad2]at q ⊢
  obtain⟨c,d,z⟩:=q
  rw [h c (Ab4.mp d)]at z
  exact⟨c,d,z⟩
abbrev l7 (n t i a:Nat):Nat:=((Aa3 n).filter λb=>(cK n t i).testBit (a*n+b)).length
def pV (d:a<n) (h: ¬kJ n t i a):l7 n t i a<l7 n t (i+1) a:=by
 have h: ∃b,b<n/\(cK n t _).testBit _≠(cK n t i).testBit _:=Aj2 λz=>h λb c=>Aj2 λq=>z ⟨b,c,q⟩
 obtain⟨b,c,ne⟩:=h
 refine mC (λx e z=>by rw [qv d (Ab4.mp e),z,Am2]) ⟨b,Ab4.mpr c,?_⟩
 cases q:(cK n t i).testBit (a*n+b)with
 | false=>rw [q]at ne;exact⟨by simpa using ne,rfl⟩
 | true=>exact absurd (by rw [qv d c,q,Am2]) ne
theorem vV (b:a<n): ∀i,kJ n t i a\/i<=l7 n t i a
 | 0=> .inr (Ae6 _)
 | i+1=>(vV b i).elim (λz=> .inl (QY b z)) λz=>by
  by_cases q:kJ n t i a
  .exact .inl (QY b q)
  .have:=pV b q
   exact .inr (by lia)
def M8 (b:a<n):kJ n t n a:=(vV b n).elim id λz=>Aj2 λq=>by
 have c:=pV b q
 have d:l7 n t (n+1) a<=n:=Ab5 (Aj0 _ _) (by simp)
 lia
theorem J6: ∀(i a b),a<n->b<n->(cK n t i).testBit (a*n+b)=u0->Wf.TC n t a b
 | 0,a,b,d,e,z=> .step d e z
 | i+1,a,b,d,e,z=>by
  rw [qv d e,Ae8,Ad2]at z
  rcases z with z | ⟨c,f,z⟩
  .exact J6 i a b d e z
  .rw [Aa1]at z
   have f:=Ab4.mp f
   exact .more (J6 i a c d f z.1) f e z.2
theorem uJ: ∀(i k),t.testBit k=u0->(cK n t i).testBit k=u0
 | 0,_,z=>z
 | i+1,k,z=>by rw [cK,Af0,uJ i k z,Am2]
theorem vc (a:t<2 ^ (n*n)): ∀i,cK n t i<2 ^ (n*n)
 | 0=>a
 | i+1=>Ak9 (vc a i) (Wf.dh _ _ _)
def yd (i:t<2 ^ (n*n)):Wf.fb n t (cK n t n):=⟨vc i n,λa b c j=>⟨J6 n a b c j,λg=>by
 induction g with
 | step e f d=>exact uJ n _ d
 | more g e f d h=>
  rw [← M8 c _ f,qv c f,Ao5,Ad2]
  exact .inr ⟨_,Ab4.mpr e,by rw [h e,d];rfl⟩⟩⟩
end
abbrev l9 (n t r:Nat) (x:Option W):Sl:= [si n,si t,si r,x]
theorem zP (k n t) (a:n<=20) (h): ∀ m i x,∃L,Gp (Gr [3] u0) (λτ h=>execs (k8 (k+1)) xo τ h) ((Aa3 m).map λj=>D.n (i+j)) (l9 n t (cK n t i) x) h= .next (l9 n t (cK n t (i+m)) L) h
 | 0,i,x=>⟨x,rfl⟩
 | m+1,i,x=>by
  obtain⟨L,e⟩:=zP k n t a h m (i+1) (si (i))
  refine⟨L,?_⟩
  rw [Ah3,Ab2,Ad1,zb (τ1:=l9 n t (cK n t i) (si (i))) rfl (by
   unfold xo
   rw [za (τ1:=l9 n t (cK n t (i+1)) (si (i))) (by simp_all [Q1 k n (cK n t i) t h a,xn];rfl),execs])]
  have:((λj=>D.n (i+j))∘Nat.succ)=λj=>D.n (i+1+j):=by
   funext j
   show D.n (i+(j+1))=_
   rw [show i+(j+1)=i+1+j by lia]
  rw [this,e,show i+1+m=i+(m+1)by lia]
def yK (k n t) (h) (a:n<=20):call prog (k+2) "_law_closed" [.i n,.i t] h= .ok (.i (cK n t n)) h:=by
 rw [Gb rfl _ _ _ rfl]
 obtain⟨b,e⟩:=zP k n t a h n 0 y0
 simp [Ak0]at e
 simp only [ZG]
 rw [za rfl]
 rw [za (by rw [exec,kP rfl (by lia),R.ar];exact e)]
 rw [qa rfl,Ga _ _ _ rfl]
def My (a b:Nat):Kz (a:Int) (b:Int)=k0 ((a ^^^ b:Nat):Int):=rfl
def uZ (k n) (h) (l:n<=4):call prog (k+1) "_law_same" [.i n] h= .ok (.i (Wf.bF n)) h:=by
 rw [Gb rfl _ _ _ rfl]
 have e:eval (k8 k) Zu [si n] h= .ok (.own (aA ((Aa3 n).map λa=>2 ^ (a*n+a)))) h:=by
  unfold Zu
  rw [wn (λa=> .n _) rfl (by lia) λa c=>⟨.i _,?_,rfl⟩]
  .rw [aA,Ad1];rfl
  .have i:=je a n (by lia)
   have d:=J9 (a*n+a) (by have:=Wf.place_lt c c;have:=zj (show n<=20 by lia);lia)
   have f:(((a*n:Nat):Int)+(a:Int))=((a*n+a:Nat):Int):=rfl
   simp_all [i,Jc,f,d]
 have g:((Aa3 n).map λa=>2 ^ (a*n+a)).sum=Wf.bF n:=by
  have:n=0\/n=1\/n=2\/n=3\/n=4:=by lia
  rcases this with rfl | rfl | rfl | rfl | rfl<;>decide +kernel
 have j:dC .sum [.own (aA ((Aa3 n).map λa=>2 ^ (a*n+a)))] h= .ok (.i (Wf.bF n)) h:=by
  show(R.of h ((k0 (aA ((Aa3 n).map λa=>2 ^ (a*n+a)))).bind λb=>if b.length<=bf then Kk b else y0)).bind _=_
  rw [Ag2,if_pos (by rw [Gg,aA,Aa,Aa,Ae9];lia),WS,g]
  rfl
 simp only [JP]
 rw [qa (w:= .i (Wf.bF n)) (h1:=h) (Ja rfl (by simp_all [e,j])),Ga _ _ _ rfl]
def ZO (k n s t) (h) (a:n<=20):(call prog (k+2) "_law_two" [.s zF,.i n,.i s,.i t] h= .ok (.i (s ||| t)) h ∧
 call prog (k+2) "_law_two" [.s zB,.i n,.i s,.i t] h= .ok (.i (s &&& t)) h) ∧
 call prog (k+2) "_law_two" [.s jg,.i n,.i s,.i t] h= .ok (.i (Wf.joinM n s t)) h:=by
 refine⟨⟨?_,?_⟩,?_⟩
 all_goals
  rw [Gb rfl _ _ _ rfl]
  simp only [WX]
 .show Gw _ (execs _ _ [k0 _,si n,si s,si t] h)=_
  rw [zf (w:= .i (s ||| t)) (xl (s:=zF) _ rfl) (Ja rfl (by simp_all [Jo,xn])),Ga _ _ _ rfl]
 .show Gw _ (execs _ _ [k0 _,si n,si s,si t] h)=_
  rw [xa (xl (s:=zB) _ rfl),zf (w:= .i (s &&& t)) (xl (s:=zB) _ rfl) (Ja rfl (by simp_all [jc,wd])),Ga _ _ _ rfl]
 .show Gw _ (execs _ _ [k0 (.s jg),si n,si s,si t] h)=_
  rw [xa (xl (s:=jg) _ rfl),xa (xl (s:=jg) _ rfl),qa (w:= .i (Wf.joinM n s t)) (h1:=h) (Ja rfl (by simp_all [Q1 k n s t h a])),Ga _ _ _ rfl]
def V.hX (h:V n s g) (q:V n t f):V n (s &&& ((2 ^ (n*n)-1) ^^^ t)) λa b=>g a b&& !f a b:=⟨Ah6 Nat.and_le_left h.1,λa b i j=>by
 have k:=q.2 a b i j
 rw [Ah2,Nat.testBit_xor,Ag3,decide_eq_true (Wf.place_lt i j),Bool.true_xor,Aa1,Aa1,(h.2 a b i j)]
 constructor
 .rintro ⟨d,c⟩
  refine⟨d,?_⟩
  cases e:f a b with
  | false=>rfl
  | true=>rw [k.mpr e]at c;cases c
 .rintro ⟨d,c⟩
  refine⟨d,?_⟩
  cases e:t.testBit (a*n+b)with
  | false=>rfl
  | true=>rw [k.mp e]at c;cases c⟩
def aM (N:List Tx) (f:Tx->Nat×Nat):List (Tx×D):=N.map λt=>(t,a8 (f t).1 (f t).2)
theorem pG : ∀ {N},t∈N->(aM N f).lookup t=k0 (a8 (f t).1 (f t).2)
 | y::N,h=>by
  show Aj t ((y,_)::aM N f)=_
  rw [Ab7]
  by_cases e:t=y
  .subst e;rw [beq_self_eq_true]
  .rw [beq_eq_false_iff_ne.mpr e]
   exact pG ((Ab8.mp h).resolve_left e)
structure Dc (a b:Wo) (f:Tx->Nat×Nat) (r:Nat) (h:AH):Prop where
 ad:h[r]? =k0 (.aN (aM (a.K++a.T) f))
 n4:a.n<=4
 lo: ∀t∈a.K++a.T,V a.n (f t).1 (bh a t)
 hi: ∀t∈a.K++a.T,V a.n (f t).2 (bh b t)
noncomputable abbrev iH (n r:Nat) (d:D) (s:Tx) (x5 a x7 x8 x9:Option W):Sl:= [si n,k0 (.r r),sv d,k0 (.s s),si (2 ^ (n*n)-1),x5,a,x7,x8,x9]
def ZT (s) (a:List Tx) (h):Gq .mem (.s s) (.own (a.map .str)) h=k0 (u9 (s∈a)):=xz s a (.own _) h rfl
section
variable {m n r:Nat}{h:AH}
def QS (e:n<=4) (z:execs (k8 m) (match ax.body with | .cons _ (.cons _ r)=>r | r=>r) (iH n r (.tup (.str s::ds)) s y0 y0 y0 y0 y0) h= .ret w h) (c:Gw h.length (.ret w h)= .ok w h):call prog (m+1) "_law_bounds" [.i n,.r r,.t (.str s::ds)] h= .ok w h:=by
 rw [Gb rfl _ _ _ rfl]
 simp only [ax]at z ⊢
 have d:=je n n (by lia)
 have b:=J9 (n*n) (by have:=zj (show n<=20 by lia);lia)
 have a:((2 ^ (n*n):Nat):Int)-1=((2 ^ (n*n)-1:Nat):Int):=by
  have:=Ad4 (n*n)
  lia
 refine fx (by simp_all [aa,jf];rfl) ?_
 rw [za (τ1:=iH n r (.tup (.str s::ds)) s y0 y0 y0 y0 y0) (h1:=h) (by simp_all [d,b,zd,a]),z]
 exact c
def B6 (a:n<=4) (e:h[r]? =k0 (.aN kvs)) (l:kvs.lookup t=k0 d):call prog (m+1) "_law_bounds" [.i n,.r r,.t [.str wh,.str t]] h= .ok (.v d) h:=by
 refine QS a ?_ (Ga _ _ _ rfl)
 simp only [ax]
 have dd:GV h (k0 (.r r))=k0 (r,kvs):=by unfold GV;simp [e]
 have dg:eZ (.s t) (k0 (r,kvs)) h=ag d h:=by unfold eZ;simp [l]
 rw [zf (w:= .v d) (xl (s:=wh) _ rfl) (Ja rfl (by simp_all [dd,aa,Zf,dg]))]
def j9 (b:n<=4) (g:(s==wh)=k9) (f:s∈ [Zg,jp,Xh]) (a:List.lookup s [(Zg,Wf.bF n),(jp,2 ^ (n*n)-1),(Xh,0)]=k0 v):call prog (m+2) "_law_bounds" [.i n,.r r,.t [.str s]] h= .ok (.v (a8 v v)) h:=by
 refine QS b ?_ (Ga _ _ _ rfl)
 simp only [ax]
 have j:Gm (k8 (m+1)) (.cmp .mem .v3 (.lst (.c (.str Zg) (.str jp) (.str Xh)))) (iH n r (.tup [.str s]) s y0 y0 y0 y0 y0) h= .ok u0 h:=by
  have:=ZT s [Zg,jp,Xh] h
  simp only [Ab2,Af1]at this
  simp_all [this,decide_eq_true f]
 have i:fK [(Zg,.i (Wf.bF n)),(jp,.i (2 ^ (n*n)-1)),(Xh,.v (.int 0))] (k0 (.s s)) h= .ok (.i v) h:=by
  unfold fK
  simp only [Ab7,List.lookup_nil]at a ⊢
  cases c:s==Zg with
  | true=>rw [c]at a;cases a;rfl
  | false=>
   rw [c]at a
   cases d:s==jp with
   | true=>rw [d]at a;cases a;rfl
   | false=>
    rw [d]at a
    cases e:s==Xh with
    | true=>rw [e]at a;cases a;rfl
    | false=>rw [e]at a;cases a
 rw [xa ((xl _ rfl).trans (by rw [g]))]
 rw [qa]
 refine(xr j).trans ?_
 refine(za (by simp_all [uZ m n h b,i];rfl)).trans ?_
 rw [qa (w:= .v (a8 v v)) (h1:=h) (Ja rfl (by simp_all []))]
def vQ (a:aP (.str s::ds) i=k0 d) (e:call prog m "_law_bounds" [.i n,.r r,.v d] h= .ok (.v (a8 v u)) h):eval (k8 m) (.call "_law_bounds" (.c .v0 .v1 (.ix .v2 (.int i)))) (iH n r (.tup (.str s::ds)) s x5 x6 x7 x8 x9) h= .ok (.v (a8 v u)) h:=by
 simp_all [aa,a,e]
def nI (g:n<=4) (b:(s==wh)=k9) (a:s∉ [Zg,jp,Xh]) (e:call prog m "_law_bounds" [.i n,.r r,.v d] h= .ok (.v (a8 v u)) h)
 (z:execs (k8 m) (match ax.body with | .cons _ (.cons _ (.cons _ (.cons _ (.cons _ r))))=>r | r=>r) (iH n r (.tup (.str s::d::ds)) s y0 (si v) (si u) y0 y0) h= .ret w h) (c:Gw h.length (.ret w h)= .ok w h):call prog (m+1) "_law_bounds" [.i n,.r r,.t (.str s::d::ds)] h= .ok w h:=by
 refine QS g ?_ c
 simp only [ax]at z ⊢
 have f:Gm (k8 m) (.cmp .mem .v3 (.lst (.c (.str Zg) (.str jp) (.str Xh)))) (iH n r (.tup (.str s::d::ds)) s y0 y0 y0 y0 y0) h= .ok k9 h:=by
  have:=ZT s [Zg,jp,Xh] h
  simp only [Ab2,Af1]at this
  simp_all [this,decide_eq_false a]
 rw [xa ((xl _ rfl).trans (by rw [b])),xa f]
 refine(za (by rw [exec,vQ (qu _ _ _) e,R.ar];rfl)).trans ?_
 exact z
def IE (a:n<=4) (e:call prog (m+1) "_law_bounds" [.i n,.r r,.v d] h= .ok (.v (a8 v u)) h):call prog (m+2) "_law_bounds" [.i n,.r r,.t [.str qj,d]] h= .ok (.v (a8 (Wf.bG n v) (Wf.bG n u))) h:=by
 refine nI a rfl (by decide) e ?_ (Ga _ _ _ rfl)
 simp only [ax]
 rw [zf (w:= .v (a8 (Wf.bG n v) (Wf.bG n u))) (xl (s:=qj) _ rfl) (Ja rfl (by simp_all [uR m n v h (by lia),uR m n u h (by lia)]))]
def AY (a:n<=4) (e:call prog (m+2) "_law_bounds" [.i n,.r r,.v d] h= .ok (.v (a8 v u)) h):call prog (m+3) "_law_bounds" [.i n,.r r,.t [.str Xi,d]] h= .ok (.v (a8 (cK n v n) (cK n u n))) h:=by
 refine nI a rfl (by decide) e ?_ (Ga _ _ _ rfl)
 simp only [ax]
 rw [xa (xl (s:=Xi) _ rfl),zf (w:= .v (a8 (cK n v n) (cK n u n))) (xl (s:=Xi) _ rfl) (Ja rfl (by simp_all [yK m n v h (by lia),yK m n u h (by lia)]))]
def ui (i:n<=4) (c:(s==wh)=k9) (b:s∉ [Zg,jp,Xh]) (h1:(s==qj)=k9) (g:(s==Xi)=k9) (e:call prog m "_law_bounds" [.i n,.r r,.v d] h= .ok (.v (a8 v u)) h) (a:call prog m "_law_bounds" [.i n,.r r,.v d'] h= .ok (.v (a8 v' u')) h)
 (z:execs (k8 m) (match ax.body with | .cons _ (.cons _ (.cons _ (.cons _ (.cons _ (.cons _ (.cons _ (.cons _ r)))))))=>r | r=>r) (iH n r (.tup [.str s,d,d']) s y0 (si v) (si u) (si v') (si u')) h= .ret w h) (f:Gw h.length (.ret w h)= .ok w h):call prog (m+1) "_law_bounds" [.i n,.r r,.t [.str s,d,d']] h= .ok w h:=by
 refine nI i c b e ?_ f
 simp only [ax]at z ⊢
 rw [xa ((xl _ rfl).trans (by rw [h1])),xa ((xl _ rfl).trans (by rw [g]))]
 refine(za (by rw [exec,vQ (xF _ _ _) a,R.ar];rfl)).trans ?_
 exact z
def IZ (c:n<=4) (e:call prog m "_law_bounds" [.i n,.r r,.v d] h= .ok (.v (a8 v u)) h) (a:call prog m "_law_bounds" [.i n,.r r,.v d'] h= .ok (.v (a8 v' u')) h):call prog (m+1) "_law_bounds" [.i n,.r r,.t [.str qr,d,d']] h= .ok (.v (a8 (v &&& ((2 ^ (n*n)-1) ^^^ u')) (u &&& ((2 ^ (n*n)-1) ^^^ v')))) h:=by
 refine ui c rfl (by decide) rfl rfl e a ?_ (Ga _ _ _ rfl)
 simp only [ax]
 have b: ∀i j:Int,Gj .bxor i j=Kz i j:=λ_ _=>rfl
 rw [zf (w:= .v (a8 (v &&& ((2 ^ (n*n)-1) ^^^ u')) (u &&& ((2 ^ (n*n)-1) ^^^ v')))) (xl (s:=qr) _ rfl) (Ja rfl (by simp_all [b,My,jc,wd]))]
def pC (j:n<=4) (g:(s==wh)=k9) (f:s∉ [Zg,jp,Xh]) (h1:(s==qj)=k9) (i:(s==Xi)=k9) (c:(s==qr)=k9) (e:call prog m "_law_bounds" [.i n,.r r,.v d] h= .ok (.v (a8 v u)) h) (b:call prog m "_law_bounds" [.i n,.r r,.v d'] h= .ok (.v (a8 v' u')) h)
 (k:call prog m "_law_two" [.s s,.i n,.i v,.i v'] h= .ok (.i x) h) (a:call prog m "_law_two" [.s s,.i n,.i u,.i u'] h= .ok (.i y) h):call prog (m+1) "_law_bounds" [.i n,.r r,.t [.str s,d,d']] h= .ok (.v (a8 x y)) h:=by
 refine ui j g f h1 i e b ?_ (Ga _ _ _ rfl)
 simp only [ax]
 rw [xa ((xl _ rfl).trans (by rw [c])),qa (w:= .v (a8 x y)) (h1:=h) (Ja rfl (by simp_all [k,a]))]
end
def Zl (P:Dc a b f r h): ∀ e m,e.dp+4<=m->e.wf (a.K++a.T)-> ∃v u,B a b e v u/\call prog m "_law_bounds" [.i a.n,.r r,.v (aV e)] h= .ok (.v (a8 v u)) h:=by
 have n4:=P.n4
 intro e
 induction e with
 | name t=>
  intro m l wf
  obtain⟨k,rfl⟩:=nk m 1 (by lia)
  exact⟨_,_,⟨P.lo t wf,P.hi t wf⟩,B6 n4 P.ad (pG wf)⟩
 | same=>
  intro m l wf
  obtain⟨k,rfl⟩:=nk m 2 (by lia)
  exact⟨_,_,⟨V.leaf.1,V.leaf.1⟩,j9 n4 rfl (by decide) rfl⟩
 | all=>
  intro m l wf
  obtain⟨k,rfl⟩:=nk m 2 (by lia)
  exact⟨_,_,⟨V.leaf.2.1,V.leaf.2.1⟩,j9 n4 rfl (by decide) rfl⟩
 | none=>
  intro m l wf
  obtain⟨k,rfl⟩:=nk m 2 (by lia)
  exact⟨_,_,⟨V.leaf.2.2,V.leaf.2.2⟩,j9 n4 rfl (by decide) rfl⟩
 | turned c s=>
  intro m l wf
  simp only [Ex.dp]at l
  obtain⟨k,rfl⟩:=nk m 2 (by lia)
  obtain⟨v,u,q,e1⟩:=s (k+1) (by lia) wf
  exact⟨_,_,⟨q.lo.turned,q.hi.turned⟩,IE n4 e1⟩
 | closed c s=>
  intro m l wf
  simp only [Ex.dp]at l
  obtain⟨k,rfl⟩:=nk m 3 (by lia)
  obtain⟨v,u,q,e1⟩:=s (k+2) (by lia) wf
  exact⟨_,_,⟨q.lo.closed (yd q.lo.1),q.hi.closed (yd q.hi.1)⟩,AY n4 e1⟩
 | plus c d g i=>
  intro m l wf
  simp only [Ex.dp]at l
  obtain⟨k,rfl⟩:=nk m 3 (by lia)
  obtain⟨v,u,q,e1⟩:=g (k+2) (by lia) wf.1
  obtain⟨o,p,n,j⟩:=i (k+2) (by lia) wf.2
  exact⟨_,_,⟨q.lo.plus n.lo,q.hi.plus n.hi⟩,pC n4 rfl (by decide) rfl rfl rfl e1 j (ZO k a.n v o h (by lia)).1.1 (ZO k a.n u p h (by lia)).1.1⟩
 | less c d g i=>
  intro m l wf
  simp only [Ex.dp]at l
  obtain⟨k,rfl⟩:=nk m 3 (by lia)
  obtain⟨v,u,q,e1⟩:=g (k+2) (by lia) wf.1
  obtain⟨o,p,n,j⟩:=i (k+2) (by lia) wf.2
  exact⟨_,_,⟨q.lo.hX n.hi,q.hi.hX n.lo⟩,IZ n4 e1 j⟩
 | both c d g i=>
  intro m l wf
  simp only [Ex.dp]at l
  obtain⟨k,rfl⟩:=nk m 3 (by lia)
  obtain⟨v,u,q,e1⟩:=g (k+2) (by lia) wf.1
  obtain⟨o,p,n,j⟩:=i (k+2) (by lia) wf.2
  exact⟨_,_,⟨q.lo.both n.lo,q.hi.both n.hi⟩,pC n4 rfl (by decide) rfl rfl rfl e1 j (ZO k a.n v o h (by lia)).1.2 (ZO k a.n u p h (by lia)).1.2⟩
 | joined c d g i=>
  intro m l wf
  simp only [Ex.dp]at l
  obtain⟨k,rfl⟩:=nk m 3 (by lia)
  obtain⟨v,u,q,e1⟩:=g (k+2) (by lia) wf.1
  obtain⟨o,p,n,j⟩:=i (k+2) (by lia) wf.2
  exact⟨_,_,⟨q.lo.joined n.lo,q.hi.joined n.hi⟩,pC n4 rfl (by decide) rfl rfl rfl e1 j (ZO k a.n v o h (by lia)).2 (ZO k a.n u p h (by lia)).2⟩
def kA:Nat->Nat->Nat
 | 0,_=>0
 | L+1,v=>v % 2+kA L (v / 2)
theorem oT: ∀(L v),kA L v=((Aa3 L).filter v.testBit).length
 | 0,_=>rfl
 | L+1,v=>by
  rw [kA,oT L,Ah3,Al5,An5]
  have e:(v.testBit∘Nat.succ)=(v / 2).testBit:=by
   funext i
   exact Nat.testBit_succ v i
  rw [e]
  by_cases q:v % 2=1
  .rw [if_pos (by rw [Nat.testBit_zero,decide_eq_true q]),Aa8,Aa,q];lia
  .rw [if_neg (by rw [Nat.testBit_zero,decide_eq_false q];exact Ac2),Aa];lia
abbrev lE (v a:Nat):Sl:= [si v,si a]
theorem vS (h): ∀ L f v a,v<2 ^ L->L<f->GI (λτ h=>Gm F Wm τ h) (λτ h=>execs F Qn τ h) f (lE v a) h= .next (lE 0 (a+kA L v)) h
 | L,0,v,a,_,c=>absurd c (Ag7 _)
 | L,f+1,v,a,b,c=>by
  have e:Gm F Wm (lE v a) h= .ok (u9 (0<v)) h:=by
   have:Gq .gt (.i v) (.v (.int 0)) h=k0 (u9 (0<v)):=by
    show k0 (u9 (0<(v:Int)))=_
    congr 1
    exact decide_eq_decide.mpr (by lia)
   unfold Wm
   simp_all [this]
  rw [GI,e,R.ar]
  by_cases q:0<v
  .cases L with
   | zero=>simp at b;lia
   | succ L=>
    have i:execs F Qn (lE v a) h= .next (lE (v / 2) (a+v % 2)) h:=by
     have d:Gj .mod v 2=k0 ((v % 2:Nat):Int):=nZ v 2 (by decide)
     have g:Gj .fdiv v 2=k0 ((v / 2:Nat):Int):=MF v 2 (by decide) (by decide)
     unfold Qn
     simp_all [d,g,D1]
    rw [decide_eq_true q]
    simp only [i]
    rw [vS h L f (v / 2) (a+v % 2) (by rw [Nat.pow_succ]at b;lia) (by lia),kA,Nat.add_assoc]
  .have v0:v=0:=by lia
   subst v0
   have z:kA L 0=0:=by rw [oT];simp
   rw [decide_eq_false q,z]
   rfl
def zU (k L v) (h) (b:L<=16) (a:v<2 ^ L):call prog (k+1) "_law_many" [.i v] h= .ok (.v (.int ((((List.range L).filter v.testBit).length:Nat):Int))) h:=by
 rw [Gb rfl _ _ _ rfl]
 simp only [wN]
 rw [za rfl]
 rw [za (by rw [exec];exact vS h L 100000 v 0 a (by lia))]
 rw [qa rfl,Ga _ _ _ rfl,Ak0,oT]
def Z9 {F:Fx}{e:E}{τ:Sl}{h:AH}{b:Bool}(q:eval F e τ h= .ok (.b b) h):eval F (.ix (.lst (.b .au (.bl k9))) (.bi .int (.cons e .nil))) τ h= .ok (.v (aH (wS k9 b))) h:=by
 have e1:eval F (.bi .int (.cons e .nil)) τ h= .ok (.i b.toNat) h:=by
  rw [eval,Gf,q];rfl
 rw [eval,show eval F _ τ h= .ok _ h from rfl,R.ae,e1,R.ae,wO]
 cases b<;>rfl
def mM {F:Fx}{τ:Sl}{i j:Nat}{ps:List (Nat×Nat)}{h:AH}{o:Cp}(p:Nat->Bool) (g:ps.length<=4) (c:Gk F (.seq .v2) τ h= .ok (ps.map pD) h) (e:Gi τ 1=si j) (b:i=0\/i=1) (a: ∀x:Nat,Gq o (.i x) (.i j) h=k0 (p x)):
 eval F (.comp [0,1] k9 2 [1] (.seq .v2) k9 (.bl u0) (.cmp o (.var i) .v2)) τ h= .ok (.own ((ps.map λq=>p (if i=0 then q.1 else q.2)).map .bl)) h:=by
 rw [zm (h:=h) (ds:=ps.map pD) (λd=>match d with | .tup [.int x,.int y]=> .bl (p (if i=0 then x.toNat else y.toNat)) | d=>d) c (by rw [Gg,Aa];lia)]
 .simp [Function.comp_def,pD]
 .intro k f
  obtain⟨q,_,rfl⟩:=Ab6.mp f
  refine⟨[si (q.1),si (q.2),si j],?_,?_⟩
  .rw [Ab2,Af1,e];rfl
  .obtain rfl | rfl:=b
   .exact⟨.b (p q.1),by simp_all [a],by simp [pD]⟩
   .exact⟨.b (p q.2),by simp_all [a],by simp [pD]⟩
def pL {F:Fx}{e:E}{a:Ss}{b:Ss}{τ:Sl}{h:AH}{x y:Bool}(c:eval F e τ h= .ok (.b x) h) (z:execs F b τ h= .ret (.v (aH (wS k9 y))) h):execs F (.cons (.r e (.bl u0)) b) τ h= .ret (.v (aH (wS x y))) h:=by
 have t:Gm F e τ h= .ok x h:=by rw [Gm,c,R.ae];rfl
 cases x with
 | true=>exact qa ((xr t).trans (qa rfl))
 | false=>rw [xa t];exact z
def A9 (k j:Nat) (up:Bool){w:W}{ps:List (Nat×Nat)}(h:AH) (c:ps.length<=4) (e: ∀a b:Option W,Gk (k8 k) (.seq .v2) [a,b,k0 w] h= .ok (ps.map pD) h):
 call prog (k+1) "_law_ruled" [.b up,.i j,w] h= .ok (.v (aH (if up then wS ((ps.map (·.1)).all fun x=>decide (j<=x)) ((ps.map (·.2)).any fun x=>decide (x<j))else wS ((ps.map (·.2)).all fun x=>decide (x<=j)) ((ps.map (·.1)).any fun x=>decide (j<x))))) h:=by
 rw [Gb (d:=wx) rfl _ _ _ rfl]
 show Gw _ (execs _ _ [k0 _,si j,k0 w] h)=_
 simp only [wx,xy,zz,xA,jA]
 have g:=Zv (mM (F:=(k8 k)) (τ:= [k0 (.b up),si j,k0 w]) (i:=0) (λx=>u9 (j<=x)) c (e _ _) rfl (.inl rfl) (λx=>tP j x h))
 have f:=XG (mM (F:=(k8 k)) (τ:= [k0 (.b up),si j,k0 w]) (i:=1) (λx=>u9 (x<j)) c (e _ _) rfl (.inr rfl) (λx=>mV j x h))
 have e2:=Zv (mM (F:=(k8 k)) (τ:= [k0 (.b up),si j,k0 w]) (i:=1) (λx=>u9 (x<=j)) c (e _ _) rfl (.inr rfl) (λx=>yM j x h))
 have e1:=XG (mM (F:=(k8 k)) (τ:= [k0 (.b up),si j,k0 w]) (i:=0) (λx=>u9 (j<x)) c (e _ _) rfl (.inl rfl) (λx=>gz j x h))
 rw [oQ]at g e2
 rw [nJ]at f e1
 rw [An6,Ap2,An6,Ap2]
 cases up with
 | true=>
  rw [qa (w:= .v _) (h1:=h) ((xr (h1:=h) rfl).trans (pL (a:= .nil) g (qa (Ja rfl (Z9 f))))),Ga _ _ _ rfl]
  rfl
 | false=>
  rw [xa rfl,pL (a:= .nil) e2 (qa (Ja rfl (Z9 e1))),Ga _ _ _ rfl]
  rfl
def vm (u v):u9 (u &&& v=u)=u9 (u-(u &&& v)=0):=by
 have:= @Nat.and_le_left u v
 exact decide_eq_decide.mpr (by lia)
def vb (i j) (h):Gq .ne (.i i) (.i j) h=k0 (!u9 (i=j)):=by
 have this:=Jm i j h
 exact congrArg (Option.map (!·)) this
def FR (k v u v' u') (h):call prog (k+1) "_law_within" [.v (a8 v u),.v (a8 v' u')] h= .ok (.v (aH (dt v u v' u'))) h:=by
 rw [Gb rfl _ _ _ rfl]
 simp only [jF]
 rw [pL (a:= .nil) (x:=u9 (u &&& v'=u)) (y:= !u9 (v &&& u'=v)) (by simp_all [aa,Qh,Zf,jc,wd,Jm]) (qa (Ja rfl (Z9 (by simp_all [aa,Qh,Zf,jc,wd,vb])))),Ga _ _ _ rfl,dt,vm,vm]
abbrev lg (n r:Nat) (d:D) (s:Tx) (b x5 a x7:Option W):Sl:= [si n,k0 (.r r),sv d,k0 (.s s),b,x5,a,x7]
def rn (n v a):((Aa3 n).filter (v / 2 ^ (a*n) &&& (2 ^ n-1)).testBit).length=z6 n (tb n v) a:=by
 rw [zv,z6]
 congr 1
 refine Ai1 λb c=> ?_
 rw [Af4,Ah,decide_eq_true (Ab4.mp c),Ae5,Ah0,Ap4]
section
variable {m n r:Nat}{h:AH}
def pB (B:n<=4) (J:s∈ [Za,zc,xb,Qi]) (C:v<2 ^ (n*n)) (D:u<2 ^ (n*n)) (e:call prog (m+1) "_law_bounds" [.i n,.r r,.v x] h= .ok (.v (a8 v u)) h):
 execs (k8 (m+1)) (match bp.body with | .cons _ (.cons _ r)=>r | r=>r) (lg n r (.tup [.str s,.n j,x]) s y0 y0 y0 y0) h= .ret (.v (aH (JM s j (jl n v s) (jl n u s)))) h:=by
 have g:n*n<=16:=Af5 B B
 simp only [bp]
 refine(za (by rw [exec];simp_all [aa,xF,e];rfl)).trans ?_
 have y:Gm (k8 (m+1)) (.or (.cmp .eq .v3 (.str Za)) (.cmp .eq .v3 (.str zc))) (lg n r (.tup [.str s,.n j,x]) s (si v) (si u) y0 y0) h= .ok (s==Za||s==zc) h:=by
  rw [Gm,kG (a:=s==Za) (b:=s==zc) (by simp_all [Xa]) (by simp_all [Xa]),R.ae];rfl
 have i: ∀(w:W) (p:List (Nat×Nat)) (X:Tx),p.length<=4->(∀ a b:Option W,Gk (k8 m) (.seq .v2) [a,b,k0 w] h= .ok (p.map pD) h)->call prog _ "_law_ruled" [.b _,.i j,w] h= .ok _ h:=fun w p X f H=>A9 m j (s==X) h f H
 have up:(s∈ [Za,xb])↔(s==Za)=u0\/(s==xb)=true:=by simp
 by_cases c:(s==Za||s==zc)=u0
 .have d:s∈ [Za,zc]:=by simpa using c
  have ne:(s==xb)=false:=by
   have: ∀s∈ [Za,zc],(s==xb)=false:=by decide
   exact this s d
  have k:=i (.bor [a8 (XE n v).sum (XE n u).sum]) [((XE n v).sum,(XE n u).sum)] Za (by simp) (λa b=>rfl)
  have t:call prog (m+1) "_law_many" [.i v] h= .ok (.i ((XE n v).sum)) h:=by rw [zU m _ v h g C,xH n v n,XE]
  have o:call prog (m+1) "_law_many" [.i u] h= .ok (.i ((XE n u).sum)) h:=by rw [zU m _ u h g D,xH n u n,XE]
  rw [qa (w:= .v (aH (JM s j (jl n v s) (jl n u s)))) (h1:=h)]
  refine(xr (h1:=h) (by rw [y,c])).trans (qa (Ja rfl ?_))
  rw [JM,jl,jl,if_pos d,if_pos d]
  simp_all [Xa,aa,qu,t,o,k]
  have iff:(s∈ [Za,xb])↔(s==Za)=true:=up.trans (by rw [ne];simp)
  by_cases q:s∈ [Za,xb]
  .rw [if_pos q,if_pos (iff.mp q)]
  .rw [if_neg q,if_neg λz=>q (iff.mpr z)]
 .have l:(s==Za||s==zc)=false:=by simpa using c
  have d:s∉ [Za,zc]:=by simpa using c
  have ne:(s==Za)=false:=by
   rw [Bool.or_eq_false_iff]at l
   exact l.1
  rw [xa (by rw [y,l])]
  have G:=J9 n (by lia)
  have f:((2 ^ n:Nat):Int)-1=((2 ^ n-1:Nat):Int):=by
   have:=Ad4 n
   lia
  refine(za (by simp_all [G,zd,f];rfl)).trans ?_
  have E:eval (k8 (m+1)) Js (lg n r (.tup [.str s,.n j,x]) s (si v) (si u) (si (2 ^ n-1)) y0) h= .ok (.own (((XE n v).zip (XE n u)).map pD)) h:=by
   unfold Js
   rw [wn (n:=n) (λa=>a8 (z6 n (tb n v) a) (z6 n (tb n u) a)) rfl (by lia) λa I=>⟨.v (a8 (z6 n (tb n v) a) (z6 n (tb n u) a)),?_,rfl⟩]
   .rw [XE,XE,List.zip_map',Ad1];rfl
   .have F:Gj .mul (a:Int) (n:Int)=k0 ((a*n:Nat):Int):=je a n (by lia)
    have lt: ∀w:Nat,(w / 2 ^ (a*n) &&& (2 ^ n-1))<2 ^ n:=λw=>by rw [Af4];exact Aj5 _ (Ad4 n)
    have t:call prog (m+1) "_law_many" [.i (v / 2 ^ (a*n) &&& (2 ^ n-1))] h= .ok (.i (z6 n (tb n v) a)) h:=by rw [zU m n _ h (by lia) (lt v),rn]
    have o:call prog (m+1) "_law_many" [.i (u / 2 ^ (a*n) &&& (2 ^ n-1))] h= .ok (.i (z6 n (tb n u) a)) h:=by rw [zU m n _ h (by lia) (lt u),rn]
    simp_all [F,Qp,jc,wd,t,o]
  have A:(XE n v).length=(XE n u).length:=by simp [XE]
  have k:=i (.l (((XE n v).zip (XE n u)).map pD)) ((XE n v).zip (XE n u)) xb (by rw [Al8];simp [XE];lia) (λa b=>rfl)
  rw [List.map_fst_zip (Al1 A),List.map_snd_zip (Al1 A.symm)]at k
  refine(za (by rw [exec,E];rfl)).trans ?_
  rw [qa (w:= .v (aH (JM s j (jl n v s) (jl n u s)))) (h1:=h)]
  refine Ja rfl ?_
  rw [JM,jl,jl,if_neg d,if_neg d]
  simp_all [Xa,aa,qu,k]
  have iff:(s∈ [Za,xb])↔(s==xb)=true:=up.trans (by rw [ne];simp)
  by_cases q:s∈ [Za,xb]
  .rw [if_pos q,if_pos (iff.mp q)]
  .rw [if_neg q,if_neg λz=>q (iff.mpr z)]
def HV (i:n<=4) (c:s∈ [Za,zc,xb,Qi]) (f:v<2 ^ (n*n)) (g:u<2 ^ (n*n)) (e:call prog (m+1) "_law_bounds" [.i n,.r r,.v x] h= .ok (.v (a8 v u)) h):call prog (m+2) "_law_fact" [.i n,.r r,.t [.str s,.n j,x]] h= .ok (.v (aH (JM s j (jl n v s) (jl n u s)))) h:=by
 have z:=pB (j:=j) i c f g e
 rw [Gb rfl _ _ _ rfl]
 simp only [bp]at z ⊢
 have d:=by
  have: ∀s∈ [Za,zc,xb,Qi],(s==Zk)=k9/\(s==z4)=false:=by decide
  exact this s c
 refine fx (by simp_all [jf];rfl) ?_
 rw [xa (by rw [Gm,kG (a:=s==Zk) (b:=s==z4) (by simp_all [Xa]) (by simp_all [Xa]),R.ae,d.1,d.2];rfl),z,Ga _ _ _ rfl]
def vr {b:Bool}(f:n<=4) (a:v<2 ^ (n*n)) (c:u<2 ^ (n*n)) (e:call prog (m+1) "_law_bounds" [.i n,.r r,.v x] h= .ok (.v (a8 v u)) h):call prog (m+2) "_law_fact" [.i n,.r r,.t [.str (if b then Zk else z4),x]] h= .ok (.v (aH (JM (if b then Za else zc) b.toNat (jl n v (if b then Za else zc)) (jl n u (if b then Za else zc))))) h:=by
 cases b with
 | true=>
  have z:=pB (s:=Za) (j:=1) f (by decide) a c e
  rw [Gb rfl _ _ _ rfl]
  simp only [bp]at z ⊢
  refine fx (by simp_all [aa,jf];rfl) ?_
  rw [za (τ1:=lg n r (.tup [.str Za,.n (1),x]) Za y0 y0 y0 y0) rfl,z,Ga _ _ _ rfl]
  rfl
 | false=>
  have z:=pB (s:=zc) (j:=0) f (by decide) a c e
  rw [Gb (d:=bp) rfl _ _ _ rfl]
  simp only [bp]at z ⊢
  refine fx (by simp_all [aa,jf];rfl) ?_
  rw [za (τ1:=lg n r (.tup [.str zc,.n (0),x]) zc y0 y0 y0 y0) (h1:=h) rfl,z,Ga _ _ _ rfl]
  rfl
end
abbrev gC (n r:Nat) (d:D) (s:Tx) (b x5 a:Option W):Sl:= [si n,k0 (.r r),sv d,k0 (.s s),b,x5,a]
def HE (b) (p q) (h):Gq .mem (.b b) (.l [aH p,aH q]) h=k0 (p==k0 b||q==k0 b):=by
 cases b<;>rcases p with _ | _ | _<;>rcases q with _ | _ | _<;>rfl
def HG (p q) (h):Gq .mem (.v .au) (.l [aH p,aH q]) h=k0 (p==y0||q==y0):=by
 rcases p with _ | _ | _<;>rcases q with _ | _ | _<;>rfl
def EK (b) (p q:Option Bool) (c:(p==k0 b||q==k0 b)=u0):k0 b=if b then zev p q else Q9 p q:=by
 cases b<;>rcases p with _ | _ | _<;>rcases q with _ | _ | _<;>first | rfl | cases c
def Dp (b) (p q:Option Bool) (c:(p==k0 b||q==k0 b)=k9) (a:(p==y0||q==y0)=u0):y0=if b then zev p q else Q9 p q:=by
 cases b<;>rcases p with _ | _ | _<;>rcases q with _ | _ | _<;>first | rfl | exact absurd c (by decide) | exact absurd a (by decide)
def Ey (b) (p q) (c:(p==k0 b||q==k0 b)=k9) (a:(p==y0||q==y0)=k9):k0 (!b)=if b then zev p q else Q9 p q:=by
 cases b<;>rcases p with _ | _ | _<;>rcases q with _ | _ | _<;>first | rfl | exact absurd c (by decide) | exact absurd a (by decide)
section
variable {m n r:Nat}{h:AH}
def ZA (z:execs (k8 m) (match a9.body with | .cons _ r=>r | r=>r) (gC n r (.tup (.str s::ds)) s y0 y0 y0) h= .ret (.v d) h):call prog (m+1) "_law_told" [.i n,.r r,.t (.str s::ds)] h= .ok (.v d) h:=by
 rw [Gb rfl _ _ _ rfl]
 simp only [a9]at z ⊢
 rw [za (τ1:=gC n r (.tup (.str s::ds)) s y0 y0 y0) (h1:=h) (by simp_all [aa,jf]),z,Ga _ _ _ rfl]
def Ej (e:call prog m "_law_told" [.i n,.r r,.v x] h= .ok (.v (aH p)) h):call prog (m+1) "_law_told" [.i n,.r r,.t [.str QI,x]] h= .ok (.v (aH (p.map (!·)))) h:=by
 refine ZA ?_
 simp only [a9]
 rw [qa]
 refine(xr (xl (s:=QI) _ rfl)).trans ?_
 refine(za (by simp_all [aa,qu,e];rfl)).trans ?_
 cases p with
 | none=>exact qa ((xr rfl).trans (qa rfl))
 | some b=>
  rw [xa rfl]
  exact qa (Ja rfl (by simp_all [];rfl))
def HU (b:call prog m "_law_told" [.i n,.r r,.v x] h= .ok (.v (aH p)) h) (a:call prog m "_law_told" [.i n,.r r,.v y] h= .ok (.v (aH q)) h):eval (k8 m) Zt (gC n r d s x4 (some (.l [x,y])) none) h= .ok (.own [aH p,aH q]) h:=by
 exact Z5 rfl (by assumption) (by assumption)
def rX (f:call prog m "_law_told" [.i n,.r r,.v x] h= .ok (.v (aH p)) h) (g:call prog m "_law_told" [.i n,.r r,.v y] h= .ok (.v (aH q)) h):execs (k8 m) (.d (.af 6 Zt) (.r (.cmp .mem (.cmp .eq .v3 (.str XA)) .v6) (.cmp .eq .v3 (.str XA))) (.r (.cmp .mem .au .v6) .au) (.ret (.cmp .ne .v3 (.str XA)))) (gC n r d s none (some (.l [x,y])) none) h= .ret (.v (aH (if s==XA then zev p q else Q9 p q))) h:=by
 rw [za (τ1:=gC n r d s y0 _ _) (by rw [exec,HU f g];rfl)]
 have c:Gm (k8 m) (.cmp .mem (.cmp .eq .v3 (.str XA)) .v6) (gC n r d s y0 (k0 (.l [x,y])) (k0 (.l [aH p,aH q]))) h= .ok (p==k0 (s==XA)||q==k0 (s==XA)) h:=by
  simp_all [Xa,HE]
 have e:Gm (k8 m) (.cmp .mem .au .v6) (gC n r d s y0 (k0 (.l [x,y])) (k0 (.l [aH p,aH q]))) h= .ok (p==y0||q==y0) h:=by
  simp_all [HG]
 have ne:Gq .ne (.s s) (.s XA) h=k0 (!(s==XA)):=by
  have this:=Xa s XA h
  exact congrArg (Option.map (!·)) this
 cases a:(p==k0 _||q==k0 _)with
 | true=>
  rw [zf (w:= .b (s==XA)) (by rw [c,a]) (Ja rfl (by simp_all [Xa]))]
  rw [← EK _ p q a]
  rfl
 | false=>
  rw [xa (by rw [c,a])]
  cases b:(p==y0||q==y0)with
  | true=>
   rw [zf (by rw [e,b]) rfl]
   rw [← Dp _ p q a b]
   rfl
  | false=>
   rw [xa (by rw [e,b]),qa (w:= .b (!(s==XA))) (h1:=h) (Ja rfl (by simp_all [ne]))]
   rw [← Ey _ p q a b]
   rfl
def mq :Gm (k8 m) (.cmp .mem .v3 (.lst (.c (.str Zx) (.str XA) (.str Xb)))) (gC n r d s y0 y0 y0) h= .ok (u9 (s∈ [Zx,XA,Xb])) h:=by
 have:=ZT s [Zx,XA,Xb] h
 simp only [Ab2,Af1]at this
 simp_all [this]
def rT (e:(s==QI)=k9) (b:s∈ [Zx,XA,Xb]) (c:(s==Xb)=k9) (a:call prog m "_law_told" [.i n,.r r,.v x] h= .ok (.v (aH p)) h) (d:call prog m "_law_told" [.i n,.r r,.v y] h= .ok (.v (aH q)) h):call prog (m+1) "_law_told" [.i n,.r r,.t [.str s,x,y]] h= .ok (.v (aH (if s==XA then zev p q else Q9 p q))) h:=by
 refine ZA ?_
 simp only [a9]
 rw [xa ((xl _ rfl).trans (by rw [e])),qa]
 refine(xr (by rw [mq,decide_eq_true b])).trans ?_
 refine(za (by simp_all [xF];rfl)).trans ?_
 rw [xa ((xl _ rfl).trans (by rw [c]))]
 exact rX a d
def DC (b:call prog m "_law_told" [.i n,.r r,.t [.str JH,x,y]] h= .ok (.v (aH p)) h) (a:call prog m "_law_told" [.i n,.r r,.t [.str JH,y,x]] h= .ok (.v (aH q)) h):call prog (m+1) "_law_told" [.i n,.r r,.t [.str Xb,x,y]] h= .ok (.v (aH (Q9 p q))) h:=by
 refine ZA ?_
 simp only [a9]
 rw [xa (xl (s:=Xb) _ rfl),qa]
 refine(xr (by rw [mq];rfl)).trans ?_
 refine(za (by simp_all [xF];rfl)).trans ?_
 rw [za ((xr (xl (s:=Xb) _ rfl)).trans (by
  rw [za (τ1:=gC n r (.tup [.str Xb,x,y]) Xb y0 (k0 (.l [.tup [.str JH,x,y],.tup [.str JH,y,x]])) y0) (h1:=h) (by simp_all [aa,qu,xF]),execs]))]
 exact rX b a
def oz (b:call prog (m+1) "_law_bounds" [.i n,.r r,.v x] h= .ok (.v (a8 v u)) h) (a:call prog (m+1) "_law_bounds" [.i n,.r r,.v y] h= .ok (.v (a8 v' u')) h):call prog (m+2) "_law_told" [.i n,.r r,.t [.str JH,x,y]] h= .ok (.v (aH (dt v u v' u'))) h:=by
 refine ZA ?_
 simp only [a9]
 rw [xa (xl (s:=JH) _ rfl),xa (by rw [mq];rfl),zf (w:= .v (aH (dt v u v' u'))) (xl (s:=JH) _ rfl) (Ja rfl (by simp_all [aa,qu,xF,b,a,FR]))]
def W8 (h1:(s==QI)=k9) (b:s∉ [Zx,XA,Xb]) (a:(s==JH)=k9) (e:call prog m "_law_fact" [.i n,.r r,.t (.str s::ds)] h= .ok (.v d) h):call prog (m+1) "_law_told" [.i n,.r r,.t (.str s::ds)] h= .ok (.v d) h:=by
 refine ZA ?_
 simp only [a9]
 rw [xa ((xl _ rfl).trans (by rw [h1])),xa (by rw [mq,decide_eq_false b]),xa ((xl _ rfl).trans (by rw [a])),qa (w:= .v d) (h1:=h) (Ja rfl (by assumption))]
end
def vD (P:Dc a b f r h): ∀ s m,s.dp+8<=m->s.wf (a.K++a.T)-> ∃q,Td a b s q/\call prog m "_law_told" [.i a.n,.r r,.v (az s)] h= .ok (.v (aH q)) h:=by
 have n4:=P.n4
 intro s
 induction s with
 | fact f=>
  intro m c wf
  simp only [Sy.dp]at c
  cases f with
  | dH x y=>
   simp only [Fc.dp]at c
   obtain⟨k,rfl⟩:=nk m 2 (by lia)
   obtain⟨v,u,q,e⟩:=Zl P x (k+1) (by lia) wf.1
   obtain⟨n,o,l,d⟩:=Zl P y (k+1) (by lia) wf.2
   exact⟨_,⟨v,u,n,o,q,l,rfl⟩,oz e d⟩
  | dZ x y=>
   simp only [Fc.dp]at c
   obtain⟨k,rfl⟩:=nk m 3 (by lia)
   obtain⟨v,u,q,e⟩:=Zl P x (k+1) (by lia) wf.1
   obtain⟨n,o,l,d⟩:=Zl P y (k+1) (by lia) wf.2
   exact⟨_,⟨v,u,n,o,q,l,rfl⟩,DC (oz e d) (oz d e)⟩
  | d4 x=>
   simp only [Fc.dp]at c
   obtain⟨k,rfl⟩:=nk m 3 (by lia)
   obtain⟨v,u,q,e⟩:=Zl P x (k+1) (by lia) wf
   exact⟨_,⟨v,u,q,rfl⟩,W8 rfl (by decide) rfl (vr (b:=u0) n4 q.lo.1 q.hi.1 e)⟩
  | au x=>
   simp only [Fc.dp]at c
   obtain⟨k,rfl⟩:=nk m 3 (by lia)
   obtain⟨v,u,q,e⟩:=Zl P x (k+1) (by lia) wf
   exact⟨_,⟨v,u,q,rfl⟩,W8 rfl (by decide) rfl (vr (b:=k9) n4 q.lo.1 q.hi.1 e)⟩
  | cnt s j x=>
   simp only [Fc.dp]at c
   obtain⟨k,rfl⟩:=nk m 3 (by lia)
   obtain⟨v,u,q,e⟩:=Zl P x (k+1) (by lia) wf.2
   have z: ∀s∈ [Za,zc,xb,Qi],(s==QI)=k9/\s∉ [Zx,XA,Xb]/\(s==JH)=false:=by decide
   obtain⟨B,D,C⟩:=z s wf.1
   exact⟨_,⟨v,u,q,rfl⟩,W8 B D C (HV n4 wf.1 q.lo.1 q.hi.1 e)⟩
 | neg x A=>
  intro m c wf
  simp only [Sy.dp]at c
  obtain⟨k,rfl⟩:=nk m 1 (by lia)
  obtain⟨q,t,e⟩:=A k (by lia) wf
  exact⟨_,⟨q,t,rfl⟩,Ej e⟩
 | bU x y i g=>
  intro m c wf
  simp only [Sy.dp]at c
  obtain⟨k,rfl⟩:=nk m 1 (by lia)
  obtain⟨p,t,e⟩:=i k (by lia) wf.1
  obtain⟨q,w,d⟩:=g k (by lia) wf.2
  exact⟨_,⟨p,q,t,w,rfl⟩,rT (s:=Zx) rfl (by decide) rfl e d⟩
 | bP x y i g=>
  intro m c wf
  simp only [Sy.dp]at c
  obtain⟨k,rfl⟩:=nk m 1 (by lia)
  obtain⟨p,t,e⟩:=i k (by lia) wf.1
  obtain⟨q,w,d⟩:=g k (by lia) wf.2
  exact⟨_,⟨p,q,t,w,rfl⟩,rT (s:=XA) rfl (by decide) rfl e d⟩
abbrev ah (ns:List Int) (i:Nat) (v:Int):Cell:= .lst [.lst (ns.map .int),.n i,.int v]
def Ce:Gj .pow 10 18=k0 1000000000000000000:=by
 have:(0:Int)<=18/\ 18<=BP/\(10:Int).natAbs<ku:=by rw [Kg,GD];decide
 show(if _ then _ else _)=_
 rw [if_pos this]
 rfl
def BI (v)(e:eval F (.ix .v0 (.int 2)) τ h= .ok (.v (.int v)) h):Gm F (.not (.chain .le .lt (.int 0) (.ix .v0 (.int 2)) (.bin .pow (.int 10) (.int 18)))) τ h= .ok (!(u9 (0<=v)&&u9 (v<1000000000000000000))) h:=by
 rw [Gm,eval]
 rw [show eval F _ τ h= .ok (.b (u9 (0<=v)&&u9 (v<1000000000000000000))) h by
  rw [eval,eval,R.ae,e,R.ae]
  by_cases q: 0<=v
  .simp_all [jX,Z1,Ce,q,decide_true,Ae5]
  .simp_all [jX,q,decide_false,Af]]
 simp_all []
def xh (k:Nat){ns:List Int}{i:Nat}{v:Int}{h:AH}{r m:Nat}(e:h[r]? =k0 (ah ns i v)) (F:0<m) (D:m<1073741824):
 ∃(d:Nat) (j:Int),d<m/\call prog (k+1) "_law_draw" [.r r,.i m] h= .ok (.i d) (h.set r (ah ns i j)):=by
 rw [Gb (d:=JE) rfl _ _ _ rfl]
 have a:(0:Int)<(m:Int):=by lia
 have q:r<h.length:=(Aa0.mp e).1
 have i2:eval (k8 k) (.ix .v0 (.int 2)) [k0 (.r r),si m,y0] h= .ok (.v (.int v)) h:=by simp_all [zu e,kM]
 have g:=BI v i2
 show ∃d j,_/\Gw _ (execs _ _ [k0 (.r r),si m,y0] h)=_
 simp only [JE]
 have l: ∀x:Int,∃d:Nat,d<m/\x % (m:Int)=(d:Int):=λx=>⟨(x % (m:Int)).toNat,by have:=Ap x a;have:=An9 x (Int.ne_of_gt a);lia,by have:=An9 x (Int.ne_of_gt a);lia⟩
 cases c:(u9 (0<=v)&&u9 (v<1000000000000000000))with
 | false=>
  obtain⟨d,b,f⟩:=l v
  refine⟨d,v / (m:Int),b,?_⟩
  have u:dC .divmod [.v (.int v),.i m] h=ag (.tup [.int (v / (m:Int)),.n d]) h:=by
   rw [Nf,if_pos ⟨a,by rw [GR];lia⟩,f]
  rw [qa (w:= .i d) (h1:=h.set r (ah ns i (v / (m:Int))))]
  .exact Ga _ h _ (by rw [Ae1])
  refine(xr (h1:=h) (by rw [g,c];rfl)).trans ?_
  refine(za (by
   rw [exec,show eval (k8 k) (.bi .divmod (.b (.ix .v0 (.int 2)) .v1)) [k0 (.r r),si m,y0] h=ag (.tup [.int (v / (m:Int)),.n d]) h by simp_all [zu e,kM,u]]
   simp_all [ag,gf,Kn,e,M5,Km,if_true]
   rfl)).trans ?_
  exact qa rfl
 | true=>
  rw [Aa1,decide_eq_true_eq,decide_eq_true_eq]at c
  have B:Gj .mul v 742939=k0 (v*742939):=oi _ _ (by decide)
  have y:Gj .mul (i:Int) 65063=k0 ((i:Int)*65063):=oi _ _ (by decide)
  have o:Gj .mod (v*742939+(i:Int)*65063+40503) 16777213=k0 ((v*742939+(i:Int)*65063+40503) % 16777213):=ZJ _ _ (by decide)
  have z:=An9 (v*742939+(i:Int)*65063+40503) (show (16777213:Int)≠0 by decide)
  have A:=Ap (v*742939+(i:Int)*65063+40503) (show (0:Int)<16777213 by decide)
  generalize G:(v*742939+(i:Int)*65063+40503) % 16777213=w at o z A
  have i1:eval (k8 k) (.ix .v0 (.int 1)) [k0 (.r r),si m,y0] h= .ok (.i i) h:=by simp_all [zu e,xZ]
  have e2:(h.set r (ah ns i w))[r]? =k0 (ah ns i w):=Ab9 q
  obtain⟨d,b,f⟩:=l (w*(w % 4093+7) / 64)
  refine⟨d,w,b,?_⟩
  rw [xa (by rw [g,decide_eq_true c.1,decide_eq_true c.2];rfl)]
  rw [za (τ1:= [k0 (.r r),si m,y0]) (h1:=h.set r (ah ns i w)) (wz (d:= .int w) (xs:= [.lst (ns.map .int),.n i,.int v]) (n:=2) (by
   simp_all [zu e,xZ,kM,B,y,Jc,o]) rfl e rfl rfl rfl)]
  have C:=An9 w (show (4093:Int)≠0 by decide)
  have E:=Ap w (show (0:Int)<4093 by decide)
  have t:Gj .mod w 4093=k0 (w % 4093):=ZJ _ _ (by decide)
  have s:Gj .mul w (w % 4093+7)=k0 (w*(w % 4093+7)):=oi _ _ (by lia)
  have p:Gj .fdiv (w*(w % 4093+7)) 64=k0 (w*(w % 4093+7) / 64):=sL _ _ (by decide) (by decide)
  have n4:Gj .mod (w*(w % 4093+7) / 64) (m:Int)=k0 ((d:Nat):Int):=by rw [ZJ _ _ a,f]
  rw [qa (w:= .i d) (h1:=h.set r (ah ns i w)) (Ja rfl (by simp_all [zu e2,kM,t,Jc,s,p,n4]))]
  exact Ga _ h _ (by rw [Ae1])
def yr {ns:List Int}(b:ns.length<=63) (q:eval F e τ h= .ok (.l (ns.map .int)) h): ∃s,eval F (.bi .sum (.a (.fc e (.int j)))) τ h= .ok (.v (.int s)) h:=by
 have a:(cut ns y0 (k0 j)).length<=bf:=by
  have:=F7 ns y0 (k0 j)
  rw [Gg];lia
 refine⟨(cut ns y0 (k0 j)).sum,?_⟩
 simp_all [q,pW,HL,tQ,Q3,Aa,a,if_true]
def Hh (k) (ns:List Int) (a:ns.length<=63) (h): ∃v,call prog (k+1) "_law_start" [.l (ns.map .int)] h= .ok (.own [.lst (ns.map .int),.n (0),.int v]) h:=by
 show ∃v,Gw _ (execs _ _ [k0 _] h)=_
 obtain⟨s,e⟩:=yr (F:=(k8 k)) (e:= .var 0) (τ:= [k0 (.l (ns.map .int))]) (h:=h) (j:=1) a (by simp_all [])
 refine⟨s,?_⟩
 simp only [qL]
 rw [qa (w:= .own [.lst (ns.map .int),.n (0),.int s]) (h1:=h) (XC rfl (by
  generalize E.bi _ _=X at e ⊢
  simp_all [e]
  rfl)),Gv _ _ _ rfl]
def yO (k)(j:ns.length<=63) (e:h[r]? =k0 (ah ns i v)):
 ∃v':Int,call prog (k+1) "_law_turn" [.r r] h= .ok (.v .au) (h.set r (ah ns (i+1) v')):=by
 rw [Gb rfl _ _ _ rfl]
 have f:r<h.length:=(Aa0.mp e).1
 have e1:(h.set r (ah ns (i+1) v))[r]? =k0 _:=Ab9 f
 show ∃v',Gw _ (execs _ _ [k0 (.r r)] h)=_
 simp only [QQ]
 obtain⟨s,g⟩:=yr (F:=(k8 k)) (e:= .ix .v0 (.int 0)) (τ:= [k0 (.r r)]) (h:=h.set r (ah ns (i+1) v)) j (by simp_all [zu e1,km])
 have o:Gj .mul 7 _=k0 (7*((i+1:Nat):Int)):=Na _ _ (by decide)
 have l: ∀x:Int,Gj .mod x 16777213=k0 _:=λx=>ZJ _ _ (by decide)
 have a: ∀x y,(h.set r (ah ns (i+1) x)).set r _=h.set r (ah ns (i+1) y):=λx y=>Ad8 ..
 have i1:((i:Int)+1)=((i+1:Nat):Int):=rfl
 generalize m:(7*((i+1:Nat):Int)+s) % 16777213=w
 have e2:(h.set r (ah ns (i+1) w))[r]? =k0 _:=Ab9 f
 rw [za (h1:=h.set r (ah ns (i+1) v)) (wz (d:= .n (i+1)) (xs:= [.lst (ns.map .int),.n i,.int v]) (n:=1) (by simp_all [zu e,xZ,Jc,i1]) rfl e rfl rfl rfl)]
 rw [za (τ1:= [k0 (.r r)]) (h1:=h.set r (ah ns (i+1) w)) (wz (d:= .int w) (xs:= [.lst (ns.map .int),.n (i+1),.int v]) (n:=2) (by
  generalize E.bi _ _=X at g ⊢
  simp_all [g,zu e1,xZ,o,Jc,l,m]) rfl e1 rfl rfl (a v w).symm)]
 have c:Gm (k8 k) (.cmp .lt (.ix .v0 (.int 1)) (.bi .len (.a (.ix .v0 (.int 0))))) [k0 (.r r)] (h.set r (ah ns (i+1) w))= .ok (u9 (i+1<ns.length)) (h.set r (ah ns (i+1) w)):=by
  have:(u9 (((i+1:Nat):Int)<(ns.length:Int)))=u9 (i+1<ns.length):=decide_eq_decide.mpr (by lia)
  simp_all [zu e2,xZ,km,Qx,ag,Aa,Z1,this]
 by_cases q:i+1<ns.length
 .refine⟨ns[i+1],?_⟩
  have b:aP (ns.map D.int) ((i+1:Nat):Int)=k0 (.int ns[i+1]):=by
   rw [Zd _ _ (by rw [Aa];exact q),Ac,Aa4 q];rfl
  rw [za (τ1:= [k0 (.r r)]) (h1:=h.set r (ah ns (i+1) ns[i+1])) ((xr (h1:=h.set r (ah ns (i+1) w)) (by rw [c,decide_eq_true q])).trans (by
   rw [za (τ1:= [k0 (.r r)]) (h1:=h.set r (ah ns (i+1) ns[i+1])) (wz (d:= .int ns[i+1]) (xs:= [.lst (ns.map .int),.n (i+1),.int w]) (n:=2) (by
    simp_all [zu e2,km,xZ,zr,b]) rfl e2 rfl rfl (a w _).symm),execs]))]
  rw [execs]
  exact Gz _ h _ (by rw [Ae1])
 .refine⟨w,?_⟩
  rw [xa (by rw [c,decide_eq_false q]),execs]
  exact Gz _ h _ (by rw [Ae1])
def V.uniq (h:V n v g) (q:V n w g):v=w:=Wf.et h.lt q.lt λk a=>by
 have b:=h.2 _ _ (Wf.bb a) (Wf.aW a)
 have c:=q.2 _ _ (Wf.bb a) (Wf.aW a)
 rw [Wf.bu]at b c
 rw [Bool.eq_iff_iff,b,c]
theorem B.uniq (h:B a b e v u) (q:B a b e v' u'):v=v'/\u=u':=⟨h.lo.uniq q.lo,h.hi.uniq q.hi⟩
theorem gw.uniq (h:gw a b f p) (k:gw a b f q):p=q:=by
 cases f with
 | dH x y=>
  obtain⟨v,u,l,m,c,g,rfl⟩:=h
  obtain⟨w,t,i,n,d,e,rfl⟩:=k
  obtain⟨rfl,rfl⟩:=c.uniq d
  obtain⟨rfl,rfl⟩:=g.uniq e
  rfl
 | dZ x y=>
  obtain⟨v,u,l,m,c,g,rfl⟩:=h
  obtain⟨w,t,i,n,d,e,rfl⟩:=k
  obtain⟨rfl,rfl⟩:=c.uniq d
  obtain⟨rfl,rfl⟩:=g.uniq e
  rfl
 | d4 x=>
  obtain⟨v,u,c,rfl⟩:=h
  obtain⟨w,t,d,rfl⟩:=k
  obtain⟨rfl,rfl⟩:=c.uniq d
  rfl
 | au x=>
  obtain⟨v,u,c,rfl⟩:=h
  obtain⟨w,t,d,rfl⟩:=k
  obtain⟨rfl,rfl⟩:=c.uniq d
  rfl
 | cnt s j x=>
  obtain⟨v,u,c,rfl⟩:=h
  obtain⟨w,t,d,rfl⟩:=k
  obtain⟨rfl,rfl⟩:=c.uniq d
  rfl
theorem Td.uniq : ∀ {s}{p q},Td a b s p->Td a b s q->p=q
 | .fact _,_,_,h,k=>gw.uniq h k
 | .neg _,_,_,⟨p,h,e⟩,⟨q,k,c⟩=>by rw [e,c,Td.uniq h k]
 | .bU _ _,_,_,⟨p,q,h,f,e⟩,⟨g,i,k,d,c⟩=>by rw [e,c,Td.uniq h k,Td.uniq f d]
 | .bP _ _,_,_,⟨p,q,h,f,e⟩,⟨g,i,k,d,c⟩=>by rw [e,c,Td.uniq h k,Td.uniq f d]
theorem rW : ∀ {N},((aM N f).lookup t).isSome=u9 (t∈N)
 | []=>rfl
 | y::N=>by
  show(Aj t ((y,_)::aM N f)).isSome=_
  rw [Ab7]
  by_cases e:t=y
  .subst e;rw [beq_self_eq_true,decide_eq_true Aa5];rfl
  .rw [beq_eq_false_iff_ne.mpr e]
   rw [rW]
   exact decide_eq_decide.mpr ⟨Aa2 _,λh=>(Ab8.mp h).resolve_left e⟩
def WV (f:Tx->Nat×Nat) (t:Tx) (p:Nat×Nat):Tx->Nat×Nat:=λx=>if x=t then p else f x
def Ar (h:t∈N):GE (aM N f) t (a8 p.1 p.2)=aM N (WV f t p):=by
 unfold GE aM
 rw [if_pos (Ad2.mpr ⟨_,Ab6.mpr ⟨t,h,rfl⟩,by simp⟩)]
 rw [Ad1]
 refine Ai1 λx a=> ?_
 show(if x=t then(x,a8 p.1 p.2)else(x,a8 (f x).1 (f x).2))=(x,a8 (WV f t p x).1 (WV f t p x).2)
 unfold WV
 by_cases e:x=t
 .rw [if_pos e,if_pos e]
 .rw [if_neg e,if_neg e]
def Zn (k) (d) (h) (a:Gd d=u0):call prog (k+1) "_law_whole" [.v d] h= .ok (.b (Qr d)) h:=by
 cases d<;>first | exact Ga _ _ _ rfl | cases a
abbrev yY (n r:Nat) (c dn a d:D) (b x7 x8 x9 x10:Option W):Sl:= [si n,k0 (.r r),sv c,sv dn,sv a,sv d,b,x7,x8,x9,x10]
def wu (e:h[r]? =k0 (.aN ks)):GV h (k0 (.r r))=k0 (r,ks):=by unfold GV;simp [e]
def nY (v p:Nat):Gj .band (v:Int) ((2 ^ p:Nat):Int)=k0 ((if v.testBit p then 2 ^ p else 0:Nat):Int):=by
 rw [jc,wd]
 congr 2
 refine Aj8 λk=> ?_
 rw [Ah2,Ad7]
 by_cases e:p=k
 .subst e
  rw [decide_eq_true rfl,Bool.and_true]
  cases v.testBit p with
  | true=>rw [if_pos rfl,Ak1]
  | false=>rw [if_neg Ac2,Af9]
 .rw [decide_eq_false e,Ah7]
  cases v.testBit p with
  | true=>rw [if_pos rfl,Ad7,decide_eq_false e]
  | false=>rw [if_neg Ac2,Af9]
def Di (k)(e:h[r]? =k0 (.aN (aM N f))) (F:n<=4) (i:t∈N) (hN:N.length<=100) (s:a<n) (q:b<n) (o:(f t).1.testBit (a*n+b)=k9) (g:(f t).2.testBit (a*n+b)=u0):
 call prog (k+2) "_law_split" [.i n,.r r,.t [.str t,.n a,.n b]] h= .ok (.own [.ref h.length,.ref (h.length+1)]) (h++ [.aN (aM N (WV f t ((f t).1 ||| 2 ^ (a*n+b),(f t).2))),.aN (aM N (WV f t ((f t).1,(f t).2-2 ^ (a*n+b))))]):=by
 rw [Gb (d:=Jx) rfl _ _ _ rfl]
 have K:r<h.length:=(Aa0.mp e).1
 have y:a*n+b<16:=by
  have:=Wf.place_lt s q
  have:n*n<=16:=Af5 F F
  lia
 have ge:2 ^ _<=(f t).2:=Nat.ge_two_pow_of_testBit g
 generalize M:a*n+b=p at o g y ge ⊢
 have z:(aM N f).length<bf:=by rw [Gg,aM,Aa];lia
 generalize S:(f t).1=A at o ⊢
 generalize H:(f t).2=c at g ge ⊢
 have C:aM N _=GE (aM N f) t _:=(Ar (p:=(A ||| 2 ^ p,c)) i).symm
 have I:aM N _=GE (aM N f) t _:=(Ar (p:=(A,c-2 ^ p)) i).symm
 have v:(aM N f).lookup t=k0 (a8 A c):=by rw [pG i,S,H]
 simp only [Jx]
 have dd:=wu e
 refine fx (by simp_all [];rfl) ?_
 have Z:cR u0 (.s t) (k0 (r,aM N f)) h= .ok (.b k9) h:=by
  unfold cR
  simp only [rW,decide_eq_true i,if_true]
  rfl
 have T:=Zn k (.n a) h rfl
 have P:=Zn k (.n b) h rfl
 have m:bZ .str (.s t)=k0 true:=rfl
 rw [xa (by simp_all [m,dd,Z,T,P,Qr])]
 have j: ∀x:Nat,x<n->((0:Int)<=(x:Int)/\(x:Int)<(n:Int)):=λx hx=>by lia
 rw [xa (by simp_all [jX,Z1,decide_eq_true (j a s).1,decide_eq_true (j a s).2,decide_eq_true (j b q).1,decide_eq_true (j b q).2,ag])]
 have dg:eZ (.s t) (k0 (r,aM N f)) h= .ok (.v (a8 A c)) h:=by unfold eZ;simp only [v]
 refine fx (by simp_all [dd,dg];rfl) ?_
 have Q:Gj .mul (a:Int) (n:Int)=k0 ((a*n:Nat):Int):=je a n (by lia)
 have G:(((a*n:Nat):Int)+(b:Int))=((p:Nat):Int):=by rw [← M];rfl
 have R:=J9 p (by lia)
 refine fx (by simp_all [Q,Jc,G,R];rfl) ?_
 have D:=nY A p
 have B:=nY c p
 rw [o,if_neg Ac2]at D
 rw [g,if_pos rfl]at B
 have p0:0<2 ^ p:=Ad4 p
 have J:Gq .ne (.i (0)) (.v (.int 0)) h=k0 false:=rfl
 have O:Gq .eq (.i (2 ^ p)) (.v (.int 0)) h=k0 false:=by
  have:=Jm (2 ^ p) 0 h
  rw [decide_eq_false (by lia)]at this
  exact this
 rw [xa (by simp_all [D,B,J,O])]
 have Y:((c:Int)-((2 ^ p:Nat):Int))=((c-2 ^ p:Nat):Int):=by lia
 have L:(h++ [Cell.aN (aM N f)])[h.length]? =k0 (.aN (aM N f)):=by simp
 have l:(h++ [Cell.aN (aM N f)]).set h.length (.aN (GE (aM N f) t (a8 (A ||| 2 ^ p) c)))=h++ [.aN (GE (aM N f) t (a8 (A ||| 2 ^ p) c))]:=by simp
 have nr:Gd (a8 (A ||| 2 ^ p) c)=true:=rfl
 have mK:Gd (a8 A (c-2 ^ p))=true:=rfl
 refine fx (by simp_all [dd,ag];rfl) ?_
 rw [za (τ1:=yY n r (.tup [.str t,.n a,.n b]) (.str t) (.n a) (.n b) (si A) (si c) (si (2 ^ p)) (k0 (.r h.length)) y0) (h1:=h++ [.aN (GE (aM N f) t (a8 (A ||| 2 ^ p) c))]) (by
  simp_all [Jo,xn,wu L,ag]
  rw [if_pos ⟨z,nr⟩,l])]
 have E:(h++ [Cell.aN (GE (aM N f) t (a8 (A ||| 2 ^ p) c))])[r]? =k0 (.aN (aM N f)):=by rw [Ac9 K,e]
 generalize GE (aM N f) t (a8 (A ||| 2 ^ p) c)=U at E C ⊢
 have X:(h++ [Cell.aN U]++ [Cell.aN (aM N f)])[h.length+1]? =k0 (.aN (aM N f)):=by simp
 have u:(h++ [Cell.aN U]++ [Cell.aN (aM N f)]).set (h.length+1) (.aN (GE (aM N f) t (a8 A (c-2 ^ p))))=h++ [Cell.aN U,.aN (GE (aM N f) t (a8 A (c-2 ^ p)))]:=by simp [List.set_append]
 have V:(h++ [Cell.aN U]).length=h.length+1:=by simp
 refine fx (by simp_all [wu E,ag,V];rfl) ?_
 rw [za (τ1:=yY n r (.tup [.str t,.n a,.n b]) (.str t) (.n a) (.n b) (si A) (si c) (si (2 ^ p)) (k0 (.r h.length)) (k0 (.r (h.length+1)))) (h1:=h++ [.aN U,.aN (GE (aM N f) t (a8 A (c-2 ^ p)))]) (by
  simp_all [zd,Y,wu X,ag]
  rw [if_pos ⟨z,mK⟩,u])]
 rw [qa (w:= .own [.ref h.length,.ref (h.length+1)]) (h1:=h++ [.aN U,.aN (GE (aM N f) t (a8 A (c-2 ^ p)))]) (XC rfl (by simp_all [])),C,I]
 show fin h.length (.own [.ref h.length,.ref (h.length+1)]) _=_
 unfold fin
 rw [if_neg (by simp),if_neg (by simp [W.keep])]
abbrev Pl:=Tx×Nat×Nat
def bL (p:Pl):D:= .tup [.str p.1,.n (p.2.1),.n (p.2.2)]
def eW (n:Nat) (t:Tx):List Pl:=(Aa3 n).map λa=>(t,a,a)
def fT (n:Nat) (t:Tx):List Pl:=(Wf.aw n (2 ^ (n*n)-1)).map λq=>(t,q.1,q.2)
abbrev e6 (K T:List Tx) (n:Nat) (l:List Pl) (x:Option W):Sl:= [sv (wD K T),si n,k0 (.own (l.map bL)),x]
theorem n3 (g) (c: ∀t,(g t).length<=16) (d: ∀ t l,l.length<=200->execs F b (e6 K T n l (k0 (.s t))) h= .next (e6 K T n (l++g t) (k0 (.s t))) h):
 ∀(a:List Tx) l x,l.length+16*a.length<=200-> ∃i,Gp (Gr [3] u0) (λτ h=>execs F b τ h) (a.map .str) (e6 K T n l x) h= .next (e6 K T n (l++a.flatMap g) i) h
 | [],l,x,_=>⟨x,by simp [Gp]⟩
 | t::a,l,x,f=>by
  rw [Aa8]at f
  have:=c t
  obtain⟨i,e⟩:=n3 g c d a (l++g t) (k0 (.s t)) (by rw [Aa6];lia)
  refine⟨i,?_⟩
  rw [Ab2,zb rfl (d t l (by lia)),e,Ag0,Ae]
def LF (k n) (K T) (h) (p:n<=4) (E:K.length<=4) (F:T.length<=4):call prog (k+3) "places_of" [.v (wD K T),.i n] h= .ok (.own ((K.flatMap (eW n)++T.flatMap (fT n)).map bL)) h:=by
 rw [Gb (d:=zy) rfl _ _ _ rfl]
 have f:n*n<=16:=Af5 p p
 simp only [zy]
 have j: ∀t,(eW n t).length<=16:=λt=>by simp [eW];lia
 have lt: ∀t,(fT n t).length<=16:=λt=>by
  rw [fT,Aa,Wf.aw,Aa]
  exact Ab5 (Aj0 _ _) (by rw [Ae9];exact f)
 have o: ∀(c:List Tx) (g:Tx->List Pl),(∀ t,(g t).length<=16)->(c.flatMap g).length<=16*c.length:=λc g m=>by
  induction c with
  | nil=>simp
  | cons t c H=>rw [Ag0,Aa6,Aa8];have:=m t;lia
 have ext: ∀ e b (g:Tx->List Pl),(∀ t,(g t).length<=16)->b= .a (.ext 2 e)->(∀ (t:Tx) (l:List Pl),eval (k8 (k+2)) e (e6 K T n l (k0 (.s t))) h= .ok (.own ((g t).map bL)) h)-> ∀(t:Tx) (l:List Pl),l.length<=200->execs (k8 (k+2)) b (e6 K T n l (k0 (.s t))) h= .next (e6 K T n (l++g t) (k0 (.s t))) h:=λe b g m v r t l D=>by
  have B:(l.map bL).length+((g t).map bL).length<bf:=by rw [Gg,Aa,Aa];have:=m t;lia
  rw [v,za (τ1:=e6 K T n (l++g t) (k0 (.s t))) (h1:=h) (by rw [exec];simp_all [r,B,if_true];rw [← Ae0]),execs]
 have u:=ext Zq jB _ j rfl λt l=>by
  unfold Zq
  rw [wn (n:=n) (λa=>bL (t,a,a)) rfl (by lia) λa G=>⟨.v _,by simp_all [];rfl,rfl⟩]
  rw [eW,Ad1];rfl
 have A:=ext Xq wA _ lt rfl λt l=>by
  unfold Xq
  have s:Gk (k8 (k+2)) (.seq (.call "pairs_of" (.b .v1 (.call "every" (.a .v1))))) (e6 K T n l (some (.s t))) h= .ok ((Wf.aw n (2 ^ (n*n)-1)).map pD) h:=by
   simp_all [sN _ n h (by lia),Qu _ n _ h (by lia)]
  rw [zm (h:=h) (ds:=(Wf.aw n (2 ^ (n*n)-1)).map pD) (λd=>match d with | .tup [x,y]=> .tup [.str t,x,y] | d=>d) s (by rw [Gg,Aa,Wf.aw,Aa];have:=Aj0 (2 ^ (n*n)-1).testBit (Aa3 (n*n));rw [Ae9]at this;lia)]
  .rw [fT,Ad1,Ad1];rfl
  .intro d C
   obtain⟨q,_,rfl⟩:=Ab6.mp C
   exact⟨[si _,si _,k0 _],rfl,.t [.str t,.n _,.n _],by simp_all [],rfl⟩
 obtain⟨i,e1⟩:=n3 _ j u K [] y0 (by simp;lia)
 obtain⟨z,e2⟩:=n3 _ lt A T (K.flatMap (eW n)) i (by have:=o K (eW n) j;lia)
 rw [Ae7]at e1
 rw [za (τ1:=e6 K T n [] y0) (h1:=h) rfl]
 rw [za (τ1:=e6 K T n (K.flatMap (eW n)) i) (h1:=h) (by
  rw [exec,show Gs (k8 (k+2)) (.seq (.ix .v0 (.int 0))) (e6 K T n [] y0) h= .ok (K.map .str) h by simp_all [aa,Qh],R.ar];exact e1)]
 rw [za (τ1:=e6 K T n (K.flatMap (eW n)++T.flatMap (fT n)) z) (h1:=h) (by
  rw [exec,show Gs (k8 (k+2)) (.seq (.ix .v0 (.int 1))) (e6 K T n (K.flatMap (eW n)) i) h= .ok (T.map .str) h by simp_all [aa,Zf],R.ar];exact e2)]
 rw [qa (w:= .own ((K.flatMap (eW n)++T.flatMap (fT n)).map bL)) (h1:=h) rfl,Gv _ _ _ rfl]
noncomputable abbrev lu:List Tx:= [gm,gX,fY,gW,[101,97,99,104],fH,hF,f6,eP,eM,ip,iX,[107,105,110,100],[116,105,101],[115,97,121]]
def zW (st:Tx) (at' f k:Nat):Tx:=st.take at'++ [97+(f+5*k) % 26]++st.drop at'
def cM (st:Tx) (at' f k:Nat):Tx:=if zW st at' f k∈lu then zW st at' f k++ [113]else zW st at' f k
def sU (h:at'<=st.length):(cM st at' f k)[at']? =k0 (97+(f+5*k) % 26):=by
 have b:(zW st at' f k)[at']? =k0 (97+(f+5*k) % 26):=by
  unfold zW
  rw [Ae,Ad9 (by simp_all),Af6,Ak5 h,Am3]
  rfl
 unfold cM
 split
 .rw [Ac9 (Aa0.mp b).1];exact b
 .exact b
def Fq (a:st.length<=6):(cM st at' f k).length<=8:=by
 have b:(zW st at' f k).length<=7:=by
  unfold zW
  rw [Aa6,Aa6,Af6,Af7]
  simp only [Aa8,Ad3]
  lia
 unfold cM
 split
 .rw [Aa6];simp [Ad3];lia
 .lia
def A6 (st) (at' f m) (h:at'<=st.length) (a:m<=8):((Aa3 m).map (cM st at' f)).Nodup:=ua _ m a λi b j c ne z=>by
 have e1:=sU (f:=f) (k:=i) h
 rw [z,(sU (f:=f) (k:=j) h)]at e1
 have:=Ad6.inj e1
 lia
abbrev c8 (r m:Nat) (f:Nat) (b x5 a x7 x8:Option W):Sl:= [k0 (.r r),si m,k0 (.s kX),si f,b,x5,a,x7,x8]
theorem yF (k): ∀(l:List Nat) h v st x,h[r]? =k0 (ah ns i v)->st.length+l.length<=6-> ∃ L v' M,L.length<=6 ∧
 Gp (Gr [5] u0) (λτ h=>execs (k8 (k+1)) Qq τ h) (l.map λj=>D.n j) (c8 r m f (k0 (.s st)) x y0 y0 y0) h= .next (c8 r m f (k0 (.s L)) M y0 y0 y0) (h.set r (ah ns i v'))
 | [],h,v,st,x,e,a=>⟨st,v,x,by simpa using a,by
  rw [show h.set r (ah ns i v)=h by
   refine List.ext_getElem? λj=> ?_
   by_cases q:r=j
   .subst q
    rw [Ab9 (Aa0.mp e).1,e]
   .rw [Ae4 q]]
  rfl⟩
 | j::l,h,v,st,x,e,a=>by
  rw [Aa8]at a
  obtain⟨d,v1,g,e1⟩:=xh k e (m:=26) (by decide) (by decide)
  have c:=(Aa0.mp e).1
  obtain⟨L,v',M,b,e2⟩:=yF k l (h.set r (ah ns i v1)) v1 (st++ [97+d]) (si j) (Ab9 c) (by rw [Aa6];simp;lia)
  rw [Ad8]at e2
  refine⟨L,v',M,b,?_⟩
  have e1:call prog (k+1) "_law_draw" [.r r,.v (.int 26)] h= .ok (.i d) (h.set r (ah ns i v1)):=e1
  rw [Ab2,zb (τ1:=c8 r m f (k0 (.s st)) (si j) y0 y0 y0) rfl (by
   unfold Qq
   rw [za (τ1:=c8 r m f (k0 (.s (st++ [97+d]))) (si j) y0 y0 y0) (h1:=h.set r (ah ns i v1)) (by simp_all [e1,JD d g,add_str st [97+d] _ (by simp;lia)]),execs]),e2]
theorem tm (v:st.length<=6) (h): ∀ c j x5 x8,j+c<=100-> ∃M L,Gp (Gr [5] u0) (λτ h=>execs F Jk τ h) ((Aa3 c).map λi=>D.n (j+i)) (c8 r m f (k0 (.s st)) x5 (si at') (k0 (.own (((Aa3 j).map (cM st at' f)).map .str))) x8) h= .next (c8 r m f (k0 (.s st)) M (si at') (k0 (.own (((Aa3 (j+c)).map (cM st at' f)).map .str))) L) h
 | 0,j,x5,x8,_=>⟨x5,x8,rfl⟩
 | c+1,j,x5,x8,G=>by
  obtain⟨y,s,e⟩:=tm v h c (j+1) (si (j)) (k0 (.s (cM st at' f j))) (by lia)
  refine⟨y,s,?_⟩
  have n:execs F Jk (c8 r m f (k0 (.s st)) (si (j)) (si at') (k0 (.own (((Aa3 j).map (cM st at' f)).map .str))) x8) h= .next (c8 r m f (k0 (.s st)) (si (j)) (si at') (k0 (.own (((Aa3 (j+1)).map (cM st at' f)).map .str))) (k0 (.s (cM st at' f j)))) h:=by
   have B:Gj .mul 5 (j:Int)=k0 ((5*j:Nat):Int):=je 5 j (by decide)
   have k:((f:Int)+((5*j:Nat):Int))=((f+5*j:Nat):Int):=rfl
   have x:Gj .mod ((f+5*j:Nat):Int) 26=k0 (((f+5*j) % 26:Nat):Int):=nZ _ 26 (by decide)
   have A:=JD ((f+5*j) % 26) (Aj5 _ (by decide)) h
   have o:st.length<=bf:=by rw [Gg];lia
   have z:cut st y0 (k0 (at':Int))=st.take at':=l1 st at'
   have p:cut st (k0 (at':Int)) y0=st.drop at':=ZZ st at'
   have C:(st.take at').length<=6:=by rw [Af6];lia
   have l2:(st.drop at').length<=6:=by rw [Af7];lia
   have d:=add_str (st.take at') [97+(f+5*j) % 26] h (by simp only [Aa8,Ad3];lia)
   have a2:=add_str (st.take at'++ [97+(f+5*j) % 26]) (st.drop at') h (by rw [Aa6];simp only [Aa8,Ad3];lia)
   have E:(zW st at' f j).length<=13:=by
    unfold zW
    rw [Aa6,Aa6]
    simp only [Aa8,Ad3]
    lia
   have a3:=add_str (zW st at' f j) [113] h (by simp only [Aa8,Ad3];lia)
   have l:=ZT (zW st at' f j) lu h
   have w:(((Aa3 j).map (cM st at' f)).map D.str).length<bf:=by rw [Gg,Aa,Aa,Ae9];lia
   have g:((Aa3 (j+1)).map (cM st at' f)).map D.str=((Aa3 j).map (cM st at' f)).map D.str++ [.str (cM st at' f j)]:=by rw [An3];simp
   unfold Jk
   rw [za (τ1:=c8 r m f (k0 (.s st)) (si (j)) (si at') (k0 (.own (((Aa3 j).map (cM st at' f)).map .str))) (k0 (.s (zW st at' f j)))) (by
    simp_all [nz,o,z,p,B,Jc,k,x,A,d,a2]
    rfl)]
   have b:Gm F (.cmp .mem .v8 (.dN yD lu)) (c8 r m f (k0 (.s st)) (si (j)) (si at') (k0 (.own (((Aa3 j).map (cM st at' f)).map .str))) (k0 (.s (zW st at' f j)))) h= .ok (u9 (zW st at' f j∈lu)) h:=by
    rw [Gm,eval,eval]
    rw [show Gi (c8 r m f (k0 (.s st)) (si (j)) (si at') (k0 (.own (((Aa3 j).map (cM st at' f)).map .str))) (k0 (.s (zW st at' f j)))) 8=k0 (.s (zW st at' f j))from rfl,R.ae,eval,R.ae,l]
    rfl
   have a: ∀t:Tx,t=cM st at' f j->execs F (.a (.app 7 .v8)) (c8 r m f (k0 (.s st)) (si (j)) (si at') (k0 (.own (((Aa3 j).map (cM st at' f)).map .str))) (k0 (.s t))) h= .next (c8 r m f (k0 (.s st)) (si (j)) (si at') (k0 (.own (((Aa3 (j+1)).map (cM st at' f)).map .str))) (k0 (.s (cM st at' f j)))) h:=λt u=>by
    subst u
    rw [g]
    simp_all [w,if_true]
   by_cases q:zW st at' f j∈lu
   .rw [za (τ1:=c8 r m f (k0 (.s st)) (si (j)) (si at') (k0 (.own (((Aa3 j).map (cM st at' f)).map .str))) (k0 (.s (zW st at' f j++ [113])))) (h1:=h) ((xr (by rw [b,decide_eq_true q])).trans (by simp_all [a3]))]
    exact a _ (by rw [cM,if_pos q])
   .rw [xa (by rw [b,decide_eq_false q])]
    exact a _ (by rw [cM,if_neg q])
  rw [Ah3,Ab2,Ad1,zb rfl n]
  have:((λi=>D.n (j+i))∘Nat.succ)=λi=>D.n (j+1+i):=by
   funext i
   show D.n (j+(i+1))=_
   rw [show j+(i+1)=j+1+i by lia]
  rw [this,e,show j+1+c=j+(c+1)by lia]
def L4 (c k:Nat):(Ab k [c]).flatten=Ab k c:=by simp
def AA (k)(e:h[r]? =k0 (ah ns i v)) (H:m<=8): ∃(N:List Tx) (E:Int),N.length=m/\N.Nodup/\(∀ t∈N,t.length<=8)/\call prog (k+2) "_law_names" [.r r,.i m] h= .ok (.own (N.map .str)) (h.set r (ah ns i E)):=by
 have K:r<h.length:=(Aa0.mp e).1
 have p: ∀w,_[r]? =k0 (ah ns i w):=λw=>Ab9 K
 have J: ∀w,(h.set r (ah ns i w)).length=h.length:=λw=>Ae1 ..
 rw [Gb (d:=jx) rfl _ _ _ rfl]
 show ∃N E,_/\_/\_/\Gw _ _=_
 simp only [jx]
 obtain⟨f,v1,Q,e1⟩:=xh k e (m:=26) (by decide) (by decide)
 have e1:call prog _ "_law_draw" [.r r,.v (.int 26)] h= .ok _ _:=e1
 obtain⟨d,v2,V,e2⟩:=xh k (p v1) (m:=3) (by decide) (by decide)
 rw [Ad8]at e2
 have e2:call prog _ "_law_draw" [.r r,.v (.int 3)] _= .ok _ _:=e2
 rw [za (τ1:= [k0 (.r r),si m,k0 (.s kX),y0,y0,y0,y0,y0,y0]) (h1:=h) rfl]
 rw [za (τ1:=c8 r m f y0 y0 y0 y0 y0) (h1:=h.set r (ah ns i v1)) (by simp_all [e1])]
 have L: ∀h,Gq .eq _ (.v (.int 0)) h=k0 (u9 (d=0)):=λh=>Jm d 0 h
 have B:Gm (k8 (k+1)) (.cmp .eq (.call "_law_draw" (.b .v0 (.int 3))) (.int 0)) (c8 r m f none none none none none) (h.set r (ah ns i v1))= .ok (decide (d=0)) (h.set r (ah ns i v2)):=by simp_all [e2,L]
 by_cases q:d=0
 .refine⟨(Aa3 m).map λj=>Ab (j+1) (97+f),v2,by simp,ua _ m H (λa O b G ne z=>by have:=congrArg List.length z;simp at this;lia),λt x=> ?_,?_⟩
  .obtain⟨j,y,rfl⟩:=Ab6.mp x
   rw [Ae2]
   have:=Ab4.mp y
   lia
  .rw [qa (w:= .own (((Aa3 m).map λj=>Ab (j+1) (97+f)).map .str)) (h1:=h.set r (ah ns i v2)) ((xr (h1:=h.set r (ah ns i v2)) (by rw [B,decide_eq_true q])).trans (qa (XC rfl ?_)))]
   .exact Gv _ h _ (J v2)
   .unfold xB
    rw [wn (n:=m) (λj=> .str (Ab (j+1) (97+f))) rfl (by lia) λj y=>⟨.s (Ab (j+1) (97+f)),?_,rfl⟩]
    .rw [Ad1];rfl
    .have u:((j:Int)+1)=((j+1:Nat):Int):=rfl
     have I:=mul_str [97+f] (j+1) (h.set r (ah ns i v2)) (by lia) (by simp;lia)
     rw [L4]at I
     simp_all [JD f Q,Jc,u,I]
 .rw [za (τ1:=c8 r m f y0 y0 y0 y0 y0) (h1:=h.set r (ah ns i v2)) ((g6 (h1:=h.set r (ah ns i v2)) (by rw [B,decide_eq_false q])).trans rfl)]
  rw [za (τ1:=c8 r m f (k0 (.s [])) y0 y0 y0 y0) (h1:=h.set r (ah ns i v2)) rfl]
  obtain⟨c,v3,U,o⟩:=xh k (p v2) (m:=6) (by decide) (by decide)
  rw [Ad8]at o
  have o:call prog (k+1) "_law_draw" [.r r,.v (.int 6)] (h.set r (ah ns i v2))= .ok (.i c) (h.set r (ah ns i v3)):=o
  obtain⟨g,v4,s,l,C⟩:=yF k (ns:=ns) (i:=i) (r:=r) (m:=m) (f:=f) (Aa3 c) (h.set r (ah ns i v3)) v3 [] y0 (p v3) (by simp;lia)
  rw [Ad8]at C
  have T:Gs (k8 (k+1)) (.aj (.call "_law_draw" (.b .v0 (.int 6)))) (c8 r m f (some (.s [])) none none none none) (h.set r (ah ns i v2))= .ok ((List.range c).map fun i=> .n i) (h.set r (ah ns i v3)):=by
   have G: -fL<=(c:Int)/\(c:Int)<fL:=by rw [GQ];lia
   simp_all [o]
   rw [if_pos G,Ad5]
  rw [za (τ1:=c8 r m f (k0 (.s g)) s y0 y0 y0) (h1:=h.set r (ah ns i v4)) (by rw [exec,T,R.ar];exact C)]
  obtain⟨a,v5,O,D⟩:=xh k (p v4) (m:=g.length+1) (by lia) (by lia)
  rw [Ad8]at D
  have M:g.length<=bf:=by rw [Gg];lia
  have u:((g.length:Int)+1)=((g.length+1:Nat):Int):=rfl
  rw [za (τ1:=c8 r m f (k0 (.s g)) s (si a) y0 y0) (h1:=h.set r (ah ns i v5)) (by simp_all [len_str,M,if_true,ag,Jc,u,D])]
  rw [za (τ1:=c8 r m f (k0 (.s g)) s (si a) (k0 (.own [])) y0) (h1:=h.set r (ah ns i v5)) rfl]
  obtain⟨S,P,A⟩:=tm (F:=(k8 (k+1))) (r:=r) (m:=m) (f:=f) (at':=a) l (h.set r (ah ns i v5)) m 0 s y0 (by lia)
  simp only [Ak0]at A
  rw [za (τ1:=c8 r m f (k0 (.s g)) S (si a) (k0 (.own (((Aa3 m).map (cM g a f)).map .str))) P) (h1:=h.set r (ah ns i v5)) (by rw [exec,kP (n:=m) rfl (by lia),R.ar];exact A)]
  refine⟨(Aa3 m).map (cM g a f),v5,by simp,A6 g a f m (by lia) H,λt x=> ?_,?_⟩
  .obtain⟨j,y,rfl⟩:=Ab6.mp x
   exact Fq l
  .rw [qa (w:= .own (((Aa3 m).map (cM g a f)).map .str)) (h1:=h.set r (ah ns i v5)) rfl]
   exact Gv _ h _ (J v5)
abbrev c6:List (Nat×Nat×Nat):= [(0,1,2),(1,1,1),(0,1,2),(1,0,3),(2,0,2),(0,1,1),(1,0,2),(1,1,0),(2,1,1)]
def cq (p:Nat×Nat×Nat):D:= .tup [.n (p.1),.n (p.2.1),.n (p.2.2)]
structure bz (n:Nat) (K T:List Tx):Prop where
 n4:n<=4
 k4:K.length<=4
 t4:T.length<=4
 b6:K.length*n+T.length*(n*n)<=6
 nd:(K++T).Nodup
 l8: ∀t∈K++T,t.length<=8
abbrev m3 (r:Nat) (l:List D) (a b c:Option W) (x:Option W):Sl:= [k0 (.r r),k0 (.l l),a,b,c,x]
def Ml (k)(e:h[r]? =k0 (ah ns i v)): ∃ n K T v',bz n K T/\call prog (k+3) "_law_words" [.r r] h= .ok (.t [.n n,wD K T]) (h.set r (ah ns i v')):=by
 have F:r<h.length:=(Aa0.mp e).1
 have C: ∀w,_[r]? =k0 (ah ns i w):=λw=>Ab9 F
 have O: ∀w,(h.set r (ah ns i w)).length=h.length:=λw=>Ae1 ..
 rw [Gb rfl _ _ _ rfl]
 show ∃n K T v',_/\Gw _ _=_
 simp only [zI]
 obtain⟨d,v1,z,e1⟩:=xh _ e (m:=9) (by decide) (by decide)
 have e1:call prog _ "_law_draw" [.r r,.v _] h= .ok _ _:=e1
 have E: ∀p∈c6,p.1+p.2.1<=8/\p.2.2<=4/\p.1<=4/\p.2.1<=4/\p.1*p.2.2+p.2.1*(p.2.2*p.2.2)<=6:=by decide
 obtain⟨⟨a,b,n⟩,s⟩: ∃p,c6[d]? =k0 p:=⟨c6[d],Aa4 z⟩
 obtain⟨o,j,q,l,H⟩:=E _ (Ac4 s)
 have o:a+b<=8:=o
 have j:n<=4:=j
 have q:a<=4:=q
 have l:b<=4:=l
 have f:aP (c6.map cq) (d:Int)=k0 (cq (a,b,n)):=by
  rw [Zd _ _ (by rw [Aa];exact z),Ac,s];rfl
 obtain⟨N,v2,P,nn,B,e2⟩:=AA k (C v1) (m:=a+b) o
 rw [Ad8]at e2
 have g:((a:Int)+(b:Int))=((a+b:Nat):Int):=rfl
 refine⟨n,GA (N.take a),GA (N.drop a),v2,?_,?_⟩
 .have u:=zl (N.take a)
  have pt:=zl (N.drop a)
  have x:(GA (N.take a)).length=a:=by rw [u.length_eq,Af6];lia
  have lt:(GA (N.drop a)).length=b:=by rw [pt.length_eq,Af7];lia
  have y:(GA (N.take a)++GA (N.drop a)).Perm N:=(u.append pt).trans (by rw [List.take_append_drop])
  exact⟨j,by rw [x];exact q,by rw [lt];exact l,by rw [x,lt];exact H,y.nodup_iff.mpr nn,λt I=>B t (y.mem_iff.mp I)⟩
 .rw [za (τ1:=m3 r (c6.map cq) y0 y0 y0 y0) (h1:=h) rfl]
  rw [za (τ1:=m3 r (c6.map cq) (si a) (si b) (si n) y0) (h1:=h.set r (ah ns i v1)) (by
   rw [exec,show eval (k8 (k+2)) (.ix .v1 (.call "_law_draw" (.b .v0 (.bi .len (.a .v1))))) (m3 r (c6.map cq) none none none none) h= .ok (.v (cq (a,b,n))) (h.set r (ah ns i v1))by
    have Q:((c6.map cq).length:Int)=9:=rfl
    have c:call prog (k+2) "_law_draw" [.r r,.v (.int ((c6.map cq).length:Int))] h= .ok (.i d) (h.set r (ah ns i v1)):=e1
    generalize c6.map cq=L at f c ⊢
    simp_all [Qx,ag,c,zr,f]]
   rfl)]
  rw [za (τ1:=m3 r (c6.map cq) (si a) (si b) (si n) (k0 (.l (N.map .str)))) (h1:=h.set r (ah ns i v2)) (by simp_all [Jc,g,e2])]
  have M:=jQ (N.take a) (h.set r (ah ns i v2)) (by rw [Af6];lia)
  have A:=jQ (N.drop a) (h.set r (ah ns i v2)) (by rw [Af7];lia)
  have J:cut (N.map D.str) y0 (k0 (a:Int))=(N.take a).map D.str:=by rw [l1,List.map_take]
  have G:cut (N.map D.str) (k0 (a:Int)) y0=(N.drop a).map D.str:=by rw [ZZ,List.map_drop]
  rw [qa (w:= .t [.n n,wD (GA (N.take a)) (GA (N.drop a))]) (h1:=h.set r (ah ns i v2)) (Ja rfl (by
   simp_all [pW,J,G,M,A,qW,ag]))]
  exact Ga _ h _ (O v2)
def D5 (s:Nat) (h1:3<=s) (b:s<5): ∃f:Ex->Ex,(∀ a,(f a).dp=a.dp+1)/\(∀ N a,a.wf N->(f a).wf N)/\ ∃t,aP [D.str qj,.str Xi] ((s:Int)-3)=k0 (.str t)/\ ∀a,aV (f a)= .tup [.str t,aV a]:=by
 match s,h1,b with
 | 3,_,_=>exact⟨.turned,λ_=>rfl,λ_ _ h=>h,qj,rfl,λ_=>rfl⟩
 | 4,_,_=>exact⟨.closed,λ_=>rfl,λ_ _ h=>h,Xi,rfl,λ_=>rfl⟩
 | s+5,_,h=>exact absurd h (by lia)
def Bv (s:Nat) (h1:5<=s) (c:s<10): ∃f:Ex->Ex->Ex,(∀ a b,(f a b).dp=max a.dp b.dp+1)/\(∀ N a b,a.wf N->b.wf N->(f a b).wf N)/\ ∃t,aP [D.str zF,.str qr,.str zB,.str jg,.str jg] ((s:Int)-5)=k0 (.str t)/\ ∀a b,aV (f a b)= .tup [.str t,aV a,aV b]:=by
 match s,h1,c with
 | 5,_,_=>exact⟨.plus,λ_ _=>rfl,λ_ _ _ h g=>⟨h,g⟩,zF,rfl,λ_ _=>rfl⟩
 | 6,_,_=>exact⟨.less,λ_ _=>rfl,λ_ _ _ h g=>⟨h,g⟩,qr,rfl,λ_ _=>rfl⟩
 | 7,_,_=>exact⟨.both,λ_ _=>rfl,λ_ _ _ h g=>⟨h,g⟩,zB,rfl,λ_ _=>rfl⟩
 | 8,_,_=>exact⟨.joined,λ_ _=>rfl,λ_ _ _ h g=>⟨h,g⟩,jg,rfl,λ_ _=>rfl⟩
 | 9,_,_=>exact⟨.joined,λ_ _=>rfl,λ_ _ _ h g=>⟨h,g⟩,jg,rfl,λ_ _=>rfl⟩
 | s+10,_,h=>exact absurd h (by lia)
abbrev iU (r:Nat) (N:List Tx) (g p:Nat) (b x5 a:Option W):Sl:= [k0 (.r r),k0 (.l (N.map .str)),si g,si p,b,x5,a]
def fy (N:List Tx):List Ex:=(N++N).map .name++ [.same,.all,.none]
def mj (h:e∈fy N):e.wf N/\e.dp=0:=by
 obtain h | h:=Ac8.mp h
 .obtain⟨t,a,rfl⟩:=Ab6.mp h
  exact⟨(Ac8.mp a).elim id id,rfl⟩
 .have:e= .same\/e= .all\/e= .none:=by simpa using h
  rcases this with rfl | rfl | rfl<;>exact⟨trivial,rfl⟩
def yS (m)(l:N.length<=8) (e:h[r]? =some (ah ns i v)): ∃ x v',x∈fy N/\execs (k8 (m+1)) (.b (.af 4 (.bin .add (.bin .mul Qe (.int 2)) (.lst (.c (.tup (.a (.str Zg))) (.tup (.a (.str jp))) (.tup (.a (.str Xh))))))) (.ret (.ix .v4 (.call "_law_draw" (.b .v0 (.bi .len (.a .v4))))))) (iU r N g p none none none) h= .ret (.v (aV x)) (h.set r (ah ns i v')):=by
 have k:(fy N).length=2*N.length+3:=by simp [fy];lia
 obtain⟨d,v1,b,e1⟩:=xh m e (m:=(fy N).length) (by lia) (by lia)
 refine⟨_[d],v1,Al4 b,?_⟩
 have c:eval (k8 (m+1)) Qe (iU r N g p y0 y0 y0) h= .ok (.own (N.map λt=>aV (.name t))) h:=by
  unfold Qe
  rw [zm (ds:=N.map .str) (λd=> .tup [.str wh,d]) (by simp_all []) (by rw [Gg,Aa];lia)]
  .rw [Ad1];rfl
  .intro d b
   exact⟨[sv d],rfl,.t [.str wh,d],by simp_all [],rfl⟩
 have f:=CY (N.map λt=>aV (.name t)) 2 h (by decide) (by rw [Aa];lia)
 have j:GU .add (.own (Ab 2 (N.map λt=>aV (.name t))).flatten) (.own [.tup [.str Zg],.tup [.str jp],.tup [.str Xh]]) h= .ok (.own ((fy N).map aV)) h:=by
  show(if ((Ab 2 (N.map λt=>aV (.name t))).flatten).length+3<=bf then _ else _)=_
  rw [if_pos (by rw [Gg];simp;lia)]
  simp [fy,aV,ag,Af3,Function.comp_def]
 rw [za (τ1:=iU r N g p (k0 (.l ((fy N).map aV))) y0 y0) (h1:=h) (by
  have f:GU .mul _ (.v (.int 2)) h= .ok _ h:=f
  generalize (Ab 2 (N.map λt=>aV (.name t))).flatten=Z at f j
  simp_all [c,f,j])]
 have a:aP ((fy N).map aV) d=k0 (aV (fy N)[d]):=by
  rw [Zd _ _ (by rw [Aa];exact b),Ac,Aa4 b];rfl
 have e1:call prog (m+1) "_law_draw" [.r r,.v (.int (((fy N).map aV).length))] h= .ok (.i d) (h.set r (ah ns i v1)):=by rw [List.length_map];exact e1
 generalize (fy N).map aV=L at a e1 ⊢
 exact qa (Ja rfl (by simp_all [Qx,ag,e1,zr,a]))
def sk (F:N.length<=8): ∀ g k h v,h[r]? =k0 (ah ns i v)-> ∃ e v',e.wf N/\e.dp<=g/\call prog (g+k+2) "_law_expression" [.r r,.l (N.map .str),.i g] h= .ok (.v (aV e)) (h.set r (ah ns i v')):=by
 intro g
 induction g with
 | zero=>
  intro k h v e
  have o:r<h.length:=(Aa0.mp e).1
  have j: ∀w,_[r]? =k0 (ah ns i w):=λw=>Ab9 o
  obtain⟨p,v1,H,e1⟩:=xh _ e (m:=10) (by decide) (by decide)
  have e1:call prog (0+k+1) "_law_draw" [.r r,.v (.int 10)] h= .ok _ _:=e1
  obtain⟨x,v2,c,e2⟩:=yS (0+k) F (j v1)
  rw [Ad8]at e2
  refine⟨x,v2,(mj c).1,Al1 (mj c).2,?_⟩
  rw [Gb rfl _ _ _ rfl]
  simp only [qg]
  refine fx (by simp_all [e1];rfl) ?_
  rw [qa ((xr (h1:=h.set r (ah ns i v1)) (by
   have z:Gq .eq (.i (0)) (.v (.int 0)) (h.set r (ah ns i v1))=k0 true:=Jm 0 0 _
   simp_all [z])).trans e2)]
  exact Ga _ h _ (Ae1 ..)
 | succ g I=>
  intro k h v e
  have o:r<h.length:=(Aa0.mp e).1
  have j: ∀w,(h.set r (ah ns i w))[r]? =k0 (ah ns i w):=λw=>Ab9 o
  have C: ∀w,(h.set r (ah ns i w)).length=h.length:=λw=>Ae1 ..
  rw [show g+1+k+2=(g+k+2)+1 by lia]
  obtain⟨p,v1,H,e1⟩:=xh (g+k+1) e (m:=10) (by decide) (by decide)
  have e1:call prog (g+k+2) "_law_draw" [.r r,.v (.int 10)] h= .ok (.i p) (h.set r (ah ns i v1)):=e1
  have D:Gm (k8 (g+k+2)) (.or (.cmp .eq .v2 (.int 0)) (.cmp .lt .v3 (.int 3))) (iU r N (g+1) p y0 y0 y0) (h.set r (ah ns i v1))= .ok (u9 (p<3)) (h.set r (ah ns i v1)):=by
   have z:Gq .eq (.i (g+1)) (.v (.int 0)) (h.set r (ah ns i v1))=k0 false:=by
    have:=Jm (g+1) 0 (h.set r (ah ns i v1))
    rw [decide_eq_false (by lia)]at this
    exact this
   have A:=mV 3 p (h.set r (ah ns i v1))
   have A:Gq .lt (.i p) (.v (.int 3)) (h.set r (ah ns i v1))=k0 (u9 (p<3)):=A
   rw [Gm,kG (a:=k9) (b:=u9 (p<3)) (by simp_all [z]) (by simp_all [A]),R.ae]
   rfl
  rw [Gb (d:=qg) rfl _ _ _ rfl]
  show ∃e v',_/\_/\Gw _ (execs _ _ [k0 (.r r),k0 (.l (N.map .str)),si (g+1),y0,y0,y0,y0] h)=_
  simp only [qg]
  rw [za (τ1:=iU r N (g+1) p y0 y0 y0) (h1:=h.set r (ah ns i v1)) (by simp_all [e1])]
  by_cases q:p<3
  .obtain⟨x,v2,c,e2⟩:=yS (g+k+1) (g:=g+1) (p:=p) F (j v1)
   rw [Ad8]at e2
   refine⟨x,v2,(mj c).1,by rw [(mj c).2];lia,?_⟩
   rw [qa (w:= .v (aV x)) (h1:=h.set r (ah ns i v2)) ((xr (h1:=h.set r (ah ns i v1)) (by rw [D,decide_eq_true q])).trans e2)]
   exact Ga _ h _ (C v2)
  .rw [xa (by rw [D,decide_eq_false q])]
   obtain⟨x,v2,J,M,e2⟩:=I k _ v1 (j v1)
   rw [Ad8]at e2
   have K:(((g+1:Nat):Int)-1)=((g:Nat):Int):=by lia
   rw [za (τ1:=iU r N (g+1) p y0 (sv (aV x)) y0) (h1:=h.set r (ah ns i v2)) (by simp_all [zd,K,e2])]
   have G:Gq .lt (.i p) (.v (.int 5)) (h.set r (ah ns i v2))=k0 (u9 (p<5)):=mV 5 p _
   by_cases B:p<5
   .obtain⟨f,s,n,t,u,l⟩:=D5 p (by lia) B
    refine⟨f x,v2,n N x J,by rw [s];lia,?_⟩
    rw [zf (w:= .v (aV (f x))) (by simp_all [G,decide_eq_true B]) (Ja rfl (by rw [l];simp_all [zd,wO,u]))]
    exact Ga _ h _ (C v2)
   .rw [xa (by simp_all [G,decide_eq_false B])]
    obtain⟨y,v3,L,O,E⟩:=I k _ v2 (j v2)
    rw [Ad8]at E
    rw [za (τ1:=iU r N (g+1) p y0 (sv (aV x)) (sv (aV y))) (h1:=h.set r (ah ns i v3)) (by simp_all [zd,K,E])]
    obtain⟨f,s,n,t,u,l⟩:=Bv p (by lia) H
    refine⟨f x y,v3,n N x y J L,by rw [s];lia,?_⟩
    rw [qa (w:= .v (aV (f x y))) (h1:=h.set r (ah ns i v3)) (Ja rfl (by rw [l];simp_all [zd,wO,u]))]
    exact Ga _ h _ (C v3)
theorem oM: ∀(ws) (c j w),ws[j]? =k0 w->(dg ws c)[j]? =k0 (c / 2 ^ (ws.take j).sum % 2 ^ w)
 | [],_,_,_,h=>by simp at h
 | u::ws,c,0,w,h=>by
  have:u=w:=by simpa using h
  subst this
  simp [dg]
 | u::ws,c,j+1,w,h=>by
  have h:=by simpa using h
  show(dg ws (c / 2 ^ u))[j]? =_
  rw [oM ws _ j w h,List.take_succ_cons,Am9,Nat.div_div_eq_div_mul,←Nat.pow_add]
theorem ox: ∀(ws) (c),(dg ws c).length=ws.length
 | [],_=>rfl
 | w::ws,c=>by rw [dg,Aa8,ox ws,Aa8]
def cN (n a b c:Nat):List Nat:=(dg (cU n a b) c).take a
def cW (n a b c:Nat):List Nat:=(dg (cU n a b) c).drop a
def IM (n a b j) (h:j<=a):((cU n a b).take j).sum=j*n:=by
 rw [cU,List.take_append_of_le_length (by simp_all),List.take_replicate,zC,Ak5 h]
def DR (n a b j:Nat) (h:j<=b):((cU n a b).take (a+j)).sum=a*n+j*(n*n):=by
 rw [cU,List.take_append,Ae2,Ai7 (by simp),List.sum_append,List.take_replicate,zC,zC,An,Ak5 h]
def mw (h:j<a):(cN n a b c)[j]? =k0 (c / 2 ^ (j*n) % 2 ^ n):=by
 rw [cN,Am7 h,oM _ _ _ n (by rw [cU,Ac9 (by simp_all),Ai2,if_pos h]),IM _ _ _ _ (Ag1 h)]
def ng (h:j<b):(cW n a b c)[j]? =k0 (c / 2 ^ (a*n+j*(n*n)) % 2 ^ (n*n)):=by
 rw [cW,List.getElem?_drop,oM _ _ _ _ (by rw [cU,Ad9 (by simp),Ae2,An,Ai2,if_pos h]),DR _ _ _ _ (Ag1 h)]
def wo (n:Nat) (K T:List Tx) (c:Nat):Wo:=⟨n,K,T,cN n K.length T.length c,cW n K.length T.length c⟩
def jT (n a b c):(cN n a b c).length=a:=by rw [cN,Af6,ox,mR];lia
def zV (n a b c):(cW n a b c).length=b:=by rw [cW,Af7,ox,mR];lia
theorem bz.wo (g:bz n K T) (c):(wo n K T c).Ok:=by
 refine⟨g.k4,g.t4,g.nd,g.n4,jT ..,zV ..,λx b=> ?_,λx b=> ?_⟩
 .obtain⟨j,a,e⟩:=Al9 b
  have:(cN n K.length T.length c)[j]? =k0 x:=by rw [← e];exact Aa4 a
  rw [mw (by rw [← jT n K.length T.length c];exact a)]at this
  rw [← Ad6.inj this]
  exact Aj5 _ (Ad4 _)
 .obtain⟨j,a,e⟩:=Al9 b
  have:(cW n K.length T.length c)[j]? =k0 x:=by rw [← e];exact Aa4 a
  rw [ng (by rw [← zV n K.length T.length c];exact a)]at this
  rw [← Ad6.inj this]
  exact Aj5 _ (Ad4 _)
def bz.pt (g:bz n K T) (c d):Pt (M.wo n K T c) (M.wo n K T d):=⟨g.wo c,g.wo d,rfl,rfl,rfl⟩
theorem z0 : ∀ {i}{j},i.Nodup->i[j]? =k0 t->c4 t i=j
 | [],_,_,h=>by simp at h
 | y::c,0,_,h=>by
  have:y=t:=by simpa using h
  simp [c4,Kj,this]
 | y::c,j+1,a,h=>by
  have h:=by simpa using h
  have m:=Ac4 h
  have a:=Ai.mp a
  have ne:y≠t:=λe=>a.1 (e▸m)
  have b:=z0 a.2 h
  rw [c4]at b ⊢
  rw [Kj,if_neg ne,(qo m).1]
  rw [(qo m).1]at b
  simpa using b
theorem o7 {f c:Type}(g) (m) (a: ∀t,(g t).length=m): ∀(l:List f) i (y:c),(l.flatMap g)[i]? =k0 y-> ∃j t p,l[j]? =k0 t/\(g t)[p]? =k0 y/\p<m/\i=j*m+p
 | [],i,y,h=>by simp at h
 | t::l,i,y,h=>by
  rw [Ag0]at h
  by_cases q:i<m
  .rw [Ac9 (by rw [a];exact q)]at h
   exact⟨0,t,i,rfl,h,q,by lia⟩
  .rw [Ad9 (by rw [a];lia),a]at h
   obtain⟨j,u,p,d,e,b,k⟩:=o7 g m a l _ y h
   exact⟨j+1,u,p,d,e,b,by rw [Nat.add_mul];lia⟩
theorem QN {a c:Type}(g:a->List c) (m) (b: ∀t,(g t).length=m): ∀l:List a,(l.flatMap g).length=l.length*m
 | []=>by simp
 | t::l=>by rw [Ag0,Aa6,b,QN g m b l,Aa8,Nat.add_mul];lia
def bQ (n:Nat) (K T:List Tx):List Pl:=K.flatMap (eW n)++T.flatMap (fT n)
def XD (n):Wf.aw n (2 ^ (n*n)-1)=(Aa3 (n*n)).map λk=>(k / n,k % n):=by
 rw [Wf.aw,List.filter_eq_self.mpr λk a=>by rw [Ag3,decide_eq_true (Ab4.mp a)]]
def ZL (n) (t):(eW n t).length=n:=by simp [eW]
def uY (n) (t):(fT n t).length=n*n:=by simp [fT,XD]
def wG (n) (K T):(bQ n K T).length=K.length*n+T.length*(n*n):=by rw [bQ,Aa6,QN _ _ (ZL n),QN _ _ (uY n)]
def Xm (g:bz n K T)(h:(bQ n K T)[i]? =k0 (t,x,y)) (c):bh (wo n K T c) t x y=c.testBit i/\t∈K++T/\x<n/\y<n:=by
 obtain⟨e,f,m⟩:=Aj3.mp g.nd
 rw [bQ]at h
 by_cases q:i<K.length*n
 .rw [Ac9 (by rw [QN _ _ (ZL n)];exact q)]at h
  obtain⟨j,u,p,d,b,a,l⟩:=o7 _ n (ZL n) _ _ _ h
  rw [eW,Ac,List.getElem?_range a]at b
  have b:=Ad6.inj b
  obtain⟨rfl,rfl,rfl⟩:u=t/\p=x/\p=y:=by simpa using b
  have mk:=Ac4 d
  refine⟨?_,Ad _ mk,a,a⟩
  rw [bh,if_neg (show u∉(wo n K T c).T from (λz=>m u mk u z rfl))]
  show(decide _&&((cN n K.length T.length c).getD (c4 u K) 0).testBit p)=_
  rw [z0 e d,Ac6,mw ((Aa0.mp d).1),Al0,Ah,Ah0,decide_eq_true a,decide_eq_true rfl,l,Ap4]
  rfl
 .rw [Ad9 (by rw [QN _ _ (ZL n)];lia),QN _ _ (ZL n)]at h
  obtain⟨j,u,p,d,b,a,l⟩:=o7 _ _ (uY n) _ _ _ h
  rw [fT,XD,Ad1,Ac,List.getElem?_range a]at b
  have b:=Ad6.inj b
  obtain⟨rfl,rfl,rfl⟩:u=t/\p / n=x/\p % n=y:=by simpa using b
  have k:=Ac4 d
  refine⟨?_,Ab0 _ k,Wf.bb a,Wf.aW a⟩
  rw [bh,if_pos (show u∈(wo n K T c).T from k)]
  show(((cW n K.length T.length c).getD (c4 u T) 0).testBit (p / n*n+p % n))=_
  rw [z0 f d,Ac6,ng ((Aa0.mp d).1),Al0,Ah,Ah0,Wf.bu,decide_eq_true a,Ae5]
  congr 1
  lia
def nB (b:x<n) (a:y<n) (h:t∈T\/(t∈K/\x=y)): ∃i:Nat,(bQ n K T)[i]? =k0 (t,x,y):=by
 have:(t,x,y)∈bQ n K T:=by
  rw [bQ,Ac8,Al3,Al3]
  obtain h | ⟨h,rfl⟩:=h
  .refine .inr ⟨t,h,?_⟩
   rw [fT,XD,Ad1]
   refine Ab6.mpr ⟨x*n+y,Ab4.mpr (Wf.place_lt b a),?_⟩
   show(t,_ / n,_ % n)=_
   rw [Wf.aE a,Wf.aI a]
  .exact .inl ⟨t,h,Ab6.mpr ⟨x,Ab4.mpr b,rfl⟩⟩
 obtain⟨i,c,e⟩:=Al9 this
 exact⟨i,by rw [← e];exact Aa4 c⟩
def u3 (a:t∈K++T) (d:x<n) (b:y<n) (h:bh (wo n K T c) t x y=u0): ∃i:Nat,(bQ n K T)[i]? =k0 (t,x,y):=by
 refine nB d b ?_
 by_cases q:t∈T
 .exact .inl q
 .rw [bh,if_neg (show t∉(wo n K T c).T from q),Aa1,decide_eq_true_eq]at h
  exact .inr ⟨(Ac8.mp a).resolve_right q,h.1⟩
def pN (g:bz n K T){i j:Nat}(h:(bQ n K T)[i]? =k0 p) (q:(bQ n K T)[j]? =k0 p):i=j:=by
 have a:=(Xm g q (2 ^ i)).1
 rw [((Xm g h (2 ^ i)).1),Ak1,Ad7]at a
 simpa using a.symm
def HY (k n) (A B) (c) (h) (d:n<=4) (h1:A.length<=4) (f:B.length<=4) (lt:c<2 ^ (cU n A.length B.length).sum):call prog (k+5) "world_of" [.v (mL A B),.i n,.i c] h= .ok (.v (iq n (cN n A.length B.length c) (cW n A.length B.length c))) h:=by
 rw [Gb rfl _ _ _ rfl]
 have b:=Af5 d d
 have l:=ug k (.n n) h rfl (by simp [Ws];lia)
 have a:=pZ (k+3) n A B h d h1 f
 have o:(cU n A.length B.length).sum<=100:=by
  rw [ou]
  have m:A.length*n<=4*4:=Af5 h1 d
  have a2:B.length*(n*n)<=4*16:=Af5 f b
  lia
 have g:=wE (k+2) (.n c) ((2 ^ (cU n A.length B.length).sum:Nat):Int) h rfl
 have bt:Ws (.n c) ((2 ^ (cU n A.length B.length).sum:Nat):Int)=true:=by
  simp only [Ws,Aa1,decide_eq_true_eq];lia
 rw [bt]at g
 obtain⟨q,p,e⟩:=td h (cU n A.length B.length) c [] y0 (λw a=>by
  rcases Ac8.mp a with a | a
  .rw [(List.mem_replicate.mp a).2];lia
  .rw [(List.mem_replicate.mp a).2];exact b) (by rw [mR];simp;lia)
 rw [Ae7]at e
 simp only [wQ]
 refine fx (by simp_all [l];rfl) ?_
 rw [xa (by simp_all [(vP (k+2) n A B h d h1 f),(J9 (cU n A.length B.length).sum (by lia)),g])]
 refine fx (by simp_all [];rfl) ?_
 refine fx (by simp_all [];rfl) ?_
 have ew:eval (k8 (k+4)) (.call "widths" (.b .v0 .v1)) [sv (mL A B),si n,si c,some (.own []),si c,none,none] h= .ok (.own (aA (cU n A.length B.length))) h:=by
  simp_all [a]
 rw [za (by
  simp only [exec,Gs,GK,ew,R.ae,Kf,R.ao,R.ar]
  exact e)]
 have j:cut (aA (dg (cU n A.length B.length) c)) y0 (k0 (A.length:Int))=aA (cN n A.length B.length c):=by rw [l1,aA,←List.map_take];rfl
 have i:cut (aA (dg (cU n A.length B.length) c)) (k0 (A.length:Int)) y0=aA (cW n A.length B.length c):=by rw [ZZ,aA,←List.map_drop];rfl
 refine fx (by simp_all [aa,Qh,Wc];rfl) ?_
 rw [qa (w:= .v (iq n (cN n A.length B.length c) (cW n A.length B.length c))) (h1:=h) (Ja rfl (by simp_all [Dw,j,i,qW]))]
 exact Ga _ _ _ rfl
abbrev bN (n:Nat) (K T:List Tx):Nat:=K.length*n+T.length*(n*n)
def cC (n:Nat) (K T:List Tx) (S:List Sy):List (String×D):= [("words",wD K T),("sayings",.tup (S.map az)),("size",.n n),("places",.lst ((bQ n K T).map bL)),("whole",.n (2 ^ bN n K T-1))]
def Jq (e:h[r]? =k0 (.obj c fs)):GX h (k0 (.r r))=k0 (r,c,fs):=by unfold GX;simp [e]
def qm (a:h[r]? =k0 (.obj c fs)) (b:Gn τ i=k0 (.r r)) (e:fs.lookup f=k0 d):eval F (.aJ (.var i) c f) τ h= .ok (.v d) h:=by
 rw [eval,eval,Gi,b]
 simp [Jq a,e,ag]
def QL (a:h[r]? =k0 (.obj c fs)) (d:Gn τ i=k0 (.r r)) (e:(fs.lookup m).isNone=u0) (b:Gf F es τ h= .ok ws h):eval F (.bK (.var i) c m q es) τ h=F.call q (.r r::ws.map W.arg) h:=by
 rw [eval,eval,Gi,d]
 simp [Jq a,e,b]
section
variable {n:Nat}{K T:List Tx}{S:List Sy}{ro:Nat}{h:AH}
def j7 (k c) (g:bz n K T) (C:h[ro]? =k0 (.obj "Cases" (cC n K T S))) (d:c<2 ^ bN n K T):call prog (k+6) "Cases.world_of_code" [.r ro,.i c] h= .ok (.v (wo n K T c).aT) h:=by
 rw [Gb rfl _ _ _ rfl]
 have e:=HY k n (K.map .str) (T.map .str) c h g.n4 (by rw [Aa];exact g.k4) (by rw [Aa];exact g.t4) (by rw [ou,Aa,Aa];exact d)
 rw [Aa,Aa]at e
 simp only [Qj]
 have a:=qm (F:=(k8 (k+5))) (τ:= [k0 _,si c]) (i:=0) (f:= "words") C rfl rfl
 have b:=qm (F:=(k8 (k+5))) (τ:= [k0 _,si c]) (i:=0) (f:= "size") C rfl rfl
 rw [qa (w:= .v (wo n K T c).aT) (h1:=h) (Ja rfl (by
  generalize E.aJ _ _ _=X at a ⊢
  generalize E.aJ _ _ _=Y at b ⊢
  simp_all [a,b,e]
  rfl)),Ga _ _ _ rfl]
def QT (m j c d) (g:bz n K T) (C:h[ro]? =some (.obj "Cases" (cC n K T S))) (y:c<2 ^ bN n K T) (z:d<2 ^ bN n K T)(t:S[j]? =some s) (x:s.dp+9<=m) (wf:s.wf (K++T)): ∃r,Td (wo n K T c) (wo n K T d) s r/\call prog (m+1) "Cases.truth" [.r ro,.i j,.i c,.i d] h= .ok (.v (aH r)) h:=by
 obtain⟨k,rfl⟩:=nk m 6 (by lia)
 obtain⟨r,u,e⟩:=BZ (g.pt c d) h s _ x wf
 refine⟨r,u,?_⟩
 rw [Gb rfl _ _ _ rfl]
 simp only [jz]
 have b:=QL (F:=(k8 (k+6))) (τ:= [k0 _,si j,si c,si d,y0]) (i:=0) (m:= "world_of_code") (q:= "Cases.world_of_code") (es:= .cons .v2 .nil) (ws:= [.i c]) C rfl rfl (by simp_all [])
 have a:=QL (F:=(k8 (k+6))) (τ:= [k0 _,si j,si c,si d,y0]) (i:=0) (m:= "world_of_code") (q:= "Cases.world_of_code") (es:= .cons .v3 .nil) (ws:= [.i d]) C rfl rfl (by simp_all [])
 have b:=b.trans (j7 k c g C y)
 have a:=a.trans (j7 k d g C z)
 have v:j<S.length:=(Aa0.mp t).1
 have l:aP (S.map az) (j:Int)=k0 (az s):=by rw [Zd _ _ (by rw [Aa];exact v),Ac,t];rfl
 rw [za (τ1:= [k0 (.r ro),si j,si c,si d,sv (bY (wo n K T c) (wo n K T d))]) (h1:=h) (by
  generalize E.bK _ _ _ _ _=X at b ⊢
  generalize E.bK _ _ _ _ _=Y at a ⊢
  simp_all [b,a])]
 have p:=qm (F:=(k8 (k+6))) (τ:= [k0 (.r ro),si j,si c,si d,sv (bY (wo n K T c) (wo n K T d))]) (i:=0) (f:= "words") C rfl rfl
 have o:=qm (F:=(k8 (k+6))) (τ:= [k0 (.r ro),si j,si c,si d,sv (bY (wo n K T c) (wo n K T d))]) (i:=0) (f:= "sayings") C rfl rfl
 have e:call prog _ "told" [.v (wD K T),.v _,.v _] h= .ok _ h:=e
 rw [qa (w:= .v (aH r)) (h1:=h) (Ja rfl (by
  generalize E.aJ _ _ _=X at p ⊢
  generalize E.aJ _ _ _=Y at o ⊢
  simp_all [p,o,aa,l,e])),Ga _ _ _ rfl]
end
def yn (p) (t) (a b):cy (bL p) (.tup [.str t,.int a,.int b])=u0↔p.1=t/\(p.2.1:Int)=a/\(p.2.2:Int)=b:=by
 simp [bL,GL]
theorem s9 (t) (a b): ∀L:List Pl,inD (.tup [.str t,.int a,.int b]) (L.map bL)=u0-> ∃ i x y,Ks (.tup [.str t,.int a,.int b]) (L.map bL)=k0 i/\L[i]? =k0 (t,x,y)/\a=(x:Int)/\b=(y:Int)
 | [],h=>by simp [inD]at h
 | p::L,h=>by
  rw [Ab2,Ks]
  by_cases q:cy (bL p) (.tup [.str t,.int a,.int b])=u0
  .obtain⟨d,e,c⟩:=(yn p t a b).mp q
   refine⟨0,p.2.1,p.2.2,by rw [if_pos q],?_,e.symm,c.symm⟩
   rw [← d];rfl
  .rw [if_neg q]
   have h:=by
    rw [inD,Ab2,Ag9,Ae8]at h
    exact h.resolve_left q
   obtain⟨i,x,y,d,e,c,f⟩:=s9 t a b L h
   exact⟨i+1,x,y,by rw [d];rfl,e,c,f⟩
def yJ {x y i:Nat}{L:List Pl}(h:L[i]? =k0 (t,x,y)):inD (.tup [.str t,.n x,.n y]) (L.map bL)=true:=by
 rw [inD,Ad2]
 exact⟨bL _,Ab6.mpr ⟨_,Ac4 h,rfl⟩,(yn _ _ _ _).mpr ⟨rfl,rfl,rfl⟩⟩
def zL (L:List Pl):Gc (L.map bL)=true:=ql _ (λ_=>rfl) L
def vW (L:List Pl):GG (L.map bL)<140:=Ah6 (Zz bL 1 (λ_=>by simp [bL]) L) (by decide)
def C4 (t) (a b) (L:List Pl) (h):Gq .e7 (.t [.str t,.int a,.int b]) (.l (L.map bL)) h=k0 (!inD (.tup [.str t,.int a,.int b]) (L.map bL)):=by
 have g:Kc (.t [.str t,.int a,.int b]) (.l (L.map bL)) h=k0 (inD (.tup [.str t,.int a,.int b]) (L.map bL)):=by
  unfold Kc
  rw [W.gK,W.gK,W4 (by exact zL L)]
  show(if _=u0 then _ else _)=_
  rw [zL,decide_eq_true (vW L)]
  rfl
 show(Kc _ _ h).map (!·)=_
 rw [g]
 rfl
def Ha {L:List Pl}(h) (c:L.length<=1000) (e:Ks (.tup [.str t,.int a,.int b]) (L.map bL)=k0 i):m7 .b5 (.l (L.map bL)) [.t [.str t,.int a,.int b]] h= .ok (.i i) h:=by
 have g:Ky (.t [.str t,.int a,.int b]) (.l (L.map bL)) h=k0 i:=by
  unfold Ky
  rw [W.gK,W.gK,W4 (by exact zL L)]
  show(if _=u0 then _ else _)=_
  rw [zL,decide_eq_true (vW L),decide_eq_true (by rw [Gg,Aa];lia)]
  exact e
 show(R.of h _).bind _=_
 rw [g]
 rfl
section
variable {n:Nat}{K T:List Tx}{S:List Sy}{ro:Nat}{h:AH}
def LH (k) (g:bz n K T) (C:h[ro]? =some (.obj "Cases" (cC n K T S)))(a:(bQ n K T)[i]? =some (t,x,y)):call prog (k+2) "Cases.bit_of" [.r ro,.s t,.i x,.i y] h= .ok (.i (2 ^ i)) h:=by
 rw [Gb rfl _ _ _ rfl]
 simp only [Qw]
 have q:=qD k (.n x) h rfl
 have o:=qD k (.n y) h rfl
 have b:bZ .str (.s t)=k0 true:=rfl
 rw [xa (by simp_all [b,q,o,Qr])]
 have c:=qm (F:=(k8 (k+1))) (τ:= [k0 _,k0 (.s t),si x,si y]) (i:=0) (f:= "places") C rfl rfl
 have d:=C4 t x y (bQ n K T) h
 rw [yJ a]at d
 obtain⟨j,s,u,e,r,e1,e2⟩:=s9 t x y _ (yJ a)
 obtain rfl:=Int.ofNat.inj e1
 obtain rfl:=Int.ofNat.inj e2
 obtain rfl:=pN g a r
 have v:(bQ n K T).length<=100:=by rw [wG];have:=g.b6;lia
 have l:=Ha h (by lia) e
 have p:=J9 i (by grind)
 have m:lZ .b5 (.l ((bQ n K T).map bL)) h=true:=rfl
 generalize E.aJ _ _ _=X at c ⊢
 rw [xa (by simp_all [c,d])]
 rw [qa (w:= .i (2 ^ i)) (h1:=h) (Ja rfl (by simp_all [c,m,if_true,l,p])),Ga _ _ _ rfl]
end
def vy (n a b c j p):((cW n a b c).getD j 0).testBit p=(u9 (j<b)&&(u9 (p<n*n)&&c.testBit (p+(a*n+j*(n*n))))):=by
 rw [Ac6]
 by_cases q:j<b
 .rw [ng q,Al0,Ah,Ah0,decide_eq_true q,Ae5]
 .rw [List.getElem?_eq_none (by rw [zV];lia),Option.getD_none,Af9,decide_eq_false q,Af]
def pX (n a b c j p):((cN n a b c).getD j 0).testBit p=(u9 (j<a)&&(u9 (p<n)&&c.testBit (p+j*n))):=by
 rw [Ac6]
 by_cases q:j<a
 .rw [mw q,Al0,Ah,Ah0,decide_eq_true q,Ae5]
 .rw [List.getElem?_eq_none (by rw [jT];lia),Option.getD_none,Af9,decide_eq_false q,Af]
def lx (h:Sub c d):Le (wo n K T c) (wo n K T d):=⟨rfl,λt x y z=>by
 unfold bh at z ⊢
 by_cases q:t∈T
 .rw [if_pos (show t∈(wo n K T _).T from q)]at z ⊢
  have z:((cW n K.length T.length c).getD _ 0).testBit _=true:=z
  show((cW n K.length T.length d).getD _ 0).testBit _=u0
  rw [vy,Aa1,Aa1]at z ⊢
  exact⟨z.1,z.2.1,h _ z.2.2⟩
 .rw [if_neg (show t∉(wo n K T _).T from q)]at z ⊢
  have z:(decide _&&((cN n K.length T.length c).getD (c4 t K) 0).testBit x)=true:=z
  show(decide _&&((cN n K.length T.length d).getD (c4 t K) 0).testBit x)=u0
  rw [pX,Aa1,Aa1,Aa1]at z ⊢
  exact⟨z.1,z.2.1,z.2.2.1,h _ z.2.2.2⟩⟩
section
variable {n:Nat}{K T:List Tx}
def WB (c d:Nat)(a:t∈K++T) (f:x<n) (b:y<n) (q: ¬ ∃i:Nat,(bQ n K T)[i]? =k0 (t,x,y)):bh (wo n K T c) t x y=false:=by
 cases e:bh _ t x y with
 | false=>rfl
 | true=>exact absurd (u3 a f b e) q
def AG (g:bz n K T)(h:(bQ n K T)[i]? =k0 (t,x,y)) (c) (b:t'∈K++T) (f:x'<n) (d:y'<n):bh (wo n K T (c ||| 2 ^ i)) t' x' y'=(bh (wo n K T c) t' x' y'||u9 ((t',x',y')=(t,x,y))):=by
 by_cases q: ∃j:Nat,(bQ n K T)[j]? =k0 (t',x',y')
 .obtain⟨j,a⟩:=q
  rw [(Xm g a _).1,(Xm g a _).1,Af0,Ad7]
  congr 1
  refine decide_eq_decide.mpr ⟨λe=> ?_,λe=> ?_⟩
  .subst e;rw [h]at a;exact(Ad6.inj a).symm
  .rw [e]at a;exact pN g h a
 .rw [WB _ c b f d q,WB _ c b f d q,decide_eq_false λe=>q ⟨i,by rw [e];exact h⟩]
  rfl
def Hm (g:bz n K T)(h:(bQ n K T)[i]? =k0 (t,x,y)) (c) (b:t'∈K++T) (f:x'<n) (d:y'<n):bh (wo n K T (c-(c &&& 2 ^ i))) t' x' y'=(bh (wo n K T c) t' x' y'&& !u9 ((t',x',y')=(t,x,y))):=by
 by_cases q: ∃j:Nat,(bQ n K T)[j]? =k0 (t',x',y')
 .obtain⟨j,a⟩:=q
  rw [(Xm g a _).1,(Xm g a _).1,Wf.aR,Ad7]
  congr 2
  refine decide_eq_decide.mpr ⟨λe=> ?_,λe=> ?_⟩
  .subst e;rw [h]at a;exact(Ad6.inj a).symm
  .rw [e]at a;exact pN g h a
 .rw [WB _ c b f d q,WB _ c b f d q]
  rfl
def yk {t t':Tx}(c:y<n) (b:y'<n):u9 ((t',x',y')=(t,x,y))=(u9 (t'=t)&&u9 (x*n+y=x'*n+y')):=by
 by_cases e:t'=t
 .rw [decide_eq_true e,Ae5]
  refine decide_eq_decide.mpr ⟨λz=> ?_,λz=> ?_⟩
  .have:x'=x/\y'=y:=by simpa [e]using z
   rw [this.1,this.2]
  .have d:x=x':=by rw [← Wf.aE (a:=x) c,z,Wf.aE b]
   have f:y=y':=by rw [← Wf.aI c,z,Wf.aI b]
   rw [e,d,f]
 .rw [decide_eq_false e,Af,decide_eq_false]
  exact λz=>e (by injection z)
variable {f:Tx->Nat×Nat}{r low high:Nat}{h:AH}
def Dc.dN (P:Dc (wo n K T low) (wo n K T high) f r h) (g:bz n K T)(a:(bQ n K T)[i]? =k0 (t,x,y)) (h1:high.testBit i=u0) (e:low.testBit i=k9):(f t).1.testBit (x*n+y)=k9/\(f t).2.testBit (x*n+y)=true:=by
 obtain⟨e1,c,b,d⟩:=Xm g a low
 refine⟨Ak8.mpr λz=> ?_,((P.hi t c).bit x y b d).mpr (by rw [((Xm g a high).1),h1])⟩
 have:=((P.lo t c).bit x y b d).mp z
 rw [e1,e]at this
 cases this
def Dc.yes (P:Dc (wo n K T low) (wo n K T high) f r h) (g:bz n K T)(m:(bQ n K T)[i]? =k0 (t,x,y))(e:h'[r']? =k0 (.aN (aM (K++T) (WV f t ((f t).1 ||| 2 ^ (x*n+y),(f t).2))))):Dc (wo n K T (low ||| 2 ^ i)) (wo n K T high) (WV f t ((f t).1 ||| 2 ^ (x*n+y),(f t).2)) r' h':=by
 obtain⟨-,s,p,o⟩:=Xm g m low
 refine⟨e,g.n4,λd l=> ?_,λd l=> ?_⟩
 .have v:=P.lo d l
  have k: ∀a b,a<n->b<n->bh _ d a b=(bh (wo n K T low) d a b||(u9 (d=t)&&u9 (x*n+y=a*n+b))):=λa b j k=>by rw [AG g m low l j k,yk o k]
  unfold WV
  by_cases q:d=t
  .subst q
   rw [if_pos rfl]
   refine⟨oY v.lt (Ao1 (by decide) (Wf.place_lt p o)),λa b j c=> ?_⟩
   rw [k a b j c,decide_eq_true rfl,Ae5]
   rw [Af0,Ad7,Ae8,Ae8]
   exact or_congr (v.bit a b j c) Iff.rfl
  .rw [if_neg q]
   refine⟨v.lt,λa b j c=> ?_⟩
   rw [k a b j c,decide_eq_false q,Af,Bool.or_false]
   exact v.bit a b j c
 .have v:=P.hi d l
  unfold WV
  by_cases q:d=t
  .subst q;rw [if_pos rfl];exact v
  .rw [if_neg q];exact v
def Dc.no (P:Dc (wo n K T low) (wo n K T high) f r h) (g:bz n K T)(p:(bQ n K T)[i]? =k0 (t,x,y)) (o:high.testBit i=u0)(e:h'[r']? =k0 (.aN (aM (K++T) (WV f t ((f t).1,(f t).2-2 ^ (x*n+y)))))):Dc (wo n K T low) (wo n K T (high-(high &&& 2 ^ i))) (WV f t ((f t).1,(f t).2-2 ^ (x*n+y))) r' h':=by
 obtain⟨m,A,z,s⟩:=Xm g p high
 refine⟨e,g.n4,λc l=> ?_,λc l=> ?_⟩
 .have v:=P.lo c l
  unfold WV
  by_cases q:c=t
  .subst q;rw [if_pos rfl];exact v
  .rw [if_neg q];exact v
 .have v:=P.hi c l
  have k: ∀a b,a<n->b<n->bh _ c a b=(bh (wo n K T high) c a b&& !(u9 (c=t)&&u9 (x*n+y=a*n+b))):=λa b j k=>by rw [Hm g p high l j k,yk s k]
  unfold WV
  by_cases q:c=t
  .subst q
   rw [if_pos rfl]
   have bt:(f c).2.testBit (x*n+y)=true:=(v.bit x y z s).mpr (by rw [m];exact o)
   have w:=by
    have:=nY (f c).2 (x*n+y)
    rw [jc,wd,bt,if_pos rfl]at this
    exact Int.ofNat.inj (Ad6.inj this)
   refine⟨Ah6 (Ap0 _ _) v.lt,λa b j d=> ?_⟩
   rw [k a b j d,decide_eq_true rfl,Ae5]
   have u:(f c).2-2 ^ (x*n+y)=(f c).2-((f c).2 &&& 2 ^ (x*n+y)):=by rw [w]
   rw [u,Wf.aR,Ad7,Aa1,Aa1]
   exact and_congr (v.bit a b j d) Iff.rfl
  .rw [if_neg q]
   refine⟨v.lt,λa b j d=> ?_⟩
   rw [k a b j d,decide_eq_false q,Af,Ao3,Bool.and_true]
   exact v.bit a b j d
end
abbrev Qy:Tx:= [98,114,111,107,101,110]
abbrev Xj:Tx:= [115,112,108,105,116]
abbrev aG (K T:List Tx) (S:List Sy):D:= .tup [wD K T,.tup (S.map az)]
def ZC (k) (w) (l)(h):call prog (k+1) "is_tuple_of" [.t (.str s::r),.s w,.i l] h= .ok (.b (decide (r.length+1=l)&&s==w)) h:=by
 rw [Gb rfl _ _ _ rfl]
 simp only [WA]
 have a:bZ .tuple (.t (.str s::r))=k0 true:=rfl
 have c:bZ .str (.s s)=k0 true:=rfl
 have b:=vb (r.length+1) l h
 by_cases e:r.length+1=l
 .rw [decide_eq_true e]at b ⊢
  rw [xa (by simp_all [a,Wc,ag,Aa8,b])]
  rw [qa (w:= .b (s==w)) (h1:=h) (Ja rfl (by simp_all [aa,jf,c,Xa])),Ga _ _ _ rfl]
  rfl
 .rw [decide_eq_false e]at b ⊢
  rw [zf (by simp_all [a,Wc,ag,Aa8,b]) rfl,Ga _ _ _ rfl]
  rfl
section
variable {n:Nat}{K T:List Tx}{S:List Sy}{h:AH}
def DN (m r)(c:S[j]? =some s) (e:call prog (m+1) "_law_told" [.i n,.r r,.v (az s)] h= .ok (.v (aH (some false))) h):call prog (m+2) "_law_walks" [.v (aG K T S),.i n,.r r,.t [.str Qy,.n j]] h= .ok (.b true) h:=by
 rw [Gb rfl _ _ _ rfl]
 simp only [Xp]
 have i:=(Aa0.mp c).1
 have g:=Zn m (.n j) h rfl
 have a:aP (S.map az) (j:Int)=k0 (az s):=by rw [Zd _ _ (by rw [Aa];exact i),Ac,c];rfl
 have b:bZ .tuple (.t [.str Qy,.n j])=k0 true:=rfl
 have k:Gq .eq (.i (2)) (.v (.int 0)) h=k0 false:=rfl
 have f:Gq .eq (.i (2)) (.v (.int 2)) h=k0 true:=rfl
 have l:((0:Int)<=(j:Int)):=by lia
 have d:((j:Int)<(S.length:Int)):=by lia
 rw [xa (by simp_all [b,Wc,ag,Aa8,Ad3,k])]
 rw [qa ((xr (h1:=h) (by simp_all [aa,Qh,Xa,ag,show(Qy== iV)=u0 from rfl,Wc,Aa8,Ad3,f])).trans ?_),Ga _ _ _ rfl]
 rw [xa (by simp_all [aa,Zf,g,Qr,ag,jX,Z1,l,d,decide_true,Wc,Aa])]
 exact qa (Ja rfl (by simp_all [aa,Zf,a,e,(kj (k0 k9) k9 h),ag];rfl))
def BX (m r)(e:call prog (m+1) "_law_split" [.i n,.r r,.t [dn,da,db]] h= .ok (.own [.ref h.length,.ref (h.length+1)]) h2) (b:h2.take h.length=h) (g:h.length<=h2.length) (q:Gu h=true)
 (f:call prog (m+1) "_law_walks" [.v (aG K T S),.i n,.r h.length,.v p1] h2= .ok (.b true) h2) (l:call prog (m+1) "_law_walks" [.v (aG K T S),.i n,.r (h.length+1),.v p2] h2= .ok (.b true) h2):
 call prog (m+2) "_law_walks" [.v (aG K T S),.i n,.r r,.t [.str Xj,dn,da,db,p1,p2]] h= .ok (.b true) h:=by
 rw [Gb (d:=Xp) rfl _ _ _ rfl]
 simp only [Xp]
 have a:bZ .tuple (.t [.str Xj,dn,da,db,p1,p2])=k0 true:=rfl
 have j:Gq .eq (.i (6)) (.v (.int 0)) h=k0 false:=rfl
 have c:Gq .ne (.i (6)) (.v (.int 6)) h=k0 false:=rfl
 have i:Gq .ne (.s Xj) (.s lT) h=k0 false:=rfl
 rw [xa (by simp_all [a,Wc,ag,Aa8,Ad3,j])]
 rw [xa (by simp_all [aa,jf,Xa,ag,show(Xj== iV)=k9 from rfl]),xa (by simp_all [aa,jf,i,ag,Wc,Aa8,Ad3,c])]
 have p:fq (.t [D.str Xj,dn,da,db,p1,p2]) (k0 1) (k0 4) h= .ok (.t [dn,da,db]) h:=rfl
 refine fx (by simp_all [p,e];rfl) ?_
 rw [xa (by simp_all [])]
 have a4:aP [D.str Xj,dn,da,db,p1,p2] 4=k0 p1:=rfl
 have a5:aP [D.str Xj,dn,da,db,p1,p2] 5=k0 p2:=rfl
 rw [qa (w:= .b u0) (h1:=h2) (Ja rfl (by simp_all [zr,Qh,Zf,aa,a4,a5,f,l]))]
 obtain⟨s,k,o⟩:=me (d:= .bl u0) (h:=h2) (n:=h.length) rfl g (by rw [b];exact q)
 rw [k,o,b]
end
section
variable {n:Nat}{K T:List Tx}{S:List Sy}{h:AH}{ro low high:Nat}
abbrev iN (ro:Nat) (p:D) (b a:Nat) (x y:Option W):Sl:= [k0 (.r ro),sv p,si b,si a,x,y]
def A3 (m)(C:h[ro]? =some (.obj "Cases" (cC n K T S))) (g:j<S.length) (e:call prog (m+2) "Cases.truth" [.r ro,.i j,.i low,.i high] h= .ok (.v (aH o)) h):call prog (m+3) "Cases.is_shown" [.r ro,.t [.str Qy,.n j],.i low,.i high] h= .ok (.b (o==some false)) h:=by
 rw [Gb rfl _ _ _ rfl]
 simp only [xg]
 have b:call prog _ "is_tuple_of" [.t [.str Qy,.n j],.s iV,.v (.int 2)] h= .ok (.b true) h:=ZC (m+1) Qy 2 h
 rw [qa ((xr (h1:=h) (by simp_all [b])).trans ?_),Ga _ _ _ rfl]
 refine(za (by simp_all [aa,Zf];rfl)).trans ?_
 have d:=wE m (.n j) S.length h rfl
 rw [show Ws _ S.length=u0 by rw [Ws,Aa1,decide_eq_true_eq,decide_eq_true_eq];lia]at d
 have c:=qm (F:=(k8 (m+2))) (τ:=iN ro (.tup [.str Qy,.n j]) low high (si j) y0) (i:=0) (f:= "sayings") C rfl rfl
 have a:=QL (F:=(k8 (m+2))) (τ:=iN ro (.tup [.str Qy,.n j]) low high (si j) y0) (i:=0) (m:= "truth") (q:= "Cases.truth") (es:= .cons .v4 (.b .v2 .v3)) (ws:= [.i j,.i low,.i high]) C rfl rfl (by simp_all [])
 have a:=a.trans e
 have cX:=kj o k9 h
 generalize E.aJ _ _ _=X at c ⊢
 generalize E.bK _ _ _ _ _=Y at a ⊢
 exact qa (Ja rfl (by simp_all))
def Cs (i):((2 ^ i &&& high)-((2 ^ i &&& high) &&& low)=0)↔ ¬(high.testBit i=u0/\low.testBit i=k9):=by
 rw [sub_zero]
 constructor
 .rintro z ⟨c,b⟩
  have:=z i (by simp_all)
  rw [b]at this
  cases this
 .intro z k a
  rw [Ah2,Ad7,Aa1,decide_eq_true_eq]at a
  obtain⟨rfl,a⟩:=a
  cases q:low.testBit i with
  | true=>rfl
  | false=>exact absurd ⟨a,q⟩ z
def Iu (m)(C:h[ro]? =k0 (.obj "Cases" (cC n K T S)))(e:call prog (m+1) "Cases.bit_of" [.r ro,.v dn,.v da,.v db] h= .ok (.i v) h)(f:call prog (m+1) "Cases.is_shown" [.r ro,.v p1,.i (low ||| v),.i high] h= .ok (.b b1) h) (k:call prog (m+1) "Cases.is_shown" [.r ro,.v p2,.i low,.i (high-(high &&& v))] h= .ok (.b b2) h):
 call prog (m+2) "Cases.is_shown" [.r ro,.t [.str Xj,dn,da,db,p1,p2],.i low,.i high] h= .ok (.b (!decide ((v &&& high)-((v &&& high) &&& low)=0)&&(b1&&b2))) h:=by
 rw [Gb (d:=xg) rfl _ _ _ rfl]
 simp only [xg]
 have c:call prog _ "is_tuple_of" [.t [.str Xj,dn,da,db,p1,p2],.s iV,.v (.int 2)] h= .ok (.b false) h:=ZC m Qy 2 h
 have j:call prog _ "is_tuple_of" [.t [.str Xj,dn,da,db,p1,p2],.s lT,.v (.int 6)] h= .ok (.b true) h:=ZC m Xj 6 h
 rw [xa (by simp_all [c]),xa (by simp_all [j,ag])]
 have g:aP [D.str Xj,dn,da,db,p1,p2] 1=k0 dn:=rfl
 have a2:aP [D.str Xj,dn,da,db,p1,p2] 2=k0 da:=rfl
 have a3:aP [D.str Xj,dn,da,db,p1,p2] 3=k0 db:=rfl
 have a4:aP [D.str Xj,dn,da,db,p1,p2] 4=k0 p1:=rfl
 have a5:aP [D.str Xj,dn,da,db,p1,p2] 5=k0 p2:=rfl
 have b:=QL (F:=(k8 (m+1))) (τ:=iN ro (.tup [.str Xj,dn,da,db,p1,p2]) low high y0 y0) (i:=0) (m:= "bit_of") (q:= "Cases.bit_of") (es:= .cons (.ix .v1 (.int 1)) (.b (.ix .v1 (.int 2)) (.ix .v1 (.int 3)))) (ws:= [.v dn,.v da,.v db]) C rfl rfl (by simp_all [aa,g,a2,a3])
 have b:=b.trans e
 rw [za (τ1:=iN ro (.tup [.str Xj,dn,da,db,p1,p2]) low high y0 (si v)) (h1:=h) (by
  generalize E.bK _ _ _ _ _=X at b ⊢
  simp_all [b])]
 have a:Gm (k8 (m+1)) (.cmp .eq (.bin .band (.bin .band .v5 .v3) (.inv .v2)) (.int 0)) (iN ro (.tup [.str Xj,dn,da,db,p1,p2]) low high y0 (si v)) h= .ok (u9 ((v &&& high)-((v &&& high) &&& low)=0)) h:=by
  simp_all [jc,wd,qM,nO]
 cases q:u9 ((v &&& high)-((v &&& high) &&& low)=0)
 .rw [q]at a
  rw [xa a]
  have l:=QL (F:=(k8 (m+1))) (τ:=iN ro (.tup [.str Xj,dn,da,db,p1,p2]) low high y0 (si v)) (i:=0) (m:= "is_shown") (q:= "Cases.is_shown") (es:= .cons (.ix .v1 (.int 4)) (.b (.bin .bor .v2 .v5) .v3)) (ws:= [.v p1,.i (low ||| v),.i high]) C rfl rfl (by simp_all [aa,a4,Jo,xn])
  have o:=QL (F:=(k8 (m+1))) (τ:=iN ro (.tup [.str Xj,dn,da,db,p1,p2]) low high y0 (si v)) (i:=0) (m:= "is_shown") (q:= "Cases.is_shown") (es:= .cons (.ix .v1 (.int 5)) (.b .v2 (.bin .band .v3 (.inv .v5)))) (ws:= [.v p2,.i low,.i (high-(high &&& v))]) C rfl rfl (by simp_all [aa,a5,jc,qM])
  rw [qa (w:= .b (b1&&b2)) (h1:=h) (Ja rfl (J5 (l.trans f) (o.trans k))),Ga _ _ _ rfl]
  rfl
 .rw [q]at a
  rw [zf (w:= .b k9) a rfl,Ga _ _ _ rfl]
  rfl
end
def tI (h:Sub a w) (q:Sub b w):Sub (a ||| b) w:=λk z=>by
 rw [Af0,Ae8]at z
 exact z.elim (h k) (q k)
def sr (h:Sub w c) (q:w.testBit i=k9):Sub w (c-(c &&& 2 ^ i)):=λk z=>by
 rw [Wf.aR,h k z,Ad7,Ae5,Ag6]
 refine decide_eq_false λe=> ?_
 rw [← e,q]at z
 cases z
def vk (p:Gu h=u0) (a b):Gu (h++ [.aN a,.aN b])=true:=by
 rw [Gu,List.all_append,show h.all Cell.pure=u0 from p];rfl
inductive Pp (n:Nat) (K T:List Tx) (S:List Sy):D->Prop where
 | brk {j:Nat}(h:j<S.length):Pp n K T S (.tup [.str Qy,.n j])
 | dN {i x y:Nat}{t:Tx}{p1 p2:D}(h:(bQ n K T)[i]? =k0 (t,x,y)) (h1:Pp n K T S p1) (h2:Pp n K T S p2):Pp n K T S (.tup [.str Xj,.str t,.n x,.n y,p1,p2])
def Pp.nr {S:List Sy}(h:Pp n K T S p):Gd p=true:=by
 induction h with
 | brk _=>rfl
 | dN _ _ _ a b=>simp [a,b]
structure Wk (n:Nat) (K T:List Tx) (S:List Sy) (c:Nat) (p:D) (low high r:Nat) (h:AH):Prop where
 l0:Gu h=true-> ∀m,c<=m->call prog m "_law_walks" [.v (aG K T S),.i n,.r r,.v p] h= .ok (.b true) h
 snd: ∀w,Sub low w->Sub w high-> ∃s∈S,∀o,Td (wo n K T w) (wo n K T w) s o->o=k0 k9
def Lw (n:Nat) (K T:List Tx) (S:List Sy) (c:Nat) (p:D) (b a:Nat):Prop:= ∀f r h,Dc (wo n K T b) (wo n K T a) f r h->Wk n K T S c p b a r h
section
variable {n q c low high:Nat}{K T:List Tx}{S:List Sy}
def Lw.up (w:Lw n K T S c p low high) (l:c<=c'):Lw n K T S c' p low high:=λf r h P=>⟨λa m b=>(w f r h P).l0 a m (Ab5 l b),(w f r h P).snd⟩
def Lw.brk (i: ∀s∈S,s.wf (K++T)/\s.dp<=q)(c:S[j]? =k0 s) (b:Td (wo n K T low) (wo n K T high) s (k0 k9)):Lw n K T S (q+10) (.tup [.str Qy,.n j]) low high:=λf r h P=>by
 have g:=Ac4 c
 obtain⟨wf,dp⟩:=i s g
 refine⟨λ_ m p=> ?_,λw l o=>⟨s,g,λd a=>Td.mono (lx l) (lx o) (Le.refl _) s _ d k9 b a rfl⟩⟩
 obtain⟨k,rfl⟩:=nk m 2 (by lia)
 obtain⟨d,a,e⟩:=vD P s (k+1) (by lia) wf
 rw [a.uniq b]at e
 exact DN k r c e
theorem Lw.dN (g:bz n K T)(a:(bQ n K T)[i]? =k0 (t,x,y)) (o:high.testBit i=u0) (B:low.testBit i=k9) (F:3<=c) (D:Lw n K T S c p1 (low ||| 2 ^ i) high) (C:Lw n K T S c p2 low (high-(high &&& 2 ^ i))):Lw n K T S (c+1) (.tup [.str Xj,.str t,.n x,.n y,p1,p2]) low high:=λf r h P=>by
 obtain⟨-,A,z,d⟩:=Xm g a low
 obtain⟨u,l2⟩:=P.dN g a o B
 have v:(K++T).length<=100:=by rw [Aa6];have:=g.k4;have:=g.t4;lia
 have e:=D _ _ _ (P.yes g a (r':=h.length) (h':=h++ [.aN (aM (K++T) (WV f t ((f t).1 ||| 2 ^ (x*n+y),(f t).2))),.aN (aM (K++T) (WV f t ((f t).1,(f t).2-2 ^ (x*n+y))))]) (by simp))
 have l:=C _ _ _ (P.no g a o (r':=h.length+1) (h':=h++ [.aN (aM (K++T) (WV f t ((f t).1 ||| 2 ^ (x*n+y),(f t).2))),.aN (aM (K++T) (WV f t ((f t).1,(f t).2-2 ^ (x*n+y))))]) (by simp))
 refine⟨λb m E=> ?_,λw q s=> ?_⟩
 .obtain⟨k,rfl⟩:=nk m 3 (by lia)
  exact BX _ r (Di k P.ad g.n4 A v z d u l2) (by simp) (by simp) b (e.l0 (vk b _ _) _ (by lia)) (l.l0 (vk b _ _) _ (by lia))
 .cases p:w.testBit i with
  | true=>exact e.snd w (tI q λk j=>by
   rw [Ad7,decide_eq_true_eq]at j
   rw [← j];exact p) s
  | false=>exact l.snd w q (sr s p)
def walk (g:bz n K T) (A: ∀s∈S,s.wf (K++T)/\s.dp<=q)(I:Pp n K T S p): ∀d,dep p<=d-> ∀low high:Nat,low<2 ^ bN n K T->high<2 ^ bN n K T-> ∃b:Bool,(∀ m ro (h':AH),d+q+12<=m->h'[ro]? =some (.obj "Cases" (cC n K T S))->call prog m "Cases.is_shown" [.r ro,.v p,.i low,.i high] h'= .ok (.b b) h')/\(b=true->Lw n K T S (d+q+12) p low high):=by
 induction I with
 | @brk j w=>
  intro d D low high c a
  obtain⟨s,f⟩: ∃s,S[j]? =k0 s:=⟨S[j],Aa4 w⟩
  obtain⟨wf,dp⟩:=A s (Ac4 f)
  obtain⟨o,B, -⟩:=QT (q+9) j low high (ro:=0) (h:= [Cell.obj "Cases" _]) g rfl c a f (by lia) wf
  refine⟨o==k0 k9,λm ro h' M C=> ?_,λz=>(Lw.brk A f (eq_of_beq z▸B)).up (by lia)⟩
  obtain⟨k,rfl⟩:=nk m 3 (by lia)
  obtain⟨Q,r,e⟩:=QT (k+1) j low high g C c a f (by lia) wf
  rw [r.uniq B]at e
  exact A3 k C w e
 | @dN i x y t U R l _ _ v u=>
  intro d D low high c a
  simp only [dep,GG]at D
  obtain⟨d,rfl⟩: ∃e,d=e+1:=⟨d-1,by lia⟩
  have P:i<bN n K T:=by
   have:=(Aa0.mp l).1
   rw [wG]at this
   exact this
  obtain⟨O,H,N⟩:=v d (by lia) _ high (oY c (Ao1 (by decide) P)) a
  obtain⟨F,E,G⟩:=u d (by lia) low _ c (Ah6 (Ap0 _ _) a)
  refine⟨!u9 ((2 ^ i &&& high)-((2 ^ i &&& high) &&& low)=0)&&(O&&F),λm ro h' M C=> ?_,λz=> ?_⟩
  .obtain⟨k,rfl⟩:=nk m 3 (by lia)
   exact Iu _ C (LH k g C l) (H _ ro h' (by lia) C) (E _ ro h' (by lia) C)
  .rw [Aa1,Aa1,Ag6,decide_eq_false_iff_not]at z
   obtain⟨J,L⟩:=Classical.not_not.mp λy=>z.1 ((Cs i).mpr y)
   rw [show d+1+q+12=d+q+12+1 by lia]
   exact Lw.dN g l J L (by lia) (N z.2.1) (G z.2.2)
end
abbrev iS:List Tx:= [JH,Xb,Zk,z4,Za,zc,xb,Qi]
abbrev gH (r:Nat) (N:List Tx) (g p:Nat) (a x5:Option W):Sl:= [k0 (.r r),k0 (.l (N.map .str)),si g,si p,a,x5]
def z7 (X Y)(e:Gn τ i=k0 (.s s)):Gm F (.or (.cmp .eq (.var i) (.str X)) (.cmp .eq (.var i) (.str Y))) τ h= .ok (s==X||s==Y) h:=by
 rw [Gm,kG (a:=s==X) (b:=s==Y) (by simp only [eval,Gi,e,R.ae,Xa,R.ao,ag]) (by simp only [eval,Gi,e,R.ae,Xa,R.ao,ag]),R.ae]
 rfl
def FX (k)(B:N.length<=8) (e:h[r]? =k0 (ah ns i v)): ∃ f v',f.wf N/\f.dp<=2/\execs (k8 (k+4)) (match bg.body with | .cons _ (.cons _ r)=>r | r=>r) (gH r N g p y0 y0) h= .ret (.v (dv f)) (h.set r (ah ns i v')):=by
 have I:r<h.length:=(Aa0.mp e).1
 have y: ∀w,_[r]? =k0 (ah ns i w):=λw=>Ab9 I
 obtain⟨a,v1,l,u,e1⟩:=sk B 1 _ h v e
 have e1:call prog (k+4) "_law_expression" [.r r,.l (N.map .str),.v (.int 1)] h= .ok (.v (aV a)) (h.set r (ah ns i v1)):=by
  rw [show 1+(k+1)+2=k+4 by lia]at e1
  exact e1
 have K:Gj .mod (p:Int) 8=k0 _:=nZ p 8 (by decide)
 have pl:p % 8<8:=Aj5 _ (by decide)
 obtain⟨w,F⟩: ∃w,iS[p % 8]? =k0 w:=⟨iS[p % 8],Aa4 pl⟩
 have A:aP [D.str JH,.str Xb,.str Zk,.str z4,.str Za,.str zc,.str xb,.str Qi] ((p % 8:Nat):Int)=k0 (.str w):=by
  show aP (iS.map D.str) _=_
  rw [Zd _ _ (by rw [Aa];exact pl),Ac,F];rfl
 have t:w=JH\/w=Xb\/w=Zk\/w=z4\/w∈ [Za,zc,xb,Qi]:=by
  have:=Ac4 F
  simpa using this
 simp only [bg]
 have H: ∀X,execs (k8 _) X _ _=execs (k8 (k+4)) (.cons (.af 5 (.ix (.lst (.cons (.str fH) (.cons (.str i5) (.g (.str gm) (.str gX) (.str fY) (.str gW) (.str mD) (.str vg))))) (.bin .mod .v3 (.int 8)))) (.cons (.af 4 (.call "_law_expression" (.c .v0 .v1 (.int 1)))) X)) (gH r N g p none none) h:=fun X=>by
  rw [za (τ1:=gH r N g p y0 (k0 (.s w))) (h1:=h) (by simp_all [K,wO,A])]
  rw [za (τ1:=gH r N g p (sv (aV a)) (k0 (.s w))) (h1:=h.set r (ah ns i v1)) (by simp_all [e1])]
 rw [← H]
 have two:(w==JH||w==Xb)=true-> ∃ b v',b.wf N/\b.dp<=2/\ ∀X,execs (k8 (k+4)) (.cons (.r (.or (.cmp .eq .v5 (.str fH)) (.cmp .eq .v5 (.str i5))) (.tup (.c .v5 .v4 (.call "_law_expression" (.c .v0 .v1 (.int 1)))))) X) (gH r N g p (sv (aV a)) (some (.s w))) _= .ret (.t [.str w,aV a,aV b]) (h.set r (ah ns i v')):=fun q=>by
  obtain⟨b,v2,d,E,e2⟩:=sk B 1 (k+1) _ v1 (y v1)
  have e2:call prog (k+4) "_law_expression" [.r r,.l (N.map .str),.v (.int 1)] (h.set r (ah ns i v1))= .ok (.v (aV b)) (h.set r (ah ns i v2)):=by
   rw [show 1+(k+1)+2=k+4 by lia,Ad8]at e2
   exact e2
  refine⟨b,v2,d,by lia,λX=> ?_⟩
  refine qa ((xr (h1:=h.set r (ah ns i v1)) ?_).trans (qa (Ja rfl ?_)))
  .rw [z7 JH Xb rfl,q]
  .simp_all [e2]
 rcases t with rfl | rfl | rfl | rfl | t
 .obtain⟨b,v2,d,E,e2⟩:=two rfl
  exact⟨.dH a b,v2,⟨l,d⟩,by simp only [Fc.dp];lia,e2 _⟩
 .obtain⟨b,v2,d,E,e2⟩:=two rfl
  exact⟨.dZ a b,v2,⟨l,d⟩,by simp only [Fc.dp];lia,e2 _⟩
 .refine⟨.d4 a,v1,l,Ap1 u,?_⟩
  rw [xa (z7 (s:=Zk) JH Xb rfl)]
  exact zf (z7 (s:=Zk) Zk z4 rfl) (Ja rfl (by simp_all [];rfl))
 .refine⟨.au a,v1,l,Ap1 u,?_⟩
  rw [xa (z7 (s:=z4) JH Xb rfl)]
  exact zf (z7 (s:=z4) Zk z4 rfl) (Ja rfl (by simp_all [];rfl))
 .obtain⟨c,v2,z,e2⟩:=xh (k+3) (y v1) (m:=90) (by decide) (by decide)
  rw [Ad8]at e2
  have e2:call prog (k+4) "_law_draw" [.r r,.v (.int 90)] (h.set r (ah ns i v1))= .ok (.i c) (h.set r (ah ns i v2)):=e2
  obtain⟨o,v3,G,n⟩:=xh (k+3) (y v2) (m:=8) (by decide) (by decide)
  rw [Ad8]at n
  have n:call prog (k+4) "_law_draw" [.r r,.v (.int 8)] (h.set r (ah ns i v2))= .ok (.i o) (h.set r (ah ns i v3)):=n
  have L:((10:Int)+(c:Int))=((10+c:Nat):Int):=rfl
  obtain⟨j,J⟩: ∃j,[0,1,1,2,2,3,4,10+c][o]? =k0 j:=⟨_,Aa4 (show o< [0,1,1,2,2,3,4,10+c].length from G)⟩
  have x:aP [D.int 0,.int 1,.int 1,.int 2,.int 2,.int 3,.int 4,.n (10+c)] (o:Int)=k0 (.n j):=by
   show aP (aA [0,1,1,2,2,3,4,10+c]) _=_
   rw [Zd _ _ (by rw [Aa];exact G),Ac,J];rfl
  refine⟨.cnt w j a,v3,⟨t,l⟩,Ap1 u,?_⟩
  have C:(w==JH||w==Xb)=k9/\(w==Zk||w==z4)=false:=by
   have:w=Za\/w=zc\/w=xb\/w=Qi:=by simpa using t
   rcases this with rfl | rfl | rfl | rfl<;>exact⟨rfl,rfl⟩
  rw [xa (by rw [z7 JH Xb rfl,C.1])]
  rw [xa (by rw [z7 Zk z4 rfl,C.2])]
  exact qa (Ja rfl (by simp_all [e2,Jc,L,n,wO,x];rfl))
def BQ (H:N.length<=8): ∀ g k h v,h[r]? =k0 (ah ns i v)-> ∃ s v',s.wf N/\s.dp<=g+2/\call prog (g+k+5) "_law_saying" [.r r,.l (N.map .str),.i g] h= .ok (.v (az s)) (h.set r (ah ns i v')):=by
 have leaf: ∀ g K h v,h[r]? =k0 (ah ns i v)-> ∀ p v1,(g=0\/ ¬7<p)->call prog (K+4) "_law_draw" [.r r,.v (.int 11)] h= .ok (.i p) (h.set r (ah ns i v1))-> ∃ s v',s.wf N/\s.dp<=g+2/\call prog (K+5) "_law_saying" [.r r,.l (N.map .str),.i g] h= .ok (.v (az s)) (h.set r (ah ns i v')):=by
  intro g K h v e p v1 q e1
  have l:r<h.length:=(Aa0.mp e).1
  obtain⟨f,v2,wf,T,e2⟩:=FX K H (Ab9 l)
  rw [Ad8]at e2
  refine⟨.fact f,v2,wf,by simp only [Sy.dp];lia,?_⟩
  rw [Gb rfl _ _ _ rfl]
  simp only [bg]at e2 ⊢
  refine fx (by simp_all [e1];rfl) ?_
  rw [xa (by
   have c:=gz 0 g (h.set r (ah ns i v1))
   have c:Gq .gt (.i g) (.v (.int 0)) (h.set r (ah ns i v1))=k0 (u9 (0<g)):=c
   have n:Gq .gt (.i p) (.v (.int 7)) (h.set r (ah ns i v1))=k0 (u9 (7<p)):=gz 7 p _
   rw [Gm,J5 (a:=u9 (0<g)) (b:=u9 (7<p)) (by simp_all [c]) (by simp_all [n]),R.ae]
   have:(u9 (0<g)&&u9 (7<p))=false:=by
    rw [Bool.and_eq_false_iff,decide_eq_false_iff_not,decide_eq_false_iff_not]
    rcases q with q | q
    .exact .inl (by lia)
    .exact .inr q
   rw [this]
   rfl),e2]
  exact Ga _ h _ (Ae1 ..)
 intro g
 induction g with
 | zero=>
  intro k h v e
  obtain⟨p,v1,P,e1⟩:=xh _ e (m:=11) (by decide) (by decide)
  rw [show 0+k+5=k+5 by lia]
  have e1:call prog _ "_law_draw" [.r r,.v _] h= .ok _ _:=e1
  exact leaf 0 k h v e p v1 (.inl rfl) e1
 | succ g z=>
  intro k h v e
  have l:r<h.length:=(Aa0.mp e).1
  have x: ∀w,(h.set r (ah ns i w))[r]? =k0 (ah ns i w):=λw=>Ab9 l
  have E: ∀w,(h.set r (ah ns i w)).length=h.length:=λw=>Ae1 ..
  rw [show g+1+k+5=(g+k+1)+5 by lia]
  obtain⟨p,v1,P,e1⟩:=xh (g+k+1+3) e (m:=11) (by decide) (by decide)
  by_cases q:7<p
  .have e1:call prog (g+k+5) "_law_draw" [.r r,.v (.int 11)] h= .ok (.i p) (h.set r (ah ns i v1)):=e1
   obtain⟨s,v2,C,S,e2⟩:=z k _ v1 (x v1)
   rw [Ad8]at e2
   have B:(((g+1:Nat):Int)-1)=((g:Nat):Int):=by lia
   rw [Gb (d:=bg) rfl _ _ _ rfl]
   show ∃s v',_/\_/\Gw _ (execs _ _ [k0 (.r r),k0 (.l (N.map .str)),si (g+1),y0,y0,y0] h)=_
   simp only [bg]
   rw [za (τ1:=gH r N (g+1) p y0 y0) (h1:=h.set r (ah ns i v1)) (by simp_all [e1])]
   have G: ∀a X,execs (k8 (g+k+5)) (.cons (.iff (.and (.cmp .gt .v2 (.int 0)) (.cmp .gt .v3 (.int 7))) a .nil) X) (gH r N (g+1) p y0 y0) (h.set r (ah ns i v1))=(execs (k8 (g+k+5)) a (gH r N (g+1) p y0 y0) (h.set r (ah ns i v1))).seq λL h=>execs (k8 (g+k+5)) X L h:=λa X=>by
    rw [execs,xr (h1:=h.set r (ah ns i v1))]
    have c:Gq .gt (.i (g+1)) (.v (.int 0)) (h.set r (ah ns i v1))=k0 (u9 (0<g+1)):=gz 0 (g+1) _
    have n:Gq .gt (.i p) (.v (.int 7)) (h.set r (ah ns i v1))=k0 (u9 (7<p)):=gz 7 p _
    rw [Gm,J5 (a:=u9 (0<g+1)) (b:=u9 (7<p)) (by simp_all [c]) (by simp_all [n]),R.ae,decide_eq_true q,decide_eq_true (by lia)]
    rfl
   rw [G]
   rw [za (τ1:=gH r N (g+1) p (sv (az s)) y0) (h1:=h.set r (ah ns i v2)) (by simp_all [zd,B,e2])]
   have A:Gq .eq (.i p) (.v (.int 8)) (h.set r (ah ns i v2))=k0 (u9 (p=8)):=Jm p 8 _
   by_cases u:p=8
   .refine⟨.neg s,v2,C,by simp only [Sy.dp];lia,?_⟩
    rw [zf (w:= .v (az (.neg s))) (by simp_all [A,decide_eq_true u]) (Ja rfl (by simp_all [];rfl)),O.bM]
    exact Ga _ h _ (E v2)
   .rw [xa (by simp_all [A,decide_eq_false u])]
    obtain⟨y,v3,j,Q,o⟩:=z k _ v2 (x v2)
    rw [Ad8]at o
    obtain⟨f,J,I,t,M,F⟩: ∃f:Sy->Sy->Sy,(∀ a b,(f a b).dp=max a.dp b.dp+1)/\(∀ a b,a.wf N->b.wf N->(f a b).wf N)/\ ∃t,aP [D.str Zx,.str XA] ((p:Int)-9)=k0 (.str t)/\ ∀a b,az (f a b)= .tup [.str t,az a,az b]:=by
     have:p=9\/p=10:=by lia
     rcases this with rfl | rfl
     .exact⟨.bU,λ_ _=>rfl,λ_ _ h g=>⟨h,g⟩,Zx,rfl,λ_ _=>rfl⟩
     .exact⟨.bP,λ_ _=>rfl,λ_ _ h g=>⟨h,g⟩,XA,rfl,λ_ _=>rfl⟩
    refine⟨f s y,v3,I _ _ C j,by rw [J];lia,?_⟩
    rw [qa (w:= .v (az (f s y))) (h1:=h.set r (ah ns i v3)) (Ja rfl (by rw [F];simp_all [zd,wO,M,B,o])),O.bM]
    exact Ga _ h _ (E v3)
  .have e1:call prog (g+k+1+4) "_law_draw" [.r r,.v (.int 11)] h= .ok (.i p) (h.set r (ah ns i v1)):=e1
   exact leaf (g+1) (g+k+1) h v e p v1 (.inr q) e1
noncomputable abbrev cY (r:Nat) (w:D) (M:Nat) (N:List Tx) (L:List D) (x:Option W):Sl:= [k0 (.r r),sv w,si M,k0 (.l (N.map .str)),k0 (.own L),x]
def Ly (k)(A:N.length<=8) (z:ns.length<=63) (e:h[r]? =k0 (ah ns i v)) (I:L.length=j) (H:j<5) (C: ∀s∈L,s.wf N/\s.dp<=4+j): ∃ s O v',s.wf N/\s.dp<=5+j/\execs (k8 (k+7)) Ji (cY r w M N (L.map az) (si j)) h= .next (cY r w M N ((L++ [s]).map az) (si j)) (h.set r (ah ns O v')):=by
 have B:r<h.length:=(Aa0.mp e).1
 have g: ∀i w,_[r]? =k0 (ah ns i w):=λi w=>Ab9 B
 obtain⟨v1,e1⟩:=yO (k+6) z e
 obtain⟨s,v2,u,G,e2⟩:=BQ A 1 _ _ v1 (g (i+1) v1)
 have e2:call prog (k+7) "_law_saying" [.r r,.l (N.map .str),.v (.int 1)] (h.set r (ah ns (i+1) v1))= .ok (.v (az s)) (h.set r (ah ns (i+1) v2)):=by
  rw [Ad8,show 1+(k+1)+5=k+7 by lia]at e2
  exact e2
 unfold Ji
 rw [za (τ1:=cY r w M N (L.map az) (si j)) (h1:=h.set r (ah ns (i+1) v1)) (by simp_all [e1])]
 have E:(L.map az).length<bf:=by rw [Gg,Aa];lia
 rw [za (τ1:=cY r w M N ((L++ [s]).map az) (si j)) (h1:=h.set r (ah ns (i+1) v2)) (by
  simp_all [e2,E,if_true]
  rw [Ae0]
  rfl)]
 have o: ∀y:AH,Gq .gt _ (.v (.int 0)) y=k0 _:=gz 0 j
 by_cases q:0<j
 .obtain⟨d,v3,K,c⟩:=xh _ (g (i+1) v2) (m:=9) (by decide) (by decide)
  rw [Ad8]at c
  have c:call prog (k+7) "_law_draw" [.r r,.v (.int 9)] _= .ok _ _:=c
  have l:Gm (k8 (k+7)) (.and (.cmp .gt .v5 (.int 0)) (.cmp .eq (.call "_law_draw" (.b .v0 (.int 9))) (.int 0))) (cY r w M N ((L++ [s]).map az) (si j)) (h.set r (ah ns (i+1) v2))= .ok (decide (d=0)) (h.set r (ah ns (i+1) v3)):=by
   simp_all [o,decide_eq_true q,c,nO]
  by_cases t:d=0
  .obtain⟨x,v4,F,p⟩:=xh (k+6) (g (i+1) v3) (m:=j) q (by lia)
   rw [Ad8]at p
   have f:x<L.length:=by lia
   have b:aP ((L++ [s]).map az) (x:Int)=k0 (az L[x]):=by
    rw [Zd _ _ (by rw [Aa,Aa6];lia),Ac,Ac9 f,Aa4 f];rfl
   obtain⟨D,J⟩:=C _ (Al4 f)
   refine⟨.neg L[x],i+1,v4,D,by simp only [Sy.dp];lia,?_⟩
   have a:dw ((L++ [s]).map az).length (-1)=k0 L.length:=by
    rw [Aa,Aa6]
    simp [dw]
    lia
   have n:((L++ [s]).map az).set L.length (.tup [.str QI,az L[x]])=(L++ [Sy.neg L[x]]).map az:=by
    rw [Ae0,Ae0,An2 _ _ (by rw [Aa];lia),Aa,Am3]
    rfl
   rw [za (τ1:=cY r w M N ((L++ [Sy.neg L[x]]).map az) (si j)) (h1:=h.set r (ah ns (i+1) v4)) ((xr (h1:=h.set r (ah ns (i+1) v3)) (by rw [l,decide_eq_true t])).trans ?_),execs]
   rw [za (τ1:=cY r w M N ((L++ [Sy.neg L[x]]).map az) (si j)) (h1:=h.set r (ah ns (i+1) v4)),execs]
   generalize (L++ [s]).map az=Z at b a n ⊢
   simp_all [p,mP,b,a,n,Int.reduceNeg]
  .refine⟨s,i+1,v3,u,by lia,?_⟩
   rw [za (g6 (h1:=h.set r (ah ns (i+1) v3)) (by rw [l,decide_eq_false t])),execs]
 .refine⟨s,i+1,v2,u,by lia,?_⟩
  rw [xa (by simp_all [o,decide_eq_false q]),execs]
theorem uk (k)(o:N.length<=8) (n:ns.length<=63): ∀ c j i v (h:AH) (L:List Sy) (x:Option W),h[r]? =k0 (ah ns i v)->L.length=j->j+c<=5->(∀ s∈L,s.wf N/\s.dp<=4+j)-> ∃(d:List Sy) (m:Nat) (l:Int) (g:Option W),(∀ s∈d,s.wf N/\s.dp<=4+(j+c))/\d.length=j+c/\Gp (Gr [5] u0) (λτ h=>execs (k8 (k+7)) Ji τ h) ((Al7 j c).map λ(x:Nat)=>D.n x) (cY r w M N (L.map az) x) h= .next (cY r w M N (d.map az) g) (h.set r (ah ns m l))
 | 0,j,i,v,h,L,x,e,f,_,b=>⟨L,i,v,x,b,f,by
  rw [List.range'_zero,Af1,jM]
  congr 1
  obtain⟨p,e⟩:=Aa0.mp e
  rw [← e,List.set_getElem_self]⟩
 | c+1,j,i,v,h,L,x,e,f,A,b=>by
  have p:r<h.length:=(Aa0.mp e).1
  obtain⟨s,i1,v1,y,z,e1⟩:=Ly k (M:=M) (w:=w) o n e f (by lia) b
  obtain⟨d,m,l,g,u,B,t⟩:=uk k (M:=M) (w:=w) o n c (j+1) i1 v1 (h.set r (ah ns i1 v1)) (L++ [s]) (si j) (Ab9 p) (by rw [Aa6,f];rfl) (by lia) (λq a=>by
   rcases Ac8.mp a with a | a
   .exact⟨(b q a).1,by have:=(b q a).2;lia⟩
   .rw [Ac3.mp a];exact⟨y,by lia⟩)
  rw [Ad8]at t
  refine⟨d,m,l,g,λs b=>by have:=u s b;exact⟨this.1,by lia⟩,by lia,?_⟩
  rw [Al2,Ab2,zb (τ1:=cY r w M N (L.map az) (si j)) rfl e1,t]
def tu (k)(g:bz n K T)(z:M<=5) (l:ns.length<=63) (e:h[r]? =k0 (ah ns i v)): ∃ S j v',(∀ s∈S,s.wf (K++T)/\s.dp<=9)/\S.length<=M/\call prog (k+8) "_law_theory" [.r r,.v (wD K T),.i M] h= .ok (.v (aG K T S)) (h.set r (ah ns j v')):=by
 have t:r<h.length:=(Aa0.mp e).1
 obtain⟨d,v1,B,e1⟩:=xh _ e (m:=M+1) (by lia) (by lia)
 have e1:call prog (k+7) "_law_draw" [.r r,.i _] h= .ok _ _:=e1
 have o:(K++T).length<=8:=by rw [Aa6];have:=g.k4;have:=g.t4;lia
 obtain⟨L,j,v',q,a,A,f⟩:=uk k (M:=M) (N:=K++T) (w:=wD K T) o l d 0 i v1 _ [] y0 (Ab9 t) rfl (by lia) (λ_ h=>absurd h Ai4)
 rw [Ad8]at f
 refine⟨L,j,v',λs u=>by have:=a s u;exact⟨this.1,by lia⟩,by lia,?_⟩
 rw [Gb (d:=zt) rfl _ _ _ rfl]
 show Gw _ (execs _ _ [k0 _,sv _,si M,y0,y0,y0] h)=_
 simp only [zt]
 have p:(K.map D.str).length+(T.map D.str).length<=bf:=by rw [Gg,Aa,Aa];have:=g.k4;have:=g.t4;lia
 rw [za (τ1:= [k0 _,sv _,si M,k0 (.l ((K++T).map .str)),y0,y0]) (h1:=h) (by
  simp_all [aa,Qh,Zf,r6,p,if_true,ag,yQ]
  rw [Ae0])]
 rw [za (τ1:=cY r (wD K T) M (K++T) [] y0) (h1:=h) (by simp_all [])]
 have c:((M:Int)+1)=((M+1:Nat):Int):=rfl
 have y:Gs (k8 (k+7)) (.aj (.call "_law_draw" (.b .v0 (.bin .add .v2 (.int 1))))) (cY r (wD K T) M (K++T) [] none) h= .ok ((List.range d).map fun x=>D.n x) (h.set r (ah ns i v1)):=by
  have b: -(fL)<=(d:Int)/\(d:Int)<fL:=by rw [GQ];lia
  simp_all [Jc,c,e1,b,and_self,if_true,Ad5]
 rw [za (τ1:=cY r (wD K T) M (K++T) (L.map az) q) (h1:=h.set r (ah ns j v')) (by
  rw [exec,y,R.ar,Aj7]
  exact f)]
 rw [qa (w:= .v (aG K T L)) (h1:=h.set r (ah ns j v')) (Ja rfl (by simp_all [XW,ag]))]
 exact Ga _ h _ (Ae1 ..)
def vE {f:Tx->Nat×Nat}{t:Tx}{N:List Tx}(h:t∉N):GE (aM N f) t (a8 (f t).1 (f t).2)=aM (N++ [t]) f:=by
 unfold GE aM
 rw [if_neg,Ae0]
 .rfl
 .rw [Ad2]
  rintro ⟨p,a,e⟩
  obtain⟨x,b,rfl⟩:=Ab6.mp a
  have e:=by simpa using e
  exact h (e▸b)
def jv (h) (a b:Cell):(h++ [a]).set h.length b=h++ [b]:=by simp
def zo (h) (a:Cell):(h++ [a])[h.length]? =k0 a:=by simp
theorem oA {st:Option W->Sl}(c: ∀x d,GB (st x) 3 (.v d)=st (sv d)): ∀(a N:List Tx) (x:Option W),(N++a).Nodup->(∀ t∈a,∀N:List Tx,N.length<=8->execs F b (st (k0 (.s t))) (h++ [.aN (aM N f)])= .next (st (k0 (.s t))) (h++ [.aN (GE (aM N f) t (a8 (f t).1 (f t).2))]))->(N++a).length<=8-> ∃i,Gp (Gr [3] u0) (λτ h=>execs F b τ h) (a.map .str) (st x) (h++ [.aN (aM N f)])= .next (st i) (h++ [.aN (aM (N++a) f)])
 | [],N,x,_,_,_=>⟨x,by rw [Ae3];rfl⟩
 | t::a,N,x,j,k,g=>by
  have m:t∉N:=λz=>(Aj3.mp j).2.2 t z t Aa5 rfl
  have e1:=k t Aa5 N (by rw [Aa6]at g;lia)
  rw [vE m]at e1
  obtain⟨i,e⟩:=oA c a (N++ [t]) (k0 (.s t)) (by rw [Ae];exact j) (λu l=>k u (Aa2 _ l)) (by rw [Ae];exact g)
  refine⟨i,?_⟩
  rw [Ab2,zb (τ1:=st (k0 (.s t))) (by rw [GC,c]) e1,e,Ae]
  rfl
def fO (n:Nat) (T:List Tx) (t:Tx):Nat×Nat:=if t∈T then(0,2 ^ (n*n)-1)else(0,Wf.bF n)
def E6 (k)(g:bz n K T) (h):call prog (k+2) "_law_open" [.v (wD K T),.i n] h= .ok (.r h.length) (h++ [.aN (aM (K++T) (fO n T))]):=by
 obtain⟨j,p,v⟩:=Aj3.mp g.nd
 have m:n*n<=16:=Af5 g.n4 g.n4
 have u:Gj .mul (n:Int) (n:Int)=k0 _:=je n n (by have:=g.n4;lia)
 have r:=J9 (n*n) (by lia)
 have a:((2 ^ (n*n):Nat):Int)-1=((2 ^ (n*n)-1:Nat):Int):=by
  have:=Ad4 (n*n)
  lia
 rw [Gb (d:=QE) rfl _ _ _ rfl]
 simp only [QE]
 have l: ∀N:List Tx,N.length<=8->(aM N (fO n T)).length<bf:=λN c=>by rw [Gg,aM,Aa];lia
 obtain⟨e,e1⟩:=oA (F:=(k8 (k+1))) (h:=h) (b:=ju) (f:=fO n T) (st:=λx=> [sv (wD K T),si n,k0 (.r h.length),x]) (λ_ _=>rfl) K [] y0 j (λt i N c=>by
  have s:t∉T:=λz=>v t i t z rfl
  have o:=uZ k n (h++ [.aN (aM N (fO n T))]) g.n4
  have nr:Gd (a8 (fO n T t).1 (fO n T t).2)=true:=rfl
  have:fO n T t=(0,Wf.bF n):=by rw [fO,if_neg s]
  unfold ju
  rw [za (τ1:= [sv (wD K T),si n,k0 (.r h.length),k0 (.s t)]) (h1:=h++ [.aN (GE (aM N (fO n T)) t (a8 (fO n T t).1 (fO n T t).2))]) (by
   simp_all [o,wu (zo h (.aN (aM N (fO n T)))),ag]
   rw [if_pos ⟨l N c,rfl⟩,jv,this]
   rfl),execs]) (by have:=g.k4;rw [Ae7];lia)
 obtain⟨q,e2⟩:=oA (F:=(k8 (k+1))) (h:=h) (b:=Wt) (f:=fO n T) (st:=λx=> [sv (wD K T),si n,k0 (.r h.length),x]) (λ_ _=>rfl) T K e g.nd (λt i N c=>by
  have:fO n T t=(0,2 ^ (n*n)-1):=by rw [fO,if_pos i]
  unfold Wt
  rw [za (τ1:= [sv (wD K T),si n,k0 (.r h.length),k0 (.s t)]) (h1:=h++ [.aN (GE (aM N (fO n T)) t (a8 (fO n T t).1 (fO n T t).2))]) (by
   simp_all [u,r,zd,a,wu (zo h (.aN (aM N (fO n T)))),ag]
   rw [if_pos ⟨l N c,rfl⟩,jv,this]
   rfl),execs]) (by have:=g.k4;have:=g.t4;rw [Aa6];lia)
 rw [Ae7]at e1
 rw [za (τ1:= [sv (wD K T),si n,k0 (.r h.length),y0]) (h1:=h++ [.aN (aM [] (fO n T))]) (by simp_all [ag];rfl)]
 rw [za (τ1:= [sv (wD K T),si n,k0 (.r h.length),e]) (h1:=h++ [.aN (aM K (fO n T))]) (by
  rw [exec,show Gs (k8 (k+1)) (.seq (.ix .v0 (.int 0))) [sv (wD K T),si n,k0 (.r h.length),y0] (h++ [.aN (aM [] (fO n T))])= .ok (K.map .str) (h++ [.aN (aM [] (fO n T))])by simp_all [aa,Qh],R.ar]
  exact e1)]
 rw [za (τ1:= [sv (wD K T),si n,k0 (.r h.length),q]) (h1:=h++ [.aN (aM (K++T) (fO n T))]) (by
  rw [exec,show Gs (k8 (k+1)) (.seq (.ix .v0 (.int 1))) [sv (wD K T),si n,k0 (.r h.length),e] (h++ [.aN (aM K (fO n T))])= .ok (T.map .str) (h++ [.aN (aM K (fO n T))])by simp_all [aa,Zf],R.ar]
  exact e2)]
 rw [qa (w:= .r h.length) (h1:=h++ [.aN (aM (K++T) (fO n T))]) rfl]
 show fin h.length _ _=_
 unfold fin
 rw [if_neg (by simp),if_neg (by simp [W.keep])]
def ID {n:Nat}{K T:List Tx}(g:bz n K T){r:Nat}{h:AH}(e:h[r]? =k0 (.aN (aM (K++T) (fO n T)))):Dc (wo n K T 0) (wo n K T (2 ^ bN n K T-1)) (fO n T) r h:=by
 have c: ∀ {i x y:Nat}{t:Tx},_[i]? =k0 _->bh _ t x y=true:=λ{i x y t} a=>by
  have j:=(Aa0.mp a).1
  rw [wG]at j
  rw [(Xm g a _).1,Ag3,decide_eq_true j]
 refine⟨e,g.n4,λt f=> ?_,λt f=> ?_⟩
 .have:(fO n T t).1=0:=by unfold fO;split<;>rfl
  rw [this]
  refine⟨Ad4 _,λx y b d=> ?_⟩
  rw [Af9]
  refine⟨(λz=>by cases z),λz=> ?_⟩
  obtain⟨i,a⟩:=u3 f b d z
  rw [(Xm g a 0).1,Af9]at z
  cases z
 .unfold fO
  by_cases q:t∈T
  .rw [if_pos q]
   refine⟨Nat.sub_lt (Ad4 _) (by decide),λx y b d=> ?_⟩
   obtain⟨i,a⟩:=nB (K:=K) b d (.inl q)
   have k:x*n+y<n*n:=Wf.place_lt b d
   show(2 ^ _-1).testBit (x*n+y)=u0↔_
   rw [Ag3,decide_eq_true k,c a]
  .rw [if_neg q]
   have v:=(V.leaf (n:=n)).1
   refine⟨v.lt,λx y b d=>(v.bit x y b d).trans ?_⟩
   by_cases e:x=y
   .subst e
    obtain⟨i,a⟩:=nB (T:=T) b b (.inr ⟨((Ac8.mp f).resolve_right q),rfl⟩)
    rw [c a]
    simp [wW]
   .rw [bh,if_neg (show t∉(wo n K T _).T from q),decide_eq_false e,Af]
    simp [wW,e]
def eY (n x:Nat):Nat:=((Aa3 n).map λa=>(x.testBit a).toNat*2 ^ (a*n+a)).sum
def tS {n x:Nat}(b:n<=4) (a:x<2 ^ n):eY n x=Wf.cQ n (W9 n x):=by
 have: ∀n,n<5-> ∀x,x<16->eY n x=Wf.cQ n (W9 n x):=by decide +kernel
 exact this n (by lia) x (Ab3 a (Ad0 (by decide) b))
def DV (k n x) (h) (l:n<=4):call prog (k+1) "_law_spread" [.i n,.i x] h= .ok (.i (eY n x)) h:=by
 rw [Gb rfl _ _ _ rfl]
 have e:eval (k8 k) Zo [si n,si x] h= .ok (.own (aA ((Aa3 n).map λa=>(x.testBit a).toNat*2 ^ (a*n+a)))) h:=by
  unfold Zo
  rw [wn (λa=> .n _) rfl (by lia) λa c=>⟨.i _,?_,rfl⟩]
  .rw [aA,Ad1];rfl
  .have g:=je a n (by lia)
   have j:(x.testBit a).toNat<=1:=by cases x.testBit a<;>decide
   have d:=jU (x.testBit a).toNat (a*n+a) (by lia) (by have:=Wf.place_lt c c;have:=zj (show n<=20 by lia);lia)
   have f:(((a*n:Nat):Int)+(a:Int))=((a*n+a:Nat):Int):=rfl
   simp_all [g,Jc,f,Qp,nA,d]
 have i:dC .sum [.own (aA ((Aa3 n).map λa=>(x.testBit a).toNat*2 ^ (a*n+a)))] h= .ok (.i (eY n x)) h:=by
  show(R.of h ((k0 (aA ((Aa3 n).map λa=>(x.testBit a).toNat*2 ^ (a*n+a)))).bind λb=>if b.length<=bf then Kk b else y0)).bind _=_
  rw [Ag2,if_pos (by rw [Gg,aA,Aa,Aa,Ae9];lia),WS]
  rfl
 simp only [wF]
 rw [qa (w:= .i (eY n x)) (h1:=h) (Ja rfl (by simp_all [e,i])),Ga _ _ _ rfl]
theorem pO {st:Option W->Option W->Sl}(g: ∀x y d,GB (st x y) 4 (.v d)=st (sv d) y) (L a:List Tx) (l:(a++L).Nodup) (m:(a++L).length<=8) (n: ∀(j:Nat) (t:Tx) (y:Option W) (N:List Tx),L[j]? =k0 t->N.length<=8-> ∃i,execs F b (st (si j) y) (h++ [.aN (aM N f)])= .next (st (si j) i) (h++ [.aN (GE (aM N f) t (a8 (f t).1 (f t).2))])): ∀(c j:Nat) (x y:Option W),j+c=L.length-> ∃M i,Gp (Gr [4] u0) (λτ h=>execs F b τ h) ((Al7 j c).map λ(x:Nat)=>D.n x) (st x y) (h++ [.aN (aM (a++L.take j) f)])= .next (st M i) (h++ [.aN (aM (a++L) f)])
 | 0,j,x,y,q=>⟨x,y,by rw [Ai7 (by lia)];rfl⟩
 | c+1,j,x,y,q=>by
  have k:j<L.length:=by lia
  have p:L[j]? =k0 L[j]:=Aa4 k
  have o:a++L=(a++L.take j)++(L[j]::L.drop (j+1)):=by
   rw [Ae,←Am4 k,List.take_append_drop]
  have r:L[j]∉a++L.take j:=λz=>by
   rw [o]at l
   exact(Aj3.mp l).2.2 _ z _ Aa5 rfl
  obtain⟨s,e1⟩:=n j L[j] y (a++L.take j) p (by rw [o,Aa6]at m;lia)
  rw [vE r,Ae,show L.take j++ [L[j]]=L.take (j+1)by rw [List.take_append_getElem k]]at e1
  obtain⟨M,i,e⟩:=pO g L a l m n c (j+1) (si j) s (by lia)
  refine⟨M,i,?_⟩
  rw [Al2,Ab2,zb (τ1:=st (si j) y) (by rw [GC,g]) e1,e]
noncomputable def fS (n:Nat) (K T:List Tx) (c:Nat) (t:Tx):Nat×Nat:=if t∈T then((cW n K.length T.length c).getD (c4 t T) 0,(cW n K.length T.length c).getD (c4 t T) 0)else(eY n ((cN n K.length T.length c).getD (c4 t K) 0),eY n ((cN n K.length T.length c).getD (c4 t K) 0))
def W7 {n c:Nat}{K T:List Tx}(g:bz n K T){r:Nat}{h:AH}(e:h[r]? =k0 (.aN (aM (K++T) (fS n K T c)))):Dc (wo n K T c) (wo n K T c) (fS n K T c) r h:=by
 have ok:=g.wo c
 have a: ∀t∈K++T,V n (fS n K T c t).1 (bh _ t)/\(fS n K T c t).2=(fS n K T c t).1:=λt b=>by
  unfold fS
  by_cases q:t∈T
  .rw [if_pos q]
   have i:=(qo q).2
   refine⟨⟨?_,λx y d f=> ?_⟩,rfl⟩
   .show(cW n K.length T.length c).getD _ 0<_
    rw [Ac6,ng i]
    exact Aj5 _ (Ad4 _)
   .rw [bh,if_pos (show t∈(wo n K T c).T from q)]
    exact Iff.rfl
  .rw [if_neg q]
   have lt:(cN n K.length T.length c).getD (c4 t K) 0<2 ^ n:=by
    rw [Ac6,mw ((qo ((Ac8.mp b).resolve_right q)).2)]
    exact Aj5 _ (Ad4 _)
   refine⟨⟨?_,λx y d f=> ?_⟩,rfl⟩
   .show eY n _<_
    rw [tS g.n4 lt]
    exact Wf.cZ (xT _ _)
   .show(eY n _).testBit _=u0↔_
    rw [tS g.n4 lt,rq d f,bh,if_neg (show t∉(wo n K T c).T from q),Aa1,decide_eq_true_eq]
    exact Iff.rfl
 exact⟨e,g.n4,λt b=>(a t b).1,λt b=>by rw [(a t b).2];exact(a t b).1⟩
def CS (k c)(g:bz n K T) (h):call prog (k+2) "_law_seen" [.v (wD K T),.v (wo n K T c).aT] h= .ok (.r h.length) (h++ [.aN (aM (K++T) (fS n K T c))]):=by
 obtain⟨o,v,U⟩:=Aj3.mp g.nd
 have n4:=g.n4
 have O:=g.k4
 have M:=g.t4
 rw [Gb (d:=ZB) rfl _ _ _ rfl]
 show Gw _ (execs _ _ [sv (wD K T),sv (iq n (cN n K.length T.length c) (cW n K.length T.length c)),y0,y0,y0,y0] h)=_
 simp only [ZB]
 have H: ∀N:List Tx,N.length<=8->(aM N (fS n K T c)).length<bf:=λN r=>by rw [Gg,aM,Aa];lia
 have p: ∀(L:List Tx) (j:Nat) (t:Tx),L[j]? =k0 t->aP (L.map D.str) (j:Int)=k0 _:=λL j t e=>by
  rw [Zd _ _ (by rw [Aa];exact(Aa0.mp e).1),Ac,e];rfl
 generalize m:iq n _ _=a
 have X:aP [D.n n,.tup _,.tup (aA (cW n K.length T.length c))] 1=k0 (.tup (aA (cN n K.length T.length c))):=rfl
 obtain⟨B,G,e1⟩:=pO (F:=(k8 (k+1))) (h:=h) (b:=xt) (f:=fS n K T c) (st:=λx y=> [sv (wD K T),sv a,si n,k0 (.r h.length),x,y]) (λ_ _ _=>rfl) K [] o (by rw [Ae7];lia) (λj t y N l r=>by
  have C:=Ac4 l
  have Q:t∉T:=λz=>U t C t z rfl
  have A:j<(cN n K.length T.length c).length:=by rw [jT];exact(Aa0.mp l).1
  have P:=DV k n ((cN n K.length T.length c).getD j 0) (h++ [.aN (aM N (fS n K T c))]) n4
  have E:fS n K T c t=(eY n ((cN n K.length T.length c).getD j 0),eY n ((cN n K.length T.length c).getD j 0)):=by rw [fS,if_neg Q,z0 o l]
  have u:=mB _ j A
  have a2:=p K j t l
  refine⟨sv (.int ((eY n ((cN n K.length T.length c).getD j 0):Nat):Int)),?_⟩
  unfold xt
  rw [za (τ1:= [sv (wD K T),sv a,si n,k0 (.r h.length),si j,sv (.int ((eY n ((cN n K.length T.length c).getD j 0):Nat):Int))]) (h1:=h++ [.aN (aM N (fS n K T c))]) (by
   rw [← m]
   simp_all [aa,xZ,u,P])]
  rw [za (τ1:= [sv (wD K T),sv a,si n,k0 (.r h.length),si j,sv (.int ((eY n ((cN n K.length T.length c).getD j 0):Nat):Int))]) (h1:=h++ [.aN (GE (aM N (fS n K T c)) t (a8 (fS n K T c t).1 (fS n K T c t).2))]) (by
   simp_all [aa,Qh,a2,wu (zo h (.aN (aM N (fS n K T c)))),ag]
   rw [if_pos ⟨H N r,rfl⟩,jv,E]),execs]) K.length 0 y0 y0 (by lia)
 obtain⟨J,S,e2⟩:=pO (F:=(k8 (k+1))) (h:=h) (b:=Zs) (f:=fS n K T c) (st:=λx y=> [sv (wD K T),sv a,si n,k0 (.r h.length),x,y]) (λ_ _ _=>rfl) T K g.nd (by rw [Aa6];lia) (λj t y N l r=>by
  have C:=Ac4 l
  have A:j<(cW n K.length T.length c).length:=by rw [zV];exact(Aa0.mp l).1
  have E:fS n K T c t=((cW n K.length T.length c).getD j 0,(cW n K.length T.length c).getD j 0):=by rw [fS,if_pos C,z0 v l]
  have u:=mB _ j A
  have a2:=p T j t l
  refine⟨y,?_⟩
  unfold Zs
  rw [za (τ1:= [sv (wD K T),sv a,si n,k0 (.r h.length),si j,y]) (h1:=h++ [.aN (GE (aM N (fS n K T c)) t (a8 (fS n K T c t).1 (fS n K T c t).2))]) (by
   rw [← m]
   simp_all [aa,Zf,kM,u,a2,wu (zo h (.aN (aM N (fS n K T c)))),ag]
   rw [if_pos ⟨H N r,rfl⟩,jv,E]),execs]) T.length 0 B G (by lia)
 rw [List.take_zero,Ae7]at e1
 rw [List.take_zero,Ae3]at e2
 rw [Ae7]at e1
 have I: ∀(i:Int) (L:List Tx) (x y:Option W) (s:AH),L.length<=4->aP [hO K,hO T] i=k0 (hO L)->Gs (k8 (k+1)) (.aj (.bi .len (.a (.ix .v0 (.int i))))) [sv (wD K T),sv a,si n,k0 (.r h.length),x,y] s= .ok ((Al7 0 L.length).map λ(x:Nat)=>D.n x) s:=λi L x y s V q=>by
  rw [← Aj7]
  exact xj (by simp_all [aa,q,Wc,ag,Aa]) (by lia)
 rw [za (τ1:= [sv (wD K T),sv a,si n,y0,y0,y0]) (h1:=h) (by
  rw [← m]
  simp_all [aa,km])]
 rw [za (τ1:= [sv (wD K T),sv a,si n,k0 (.r h.length),y0,y0]) (h1:=h++ [.aN (aM [] (fS n K T c))]) (by simp_all [ag];rfl)]
 rw [za (τ1:= [sv (wD K T),sv a,si n,k0 (.r h.length),B,G]) (h1:=h++ [.aN (aM K (fS n K T c))]) (by
  rw [exec,I 0 K y0 y0 _ O rfl,R.ar]
  exact e1)]
 rw [za (τ1:= [sv (wD K T),sv a,si n,k0 (.r h.length),J,S]) (h1:=h++ [.aN (aM (K++T) (fS n K T c))]) (by
  rw [exec,I 1 T B G _ M rfl,R.ar]
  exact e2)]
 rw [qa (w:= .r h.length) (h1:=h++ [.aN (aM (K++T) (fS n K T c))]) rfl]
 show fin h.length (.r h.length) _=_
 unfold fin
 rw [if_neg (by simp),if_neg (by simp [W.keep])]
def Q7 {F:Fx}{k:Nat}{aB:List Nat}{it:It}{c elt:E}{τ:Sl}{h:AH}{ds:List D}(Q:D->D->Prop) (g:Gk F it τ h= .ok ds h) (l:ds.length<=1000) (e: ∀d∈ds,∃y,eval F elt (GB (Ab k y0++aB.map λj=>Gi τ j) 0 (.v d)) h= .ok (.v y) h/\Q d y): ∃f:D->D,eval F (.comp [0] u0 k aB it k9 c elt) τ h= .ok (.own (ds.map f)) h/\ ∀d∈ds,Q d (f d):=by
 have: ∀d,∃y,d∈ds->eval F elt _ h= .ok _ h/\Q d y:=λd=>by
  by_cases m:d∈ds
  .obtain⟨y,i⟩:=e d m
   exact⟨y,λ_=>i⟩
  .exact⟨.au,λz=>absurd z m⟩
 obtain⟨f,b⟩:=Classical.skolem.mp this
 refine⟨f,?_,λd a=>(b d a).2⟩
 exact zm f g (by rw [Gg];lia) λd a=>⟨_,rfl,_,(b d a).1,rfl⟩
theorem ud (f:D->D): ∀ds:List D,(∀ d∈ds,∃b,f d= .bl b)-> ∃bs:List Bool,ds.map f=bs.map .bl
 | [],_=>⟨[],rfl⟩
 | d::ds,h=>by
  obtain⟨b,e⟩:=h d Aa5
  obtain⟨bs,e2⟩:=ud f ds λd a=>h d (Aa2 _ a)
  exact⟨b::bs,by rw [Ab2,e,e2];rfl⟩
section
variable {n q:Nat}{K T:List Tx}{S:List Sy}
def tU (m c) (g:bz n K T) (H: ∀s∈S,s.wf (K++T)/\s.dp<=q) (U:S.length<=100) (W:q+8<=m) (h) (N:Gu h=true): ∃b:Bool,call prog (m+1) "_law_keeps" [.v (aG K T S),.v (wo n K T c).aT] h= .ok (.b b) h/\(b=true↔ ∀s∈S,Td (wo n K T c) (wo n K T c) s (some true)):=by
 obtain⟨k,rfl⟩:=nk m 2 (by lia)
 have e1:=CS k c g h
 have P:=W7 g (c:=c) (zo h (.aN (aM (K++T) (fS n K T c))))
 rw [Gb (d:=Wx) rfl _ _ _ rfl]
 show ∃b,Gw _ (execs _ _ [sv (aG K T S),sv ((wo n K T c).aT),y0] h)=_/\_
 simp only [Wx]
 have u:(h++ [Cell.aN (aM (K++T) (fS n K T c))]).take h.length=h:=by simp
 have J:h.length<=(h++ [Cell.aN (aM (K++T) (fS n K T c))]).length:=by simp
 generalize h++ [Cell.aN _]=j at e1 P u J
 have G:aP [D.n n,.tup (aA (cN n K.length T.length c)),.tup (aA (cW n K.length T.length c))] 0=k0 _:=rfl
 have I: ∀s∈S,∃o,Td _ _ s o/\eval (k8 (k+2)) (.cmp .cX (.call "_law_told" (.c (.ix .v1 (.int 0)) .v2 .v0)) (.bl true)) [sv (az s),sv ((wo n K T c).aT),some (.r h.length)] j= .ok (.b (o==some true)) j:=fun s a=>by
  obtain⟨o,r,p⟩:=vD P s (k+2) (by have:=(H s a).2;lia) (H s a).1
  have p:call prog (k+2) "_law_told" [.i n,.r h.length,.v (az s)] j= .ok (.v (aH o)) j:=p
  have cX:=kj o u0 j
  have R:(wo n K T c).aT= .tup [.n n,.tup (aA (cN n K.length T.length c)),.tup (aA (cW n K.length T.length c))]:=rfl
  refine⟨o,r,?_⟩
  rw [R]
  simp_all [aa,G,p,cX]
 obtain⟨f,t,C⟩:=Q7 (F:=(k8 (k+2))) (k:=1) (aB:= [1,2]) (it:= .seq (.ix .v0 (.int 1))) (c:= .bl true) (elt:= .cmp .cX (.call "_law_told" (.c (.ix .v1 (.int 0)) .v2 .v0)) (.bl true)) (τ:= [sv (aG K T S),sv ((wo n K T c).aT),some (.r h.length)]) (h:=j) (ds:=S.map az) (fun d y=> ∀s∈S,d=az s-> ∃o,Td (wo n K T c) (wo n K T c) s o/\y= .bl (o==some true)) (by simp_all [aa,Zf]) (by rw [List.length_map];lia) (fun d l=>by
  obtain⟨s,a,rfl⟩:=Ab6.mp l
  obtain⟨o,r,p⟩:=I s a
  refine⟨.bl (o==k0 u0),p,λO B e=> ?_⟩
  obtain⟨Q,E,i⟩:=I O B
  rw [← e]at i
  rw [p]at i
  refine⟨Q,E,?_⟩
  injection i with i
  injection i)
 obtain⟨bs,v⟩:=ud f (S.map az) λd l=>by
  obtain⟨s,a,e⟩:=Ab6.mp l
  obtain⟨o, -,e2⟩:=C d l s a e.symm
  exact⟨_,e2⟩
 rw [v]at t
 have t:eval (k8 (k+2)) wy [sv (aG K T S),sv ((wo n K T c).aT),k0 (.r h.length)] j= .ok (.own (bs.map .bl)) j:=t
 refine⟨bs.all id,?_,λz s a=> ?_,λz=> ?_⟩
 .have x:aP [wD K T,D.tup (S.map az)] 0=k0 (wD K T):=rfl
  refine fx (by simp_all [aa,x,e1];rfl) ?_
  rw [qa (w:= .b (bs.all id)) (h1:=j) (Ja rfl (Zv t))]
  obtain⟨V,M,L⟩:=me (d:= .bl (bs.all id)) (h:=j) (n:=h.length) rfl J (by rw [u];exact N)
  rw [M,L,u]
 .obtain⟨o,r,e⟩:=C (az s) (Ab6.mpr ⟨s,a,rfl⟩) s a rfl
  have m:f (az s)∈bs.map D.bl:=by rw [← v];exact Ab6.mpr ⟨_,Ab6.mpr ⟨s,a,rfl⟩,rfl⟩
  obtain⟨b,A,e2⟩:=Ab6.mp m
  rw [e]at e2
  have e2:b=(o==k0 u0):=by injection e2
  have:=Ai6.mp z b A
  rw [e2]at this
  have:o=k0 true:=eq_of_beq this
  rw [← this]
  exact r
 .rw [Ai6]
  intro b A
  have m:D.bl b∈bs.map D.bl:=Ab6.mpr ⟨b,A,rfl⟩
  rw [← v]at m
  obtain⟨d,l,e⟩:=Ab6.mp m
  obtain⟨s,a,rfl⟩:=Ab6.mp l
  obtain⟨o,r,e2⟩:=C (az s) l s a rfl
  rw [e2,r.uniq (z s a)]at e
  injection e with e
  exact e.symm
end
def FJ (l) (x):aA (l++ [x])=aA l++ [.n x]:=by simp
noncomputable def cc:Ex->List Tx
 | .name t=> [t]
 | .turned a=>cc a
 | .closed a=>cc a
 | .plus a b=>cc a++cc b
 | .less a b=>cc a++cc b
 | .both a b=>cc a++cc b
 | .joined a b=>cc a++cc b
 | _=> []
def KD:Fc->List Tx
 | .dH a b=>cc a++cc b
 | .dZ a b=>cc a++cc b
 | .d4 a=>cc a
 | .au a=>cc a
 | .cnt _ _ a=>cc a
def eD:Sy->List Tx
 | .fact f=>KD f
 | .neg a=>eD a
 | .bU a b=>eD a++eD b
 | .bP a b=>eD a++eD b
def QF (h:a<=2 ^ x) (g:b<=2 ^ y):a+b<=2 ^ (max x y+1):=by
 have c:2 ^ x<=2 ^ max x y:=Ad0 (by decide) (Nat.le_max_left _ _)
 have d:2 ^ y<=2 ^ max x y:=Ad0 (by decide) (Nat.le_max_right _ _)
 lia
def kD (h:a<=2 ^ x):a<=2 ^ (x+1):=Ab5 h (Ad0 (by decide) (Ag4 _))
theorem Qd: ∀e:Ex,(cc e).length<=2 ^ e.dp
 | .name _=>Aa7 _
 | .same=>Ae6 _
 | .all=>Ae6 _
 | .none=>Ae6 _
 | .turned a=>kD (Qd a)
 | .closed a=>kD (Qd a)
 | .plus a b=>by rw [cc,Aa6];exact QF (Qd a) (Qd b)
 | .less a b=>by rw [cc,Aa6];exact QF (Qd a) (Qd b)
 | .both a b=>by rw [cc,Aa6];exact QF (Qd a) (Qd b)
 | .joined a b=>by rw [cc,Aa6];exact QF (Qd a) (Qd b)
theorem Xo: ∀s:Sy,(eD s).length<=2 ^ (s.dp+1)
 | .fact f=>by
  cases f with
  | dH a b=>show(cc a++cc b).length<=_;rw [Aa6];exact QF (Qd a) (Qd b)
  | dZ a b=>show(cc a++cc b).length<=_;rw [Aa6];exact QF (Qd a) (Qd b)
  | d4 a=>exact kD (Qd a)
  | au a=>exact kD (Qd a)
  | cnt _ _ a=>exact kD (Qd a)
 | .neg a=>kD (Xo a)
 | .bU a b=>by
  rw [eD,Aa6,Sy.dp]
  have:=QF (Xo a) (Xo b)
  rw [show max (a.dp+1) (b.dp+1)+1=max a.dp b.dp+1+1 by lia]at this
  exact this
 | .bP a b=>by
  rw [eD,Aa6,Sy.dp]
  have:=QF (Xo a) (Xo b)
  rw [show max (a.dp+1) (b.dp+1)+1=max a.dp b.dp+1+1 by lia]at this
  exact this
def hC (m:Nat) (h:AH) (p:D×List Tx):Prop:=(∃ i,p.1= .int i/\p.2= [])\/ ∃xs,p.1= .tup xs/\call prog m "names_in" [.v p.1] h= .ok (.own (p.2.map .str)) h
theorem sJ : ∀(ps:List (D×List Tx)) j x,(∀ p∈ps,hC m h p)->j.length+(ps.flatMap (·.2)).length<=900000-> ∃L,Gp (Gr [2] u0) (λτ h=>execs (k8 m) zn τ h) (ps.map (·.1)) [sv th,k0 (.own (j.map .str)),x] h= .next [sv th,k0 (.own ((j++ps.flatMap (·.2)).map .str)),L] h
 | [],j,x,_,_=>⟨x,by simp [Gp]⟩
 | (d,l)::ps,j,x,c,b=>by
  rw [Ag0,Aa6]at b
  have b:j.length+(l.length+(ps.flatMap (·.2)).length)<=900000:=b
  obtain⟨L,e⟩:=sJ ps (j++l) (sv d) (λp a=>c p (Aa2 _ a)) (by rw [Aa6];lia)
  refine⟨L,?_⟩
  rw [Ab2,zb (τ1:= [sv th,k0 (.own (j.map .str)),sv d]) rfl,e,Ag0,Ae]
  show execs _ zn _ h=_
  unfold zn
  rcases c (d,l) Aa5 with⟨i,e1,e2⟩ | ⟨f,e1,e2⟩
  .cases e1
   cases e2
   rw [xa (by simp_all [Cw,Ty.lJ]),execs,Ae3]
  .cases e1
   have e2:=e2
   have g:(j.map D.str).length+(l.map D.str).length<bf:=by rw [Gg,Aa,Aa];lia
   rw [za ((xr (h1:=h) (by simp_all [HN,Ty.gN])).trans ?_),execs]
   rw [za (τ1:= [sv th,k0 (.own ((j++l).map .str)),k0 (.t f)]) (by
    simp_all [e2,g,if_true]
    rw [Ae0]),execs]
def pd (a:(s==wh)=k9) (ps:List (D×List Tx)) (b: ∀p∈ps,hC m h p) (d:(ps.flatMap (·.2)).length<=900000):call prog (m+1) "names_in" [.t (.str s::ps.map (·.1))] h= .ok (.own ((ps.flatMap (·.2)).map .str)) h:=by
 obtain⟨c,e⟩:=sJ ps [] y0 b (by simp_all)
 rw [Ae7]at e
 rw [Gb rfl _ _ _ rfl]
 simp only [QD]
 rw [xa (by
  rw [← a]
  simp_all [aa,jf,Xa])]
 refine fx (by simp_all [];rfl) ?_
 have sl:fq (.t (.str s::ps.map (·.1))) (k0 1) y0 h= .ok (.t (ps.map (·.1))) h:=by
  show ag _ h=_
  rw [show cut _ (k0 1) y0=_ from ZZ _ 1]
  rfl
 rw [za (by
  rw [exec,show Gs (k8 m) _ [k0 _,k0 _,y0] h= .ok (ps.map (·.1)) h by simp_all [sl],R.ar]
  exact e)]
 rw [qa rfl,Gv _ _ _ rfl]
def nH (a:(s==wh)=k9):call prog (m+1) "names_in" [.t [.str s]] h= .ok (.own (([]:List Tx).map .str)) h:=pd a [] (fun _ h=>absurd h List.not_mem_nil) (Nat.zero_le _)
def mF (a:(s==wh)=k9) (b:hC m h (d,l)) (e:l.length<=400000):call prog (m+1) "names_in" [.t [.str s,d]] h= .ok (.own (l.map .str)) h:=by
 have:=pd a [_] (λp c=>by rw [Ac3.mp c];exact b) (by simp;lia)
 simpa using this
def zO (e:(s==wh)=k9) (f:hC m h (d,l)) (a:hC m h (d',l')) (g:l.length<=400000) (c:l'.length<=400000):call prog (m+1) "names_in" [.t [.str s,d,d']] h= .ok (.own ((l++l').map .str)) h:=by
 have:=pd e [_,_] (λp b=>by
  obtain rfl | b:=Ab8.mp b
  .exact f
  .rw [Ac3.mp b];exact a) (by simp;lia)
 simpa using this
def u5 (e): ∃xs,aV e= .tup xs:=by cases e<;>exact⟨_,rfl⟩
def J4 (s): ∃xs,az s= .tup xs:=by
 cases s with
 | fact f=>cases f<;>exact⟨_,rfl⟩
 | _=>exact⟨_,rfl⟩
def xJ (d) (h:d<=17):2 ^ d<=400000:=Ab5 (Ad0 (by decide) h) (by decide)
def Fv (h): ∀ e m,e.dp+1<=m->e.dp<=16->call prog m "names_in" [.v (aV e)] h= .ok (.own ((cc e).map .str)) h:=by
 intro e
 have ok: ∀ e m,(∀ m,e.dp+1<=m->e.dp<=16->call prog m "names_in" [.v _] h= .ok _ h)->e.dp+1<=m->e.dp<=16->hC m h (aV e,cc e)/\(cc e).length<=400000:=fun e m d f l=>by
  obtain⟨n,ex⟩:=u5 e
  exact⟨.inr ⟨n,ex,d m f l⟩,Ab5 (Qd e) (xJ _ (by lia))⟩
 have one: ∀ s a,_=k9->(∀ m,a.dp+1<=m->a.dp<=16->call prog m "names_in" [.v _] h= .ok _ h)-> ∀m,a.dp+1+1<=m->a.dp+1<=16->call prog m "names_in" [.t [.str s,aV a]] h= .ok _ h:=fun s a i d m f l=>by
  obtain⟨k,rfl⟩:=nk m 1 (by lia)
  obtain⟨j,g⟩:=ok a k d (by lia) (by lia)
  exact mF i j g
 have two: ∀ s a b,_=k9->(∀ m,a.dp+1<=m->a.dp<=16->call prog m "names_in" [.v _] h= .ok _ h)->(∀ m,b.dp+1<=m->b.dp<=16->call prog m "names_in" [.v _] h= .ok _ h)-> ∀m,max a.dp b.dp+1+1<=m->max a.dp b.dp+1<=16->call prog m "names_in" [.t [.str s,aV a,aV b]] h= .ok _ h:=fun s a b i d c m f l=>by
  obtain⟨k,rfl⟩:=nk m 1 (by lia)
  obtain⟨j,g⟩:=ok a k d (by lia) (by lia)
  obtain⟨p,o⟩:=ok b k c (by lia) (by lia)
  exact zO i j p g o
 induction e with
 | name t=>
  intro m f _
  obtain⟨k,rfl⟩: ∃k,m=k+1:=⟨m-1,by simp [Ex.dp]at f;lia⟩
  rw [Gb rfl _ _ _ rfl]
  show Gw _ (execs _ _ [k0 (.t [.str wh,.str t]),y0,y0] h)=_
  simp only [QD]
  rw [qa (w:= .own [.str t]) (h1:=h) ((xr (by simp_all [Xa];rfl)).trans (qa (XC rfl (by simp_all [aa,Zf])))),Gv _ _ _ rfl]
  rfl
 | same=>intro m f _;obtain⟨k,rfl⟩:=nk m 1 (by lia);exact nH rfl
 | all=>intro m f _;obtain⟨k,rfl⟩:=nk m 1 (by lia);exact nH rfl
 | none=>intro m f _;obtain⟨k,rfl⟩:=nk m 1 (by lia);exact nH rfl
 | turned a d=>exact one qj a rfl d
 | closed a d=>exact one Xi a rfl d
 | plus a b d c=>exact two zF a b rfl d c
 | less a b d c=>exact two qr a b rfl d c
 | both a b d c=>exact two zB a b rfl d c
 | joined a b d c=>exact two jg a b rfl d c
def LG (h): ∀ s m,s.wf N->s.dp+2<=m->s.dp<=14->call prog m "names_in" [.v (az s)] h= .ok (.own ((eD s).map .str)) h:=by
 intro s
 have c: ∀ e m,e.dp+1<=m->e.dp<=14->hC m h (aV e,cc e)/\(cc e).length<=400000:=λe m d g=>by
  obtain⟨o,ex⟩:=u5 e
  exact⟨.inr ⟨o,ex,Fv h e m d (by lia)⟩,Ab5 (Qd e) (xJ _ (by lia))⟩
 induction s with
 | fact f=>
  intro m wf d g
  obtain⟨k,rfl⟩:=nk m 1 (by lia)
  cases f with
  | dH a b=>
   simp only [Sy.dp,Fc.dp]at d g
   obtain⟨l,i⟩:=c a k (by lia) (by lia)
   obtain⟨r,q⟩:=c b k (by lia) (by lia)
   exact zO rfl l r i q
  | dZ a b=>
   simp only [Sy.dp,Fc.dp]at d g
   obtain⟨l,i⟩:=c a k (by lia) (by lia)
   obtain⟨r,q⟩:=c b k (by lia) (by lia)
   exact zO rfl l r i q
  | d4 a=>
   simp only [Sy.dp,Fc.dp]at d g
   obtain⟨l,i⟩:=c a k (by lia) (by lia)
   exact mF rfl l i
  | au a=>
   simp only [Sy.dp,Fc.dp]at d g
   obtain⟨l,i⟩:=c a k (by lia) (by lia)
   exact mF rfl l i
  | cnt t j a=>
   simp only [Sy.dp,Fc.dp]at d g
   obtain⟨l,i⟩:=c a k (by lia) (by lia)
   have w:(t==wh)=false:=by
    have:t=Za\/t=zc\/t=xb\/t=Qi:=by simpa using wf.1
    rcases this with rfl | rfl | rfl | rfl<;>rfl
   have:=zO w (.inl ⟨_,rfl,rfl⟩:hC k h (.n j,[])) l (Ae6 _) i
   exact this
 | neg a p=>
  intro m wf d g
  obtain⟨k,rfl⟩:=nk m 1 (by lia)
  simp only [Sy.dp]at d g
  obtain⟨o,ex⟩:=J4 a
  exact mF rfl (.inr ⟨o,ex,p k wf (by lia) (by lia)⟩) (Ab5 (Xo a) (xJ _ (by lia)))
 | bU a b p n=>
  intro m wf d g
  obtain⟨k,rfl⟩:=nk m 1 (by lia)
  simp only [Sy.dp]at d g
  obtain⟨o,ex⟩:=J4 a
  obtain⟨u,v⟩:=J4 b
  exact zO rfl (.inr ⟨o,ex,p k wf.1 (by lia) (by lia)⟩) (.inr ⟨u,v,n k wf.2 (by lia) (by lia)⟩) (Ab5 (Xo a) (xJ _ (by lia))) (Ab5 (Xo b) (xJ _ (by lia)))
 | bP a b p n=>
  intro m wf d g
  obtain⟨k,rfl⟩:=nk m 1 (by lia)
  simp only [Sy.dp]at d g
  obtain⟨o,ex⟩:=J4 a
  obtain⟨u,v⟩:=J4 b
  exact zO rfl (.inr ⟨o,ex,p k wf.1 (by lia) (by lia)⟩) (.inr ⟨u,v,n k wf.2 (by lia) (by lia)⟩) (Ab5 (Xo a) (xJ _ (by lia))) (Ab5 (Xo b) (xJ _ (by lia)))
def kK (L:List Tx):Nat->List Pl->Nat->Nat
 | _,[],v=>v
 | i,p::ps,v=>kK L (i+1) ps (if p.1∈L then v ||| 2 ^ i else v)
theorem rM : ∀ ps i v j,(kK L i ps v).testBit j=u0↔v.testBit j=u0\/ ∃ k p,ps[k]? =k0 p/\j=i+k/\p.1∈L
 | [],i,v,j=>by
  exact⟨.inl,λh=>h.elim id λ⟨k,p,e,_⟩=>by simp at e⟩
 | p::ps,i,v,j=>by
  rw [kK,rM ps]
  have b:(if p.1∈L then v ||| 2 ^ i else v).testBit j=u0↔v.testBit j=u0\/(j=i/\p.1∈L):=by
   by_cases q:p.1∈L
   .rw [if_pos q,Af0,Ad7,Ae8,decide_eq_true_eq]
    exact or_congr Iff.rfl ⟨λz=>⟨z.symm,q⟩,λz=>z.1.symm⟩
   .rw [if_neg q]
    exact⟨.inl,λz=>z.elim id λz=>absurd z.2 q⟩
  rw [b]
  constructor
  .rintro ((h | ⟨rfl,h⟩) | ⟨k,a,e,rfl,h⟩)
   .exact .inl h
   .exact .inr ⟨0,p,rfl,rfl,h⟩
   .exact .inr ⟨k+1,a,e,by lia,h⟩
  .rintro (h | ⟨k,a,e,rfl,h⟩)
   .exact .inl (.inl h)
   .cases k with
    | zero=>
     have:p=a:=by simpa using e
     exact .inl (.inr ⟨rfl,this▸h⟩)
    | succ k=>exact .inr ⟨k,a,by simpa using e,by lia,h⟩
abbrev gZ (ro:Nat) (s:D) (L:List Tx) (v:Nat) (x y:Option W):Sl:= [k0 (.r ro),sv s,k0 (.l (L.map .str)),si v,x,y]
def ED (s) (a:List Tx) (h):Gq .mem (.s s) (.l (a.map .str)) h=k0 (u9 (s∈a)):=xz s a (.l _) h rfl
theorem ur : ∀ ps i v x y,i+ps.length<=1000-> ∃j M,Gp (Gr [4,5] k9) (λτ h=>execs F Jl τ h) (GY i (ps.map bL)) (gZ ro s L v x y) h= .next (gZ ro s L (kK L i ps v) j M) h
 | [],i,v,x,y,_=>⟨x,y,rfl⟩
 | p::ps,i,v,x,y,c=>by
  rw [Aa8]at c
  obtain⟨j,M,e⟩:=ur ps (i+1) (if p.1∈L then v ||| 2 ^ i else v) (si i) (sv (bL p)) (by lia)
  refine⟨j,M,?_⟩
  rw [Ab2,GY,zb (τ1:=gZ ro s L v (si i) (sv (bL p))) rfl,e,kK]
  unfold Jl
  have i0:c9 (.v (bL p)) (.v (.int 0)) h=k0 (.str p.1):=rfl
  have a:Gm F (.cmp .mem (.ix .v5 (.int 0)) .v2) (gZ ro s L v (si i) (sv (bL p))) h= .ok (u9 (p.1∈L)) h:=by simp_all [i0,ED]
  by_cases q:p.1∈L
  .rw [if_pos q,za ((xr (by rw [a,decide_eq_true q])).trans ?_),execs]
   have b:=J9 i (by lia)
   rw [za (τ1:=gZ ro s L (v ||| 2 ^ i) (si i) (sv (bL p))) (h1:=h) (by simp_all [b,Jo,xn]),execs]
  .rw [if_neg q,xa (by rw [a,decide_eq_false q]),execs]
def eL (n:Nat) (K T:List Tx) (s:Sy):Nat:=kK (eD s) 0 (bQ n K T) 0
section
variable {n:Nat}{K T:List Tx}{S:List Sy}{ro:Nat}{h:AH}
def uG (s) (j):(eL n K T s).testBit j=u0↔ ∃p:Pl,(bQ n K T)[j]? =k0 p/\p.1∈eD s:=by
 rw [eL,rM,Af9]
 constructor
 .rintro (h | ⟨k,p,e,rfl,h⟩)
  .cases h
  .exact⟨p,by rw [Ak0];exact e,h⟩
 .rintro ⟨p,e,h⟩
  exact .inr ⟨j,p,e,(Ak0 j).symm,h⟩
def Md (m) (g:bz n K T) (C:h[ro]? =k0 (.obj "Cases" (cC n K T S)))(wf:s.wf (K++T)) (e:s.dp+2<=m) (b:s.dp<=14):call prog (m+1) "needed_bits" [.r ro,.v (az s)] h= .ok (.i (eL n K T s)) h:=by
 have e1:=LG h s m wf e b
 have c:0+(bQ n K T).length<=1000:=by rw [wG];have:=g.b6;lia
 obtain⟨j,k,e2⟩:=ur _ 0 0 y0 y0 c
 refine fx (by simp_all [e1];rfl) ?_
 rw [za (τ1:=gZ ro _ _ 0 y0 y0) (by simp_all [];rfl)]
 have a:=qm (F:=(k8 m)) (τ:=gZ ro (az s) (eD s) 0 y0 y0) (i:=0) (f:= "places") C rfl rfl
 rw [za (by
  have d:Gs (k8 m) (.cv (.aJ .v0 "Cases" "places")) (gZ ro (az s) (eD s) 0 none none) h= .ok (GY 0 ((bQ n K T).map bL)) h:=by
   show(eval _ _ _ h).bind _=_
   rw [a]
   rfl
  rw [exec,d,R.ar]
  exact e2)]
 rw [qa (w:= .i (eL n K T s)) (h1:=h) rfl,Ga _ _ _ rfl]
end
theorem yX : ∀ f x a,x<f-> ∃y:Nat,GI (λτ h=>Gm F Wd τ h) (λτ h=>execs F xk τ h) f [si x,si a] h= .next [si (0),si y] h
 | 0,x,a,c=>absurd c (Ag7 _)
 | f+1,x,a,c=>by
  have i:Gm F Wd [si x,si a] h= .ok (u9 (0<x)) h:=by
   have z:Gq .gt (.i x) (.v (.int 0)) h=k0 (u9 (0<x)):=gz 0 x h
   unfold Wd
   simp_all [z]
  show ∃y:Nat,((Gm F Wd _ h).cA _)=_
  rw [i,R.ar]
  by_cases q:0<x
  .obtain⟨y,e⟩:=yX f (x &&& (x-1)) (a+1) (by have:x &&& (x-1)<=x-1:=Nat.and_le_right;lia)
   refine⟨y,?_⟩
   rw [decide_eq_true q]
   have b:execs F xk [si x,si a] h= .next [si (x &&& (x-1)),si (a+1)] h:=by
    have d: x-1=((x-1:Nat):Int):=by lia
    have g: a+1=((a+1:Nat):Int):=rfl
    refine(za (by simp_all [zd,d,jc,wd];rfl)).trans ?_
    rw [za (τ1:= [si (x &&& (x-1)),si (a+1)]) (h1:=h) (by simp_all [Jc,g]),execs]
   simp only [b]
   exact e
  .refine⟨a,?_⟩
   have:x=0:=by lia
   subst this
   rfl
def Ef (k x) (h) (a:x<100000): ∃y:Nat,call prog (k+1) "how_many_set" [.i x] h= .ok (.i y) h:=by
 obtain⟨y,e⟩:=yX 100000 x 0 a
 refine⟨y,?_⟩
 refine fx (by simp_all [];rfl) ?_
 rw [za (by assumption)]
 rw [qa rfl,Ga _ _ _ rfl]
theorem XT : ∀ xs b j,(∀ m∈xs,∃y,G7 (key m)=k0 y)-> ∃i∈b::xs,GW key b j xs=k0 i
 | [],b,j,_=>⟨b,Aa5,rfl⟩
 | x::xs,b,j,h=>by
  obtain⟨y,e⟩:=h x Aa5
  rw [GW,e,Ag2]
  by_cases q:y<j
  .obtain⟨i,a,c⟩:=XT xs x y λm d=>h m (Aa2 _ d)
   exact⟨i,Aa2 _ a,by rw [if_pos q];exact c⟩
  .obtain⟨i,a,c⟩:=XT xs b j λm d=>h m (Aa2 _ d)
   refine⟨i,?_,by rw [if_neg q];exact c⟩
   rcases Ab8.mp a with rfl | a
   .exact Aa5
   .exact Aa2 _ (Aa2 _ a)
def Em (c:xs≠ []) (h: ∀m∈xs,∃y,G7 (key m)=k0 y): ∃i∈xs,Kb key (k0 xs)=k0 i:=by
 cases xs with
 | nil=>exact absurd rfl c
 | cons x xs=>
  obtain⟨y,e⟩:=h x Aa5
  obtain⟨i,a,b⟩:=XT xs x y λm d=>h m (Aa2 _ d)
  exact⟨i,a,by rw [Kb,e];exact b⟩
def KI (b:0<f) (h1:f<1024): ∃i:Nat,i<10/\f.testBit i=u0/\f-(f &&& (f-1))=2 ^ i:=by
 have: ∀f,f<1024->0<f->(Aa3 10).any λi=>f.testBit i&&u9 (f-(f &&& (f-1))=2 ^ i):=by decide +kernel
 obtain⟨i,a,e⟩:=Ad2.mp (this f h1 b)
 rw [Aa1,decide_eq_true_eq]at e
 exact⟨i,Ab4.mp a,e.1,e.2⟩
def KS {f:Nat}(a:0<f):Gj .band (f:Int) (-(f:Int))=k0 ((f-(f &&& (f-1)):Nat):Int):=by
 rw [jc,Ka,if_pos (Ao9 f),if_neg (by lia),Ad5,show(-(-(f:Int))-1).toNat=f-1 by lia]
def Ba (i):Kd ((2 ^ i:Nat):Int)=i+1:=by
 have:(2 ^ i)≠0:=Ap3 (Ad4 i)
 rw [Kd,if_neg (by lia),Int.natAbs_natCast,Nat.log2_two_pow]
def iw (e:Ex):Gd (aV e)=u0/\dep (aV e)<=e.dp+1:=by
 induction e with
 | turned a c=>obtain⟨d,g⟩:=c;exact⟨by simp [aV,d],by simp [aV,Ex.dp];lia⟩
 | closed a c=>obtain⟨d,g⟩:=c;exact⟨by simp [aV,d],by simp [aV,Ex.dp];lia⟩
 | plus a b c k=>obtain⟨d,g⟩:=c;obtain⟨f,h⟩:=k;exact⟨by simp [aV,d,f],by simp [aV,Ex.dp];lia⟩
 | less a b c k=>obtain⟨d,g⟩:=c;obtain⟨f,h⟩:=k;exact⟨by simp [aV,d,f],by simp [aV,Ex.dp];lia⟩
 | both a b c k=>obtain⟨d,g⟩:=c;obtain⟨f,h⟩:=k;exact⟨by simp [aV,d,f],by simp [aV,Ex.dp];lia⟩
 | joined a b c k=>obtain⟨d,g⟩:=c;obtain⟨f,h⟩:=k;exact⟨by simp [aV,d,f],by simp [aV,Ex.dp];lia⟩
 | _=>exact⟨rfl,by simp [aV]⟩
def pM (s:Sy):Gd (az s)=u0/\dep (az s)<=s.dp+2:=by
 induction s with
 | fact f=>
  cases f with
  | dH a b=>obtain⟨c,d⟩:=iw a;obtain⟨e,h⟩:=iw b;exact⟨by simp [az,dv,c,e],by simp [az,dv,Sy.dp,Fc.dp];lia⟩
  | dZ a b=>obtain⟨c,d⟩:=iw a;obtain⟨e,h⟩:=iw b;exact⟨by simp [az,dv,c,e],by simp [az,dv,Sy.dp,Fc.dp];lia⟩
  | d4 a=>obtain⟨c,d⟩:=iw a;exact⟨by simp [az,dv,c],by simp [az,dv,Sy.dp,Fc.dp];lia⟩
  | au a=>obtain⟨c,d⟩:=iw a;exact⟨by simp [az,dv,c],by simp [az,dv,GG,Sy.dp,Fc.dp];lia⟩
  | cnt t j a=>obtain⟨c,d⟩:=iw a;exact⟨by simp [az,dv,c],by simp [az,dv,dep,GG,Sy.dp,Fc.dp];lia⟩
 | neg a g=>obtain⟨c,d⟩:=g;exact⟨by simp [az,c],by simp [az,dep,GG,Sy.dp];lia⟩
 | bU a b g k=>obtain⟨c,d⟩:=g;obtain⟨e,h⟩:=k;exact⟨by simp [az,c,e],by simp [az,dep,GG,Sy.dp];lia⟩
 | bP a b g k=>obtain⟨c,d⟩:=g;obtain⟨e,h⟩:=k;exact⟨by simp [az,c,e],by simp [az,dep,GG,Sy.dp];lia⟩
def Zr (k)(g:bz n K T) (h):call prog (k+5) "check_bits" [.v (wD K T),.i n,.v (.int 16)] h= .ok (.v .au) h:=by
 have n4:=g.n4
 have c:=g.b6
 have b:=ug k (.n n) h rfl (by simp [Ws];lia)
 have a:=vP (k+2) n (K.map .str) (T.map .str) h n4 (by rw [Aa];exact g.k4) (by rw [Aa];exact g.t4)
 rw [Aa,Aa,ou]at a
 rw [Gb rfl _ _ _ rfl]
 simp only [JF]
 refine fx (by simp_all [b];rfl) ?_
 refine fx (by simp_all [a];rfl) ?_
 have z:Gq .gt _ (.v (.int 16)) h=k0 _:=gz 16 (bN n K T) h
 rw [decide_eq_false (by lia)]at z
 rw [xa (by simp_all [z]),execs]
 exact Gz _ h _ rfl
def qR (h:eval F e τ (g++ [.obj c fs])= .ok (.v d) (g++ [.obj c fs])) (a:Gn τ i=k0 (.r g.length)) (j:Gd d=u0) (b:fs.length<100):exec F (.bH i c f e) τ (g++ [.obj c fs])= .next τ (g++ [.obj c (aX f d fs)]):=by
 rw [exec,h,R.ar]
 simp only [a,Jq (zo g _),j,b,and_self,if_true,jv]
def HW (d:eval F e τ (g++ [.obj c fs])= .ok (.own xs) (g++ [.obj c fs])) (a:Gn τ i=k0 (.r g.length)) (h:Gc xs=u0) (b:fs.length<100):exec F (.bT i c f e) τ (g++ [.obj c fs])= .next τ (g++ [.obj c (aX f (.lst xs) fs)]):=by
 rw [exec,d,R.ar]
 simp only [W.dP,a,Jq (zo g _),show Gd (.lst xs)=u0 from h,b,and_self,if_true,jv]
def Ew (k){S:List Sy}(g:bz n K T) (h:AH):call prog (k+4) "Cases.__init__" [.r h.length,.v (aG K T S),.i n] (h++ [.obj "Cases" []])= .ok (.v .au) (h++ [Cell.obj "Cases" (cC n K T S)]):=by
 rw [Gb (d:=jk) rfl _ _ _ rfl]
 show Gw _ (execs _ _ [k0 (.r h.length),sv (aG K T S),si n] (h++ [.obj "Cases" []]))=_
 simp only [jk]
 have p:Gd (wD K T)=true:=by
  show(Gc (K.map .str)&&(Gc (T.map .str)&&u0))=u0
  rw [Xl,Xl];rfl
 have j:Gd (.tup (S.map az))=true:=ql _ (λs=>(pM s).1) S
 have o: ∀a,eval (k8 (k+3)) (.ix .v1 (.int 0)) [k0 (.r h.length),sv (aG K T S),si n] a= .ok (.v (wD K T)) a:=λa=>by simp_all [aa,Qh]
 have l: ∀a,eval (k8 (k+3)) (.ix .v1 (.int 1)) [k0 (.r h.length),sv (aG K T S),si n] a= .ok (.t (S.map az)) a:=λa=>by simp_all [aa,Zf]
 rw [za (qR (fs:= []) (o _) rfl p (show 0<100 by decide))]
 rw [za (qR (fs:=aX "words" (wD K T) []) (l _) rfl j (show 1<100 by decide))]
 rw [za (qR (fs:=aX "sayings" (.tup (S.map az)) (aX "words" (wD K T) [])) (d:= .n n) (by simp_all []) rfl rfl (show 2<100 by decide))]
 have pl: ∀a,eval (k8 (k+3)) (.call "places_of" (.b (.ix .v1 (.int 0)) .v2)) [some (.r h.length),sv (aG K T S),si n] a= .ok (.own ((bQ n K T).map bL)) a:=fun a=>by
  simp_all [aa,Qh,(LF k n K T a g.n4 g.k4 g.t4)]
  rfl
 rw [za (HW (fs:=aX "size" (.n n) (aX "sayings" (.tup (S.map az)) (aX "words" (wD K T) []))) (pl _) rfl (zL _) (show 3<100 by decide))]
 have e:aX "places" (.lst ((bQ n K T).map bL)) (aX "size" (.n n) (aX "sayings" (.tup (S.map az)) (aX "words" (wD K T) [])))= [("words",wD K T),("sayings",.tup (S.map az)),("size",.n n),("places",.lst ((bQ n K T).map bL))]:=rfl
 rw [e]
 have q:=g.b6
 have c:=J9 (bN n K T) (by show K.length*n+T.length*(n*n)<=_;lia)
 have m:((2 ^ bN n K T:Nat):Int)-1=((2 ^ bN n K T-1:Nat):Int):=by
  have:=Ad4 (bN n K T)
  lia
 rw [za (qR (d:= .n (2 ^ bN n K T-1)) (by
  have b:=qm (F:=(k8 (k+3))) (τ:= [k0 (.r h.length),sv (aG K T S),si n]) (i:=0) (f:= "places") (zo h (.obj "Cases" [("words",wD K T),("sayings",.tup (S.map az)),("size",.n n),("places",.lst ((bQ n K T).map bL))])) rfl rfl
  generalize E.aJ _ _ _=X at b ⊢
  simp_all [b,Qx,ag,Aa,wG,c,zd,m]) rfl rfl (by simp))]
 rw [execs]
 exact Gz _ _ _ (by simp)
noncomputable def eF (n:Nat) (K T:List Tx) (S:List Sy) (a:Nat):List (String×D):= [("cases",.ref a),("needs",.lst (aA (S.map (eL n K T))))]
structure Se (n:Nat) (K T:List Tx) (S:List Sy) (rs rc:Nat) (h:AH):Prop where
 se:h[rs]? =k0 (.obj "Search" (eF n K T S rc))
 cs:h[rc]? =k0 (.obj "Cases" (cC n K T S))
theorem tE (f) (P:Nat->Prop): ∀ds:List D,(∀ d∈ds,∃x:Nat,f d= .n x/\P x)-> ∃xs:List Nat,ds.map f=aA xs/\(∀ x∈xs,P x)/\xs.length=ds.length
 | [],_=>⟨[],rfl,λ_ h=>absurd h Ai4,rfl⟩
 | d::ds,h=>by
  obtain⟨x,e,p⟩:=h d Aa5
  obtain⟨xs,e2,b,l2⟩:=tE f P ds λd c=>h d (Aa2 _ c)
  refine⟨x::xs,by rw [Ab2,e,e2];rfl,λy a=> ?_,by rw [Aa8,l2,Aa8]⟩
  rcases Ab8.mp a with rfl | a
  .exact p
  .exact b y a
section
variable {n q:Nat}{K T:List Tx}{S:List Sy}
def LW (m:Nat) (g:bz n K T) (o: ∀s∈S,s.wf (K++T)/\s.dp<=q) (L:S.length<=100) (N:q+7<=m) (M:q<=14) (h:AH):call prog (m+1) "Search.__init__" [.r h.length,.v (aG K T S),.i n] (h++ [.obj "Search" []])= .ok (.v .au) (h++ [.obj "Search" (eF n K T S (h.length+1)),.obj "Cases" (cC n K T S)]):=by
 obtain⟨k,rfl⟩:=nk m 4 (by lia)
 have e1:=Ew k (S:=S) g (h++ [Cell.obj "Search" []])
 have l:(h++ [Cell.obj "Search" []]).length=h.length+1:=by simp
 rw [l]at e1
 rw [Gb (d:=zi) rfl _ _ _ rfl]
 show Gw _ (execs _ _ [k0 (.r h.length),sv (aG K T S),si n] (h++ [.obj "Search" []]))=_
 simp only [zi]
 have A: ∀fs x,GX (h++ [Cell.obj "Search" fs]++x) _=some (h.length, "Search",fs):=fun fs x=>Jq (by simp)
 have u: ∀fs b x,(h++ [Cell.obj "Search" fs]++x).set h.length (.obj "Search" b)=h++ [Cell.obj "Search" b]++x:=fun fs b x=>by simp
 have mk:eval (k8 (k+4)) (.make "Cases" "Cases.__init__" (.b .v1 .v2)) [some (.r h.length),sv (aG K T S),si n] (h++ [.obj "Search" []])= .ok (.r (h.length+1)) (h++ [.obj "Search" []]++ [.obj "Cases" (cC n K T S)]):=by
  simp_all [l,e1,ag]
 rw [za (τ1:= [k0 (.r h.length),sv (aG K T S),si n]) (h1:=h++ [.obj "Search" [("cases",.ref (h.length+1))]]++ [.obj "Cases" (cC n K T S)]) (by
  rw [exec,mk,R.ar]
  simp only [Gn,A,Ad3,show(0:Nat)<100 by decide,and_self,if_true,u]
  rfl)]
 have t:(h++ [Cell.obj "Search" [("cases",.ref (h.length+1))]]++ [Cell.obj "Cases" (cC n K T S)])[h.length+1]? =some (.obj "Cases" (cC n K T S)):=by simp
 have j:(h++ [Cell.obj "Search" [("cases",.ref (h.length+1))]]++ [Cell.obj "Cases" (cC n K T S)])[h.length]? =some (.obj "Search" [("cases",.ref (h.length+1))]):=by simp
 have w:=A [("cases",.ref (h.length+1))] [Cell.obj "Cases" (cC n K T S)]
 have z:=u [("cases",.ref (h.length+1))] (eF n K T S (h.length+1)) [Cell.obj "Cases" (cC n K T S)]
 have I:h++ [Cell.obj "Search" (eF n K T S (h.length+1))]++ [Cell.obj "Cases" (cC n K T S)]=h++ [.obj "Search" (eF n K T S (h.length+1)),.obj "Cases" (cC n K T S)]:=by simp
 generalize h++ [Cell.obj "Search" [("cases",.ref (h.length+1))]]++ [Cell.obj "Cases" (cC n K T S)]=H at t j w z ⊢
 have comp:eval (k8 (k+4)) wg [k0 (.r h.length),sv (aG K T S),si n] H= .ok (.own (aA (S.map (eL n K T)))) H:=by
  unfold wg
  obtain⟨f,B,G⟩:=Q7 (F:=(k8 (k+4))) (k:=1) (aB:= [0]) (it:= .seq (.ix .v1 (.int 1))) (c:= .bl true) (elt:= .call "needed_bits" (.cons (.aJ .v1 "Search" "cases") (.a .v0))) (τ:= [some (.r h.length),sv (aG K T S),si n]) (h:=H) (ds:=S.map az) (fun d y=> ∀s∈S,d=az s->y= .n (eL n K T s)) (by simp_all [aa,Zf]) (by rw [List.length_map];lia) (fun d J=>by
   have r: ∀s∈S,eval (k8 (k+4)) (.call "needed_bits" (.cons (.aJ .v1 "Search" "cases") (.a .v0))) [sv (az s),some (.r h.length)] H= .ok (.i (eL n K T s)) H:=fun s a=>by
    have e:=Md (k+3) g t (o s a).1 (by have:=(o s a).2;lia) (by have:=(o s a).2;lia)
    have v:=qm (F:=(k8 (k+4))) (τ:= [sv (az s),k0 (.r h.length)]) (i:=1) (f:= "cases") j rfl rfl
    generalize E.aJ _ _ _=X at v ⊢
    simp_all [v,e]
   obtain⟨s,a,rfl⟩:=Ab6.mp J
   refine⟨_,r s a,λD p e=> ?_⟩
   have e1:=r s a
   rw [e,r D p]at e1
   injection e1 with e1
   injection e1 with e1
   exact e1.symm)
  rw [B]
  congr 2
  rw [Ad1,aA,Ad1]
  exact Ai1 λs a=>G (az s) (Ab6.mpr ⟨s,a,rfl⟩) s a rfl
 rw [za (τ1:= [k0 (.r h.length),sv (aG K T S),si n]) (h1:=h++ [.obj "Search" (eF n K T S (h.length+1)),.obj "Cases" (cC n K T S)]) (by
  rw [exec,comp,R.ar]
  simp only [W.dP,Gn,w,show Gd (.lst (aA (S.map (eL n K T))))=u0 from l3 _,Aa8,Ad3,show(0+1:Nat)<100 by decide,and_self,if_true]
  rw [show (aX "needs" (.lst (aA (S.map (eL n K T)))) [("cases",.ref (h.length+1))])=eF n K T S (h.length+1)from rfl,z,I]),execs]
 show fin _ (.v .au) _=_
 unfold fin
 have C:Gu ((h++ [Cell.obj "Search" (eF n K T S (h.length+1)),.obj "Cases" (cC n K T S)]).take (h++ [Cell.obj "Search" []]).length)=false:=by
  rw [l,show h++ [Cell.obj "Search" (eF n K T S (h.length+1)),.obj "Cases" (cC n K T S)]=h++ [Cell.obj "Search" (eF n K T S (h.length+1))]++ [.obj "Cases" (cC n K T S)]by simp,List.take_left' (by simp),Gu,List.all_append]
  show(h.all Cell.pure&&k9)=k9
  rw [Ah7]
 rw [if_neg (by simp),C,Ah7,if_neg Ac2]
def gB (n:Nat) (K T:List Tx) (b a:Nat) (s:Sy):Nat:=(eL n K T s &&& a)-((eL n K T s &&& a) &&& b)
def uO (low high) (s) (i):(gB n K T low high s).testBit i=((eL n K T s).testBit i&&high.testBit i&& !low.testBit i):=by
 rw [gB,Wf.aR,Ah2]
def EF (m)(g:bz n K T) (M:Se n K T S rs rc H) (hh:high<2 ^ bN n K T) (t:js≠ []) (G:js.length<=1000) (R: ∀j∈js,∃s,S[j]? =k0 s/\gB n K T low high s≠0):
 ∃i:Nat,i<bN n K T/\high.testBit i=u0/\low.testBit i=k9/\call prog (m+2) "Search.chosen_place" [.r rs,.bor (aA js),.i low,.i high] H= .ok (.i i) H:=by
 have L:bN n K T<=6:=g.b6
 obtain⟨f,b,V⟩:=Q7 (F:=(k8 (m+1))) (k:=1) (aB:= [0,3,2]) (it:= .seq .v1) (c:= .bl true) (elt:= .bin .band (.bin .band (.ix (.aJ .v1 "Search" "needs") .v0) .v2) (.inv .v3)) (τ:= [some (.r rs),some (.bor (aA js)),si low,si high,none,none]) (h:=H) (ds:=aA js) (fun d y=> ∃x:Nat,y= .n x/\(∃ s,x=gB n K T low high s)/\x≠0) (by simp_all []) (by rw [List.length_map];exact G) (fun d u=>by
  obtain⟨j,t,rfl⟩:=Ab6.mp u
  obtain⟨s,e1,e2⟩:=R j t
  have N:j<S.length:=(Aa0.mp e1).1
  have B:=qm (F:=(k8 (m+1))) (τ:= [si j,k0 (.r rs),si high,si low]) (i:=1) (f:= "needs") M.se rfl rfl
  have q:aP (aA (S.map (eL n K T))) (j:Int)=k0 (.n (eL n K T s)):=by
   rw [Zd _ _ (by rw [Aa,Aa];exact N),Ac,Ac,e1];rfl
  refine⟨.n (gB n K T low high s),?_,_,rfl,⟨s,rfl⟩,e2⟩
  show eval _ _ [si j,k0 (.r rs),si high,si low] H=_
  generalize E.aJ _ _ _=X at B ⊢
  simp_all [B,zr,q,jc,wd,qM]
  rfl)
 obtain⟨l,ex,v,C⟩:=tE f (λx=>(∃ s,x=gB n K T low high s)/\x≠0) _ λd u=>by
  obtain⟨x,e,p⟩:=V d u
  exact⟨x,e,p⟩
 rw [ex]at b
 have lt: ∀x∈l,0<x/\x<64:=λx a=>by
  obtain⟨⟨s,e⟩,ne⟩:=v x a
  refine⟨Nat.pos_of_ne_zero ne,?_⟩
  have U:gB n K T low high s<=high:=Ab5 (Ap0 _ _) Nat.and_le_right
  have h2:2 ^ bN n K T<=2 ^ 6:=Ad0 (by decide) L
  lia
 obtain⟨i0,r,o⟩:=Em (key:=fun x=>call prog (m+1) "how_many_set" [.v (.int x)] []) (xs:=l.map fun(x:Nat)=>(x:Int)) (by
  cases l with
  | nil=>
   rw [Aa]at C
   exact absurd (List.length_eq_zero_iff.mp C.symm) t
  | cons _ _=>simp) (λy Q=>by
  obtain⟨x,a,rfl⟩:=Ab6.mp Q
  obtain⟨y,e⟩:=Ef m x [] (by have:=(lt x a).2;lia)
  exact⟨_,by show G7 (call prog (m+1) "how_many_set" [.i x] [])=_;rw [e];rfl⟩)
 obtain⟨x,a,rfl⟩:=Ab6.mp r
 obtain⟨A,I⟩:=lt x a
 obtain⟨i,_,D,J⟩:=KI A (by lia)
 obtain⟨⟨s,rfl⟩,_⟩:=v x a
 rw [uO,Aa1,Aa1,Ag6]at D
 obtain⟨⟨Y,P⟩,Z⟩:=D
 obtain⟨p,O,_⟩:=(uG s i).mp Y
 refine⟨i,?_,P,Z,?_⟩
 .have:=(Aa0.mp O).1
  rw [wG]at this
  exact this
 rw [Gb (d:=qf) rfl _ _ _ rfl]
 simp only [qf]
 have b:eval (k8 _) zh [k0 _,k0 _,si low,si high,y0,y0] H= .ok _ H:=b
 refine fx (by simp_all [b];rfl) ?_
 refine fx (by
  simp_all [W.ly,Q8,o,ag]
  rfl) ?_
 have z:=KS A
 rw [J]at z
 have e1:((i+1:Nat):Int)-1=(i:Int):=by lia
 rw [qa (w:= .i i) (h1:=H) (Ja rfl (by simp_all [z,Ba,ag,zd,e1])),Ga _ _ _ rfl]
end
def FY : ∀ e p,(∀ t∈cc e,bh a t=bh b t)->bt a b p e=bt a b u0 e:=by
 intro e
 induction e with
 | name t=>intro p h;cases p with
  | true=>rfl
  | false=>exact h t Aa5
 | turned e g=>intro p h;simp [bt,g p h]
 | closed e g=>intro p h;simp [bt,g p h]
 | plus e f g c=>intro p h;simp [bt,g p λt d=>h t (Ad _ d),c p λt d=>h t (Ab0 _ d)]
 | less e f g c=>
  intro p h
  have i:=λt d=>h t (Ad _ d)
  have j:=λt d=>h t (Ab0 _ d)
  simp [bt,g p i,c _ j]
 | both e f g c=>intro p h;simp [bt,g p λt d=>h t (Ad _ d),c p λt d=>h t (Ab0 _ d)]
 | joined e f g c=>intro p h;simp [bt,g p λt d=>h t (Ad _ d),c p λt d=>h t (Ab0 _ d)]
 | _=>intro p h;cases p<;>rfl
def B.nm (h:B a b e v u) (k: ∀t∈cc e,bh a t=bh b t):v=u:=by
 have l:=h.lo
 rw [FY e k9 k]at l
 exact l.uniq h.hi
def xW (h:p≠y0) (g:q≠y0):Q9 p q≠none:=by
 rcases p with _ | _ | _<;>rcases q with _ | _ | _<;>first | exact absurd rfl h | exact absurd rfl g | (intro z;cases z)
def Cq (h:p≠y0) (g:q≠y0):zev p q≠none:=by
 rcases p with _ | _ | _<;>rcases q with _ | _ | _<;>first | exact absurd rfl h | exact absurd rfl g | (intro z;cases z)
theorem Td.nm : ∀ s r,Td a b s r->(∀ t∈eD s,bh a t=bh b t)->r≠y0
 | .fact f,r,h,k=>by
  cases f with
  | dH x y=>
   obtain⟨v,u,l,m,c,i,rfl⟩:=h
   cases c.nm λt g=>k t (Ad _ g)
   cases i.nm λt g=>k t (Ab0 _ g)
   rw [ZS];intro z;cases z
  | dZ x y=>
   obtain⟨v,u,l,m,c,i,rfl⟩:=h
   cases c.nm λt g=>k t (Ad _ g)
   cases i.nm λt g=>k t (Ab0 _ g)
   rw [ZS,ZS]
   exact xW (λz=>by cases z) λz=>by cases z
  | d4 x=>obtain⟨v,u,c,rfl⟩:=h;cases c.nm k;rw [XI];intro z;cases z
  | au x=>obtain⟨v,u,c,rfl⟩:=h;cases c.nm k;rw [XI];intro z;cases z
  | cnt s j x=>obtain⟨v,u,c,rfl⟩:=h;cases c.nm k;rw [XI];intro z;cases z
 | .neg s,r,⟨q,h,e⟩,k=>by
  have:=Td.nm s q h k
  cases q with
  | none=>exact absurd rfl this
  | some x=>rw [e];intro z;cases z
 | .bU s t,r,⟨p,q,c,i,e⟩,k=>by
  rw [e]
  exact xW (Td.nm s p c λx d=>k x (Ad _ d)) (Td.nm t q i λx d=>k x (Ab0 _ d))
 | .bP s t,r,⟨p,q,c,i,e⟩,k=>by
  rw [e]
  exact Cq (Td.nm s p c λx d=>k x (Ad _ d)) (Td.nm t q i λx d=>k x (Ab0 _ d))
theorem Zj : ∀e:Ex,e.wf N-> ∀t∈cc e,t∈N
 | .name x,w,t,h=>by rw [Ac3.mp h];exact w
 | .turned a,w,t,h=>Zj a w t h
 | .closed a,w,t,h=>Zj a w t h
 | .plus a b,w,t,h=>(Ac8.mp h).elim (Zj a w.1 t) (Zj b w.2 t)
 | .less a b,w,t,h=>(Ac8.mp h).elim (Zj a w.1 t) (Zj b w.2 t)
 | .both a b,w,t,h=>(Ac8.mp h).elim (Zj a w.1 t) (Zj b w.2 t)
 | .joined a b,w,t,h=>(Ac8.mp h).elim (Zj a w.1 t) (Zj b w.2 t)
theorem WN : ∀s:Sy,s.wf N-> ∀t∈eD s,t∈N
 | .fact f,w,t,h=>by
  cases f with
  | dH a b=>exact(Ac8.mp h).elim (Zj a w.1 t) (Zj b w.2 t)
  | dZ a b=>exact(Ac8.mp h).elim (Zj a w.1 t) (Zj b w.2 t)
  | d4 a=>exact Zj a w t h
  | au a=>exact Zj a w t h
  | cnt _ _ a=>exact Zj a w.2 t h
 | .neg a,w,t,h=>WN a w t h
 | .bU a b,w,t,h=>(Ac8.mp h).elim (WN a w.1 t) (WN b w.2 t)
 | .bP a b,w,t,h=>(Ac8.mp h).elim (WN a w.1 t) (WN b w.2 t)
section
variable {n:Nat}{K T:List Tx}{low high:Nat}
def AN (g:bz n K T)(f:t∈K++T) (h: ∀ i x y,(bQ n K T)[i]? =k0 (t,x,y)->low.testBit i=high.testBit i):bh (wo n K T low) t=bh (wo n K T high) t:=by
 have b: ∀x y,x<n->y<n->bh _ t x y=bh (wo n K T high) t x y:=λx y k j=>by
  by_cases q: ∃i:Nat,(bQ n K T)[i]? =k0 (t,x,y)
  .obtain⟨i,d⟩:=q
   rw [(Xm g d low).1,(Xm g d high).1,h i x y d]
  .rw [WB low 0 f k j q,WB high 0 f k j q]
 funext x y
 by_cases q:t∈T
 .have a: ∀c,bh _ t x y=if x*n+y<n*n then bh _ t _ (_ % n)else false:=λc=>by
   unfold bh
   rw [if_pos (show t∈(wo n K T c).T from q),if_pos (show t∈(wo n K T c).T from q)]
   show((cW n K.length T.length c).getD (c4 t T) 0).testBit (x*n+y)=if _ then((cW n K.length T.length c).getD (c4 t T) 0).testBit ((x*n+y) / n*n+(x*n+y) % n)else k9
   rw [Wf.bu]
   by_cases z:x*n+y<n*n
   .rw [if_pos z]
   .rw [if_neg z,vy,decide_eq_false z,Af,Ah7]
  rw [a,a]
  by_cases z:x*n+y<n*n
  .rw [if_pos z,if_pos z]
   exact b _ _ (Wf.bb z) (Wf.aW z)
  .rw [if_neg z,if_neg z]
 .by_cases z:x=y/\x<n
  .obtain⟨rfl,z⟩:=z
   exact b x x z z
  .have a: ∀c,bh _ t x y=false:=λc=>by
    unfold bh
    rw [if_neg (show t∉(wo n K T c).T from q)]
    show(decide _&&((cN n K.length T.length c).getD _ 0).testBit x)=k9
    by_cases e:x=y
    .rw [pX,decide_eq_false (λl=>z ⟨e,l⟩),Af,Ah7,Ah7]
    .rw [decide_eq_false e,Af]
   rw [a,a]
def Dr (g:bz n K T) (sub:Sub low high)(wf:s.wf (K++T)) (h:Td (wo n K T low) (wo n K T high) s y0):gB n K T low high s≠0:=λz=>by
 refine Td.nm s y0 h (λt b=>AN g (WN s wf t b) λi x y d=> ?_) rfl
 have c:=(uG s i).mpr ⟨_,d,b⟩
 have e:=uO (n:=n) (K:=K) (T:=T) low high s i
 rw [z,Af9,c,Ae5]at e
 cases q:high.testBit i with
 | true=>
  rw [q,Ae5]at e
  cases a:low.testBit i with
  | true=>rfl
  | false=>rw [a]at e;cases e
 | false=>
  cases a:low.testBit i with
  | false=>rfl
  | true=>rw [sub i a]at q;cases q
def oc (n:Nat) (K T:List Tx) (b a:Nat):Nat:=((Aa3 (bN n K T)).filter λi=>a.testBit i&& !b.testBit i).length
def HD (a:i<bN n K T) (h:high.testBit i=u0) (l:low.testBit i=k9):oc n K T (low ||| 2 ^ i) high<oc n K T low high:=by
 refine mC (λj _ z=> ?_) ⟨i,Ab4.mpr a,by rw [h,l];rfl,by rw [Af0,Ak1,Bool.or_true,Ao8,Ah7]⟩
 rw [Af0,Bool.not_or,Aa1,Aa1]at z
 rw [z.1,z.2.1];rfl
def IS (a:i<bN n K T) (h:high.testBit i=u0) (l:low.testBit i=k9):oc n K T low (high-(high &&& 2 ^ i))<oc n K T low high:=by
 refine mC (λj _ z=> ?_) ⟨i,Ab4.mpr a,by rw [h,l];rfl,by rw [Wf.aR,Ak1,Ao8,Ah7,Af]⟩
 rw [Wf.aR,Aa1,Aa1]at z
 rw [z.1.1,z.2];rfl
def IT:oc n K T low high<=bN n K T:=by
 have:=Aj0 (λi=>high.testBit i&& !low.testBit i) (Aa3 (bN n K T))
 rw [Ae9]at this
 exact this
end
abbrev Jf:Tx:= [119,111,114,108,100]
abbrev Jd:Tx:= [112,97,112,101,114]
structure GP (n:Nat) (K T:List Tx) (S:List Sy) (q d:Nat) (p:D) (low high:Nat):Prop where
 pp:Pp n K T S p
 dp:dep p<=d
 wk:Lw n K T S (d+q+12) p low high
section
variable {n q:Nat}{K T:List Tx}{S:List Sy}{d low high:Nat}{p:D}
theorem GP.up (h:GP n K T S q d p low high) (l:d<=d'):GP n K T S q d' p low high:=⟨h.pp,Ab5 h.dp l,h.wk.up (by lia)⟩
theorem GP.brk (c: ∀s∈S,s.wf (K++T)/\s.dp<=q)(a:S[j]? =k0 s) (b:Td (wo n K T low) (wo n K T high) s (k0 k9)) (e:1<=d):GP n K T S q d (.tup [.str Qy,.n j]) low high:=⟨.brk (Aa0.mp a).1,by simp;lia,(Lw.brk c a b).up (by lia)⟩
theorem GP.dN (g:bz n K T)(c:(bQ n K T)[i]? =k0 (t,x,y)) (f:high.testBit i=u0) (e:low.testBit i=k9) (a:GP n K T S q d p1 (low ||| 2 ^ i) high) (b:GP n K T S q d p2 low (high-(high &&& 2 ^ i))):GP n K T S q (d+1) (.tup [.str Xj,.str t,.n x,.n y,p1,p2]) low high:=⟨.dN c a.pp b.pp,by
 have:=a.dp
 have:=b.dp
 simp [GG]
 lia,(Lw.dN g c f e (by lia) a.wk b.wk).up (by lia)⟩
def gp (n:Nat) (K T:List Tx) (S:List Sy) (q d e b:Nat) (a:D):Prop:=(∃ c,Sub e c/\Sub c b/\c<2 ^ bN n K T/\a= .tup [.str Jf,(wo n K T c).aT]/\ ∀s∈S,Td (wo n K T c) (wo n K T c) s (k0 u0))\/ ∃p,a= .tup [.str Jd,p]/\GP n K T S q d p e b
noncomputable abbrev cF (c:Nat) (d:List Nat) (b a:Nat) (l:List Nat) (x y:Option W):Sl:= [k0 (.r c),k0 (.bor (aA d)),si b,si a,k0 (.own (aA l)),x,y]
theorem n5 (g:bz n K T) (G: ∀s∈S,s.wf (K++T)/\s.dp<=q) (B:low<2 ^ bN n K T) (w:high<2 ^ bN n K T)(p:Se n K T S rs rc H) (U:q+10<=m): ∀ O L x y,(∀ j∈O,j<S.length)->L.length+O.length<=1000 →
 (∃ j s,S[j]? =k0 s/\Td (wo n K T low) (wo n K T high) s (k0 k9)/\Gp (Gr [5] u0) (λτ h=>execs (k8 m) ja τ h) (aA O) (cF rs j0 low high L x y) H= .ret (.t [.str Jd,.tup [.str Qy,.n (j)]]) H) ∨
 ∃ M V W,(∀ j∈M,∃s,S[j]? =k0 s/\Td (wo n K T low) (wo n K T high) s y0)/\(∀ j∈O,j∉M-> ∃s,S[j]? =k0 s/\Td (wo n K T low) (wo n K T high) s (k0 u0))/\M.length<=O.length/\Gp (Gr [5] u0) (λτ h=>execs (k8 m) ja τ h) (aA O) (cF rs j0 low high L x y) H= .next (cF rs j0 low high (L++M) V W) H
 | [],L,x,y,_,_=> .inr ⟨[],x,y,λ_ h=>absurd h Ai4,λ_ h=>absurd h Ai4,Aa7 _,by rw [Ae3];rfl⟩
 | j::O,L,x,y,J,hc=>by
  rw [Aa8]at hc
  have Y:=J j Aa5
  obtain⟨s,r⟩: ∃s,S[j]? =k0 s:=⟨S[j],Aa4 Y⟩
  obtain⟨wf,dp⟩:=G s (Ac4 r)
  obtain⟨k,rfl⟩:=nk m 1 (by lia)
  obtain⟨o,N,e1⟩:=QT k j low high g p.cs B w r (by lia) wf
  have Q:=qm (F:=(k8 (k+1))) (τ:=cF rs j0 low high L (si j) y) (i:=0) (f:= "cases") p.se rfl rfl
  have tr:eval (k8 (k+1)) (.bK (.aJ .v0 "Search" "cases") "Cases" "truth" "Cases.truth" (.c .v5 .v2 .v3)) (cF rs j0 low high L (si j) y) H= .ok (.v (aH o)) H:=by
   generalize E.aJ _ _ _=X at Q ⊢
   rw [eval,Q,R.ae]
   simp only [Jq p.cs]
   rw [if_pos ⟨trivial,rfl⟩]
   simp_all [e1]
  have C: ∀X,execs (k8 (k+1)) (.cons (.af 6 (.bK (.aJ .v0 "Search" "cases") "Cases" "truth" "Cases.truth" (.c .v5 .v2 .v3))) X) (cF rs j0 low high L (si j) y) H=execs (k8 (k+1)) X (cF rs j0 low high L (si j) (sv (aH o))) H:=fun X=>by
   generalize E.bK _ _ _ _ _=Z at tr ⊢
   rw [za (τ1:=cF rs j0 low high L (si j) (sv (aH o))) (h1:=H) (by simp_all [tr])]
  have i1:=kj o k9 H
  have A:Gm (k8 (k+1)) (.cmp .cX .v6 (.bl k9)) (cF rs j0 low high L (si j) (sv (aH o))) H= .ok (o==k0 k9) H:=by simp_all [i1]
  have u: ∀ c,c.length+O.length<=1000->execs (k8 (k+1)) ja (cF rs j0 low high L (si j) y) H= .next (cF rs j0 low high c (si j) (sv (aH o))) H->Gp (Gr [5] u0) (λτ h=>execs (k8 (k+1)) ja τ h) (aA (j::O)) (cF rs j0 low high L x y) H=Gp (Gr [5] u0) (λτ h=>execs (k8 (k+1)) ja τ h) (aA O) (cF rs j0 low high c (si j) (sv (aH o))) H:=λc _ e=>by
   rw [aA,Ab2,zb (τ1:=cF rs j0 low high L (si j) y) rfl e]
  rcases o with _ | _ | _
  .have b:execs (k8 (k+1)) ja (cF rs j0 low high L (si j) y) H= .next (cF rs j0 low high (L++ [j]) (si j) (sv (aH y0))) H:=by
    unfold ja
    rw [C,xa A]
    rw [za (τ1:=cF rs j0 low high (L++ [j]) (si j) (sv (aH y0))) (h1:=H) ((xr (h1:=H) (by simp_all [aH,ag,Ao3])).trans ?_),execs]
    have lL:(aA L).length<bf:=by rw [Gg,Aa];lia
    rw [za (τ1:=cF rs j0 low high (L++ [j]) (si j) (sv (aH y0))) (h1:=H) (by
     simp_all [lL,if_true]
     simp only [cF,FJ]),execs]
   rcases n5 (j0:=j0) g G B w p U O (L++ [j]) (si j) (sv (aH y0)) (λi a=>J i (Aa2 _ a)) (by rw [Aa6];simp;lia)with⟨P,I,d,l,t⟩ | ⟨M,V,W,d,l,t,D⟩
   .exact .inl ⟨P,I,d,l,(u _ (by rw [Aa6];simp;lia) b).trans t⟩
   .refine .inr ⟨j::M,V,W,λi a=> ?_,λi a v=> ?_,by rw [Aa8,Aa8];lia,?_⟩
    .rcases Ab8.mp a with rfl | a
     .exact⟨s,r,N⟩
     .exact d i a
    .rcases Ab8.mp a with rfl | a
     .exact absurd Aa5 v
     .exact l i a λz=>v (Aa2 _ z)
    .rw [u _ (by rw [Aa6];simp;lia) b,D,Ae]
     rfl
  .refine .inl ⟨j,s,r,N,?_⟩
   rw [aA,Ab2,Gp,show Gr [5] u0 (.n j) (cF rs j0 low high L x y)=k0 (cF rs j0 low high L (si j) y)from rfl]
   have b:execs (k8 (k+1)) ja (cF rs j0 low high L (si j) y) H= .ret (.t [.str Jd,.tup [.str Qy,.n j]]) H:=by
    unfold ja
    rw [C]
    exact zf A (Ja rfl (by simp_all []))
   simp only [b]
  .have b:execs (k8 (k+1)) ja (cF rs j0 low high L (si j) y) H= .next (cF rs j0 low high L (si j) (sv (aH (k0 u0)))) H:=by
    unfold ja
    rw [C,xa A,xa (by simp_all [aH,ag]),execs]
   rcases n5 (j0:=j0) g G B w p U O L (si j) (sv (aH (k0 u0))) (λi a=>J i (Aa2 _ a)) (by lia)with⟨P,I,d,l,t⟩ | ⟨M,V,W,d,l,t,D⟩
   .exact .inl ⟨P,I,d,l,(u _ (by lia) b).trans t⟩
   .refine .inr ⟨M,V,W,d,λi a v=> ?_,by rw [Aa8];lia,(u _ (by lia) b).trans D⟩
    rcases Ab8.mp a with rfl | a
    .exact⟨s,r,N⟩
    .exact l i a v
end
def yH (e:eval F a τ h= .ok (.r r) h) (b:h[r]? =k0 (.obj c fs)) (f:(fs.lookup m).isNone=u0) (d:Gf F es τ h= .ok ws h):eval F (.bK a c m q es) τ h=F.call q (.r r::ws.map W.arg) h:=by
 rw [eval,e,R.ae]
 simp only [Jq b]
 rw [if_pos ⟨trivial,f⟩,d,R.ae]
def vh (e:eval F a τ h= .ok (.r r) h) (b:h[r]? =k0 (.obj c fs)) (g:fs.lookup f=k0 d):eval F (.aJ a c f) τ h= .ok (.v d) h:=by
 rw [eval,e,R.ae]
 simp only [Jq b]
 rw [if_pos trivial,g]
 rfl
def yP (l) (h):Gq .eq (.bor (aA l)) (.own []) h=k0 (l== []):=by
 cases l with
 | nil=>rfl
 | cons x a=>
  show(if G6 _ ((W.own []).dd h)then k0 (cy _ _)else y0)=_
  rw [W.iM,W.ke,GM (l3 (x::a))]
  have e:G6 (.lst (aA (x::a))) (.lst (GT h []))=true:=by
   have:=AW (x::a)
   have:=l3 (x::a)
   simp only [GT,decide_eq_true_eq]
   lia
  rw [if_pos e]
  rfl
section
variable {n q:Nat}{K T:List Tx}{S:List Sy}{low high:Nat}
def Tr (n:Nat) (K T:List Tx) (S:List Sy) (b a j:Nat):Prop:= ∃s,S[j]? =k0 s/\Td (wo n K T b) (wo n K T a) s (k0 u0)
theorem Tr.mono (g:bz n K T) (i: ∀s∈S,s.wf (K++T)/\s.dp<=q)(h:Tr n K T S low high j) (b:Sub low low') (c:Sub high' high) (k:Sub low' high') (f:low'<2 ^ bN n K T) (d:high'<2 ^ bN n K T):Tr n K T S low' high' j:=by
 obtain⟨s,e,t⟩:=h
 obtain⟨wf,dp⟩:=i s (Ac4 e)
 obtain⟨r,a,_⟩:=QT _ j low' high' (ro:=0) (h:= [Cell.obj "Cases" _]) g rfl f d e (Nat.le_refl _) wf
 have:=Td.mono (lx b) (lx c) (lx k) s _ _ u0 t a rfl
 exact⟨s,e,this▸a⟩
def Sub.eA (a):Sub a a:=λ_ h=>h
def Sub.tr (h:Sub a b) (k:Sub b c):Sub a c:=λi z=>k i (h i z)
def gp.of (b:Sub low low') (e:Sub high' high) (h: ∃c,Sub low' c/\Sub c high'/\c<2 ^ bN n K T/\a= .tup [.str Jf,(wo n K T c).aT]/\ ∀s∈S,Td (wo n K T c) (wo n K T c) s (k0 u0)):gp n K T S q d low high a:=by
 obtain⟨c,g,i,f⟩:=h
 exact .inl ⟨c,b.tr g,i.tr e,f⟩
def Ep (w:Wo):Gd w.aT=true:=by simp [Wo.aT,l3,Bool.and_self]
def uB (a b):Sub a (a ||| b):=λk z=>by rw [Af0,z];rfl
def uc (a b):Sub (a-(a &&& b)) a:=λk z=>by
 rw [Wf.aR,Aa1]at z
 exact z.1
def KH (h:a.testBit i=u0):Sub (2 ^ i) a:=λk z=>by
 rw [Ad7]at z
 rw [← of_decide_eq_true z]
 exact h
def uH (i:Nat) (h:i<=1000):Gj .shl (1:Int) (i:Int)=k0 ((2 ^ i:Nat):Int):=by
 have:=jU 1 i (by decide) (by lia)
 rwa [Nat.one_mul]at this
noncomputable abbrev gk (c:Nat) (d:List Nat) (b a i:Nat) (y z u v w:Option W):Sl:= [k0 (.r c),k0 (.bor (aA d)),si b,si a,si i,si (2 ^ i),y,z,u,v,w]
def yu (g:bz n K T) (I: ∀s∈S,s.wf (K++T)/\s.dp<=q)(w:Se n K T S rs rc H)(IH: ∀(u r:Nat) (l:List Nat),oc n K T u r<oc n K T low high->Sub u r->u<2 ^ bN n K T->r<2 ^ bN n K T->(∀ j∈l,j<S.length)->l.length<=500->(∀ j,j<S.length->j∉l->Tr n K T S u r j)-> ∃a,Gd a=true/\gp n K T S q k u r a/\call prog (m+2) "Search.told_of_case" [.r rs,.bor (aA l),.i u,.i r] H= .ok (.v a) H) (hk:k<90) (sub:Sub low high) (A:low<2 ^ bN n K T) (M:high<2 ^ bN n K T) (v: ∀j∈js,j<S.length) (l5:js.length<=500) (tr: ∀j,j<S.length->j∉js->Tr n K T S low high j) (hm:k+q+18<=m): ∃a,Gd a=true/\gp n K T S q (k+1) low high a/\call prog (m+4) "Search.told_of_case" [.r rs,.bor (aA js),.i low,.i high] H= .ok (.v a) H:=by
 have run:=λ(a:D) (e:execs (k8 (m+3)) aL.body [k0 (.r rs),k0 (.bor (aA js)),si low,si high,y0,y0,y0] H= .ret (.v a) H)=>(show call prog (m+4) "Search.told_of_case" [.r rs,.bor (aA js),.i low,.i high] H= .ok (.v a) H from by
  rw [Gb (d:=aL) rfl _ _ _ rfl]
  show Gw _ (execs _ _ [k0 (.r rs),k0 (.bor (aA js)),si low,si high,y0,y0,y0] H)=_
  rw [e,Ga _ _ _ rfl])
 simp only [aL]at run
 have st: ∀X,execs (k8 _) (.cons (.set 4 (.lst .nil)) (.cons (.for [5] u0 (.seq .v1) ja) X)) [k0 (.r rs),k0 (.bor (aA js)),si low,si high,y0,y0,y0] H=(Gp (Gr [5] u0) (λU h=>execs (k8 (m+3)) ja U h) (aA js) (cF rs js low high [] y0 y0) H).seq λU h=>execs (k8 (m+3)) X U h:=λX=>by
  rw [za (τ1:=cF rs js low high [] y0 y0) (h1:=H) (by simp_all [];rfl),execs,exec,show Gs (k8 (m+3)) (.seq .v1) (cF rs js low high [] y0 y0) H= .ok (aA js) H by simp_all [],R.ar]
 rcases n5 (j0:=js) g I A M w (m:=m+3) (by lia) js [] y0 y0 v (by simp;lia)with⟨j,s,h1,h2,h3⟩ | ⟨l,x',y',h1,h2,h3,h4⟩
 .refine⟨_,by simp,.inr ⟨_,rfl,GP.brk I h1 h2 (by lia)⟩,run _ ?_⟩
  rw [st,h3,O.bM]
 rw [Ae7]at h4
 have L: ∀j,j<S.length->j∉l->Tr n K T S low high j:=λj v hn=>by
  by_cases G:j∈js
  .exact h2 j G hn
  .exact tr j v G
 by_cases nil:l= []
 .subst nil
  refine⟨_,by simp [Ep],.inl ⟨low,Sub.eA low,sub,A,rfl,λs hs=> ?_⟩,run _ ?_⟩
  .obtain⟨j,v,rfl⟩:=Al9 hs
   obtain⟨s,e,t⟩:=(L j v Ai4).mono g I (Sub.eA low) sub (Sub.eA low) A A
   rw [Aa4 v]at e
   injection e with e
   rw [e]
   exact t
  .rw [st,h4,O.bx]
   have f1:=qm (F:=(k8 (m+3))) (τ:=cF rs js low high [] x' y') (i:=0) (f:= "cases") w.se rfl rfl
   have f2:=yH (m:= "world_of_code") (q:= "Cases.world_of_code") (es:= .cons .v2 .nil) (ws:= [.i low]) f1 w.cs rfl (by simp_all [])
   have f3:=j7 (m-3) low g w.cs A
   rw [show m-3+6=m+3 by lia]at f3
   have f3:=f2.trans f3
   generalize E.bK _ _ _ _ _=X at f3 ⊢
   exact zf (by simp_all [show Gq .eq (.bor []) (.own []) H=k0 u0 from yP [] H,ag]) (Ja rfl (by simp_all [f3]))
 have ns': ∀j∈l,j<S.length:=λj v=>by
  obtain⟨s,e,_⟩:=h1 j v
  exact(Aa0.mp e).1
 have op: ∀j∈l,∃s,S[j]? =k0 s/\gB n K T low high s≠0:=λj v=>by
  obtain⟨s,e,t⟩:=h1 j v
  exact⟨s,e,Dr g sub (I s (Ac4 e)).1 t⟩
 have W:l.length<=500:=by lia
 obtain⟨i,G,hb,lb,ec⟩:=EF m g w M nil (by lia) op
 have b6:bN n K T<=6:=g.b6
 have J:2 ^ i<2 ^ bN n K T:=Ao1 (by decide) G
 have hl1:low ||| 2 ^ i<2 ^ bN n K T:=Ak9 A J
 have Q:high-(high &&& 2 ^ i)<2 ^ bN n K T:=Ah6 (Ap0 _ _) M
 have su1:Sub (low ||| 2 ^ i) high:=tI sub (KH hb)
 have su2:Sub low (high-(high &&& 2 ^ i)):=sr sub lb
 obtain⟨P,n1,A1,c1⟩:=IH (low ||| 2 ^ i) high l (HD G hb lb) su1 hl1 M ns' W λj v hn=>(L j v hn).mono g I (uB _ _) (Sub.eA _) su1 hl1 M
 obtain⟨a2,n2,A2,c2⟩:=IH low (high-(high &&& 2 ^ i)) l (IS G hb lb) su2 A Q ns' W λj v hn=>(L j v hn).mono g I (Sub.eA _) (uc _ _) su2 A Q
 have C: ∀a,call prog (m+3) "Search.told_of_halves" [.r rs,.bor (aA l),.i low,.i high] H= .ok (.v a) H->call prog (m+4) "Search.told_of_case" [.r rs,.bor (aA js),.i low,.i high] H= .ok (.v a) H:=fun a e=>run a (by
  rw [st,h4,O.bx]
  rw [xa (by simp_all [yP,beq_eq_false_iff_ne.mpr nil,ag])]
  have f1:=QL (F:=(k8 (m+3))) (τ:=cF rs js low high l x' y') (i:=0) (m:= "told_of_halves") (q:= "Search.told_of_halves") (es:= .cons .v4 (.b .v2 .v3)) (ws:= [.bor (aA l),.i low,.i high]) w.se rfl rfl (by simp_all [])
  have f2:=f1.trans e
  exact qa (Ja rfl f2))
 have o:=λ(a:D) (e:execs (k8 (m+2)) aD.body [k0 (.r rs),k0 (.bor (aA l)),si low,si high,y0,y0,y0,y0,y0,y0,y0] H= .ret (.v a) H)=>C a (show call prog (m+3) "Search.told_of_halves" [.r rs,.bor (aA l),.i low,.i high] H= .ok (.v a) H from by
  rw [Gb (d:=aD) rfl _ _ _ rfl]
  show Gw _ (execs _ _ [k0 (.r rs),k0 (.bor (aA l)),si low,si high,y0,y0,y0,y0,y0,y0,y0] H)=_
  rw [e,Ga _ _ _ rfl])
 clear run C st h4
 simp only [aD]at o
 have g1:eval (k8 (m+2)) (.bK .v0 "Search" "chosen_place" "Search.chosen_place" (.c .v1 .v2 .v3)) [some (.r rs),some (.bor (aA l)),si low,si high,none,none,none,none,none,none,none] H= .ok (.i i) H:=(QL (ws:= [.bor (aA l),.i low,.i high]) w.se rfl rfl (by simp_all [])).trans ec
 have g2:eval (k8 (m+2)) (.bK .v0 "Search" "told_of_case" "Search.told_of_case" (.c .v1 (.bin .bor .v2 .v5) .v3)) (gk rs l low high i none none none none none) H= .ok (.v P) H:=(QL (ws:= [.bor (aA l),.i (low ||| 2 ^ i),.i high]) w.se rfl rfl (by simp_all [Jo,xn,ag])).trans c1
 have g3:eval (k8 (m+2)) (.bK .v0 "Search" "told_of_case" "Search.told_of_case" (.c .v1 .v2 (.bin .band .v3 (.inv .v5)))) (gk rs l low high i (sv P) none none none none) H= .ok (.v a2) H:=(QL (ws:= [.bor (aA l),.i low,.i (high-(high &&& 2 ^ i))]) w.se rfl rfl (by simp_all [jc,qM,ag])).trans c2
 generalize E.bK _ _ _ _ _=X1 at g1 o
 generalize E.bK _ _ _ _ _=X2 at g2 o
 generalize E.bK _ _ _ _ _=X3 at g3 o
 have B: ∀X,execs (k8 (m+2)) (.cons (.af 4 X1) (.cons (.af 5 (.bin .shl (.int 1) .v4)) (.cons (.af 6 X2) X))) [k0 (.r rs),k0 (.bor (aA l)),si low,si high,y0,y0,y0,y0,y0,y0,y0] H=execs (k8 (m+2)) X (gk rs l low high i (sv P) y0 y0 y0 y0) H:=λX=>by
  have e1:=uH i (by lia)
  rw [za (τ1:= [k0 (.r rs),k0 (.bor (aA l)),si low,si high,si i,y0,y0,y0,y0,y0,y0]) (h1:=H) (by simp_all [g1]),
   za (τ1:=gk rs l low high i y0 y0 y0 y0 y0) (h1:=H) (by simp_all [e1,ag]),za (τ1:=gk rs l low high i (sv P) y0 y0 y0 y0) (h1:=H) (by simp_all [g2])]
 rcases A1 with V | ⟨z,rfl,N⟩
 .refine⟨P,n1,gp.of (uB _ _) (Sub.eA _) V,o _ ?_⟩
  obtain⟨c,_,_,_,rfl,_⟩:=V
  rw [B]
  generalize E.bK _ _ _ _ _=Y
  exact zf (by simp_all [aa,jf,Xa,ag];rfl) rfl
 obtain⟨b,Wb,Wl⟩:=walk g I N.pp k N.dp low high A M
 have e1:=Wb (m+2) rc H (by lia) w.cs
 have g4:eval (k8 (m+2)) (.bK (.aJ .v0 "Search" "cases") "Cases" "is_shown" "Cases.is_shown" (.c (.ix .v6 (.int 1)) .v2 .v3)) (gk rs l low high i (some (.t [.str Jd,z])) none none none none) H= .ok (.b b) H:=(yH (ws:= [.v z,.i low,.i high]) (qm w.se rfl rfl) w.cs rfl (by simp_all [aa,show aP [D.str Jd,z] 1=some z from rfl,ag])).trans e1
 generalize E.bK _ _ _ _ _=Y at g4 o
 have tt:Gm (k8 (m+2)) (.or (.cmp .eq (.ix .v6 (.int 0)) (.str fB)) Y) (gk rs l low high i (k0 (.t [.str Jd,z])) y0 y0 y0 y0) H= .ok b H:=by
  simp_all [aa,jf,Xa,ag,show(Jd== fB)=k9 from rfl,g4]
 cases b with
 | true=>
  refine⟨_,n1,.inr ⟨z,rfl,GP.up ⟨N.pp,N.dp,Wl rfl⟩ (Ag4 k)⟩,o _ ?_⟩
  rw [B]
  exact zf tt rfl
 | false=>
  rcases A2 with V | ⟨J,rfl,P2⟩
  .refine⟨a2,n2,gp.of (Sub.eA _) (uc _ _) V,o _ ?_⟩
   obtain⟨c,_,_,_,rfl,_⟩:=V
   rw [B,xa tt,za (τ1:=gk rs l low high i (k0 (.t [.str Jd,z])) (k0 (.t [.str Jf,(wo n K T c).aT])) y0 y0 y0) (h1:=H) (by simp_all [g3])]
   exact zf (by simp_all [aa,jf,Xa,ag];rfl) rfl
  .obtain⟨⟨t,x,y⟩,hp⟩: ∃p,(bQ n K T)[i]? =k0 p:=⟨_,Aa4 (by rw [wG];exact G)⟩
   refine⟨.tup [.str Jd,.tup [.str Xj,.str t,.n x,.n y,z,J]],by simp [N.pp.nr,P2.pp.nr],.inr ⟨_,rfl,GP.dN g hp hb lb N P2⟩,o _ ?_⟩
   have at1:aP ((bQ n K T).map bL) (i:Int)=k0 (.tup [.str t,.n x,.n y]):=by
    rw [Zd _ _ (by rw [Aa,wG];exact G),Ac,hp]
    rfl
   have g5:eval (k8 (m+2)) (.aJ (.aJ .v0 "Search" "cases") "Cases" "places") (gk rs l low high i (some (.t [.str Jd,z])) (some (.t [.str Jd,J])) none none none) H= .ok (.l ((bQ n K T).map bL)) H:=vh (qm w.se rfl rfl) w.cs rfl
   generalize E.aJ _ _ _=Z at g5 ⊢
   rw [B,xa tt,za (τ1:=gk rs l low high i (k0 (.t [.str Jd,z])) (k0 (.t [.str Jd,J])) y0 y0 y0) (h1:=H) (by simp_all [g3]),xa (by simp_all [aa,jf,Xa,ag,show(Jd== fB)=k9 from rfl])]
   refine(za (by simp_all [g5,zr,at1,ag];rfl)).trans ?_
   exact qa (Ja rfl (by simp_all [aa,show aP [D.str Jd,z] 1=k0 z from rfl,show aP [D.str Jd,J] 1=k0 J from rfl,ag]))
theorem vG (g:bz n K T) (o: ∀s∈S,s.wf (K++T)/\s.dp<=q)(l:Se n K T S rs rc H): ∀ k low high m i,oc n K T low high<=k->k<80->Sub low high->low<2 ^ bN n K T->high<2 ^ bN n K T->(∀ j∈i,j<S.length)->i.length<=500->(∀ j,j<S.length->j∉i->Tr n K T S low high j)->2*k+q+22<=m-> ∃a,Gd a=u0/\gp n K T S q (k+1) low high a/\call prog m "Search.told_of_case" [.r rs,.bor (aA i),.i low,.i high] H= .ok (.v a) H
 | 0,low,high,m,i,B,u,sub,h,f,r,p,tr,A=>by
  obtain⟨m,rfl⟩: ∃x,m=x+4:=⟨m-4,by lia⟩
  exact yu g o l (λ_ _ _ z=>absurd z (by lia)) (by lia) sub h f r p tr (by lia)
 | k+1,low,high,m,i,B,u,sub,h,f,r,p,tr,A=>by
  obtain⟨m,rfl⟩: ∃x,m=x+4:=⟨m-4,by lia⟩
  exact yu g o l (λv y t z w a b c d e=>vG g o l k v y (m+2) t (by lia) (by lia) w a b c d e (by lia)) (by lia) sub h f r p tr (by lia)
end
section
variable {n q:Nat}{K T:List Tx}{S:List Sy}
def LD (h:w<2 ^ b):Sub w (2 ^ b-1):=λk z=>by
 rw [Ag3,decide_eq_true_eq]
 refine Nat.lt_of_not_le λl=> ?_
 rw [Ai8 (Ab3 h (Ad0 (by decide) l))]at z
 cases z
def ue (w):Sub 0 w:=λk z=>by rw [Af9]at z;cases z
def AI (g:bz n K T) (k: ∀s∈S,s.wf (K++T)/\s.dp<=q) (r:S.length<=100)(b:Se n K T S rs rc H) (t:q+34<=m): ∃a,Gd a=u0/\gp n K T S q 7 0 (2 ^ bN n K T-1) a/\call prog (m+1) "Search.told_of_sayings" [.r rs,.bor (aA (List.range S.length))] H= .ok (.v a) H:=by
 have l:bN n K T<=6:=g.b6
 have p:=Ad4 (bN n K T)
 obtain⟨a,f,A,e⟩:=vG g k b 6 0 (2 ^ bN n K T-1) m _ (Ab5 IT l) (by decide) (ue _) p (by lia) (λj c=>Ab4.mp c) (by rw [Ae9];lia) (λj c o=>absurd (Ab4.mpr c) o) (by lia)
 refine⟨a,f,A,?_⟩
 rw [Gb rfl _ _ _ rfl]
 show Gw _ (execs _ _ [k0 _,k0 _] H)=_
 simp only [Jg]
 have d:eval (k8 m) (.aJ (.aJ .v0 "Search" "cases") "Cases" "whole") [some _,some (.bor (aA (List.range S.length)))] H= .ok _ H:=vh (qm b.se rfl rfl) b.cs rfl
 generalize E.aJ _ _ _=Z at d ⊢
 have h:=QL (F:=(k8 m)) (τ:= [k0 _,k0 (.bor (aA (List.range S.length)))]) (i:=0) (m:= "told_of_case") (q:= "Search.told_of_case") (es:= .cons .v1 (.cons (.int 0) (.cons Z .nil))) (ws:= [.bor _,.i (0),.i _]) b.se rfl rfl (by simp_all [d];rfl)
 rw [qa (Ja rfl (h.trans e)),Ga _ _ _ rfl]
def rh (xs ys) (h) (a:xs.length+ys.length<=100):GU .add (.t xs) (.t ys) h= .ok (.t (xs++ys)) h:=by
 rw [r6,if_pos (by rw [Gg];lia)]
def Wp (p:Gu h=u0) (a:Gu h'=u0):Gu (h++h')=true:=by
 rw [Gu,List.all_append,show h.all Cell.pure=u0 from p,show h'.all Cell.pure=u0 from a]
 rfl
def W6 (a:Gd d=u0) (b:Gu h=u0):Gw h.length (.ret (.v d) (h++h'))= .ok (.v d) h:=by
 have e:(h++h').take h.length=h:=List.take_left' rfl
 obtain⟨x,e1,e2⟩:=me (n:=h.length) (h:=h++h') a (by simp) (by rw [e];exact b)
 rw [e1,e2,e]
def Mj (g:bz n K T) (f: ∀s∈S,s.wf (K++T)/\s.dp<=q) (b:S.length<=100) (j:q<=14)(l:Gu h=u0) (t:q+35<=m): ∃a,Gd a=u0/\gp n K T S q 7 0 (2 ^ bN n K T-1) a/\call prog (m+1) "found" [.v (aG K T S),.i n] h= .ok (.v a) h:=by
 obtain⟨k,rfl⟩:=nk m 5 (by lia)
 have c:Se n K T S h.length (h.length+1) (h++ [.obj "Search" (eF n K T S (h.length+1)),.obj "Cases" (cC n K T S)]):=⟨by simp,by simp⟩
 obtain⟨a,e,A,i⟩:=AI g f b (m:=k+4) c (by lia)
 refine⟨a,e,A,?_⟩
 rw [Gb (d:=X7) rfl _ _ _ rfl]
 simp only [X7]
 refine fx (by simp_all [aa,Qh,ag,show List.lookup "MOST_BITS" prog.con=some (.int 16)from rfl,(Zr k g h)];rfl) ?_
 have mk:eval (k8 (k+5)) (.make "Search" "Search.__init__" (.b .v0 .v1)) [sv (aG K T S),si n] h= .ok (.r h.length) (h++ [.obj "Search" (eF n K T S (h.length+1)),.obj "Cases" (cC n K T S)]):=by
  simp_all [(LW (k+4) g f b (by lia) j h),ag]
 have p:(0:Int)<=(S.length:Int)/\(S.length:Int)<=1000:=by lia
 have r:Gf (k8 (k+5)) (.a (.b4 (.bi .len (.a (.ix .v0 (.int 1)))))) [sv (aG K T S),si n] (h++ [.obj "Search" (eF n K T S (h.length+1)),.obj "Cases" (cC n K T S)])= .ok [.own (aA (List.range S.length))] (h++ [.obj "Search" (eF n K T S (h.length+1)),.obj "Cases" (cC n K T S)]):=by
  simp_all [aa,Zf,ag,Wc,Aa,p,and_self,if_true,Ad5]
 generalize E.make _ _ _=Z at mk ⊢
 have o:eval (k8 (k+5)) (.bK Z "Search" "told_of_sayings" "Search.told_of_sayings" (.a (.b4 (.bi .len (.a (.ix .v0 (.int 1))))))) [sv (aG K T S),si n] h= .ok (.v a) (h++ [.obj "Search" (eF n K T S (h.length+1)),.obj "Cases" (cC n K T S)]):=by
  rw [eval,mk,R.ae]
  simp only [Jq c.se]
  rw [if_pos ⟨trivial,rfl⟩,r,R.ae]
  exact i
 rw [qa (Ja rfl o),W6 e l]
def oe (k) (a:S.length<=11) (h):call prog (k+1) "check_room" [.v (aG K T S)] h= .ok (.v .au) h:=by
 rw [Gb rfl _ _ _ rfl]
 simp only [WE]
 have c:Gq .ge (.i S.length) (.v (.int 12)) h=k0 false:=by
  show k0 _=_
  rw [decide_eq_false (by lia)]
 rw [xa (by simp_all [aa,Zf,Wc,List.length_map,show List.lookup "MOST_SAYINGS" prog.con=some (.int 12)from rfl,c]),execs]
 exact Gz _ _ _ rfl
def Br (g:bz n K T)(i: ∀s∈S++ [Sy.neg x],s.wf (K++T)/\s.dp<=q) (c:S.length<=11) (e:q<=14)(l:Gu h=u0) (o:q+36<=m): ∃a,Gd a=u0/\gp n K T (S++ [Sy.neg x]) q 7 0 (2 ^ bN n K T-1) a/\call prog (m+1) "follows" [.v (aG K T S),.i n,.v (az x)] h= .ok (.v a) h:=by
 obtain⟨k,rfl⟩:=nk m 5 (by lia)
 have e1:=Zr k g h
 obtain⟨a,f,A,b⟩:=Mj g i (by rw [Aa6];simp;lia) e (m:=k+4) l (by lia)
 refine⟨a,f,A,?_⟩
 rw [Gb (d:=WL) rfl _ _ _ rfl]
 simp only [WL]
 have e2:=oe (K:=K) (T:=T) (S:=S) (k+4) c h
 have j:=rh (S.map az) [az (.neg x)] h (by simp;lia)
 refine fx (by simp_all [];rfl) ?_
 refine fx (by simp_all [ag,show List.lookup "MOST_BITS" prog.con=some (.int 16)from rfl,e1];rfl) ?_
 refine fx (by simp_all [e2];rfl) ?_
 have b:call prog (k+5) "found" [.t [wD K T,.tup (S.map az++ [az (.neg x)])],.i n] h= .ok (.v a) h:=by
  rw [aG,Ae0]at b
  exact b
 rw [qa (w:= .v a) (h1:=h) (Ja rfl (by
  simp_all [ag,j,show D.tup [.str eP,az x]=az (.neg x)from rfl,b])),Ga _ _ _ rfl]
end
section
variable {n q:Nat}{K T:List Tx}{S:List Sy}
abbrev iC (K T:List Tx) (n:Nat) (w:D) (x3 a x5:Option W):Sl:= [sv (wD K T),si n,sv w,x3,a,x5]
theorem rg (a:n<=4) (b:i=0/\e=n\/i=1/\e=n*n): ∀ l x,(∀ y∈l,y<2 ^ e)-> ∃j,Gp (Gr [5] u0) (λτ h=>execs (k8 (m+1)) Wj τ h) (aA l) (iC K T n w (si i) x4 x) h= .next (iC K T n w (si i) x4 j) h
 | [],x,_=>⟨x,rfl⟩
 | y::l,x,c=>by
  obtain⟨j,e2⟩:=rg a b l (si y) λz o=>c z (Aa2 _ o)
  refine⟨j,?_⟩
  have g:=Af5 a a
  rw [aA,Ab2,zb (τ1:=iC K T n w (si i) x4 (si y)) rfl ?_]
  .exact e2
  have e1:=Zn m (.n y) h rfl
  have f:=je n n (by lia)
  have q:=uH e (by lia)
  have d:eval (k8 (m+1)) (.ix (.lst (.b .v1 (.bin .mul .v1 .v1))) .v3) (iC K T n w (si i) x4 (si y)) h= .ok (.i e) h:=by
   rcases b with⟨rfl,rfl⟩ | ⟨rfl,rfl⟩
   .simp_all [f,ag]
    rfl
   .simp_all [f,ag]
    rfl
  have p:Gq .le (.v (.int 0)) (.i y) h=k0 true:=by
   show k0 (u9 (0<= y))=_
   rw [decide_eq_true (by lia)]
  have k:Gq .lt (.i y) (.i (2 ^ e)) h=k0 true:=by
   show k0 (u9 (y<((2 ^ e:Nat):Int)))=_
   rw [decide_eq_true (Int.ofNat_lt.mpr (c y Aa5))]
  unfold Wj
  generalize E.ix _ _=X at d ⊢
  rw [xa (by simp_all [e1,ag,Qr,p,d,q,k]),execs]
def yR {m i e:Nat}(o:n<=4) (b:i=0/\e=n\/i=1/\e=n*n) (l) (N:List Tx) (c: ∀y∈l,y<2 ^ e) (g:aP [x,y,z] (1+(i:Int))=k0 (.tup (aA l))) (d:aP [D.tup (K.map .str),.tup (T.map .str)] (i:Int)=k0 (.tup (N.map .str))) (k:l.length=N.length): ∃j L,execs (k8 (m+1)) jr (iC K T n (.tup [x,y,z]) (si i) x4 x5) h= .next (iC K T n (.tup [x,y,z]) (si i) j L) h:=by
 obtain⟨f,e2⟩:=rg o b l x5 c
 refine⟨k0 (.t (aA l)),f,?_⟩
 refine(za (by simp_all [Jc,aa,g,ag];rfl)).trans ?_
 rw [xa (by
  have a:bZ .tuple (.t (aA l))=k0 true:=rfl
  have nn:Gq .ne (.i l.length) (.i N.length) h=k0 false:=by
   rw [k]
   show k0 (!(decide _))=_
   rw [decide_eq_true rfl]
   rfl
  simp_all [a,Wc,Aa,aa,d,nn])]
 rw [za (by
  exact e2),execs]
def Lm (g:bz n K T) (m c) (h):call prog (m+2) "_law_is_world" [.v (wD K T),.i n,.v (wo n K T c).aT] h= .ok (.b true) h:=by
 have ok:=(g.wo c).wl
 obtain⟨i,j,e1⟩:=yR g.n4 (.inl ⟨rfl,rfl⟩) (wo n K T c).ks K ok.bk rfl rfl ok.lk
 obtain⟨a2,k,e2⟩:=yR g.n4 (.inr ⟨rfl,rfl⟩) (wo n K T c).ts T ok.bt rfl rfl ok.lt
 have d:=Zn m (.n n) h rfl
 rw [Gb rfl _ _ _ rfl]
 show Gw _ (execs _ _ (iC K T n (.tup [.n n,.tup _,.tup _]) y0 y0 y0) h)=_
 simp only [xw]
 rw [xa (by
  have a:bZ .tuple (.t [.n n,.tup (aA (wo n K T c).ks),.tup (aA (wo n K T c).ts)])=k0 true:=rfl
  have f:Gq .ne (.i (3)) (.v (.int 3)) h=k0 false:=rfl
  have e:Gq .ne (.i n) (.i n) h=k0 false:=by
   show k0 (!(decide _))=_
   rw [decide_eq_true rfl]
   rfl
  simp_all [a,ag,Wc,Aa8,Ad3,f,aa,CN,e,d,Qr])]
 rw [za (by
  rw [exec,show Gs (k8 _) _ _ h= .ok [.n (0),.n (1)] h by(have b: -(fL)<= 2/\ 2<fL:=by rw [GQ];lia);simp_all [b,and_self,if_true];rfl,R.ar]
  rw [zb rfl e1]
  rw [zb rfl e2,jM])]
 rw [qa rfl,Ga _ _ _ rfl]
end
def bz.le (g:bz n K T) (h:m<=n):bz m K T:=⟨Ab5 h g.n4,g.k4,g.t4,Ab5 (Nat.add_le_add (Nat.mul_le_mul_left _ h) (Nat.mul_le_mul_left _ (Af5 h h))) g.b6,g.nd,g.l8⟩
abbrev Ix:=Nat×Nat×Nat
def d3 (P:Ix->D->Prop):List Ix->List D->Prop
 | [],[]=>True
 | x::xs,d::ds=>P x d/\d3 P xs ds
 | _,_=>False
theorem d3.app : ∀ {xs ys}{ds es},d3 P xs ds->d3 P ys es->d3 P (xs++ys) (ds++es)
 | [],_,[],_,_,k=>k
 | _::_,_,_::_,_,h,k=>⟨h.1,h.2.app k⟩
theorem d3.len : ∀ {xs}{ds},d3 P xs ds->ds.length=xs.length
 | [],[],_=>rfl
 | _::_,_::_,h=>congrArg (· +1) h.2.len
theorem d3.get : ∀ {xs}{ds}{k:Nat}{x},d3 P xs ds->xs[k]? =k0 x-> ∃d,ds[k]? =k0 d/\P x d
 | _::_,d::_,0,_,h,e=>by cases e;exact⟨d,rfl,h.1⟩
 | _::_,_::_,k+1,_,h,e=>h.2.get e
def sd (A B:List Sy) (i:Nat):List Sy:=if i=0 then A else B
section
variable {K T:List Tx}{A B:List Sy}{m q:Nat}{H:AH}
def gQ (K T:List Tx) (A B:List Sy) (q:Nat) (x:Ix) (d:D):Prop:= ∃(y:Sy) (p:D),(sd A B x.2.1)[x.2.2]? =k0 y/\d= .tup [.n x.1,.n x.2.1,.n x.2.2,p]/\GP x.1 K T (sd B A x.2.1++ [Sy.neg y]) q 7 p 0 (2 ^ bN x.1 K T-1)
def ie (K T:List Tx) (A B:List Sy) (m:Nat) (a:D):Prop:= ∃(s c i:Nat) (y:Sy),s<=m/\i<2/\a= .tup [.str Jf,(wo s K T c).aT,.n (1-i)]/\c<2 ^ bN s K T/\y∈sd A B i/\ ∀z∈sd B A i++ [Sy.neg y],Td (wo s K T c) (wo s K T c) z (k0 u0)
abbrev iI (K T:List Tx) (A B:List Sy) (m r:Nat) (x5 a x7 x8 x9 x10:Option W):Sl:= [sv (aG K T A),sv (aG K T B),si m,sv (.tup [aG K T A,aG K T B]),k0 (.r r),x5,a,x7,x8,x9,x10]
def Rs (K T:List Tx) (A B:List Sy) (m q:Nat) (H:AH) (st:Sl->Prop) (ix:List Ix) (ds:List D) (o:O):Prop:=(∃ a H',o= .ret (.v a) (H++H')/\Gd a=u0/\ie K T A B m a)\/ ∃τ es,o= .next τ (H++ [.lst (ds++es)])/\st τ/\d3 (gQ K T A B q) ix es
def Rs.up (h: ∀τ,st τ->st' τ):Rs K T A B m q H st ix ds o->Rs K T A B m q H st' ix ds o
 | .inl z=> .inl z
 | .inr ⟨τ,d,a,b,c⟩=> .inr ⟨τ,d,a,h τ b,c⟩
theorem Rs.loop : ∀(L:List α),(∀ a∈L,∀τ ds,st τ->ds.length+(ixf a).length<=1000-> ∃τ1,bnd (e a) τ=k0 τ1/\Rs K T A B m q H st (ixf a) ds (body τ1 (H++ [.lst ds])))-> ∀τ ds,st τ->ds.length+(L.flatMap ixf).length<=1000->Rs K T A B m q H st (L.flatMap ixf) ds (Gp bnd body (L.map e) τ (H++ [.lst ds]))
 | [],_,τ,ds,h,_=> .inr ⟨τ,[],by rw [Ae3];rfl,h,trivial⟩
 | a::L,step,τ,ds,h,n=>by
  rw [Ag0,Aa6]at n
  obtain⟨τ1,e1,s⟩:=step a Aa5 τ ds h (by lia)
  rw [Ab2,JN,e1]
  rcases s with⟨x,d,e2,z⟩ | ⟨f,j,e2,l,k⟩
  .exact .inl ⟨x,d,by simp only [e2],z⟩
  have R2:=Rs.loop L (λb r=>step b (Aa2 _ r)) f (ds++j) l (by rw [Aa6,k.len];lia)
  simp only [e2]
  rcases R2 with⟨x,d,c,z⟩ | ⟨g,i,c,o,p⟩
  .exact .inl ⟨x,d,c,z⟩
  .exact .inr ⟨g,j++i,by rw [c,Ae],o,by rw [Ag0];exact k.app p⟩
theorem Rs.for {F:Fx}{f:Type}{e:f->D}{c:f->List Ix}{st:Sl->Prop}{L:List f}{g:List Nat}{one:Bool}{it:It}{b:Ss}{τ:Sl}{ds:List D}(i:Gs F it τ (H++ [.lst ds])= .ok (L.map e) (H++ [.lst ds])) (step: ∀a∈L,∀τ ds,st τ->ds.length+(c a).length<=1000-> ∃τ1,Gr g one (e a) τ=k0 τ1/\Rs K T A B m q H st (c a) ds (execs F b τ1 (H++ [.lst ds]))) (d:st τ) (h:ds.length+(L.flatMap c).length<=1000):Rs K T A B m q H st (L.flatMap c) ds (exec F (.for g one it b) τ (H++ [.lst ds])):=by
 rw [exec,i,R.ar]
 exact Rs.loop L step τ ds d h
def Rs.one (r:Rs K T A B m q H st ix ds (exec F s τ h)):Rs K T A B m q H st ix ds (execs F (.cons s .nil) τ h):=by
 rw [execs]
 obtain⟨a,c,e,z⟩ | ⟨b,d,e,z⟩:=r
 .exact .inl ⟨a,c,by rw [e,O.bM],z⟩
 .exact .inr ⟨b,d,by rw [e,O.bx,execs],z⟩
def mK (h:Gd (.tup [.str s,d])=u0):Gd d=true:=by simpa using h
theorem sj: ∀(L) (k),GY k L=(L.zipIdx k).map λp=> .tup [.n p.2,p.1]
 | [],_=>rfl
 | d::L,k=>by rw [GY,sj L (k+1)];rfl
abbrev S1 (K T:List Tx) (A B:List Sy) (m r s i:Nat) (τ:Sl):Prop:= ∃b d c a,τ=iI K T A B m r (si s) (si i) b d c a
def Ia (g:bz m K T)(r:s<=m) (t:i<2) (d: ∀z∈A++B,z.wf (K++T)/\z.dp<=11) (O:A.length<=2) (J:B.length<=2) (C:Gu H=u0)(N:49<=f)(j:(sd A B i)[k]? =k0 y)(I:ds.length+1<=1000):
 Rs K T A B m 12 H (S1 K T A B m H.length s i) [(s,i,k)] ds (execs (k8 f) Zh (iI K T A B m H.length (si s) (si i) (si k) (sv (az y)) x9 x10) (H++ [.lst ds])):=by
 have D:=g.le r
 obtain⟨f,rfl⟩:=nk f 1 (by lia)
 have v: ∀z∈sd A B i,z∈A++B:=λz b=>by unfold sd at b;split at b<;>simp [b]
 have n: ∀z∈sd B A i,z∈A++B:=λz b=>by unfold sd at b;split at b<;>simp [b]
 have M:(sd B A i).length<=2:=by unfold sd;split<;>assumption
 have l:=v y (Ac4 j)
 have e: ∀z∈sd B A i++ [Sy.neg y],z.wf _/\z.dp<=12:=λz b=>by
  rcases Ac8.mp b with b | b
  .exact⟨(d z (n z b)).1,by have:=(d z (n z b)).2;lia⟩
  .rw [Ac3.mp b]
   exact⟨(d y l).1,by rw [Sy.dp];have:=(d y l).2;lia⟩
 obtain⟨a,o,w,e1⟩:=Br (h:=H++ [.lst ds]) (m:=f) D e (by lia) (by decide) (Wp C rfl) (by lia)
 have q:c9 (.v (.tup [aG K T A,aG K T B])) (.v (.int ((1:Int)-(i:Int)))) (H++ [.lst ds])=k0 (aG K T (sd B A i)):=by
  obtain rfl | rfl:i=0\/i=1:=by lia
  .rfl
  .rfl
 have i1:((1:Int)-(i:Int))=((1-i:Nat):Int):=by lia
 unfold Zh
 rcases w with⟨c,_,_,F,rfl,u⟩ | ⟨p,rfl,P⟩
 .refine .inl ⟨.tup [.str Jf,(wo s K T c).aT,.n (1-i)],[.lst ds],?_,?_,s,c,i,y,r,t,rfl,F,Ac4 j,u⟩
  .refine(za (by simp_all [zd,q,ag,e1];rfl)).trans ?_
   exact zf (by simp_all [Xa,ag,show(Jf== fB)=u0 from rfl]) (Ja rfl (by simp_all [zd,ag,i1]))
  .have:=mK o
   simp [this]
 .refine .inr ⟨_,[.tup [.n s,.n i,.n k,p]],?_,⟨si k,sv (az y),k0 (.s Jd),sv p,rfl⟩,⟨y,p,j,rfl,P⟩,trivial⟩
  refine(za (by simp_all [zd,q,ag,e1];rfl)).trans ?_
  rw [xa (by simp_all [Xa,ag,show(Jd== fB)=k9 from rfl])]
  have L:GF (H++ [.lst ds]) (k0 (.r H.length))=k0 (H.length,ds):=by simp [GF]
  have E:Gd (.tup [.n s,.n i,.n k,p])=true:=by simp [mK o]
  have G:ds.length<bf/\Gd (.tup [.n s,.n i,.n k,p])=true:=⟨by rw [Gg];lia,E⟩
  have x:(H++ [Cell.lst ds]).set H.length (.lst (ds++ [.tup [.n s,.n i,.n k,p]]))=H++ [.lst (ds++ [.tup [.n s,.n i,.n k,p]])]:=by
   rw [An2 _ _ (Aa7 _),Am3];rfl
  rw [za (τ1:=iI K T A B m H.length (si s) (si i) (si k) (sv (az y)) (k0 (.s Jd)) (sv p)) (h1:=H++ [.lst (ds++ [.tup [.n s,.n i,.n k,p]])]) (by simp_all [L,ag,W.lN,G,and_self,if_true,x]),execs]
end
section
variable {K T:List Tx}{A B:List Sy}{m q:Nat}{H:AH}
def gu (A B:List Sy) (s:Nat):List Ix:=(Aa3 2).flatMap λi=>(sd A B i).zipIdx.flatMap λp=> [(s,i,p.2)]
def dI (A B:List Sy) (m:Nat):List Ix:=(Aa3 (m+1)).flatMap (gu A B)
def oq (l:List Sy) (s i:Nat):(l.zipIdx.flatMap λp=> [(s,i,p.2)])=(Aa3 l.length).map λk=>(s,i,k):=by
 rw [← List.map_eq_flatMap,show(λp:Sy×Nat=>(s,i,p.2))=(λk=>(s,i,k))∘Prod.snd from rfl,←Ad1,List.zipIdx_map_snd,Aj7]
def n6 (A B) (s):gu A B s=((Aa3 A.length).map λk=>(s,0,k))++(Aa3 B.length).map λk=>(s,1,k):=by
 show((A.zipIdx.flatMap λp=> [_])++((B.zipIdx.flatMap λp=> [(s,1,p.2)])++ []))=_
 rw [Ae3,oq,oq]
def yh (a:A.length<=2) (b:B.length<=2) (s):(gu A B s).length<=4:=by
 rw [n6,Aa6,Aa,Aa,Ae9,Ae9];lia
def j6 (c:A.length<=2) (b:B.length<=2) (h:m<=4):(dI A B m).length<=1000:=by
 have: ∀l:List Nat,(l.flatMap (gu A B)).length<=4*l.length:=λl=>by
  induction l with
  | nil=>exact Ae6 _
  | cons a l d=>rw [Ag0,Aa6,Aa8];have:=yh c b a;lia
 have:=this (Aa3 (m+1))
 rw [Ae9]at this
 unfold dI
 lia
abbrev QM:Tx:= [115,97,109,101]
def Iz (K T) (h):Gq .ne (.v (wD K T)) (.v (wD K T)) h=k0 false:=by
 have a:=Xl K
 have b:=Xl T
 exact xS _ (by simp [a,b]) (by have x:=Zz D.str 0 (λ_=>Aa7 _) K;have y:=Zz D.str 0 (λ_=>Aa7 _) T;simp [wD];lia) h
def Hk (g:bz m K T) (P: ∀z∈A++B,z.wf (K++T)/\z.dp<=11) (J:A.length<=2) (F:B.length<=2) (G:Gu H=u0){f:Nat}(R:49<=f):(∃ a,ie K T A B m a/\call prog (f+1) "same_or_parted" [.v (aG K T A),.v (aG K T B),.i m] H= .ok (.v a) H)\/ ∃ds,d3 (gQ K T A B 12) (dI A B m) ds/\call prog (f+1) "same_or_parted" [.v (aG K T A),.v (aG K T B),.i m] H= .ok (.v (.tup [.str QM,.ref H.length])) (H++ [.lst ds]):=by
 have in1: ∀ {s i:Nat},s<=m->i<2-> ∀ {j ds},S1 K T A B m H.length s i j->ds.length+((sd A B i).zipIdx.flatMap λp=> [(s,i,p.2)]).length<=1000->Rs K T A B m 12 H (S1 K T A B m H.length s i) ((sd A B i).zipIdx.flatMap λp=> [(s,i,p.2)]) ds (execs (k8 f) Xn j (H++ [.lst ds])):=by
  intro s i y u j ds c r
  refine Rs.one (Rs.for (e:=λp:Sy×Nat=>D.tup [.n p.2,az p.1]) ?_ (λp C j ds c r=> ?_) c r)
  .obtain⟨l,n,q,b,rfl⟩:=c
   have Q:c9 (.v (.tup [aG K T A,aG K T B])) (.i i) (H++ [.lst ds])=k0 (aG K T (sd A B i)):=by
    obtain rfl | rfl:i=0\/i=1:=by lia
    .rfl
    .rfl
   have e:GY 0 ((sd A B i).map az)=(sd A B i).zipIdx.map λp=>D.tup [.n p.2,az p.1]:=by
    rw [sj,List.zipIdx_map,Ad1];rfl
   simp_all [Q,ag,aa,Zf,e]
  .obtain⟨l,n,q,b,rfl⟩:=c
   exact⟨_,rfl,Ia g y u P J F G R (List.mem_zipIdx_iff_getElem?.mp C) r⟩
 have n4:=g.n4
 obtain⟨k,rfl⟩:=nk f 5 (by lia)
 have L:Rs K T A B m 12 H (λj=> ∃E t l n q b,j=iI K T A B m H.length E t l n q b) (dI A B m) [] (exec (k8 (k+5)) (.for [5] u0 (.aj (.bin .add .v2 (.int 1))) jh) (iI K T A B m H.length y0 y0 y0 y0 y0 y0) (H++ [.lst []])):=by
  refine Rs.for (e:=λi:Nat=>D.n i) (by
   show Gk _ _ _ _=_
   exact xj (m:=m+1) (by simp_all [Jc,ag];rfl) (by lia)) (λs y j ds c r=> ?_) ⟨_,_,_,_,_,_,rfl⟩ (by have:=j6 J F n4;simpa [dI]using this)
  obtain⟨E,t,l,n,q,b,rfl⟩:=c
  have:=Ab4.mp y
  refine⟨_,rfl,Rs.up (st:=λj=> ∃t l n q b,j=iI K T A B m H.length (si s) t l n q b) (λj ⟨t,l,n,q,b,e⟩=>⟨_,_,_,_,_,_,e⟩) (Rs.one (Rs.for (e:=λi:Nat=>D.n i) (by
   show Gk _ _ _ _=_
   exact xj (m:=2) rfl (by decide)) (λi u j ds c r=> ?_) ⟨_,_,_,_,_,rfl⟩ r))⟩
  obtain⟨t,l,n,q,b,rfl⟩:=c
  exact⟨_,rfl,(in1 (by lia) (Ab4.mp u) ⟨l,n,q,b,rfl⟩ r).up λj ⟨l,n,q,b,e⟩=>⟨_,_,_,_,_,e⟩⟩
 have e1:=Zr k g H
 have e2:=oe (K:=K) (T:=T) (S:=A) (k+4) (by lia) H
 have M:=oe (K:=K) (T:=T) (S:=B) (k+4) (by lia) H
 have v: ∀ {X},(∀ o,exec (k8 (k+5)) (.for [5] u0 (.aj (.bin .add .v2 (.int 1))) jh) (iI K T A B m H.length y0 y0 y0 y0 y0 y0) (H++ [.lst []])=o->Gw H.length (o.seq fun j h=>execs (k8 (k+5)) (.a (.ret (.tup (.b (.str QM) .v4)))) j h)=X)->call prog (k+5+1) "same_or_parted" [.v (aG K T A),.v (aG K T B),.i m] H=X:=fun {X} h=>by
  rw [Gb (d:=zk) rfl _ _ _ rfl]
  simp only [zk]
  refine fx (g6 (h1:=H) (by simp_all [aa,Qh,ag,Iz])) ?_
  refine fx (by simp_all [aa,Qh,ag,show List.lookup "MOST_BITS" prog.con=some (.int 16)from rfl,e1];rfl) ?_
  refine fx (by simp_all [e2];rfl) ?_
  refine fx (by simp_all [M];rfl) ?_
  refine fx (by simp_all [ag];rfl) ?_
  refine fx (by simp_all [ag,Gc,if_true];rfl) ?_
  rw [execs]
  exact h _ rfl
 rcases L with⟨a,V,e,N,z⟩ | ⟨U,I,e,⟨E,t,l,n,q,b,rfl⟩,z⟩
 .refine .inl ⟨a,z,v λo x=> ?_⟩
  rw [← x,e,O.bM,W6 N G]
 .refine .inr ⟨I,z,v λo x=> ?_⟩
  rw [← x,e,O.bx,qa (w:= .t [.str QM,.ref H.length]) (h1:=H++ [.lst I]) (Ja rfl (by simp_all [ag]))]
  simp [Gw,fin,W.keep]
end
theorem vt {st:Sl->AH->Prop}: ∀(L:List α),(∀ a∈L,∀τ h,st τ h-> ∃τ1 i h2,bnd (e a) τ=k0 τ1/\body τ1 h= .next i h2/\st i h2)-> ∀τ h,st τ h-> ∃j h',Gp bnd body (L.map e) τ h= .next j h'/\st j h'
 | [],_,τ,h,z=>⟨τ,h,rfl,z⟩
 | a::L,step,τ,h,z=>by
  obtain⟨τ1,i,h2,e1,e2,g⟩:=step a Aa5 τ h z
  obtain⟨j,h',c,d⟩:=vt L (λb f=>step b (Aa2 _ f)) i h2 g
  exact⟨j,h',by rw [Ab2,zb e1 e2,c],d⟩
def MQ (e:h[r]? =k0 (.lst xs)):dC .len [.r r] h=ag (.int xs.length) h:=by
 show(R.of h _).bind _=_
 rw [show (W.r r).seq? h=k0 xs by simp [W.seq?,e]];rfl
section
variable {K T:List Tx}{A B:List Sy}{m q:Nat}{H:AH}
abbrev eg (K T:List Tx) (A B:List Sy) (m r:Nat) (b x5 a x7 x8 x9 x10:Option W):Sl:= [sv (aG K T A),sv (aG K T B),si m,k0 (.r r),b,x5,a,x7,x8,x9,x10]
def Ik (l:A.length<=2) (j:B.length<=2)(i:L.length<=100):execs (k8 f) Xe (eg K T A B m r (k0 (.l (L.map cq))) (si s) x6 x7 x8 x9 x10) H= .next (eg K T A B m r (k0 (.l ((L++gu A B s).map cq))) (si s) x6 x7 x8 x9 x10) H:=by
 have e:eval (k8 f) We (eg K T A B m r (k0 (.l (L.map cq))) (si s) x6 x7 x8 x9 x10) H= .ok (.own ((Aa3 A.length).map λk=>cq (s,0,k))) H:=by
  unfold We
  exact wn (λk=>cq _) (by simp_all [aa,Zf,ag,Wc,Aa]) (by lia) λk g=>⟨.v _,by simp_all [ag];rfl,rfl⟩
 have c:eval (k8 f) we (eg K T A B m r (k0 (.l ((L++(Aa3 A.length).map λk=>(s,0,k)).map cq))) (si s) x6 x7 x8 x9 x10) H= .ok (.own ((Aa3 B.length).map λk=>cq (s,1,k))) H:=by
  unfold we
  exact wn (λk=>cq _) (by simp_all [aa,Zf,ag,Wc,Aa]) (by lia) λk g=>⟨.v _,by simp_all [ag];rfl,rfl⟩
 have d: ∀(X:List Ix) b,X.length+b.length<=1000->GU .add (.l (X.map cq)) (.own b) H= .ok _ H:=λX b h=>by
  rw [IX,if_pos (by rw [Gg,Aa];lia)]
 unfold Xe
 rw [za (τ1:=eg K T A B m r (k0 (.l ((L++(Aa3 A.length).map λk=>(s,0,k)).map cq))) (si s) x6 x7 x8 x9 x10) (h1:=H) (by
  rw [Ae0,Ad1]
  have a:=d L ((Aa3 A.length).map λk=>cq (s,0,k)) (by simp;lia)
  generalize We=X at e ⊢
  simp_all [e,a,W.dP];rfl)]
 rw [za (τ1:=eg K T A B m r (k0 (.l ((L++gu A B s).map cq))) (si s) x6 x7 x8 x9 x10) (h1:=H) (by
  rw [n6,←Ae,Ae0 (l₂:=(Aa3 B.length).map λk=>(s,1,k)),Ad1 (f:=λk=>(s,1,k))]
  have a:=d (L++(Aa3 A.length).map λk=>(s,0,k)) ((Aa3 B.length).map λk=>cq (s,1,k)) (by simp;lia)
  generalize we=X at c ⊢
  simp_all [c,a,W.dP];rfl),execs]
theorem yZ (d:A.length<=2) (b:B.length<=2): ∀ c j x5,j+c<=5-> ∃L,Gp (Gr [5] u0) (λτ h=>execs (k8 f) Xe τ h) ((Al7 j c).map λi=>D.n i) (eg K T A B m r (k0 (.l (((Aa3 j).flatMap (gu A B)).map cq))) x5 y0 y0 y0 y0 y0) H= .next (eg K T A B m r (k0 (.l (((Aa3 (j+c)).flatMap (gu A B)).map cq))) L y0 y0 y0 y0 y0) H
 | 0,j,x5,_=>⟨x5,rfl⟩
 | c+1,j,x5,h=>by
  obtain⟨L,e⟩:=yZ d b c (j+1) (si j) (by lia)
  have g:((Aa3 j).flatMap (gu A B)).length<=100:=by
   have: ∀l:List Nat,(l.flatMap (gu A B)).length<=4*l.length:=λl=>by
    induction l with
    | nil=>exact Ae6 _
    | cons a l k=>rw [Ag0,Aa6,Aa8];have:=yh d b a;lia
   have:=this (Aa3 j)
   rw [Ae9]at this
   lia
  refine⟨L,?_⟩
  rw [Al2,Ab2,zb rfl (Ik d b g)]
  rw [An3,List.flatMap_append,List.flatMap_singleton,show j+1+c=j+(c+1)by lia]at e
  exact e
def MJ (g:bz m K T) (hS: ∀z∈A++B,z.wf (K++T)/\z.dp<=11) (lA:A.length<=2) (lB:B.length<=2) (O:Gu H=u0)(hf:40<=f)(U:H[r]? =k0 (.lst ds)){I:List Ix}(Q:s<=m) (hi:i<2) (o:I[k]? =k0 (s,i,j))(t:ds[k]? =k0 d) (Y:gQ K T A B 12 (s,i,j) d):
 ∃y7 V M L ex,execs (k8 f) Je (eg K T A B m r (k0 (.l (I.map cq))) x5 (si k) x7 x8 x9 x10) H= .next (eg K T A B m r (k0 (.l (I.map cq))) x5 (si k) y7 V M L) (H++ex)/\Gu ex=true:=by
 obtain⟨y,p,n,rfl,P⟩:=Y
 have l:=g.le Q
 obtain⟨f,rfl⟩:=nk f 2 (by lia)
 have w:k<ds.length:=(Aa0.mp t).1
 have b:k<I.length:=(Aa0.mp o).1
 have e1:c9 (.r r) (.i k) H=k0 (.tup [.n s,.n i,.n j,p]):=by rw [zu U,Zd _ _ w,t]
 have e2:aP (I.map cq) (k:Int)=k0 (.tup [.n s,.n i,.n j]):=by rw [Zd _ _ (by rw [Aa];exact b),Ac,o];rfl
 have c:cut [D.n s,D.n i,D.n j,p] y0 (k0 3)= [.n s,.n i,.n j]:=l1 _ 3
 have ne:=xS (.tup [.n s,.n i,.n j]) rfl (by show max 0 (max 0 (max 0 0))+1<150;decide) H
 have n4:Gq .ne (.i (4)) (.v (.int 4)) H=k0 false:=rfl
 have a:bZ .tuple (.t [.n s,.n i,.n j,p])=k0 true:=rfl
 have q:eval (k8 (f+2)) (.bi .all (.a qh)) (eg K T A B m r (k0 (.l (I.map cq))) x5 (si k) (k0 (.t [.n s,.n i,.n j,p])) x8 x9 x10) H= .ok (.b u0) H:=by
  refine Zv (bs:= [u0,u0,u0]) ?_
  unfold qh
  exact Z2 (λi:Nat=>D.n i) (λ_=> .bl u0) [s,i,j] (by simp_all [fq,W.de,W.dr,c,ag]) (by simp) λx _=>⟨.b u0,by
   have e:=Zn (f+1) (.n x) H rfl
   simp_all [e];rfl,rfl⟩
 have N:c9 (.own [.tup [aG K T A,aG K T B],.tup [aG K T B,aG K T A]]) (.i i) H=k0 (.tup [aG K T (sd A B i),aG K T (sd B A i)]):=by
  obtain rfl | rfl:i=0\/i=1:=by lia
  .rfl
  .rfl
 have R:j<(sd A B i).length:=(Aa0.mp n).1
 have G:aP ((sd A B i).map az) (j:Int)=k0 (az y):=by
  rw [Zd _ _ (by rw [Aa];exact R),Ac,show(sd A B i)[j]? =k0 y from n];rfl
 have C:=rh ((sd B A i).map az) [az (.neg y)] H (by
  have:(sd B A i).length<=2:=by unfold sd;split<;>assumption
  simp;lia)
 have J:=E6 f l H
 have wk:=P.wk _ _ _ (ID l (r:=H.length) (h:=H++ [.aN (aM (K++T) (fO s T))]) (by simp))
 have u:=wk.l0 (Wp O rfl) (f+2) (by lia)
 have F:aP [D.n s,.n i,.n j,p] 0=k0 (.n s):=rfl
 have v:aP [D.n s,.n i,.n j,p] 1=k0 (.n i):=rfl
 have a2:aP [D.n s,.n i,.n j,p] 2=k0 (.n j):=rfl
 have a3:aP [D.n s,.n i,.n j,p] 3=k0 p:=rfl
 have S:D.tup [wD K T,.tup ((sd B A i).map az++ [az (.neg y)])]=aG K T (sd B A i++ [Sy.neg y]):=by rw [aG,Ae0];rfl
 have Z: ∀s:Sy,D.tup [.str eP,az s]=az (.neg s):=λ_=>rfl
 refine⟨k0 (.t [.n s,.n i,.n j,p]),sv (aG K T (sd A B i)),sv (aG K T (sd B A i)),sv (aG K T (sd B A i++ [Sy.neg y])),[.aN (aM (K++T) (fO s T))],?_,rfl⟩
 unfold Je
 refine(za (by simp_all [e1,ag];rfl)).trans ?_
 rw [xa (by simp_all [a,ag,Wc,Aa8,Ad3,n4,fq,W.de,W.dr,c,zr,e2,ne])]
 rw [xa (by
  generalize E.bi _ _=X at q ⊢
  simp_all [q,ag])]
 refine(za (by simp_all [ag,aa,v,N];rfl)).trans ?_
 refine(za (by simp_all [ag,aa,Qh,Zf,a2,G,Z,C,S];rfl)).trans ?_
 rw [za (g6 (h1:=H++ [.aN (aM (K++T) (fO s T))]) (by simp_all [ag,aa,Qh,F,a3,J,u])),execs]
def FN (h:(s,i,j)∈dI A B m):s<=m/\i<2:=by
 obtain⟨x,a,h⟩:=Al3.mp h
 rw [n6]at h
 have:=Ab4.mp a
 obtain h | h:=Ac8.mp h
 .obtain⟨y,_,e⟩:=Ab6.mp h
  cases e
  lia
 .obtain⟨y,_,e⟩:=Ab6.mp h
  cases e
  lia
def Aw (g:bz m K T) (Q: ∀z∈A++B,z.wf (K++T)/\z.dp<=11) (F:A.length<=2) (t:B.length<=2) (I:Gu H=true)(S:40<=f)(p:H[r]? =some (.lst ds)) (J:d3 (gQ K T A B 12) (dI A B m) ds):call prog (f+1) "_law_papers_are" [.v (aG K T A),.v (aG K T B),.i m,.r r] H= .ok (.b true) H:=by
 have n4:=g.n4
 obtain⟨n,e1⟩:=yZ (K:=K) (T:=T) (A:=A) (B:=B) (m:=m) (H:=H) (f:=f) (r:=r) F t (m+1) 0 y0 (by lia)
 rw [Ak0]at e1
 have X:Gs (k8 f) (.aj (.bin .add .v2 (.int 1))) (eg K T A B m r (k0 (.l [])) y0 y0 y0 y0 y0 y0) H= .ok ((Al7 0 (m+1)).map λi=>D.n i) H:=by
  show Gk _ _ _ _=_
  rw [← Aj7]
  exact xj (m:=m+1) (by simp_all [Jc,ag];rfl) (by lia)
 have Z:=J.len
 have u:Gs (k8 f) (.aj (.bi .len (.a .v4))) (eg K T A B m r (k0 (.l ((dI A B m).map cq))) n y0 y0 y0 y0 y0) H= .ok ((Aa3 (dI A B m).length).map λi=>D.n i) H:=by
  show Gk _ _ _ _=_
  exact xj (by simp_all [ag,Qx,Aa]) (by have:=j6 F t n4;lia)
 obtain⟨U,h',M,E,b,c,l,a,ex,rfl,rfl,_⟩:=vt (e:=λi:Nat=>D.n i) (bnd:=Gr [6] u0) (body:=λo h=>execs (k8 f) Je o h) (st:=λo h=> ∃E b c l a ex,o=eg K T A B m r (k0 (.l ((dI A B m).map cq))) n E b c l a/\h=H++ex/\Gu ex=u0) (Aa3 (dI A B m).length) (λk q o h v=>by
  obtain⟨E,b,c,l,a,ex,rfl,rfl,G⟩:=v
  have q:=Ab4.mp q
  obtain⟨⟨s,i,j⟩,C⟩: ∃x,_[k]? =k0 x:=⟨_,Aa4 q⟩
  obtain⟨d,ed,L⟩:=J.get C
  obtain⟨y,Y⟩:=FN (Ac4 C)
  obtain⟨y7,y8,y9,V,ey,e,P⟩:=MJ (H:=H++ex) g Q F t (Wp I G) S (by rw [Ac9 (Aa0.mp p).1,p]) y Y C ed L (x5:=n) (x7:=b) (x8:=c) (x9:=l) (x10:=a)
  exact⟨_,_,_,rfl,e,_,_,_,_,_,ex++ey,rfl,by rw [Ae],Wp G P⟩) _ H ⟨_,_,_,_,_,[],rfl,by rw [Ae3],rfl⟩
 have O:GF H (k0 (.r r))=k0 (r,ds):=by simp only [W.r,GF,p]
 have nn:Gq .ne (.v (.int (ds.length:Int))) (.v (.int (((dI A B m).map cq).length:Int))) H=k0 false:=by
  rw [Aa,Z]
  exact xS (.int _) rfl (show (0:Nat)<150 by decide) H
 have N:=MQ p
 rw [Gb (d:=qk) rfl _ _ _ rfl]
 simp only [qk]
 refine fx (by simp_all [ag];rfl) ?_
 refine fx (τ1:=eg K T A B m r (k0 (.l ((dI A B m).map cq))) n y0 y0 y0 y0 y0) (h1:=H) (by
  rw [exec]
  refine(congrArg (λx=>R.cA x _) X).trans ?_
  rw [R.ar]
  exact e1) ?_
 rw [xa (by simp_all [O,ag,N,Qx,nn])]
 refine fx (by
  rw [exec,u,R.ar]
  exact M) ?_
 rw [qa (w:= .b u0) (h1:=H++ex) rfl,W6 rfl I]
end
section
variable {n:Nat}{K T:List Tx}
def CP (g:bz n K T) (a b): ∃f,Dc (wo n K T a) (wo n K T b) f 0 [.aN (aM (K++T) f)]:=⟨λt=>((fS n K T a t).1,(fS n K T b t).1),rfl,g.n4,λt c=>(W7 (r:=0) (h:= [.aN _]) g rfl).lo t c,λt c=>(W7 (r:=0) (h:= [.aN (aM _ (fS n K T b))]) g rfl).lo t c⟩
end
section
variable {K T:List Tx}{A B:List Sy}{m q:Nat}{H:AH}
def vK (h1:x<=y) (e:eval F a τ h= .ok (.v (.int 0)) h) (f:eval F b τ h= .ok (.i x) h) (d:eval F c τ h= .ok (.i y) h):eval F (.chain .le .le a b c) τ h= .ok (.b u0) h:=by simp_all
abbrev lQ (K T:List Tx) (A B:List Sy) (m:Nat) (a:List D) (b x5:Option W):Sl:= [sv (aG K T A),sv (aG K T B),si m,k0 (.t a),b,x5]
def Mf (g:bz m K T) (h: ∀z∈A++B,z.wf (K++T)/\z.dp<=11) (i:A.length<=2) (c:B.length<=2) (j:Gu H=true)(k:41<=f)(b:H[r]? =some (.lst ds)) (e:d3 (gQ K T A B 12) (dI A B m) ds):call prog (f+1) "_law_right" [.v (aG K T A),.v (aG K T B),.i m,.t [.str QM,.ref r]] H= .ok (.b true) H:=by
 obtain⟨f,rfl⟩:=nk f 1 (by lia)
 have e1:=Aw g h i c j (f:=f) (by lia) b e
 rw [Gb (d:=Qm) rfl _ _ _ rfl]
 simp only [Qm]
 have a:bZ .tuple (.t [.str QM,.ref r])=k0 true:=rfl
 have l2:Gq .lt (.i (2)) (.v (.int 2)) H=k0 false:=rfl
 have l:Gq .eq (.i (2)) (.v (.int 2)) H=k0 true:=rfl
 refine fx (g6 (h1:=H) (by simp_all [a,ag,Wc,Aa8,Ad3,l2])) ?_
 rw [zf (w:= .b u0) (by simp_all [aa,Qh,Xa,ag,show(QM== eM)=u0 from rfl]) (Ja rfl (by assumption))]
 exact Ga _ _ _ rfl
def Dg (g:bz m K T) (I: ∀z∈A++B,z.wf (K++T)/\z.dp<=11) (lA:A.length<=2) (lB:B.length<=2) (J:Gu H=true)(hf:41<=f)(w:ie K T A B m a):call prog (f+1) "_law_right" [.v (aG K T A),.v (aG K T B),.i m,.v a] H= .ok (.b true) H:=by
 obtain⟨s,c,i,y,L,hi,rfl,hc,W,C⟩:=w
 have q:=g.le L
 obtain⟨f,rfl⟩:=nk f 3 (by lia)
 have P: ∀z∈sd A B i,z∈A++B:=λz b=>by unfold sd at b;split at b<;>simp [b]
 have R: ∀z∈sd B A i,z∈A++B:=λz b=>by unfold sd at b;split at b<;>simp [b]
 have lS:(sd A B i).length<=2/\(sd B A i).length<=2:=by unfold sd;split<;>exact⟨by assumption,by assumption⟩
 obtain⟨b1,v,Q⟩:=tU (f+2) c q (λz b=>I z (R z b)) (by lia) (by lia) H J
 obtain⟨F,G,V⟩:=tU (f+2) c q (λz b=>I z (P z b)) (by lia) (by lia) H J
 rw [Q.mpr λz b=>C z (Ad _ b)]at v
 have:F=false:=by
  cases F with
  | false=>rfl
  | true=>
   obtain⟨o,ho,e⟩:=C _ (Ab0 _ (Ac3.mpr rfl))
   rw [Td.uniq ho (V.mp rfl y W)]at e
   cases e
 subst this
 have e1:=Lm q (f+1) c H
 have Z:=Zn (f+2) (.n (1-i)) H rfl
 have Y:=Zn (f+2) (.n s) H rfl
 have p1:c9 (.l [aG K T A,aG K T B]) (.i (1-i)) H=k0 (aG K T (sd B A i)):=by
  obtain rfl | rfl:i=0\/i=1:=by lia
  .rfl
  .rfl
 have p2:c9 (.l [aG K T A,aG K T B]) (.v (.int (1-((1-i:Nat):Int)))) H=k0 (aG K T (sd A B i)):=by
  obtain rfl | rfl:i=0\/i=1:=by lia
  .rfl
  .rfl
 generalize hw:(wo s K T c).aT=w at v G e1
 have U: ∃k t,w= .tup [.n s,k,t]:=⟨_,_,hw.symm⟩
 obtain⟨h,j,rfl⟩:=U
 rw [Gb (d:=Qm) rfl _ _ _ rfl]
 have p:aP [D.str Jf,.tup [.n s,h,j],.n (1-i)] 0=k0 _:=rfl
 have n:aP [D.str Jf,.tup [.n s,h,j],.n (1-i)] 1=k0 (.tup [.n s,h,j]):=rfl
 have a2:aP [D.str Jf,.tup [.n s,h,j],.n (1-i)] 2=k0 (.n (1-i)):=rfl
 have a3: [D.str Jf,.tup [.n s,h,j],.n (1-i)].length=3:=rfl
 show Gw _ (execs _ _ (lQ K T A B m [.str Jf,.tup [.n s,h,j],.n (1-i)] y0 y0) H)=_
 generalize [D.str Jf,.tup [.n s,h,j],.n (1-i)]=a at p n a2 a3
 simp only [Qm]
 have u:bZ .tuple (.t a)=k0 true:=rfl
 have r:bZ .tuple (.t [.n s,h,j])=k0 true:=rfl
 have l2:Gq .lt (.i (3)) (.v (.int 2)) H=k0 false:=rfl
 have M:Gq .ne (.i (3)) (.v (.int 3)) H=k0 false:=rfl
 have S:Gq .ne (.s Jf) (.s fB) H=k0 false:=rfl
 rw [xa (by simp_all [u,ag,Wc,a3,l2])]
 rw [xa (by simp_all [aa,p,Xa,ag,show(Jf== eM)=k9 from rfl])]
 have l: ∀ {X:E},X= .chain .le .le (.int 0) (.ix .v3 (.int 2)) (.int 1)->eval (k8 (f+3)) X (lQ K T A B m a y0 y0) H= .ok (.b u0) H:=λ{X} N=>by
  rw [N]
  exact vK (x:=1-i) (y:=1) (by lia) rfl (by simp_all [aa,a2,ag]) rfl
 rw [xa (by
  generalize O:E.chain _ _ _ _ _=X
  have l:=l O.symm
  simp_all [aa,p,a2,ag,S,Wc,a3,M,Z,Qr,l])]
 rw [xa (by simp_all [aa,n,ag,r,Wc,Aa8,Ad3,M,km,Y,Qr])]
 rw [za (τ1:=lQ K T A B m a (si s) y0) (h1:=H) (by simp_all [aa,n,ag,km])]
 rw [xa (by
  have l:eval (k8 (f+3)) (.chain .le .le (.int 0) .v4 .v2) (lQ K T A B m a (si s) y0) H= .ok (.b u0) H:=vK L rfl rfl rfl
  generalize E.chain _ _ _ _ _=X at l ⊢
  simp_all [l,ag,aa,Qh,n,e1])]
 rw [za (τ1:=lQ K T A B m a (si s) (k0 (.l [aG K T A,aG K T B]))) (h1:=H) (by simp_all [ag])]
 rw [qa (w:= .b u0) (h1:=H) (Ja rfl (by simp_all [aa,n,a2,ag,p1,v,zd,p2,G])),Ga _ _ _ rfl]
def oh (g:bz m K T) (d: ∀z∈A++B,z.wf (K++T)/\z.dp<=11) (h:A.length<=2) (c:B.length<=2) (b:Gu H=true): ∃a H',call prog 69 "same_or_parted" [.v (aG K T A),.v (aG K T B),.i m] H= .ok (.v a) H'/\Gu H'=true/\call prog 69 "_law_right" [.v (aG K T A),.v (aG K T B),.i m,.v a] H'= .ok (.b true) H'/\(ie K T A B m a/\H'=H\/ ∃ds,d3 (gQ K T A B 12) (dI A B m) ds/\a= .tup [.str QM,.ref H.length]/\H'=H++ [.lst ds]):=by
 rcases Hk g d h c b (f:=68) (by decide)with⟨a,w,e⟩ | ⟨ds,p,e⟩
 .exact⟨a,H,e,b,Dg g d h c b (by decide) w,.inl ⟨w,rfl⟩⟩
 .exact⟨_,_,e,Wp b rfl,Mf g d h c (Wp b rfl) (by decide) (by simp) p,.inr ⟨ds,p,rfl,rfl⟩⟩
def rZ (g:bz m K T)(w:ie K T A B m a) (p:d3 (gQ K T B A 12) (dI B A m) ds):False:=by
 obtain⟨s,c,i,y,n,v,rfl,u,o,h⟩:=w
 obtain⟨k,e⟩:=List.mem_iff_getElem?.mp o
 have e1:sd B A (1-i)=sd A B i/\sd A B (1-i)=sd B A i:=by
  obtain rfl | rfl:i=0\/i=1:=by lia
  .exact⟨rfl,rfl⟩
  .exact⟨rfl,rfl⟩
 have t:(s,1-i,k)∈dI B A m:=by
  refine Al3.mpr ⟨s,Ab4.mpr (by lia),Al3.mpr ⟨1-i,Ab4.mpr (by lia),?_⟩⟩
  rw [oq,e1.1]
  exact Ab6.mpr ⟨k,Ab4.mpr (Aa0.mp e).1,rfl⟩
 obtain⟨j,q⟩:=List.mem_iff_getElem?.mp t
 obtain⟨d,_,x,C,b,_,P⟩:=p.get q
 have b:=b
 rw [e1.1,e]at b
 cases b
 have P:=P
 rw [e1.2]at P
 obtain⟨f,D⟩:=CP (g.le n) 0 _
 obtain⟨z,r,l⟩:=(P.wk _ _ _ D).snd c (ue c) (LD u)
 cases l _ (h z r)
end
def Ff {S:List Sy}(h) (g: ∀s∈S,s.dp<=9):Gq .ne (.bor (S.map az)) (.own []) h=k0 (!S.isEmpty):=by
 have a:=ql _ (λs=>(pM s).1) S
 have c:dep (.lst (S.map az))<150:=by
  have: ∀L:List Sy,(∀ s∈L,s.dp<=9)->GG (L.map az)<=11:=λL=>by
   induction L with
   | nil=>intro _;simp [GG]
   | cons s L b=>
    intro h
    have:=b λs e=>h s (Aa2 _ e)
    have:=(pM s).2
    have:=h s Aa5
    rw [Ab2,GG]
    lia
  have:=this S g
  lia
 have f:W.dd h (.bor _)= .lst _:=W4 (d:= .lst _) a
 show(if G6 _ (.lst [])then k0 (!cy _ _)else y0)=_
 rw [f,if_pos (show (Gd _&&u0&&decide _)=u0 by rw [decide_eq_true c,show Gd (.lst _)=u0 from a];rfl)]
 cases S<;>rfl
def sm:Ss:=match bw.body with
 | .cons _ (.cons (.iff _ y _) _)=>y
 | y=>y
section
variable {K T:List Tx}{A B:List Sy}{n:Nat}
abbrev gI (K T:List Tx) (A C:List Sy) (x3 a:Option W):Sl:= [k0 (.r 0),sv (aG K T A),k0 (.own (C.map az)),x3,a]
def HZ (X: ∀z∈A,z.wf (K++T)/\z.dp<=9) (lA:A.length<=2)(f:Nat): ∃(B:List Sy) (j:Int),(∀ z∈B,z.wf (K++T)/\z.dp<=11)/\B.length<=2/\call prog (f+2) "_law_other" [.r 0,.v (aG K T A)] [ah ns i v]= .ok (.v (aG K T B)) [ah ns i j]:=by
 have b: ∀z∈A.reverse,z.wf _/\z.dp<=9:=λz l=>X z (List.mem_reverse.mp l)
 have q:A.reverse.length<=2:=by rw [Ao4];exact lA
 generalize R:A.reverse=C at b q
 have o:(A.map az).reverse=C.map az:=by rw [← R,List.map_reverse]
 have run: ∀ {B:List Sy}{j:Int}{L P:Option W},exec (k8 _) _ _ [ah ns i v]= .next (gI K T A B L P) [ah ns i j]->call prog (f+2) "_law_other" [.r 0,.v _] [ah ns i v]= .ok _ [ah ns i j]:=fun {B j L P} e=>by
  rw [Gb (d:=bw) rfl _ _ _ rfl]
  show Gw 1 (execs _ _ [k0 (.r 0),sv (aG K T A),y0,y0,y0] [ah ns i v])=_
  simp only [bw]
  refine fx (τ1:=gI K T A C y0 y0) (h1:= [ah ns i v]) (by simp_all [aa,Zf,ag,W.dr,o,yQ]) (fx e ?_)
  rw [qa (w:= .v (aG K T B)) (h1:= [ah ns i j]) (Ja rfl (by simp_all [aa,Qh,ag,XW]))]
  exact Ga _ [ah ns i v] [ah ns i j] rfl
 have ne:=Ff (S:=C) [ah ns i v] λs U=>(b s U).2
 by_cases J:C.isEmpty=u0
 .refine⟨C,v,λz l=>⟨(b z l).1,by have:=(b z l).2;lia⟩,q,run ((g6 (h1:= [ah ns i v]) (by simp_all [ne,J,ag])).trans (by rw [execs]))⟩
 have O:C.isEmpty=false:=by simpa using J
 have y:0<C.length:=by cases C with | nil=>cases O | cons _ _=>simp
 obtain⟨x,v1,u,e1⟩:=xh f (h:= [ah ns i v]) (r:=0) rfl (m:=C.length) y (by lia)
 have e1:call prog (f+1) "_law_draw" [.r 0,.i C.length] [ah ns i v]= .ok (.i x) [ah ns i v1]:=e1
 obtain⟨d,v2,hd,e2⟩:=xh f (h:= [ah ns i v1]) (r:=0) rfl (m:=4) (by decide) (by decide)
 have e2:call prog (f+1) "_law_draw" [.r 0,.v (.int 4)] [ah ns i v1]= .ok (.i d) [ah ns i v2]:=e2
 have G:aP (C.map az) (x:Int)=k0 (az C[x]):=by
  rw [Zd _ _ (by rw [Aa];exact u),Ac,Aa4 u];rfl
 have M:aP (C.map az) 0=k0 (az C[0]):=by
  have:=Zd (C.map az) 0 (by rw [Aa];exact y)
  rw [show ((0:Nat):Int)=0 from rfl]at this
  rw [this,Ac,Aa4 y];rfl
 have n:dw (C.map az).length (x:Int)=k0 x:=by
  simp [dw,u]
 have F: ∀z:Sy,(C.map az).set x (az z)=(C.set x z).map az:=λz=>by rw [List.map_set]
 have eq: ∀k:Nat,Gq .eq (.i d) (.i k) [ah ns i v2]=k0 (u9 (d=k)):=λk=>Jm d k _
 have o:=eq 0
 have c:=eq 1
 have g:=eq 2
 have H:=b _ (Al4 u)
 have N:=b _ (Al4 y)
 have fin: ∀z:Sy,z.wf (K++T)->z.dp<=11->((∀ w∈C.set x z,w.wf (K++T)/\w.dp<=11)/\(C.set x z).length<=2):=λz a Y=>⟨λw E=>by
  rcases List.mem_or_eq_of_mem_set E with E | rfl
  .exact⟨(b w E).1,by have:=(b w E).2;lia⟩
  .exact⟨a,Y⟩,by rw [Ae1];exact q⟩
 have Z: ∀s:Sy,D.tup [.str eP,az s]=az (.neg s):=λ_=>rfl
 have Q: ∀s t:Sy,D.tup [.str hF,az s,az t]=az (.bU s t):=λ_ _=>rfl
 have V: ∀s t:Sy,D.tup [.str f6,az s,az t]=az (.bP s t):=λ_ _=>rfl
 suffices I: ∃p,((∀ w∈p,w.wf (K++T)/\w.dp<=11)/\p.length<=2)/\execs (k8 (f+1)) sm (gI K T A C y0 y0) [ah ns i v]= .next (gI K T A p (si x) (si d)) [ah ns i v2]by
  obtain⟨p,a,e⟩:=I
  exact⟨p,v2,a.1,a.2,run ((xr (h1:= [ah ns i v]) (by simp_all [ne,O,ag])).trans e)⟩
 simp only [sm,bw]
 rw [za (τ1:=gI K T A C (si x) y0) (h1:= [ah ns i v1]) (by simp_all [Bb,Aa,ag,e1]),za (τ1:=gI K T A C (si x) (si d)) (h1:= [ah ns i v2]) (by simp_all [e2])]
 obtain rfl | rfl | rfl | rfl:d=0\/d=1\/d=2\/d=3:=by lia
 .refine⟨C.set x (.neg (.neg C[x])),fin (.neg (.neg C[x])) H.1 (by rw [Sy.dp,Sy.dp];lia),?_⟩
  rw [za (τ1:=gI K T A (C.set x (.neg (.neg C[x]))) (si x) (si (0))) (h1:= [ah ns i v2]) ((xr (h1:= [ah ns i v2]) (by simp_all [o,ag];rfl)).trans ((za (by simp_all [mP,G,ag,Z,n,F])).trans rfl))]
  rw [xa (by simp_all [c,ag];rfl),xa (by simp_all [g,ag];rfl),execs]
 .refine⟨C.set x (.bU C[0] C[x]),fin (.bU C[0] C[x]) ⟨N.1,H.1⟩ (by rw [Sy.dp];lia),?_⟩
  rw [xa (by simp_all [o,ag];rfl)]
  rw [za (τ1:=gI K T A (C.set x (.bU C[0] C[x])) (si x) (si (1))) (h1:= [ah ns i v2]) ((xr (h1:= [ah ns i v2]) (by simp_all [c,ag];rfl)).trans ((za (by simp_all [mP,M,G,ag,Q,n,F])).trans rfl))]
  rw [xa (by simp_all [g,ag];rfl),execs]
 .refine⟨C.set x (.bP C[0] C[x]),fin (.bP C[0] C[x]) ⟨N.1,H.1⟩ (by rw [Sy.dp];lia),?_⟩
  rw [xa (by simp_all [o,ag];rfl),xa (by simp_all [c,ag];rfl)]
  rw [za (τ1:=gI K T A (C.set x (.bP C[0] C[x])) (si x) (si (2))) (h1:= [ah ns i v2]) ((xr (h1:= [ah ns i v2]) (by simp_all [g,ag];rfl)).trans ((za (by simp_all [mP,M,G,ag,V,n,F])).trans rfl)),execs]
 .refine⟨C,⟨λz l=>⟨(b z l).1,by have:=(b z l).2;lia⟩,q⟩,?_⟩
  rw [xa (by simp_all [o,ag];rfl),xa (by simp_all [c,ag];rfl),xa (by simp_all [g,ag];rfl),execs]
end
abbrev hA (sc:D) (c x3 b x5 a x7:Option W):Sl:= [sv sc,k0 (.r 0),c,x3,b,x5,a,x7]
def ux:Ss:=match cJ.body with
 | .cons _ (.cons _ (.cons _ (.cons _ (.cons _ (.cons _ y)))))=>y
 | y=>y
def LP:S:=match cJ.body with
 | .cons _ (.cons _ (.cons _ (.cons _ (.cons _ (.cons s _)))))=>s
 | _=> .dF
def pY (x) (xs:List D):aP (x::xs) 0=k0 x:=Zd (x::xs) 0 (by simp)
section
variable {K T:List Tx}{A B:List Sy}{m:Nat}{H:AH}
def yW (h:ie K T A B m a/\H'=H\/ ∃ds,d3 (gQ K T A B 12) (dI A B m) ds/\a= .tup [.str QM,.ref H.length]/\H'=H++ [.lst ds]): ∃t xs,a= .tup (.str t::xs)/\(t=Jf/\ie K T A B m a\/t=QM/\xs= [.ref H.length]/\ ∃ds,d3 (gQ K T A B 12) (dI A B m) ds/\H'=H++ [.lst ds]):=by
 obtain⟨w,_⟩ | ⟨ds,p,rfl,rfl⟩:=h
 .have b:=w
  obtain⟨s,c,i,y,_,_,rfl,_⟩:=b
  exact⟨_,_,rfl,.inl ⟨rfl,w⟩⟩
 .exact⟨_,_,rfl,.inr ⟨rfl,rfl,ds,p,rfl⟩⟩
def Ic (g:bz m K T) (i: ∀z∈A++B,z.wf (K++T)/\z.dp<=11) (e:A.length<=2) (c:B.length<=2) (l:Gu H=u0): ∃H',execs (k8 69) ux (hA sc (si m) x3 (sv (aG K T A)) (sv (aG K T B)) y0 y0) H= .ret (.b u0) H':=by
 have h: ∀z∈B++A,z.wf _/\z.dp<=11:=λz G=>i z (by simpa [or_comm]using G)
 obtain⟨S,k,e1,R,u,I⟩:=oh (H:=H) g i e c l
 obtain⟨f,b,rfl,o⟩:=yW I
 have j: ∃d,Gu d=u0/\ ∀X,execs (k8 69) (.cons (.iff (.cmp .eq (.ix .v6 (.int 0)) (.str eM)) (.a (.eB (.ix .v6 (.int 1)) .au)) .nil) X) (hA sc (si m) x3 (sv (aG K T A)) (sv (aG K T B)) (k0 (.t (.str f::b))) y0) k=execs (k8 69) X (hA sc (si m) x3 (sv (aG K T A)) (sv (aG K T B)) (k0 (.t (.str f::b))) y0) d:=by
  rcases o with⟨rfl,_⟩ | ⟨rfl,rfl,a,_,rfl⟩
  .exact⟨k,R,λX=>xa (by simp_all [aa,pY,Xa,ag,show(Jf== eM)=k9 from rfl])⟩
  .refine⟨H++ [.lst (a++ [.au])],Wp l rfl,λX=>za ((xr (h1:=H++ [.lst a]) (by simp_all [aa,Qh,Xa,ag,show(QM== eM)=u0 from rfl])).trans ?_)⟩
   have L:GF (H++ [.lst a]) (k0 (.r H.length))=k0 (H.length,a):=by simp [GF]
   have N:a.length<bf/\Gd .au=true:=⟨by
    rename_i P
    have:=P.len
    have:=j6 e c g.n4
    rw [Gg];lia,rfl⟩
   have v:(H++ [Cell.lst a]).set H.length (.lst (a++ [.au]))=H++ [.lst (a++ [.au])]:=by
    rw [An2 _ _ (Aa7 _),Am3];rfl
   rw [za (τ1:=hA sc (si m) x3 (sv (aG K T A)) (sv (aG K T B)) (k0 (.t [.str QM,.ref H.length])) y0) (h1:=H++ [.lst (a++ [.au])]) (by simp_all [aa,Zf,ag,L,W.lN,N,and_self,if_true,v]),execs]
 obtain⟨d,O,j⟩:=j
 obtain⟨a3,q,s,x,w,Q⟩:=oh (H:=d) g h c e O
 obtain⟨p,t,rfl,n⟩:=yW Q
 obtain⟨a4,E,y,V,C,Z⟩:=oh (H:=q) g i e c x
 have r:p=f:=by
  rcases o with⟨rfl,M⟩ | ⟨rfl,_,Y,J,_⟩
  .rcases n with⟨rfl,_⟩ | ⟨_,_,U,D,_⟩
   .rfl
   .exact(rZ g M D).elim
  .rcases n with⟨_,F⟩ | ⟨rfl,_⟩
   .exact(rZ g F J).elim
   .rfl
 subst r
 refine⟨E,?_⟩
 have ne:=xS (.str p) rfl (show (0:Nat)<150 by decide) q
 simp only [ux,cJ]
 refine(za (by simp_all [e1];rfl)).trans ?_
 rw [xa (by simp_all [u,ag])]
 refine(j _).trans ?_
 refine(za (by simp_all [s];rfl)).trans ?_
 rw [xa (by simp_all [aa,pY,ag,ne,w])]
 exact qa (Ja rfl (by simp_all [y,C]))
end
def fD (ns:List Int) (f:ns.length<=63): ∃h',call prog 70 "law" [.l (ns.map .int)] []= .ok (.b true) h':=by
 suffices b: ∃H,execs (k8 69) cJ.body [k0 _,y0,y0,y0,y0,y0,y0,y0] []= .ret _ H by
  obtain⟨H,e⟩:=b
  rw [Gb (d:=cJ) rfl _ _ _ rfl]
  show ∃h',Gw 0 (execs _ cJ.body [k0 (.l (ns.map .int)),y0,y0,y0,y0,y0,y0,y0] [])=_
  rw [e]
  obtain⟨h',G,L⟩:=me (d:= .bl u0) (h:=H) (n:=0) rfl (Ae6 _) rfl
  exact⟨h',G⟩
 obtain⟨v0,J⟩:=Hh 68 ns f []
 obtain⟨n,K,T,v1,g,e1⟩:=Ml 66 (h:= [ah ns 0 v0]) (r:=0) (i:=0) rfl
 have e1:call prog 69 "_law_words" [.r 0] [ah ns 0 v0]= .ok _ [ah ns 0 v1]:=e1
 obtain⟨A,i2,v2,o,w,e2⟩:=tu 61 g (M:=2) (by decide) f (h:= [ah ns 0 v1]) (r:=0) (i:=0) rfl
 have e2:call prog 69 "_law_theory" [.r 0,.v _,.v (.int 2)] [ah ns 0 v1]= .ok _ [ah ns i2 v2]:=e2
 obtain⟨B,i3,v3,p,y,k⟩:=tu 61 g (M:=2) (by decide) f (h:= [ah ns i2 v2]) (r:=0) (i:=i2) rfl
 have k:call prog 69 "_law_theory" [.r 0,.v _,.v (.int 2)] [ah ns i2 v2]= .ok (.v (aG K T B)) [ah ns i3 v3]:=k
 obtain⟨v4,l⟩:=yO 68 f (h:= [ah ns i3 v3]) (r:=0) (i:=i3) rfl
 have l:call prog 69 "_law_turn" [.r 0] [ah ns i3 v3]= .ok (.v .au) [ah ns (i3+1) v4]:=l
 obtain⟨d,v5,N,j⟩:=xh 68 (h:= [ah ns (i3+1) v4]) (r:=0) rfl (m:=2) (by decide) (by decide)
 have j:call prog 69 "_law_draw" [.r 0,.v (.int 2)] [ah ns (i3+1) v4]= .ok (.i d) [ah ns (i3+1) v5]:=j
 have up: ∀C:List Sy,(∀ z∈C,z.wf (K++T)/\z.dp<=11)-> ∀z∈A++C,z.wf (K++T)/\z.dp<=11:=λC c z a=>by
  rcases Ac8.mp a with a | a
  .exact⟨(o z a).1,by have:=(o z a).2;lia⟩
  .exact c z a
 have s:eval (k8 69) (.share (.call "_law_start" (.a .v0))) [some (.l (ns.map .int)),none,none,none,none,none,none,none] []= .ok (.r 0) [ah ns 0 v0]:=MX (ws:= [.l (ns.map .int)]) (by simp_all []) J (by
  show(Gc (ns.map .int)&&u0)=u0
  rw [ql _ (λ_=>rfl)];rfl)
 have eq:Gq .eq (.i d) (.v (.int 0)) [ah ns (i3+1) v5]=k0 (u9 (d=0)):=Jm d 0 _
 have b: ∀(C:List Sy) (v:Int),(∀ z∈C,z.wf (K++T)/\z.dp<=11)->C.length<=2->exec (k8 69) LP (hA (.lst (ns.map .int)) (si n) (sv (wD K T)) (sv (aG K T A)) (sv (aG K T B)) y0 y0) [ah ns (i3+1) v4]= .next (hA (.lst (ns.map .int)) (si n) (sv (wD K T)) (sv (aG K T A)) (sv (aG K T C)) y0 y0) [ah ns (i3+1) v]-> ∃H,execs (k8 69) cJ.body [k0 (.l (ns.map .int)),y0,y0,y0,y0,y0,y0,y0] []= .ret (.b u0) H:=λC v c lC u=>by
  obtain⟨F,t⟩:=Ic (H:= [ah ns (i3+1) v]) g (up C c) w lC rfl (sc:= .lst (ns.map .int)) (x3:=sv (wD K T))
  refine⟨F,?_⟩
  simp only [cJ]
  rw [za (τ1:=hA (.lst (ns.map .int)) y0 y0 y0 y0 y0 y0) (h1:= [ah ns 0 v0]) (by
   generalize E.share _=X at s ⊢
   simp_all [s])]
  generalize D.lst (ns.map .int)=I at t u ⊢
  refine(za (by simp_all [e1];rfl)).trans ?_
  refine(za (by simp_all [e2];rfl)).trans ?_
  refine(za (by simp_all [k];rfl)).trans ?_
  refine(za (by simp_all [l];rfl)).trans ?_
  exact(za u).trans t
 by_cases q:d=0
 .obtain⟨C,v6,c,lC,x⟩:=HZ o w (ns:=ns) (i:=i3+1) (v:=v5) 67
  refine b C v6 c lC ((xr (h1:= [ah ns (i3+1) v5]) (by simp_all [j,eq,ag,decide_eq_true q])).trans ?_)
  rw [za (τ1:=hA (.lst (ns.map .int)) (si n) (sv (wD K T)) (sv (aG K T A)) (sv (aG K T C)) y0 y0) (h1:= [ah ns (i3+1) v6]) (by simp_all [x]),execs]
 .refine b B v5 (λz a=>⟨(p z a).1,by have:=(p z a).2;lia⟩) y ((g6 (h1:= [ah ns (i3+1) v5]) (by simp_all [j,eq,ag,decide_eq_false q])).trans ?_)
  rw [execs]
end M
namespace L2.MS
open PySem PyProof.Rows
noncomputable def pJ:List String:= ["is_whole", "is_below", "pairs_of", "gathered", "common", "either", "without", "turned", "joined", "closed", "same", "every", "value_of_name", "made", "counts", "bounds", "settled", "not_told", "and_told", "or_told", "in_told", "count_told", "told", "fact_told", "is_size", "widths", "bits", "check_size", "check_bits", "world_of", "places_of", "is_tuple_of", "names_in", "needed_bits", "how_many_set", "found", "check_room", "follows", "same_or_parted", "_law_start", "_law_turn", "_law_draw", "_law_names", "_law_words", "_law_expression", "_law_saying", "_law_theory", "_law_joined", "_law_turned", "_law_closed", "_law_same", "_law_two", "_law_bounds", "_law_many", "_law_ruled", "_law_within", "_law_fact", "_law_told", "_law_whole", "_law_spread", "_law_seen", "_law_is_world", "_law_keeps", "_law_open", "_law_split", "_law_walks", "_law_papers_are", "_law_right", "_law_other", "law"]
def oE:List String:= ["NoSize", "NoCode", "Crowded", "Unlike"]
def pT:List String:= ["NoSize", "NoCode", "Crowded", "Unlike"]
def pk:List String:= []
noncomputable def EW:gv:=⟨[("Cases", "words"),("Cases", "sayings"),("Cases", "size"),("Cases", "places"),("Cases", "whole"),("Search", "cases"),("Search", "needs")],[("Cases", "world_of_code", "Cases.world_of_code"),("Cases", "truth", "Cases.truth"),("Cases", "bit_of", "Cases.bit_of"),("Cases", "is_shown", "Cases.is_shown"),("Search", "told_of_sayings", "Search.told_of_sayings"),("Search", "chosen_place", "Search.chosen_place"),("Search", "told_of_case", "Search.told_of_case"),("Search", "told_of_halves", "Search.told_of_halves")],[("Cases", "Cases.__init__"),("Search", "Search.__init__")],["Cases.__init__", "Cases.world_of_code", "Cases.truth", "Cases.bit_of", "Cases.is_shown", "Search.__init__", "Search.told_of_sayings", "Search.chosen_place", "Search.told_of_case", "Search.told_of_halves"],[]⟩
noncomputable def HA:List (String×List String):= [("_law_names",["_law_pack", "_law_many_here", "_law_letters", "_law_first", "_law_stem", "_law_k", "_law_at", "_law_names_here", "_law_name"])]
end L2.MS
namespace PySem.W.Fast
def tw13359809969887423921:=Nat
def tw16287705849461653241:=Nat
def tw15225280240115214501:=Nat
def tw4625107291754182602:=Nat
def tw16010123213435608396:=Nat
def tw13187831099697528691:=Nat
def tw2732895522369557128:=Nat
def tw2869127003484246648:=Nat
def tw5083209277393854164:=Nat
def tw16006007583288453544:=Nat
def tw12927277789772120805:=Nat
def tw11062981127347206145:=Nat
def tw7709305336437058391:=Nat
def tw10905925736722628744:=Nat
def tw5951244562825380560:=Nat
def tw2291535604986326459:=Nat
def tw8794051372223381741:=Nat
def tw12731438275430300269:=Nat
def tw7068394217151035549:=Nat
def tw17704254179233649988:=Nat
def tw12174593465165498758:=Nat
def tw9344939893097638637:=Nat
def tw13395090928915999385:=Nat
def tw978482894344921509:=Nat
def tw18405035448890069720:=Nat
def tw3639526530641970368:=Nat
def tw1718186546669307001:=Nat
def tw12702836214236990204:=Nat
def tw7927297219065913466:=Nat
def tw10459183264889109867:=Nat
def tw212973946467129468:=Nat
def tw12514464789343417672:=Nat
def tw8173636225064571548:=Nat
def tw5126696590107154611:=Nat
def tw5064719242651116780:=Nat
def tw4497119403169032728:=Nat
def tw3402655177991947891:=Nat
def tw3126520713699316643:=Nat
def tw10096719629667939465:=Nat
def tw16192366487536654363:=Nat
def tw1349616081573622692:=Nat
def tw2586418175832488020:=Nat
def tw17196103075837649360:=Nat
def tw263099247491956578:=Nat
def tw7782960191806922646:=Nat
def tw1278634058260009798:=Nat
def tw115204646484495566:=Nat
def tw14036022308596641571:=Nat
def tw3311847182922284161:=Nat
def tw6947983543250241009:=Nat
def tw9489875215588671157:=Nat
def tw3131950171829404576:=Nat
def tw7101480696020359177:=Nat
def tw14441001350576726527:=Nat
def tw3853228851396901315:=Nat
def tw370738556435989391:=Nat
def tw3684196337378262918:=Nat
def tw15949369089761084048:=Nat
def tw15785537382844225902:=Nat
def tw381601802588514208:=Nat
def tw8271286256965860869:=Nat
def tw18092726207659375001:=Nat
def tw14009075742139377841:=Nat
def tw16469340562110322778:=Nat
def tw2712728425403456072:=Nat
def tw15850038789773183789:=Nat
def tw14922820007607727769:=Nat
def tw17306325291127990188:=Nat
def tw14681179190566040434:=Nat
def tw5568613204130546055:=Nat
def tw6968392314816245138:=Nat
def tw3415319549450964422:=Nat
def tw14816321375763628710:=Nat
def tw11688983458691280411:=Nat
def tw12075429990799338811:=Nat
def tw15241636596306362871:=Nat
def tw13464489147297949897:=Nat
def tw946003507685970848:=Nat
def tw12300672962708715539:=Nat
def tw438358060023919868:=Nat
def tw231702406146627919:=Nat
def tw18232568363886628904:=Nat
def tw17652016456943124274:=Nat
def tw7869986962669560059:=Nat
def tw9567405125883866299:=Nat
def tw5059943654254257524:=Nat
def tw15140158588079679672:=Nat
def tw1664286486820583187:=Nat
def tw6946355077274722740:=Nat
def tw8264833821073593418:=Nat
def tw12959287748821108199:=Nat
def tw3929767444708809392:=Nat
def tw13517849929335820990:=Nat
def tw6459140670784543159:=Nat
def tw12474510953643239885:=Nat
def tw9523265547745381617:=Nat
def tw1280606630347759424:=Nat
def tw4724970019428035943:=Nat
def tw17960538031246008861:=Nat
def tw9701873280123973687:=Nat
def tw14157695630417659116:=Nat
def tw1204090048659559366:=Nat
def tw8743750363757096725:=Nat
def tw18177407477778973304:=Nat
def tw295703144019222151:=Nat
def tw1630307922615824492:=Nat
def tw1246608995716096519:=Nat
def tw5300793715341401712:=Nat
def tw15588585981670862009:=Nat
def tw13703298076074296073:=Nat
def tw1443889099394288839:=Nat
def tw3719693263369681200:=Nat
def tw291212727770923858:=Nat
def tw15121263860850227934:=Nat
def tw8353308015054682956:=Nat
def tw11990033810779358887:=Nat
def tw3972209367007946789:=Nat
def tw1108518630583017281:=Nat
def tw5249617303993384857:=Nat
def tw7285098330046413283:=Nat
def tw10523753876143567769:=Nat
def tw17259786650630169179:=Nat
def tw10434092688467505832:=Nat
def tw4872569251931851230:=Nat
def tw15097607280982990808:=Nat
def tw10911766401034548390:=Nat
def tw16334174967401622877:=Nat
def tw4730568444056388246:=Nat
def tw7593287876467251165:=Nat
def tw13728952117720604282:=Nat
def tw5919078795354207250:=Nat
def tw6623888721250100313:=Nat
def tw13867490778861713809:=Nat
def tw16868316680502531197:=Nat
def tw329801761105358070:=Nat
def tw8909617607922393859:=Nat
def tw16025628130710292832:=Nat
def tw14859610939983554499:=Nat
def tw13099860234552512244:=Nat
def tw15895697785221828212:=Nat
def tw1334157153234258275:=Nat
def tw10988524210656393191:=Nat
def tw2021105747929933225:=Nat
def tw17439220152799619597:=Nat
def tw13726658818636066414:=Nat
def tw15081546177903619329:=Nat
def tw14212006990677620598:=Nat
def tw5622984109470159641:=Nat
def tw6267259536604286928:=Nat
def tw15585648739043088323:=Nat
def tw11344418476767679502:=Nat
def tw8542590881612665052:=Nat
def tw16488271926419964828:=Nat
def tw4986246560207448484:=Nat
def tw17712721123182557017:=Nat
def tw6994663997927493263:=Nat
def tw13781578159560990480:=Nat
def tw11336646665582531840:=Nat
def tw9134181074691654757:=Nat
def tw3663865903036481568:=Nat
def tw5349122783720585367:=Nat
def tw12566120902983918977:=Nat
def tw8195432488874314766:=Nat
def tw14056931584380927439:=Nat
def tw12613604060506666344:=Nat
def tw1899221017121661652:=Nat
def tw12259054359048744290:=Nat
def tw13608343390094506488:=Nat
def tw6188531174470999220:=Nat
def tw14873645989960181268:=Nat
def tw1610867792612655091:=Nat
def tw15466334118301606490:=Nat
def tw4403695547375677939:=Nat
def tw4662161724939456512:=Nat
def tw11914188814972159193:=Nat
def tw5939283660671522629:=Nat
def tw12756656418613663873:=Nat
def tw15648291816743350098:=Nat
def tw2478322272775213180:=Nat
def tw2422482640522563749:=Nat
def tw15897836023236501318:=Nat
def tw6551981845370708998:=Nat
def tw1089110315587597670:=Nat
def tw1127239542923818162:=Nat
def tw2964850507797106037:=Nat
def tw12241309164842503105:=Nat
def tw7929616685891985783:=Nat
def tw9800177709444139263:=Nat
def tw6549868632759070679:=Nat
def tw15671840212239607603:=Nat
def tw17413798024688104187:=Nat
def tw1727263853128804517:=Nat
def tw12024162914133423599:=Nat
def tw16492886113701038794:=Nat
def tw3300941082512195640:=Nat
def tw10455017094821155008:=Nat
def tw13706846882790891597:=Nat
def tw7857706561118531002:=Nat
def tw6836112597785626701:=Nat
def tw4172965766257050716:=Nat
def tw8912818126024580226:=Nat
def tw3745057805603946507:=Nat
def tw442793938989719456:=Nat
def tw5712228937497892764:=Nat
def tw170531508419464834:=Nat
def tw8331363685481401671:=Nat
def tw7258767124244283519:=Nat
def tw13757032793861011041:=Nat
def tw18093140932043404313:=Nat
def tw12823440013838047732:=Nat
def tw3588582335495425096:=Nat
def tw16061497056873417577:=Nat
def tw5756189669514341604:=Nat
def tw16254058600416521588:=Nat
def tw4439935717281256337:=Nat
def tw14098365244224978824:=Nat
def tw18236922388137340005:=Nat
def tw11283339531842794770:=Nat
def tw211483278474013132:=Nat
def tw13366278377442204237:=Nat
def tw14495911941255541126:=Nat
def tw12149297943116594301:=Nat
def tw1547075746693595248:=Nat
def tw4933637744117626914:=Nat
def tw2815601127813307541:=Nat
def tw17669743640075159509:=Nat
def tw13697552842761584968:=Nat
def tw7289838266180398635:=Nat
def tw13469672406084522932:=Nat
def tw6144688716514289587:=Nat
def tw7986355953125489274:=Nat
def tw4886490318152936834:=Nat
def tw15081761409960442086:=Nat
def tw5652371274683969087:=Nat
def tw445097943016642677:=Nat
def tw5471383530283237479:=Nat
def tw12785092460089516803:=Nat
def tw15524477906472358334:=Nat
def tw16854884719624616926:=Nat
def tw17661745655137963891:=Nat
def tw10671695791679172738:=Nat
def tw17621252052775924886:=Nat
def tw1914740624528036394:=Nat
def tw1643021973086663254:=Nat
end PySem.W.Fast
open PySem PySem.W PyProof.Rows
set_option maxRecDepth 100000 in
set_option maxHeartbeats 0 in
theorem PySem.Challenge.cw_worldfind_k64_whole_same_or_parted_holds : PySem.Challenge.rw_worldfind_k64_whole_same_or_parted.Holds := by
 w_on;o_law;k_head;(case hw=>w_witness2)
 k_fill
 refine L2.MS.walk (l:=PySem.Challenge.rw_worldfind_k64_whole_same_or_parted) (x:= "_law_script") (2*70+1) ⟨rfl,by decide,by decide⟩ rfl rfl (fun w h Y=>PySem.W.kIn_of Y) ?F
 case F=>
  intro w mg fa h KX G hmg
  exact L2.MS.i8 M.prog L2.MS.pJ L2.MS.oE L2.MS.pT L2.MS.pk L2.MS.EW L2.MS.HA 69 KX G hmg (by kernel_rfl) M.fD
