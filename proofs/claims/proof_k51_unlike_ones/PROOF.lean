import PyProof.Rows.All
import Wide.All
import OpenK.AllK
import Wide.FinOn
import Lean
import PyProof.EqAt
import PyProof.EqKinds
import PyProof.TupleCall
import PyProof.NeKinds
import PyProof.NsDelKeeps
import KE.KRevSl
import PyProof.StrWalks
import PyProof.ConsumeWalk
import PyProof.SumWalk
import PyProof.Rows.SortStr
import PyProof.SumWalkG
import PyProof.StrCalls2
import PyProof.StrLawsIdx
import PyProof.WalkInts
import PyProof.StrOps2
import PyProof.SliceStr2
import PyProof.Draws
import PyProof.EnumMake
import PyProof.Rows.SetFrom
import PyProof.SetRoads
import PyProof.WalksMore
import PyProof.ListRange
import PyProof.TupleOfSeq
import PyProof.TupleOfGen
import PyProof.Rows.SortShell
import PyProof.ZipIter
import PyProof.DictStraight
import PyProof.TupleKey
import PyProof.DictRoadsH
import PyProof.DictTruth
import PyProof.Rows.TupTab
import KE.KTabLook
import PyProof.FString
import PyProof.CallStr
import KE.KIntText
import PyProof.Rows.Range3
import PyProof.DictRoads
import PySem.Challenge.RW_worldfind_k51_unlike_ones
set_option Elab.async false
set_option linter.all false
set_option maxRecDepth 100000
set_option compiler.extract_closed false
local macro_rules | `(tactic| omega) => `(tactic| lia)
set_option bootstrap.genMatcherCode false
noncomputable section
open List renaming length_map → Aa, range → Aa0, mem_cons_of_mem → Aa2, mem_cons_self → Aa3, getElem?_eq_getElem → Aa4, size_toArray → Aa8, map_cons → Aa9, replicate → Ab, length_append → Ab1, mem_append_right → Ab2, mem_range → Ab3, mem_cons → Ab4, getD_eq_getElem?_getD → Ab7, length_cons → Ab9, mem_map → Ac, getElem?_eq_some_iff → Ac1, not_mem_nil → Ac2, map_map → Ac6, replicate_succ → Ac7, map_append → Ac8, mem_append_left → Ac9, getElem?_map → Ad, map_nil → Ad1, lookup_cons → Ad2, all_eq_true → Ad3, getElem?_set_ne → Ad5, getElem?_set_self → Ad6, length_filter_le → Ad9, map_congr_left → Ae, mem_filter → Ae1, length_set → Ae3, any_eq_true → Ae4, append_nil → Ae7, length_replicate → Ae8, append_assoc → Ae9, nil_append → Af0, mem_singleton → Af1, mem_append → Af2, any_cons → Af3, isEmpty_iff → Af6, getElem?_append_right → Af7, range_succ_eq_map → Af8, getElem?_append_left → Ag0, length_singleton → Ag2, length_take → Ag3, any_eq_false → Ag5, nodup_cons → Ah, eq_nil_of_length_eq_zero → Ah5, cons_append → Ah6, foldl_cons → Ah8, sum_cons → Ai0, all_cons → Ai1, contains_eq_mem → Ai2, length_drop → Ai5, getElem_map → Ai6, replicate_zero → Ai7, getElem_range → Ai9, length_range → Aj4, flatten_cons → Aj5, contains_iff_mem → Aj7, nodup_range → Ak0, getElem_mem → Ak1, filter_cons → Ak2, mem_of_getElem? → Ak3, map_eq_nil_iff → Ak4, length_zip → Ak5, mem_replicate → Al1, drop_eq_getElem_cons → Al7, reverse_cons → Al9, getElem?_replicate → Am2, ext_getElem → Am3, length_nil → Am6, all_map → Am7, length_pos_iff → An2, filterMap_cons → An3, mem_filterMap → An7, filter_append → An8, take_length → Ao4
open PySem.Heap renaming get?_push_of_some → Aa1, lt_size → Ab5, get?_push_size → Ab6, size_push → Ag1, get?_update_self → Ah9, get?_update_other → Aj3, SameBut → Aj8, FlyingW → Al3, get?_update_ne → An4
open Nat renaming le_refl → Aa5, lt_of_lt_of_le → Ab0, le_trans → Ac0, ne_of_lt → Ac3, pow_le_pow_right → Ad0, mul_le_mul → Ad7, testBit_lt_two_pow → Ae6, eq_of_testBit_eq → Af5, testBit_or → Ag4, lt_succ_self → Ag7, zero_add → Ag8, lt_irrefl → Ag9, le_of_lt → Ah2, zero_le → Ah3, le_succ → Ah4, mul_comm → Ai, lt_pow_two_of_testBit → Ai4, pow_pos → Ai8, two_pow_pos → Aj0, not_lt_zero → Aj1, and_two_pow_sub_one_eq_mod → Ak, testBit_two_pow → Ak7, testBit_and → Ak8, pow_add → Ak9, min_eq_left → Al, div_add_mod → Al0, succ_mul → Al5, ne_of_gt → Al6, not_lt → Am0, lt_succ_of_lt → Am1, zero_testBit → Am4, add_comm → Am9, mul_le_mul_right → An0, mul_add → An6, lt_of_le_of_lt → An9, or_lt_two_pow → Ao1, not_le → Ao2, mod_lt → Ao3
open PySem.W renaming Frag → Aa6, mg_none_of → Ac4, kitOne → Ac5, keepIn → Ae0, kia_one → Ae2, mg_of → Af, fnOf → Ah7, clsIn → Aj9, codeIn → Ak6, cellsFrom_some → Am, findIn → Am5, subIn → An, kitx_list → An5, instObj → Ao0
open Bool renaming and_eq_true → Aa7, false_ne_true → Ab8, eq_iff_iff → Ad8, false_eq_true → Af4, true_and → Aj, eq_false_iff → Aj6, false_and → Al8, or_eq_true → Am8, not_eq_true' → Ao, noConfusion → Ao5
open Option renaming bind_eq_some_iff → Ad4, some → Ae5, map_eq_some_iff → Ag6, bind_some → Ah1, isSome_iff_exists → Ai3
open Classical renaming choose_spec → Af9, choose → Ah0, propDecidable → Al4
open Int renaming toNat_natCast → Ag, eq_ofNat_of_zero_le → Aj2, fdiv_eq_ediv_of_nonneg → Al2
open Array renaming length_toList → An1
open Decidable renaming decide → v9
open Option renaming some → y0, none → u0
open Bool renaming true → k9, false → y9
namespace L2
open PySem PySem.Spec PyProof.Rows
abbrev zdw:=Sum Int Str
def qbf:zdw->Value->Bool
 | .inl k,v=>Value.isInt k v
 | .inr x,v=>Value.isStrOf x v
def qde (w:World):zdw->Int
 | .inl k=>hashInt k
 | .inr x=>hashStr w x
def Zc: ∀ {k}{v},qbf k v=k9->(∃ i t,k=Sum.inl i/\v=Value.int i t)\/(∃ x t,k=Sum.inr x/\v=Value.str x t)
 | .inl i,v,h=>by
  obtain⟨t,e⟩:=Value.isInt_shape h
  exact .inl ⟨i,t,rfl,e⟩
 | .inr x,v,h=>by
  obtain⟨t,e⟩:=Value.isStrOf_shape h
  exact .inr ⟨x,t,rfl,e⟩
def qaI (i) (t):qbf (.inl i) (.int i t)=true:=by simp [qbf,Value.isInt]
def xcB (a b):v9 ((Sum.inl a:zdw)=Sum.inl b)=(a==b):=by grind
def jcw (a b):v9 ((Sum.inr a:zdw)=Sum.inr b)=v9 (a=b):=by simp
def zch (a) (b):v9 ((Sum.inl a:zdw)=Sum.inr b)=false:=decide_eq_false (λq=>nomatch q)
def jcF (a) (b):v9 ((Sum.inr a:zdw)=Sum.inl b)=false:=decide_eq_false (λq=>nomatch q)
noncomputable def qB (prog:Program) (w:World):PySem.KeyKind prog w zdw where
 is:=qbf
 hash:=qde w
 inj:=λv a b g f=>by
  rcases Zc g with⟨i,t,rfl,rfl⟩ | ⟨x,t,rfl,rfl⟩
  ·rcases Zc f with⟨j,u,rfl,e⟩ | ⟨y,u,rfl,e⟩
   ·injection e with c _;rw [c]
   ·exact nomatch e
  ·rcases Zc f with⟨j,u,rfl,e⟩ | ⟨y,u,rfl,e⟩
   ·exact nomatch e
   ·injection e with c _;rw [c]
 byValue:=λk v h=>by
  rcases Zc h with⟨i,t,rfl,rfl⟩ | ⟨x,t,rfl,rfl⟩<;>rfl
 pyHash:=λd h=>by
  rcases Zc d with⟨i,t,rfl,rfl⟩ | ⟨x,t,rfl,rfl⟩
  ·exact wpAny_pyHash_int h
  ·exact wpAny_pyHash_str h
 eqBool:=λl d h=>by
  rcases Zc l with⟨i,t,rfl,rfl⟩ | ⟨x,t,rfl,rfl⟩
  ·rcases Zc d with⟨j,u,rfl,rfl⟩ | ⟨y,u,rfl,rfl⟩
   ·rw [xcB]at h;exact wpAny_eqBool_int h
   ·rw [zch]at h;exact SeqAt.EqAt.int_str i t y u _ _ _ _ h
  ·rcases Zc d with⟨j,u,rfl,rfl⟩ | ⟨y,u,rfl,rfl⟩
   ·rw [jcF]at h;exact SeqAt.EqAt.str_int x t j u _ _ _ _ h
   ·rw [jcw]at h;exact wpAny_eqBool_str h
 «strs» :=λk x t v h=>by
  rcases Zc h with⟨i,u,rfl,e⟩ | ⟨y,u,rfl,e⟩
  ·exact nomatch e
  ·injection e with c _
   subst c
   cases v<;>rfl
def zt (prog) (w) (i) (t):(qB prog w).is (.inl i) (.int i t)=true:=qaI i t
inductive V where
 | non | bl (b:Bool) | int (i:Int) | str (x:Str) | byt (b:Array UInt8) | flt (b:UInt64) | ref (a:Addr) | ty (n:String)
 deriving DecidableEq
noncomputable def RelV:V->Value->Prop
 | .non,u=>u=Value.none
 | .bl b,u=>u=Value.bool b
 | .int i,u=> ∃t,u=Value.int i t
 | .str x,u=> ∃t,u=Value.str x t
 | .byt b,u=> ∃t,u=Value.bytes b t
 | .flt b,u=> ∃t,u=Value.float b t
 | .ref a,u=>u=Value.ref a
 | .ty n,u=>u=Value.type n
abbrev Vals:List V->List Value->Prop:=Paired RelV
theorem Vals.length (r:Vals xs us):xs.length=us.length:=Paired.length r
theorem Vals.get: ∀ {xs}{us}{i:Nat}{x},Vals xs us->xs[i]? =y0 x-> ∃u,us[i]? =y0 u/\RelV x u
 | _,_,_,_,.nil,e=>by simp at e
 | _,_,0,_,.cons r _,e=>by simp at e;subst e;exact⟨_,rfl,r⟩
 | _,_,i+1,x,.cons _ t,e=>by
  obtain⟨u,b,a⟩:=Vals.get t (by simpa using e)
  exact⟨u,by simpa using b,a⟩
theorem Vals.set (r:RelV x u): ∀ {xs}{a} i,Vals xs a->Vals (xs.set i x) (a.set i u)
 | _,_,_,.nil=> .nil
 | _,_,0,.cons _ t=> .cons r t
 | _,_,i+1,.cons q t=> .cons q (Vals.set r i t)
theorem Vals.append: ∀ {xs ys}{a ws},Vals xs a->Vals ys ws->Vals (xs++ys) (a++ws)
 | _,_,_,_,.nil,s=>s
 | _,_,_,_,.cons r t,s=> .cons r (Vals.append t s)
theorem Vals.take: ∀ {xs}{a}(n),Vals xs a->Vals (xs.take n) (a.take n)
 | _,_,0,_=> .nil
 | _,_,_+1,.nil=> .nil
 | _,_,n+1,.cons r t=> .cons r (Vals.take n t)
theorem Vals.drop: ∀ {xs}{a}(n),Vals xs a->Vals (xs.drop n) (a.drop n)
 | _,_,0,r=>r
 | _,_,_+1,.nil=> .nil
 | _,_,n+1,.cons _ t=>Vals.drop n t
def RelO:Option V->Option Value->Prop
 | some v,y0 u=>RelV v u
 | none,none=>True
 | _,_=>False
def KV {a:Type}:List (a×V)->List (a×Value)->Prop:=Paired λ(p:a×V) (q:a×Value)=>p.1=q.1/\RelV p.2 q.2
def kV:zdw->V
 | .inl i=> .int i
 | .inr x=> .str x
inductive HO where
 | lst (xs:List V)
 | tup (xs:List V)
 | dK (kvs:List (zdw×V)) | dT (kvs:List (List zdw×V))
 | set (S:Int->Bool) (n:Nat)
 | ins (C dx:Addr) (fs:List (Str×V))
 | own (x:Addr)
 | xd (fs:List (Str×V))
 | met (f x:Addr)
 | rng (lo hi:Int)
 | frz (o:Obj) (u:HO)
 | tbl (ps:Array Value)
 | ext (φ:Heap->Prop)
abbrev Hp:=Addr->Option HO
def zdL (H:Hp) (a:Addr) (o:HO):Hp:=λb=>if b=a then y0 o else H b
def xb :zdL H a o a=y0 o:=by unfold zdL;rw [if_pos rfl]
def qa (h:b≠a):zdL H a o b=H b:=by unfold zdL;rw [if_neg h]
def Xa {H:Hp}(h:H a=y0 o) (h':H b=u0):a≠b:=by
 intro e;subst e;rw [h]at h';cases h'
noncomputable def PTup (h:Heap) (a:Addr) (b:Array Value):Prop:= ∃o,h.get? a=some o/\o.cls= .type "tuple" /\o.dict=none/\ ∃n,o.data= .seq b n
def PTup.is (p:PTup h a items):IsTup h a items:=let ⟨o,e,c,_,n,d⟩:=p; ⟨o,e,c,n,d⟩
theorem PTup.lt (p:PTup h a items):a<h.objs.size:=p.is.lt
def PTup.new (h:Heap) (items):PTup (h.push { cls:= .type "tuple",data:= .seq items }) h.objs.size items:=⟨_,Heap.get?_push_size _ rfl,rfl,rfl,_,rfl⟩
section
variable (P:Program) (w:World)
noncomputable def ObjOk (H:Hp) (h:Heap) (a:Addr):HO->Prop
 | .lst xs=>xs.length<=sizeLine/\ ∃(b:List Value) (n:Nat),Vals xs b/\h.get? a=y0 { cls:= .type "list",data:= .seq b.toArray n }
 | .tup xs=>xs.length<=sizeLine/\ ∃b:List Value,Vals xs b/\PTup h a b.toArray
 | .dK c=>c.length<=sizeLine/\(a==sysModules)=y9/\ ∃e,KV c e/\h.DictOf (qB P w) a e
 | .dT c=>c.length<=sizeLine/\(a==sysModules)=y9/\ ∃xs:List (List zdw×Addr×Value),
  Paired (λ(p:List zdw×V) (q:List zdw×Addr×Value)=>p.1=q.1/\H q.2.1=y0 (.tup (p.1.map kV))/\RelV p.2 q.2.2) c xs ∧
  ∃o es g,h.get? a=y0 o/\o.ExactDict/\o.data= .dict es g/\es.toList=xs.map (entryOfKey (tupleKind (qB P w)))/\(xs.map (·.1)).Nodup
 | .set S n=>h.SetOf (intKind P w) a S n
 | .ins C dx fs=>H dx=y0 (.own a)/\fs.length<=1000/\dx≠a/\h.get? a=y0 (Ao0 C dx) ∧
  ∃mA,h.Ns1 dx mA/\(∀ f,RelO (fs.lookup f) (mA f))/\PySem.Within mA (fs.map (·.1))
 | .own _=> ∃o,h.get? a=y0 o
 | .xd fs=> ∃mA,h.Ns1 a mA/\ ∀f,RelO (fs.lookup f) (mA f)
 | .rng lo hi=> ∃t u v,h.get? a=y0 { cls:= .type "range",data:= .fields #[.int lo t,.int hi u,.int 1 v] }
 | .frz o u=>h.get? a=y0 o/\ObjOk H h a u
 | .tbl ps=>h.get? a=y0 { cls:= .none,data:= .fields ps }
 | .met f x=>h.get? a=y0 (PySem.W.methodObj (.ref f) (.ref x))
 | .ext d=>d h/\(∃ o,h.get? a=y0 o)/\ ∀h1 h2:Heap,d h1->(∀ o,h1.get? a=y0 o->h2.get? a=y0 o)->d h2
def HOk (H:Hp) (h:Heap):Prop:= ∀a o,H a=y0 o->ObjOk P w H h a o
end
section
variable {P:Program}{w:World}{H H':Hp}{h h':Heap}{a:Addr}{o:HO}
theorem ObjOk.lt (x:ObjOk P w H h a o):a<h.objs.size:=by
 cases o with
 | lst c=>obtain⟨_,_,_,_,e⟩:=x;exact Ab5 e
 | tup c=>obtain⟨_,_,_,p⟩:=x;exact p.lt
 | dK b=>obtain⟨_,_,_,_,o,_,_,e,_⟩:=x;exact Ab5 e
 | dT b=>obtain⟨_,_,_,_,o,_,_,e,_⟩:=x;exact Ab5 e
 | set S n=>obtain⟨o,_,_,_,e,_⟩:=x;exact Ab5 e
 | ins C j fs=>obtain⟨_,_,_,e,_⟩:=x;exact Ab5 e
 | own y=>obtain⟨_,e⟩:=x;exact Ab5 e
 | xd fs=>obtain⟨_,⟨_,_,_,e,_⟩,_⟩:=x;exact Ab5 e
 | rng d k=>obtain⟨_,_,_,e⟩:=x;exact Ab5 e
 | frz g u=>obtain⟨e,_⟩:=x;exact Ab5 e
 | tbl i=>exact Ab5 (x)
 | met f y=>exact Ab5 (x)
 | ext l=>obtain⟨_,⟨_,e⟩,_⟩:=x;exact Ab5 e
theorem Paired.mapP : ∀ {d}{c},Paired F d c->(∀ a b,F a b->G a b)->Paired G d c
 | _,_,.nil,_=> .nil
 | _,_,.cons r t,f=> .cons (f _ _ r) (Paired.mapP t f)
def ObjOk.stay (x:ObjOk P w H h a o) (k: ∀b u,(b=a\/H b=y0 (.own a))->h.get? b=y0 u->h'.get? b=y0 u)
 (E: ∀b,H b=y0 (.own a)->H' b=y0 (.own a)) (D: ∀b xs,H b=y0 (.tup xs)->H' b=y0 (.tup xs)):ObjOk P w H' h' a o:=by
 induction o with
 | lst xs=>obtain⟨z,l,n,r,e⟩:=x;exact⟨z,l,n,r,k _ _ (.inl rfl) e⟩
 | tup xs=>obtain⟨z,l,r,g,e,c⟩:=x;exact⟨z,l,r,g,k _ _ (.inl rfl) e,c⟩
 | dK A=>obtain⟨z,y,F,r,g,i,j,e,c⟩:=x;exact⟨z,y,F,r,g,i,j,k _ _ (.inl rfl) e,c⟩
 | dT A=>
  obtain⟨z,y,xs,r,g,i,j,e,c⟩:=x
  exact⟨z,y,xs,Paired.mapP r λp q z=>⟨z.1,D _ _ z.2.1,z.2.2⟩,g,i,j,k _ _ (.inl rfl) e,c⟩
 | set S n=>obtain⟨g,i,j,t,e,c⟩:=x;exact⟨g,i,j,t,k _ _ (.inl rfl) e,c⟩
 | ins C L fs=>
  obtain⟨d,z,ne,e,m,⟨s,i,j,I,c⟩,r⟩:=x
  exact⟨E _ d,z,ne,k _ _ (.inl rfl) e,m,⟨s,i,j,k _ _ (.inr d) I,c⟩,r⟩
 | own y=>obtain⟨g,e⟩:=x;exact⟨g,k _ _ (.inl rfl) e⟩
 | xd fs=>obtain⟨m,⟨s,i,j,e,c⟩,r⟩:=x;exact⟨m,⟨s,i,j,k _ _ (.inl rfl) e,c⟩,r⟩
 | rng J M=>obtain⟨t,u,v,e⟩:=x;exact⟨t,u,v,k _ _ (.inl rfl) e⟩
 | frz g u G=>obtain⟨e,q⟩:=x;exact⟨k _ _ (.inl rfl) e,G q⟩
 | tbl K=>
  have e:=x
  exact k a _ (.inl rfl) e
 | met f y=>
  have e:=x
  exact k a _ (.inl rfl) e
 | ext N=>obtain⟨p,⟨o,e⟩,B⟩:=x;exact⟨B _ _ p λo q=>k _ _ (.inl rfl) q,⟨o,k _ _ (.inl rfl) e⟩,B⟩
theorem HOk.lt (x:HOk P w H h) (e:H a=y0 o):a<h.objs.size:=(x a o e).lt
def HOk.fresh (x:HOk P w H h) (e:h.objs.size<=a):H a=none:=by
 cases q:H a with
 | none=>rfl
 | some u=>exact absurd (Ab0 (x.lt q) e) (Ag9 _)
def HOk.kept (x:HOk P w H h) (k: ∀b u,h.get? b=y0 u->h'.get? b=y0 u):HOk P w H h':=λa o e=>
 (x a o e).stay (λb u _ q=>k b u q) (λ_ q=>q) λ_ _ q=>q
def HOk.laid (x:HOk P w H h) (k: ∀b u,h.get? b=y0 u->h'.get? b=y0 u) (f:h.objs.size<=a) (new:ObjOk P w (zdL H a o) h' a o):HOk P w (zdL H a o) h':=λb u e=>by
 have hn:=x.fresh f
 by_cases d:b=a
 ·subst d;rw [xb]at e;cases e;exact new
 ·rw [qa d]at e
  exact(x b u e).stay (λc v _ q=>k c v q) (λc q=>by rw [qa (Xa q hn)];exact q) λc g q=>by rw [qa (Xa q hn)];exact q
end
def Rd (H:Hp) (a:Addr) (u:HO):Prop:=H a=y0 u\/ ∃o,H a=y0 (.frz o u)
def Rd.ok (r:Rd H a u) (x:HOk P w H h):ObjOk P w H h a u:=by
 rcases r with r | ⟨o,r⟩
 ·exact x a u r
 ·obtain⟨_,q⟩:=x a _ r
  exact q
noncomputable def xdB:Option HO->Prop
 | some (.lst _)=>True
 | some (.dK _)=>True
 | some (.dT _)=>True
 | some (.set _ _)=>True
 | some (.ins _ _ _)=>True
 | some (.ext _)=>True
 | _=>False
section
variable {P:Program}{w:World}{H:Hp}{h h':Heap}{x e:Addr}{o':HO}
def HOk.write (ok:HOk P w H h) (j:xdB (H x)) (n:e=x\/H e=y0 (.own x)) (k: ∀b u,b≠e->h.get? b=y0 u->h'.get? b=y0 u) (m: ∃u,h'.get? e=y0 u)
 (new:ObjOk P w (zdL H x o') h' x o'):HOk P w (zdL H x o') h':=λb u q=>by
 have d: ∀c y,H c=y0 (.own y)->c≠x:=λc y r z=>by subst z;rw [r]at j;exact j
 have f: ∀c g,H c=y0 (.tup g)->c≠x:=λc g r z=>by subst z;rw [r]at j;exact j
 by_cases i:b=x
 ·subst i;rw [xb]at q;cases q;exact new
 ·rw [qa i]at q
  by_cases a:b=e
  ·have o:H b=y0 (.own x):=by
    rcases n with z | z
    ·exact absurd (a.trans z) i
    ·rw [a];exact z
   rw [q]at o;cases o
   obtain⟨v,p⟩:=m
   exact⟨v,by rw [a];exact p⟩
  ·refine(ok b u q).stay (λc v l r=>k c v ?_ r) (λc r=>by rw [qa (d c b r)];exact r) λc g r=>by rw [qa (f c g r)];exact r
   rcases l with rfl | l
   ·exact a
   ·rintro rfl
    rcases n with z | z
    ·exact d c b l z
    ·rw [l]at z;cases z;exact i rfl
end
structure Un (fs ex:List Addr) (H H':Hp) (h h':Heap):Prop where
 keep: ∀b o,h.get? b=y0 o->H b=u0->b∉fs->b∉ex->h'.get? b=y0 o
 slot: ∀b o,h.get? b=y0 o->H b=u0->b∈fs->b∉ex-> ∃sl,h'.get? b=y0 { o with slots:=sl }
 free: ∀b o,h.get? b=y0 o->H b=u0->b∉ex->H' b=u0
 there: ∀b o,h.get? b=y0 o->b∉ex-> ∃o',h'.get? b=y0 o'
 tups: ∀b xs,H b=y0 (.tup xs)->H' b=y0 (.tup xs)
 frzs: ∀b o u,H b=y0 (.frz o u)->H' b=y0 (.frz o u)
 tbls: ∀b ps,H b=y0 (.tbl ps)-> ∃more,H' b=y0 (.tbl (ps++more))
section
variable {fs fs' ex ex':List Addr}{H H1 H2:Hp}{h h1 h2 h':Heap}{a x e:Addr}{o:HO}
def Un.any (u:Un fs ex H H1 h h1)(q:h.get? b=y0 ob) (n:H b=u0) (a:b∉ex): ∃sl,h1.get? b=y0 { ob with slots:=sl }:=by
 by_cases c:b∈fs
 ·exact u.slot b ob q n c a
 ·exact⟨ob.slots,u.keep b ob q n c a⟩
def Un.kept (k: ∀b u,h.get? b=y0 u->h'.get? b=y0 u):Un fs ex H H h h':=
 ⟨λb a q _ _ _=>k b a q,λb a q _ _ _=>⟨a.slots,k b a q⟩,λ_ _ _ n _=>n,λb a q _=>⟨a,k b a q⟩,λ_ _ q=>q,λ_ _ _ q=>q,λ_ c q=>⟨#[],by rw [q];simp⟩⟩
def Un.refl:Un fs ex H H h h:=Un.kept λ_ _ q=>q
def Un.laid (k: ∀b u,h.get? b=y0 u->h'.get? b=y0 u) (d:h.objs.size<=a) (c:H a=u0):Un fs ex H (zdL H a o) h h' where
 keep:=λb u q _ _ _=>k b u q
 slot:=λb u q _ _ _=>⟨u.slots,k b u q⟩
 free:=λb u q n _=>by rw [qa (Ac3 (Ab0 (Ab5 q) d))];exact n
 there:=λb u q _=>⟨u,k b u q⟩
 tups:=λb e q=>by rw [qa (Xa q c)];exact q
 frzs:=λb u e q=>by rw [qa (Xa q c)];exact q
 tbls:=λb f q=>⟨#[],by rw [qa (Xa q c),q];simp⟩
def Un.write (c:xdB (H x)) (m:e=x\/H e=y0 (.own x)) (k: ∀b u,b≠e->h.get? b=y0 u->h'.get? b=y0 u) (d: ∃u,h'.get? e=y0 u):Un fs ex H (zdL H x o) h h':=by
 have i: ∀b,H b=u0->b≠x:=λb n z=>by subst z;rw [n]at c;exact c
 have g: ∀b,H b=u0->b≠e:=λb n z=>by
  subst z
  rcases m with r | r
  ·exact i b n r
  ·rw [n]at r;cases r
 have f: ∀b u,H b=y0 u-> ¬xdB (y0 u)->b≠x:=λb u q j z=>by subst z;rw [q]at c;exact j c
 refine⟨λb u q n _ _=>k b u (g b n) q,λb u q n _ _=>⟨u.slots,k b u (g b n) q⟩,λb u q n _=>by rw [qa (i b n)];exact n,λb u q _=> ?_,
  λb l q=>by rw [qa (f b _ q λz=>z)];exact q,λb u l q=>by rw [qa (f b _ q λz=>z)];exact q,λb p q=>⟨#[],by rw [qa (f b _ q λz=>z),q];simp⟩⟩
 by_cases a:b=e
 ·subst a;exact d
 ·exact⟨u,k b u a q⟩
end
def qd0 (h:Heap) (H:Hp):List Addr:=(Aa0 h.objs.size).filter λa=>(H a).isSome
def xaX (h:Heap) (H:Hp):Heap:=PySem.W.hideAll h (qd0 h H)
def qaC (h) (H):(xaX h H).objs.size=h.objs.size:=PySem.W.hideAll_size _ _
def za9 (e:h.get? b=y0 o) (n:H b=u0):(xaX h H).get? b=y0 o:=
 PySem.W.hideAll_get _ e λa=>by
  have q:=(Ae1.mp a).2
  rw [n]at q;simp at q
def jbK (e:(xaX h H).get? b=y0 o):h.get? b=y0 o/\H b=none:=by
 have a:=PySem.W.of_hideAll (qd0 h H) e
 refine⟨a,?_⟩
 cases q:H b with
 | none=>rfl
 | some x=>
  have c:b∈qd0 h H:=Ae1.mpr ⟨Ab3.mpr (Ab5 a),by simp [q]⟩
  have z:(xaX h H).get? b=none:=PySem.W.hideAll_none (qd0 h H) c
  rw [z]at e;cases e
noncomputable def qbE (g h:Heap) (L:Addr):List (Addr×Obj):=(Aa0 h.objs.size).filterMap λa=>if a=L\/(g.get? a).isSome=k9 then u0 else(h.get? a).map λo=>(a,o)
def rest (g h:Heap) (L d:Addr):List (Addr×Obj):=(qbE g h L).filter λp=>v9 (p.1≠d)
structure Mod (K:Aa6) (mg:Str->Option Value) (base:Heap):Prop where
 kin:K.In base
 glob:base.Ns mainGlobals mg
 blt: ∃mb,base.Ns builtinsNs mb/\ ∀x:Str,x≠ "__name__" ->mb x=bootBuiltins x
 nolimit:base.NoLimit
structure Cx where
 prog:Program
 w:World
 K:Aa6
 mg:Str->Option Value
 base:Heap
 A:Around
 N:List Str
 s₀:Shared
 H₀:Hp
 env:Env
 outer:List Env
 stack:List Env
 ex:List Addr
 fn:Str->Bool
 calm:Bool
 pn:List (Addr×Obj)
 xe:Value->Shared->Prop
def qdG (l:List Env):List Addr:=l.filterMap (·.frame)
abbrev Cx.fs (X:Cx):List Addr:=qdG X.outer
def zdy (a:Scope) (x:Str):Prop:=a.names.lookup x=y0 .local\/a.names.lookup x=y0 .cell\/a.names.lookup x=y0 .free
def qdW (a:Scope) (x:Str):Prop:=a.names.lookup x=y0 .local\/a.names.lookup x=y0 .cell
noncomputable def zc3 (env:Env) (h:Heap) (m:Str->Option Value) (x:Str) (u:Value):Prop:=
 (env.kindOf x=y0 .local/\m x=y0 u)\/((env.kindOf x=y0 .cell\/env.kindOf x=y0 .free)/\ ∃c,env.cells.lookup x=y0 c/\h.IsCell c (y0 u))
structure Cx.Ok (X:Cx):Prop where
 mod:Mod X.K X.mg X.base
 kind:X.env.scope.kind= .function
 glob:X.env.globals=mainGlobals
 blt:X.env.builtins=builtinsNs
 above:X.s₀.heap.objs.size<=X.env.locals
 inj: ∀x y c,X.env.cells.lookup x=y0 c->X.env.cells.lookup y=y0 c->x=y
 has: ∀x,(X.env.kindOf x=y0 .cell\/X.env.kindOf x=y0 .free)-> ∃c,X.env.cells.lookup x=y0 c
 cab: ∀x c,X.fn x=k9->X.env.cells.lookup x=y0 c->X.s₀.heap.objs.size<=c
 hd:X.calm=k9->X.A.handled=u0
 frames:X.A.frames=y0 X.stack
 stk:X.stack=X.outer\/(X.stack=X.env::X.outer/\X.env.frame=y0 X.env.locals)
 exf: ∀b∈X.ex,b≠X.env.locals/\ ∀x c,X.env.cells.lookup x=y0 c->c≠b
 bs: ∀b o,X.base.get? b=y0 o->X.s₀.heap.get? b=y0 o/\X.H₀ b=u0
 bsz:X.base.objs.size<=X.s₀.heap.objs.size
 noex: ∀b o,X.base.get? b=y0 o->b∉X.ex
 exfs: ∀b∈X.ex,b∉X.fs
 funs:X.s₀.heap.FunFrames X.base X.outer
 frf: ∀b∈X.fs,X.H₀ b=u0
structure Inv (X:Cx) (k8:List (Addr×Obj)) (U:List (Option V)) (H:Hp) (s:Shared):Prop where
 ok:X.Ok
 os:s.os=X.s₀.os
 bare:AllBare s.gens
 base:Un X.fs X.ex X.H₀ H X.s₀.heap s.heap
 loc: ∃m,s.heap.Ns X.env.locals m/\ ∀(i:Nat) (x:Str) (v:V),X.N[i]? =y0 x->U[i]? =y0 (y0 v)->zdy X.env.scope x-> ∃u,RelV v u/\zc3 X.env s.heap m x u
 cell: ∀x c,X.env.cells.lookup x=y0 c-> ∃v,s.heap.IsCell c v
 free:H X.env.locals=u0
 freeC: ∀x c,X.env.cells.lookup x=y0 c->H c=u0
 pin: ∀p∈X.pn++k8,s.heap.get? p.1=y0 p.2/\H p.1=u0/\p.1≠X.env.locals/\p.1∉X.fs/\ ∀v,p.2.data≠ .cell v
 hok:HOk X.prog X.w H s.heap
 len:U.length=X.N.length
section
variable {X:Cx}{k8:List (Addr×Obj)}{U:List (Option V)}{H H':Hp}{s:Shared}{h':Heap}
def Cx.Ok.nofr (ok:X.Ok)(e:X.base.get? b=y0 o):b∉X.fs:=λa=>by
 have:=(ok.funs.mem a).1
 rw [e]at this;cases this
theorem Inv.bs (I:Inv X k8 U H s): ∀b o,X.base.get? b=y0 o->s.heap.get? b=y0 o/\H b=none:=λb o e=>
 ⟨I.base.keep b o (I.ok.bs b o e).1 (I.ok.bs b o e).2 (I.ok.nofr e) (I.ok.noex b o e),I.base.free b o (I.ok.bs b o e).1 (I.ok.bs b o e).2 (I.ok.noex b o e)⟩
def Inv.bk (I:Inv X k8 U H s): ∀b o,X.base.get? b=y0 o->s.heap.get? b=y0 o:=λb o e=>(I.bs b o e).1
theorem Inv.mod (I:Inv X k8 U H s):Mod X.K X.mg X.base:=I.ok.mod
def Inv.kIn (I:Inv X k8 U H s):X.K.In s.heap:=I.ok.mod.kin.keeps I.bk
theorem Inv.lt (I:Inv X k8 U H s):X.env.locals<s.heap.objs.size:=let ⟨_,hn,_⟩:=I.loc;hn.lt
def Inv.sz (I:Inv X k8 U H s):X.s₀.heap.objs.size<=s.heap.objs.size:=Ac0 I.ok.above (Ah2 I.lt)
def Inv.nofs (I:Inv X k8 U H s)(h:s.heap.objs.size<=a):a∉X.fs:=λb=>by
 obtain⟨_,o,c,_⟩:=I.ok.funs.mem b
 exact absurd (Ab0 (Ab5 c) (Ac0 I.sz h)) (Ag9 _)
def Inv.cne (I:Inv X k8 U H s): ∀x c,X.env.cells.lookup x=y0 c->c≠X.env.locals:=λx c e z=>by
 obtain⟨v,o,f,d⟩:=I.cell x c e
 obtain⟨m,⟨g,h,i,b,a,_⟩,_⟩:=I.loc
 rw [z,b]at f;cases f;rw [a]at d;cases d
theorem Inv.funs (I:Inv X k8 U H s):s.heap.FunFrames X.base X.outer:=by
 have all: ∀ l,(∀ b∈qdG l,b∈X.fs)->X.s₀.heap.FunFrames X.base l->s.heap.FunFrames X.base l:=by
  intro l
  induction l with
  | nil=>intro _ _;trivial
  | cons m r n=>
   intro f k
   obtain⟨j,⟨L,o,d,hn,i,h⟩,g⟩:=k
   have a:=f L (by unfold qdG;rw [An3,d];exact Aa3)
   obtain⟨sl,e⟩:=I.base.slot L o i (I.ok.frf L a) a λz=>I.ok.exfs L z a
   exact⟨j,⟨L,_,d,hn,e,h⟩,n (λb c=>f b (by unfold qdG;rw [An3,d];exact Aa2 _ c)) g⟩
 exact all X.outer (λ_ c=>c) I.ok.funs
theorem Inv.stack (I:Inv X k8 U H s):s.heap.FunFrames X.base X.stack:=by
 rcases I.ok.stk with e | ⟨e,a⟩
 ·rw [e];exact I.funs
 ·rw [e]
  obtain⟨m,hn,_⟩:=I.loc
  refine .cons (by rw [I.ok.kind];decide) a hn ?_ I.funs
  exact Heap.get?_none_of_le (Ac0 I.ok.bsz I.ok.above)
def Inv.stkSub (I:Inv X k8 U H s): ∀b∈qdG X.stack,b∈X.env.locals::X.fs:=λb a=>by
 rcases I.ok.stk with e | ⟨e,c⟩
 ·rw [e]at a;exact Aa2 _ a
 ·rw [e]at a
  unfold qdG at a
  rw [An3,c]at a
  exact a
def Inv.stkFree (I:Inv X k8 U H s): ∀b∈qdG X.stack,H b=none:=λb a=>by
 rcases Ab4.mp (I.stkSub b a)with e | a
 ·rw [e];exact I.free
 ·obtain⟨_,o,c,_⟩:=I.ok.funs.mem a
  exact I.base.free b o c (I.ok.frf b a) λz=>I.ok.exfs b z a
def Inv.step {ch:List Addr}(I:Inv X k8 U H s)
 (h: ∀b∈ch,(b∈X.ex\/X.s₀.heap.objs.size<=b)/\b≠X.env.locals/\(∀ x c,X.env.cells.lookup x=y0 c->c≠b)/\ ∀p∈X.pn++k8,p.1≠b)
 (keep: ∀b o,b≠X.env.locals->b∉X.fs->b∉ch->s.heap.get? b=y0 o->H b=u0->h'.get? b=y0 o)
 (y: ∀b o,b≠X.env.locals->b∈X.fs->b∉ch->s.heap.get? b=y0 o->H b=u0-> ∃sl,h'.get? b=y0 { o with slots:=sl }) (f: ∀b o,b∉ch->s.heap.get? b=y0 o->H b=u0->H' b=u0)
 (there: ∀b o,b∉ch->s.heap.get? b=y0 o-> ∃o',h'.get? b=y0 o')
 (C: ∀b xs,H b=y0 (.tup xs)->H' b=y0 (.tup xs)) (F: ∀b o u,H b=y0 (.frz o u)->H' b=y0 (.frz o u)) (D: ∀b ps,H b=y0 (.tbl ps)-> ∃more,H' b=y0 (.tbl (ps++more)))
 (R: ∀m,s.heap.Ns X.env.locals m->h'.Ns X.env.locals m) (L:HOk X.prog X.w H' h') (V:AllBare g'):
 Inv X k8 U H' { s with heap:=h',gens:=g',drawn:=d',toks:=t' }:=by
 have E: ∀b o,X.s₀.heap.get? b=y0 o->b≠X.env.locals:=λb o e=>Ac3 (Ab0 (Ab5 e) I.ok.above)
 have t: ∀b o,X.s₀.heap.get? b=y0 o->b∉X.ex->b∉ch:=λb o e a A=>by
  rcases (h b A).1 with z | z
  ·exact a z
  ·exact absurd (Ab0 (Ab5 e) z) (Ag9 _)
 have j: ∀x c,X.env.cells.lookup x=y0 c-> ∀v,s.heap.IsCell c v->h'.IsCell c v:=by
  rintro x c e v ⟨o,B,K⟩
  have g:c∉ch:=λz=>(h c z).2.2.1 x c e rfl
  by_cases M:c∈X.fs
  ·obtain⟨sl,q⟩:=y c o (I.cne x c e) M g B (I.freeC x c e)
   exact⟨_,q,K⟩
  ·exact⟨o,keep c o (I.cne x c e) M g B (I.freeC x c e),K⟩
 refine⟨I.ok,I.os,V,⟨λb o e n A a=> ?_,λb o e n A a=> ?_,λb o e n a=> ?_,λb o e a=> ?_,λb xs e=>C b xs (I.base.tups b xs e),λb o xs e=>F b o xs (I.base.frzs b o xs e),λb ps e=> ?_⟩,?_,λx c e=> ?_,?_,λx c e=> ?_,λp O=> ?_,L,I.len⟩
 ·exact keep b o (E b o e) A (t b o e a) (I.base.keep b o e n A a) (I.base.free b o e n a)
 ·obtain⟨sl,w⟩:=I.base.slot b o e n A a
  obtain⟨J,G⟩:=y b _ (E b o e) A (t b o e a) w (I.base.free b o e n a)
  exact⟨J,G⟩
 ·obtain⟨o',w⟩:=I.base.there b o e a
  exact f b o' (t b o e a) w (I.base.free b o e n a)
 ·obtain⟨o',w⟩:=I.base.there b o e a
  exact there b o' (t b o e a) w
 ·obtain⟨P,w⟩:=I.base.tbls b ps e
  obtain⟨Q,G⟩:=D b _ w
  exact⟨P++Q,by rw [G,Array.append_assoc]⟩
 ·obtain⟨m,hn,T⟩:=I.loc
  refine⟨m,R m hn,λi x v w G S=> ?_⟩
  obtain⟨u,r,l⟩:=T i x v w G S
  refine⟨u,r,?_⟩
  rcases l with l | ⟨k,c,e,z⟩
  ·exact .inl l
  ·exact .inr ⟨k,c,e,j x c e _ z⟩
 ·obtain⟨v,z⟩:=I.cell x c e
  exact⟨v,j x c e v z⟩
 ·obtain⟨m,⟨o,_,_,B,_⟩,_⟩:=I.loc
  exact f _ o (λz=>(h _ z).2.1 rfl) B I.free
 ·obtain⟨v,o,B,K⟩:=I.cell x c e
  exact f c o (λz=>(h c z).2.2.1 x c e rfl) B (I.freeC x c e)
 ·obtain⟨e,n,ne,N,d⟩:=I.pin p O
  have g:p.1∉ch:=λz=>(h p.1 z).2.2.2 p O rfl
  exact⟨keep p.1 p.2 ne N g e n,f p.1 p.2 g e n,ne,N,d⟩
def Inv.un (I:Inv X k8 U H s) (u:Un X.fs [] H H' s.heap h') (f:HOk X.prog X.w H' h'):Inv X k8 U H' { s with heap:=h',toks:=t' }:=by
 obtain⟨m,⟨o,q,t,h,r⟩,_⟩:=id I.loc
 obtain⟨sl,k⟩:=u.any h I.free (by simp)
 exact I.step (ch:= []) (λ_ z=>nomatch z) (λb o _ c _ e n=>u.keep b o e n c (by simp)) (λb o _ c _ e n=>u.slot b o e n c (by simp)) (λb o _ e n=>u.free b o e n (by simp)) (λb o _ e=>u.there b o e (by simp)) u.tups u.frzs u.tbls (λl j=>by
  obtain⟨p,d,g,a,i⟩:=j
  rw [h]at a;cases a
  exact⟨_,d,g,k,i⟩) f I.bare
def Inv.call (I:Inv X k8 U H s) (u:Un (qdG X.stack) ch H H' s.heap h') (i:HOk X.prog X.w H' h') (v:AllBare g')
 (d: ∀b∈ch,(b∈X.ex\/X.s₀.heap.objs.size<=b)/\b≠X.env.locals/\(∀ x c,X.env.cells.lookup x=y0 c->c≠b)/\ ∀p∈X.pn++k8,p.1≠b):
 Inv X k8 U H' { s with heap:=h',gens:=g',drawn:=d',toks:=t' }:=by
 obtain⟨m,⟨o,A,B,k,r⟩,_⟩:=id I.loc
 obtain⟨sl,g⟩:=u.any k I.free λz=>(d _ z).2.1 rfl
 exact I.step d (λb o g t a e n=>u.keep b o e n (λz=>(Ab4.mp (I.stkSub b z)).elim g t) a) (λb o _ _ a e n=>u.any e n a) (λb o a e n=>u.free b o e n a) (λb o a e=>u.there b o e a) u.tups u.frzs u.tbls (λw q=>by
  obtain⟨y,h,j,f,l⟩:=q
  rw [k]at f;cases f
  exact⟨_,h,j,g,l⟩) i v
def Inv.turned (I:Inv X k8 U H s) (k: ∀b o,b≠it->s.heap.get? b=y0 o->h'.get? b=y0 o) (l:H it=u0) (f:it≠X.env.locals)
 (h1:it∈X.ex\/X.s₀.heap.objs.size<=it) (h2: ∀x c,X.env.cells.lookup x=y0 c->c≠it) (h: ∀p∈X.pn++k8,p.1≠it):Inv X k8 U H { s with heap:=h',toks:=t' }:=by
 have d: ∀b u,H b=y0 u->b≠it:=λb u e z=>by rw [z,l]at e;cases e
 refine I.step (ch:= [it]) (λb i=> ?_) (λb o _ _ a e _=>k b o (λz=>a (by simp [z])) e) (λb o _ _ a e _=>⟨o.slots,k b o (λz=>a (by simp [z])) e⟩) (λ_ _ _ _ n=>n)
  (λb o a e=>⟨o,k b o (λz=>a (by simp [z])) e⟩) (λ_ _ e=>e) (λ_ _ _ e=>e) (λb y e=>⟨#[],by rw [e];simp⟩) (λm g=> ?_) (λb u e=> ?_) I.bare
 ·have e:=by simpa using i
  subst e
  exact⟨h1,f,h2,h⟩
 ·obtain⟨o,t,w,j,r⟩:=g
  exact⟨o,t,w,k _ o (Ne.symm f) j,r⟩
 ·refine(I.hok b u e).stay (λc v a q=>k c v ?_ q) (λ_ q=>q) λ_ _ q=>q
  rcases a with z | z
  ·rw [z];exact d b u e
  ·exact d c _ z
def Inv.tok (I:Inv X k8 U H s) (t):Inv X k8 U H { s with toks:=t }:=I.un Un.refl I.hok
theorem Inv.kept (I:Inv X k8 U H s) (k: ∀b u,s.heap.get? b=y0 u->h'.get? b=y0 u):Inv X k8 U H { s with heap:=h',toks:=t' }:=I.un (Un.kept k) (I.hok.kept k)
theorem Inv.laid (I:Inv X k8 U H s) (k: ∀b u,s.heap.get? b=y0 u->h'.get? b=y0 u) (c:s.heap.objs.size<=a) (new:ObjOk X.prog X.w (zdL H a o) h' a o):
 Inv X k8 U (zdL H a o) { s with heap:=h',toks:=t' }:=I.un (Un.laid k c (I.hok.fresh c)) (I.hok.laid k c new)
theorem Inv.write (I:Inv X k8 U H s) (c:xdB (H x)) (d:e=x\/H e=y0 (.own x)) (k: ∀b u,b≠e->s.heap.get? b=y0 u->h'.get? b=y0 u) (a: ∃u,h'.get? e=y0 u)
 (new:ObjOk X.prog X.w (zdL H x o) h' x o):Inv X k8 U (zdL H x o) { s with heap:=h',toks:=t' }:=I.un (Un.write c d k a) (I.hok.write c d k a new)
def Inv.pins_of (I:Inv X k8 U H s) (h: ∀p∈pins',s.heap.get? p.1=y0 p.2/\H p.1=u0/\p.1≠X.env.locals/\p.1∉X.fs/\ ∀v,p.2.data≠ .cell v):Inv X pins' U H s:=
 ⟨I.ok,I.os,I.bare,I.base,I.loc,I.cell,I.free,I.freeC,λp a=>(Af2.mp a).elim (λz=>I.pin p (Ac9 _ z)) (h p),I.hok,I.len⟩
def qI {N:List Str}(c:N.Nodup){i j:Nat}(a:N[i]? =y0 x) (b:N[j]? =y0 x):i=j:=by
 obtain⟨g,e⟩:=Ac1.mp a
 obtain⟨f,d⟩:=Ac1.mp b
 exact(List.getElem_inj c).mp (e.trans d.symm)
def jaH (I:Inv X k8 U H s) (hN:X.N.Nodup) (P:X.N[i]? =y0 x) (w:qdW X.env.scope x) (r:RelV v u)
 (h: ∀s',Inv X k8 (U.set i (y0 v)) H s'->(∃ a,Aj8 a s.heap s'.heap/\(a=X.env.locals\/X.env.cells.lookup x=y0 a))->Q () s') (hf:X.fn x=k9\/X.env.scope.names.lookup x=y0 .local:=by first | exact .inl rfl | exact .inr rfl | assumption):wpAny M A (storeName X.env x u) Q E s:=by
 obtain⟨m,hn,hl⟩:=id I.loc
 have R:(X.env.scope.kind== .class||(X.env.scope.kind== .module&&X.env.locals != X.env.globals))=false:=by rw [I.ok.kind];rfl
 have L:i<U.length:=by rw [I.len];exact(Ac1.mp P).1
 have cne:=I.cne
 have g: ∀ {a}{K},(∃ o,s.heap.get? a=y0 o/\H a=u0)->Aj8 a s.heap K->HOk X.prog X.w H K:=λ{a K} ha f b ob e=>by
  obtain⟨_,_,B⟩:=ha
  refine(I.hok b ob e).stay (λc V t q=>(f.2 c ?_).trans q) (λ_ q=>q) λ_ _ q=>q
  rintro rfl
  rcases t with rfl | t
  ·rw [B]at e;cases e
  ·rw [B]at t;cases t
 rcases w with D | D
 ·refine wpAny_storeName_local D hn (λK hn' f=> ?_) R
  obtain⟨oL,_,_,hoL,_⟩:=id hn
  refine h _ ⟨I.ok,I.os,I.bare,⟨λb o e n F w=> ?_,λb o e n F w=> ?_,I.base.free,λb o e w=> ?_,I.base.tups,I.base.frzs,I.base.tbls⟩,⟨_,hn',λj y v' l C e3=> ?_⟩,λy c e=> ?_,I.free,I.freeC,λp hp=> ?_,g ⟨oL,hoL,I.free⟩ f,by simpa using I.len⟩ ⟨_,f,.inl rfl⟩
  ·exact(f.2 b (Ac3 (Ab0 (Ab5 e) I.ok.above))).trans (I.base.keep b o e n F w)
  ·obtain⟨sl,l⟩:=I.base.slot b o e n F w
   exact⟨sl,(f.2 b (Ac3 (Ab0 (Ab5 e) I.ok.above))).trans l⟩
  ·obtain⟨o',l⟩:=I.base.there b o e w
   exact⟨o',(f.2 b (Ac3 (Ab0 (Ab5 e) I.ok.above))).trans l⟩
  ·by_cases G:j=i
   ·subst G
    rw [P]at l;cases l
    rw [Ad6 L]at C
    cases C
    exact⟨u,r,.inl ⟨D,by simp⟩⟩
   ·rw [Ad5 (Ne.symm G)]at C
    obtain⟨Y,Z,q⟩:=hl j y v' l C e3
    refine⟨Y,Z,?_⟩
    rcases q with⟨k,e⟩ | ⟨k,c,e,z⟩
    ·refine .inl ⟨k,?_⟩
     have:y≠x:=λe=>G (qI hN l (e▸P))
     simp [this,e]
    ·exact .inr ⟨k,c,e,z.sameBut f (cne y c e)⟩
  ·obtain⟨V,z⟩:=I.cell y c e
   exact⟨V,z.sameBut f (cne y c e)⟩
  ·obtain⟨e,n,ne,nf,d⟩:=I.pin p hp
   exact⟨(f.2 p.1 ne).trans e,n,ne,nf,d⟩
 ·have J:X.fn x=true:=by
   rcases hf with z | z
   ·exact z
   ·rw [z]at D;cases D
  obtain⟨c,t⟩:=I.ok.has x (.inl D)
  obtain⟨V,z⟩:=I.cell x c t
  refine wpAny_storeName_cell I.ok.kind D t z (λK O f=> ?_)
  obtain⟨oc,N,S⟩:=id z
  refine h { s with heap:=K } ⟨I.ok,I.os,I.bare,⟨λb o e n F w=> ?_,λb o e n F w=> ?_,I.base.free,λb o e w=> ?_,I.base.tups,I.base.frzs,I.base.tbls⟩,⟨m,hn.sameBut f (Ne.symm (cne x c t)),λj y v' l C e3=> ?_⟩,λy W e=> ?_,I.free,I.freeC,λp hp=> ?_,g ⟨oc,N,I.freeC x c t⟩ f,by simpa using I.len⟩ ⟨c,f,.inr t⟩
  ·exact(f.2 b (Ac3 (Ab0 (Ab5 e) (I.ok.cab x c J t)))).trans (I.base.keep b o e n F w)
  ·obtain⟨sl,l⟩:=I.base.slot b o e n F w
   exact⟨sl,(f.2 b (Ac3 (Ab0 (Ab5 e) (I.ok.cab x c J t)))).trans l⟩
  ·obtain⟨o',l⟩:=I.base.there b o e w
   exact⟨o',(f.2 b (Ac3 (Ab0 (Ab5 e) (I.ok.cab x c J t)))).trans l⟩
  ·by_cases G:j=i
   ·subst G
    rw [P]at l;cases l
    rw [Ad6 L]at C
    cases C
    exact⟨u,r,.inr ⟨.inl D,c,t,O⟩⟩
   ·rw [Ad5 (Ne.symm G)]at C
    obtain⟨Y,Z,q⟩:=hl j y v' l C e3
    refine⟨Y,Z,?_⟩
    rcases q with q | ⟨k,W,e,z'⟩
    ·exact .inl q
    ·refine .inr ⟨k,W,e,z'.sameBut f ?_⟩
     rintro rfl
     exact G (qI hN l (I.ok.inj _ _ _ e t▸P))
  ·by_cases T:W=c
   ·subst T;exact⟨_,O⟩
   ·obtain⟨w2,z2⟩:=I.cell y W e
    exact⟨w2,z2.sameBut f T⟩
  ·obtain⟨e,n,ne,nf,d⟩:=I.pin p hp
   refine⟨(f.2 p.1 ?_).trans e,n,ne,nf,d⟩
   intro q
   rw [q,N]at e
   have q':=Ae5.inj e
   exact d V (by rw [← q'];exact S)
def Zq (I:Inv X k8 U H s) (d:X.N.Nodup) (b:X.N[i]? =y0 x) (e:qdW X.env.scope x) (r:RelV v u)
 (h: ∀s',Inv X k8 (U.set i (y0 v)) H s'->Q () s') (a:X.fn x=k9\/X.env.scope.names.lookup x=y0 .local:=by first | exact .inl rfl | exact .inr rfl | assumption):wpAny M A (storeName X.env x u) Q E s:=
 jaH I d b e r (λs' c _=>h s' c) a
def Inv.call' (I:Inv X k8 U H s) (f:s'.os=s.os) (u:Un (qdG X.stack) ch H H' s.heap s'.heap) (a:HOk X.prog X.w H' s'.heap) (g:AllBare s'.gens)
 (d: ∀b∈ch,(b∈X.ex\/X.s₀.heap.objs.size<=b)/\b≠X.env.locals/\(∀ x c,X.env.cells.lookup x=y0 c->c≠b)/\ ∀p∈X.pn++k8,p.1≠b):Inv X k8 U H' s':=by
 obtain⟨i,k,j,l,h⟩:=s'
 have e:=f
 subst e
 exact I.call u a g d
end
abbrev XK:=Value->Option Addr->Hp->Prop
abbrev St:=List (Option V)
abbrev VK:=V->Hp->Prop
abbrev TE:=St->Hp->VK->Prop
abbrev TT:=St->Hp->(Bool->Hp->Prop)->Prop
abbrev TA:=St->Hp->(List V->Hp->Prop)->Prop
structure xbp where
 nx:St->Hp->Prop
 rt:VK
 bk:St->Hp->Prop:=λ_ _=>False
 ct:St->Hp->Prop:=λ_ _=>False
abbrev TS:=xbp->St->Hp->Prop
def EP (X:Cx) (a:List (Addr×Obj)) (U:St) (Q:VK) (u:Value) (s':Shared):Prop:= ∃v H',Inv X a U H' s'/\RelV v u/\Q v H'
def TP (X:Cx) (a:List (Addr×Obj)) (U:St) (Q:Bool->Hp->Prop) (b:Bool) (s':Shared):Prop:= ∃H',Inv X a U H' s'/\Q b H'
noncomputable def AP (X:Cx) (a:List (Addr×Obj)) (U:St) (Q:List V->Hp->Prop) (c:List Value) (s':Shared):Prop:= ∃b H',Inv X a U H' s'/\Vals b c/\Q b H'
noncomputable def SP (X:Cx) (a:List (Addr×Obj)) (D:xbp) (f:Flow) (s':Shared):Prop:=
 match f with
 | .next=> ∃b H',Inv X a b H' s'/\D.nx b H'
 | .brk=> ∃b H',Inv X a b H' s'/\D.bk b H'
 | .cont=> ∃b H',Inv X a b H' s'/\D.ct b H'
 | .ret u=> ∃v b H',Inv X a b H' s'/\RelV v u/\D.rt v H'
noncomputable def PE (X:Cx) (e:Expr) (t:TE):Prop:=
 ∀(k8:List (Addr×Obj)) (s:Shared) (U:St) (H:Hp) (Q:VK),Inv X k8 U H s->t U H Q->wpAny (model X.prog X.w) X.A (eval e X.env) (EP X k8 U Q) X.xe s
noncomputable def PT (X:Cx) (e:Expr) (t:TT):Prop:=
 ∀(k8:List (Addr×Obj)) (s:Shared) (U:St) (H:Hp) (Q:Bool->Hp->Prop),Inv X k8 U H s->t U H Q->wpAny (model X.prog X.w) X.A (isTrue e X.env (eval e X.env)) (TP X k8 U Q) X.xe s
noncomputable def PW (X:Cx) (e:Expr) (t:TT):Prop:=
 ∀(a:Sem Value) (k8:List (Addr×Obj)) (s:Shared) (U:St) (H:Hp) (Q:Bool->Hp->Prop),Inv X k8 U H s->t U H Q->wpAny (model X.prog X.w) X.A (isTrue e X.env a) (TP X k8 U Q) X.xe s
def PW.pt (h:PW X e t):PT X e t:=h _
noncomputable def PA (X:Cx) (es:List Expr) (t:TA):Prop:=
 ∀(pos:Pos) (k8:List (Addr×Obj)) (s:Shared) (U:St) (H:Hp) (Q:List V->Hp->Prop),Inv X k8 U H s->t U H Q->wpAny (model X.prog X.w) X.A (spliced (backTo pos (starEach es X.env))) (AP X k8 U Q) X.xe s
noncomputable def PS (X:Cx) (st:Stmt) (t:TS):Prop:=
 ∀(k8:List (Addr×Obj)) (s:Shared) (U:St) (H:Hp) (D:xbp),Inv X k8 U H s->t D U H->wpAny (model X.prog X.w) X.A (exec st X.env) (SP X k8 D) X.xe s
noncomputable def PSs (X:Cx) (st:List Stmt) (t:TS):Prop:=
 ∀(k8:List (Addr×Obj)) (s:Shared) (U:St) (H:Hp) (D:xbp),Inv X k8 U H s->t D U H->wpAny (model X.prog X.w) X.A (execs st X.env) (SP X k8 D) X.xe s
def zdv (h:wpAny M A t Q E s) (b: ∀a s,Q a s->Q' a s):wpAny M A t Q' E s:=wpAny_mono h b λ_ _ x=>x
section
variable {X:Cx}
def bin (i:PE X a ta) (k:PE X b tb){R:V->V->Hp->Prop}(I:Inv X k8 U H s) (h:ta U H λx H1=>tb U H1 λy H2=>R x y H2)
 {f:Value->Value->Sem α}
 (o: ∀v u e x y H2,Inv X k8 U H2 e->RelV x v->RelV y u->R x y H2->wpAny (model X.prog X.w) X.A (f v u) Q X.xe e):
 wpAny (model X.prog X.w) X.A (eval a X.env) (λv d=>wpAny (model X.prog X.w) X.A (eval b X.env) (λu c=>wpAny (model X.prog X.w) X.A (f v u) Q X.xe c) X.xe d) X.xe s:=by
 refine zdv (i k8 s U H _ I h) ?_
 rintro v g ⟨x,H1,l,m,n⟩
 refine zdv (k k8 g U H1 _ l n) ?_
 rintro u e ⟨y,H2,j,p,q⟩
 exact o v u e x y H2 j m p q
def xcI (i:Nat):TE:=λU H Q=> ∃v,U[i]? =y0 (y0 v)/\Q v H
def tC (v:V):TE:=λ_ H Q=>Q v H
def zl (o:X.N[i]? =some x) (n:zdy X.env.scope x) (g:(x==("__debug__" :Str))=false:=by decide) (f:(x==("__classdict__" :Str))=false:=by decide):PE X (.Name x pos) (xcI i):=by
 intro d s U H Q I h
 obtain⟨v,e,h⟩:=h
 obtain⟨m,hn,p⟩:=I.loc
 obtain⟨u,r,l⟩:=p i x v o e n
 have fin:EP X d U Q u s:=⟨v,H,I,r,h⟩
 rcases l with⟨b,k⟩ | ⟨b,c,j,a⟩
 ·exact wpAny_Name (wpAny_loadName_local I.ok.kind b hn k fin) g
 ·rcases b with b | b
  ·exact wpAny_Name (wpAny_loadName_cell I.ok.kind b j a fin) g
  ·exact wpAny_Name (wpAny_loadName_free I.ok.kind b j a fin f) g
def zbo {i j pos}:PE X (.Constant (.int i) j pos) (tC (.int i)):=λ_ _ _ H _ I h=>wpAny_Constant_int ⟨.int i,H,I.tok _,⟨_,rfl⟩,h⟩
def qcK {b j pos}:PE X (.Constant (.bool b) j pos) (tC (.bl b)):=λ_ _ _ H _ I h=>Constant_bool ⟨.bl b,H,I,rfl,h⟩
def zce {j pos}:PE X (.Constant .none j pos) (tC .non):=λ_ _ _ H _ I h=>Constant_none ⟨.non,H,I,rfl,h⟩
def xcb {x j pos}:PE X (.Constant (.str x) j pos) (tC (.str x)):=λ_ _ _ H _ I h=>Calls.Constant_str ⟨.str x,H,I.tok _,⟨_,rfl⟩,h⟩
def Gl (X:Cx) (x:Str):Prop:=X.env.kindOf x=y0 .globalImplicit
def xv (I:Inv X k8 U H s) (c:Gl X x) (a:X.mg x=y0 u) (h:Q u s)
 (b:(x==("__debug__" :Str))=false:=by decide):wpAny (model X.prog X.w) X.A (eval (.Name x pos) X.env) Q E s:=
 Calls.Name_function_global I.ok.kind c (Calls.loadGlobal_global (by rw [I.ok.glob];exact I.mod.glob.keeps I.bk) a h) b
def Qx (I:Inv X k8 U H s) (f:Gl X x) (b:X.mg x=u0) (a:bootBuiltins x=y0 u) (h:Q u s)
 (g:x≠ "__name__" :=by decide) (c:(x==("__debug__" :Str))=false:=by decide):wpAny (model X.prog X.w) X.A (eval (.Name x pos) X.env) Q E s:=by
 obtain⟨i,d,e⟩:=I.mod.blt
 exact Calls.Name_function_global I.ok.kind f (Calls.loadGlobal_builtin (by rw [I.ok.glob];exact I.mod.glob.keeps I.bk) b (by rw [I.ok.blt];exact d.keeps I.bk) ((e x g).trans a) h) c
def zU (c:Gl X x) (a:X.mg x=some u) (r:RelV v u) (b:(x==("__debug__" :Str))=false:=by decide):PE X (.Name x pos) (tC v):=
 λ_ _ _ H _ I h=>xv I c a ⟨v,H,I,r,h⟩ b
def jar (d:Gl X x) (b:X.mg x=none) (a:bootBuiltins x=some u) (r:RelV v u) (e:x≠ "__name__" :=by decide) (c:(x==("__debug__" :Str))=false:=by decide):PE X (.Name x pos) (tC v):=
 λ_ _ _ H _ I h=>Qx I d b a ⟨v,H,I,r,h⟩ e c
variable {a b:Expr}{ta tb:TE}{pos:Pos}
noncomputable def PC (X:Cx) (op:CmpOp) (a b:Expr) (t:TE):Prop:=
 ∀(k8:List (Addr×Obj)) (s:Shared) (U:St) (H:Hp) (Q:VK),Inv X k8 U H s->t U H Q →
  wpAny (model X.prog X.w) X.A (eval a X.env) (λv c=>wpAny (model X.prog X.w) X.A (eval b X.env) (λu d=>wpAny (model X.prog X.w) X.A (compareOp op v u) (EP X k8 U Q) X.xe d) X.xe c) X.xe s
def Z4 (b)(h:op≠ .In) (h2:op≠ .NotIn):behindInMarks op b=false:=by
 have c:(op==CmpOp.In)=false:=by cases op<;>first | rfl | exact absurd rfl h
 have a:(op==CmpOp.NotIn)=false:=by cases op<;>first | rfl | exact absurd rfl h2
 cases b<;>simp [behindInMarks,c,a]
def qdd (a:TE):TE:=λU H Q=>a U H λx H1=>Q (.bl (v9 (x= .non))) H1
def zcW (a:TE):TE:=λU H Q=>a U H λx H1=>Q (.bl (!v9 (x= .non))) H1
def RelV.none_iff (r:RelV x v):(v==Value.none)=v9 (x= .non):=by
 cases x with
 | non=>cases r;rfl
 | bl _=>cases r;rfl
 | int _=>obtain⟨t,rfl⟩:=r;rfl
 | str _=>obtain⟨t,rfl⟩:=r;rfl
 | byt _=>obtain⟨t,rfl⟩:=r;rfl
 | flt _=>obtain⟨t,rfl⟩:=r;rfl
 | ref _=>cases r;rfl
 | ty _=>cases r;rfl
def qbo {j pos'}(e:PE X a ta):PC X .Is a (.Constant .none j pos') (qdd ta):=by
 intro b s U H Q I h
 refine zdv (e b s U H _ I h) ?_
 rintro v i ⟨x,c,f,g,d⟩
 exact Constant_none (is_none_gen ⟨.bl _,c,f,by rw [g.none_iff];rfl,d⟩)
def jaJ {j pos'}(e:PE X a ta):PC X .IsNot a (.Constant .none j pos') (zcW ta):=by
 intro b s U H Q I h
 refine zdv (e b s U H _ I h) ?_
 rintro v i ⟨x,c,f,g,d⟩
 exact Constant_none (isnot_none_gen ⟨.bl _,c,f,by rw [g.none_iff];rfl,d⟩)
def tB (t:TE):TT:=λU H Q=>t U H λx H1=> ∃c,x= .bl c/\Q c H1
def zby (h:PC X op a b t) (h1:behindInMarks op b=false:=by first | exact Z4 _ (by decide) (by decide) | rfl):PE X (.Compare a [op] [b] pos) t:=λc s U H Q I d=>wpAny_Compare1 (h c s U H Q I d) h1
def xbk (h:PC X op a b t) (h1:behindInMarks op b=false:=by first | exact Z4 _ (by decide) (by decide) | rfl):PT X (.Compare a [op] [b] pos) (tB t):=by
 intro e s U H Q I j
 refine wpAny_isTrue_Compare1 (zdv (h e s U H _ I j) λv m h1=>zdv h1 λu n g=>zdv g λc o ⟨x,f,i,k,l⟩=> ?_) h1
 obtain⟨d,rfl,q⟩:=l
 cases k
 exact wpAny_truthy_bool ⟨f,i,q⟩
variable {tA tB':TT}{rest:List Expr}
def jdn (t u:TT):TT:=λU H Q=>t U H λc H1=>if c=k9 then u U H1 Q else Q y9 H1
def zdN (t u:TT):TT:=λU H Q=>t U H λc H1=>if c=k9 then Q k9 H1 else u U H1 Q
def xdm (t:TT):TT:=λU H Q=>t U H λc H1=>Q (!c) H1
def zb0 (d:PT X a tA):PW X (.BoolOp .And [a] pos) tA:=by
 intro f b s U H Q I h
 refine isTrue_and (zdv (d b s U H Q I h) λc g e=> ?_)
 cases c with
 | true=>exact isTrue_and_nil e
 | false=>exact e
def jch (d:PT X a tA):PW X (.BoolOp .Or [a] pos) tA:=by
 intro f b s U H Q I h
 refine isTrue_or (zdv (d b s U H Q I h) λc g e=> ?_)
 cases c with
 | false=>exact isTrue_or_nil e
 | true=>exact e
def zcE (l:PT X a tA) (i:PW X (.BoolOp .And (b::rest) pos) tB'):PW X (.BoolOp .And (a::b::rest) pos) (jdn tA tB'):=by
 intro j d s U H Q I h
 refine isTrue_and (zdv (l d s U H _ I h) ?_)
 rintro c k ⟨e,g,f⟩
 cases c with
 | true=>exact i j d k U e Q g f
 | false=>exact⟨e,g,f⟩
def zc0 (l:PT X a tA) (i:PW X (.BoolOp .Or (b::rest) pos) tB'):PW X (.BoolOp .Or (a::b::rest) pos) (zdN tA tB'):=by
 intro j d s U H Q I h
 refine isTrue_or (zdv (l d s U H _ I h) ?_)
 rintro c k ⟨e,g,f⟩
 cases c with
 | true=>exact⟨e,g,f⟩
 | false=>exact i j d k U e Q g f
def qch (e:PT X a tA):PT X (.UnaryOp .Not a pos) (xdm tA):=by
 intro b s U H Q I h
 exact isTrue_not (e b s U H (λc d=>Q (!c) d) I h)
def zbm {op}(h:PE X a t):PE X (.BoolOp op [a] pos) t:=λb s U H Q I c=>BoolOp_one (h b s U H Q I c)
end
noncomputable def SqL (K:Aa6) (H:Hp) (a:Addr) (xs:List V):Prop:=
 Rd H a (.lst xs) ∨
  ∃(o:Obj) (b:Array Value) (n:Nat),K.lookup a=some o/\o.cls= .type "list" /\o.dict=none/\o.data= .seq b n/\b.size<=sizeLine/\Vals xs b.toList
noncomputable def qdV (K:Aa6) (H:Hp) (a:Addr) (xs:List V):Prop:=
 Rd H a (.tup xs) ∨
  ∃(o:Obj) (b:Array Value) (n:Nat),K.lookup a=y0 o/\o.cls= .type "tuple" /\o.data= .seq b n/\b.size<=sizeLine/\Vals xs b.toList
noncomputable def xdh:Value->Option V
 | .none=>y0 .non
 | .bool b=>y0 (.bl b)
 | .int i _=>y0 (.int i)
 | .str x _=>y0 (.str x)
 | .bytes b _=>y0 (.byt b)
 | .float b _=>y0 (.flt b)
 | .ref a=>y0 (.ref a)
 | .type n=>y0 (.ty n)
 | _=>u0
def RelV.abs (r:RelV x u):xdh u=y0 x:=by
 cases x with
 | non=>cases r;rfl
 | bl _=>cases r;rfl
 | int _=>obtain⟨t,rfl⟩:=r;rfl
 | str _=>obtain⟨t,rfl⟩:=r;rfl
 | byt _=>obtain⟨t,rfl⟩:=r;rfl
 | flt _=>obtain⟨t,rfl⟩:=r;rfl
 | ref _=>cases r;rfl
 | ty _=>cases r;rfl
theorem RelV.inj (r:RelV x u) (q:RelV y u):x=y:=Ae5.inj (r.abs.symm.trans q.abs)
theorem Vals.inj: ∀ {xs ys}{a},Vals xs a->Vals ys a->xs=ys
 | _,_,_,.nil,.nil=>rfl
 | _,_,_,.cons r t,.cons b c=>by rw [r.inj b,Vals.inj t c]
section
variable {X:Cx}{k8:List (Addr×Obj)}{U:St}{H:Hp}{s:Shared}{a:Addr}{xs ys:List V}
def SqL.of {K:Aa6}(h:H a=y0 (.lst xs)):SqL K H a xs:= .inl (.inl h)
def Inv.list (I:Inv X k8 U H s) (h:SqL X.K H a xs): ∃b:List Value,Vals xs b/\PlainL s.heap a b.toArray/\xs.length<=sizeLine:=by
 rcases h with h | ⟨o,b,n,f,d,g,c,i,r⟩
 ·obtain⟨z,b,n,r,e⟩:=h.ok I.hok
  exact⟨b,r,⟨_,n,e,rfl,rfl,rfl⟩,z⟩
 ·refine⟨b.toList,r,⟨o,n,I.kIn a o f,d,g,by simpa using c⟩,?_⟩
  have e:=r.length
  simp only [An1]at e
  omega
def Inv.tuple (I:Inv X k8 U H s) (h:qdV X.K H a xs): ∃b:List Value,Vals xs b/\IsTup s.heap a b.toArray/\xs.length<=sizeLine:=by
 rcases h with h | ⟨o,b,n,f,d,c,g,r⟩
 ·obtain⟨z,b,r,p⟩:=h.ok I.hok
  exact⟨b,r,p.is,z⟩
 ·refine⟨b.toList,r,⟨o,I.kIn a o f,d,n,by simpa using c⟩,?_⟩
  have e:=r.length
  simp only [An1]at e
  omega
def Inv.list_inj (I:Inv X k8 U H s) (h:SqL X.K H a xs) (h':SqL X.K H a ys):xs=ys:=by
 obtain⟨c,r,⟨o,n,e,_,_,d⟩,_⟩:=I.list h
 obtain⟨b,i,⟨k,l,f,_,_,g⟩,_⟩:=I.list h'
 rw [e]at f;cases f
 rw [d]at g
 injection g with j _
 have:c=b:=by simpa using congrArg Array.toList j
 subst this
 exact r.inj i
def Inv.tuple_inj (I:Inv X k8 U H s) (h:qdV X.K H a xs) (h':qdV X.K H a ys):xs=ys:=by
 obtain⟨c,r,⟨o,e,_,n,d⟩,_⟩:=I.tuple h
 obtain⟨b,i,⟨k,f,_,l,g⟩,_⟩:=I.tuple h'
 rw [e]at f;cases f
 rw [d]at g
 injection g with j _
 have:c=b:=by simpa using congrArg Array.toList j
 subst this
 exact r.inj i
end
abbrev Cx.wish (X:Cx) (E:Value->Shared->Prop):Cx:= { X with xe:=E }
abbrev Cx.nox (X:Cx):Cx:=X.wish λ_ _=>False
theorem Cx.Ok.wish {X:Cx}(ok:X.Ok) (E:Value->Shared->Prop):(X.wish E).Ok:=
 ⟨ok.mod,ok.kind,ok.glob,ok.blt,ok.above,ok.inj,ok.has,ok.cab,ok.hd,ok.frames,ok.stk,ok.exf,ok.bs,ok.bsz,ok.noex,ok.exfs,ok.funs,ok.frf⟩
def Cx.Ok.unwish {X:Cx}(ok:(X.wish E).Ok):X.Ok:=
 ⟨ok.mod,ok.kind,ok.glob,ok.blt,ok.above,ok.inj,ok.has,ok.cab,ok.hd,ok.frames,ok.stk,ok.exf,ok.bs,ok.bsz,ok.noex,ok.exfs,ok.funs,ok.frf⟩
section
variable {X:Cx}{k8:List (Addr×Obj)}{U:St}{H:Hp}{s:Shared}{E:Value->Shared->Prop}
theorem Inv.wish (I:Inv X k8 U H s) (E):Inv (X.wish E) k8 U H s:=⟨I.ok.wish E,I.os,I.bare,I.base,I.loc,I.cell,I.free,I.freeC,I.pin,I.hok,I.len⟩
theorem Inv.unwish (I:Inv (X.wish E) k8 U H s):Inv X k8 U H s:=⟨I.ok.unwish,I.os,I.bare,I.base,I.loc,I.cell,I.free,I.freeC,I.pin,I.hok,I.len⟩
theorem SP.unwish (h:SP (X.wish E) k8 D f s'):SP X k8 D f s':=by
 cases f with
 | next=>obtain⟨a,b,I,q⟩:=h;exact⟨a,b,I.unwish,q⟩
 | brk=>obtain⟨a,b,I,q⟩:=h;exact⟨a,b,I.unwish,q⟩
 | cont=>obtain⟨a,b,I,q⟩:=h;exact⟨a,b,I.unwish,q⟩
 | ret u=>obtain⟨v,a,b,I,r,q⟩:=h;exact⟨v,a,b,I.unwish,r,q⟩
end
section
variable {X:Cx}{st:Stmt}{rest:List Stmt}{t u:TS}{e:Expr}{te:TE}{pos:Pos}
def zcL:TS:=λD U H=>D.nx U H
def qdi (t u:TS):TS:=λD U H=>t { D with nx:=u D } U H
def qb4:PSs X [] zcL:=λ_ _ U H _ I h=>wpAny_execs_nil ⟨U,H,I,h⟩
def zaR (h1:PS X st t) (h2:PSs X rest u):PSs X (st::rest) (qdi t u):=by
 intro a s U H D I h
 refine wpAny_execs_cons (zdv (h1 a s U H { D with nx:=u D } I h) λf e q=> ?_)
 cases f with
 | next=>
  obtain⟨d,c,b,q⟩:=q
  exact h2 a e d c D b q
 | ret v=>exact q
 | brk=>exact q
 | cont=>exact q
def qb3 (h1:PS X st t):PSs X [st] t:=by
 intro a s U H D I h
 refine wpAny_execs_cons (zdv (h1 a s U H D I h) λf b q=> ?_)
 cases f with
 | next=>exact wpAny_execs_nil q
 | ret v=>exact q
 | brk=>exact q
 | cont=>exact q
def Inv.quiet (I:Inv X k8 U H s):interactive X.env=false:=by simp [interactive,I.ok.kind]
def xcK (a:TE):TS:=λD U H=>a U H λ_ H1=>D.nx U H1
def jI (d:PE X e te) (b:swapsWith e u0 pos.line X.env=pure false:=by rfl):PS X (.Expr e pos) (xcK te):=by
 intro a s U H D I h
 exact wpAny_Expr_any (zdv (d a s U H _ I h) λv i ⟨x,c,g,j,f⟩=>⟨U,c,g,f⟩) I.quiet b
def qdl (a:TE):TS:=λD U H=>a U H D.rt
def qbn (c:PE X e te):PS X (.Return (y0 e) pos) (qdl te):=by
 intro a s U H D I h
 exact wpAny_Return_some (zdv (c a s U H _ I h) λv i ⟨x,b,f,g,d⟩=>⟨x,U,b,f,g,d⟩)
def qdk (c:TT) (t u:TS):TS:=λD U H=>c U H λb H1=>if b=k9 then t D U H1 else u D U H1
def qcU (l:PT X c tc) (m:PSs X a t) (k:PSs X b u):PS X (.If c a b pos) (qdk tc t u):=by
 intro e s U H D I h
 refine wpAny_If (zdv (l e s U H _ I h) ?_)
 rintro d i ⟨f,j,g⟩
 cases d with
 | true=>exact m e i U f D j g
 | false=>exact k e i U f D j g
end
abbrev TG:=V->St->Hp->(St->Hp->Prop)->Prop
abbrev xdK:=List V->St->Hp->(St->Hp->Prop)->Prop
noncomputable def PG (X:Cx) (a:Expr) (t:TG):Prop:=
 ∀(k8:List (Addr×Obj)) (s:Shared) (U:St) (H:Hp) (v:V) (u:Value) (Q:St->Hp->Prop),Inv X k8 U H s->RelV v u->t v U H Q →
  wpAny (model X.prog X.w) X.A (assign a X.env u) (λ_ s'=> ∃b H',Inv X k8 b H' s'/\Q b H') X.xe s
noncomputable def zdV (X:Cx) (ts:List Expr) (t:xdK):Prop:=
 ∀(k8:List (Addr×Obj)) (s:Shared) (U:St) (H:Hp) (c:List V) (a:List Value) (Q:St->Hp->Prop),Inv X k8 U H s->Vals c a->t c U H Q →
  wpAny (model X.prog X.w) X.A (assignInOrder ((assignEach ts X.env).map (·.2)) a) (λ_ s'=> ∃b H',Inv X k8 b H' s'/\Q b H') X.xe s
abbrev xc3:=V->V->V->Hp->(Hp->Prop)->Prop
noncomputable def zcZ (X:Cx) (t:xc3):Prop:=
 ∀(k8:List (Addr×Obj)) (s:Shared) (U:St) (H:Hp) (o i v:V) (b a u:Value) (Q:Hp->Prop),Inv X k8 U H s->RelV o b->RelV i a->RelV v u->t o i v H Q →
  wpAny (model X.prog X.w) X.A (setItem b a u) (λ_ s'=> ∃H',Inv X k8 U H' s'/\Q H') X.xe s
section
variable {X:Cx}{pos:Pos}
def jQ (i:Nat):TG:=λv U H Q=>Q (U.set i (y0 v)) H
def zaJ (e:X.N.Nodup) (c:X.N[i]? =y0 x) (f:qdW X.env.scope x) (b:X.fn x=k9\/X.env.scope.names.lookup x=y0 .local:=by first | exact .inl rfl | exact .inr rfl | assumption):PG X (.Name x pos) (jQ i):=by
 intro a s U H v u Q I r h
 exact wpAny_assign_Name (Zq I e c f r (λg d=>⟨_,H,d,h⟩) b)
def jdc:xdK:=λa U H Q=>a= []/\Q U H
def qcZ (t:TG) (u:xdK):xdK:=λb U H Q=> ∃v r,b=v::r/\t v U H λa H'=>u r a H' Q
def jbI:zdV X [] jdc:=by
 intro a s U H c b Q I r h
 obtain⟨e,h⟩:=h
 subst e
 cases r
 exact assignInOrder_nil ⟨U,H,I,h⟩
def zbg (h1:PG X e t) (h2:zdV X es u)
 (f:(assignEach (e::es) X.env).map (·.2)=assign e X.env::(assignEach es X.env).map (·.2):=by rfl):zdV X (e::es) (qcZ t u):=by
 intro a s U H n l Q I r h
 obtain⟨v,m,j,h⟩:=h
 subst j
 cases r with
 | cons r c=>
  rw [f]
  refine assignInOrder_cons (zdv (h1 a s U H _ _ _ I r h) ?_)
  rintro _ d ⟨k,b,g,i⟩
  exact h2 a d k b _ _ Q g c i
def xdo (K:Aa6) (n:Nat) (t:xdK):TG:=λv U H Q=> ∃a xs,v= .ref a/\qdV K H a xs/\xs.length=n/\t xs U H Q
def qcl (z:X.calm=k9) (h:zdV X es t)
 (x:(assignEach es X.env).length=n:=by rfl) (f:(assignEach es X.env).findIdx? (·.1)=none:=by rfl):PG X (.Tuple es k pos) (xdo X.K n t):=by
 intro c s U H v u Q I r d
 obtain⟨a,m,w,y,q,d⟩:=d
 subst w
 cases r
 obtain⟨j,rv,i,A⟩:=I.tuple y
 refine assign_Tuple_tuple (I.ok.hd z) i (by simp [x,←q,rv.length]) f λg l=> ?_
 have p:Inv X c U H { s with heap:=g }:=I.kept λb o e=>l b o (Ac3 (Ab5 e)) e
 exact h c _ U H m _ Q p (by simpa using rv) d
def zdf (c b:TE) (t:xc3):TG:=λv U H Q=>c U H λo H1=>b U H1 λi H2=>t o i v H2 λa=>Q U a
def xbl (m:PE X o to) (B:PE X i ti) (j:zcZ X t)
 (f: ∀v,assign (.Subscript o i pos) X.env v=(do
   let b ←holding [v] (eval o X.env)
   let c ←holding [v,b] (eval i X.env)
   standAt pos
   holding [v,b,c] (setItem b c v)
   release [v,b,c] []):=by intro _;rfl):PG X (.Subscript o i pos) (zdf to ti t):=by
 intro a s U H v u Q I r h
 rw [f]
 refine wpAny_bind (wpAny_holding (zdv (m a s U H _ I h) ?_))
 rintro b e ⟨x,d,n,p,z⟩
 refine wpAny_bind (wpAny_holding (zdv (B a e U d _ n z) ?_))
 rintro c w ⟨y,l,k,C,D⟩
 refine wpAny_bind (wpAny_standAt (wpAny_bind (wpAny_holding (zdv (j a w U l x y v b c u _ k p C r D) ?_))))
 rintro _ E ⟨g,q,A⟩
 exact wpAny_release ⟨U,g,q,A⟩
def xbt (a:TE) (g:TG):TS:=λD U H=>a U H λx H1=>g x U H1 D.nx
def Z1 (d:PE X e te) (m:PG X tg g) (f:swapsWithSole [tg] e pos.line X.env=pure false:=by rfl) (j:swappedStores [tg] e X.env=pure none:=by rfl)
 (h1:(assignEach [tg] X.env).map (·.2)= [assign tg X.env]:=by rfl):PS X (.Assign [tg] e pos) (xbt te g):=by
 intro a s U H D I h
 refine wpAny_Assign_stores (zdv (d a s U H _ I h) λv c ⟨x,b,i,k,l⟩=> ?_) f j
 rw [h1]
 exact zdv (m a c U b x v _ i k l) λ_ n q=>q
def jai (k:X.N.Nodup) (n:X.N[i]? =y0 x) (o:qdW X.env.scope x) (c:PE X e te) (d:swapsWith e (y0 (.Name x pos')) pos.line X.env=pure false:=by rfl) (m:X.fn x=k9\/X.env.scope.names.lookup x=y0 .local:=by first | exact .inl rfl | exact .inr rfl | assumption):
 PS X (.Assign [.Name x pos'] e pos) (xbt te (jQ i)):=by
 intro a s U H D I h
 refine wpAny_Assign_Name (zdv (c a s U H _ I h) λv p ⟨y,b,g,j,l⟩=> ?_) d
 exact Zq g k n o j (λq f=>⟨_,b,f,l⟩) m
end
section
variable {X:Cx}{pos:Pos}
noncomputable def zcn (c:TT) (tb:TS):TS:=λD U H=> ∃W:Nat->St->Hp->Prop,(∃ m,W m U H)/\ ∀m U H,W m U H →
 c U H λb H1=>if b=k9 then ∃N:St->Hp->Prop,(∀ d H',N d H'-> ∃a,a<m/\W a d H')/\tb { D with nx:=N,ct:=N,bk:=D.nx } U H1 else D.nx U H1
def xbe (z:PassesOwn (model X.prog X.w) X.A X.env X.xe) (K:PT X c tc) (E:PSs X body tb):PS X (.While c body [] pos) (zcn tc tb):=by
 intro a s U H D I h
 obtain⟨W,⟨L,J⟩,d⟩:=h
 refine wpAny_While (codeAny_whileLoop (λn A=> ∃w t,Inv X a w t A/\W n w t) ?_ L ⟨U,H,I,J⟩)
 rintro n B ⟨j,r,F,C⟩
 refine wpAny_passesOwn z (zdv (K a B j r _ F (d n j r C)) ?_)
 rintro b G ⟨x,u,k⟩
 cases b with
 | true=>
  obtain⟨N,y,k⟩:=k
  refine wpAny_passesOwn z (zdv (E a G j x _ u k) λf M i=> ?_)
  cases f with
  | next=>
   obtain⟨g,e,o,q⟩:=i
   obtain⟨l,m,p⟩:=y g e q
   exact⟨l,m,g,e,o,p⟩
  | cont=>
   obtain⟨g,e,o,q⟩:=i
   obtain⟨l,m,p⟩:=y g e q
   exact⟨l,m,g,e,o,p⟩
  | brk=>exact i
  | ret v=>exact i
 | false=>
  exact wpAny_execs_nil ⟨j,x,u,k⟩
end
structure It where
 go:Nat->Hp->Prop
 yld:Nat->Hp->V->Hp->Prop
 stop:Nat->Hp->Prop
noncomputable def X3 (X:Cx) (a:List (Addr×Obj)) (H:Hp) (b:Addr):Prop:=
 H b=u0/\b≠X.env.locals/\b∉X.fs/\(b∈X.ex\/X.s₀.heap.objs.size<=b)/\(∀ x c,X.env.cells.lookup x=y0 c->c≠b)/\ ∀p∈X.pn++a,p.1≠b
def Inv.fpOk (I:Inv X k8 U H s) (a:s.heap.objs.size<=b) (f:H' b=u0):X3 X k8 H' b:=by
 refine⟨f,Al6 (Ab0 I.lt a),I.nofs a,.inr (Ac0 I.sz a),λx c e z=> ?_,λp d z=> ?_⟩
 ·obtain⟨v,q⟩:=I.cell x c e
  exact absurd (Ab0 q.lt (by rw [z];exact a)) (Ag9 _)
 ·exact absurd (Ab0 (Ab5 (I.pin p d).1) (by rw [z];exact a)) (Ag9 _)
structure qa6 (P:Program) (w:World) (K:Aa6) (tg:Expr) (J:It) (fp:List Addr) (it:Addr) (tn:Nat->Heap->Prop):Prop where
 mem:it∈fp
 obj: ∀i h,tn i h-> ∀b∈fp,∃o,h.get? b=y0 o/\ ∀v,o.data≠ .cell v
 keep: ∀i h h',tn i h->(∀ b∈fp,∀o,h.get? b=y0 o->h'.get? b=y0 o)->tn i h'
 item: ∀(X:Cx),X.prog=P->X.w=w->X.K=K->X.calm=k9-> ∀(i:Nat) (k8:List (Addr×Obj)) (s:Shared) (U:St) (H:Hp) (E:Value->Shared->Prop),Inv X k8 U H s->(∀ b∈fp,X3 X k8 H b)->tn i s.heap->J.go i H →
  wpAny (model P w) X.A (pyNext (.ref it)) (λr s1=> ∃u,r=y0 u ∧
   wpAny (model P w) X.A (letOwnedTupleGo tg (.ref it) u) (λ_ s2=> ∃x H',Inv X k8 U H' s2/\RelV x u/\J.yld i H x H'/\tn (i+1) s2.heap/\ ∀b∈fp,H' b=u0) E s1) E s
 done: ∀(X:Cx),X.prog=P->X.w=w->X.K=K->X.calm=k9-> ∀(i:Nat) (k8:List (Addr×Obj)) (s:Shared) (U:St) (H:Hp) (E:Value->Shared->Prop),Inv X k8 U H s->(∀ b∈fp,X3 X k8 H b)->tn i s.heap->J.stop i H →
  wpAny (model P w) X.A (pyNext (.ref it)) (λr s1=>r=u0/\Inv X k8 U H s1) E s
 self: ∀(A:Around) (i:Nat) (s:Shared) (Q:Value->Shared->Prop) (E:Value->Shared->Prop),tn i s.heap->Q (.ref it) s->wpAny (model P w) A (pyIter (.ref it)) Q E s
abbrev TI:=St->Hp->(It->Hp->Prop)->Prop
noncomputable def qdQ (X:Cx) (a:List (Addr×Obj)) (U:St) (g:Expr) (R:It->Hp->Prop) (c:Value) (e:Shared):Prop:=
 ∃(f:Addr) (fp:List Addr) (d:Nat->Heap->Prop) (J:It) (H':Hp),c= .ref f/\Inv X a U H' e/\qa6 X.prog X.w X.K g J fp f d/\d 0 e.heap/\(∀ b∈fp,X3 X a H' b)/\R J H'
noncomputable def PI (X:Cx) (b a:Expr) (d:TI):Prop:=
 ∀(k8:List (Addr×Obj)) (s:Shared) (U:St) (H:Hp) (R:It->Hp->Prop),Inv X k8 U H s->d U H R →
  wpAny (model X.prog X.w) X.A (eval a X.env) (λv c=>wpAny (model X.prog X.w) X.A (pyIter v) (qdQ X k8 U b R) X.xe c) X.xe s
def Q7 (d:s.heap.get? it=y0 o) (c:o.cls= .type n) (b:o.data= .fields vs)
 (e: ["enumerate", "zip", "dict_itemiterator", "dict_reverseitemiterator", "odict_iterator", "itertools.zip_longest", "itertools.pairwise"].contains n=false) (a:Q () s):wpAny M A (letOwnedTupleGo tg (.ref it) u) Q E s:=by
 unfold letOwnedTupleGo
 cases tg<;>first
  | exact wpAny_pure a
  | (cases u<;>first
      | exact wpAny_pure a
      | (refine wpAny_bind (wpAny_load d ?_)
         rw [c,b]
         show wpAny M A (if (["enumerate", "zip", "dict_itemiterator", "dict_reverseitemiterator", "odict_iterator", "itertools.zip_longest", "itertools.pairwise"].contains n&&vs[0]? ==some (rawInt _))=true then _ else _) Q E s
         rw [if_neg (by intro h;rw [e,Al8]at h;cases h)]
         exact wpAny_pure a))
noncomputable def jdN (K:Aa6) (a:Addr):It:=
 ⟨λi H=> ∃xs x,SqL K H a xs/\xs[i]? =y0 x,λi H x H'=>H'=H/\ ∀xs,SqL K H a xs->xs[i]? =y0 x,λi H=> ∃xs,SqL K H a xs/\xs.length<=i⟩
noncomputable def xdt (K:Aa6) (a:Addr):It:=
 ⟨λi H=> ∃xs x,qdV K H a xs/\xs[i]? =y0 x,λi H x H'=>H'=H/\ ∀xs,qdV K H a xs->xs[i]? =y0 x,λi H=> ∃xs,qdV K H a xs/\xs.length<=i⟩
def xdD (a:Int) (n:Nat):It:=⟨λi _=>i<n,λi H x H'=>H'=H/\x= .int (a+i),λi _=>n<=i⟩
def xac {K:Aa6}(a it):qa6 P w K tg (jdN K a) [it] it (λi h=>h.IsListIter it a i) where
 mem:=by simp
 obj:=λi h f b j=>by
  have e:=by simpa using j
  subst e
  obtain⟨o,e,c,d⟩:=f
  exact⟨o,e,λv z=>by rw [d]at z;cases z⟩
 keep:=λi h q f k=>f.at λo e=>k it (by simp) o e
 item:=by
  intro X hP A B L i g s U H E I m f J
  subst hP A B
  obtain⟨S,x,n,G⟩:=J
  obtain⟨t,rv,p,O⟩:=I.list n
  obtain⟨u,R,N⟩:=rv.get G
  obtain⟨C,D,T,r,F,y⟩:=m it (by simp)
  refine wpAny_pyNext_list_item f p.isList (by simpa using R) λq l W=> ?_
  have V:Inv X g U H { s with heap:=q }:=I.turned (λb o j e=>(W.2 b j).trans e) C D r F y
  obtain⟨o,e,c,d⟩:=id l
  exact⟨u,rfl,Q7 e c d (by decide) ⟨x,H,V,N,⟨rfl,λY M=>by rw [I.list_inj M n];exact G⟩,l,λb j=>(m b j).1⟩⟩
 done:=by
  intro X hP A B L i g s U H E I m f J
  subst hP A B
  obtain⟨S,n,G⟩:=J
  obtain⟨t,rv,p,O⟩:=I.list n
  obtain⟨C,D,T,r,F,y⟩:=m it (by simp)
  have Z:=rv.length
  exact wpAny_pyNext_list_end (I.ok.hd L) f p.isList (by simp;omega) λq Q=>⟨rfl,I.turned (λb o j e=>Q b o j e) C D r F y⟩
 self:=λ_ _ _ _ _ f h=>wpAny_pyIter_listiter f h
def Q9 {K:Aa6}(a it):qa6 P w K tg (xdt K a) [it] it (λi h=>h.IsTupleIter it a i) where
 mem:=by simp
 obj:=λi h f b j=>by
  have e:=by simpa using j
  subst e
  obtain⟨o,e,c,d⟩:=f
  exact⟨o,e,λv z=>by rw [d]at z;cases z⟩
 keep:=λi h q f k=>f.at λo e=>k it (by simp) o e
 item:=by
  intro X hP A B L i g s U H E I m f J
  subst hP A B
  obtain⟨S,x,n,G⟩:=J
  obtain⟨t,rv,p,O⟩:=I.tuple n
  obtain⟨u,R,N⟩:=rv.get G
  obtain⟨C,D,T,r,F,y⟩:=m it (by simp)
  refine wpAny_pyNext_tuple_item f (p) (by simpa using R) λq l W=> ?_
  have V:Inv X g U H { s with heap:=q }:=I.turned (λb o j e=>(W.2 b j).trans e) C D r F y
  obtain⟨o,e,c,d⟩:=id l
  exact⟨u,rfl,Q7 e c d (by decide) ⟨x,H,V,N,⟨rfl,λY M=>by rw [I.tuple_inj M n];exact G⟩,l,λb j=>(m b j).1⟩⟩
 done:=by
  intro X hP A B L i g s U H E I m f J
  subst hP A B
  obtain⟨S,n,G⟩:=J
  obtain⟨t,rv,p,O⟩:=I.tuple n
  obtain⟨C,D,T,r,F,y⟩:=m it (by simp)
  have Z:=rv.length
  exact wpAny_pyNext_tuple_end (I.ok.hd L) f (p) (by simp;omega) λq Q=>⟨rfl,I.turned (λb o j e=>Q b o j e) C D r F y⟩
 self:=λ_ _ _ _ _ f h=>wpAny_pyIter_tupleiter f h
def qaa {K:Aa6}(it) (lo) (n):qa6 P w K tg (xdD lo n) [it] it (λi h=>IsRangeIter h it (lo+(i:Nat)*1) ((n:Int)-(i:Nat)) 1) where
 mem:=by simp
 obj:=λi h a b d=>by
  have e:=by simpa using d
  subst e
  exact⟨_,a,λv z=>by
   have C:=z
   cases C⟩
 keep:=λi h j a k=>k it (by simp) _ a
 item:=by
  intro X hP y A u i c s U H E I g a x
  subst hP y A
  obtain⟨p,q,F,l,r,m⟩:=g it (by simp)
  have W:=Walks.range (prog:=X.prog) (w:=X.w) (I.ok.hd u) it lo 1 n
  refine W.item i s _ _ x a λv j L J f B=> ?_
  obtain⟨t,rfl⟩:=J
  have G:Inv X c U H { s with heap:=j,toks:=L }:=I.turned (λb o d e=>B b o (by simpa using d) e) p q l r m
  refine⟨_,rfl,Q7 f rfl rfl (by decide) ⟨.int (lo+i),H,G,⟨t,?_⟩,⟨rfl,rfl⟩,f,λb d=>(g b d).1⟩⟩
  rw [Int.mul_one]
 done:=by
  intro X hP y A u i c s U H E I g a x
  obtain⟨p,q,F,l,r,m⟩:=g it (by simp)
  exact wpAny_pyNext_range_end (I.ok.hd u) a (by have:n<=i:=x;omega) λj D=>⟨rfl,I.turned (λb o d e=>D b o d e) p q l r m⟩
 self:=λ_ _ _ _ _ a h=>wpAny_pyIter_rangeiter a h
section
variable {X:Cx}{tg:Expr}
def j0 {a c:Int}(I:Inv X k8 U H s) (h1: -(2 ^ 62)<=a) (h2:a<2 ^ 62) (g: -(2 ^ 62)<=c) (j:c<2 ^ 62)
 (q:R (xdD a (c-a).toNat) H):wpAny (model X.prog X.w) X.A (pyIter (.ref s.heap.objs.size)) (qdQ X k8 U tg R) E { s with heap:=s.heap.push { cls:= .type "range",data:= .fields #[.int a t,.int c u,.int 1 v] },toks:=tk }:=by
 refine wpAny_pyIter_range (IsRange.new ..) (small_one h1 h2 g j) ?_
 have d:Inv X k8 U H { s with heap:=s.heap.push { cls:= .type "range",data:= .fields #[.int a t,.int c u,.int 1 v] },toks:=tk }:=I.kept fun b o e=>Heap.get?_push_of_some _ e
 refine⟨(s.heap.push { cls:= .type "range",data:= .fields #[.int a t,.int c u,.int 1 v] }).objs.size,[(s.heap.push { cls:= .type "range",data:= .fields #[.int a t,.int c u,.int 1 v] }).objs.size],_,_,H,rfl,
  d.kept λb o e=>Aa1 _ e,qaa _ a (c-a).toNat,?_,λb h=> ?_,q⟩
 ·have i:a+ (0:Nat)*1=a:=by simp
  have f: ((c-a).toNat:Nat)- (0:Nat)=Builtin.Range.rangeSize a c 1:=by rw [rangeSize_one];split<;>omega
  rw [i,f]
  exact Ab6 _ rfl
 ·have e:b=(s.heap.push { cls:= .type "range",data:= .fields #[.int a t,.int c u,.int 1 v] }).objs.size:=by simpa using h
  subst e
  exact d.fpOk (Aa5 _) (d.hok.fresh (Aa5 _))
def zcQ (a:TA):TI:=λU H R=>a U H λb H1=> ∃j:Int,b= [.int j]/\ -(2 ^ 62)<=j/\j<2 ^ 62/\R (xdD 0 j.toNat) H1
noncomputable def jcQ (a:TA):TI:=λU H R=>a U H λb H1=> ∃i j:Int,b= [.int i,.int j]/\(-(2 ^ 62)<=i/\i<2 ^ 62/\ -(2 ^ 62)<=j/\j<2 ^ 62)/\R (xdD i (j-i).toNat) H1
def zaN (n:Gl X "range") (i:X.mg "range" =none) (f:PA X [a] ta) (g:starEach [a] X.env= [(false,eval a X.env)]:=by rfl):PI X tg (.Call (.Name "range" p) [a] [] pos) (zcQ ta):=by
 intro b s U H R I h
 refine Call_ (Qx I n i boot_range (PyProof.Rows.callWith_type1 (zdv (f pos b s U H _ I h) λv u ⟨w,o,k,l,c⟩=> ?_) g rfl))
 obtain⟨j,e,c,m,q⟩:=c
 subst e
 cases l with
 | cons r d=>
  cases d
  obtain⟨t,rfl⟩:=r
  exact call_range_1 (j0 k (by omega) (by omega) c m (by simpa using q))
def jay (y:Gl X "range") (n:X.mg "range" =none) (k:PA X [a,b] ta) (l:starEach [a,b] X.env= [(false,eval a X.env),(false,eval b X.env)]:=by rfl) (c:starEach [b] X.env= [(false,eval b X.env)]:=by rfl):
 PI X tg (.Call (.Name "range" p) [a,b] [] pos) (jcQ ta):=by
 intro d s U H R I h
 refine Call_ (Qx I y n boot_range (PyProof.Rows.callWith_type1 (zdv (k pos d s U H _ I h) λB A ⟨C,z,u,v,g⟩=> ?_) (by rw [l,c]) (by rw [c];rfl)))
 obtain⟨i,j,e,⟨g,w,x,o⟩,q⟩:=g
 subst e
 cases v with
 | cons r f=>
  cases f with
  | cons m f=>
   cases f
   obtain⟨t,rfl⟩:=r
   obtain⟨D,rfl⟩:=m
   exact call_range_2 (j0 u g w x o q)
noncomputable def xdc (c:TI) (g:TG) (tb:TS):TS:=λD U H=>c U H λJ H1=> ∃W:Nat->Nat->St->Hp->Prop,(∃ m,W 0 m U H1)/\ ∀i m U H,W i m U H →
 (J.stop i H/\D.nx U H)\/(J.go i H/\ ∃N:St->Hp->Prop,(∀ b H',N b H'-> ∃a,a<m/\W (i+1) a b H')/\ ∀x H',J.yld i H x H'->g x U H' λd H2=>tb { D with nx:=N,ct:=N,bk:=D.nx } d H2)
def QC (a:List Addr) (h:Heap):List (Addr×Obj):=a.filterMap λb=>(h.get? b).map λo=>(b,o)
def ji (a:b∈fp) (e:h.get? b=y0 o):(b,o)∈QC fp h:=An7.mpr ⟨b,a,by rw [e];rfl⟩
def WR (a:p∈QC fp h):p.1∈fp/\h.get? p.1=y0 p.2:=by
 obtain⟨b,d,e⟩:=An7.mp a
 cases q:h.get? b with
 | none=>rw [q]at e;cases e
 | some o=>
  rw [q]at e
  have c:=Ae5.inj e
  subst c
  exact⟨d,q⟩
def Inv.pinned (I:Inv X k8 U H s) (f: ∀b∈fp,X3 X k8 H b) (j: ∀b∈fp,∃o,s.heap.get? b=y0 o/\ ∀v,o.data≠ .cell v):Inv X (k8++QC fp s.heap) U H s:=
 I.pins_of λp g=>(Af2.mp g).elim (λz=>I.pin p (Ab2 _ z)) λz=>by
  obtain⟨c,e⟩:=WR z
  obtain⟨h,i,k,_⟩:=f p.1 c
  obtain⟨o,a,d⟩:=j p.1 c
  rw [e]at a;cases a
  exact⟨e,h,i,k,d⟩
def Inv.unpinned (I:Inv X (k8++pl) U H s):Inv X k8 U H s:=I.pins_of λp a=>I.pin p (Ab2 _ (Ac9 _ a))
def qcg (G:PassesOwn (model X.prog X.w) X.A X.env X.xe) (hc:X.calm=k9) (hi:PI X tg iter wi) (hg:PG X tg g) (j:PSs X body tb)
 (hs: ∀x,foldedSetIterable iter X.env x=pure x:=by intro _;rfl):PS X (.For tg iter body [] pos) (xdc wi g tb):=by
 intro a s U H D I h
 refine wpAny_For (zdv (hi a s U H _ I h) λv s1 h1=>zdv h1 λitv s2 h2=> ?_) hs
 obtain⟨it,C,Y,J,H2,e,I2,T,R,V,W,⟨m0,w0⟩,z⟩:=h2
 subst e
 have k: ∀ {t},(∀ b∈C,t b=u0)-> ∀b∈C,X3 X a t b:=λhn b j=>⟨hn b j,(V b j).2⟩
 refine codeAny_forLoop_any (λn s'=> ∃i K t,Inv X a K t s'/\Y i s'.heap/\(∀ b∈C,t b=u0)/\W i n K t) ?_ m0 ⟨0,U,H2,I2,R,λb j=>(V b j).1,w0⟩
 rintro n s3 ⟨i,E,L,I3,A,F,w3⟩
 rcases z i n E L w3 with⟨stop,qn⟩ | ⟨go,N,hN,step⟩
 ·refine wpAny_passesOwn G (zdv (T.done X rfl rfl rfl hc i a s3 E L X.xe I3 (k F) A stop) ?_)
  rintro r s4 ⟨O,I4⟩
  subst O
  exact wpAny_execs_nil ⟨E,L,I4,qn⟩
 ·refine wpAny_passesOwn G (zdv (T.item X rfl rfl rfl hc i a s3 E L X.xe I3 (k F) A go) ?_)
  rintro r s4 ⟨u,O,h4⟩
  subst O
  refine wpAny_passesOwn G (zdv h4 ?_)
  rintro _ Z ⟨x,S,I5,r5,y5,y,M⟩
  have Q:=I5.pinned (k M) (T.obj _ _ y)
  refine wpAny_passesOwn G (zdv (hg _ Z E S x u _ Q r5 (step x S y5)) ?_)
  rintro _ s6 ⟨U6,H6,I6,q6⟩
  refine wpAny_passesOwn G (zdv (j _ s6 U6 H6 _ I6 q6) λf P w=> ?_)
  have l: ∀ {c}{q},Inv X (a++QC C Z.heap) c q P->N c q-> ∃m,m<n/\ ∃i K t,Inv X a K t P/\Y i P.heap/\(∀ b∈C,t b=u0)/\W i m K t:=λ{c q} p B=>by
   obtain⟨m',hm,w7⟩:=hN c q B
   refine⟨m',hm,i+1,c,q,p.unpinned,T.keep _ _ _ y λb j o e=>(p.pin (b,o) (Ab2 _ (Ab2 _ (ji j e)))).1,λb j=> ?_,w7⟩
   obtain⟨o,e,d⟩:=T.obj _ _ y b j
   exact(p.pin (b,o) (Ab2 _ (Ab2 _ (ji j e)))).2.1
  cases f with
  | next=>obtain⟨c,q,p,B⟩:=w;exact l p B
  | cont=>obtain⟨c,q,p,B⟩:=w;exact l p B
  | brk=>obtain⟨c,q,p,w⟩:=w;exact⟨c,q,p.unpinned,w⟩
  | ret v=>obtain⟨x7,c,q,p,r7,w⟩:=w;exact⟨x7,c,q,p.unpinned,r7,w⟩
end
abbrev R2:=V->V->Hp->VK->Prop
noncomputable def xdH (X:Cx) (f:Value->Value->Sem Value) (r:R2):Prop:=
 ∀(k8:List (Addr×Obj)) (s:Shared) (U:St) (H:Hp) (x y:V) (v u:Value) (Q:VK),Inv X k8 U H s->RelV x v->RelV y u->r x y H Q →
  wpAny (model X.prog X.w) X.A (f v u) (EP X k8 U Q) X.xe s
noncomputable def xdS (X:Cx) (f:Value->Sem Value) (r:V->Hp->VK->Prop):Prop:=
 ∀(k8:List (Addr×Obj)) (s:Shared) (U:St) (H:Hp) (x:V) (v:Value) (Q:VK),Inv X k8 U H s->RelV x v->r x H Q →
  wpAny (model X.prog X.w) X.A (f v) (EP X k8 U Q) X.xe s
noncomputable def Xm (X:Cx) (f:Value) (r:List V->Hp->VK->Prop):Prop:=
 ∀(k8:List (Addr×Obj)) (s:Shared) (U:St) (H:Hp) (xs:List V) (a:List Value) (Q:VK),Inv X k8 U H s->Vals xs a->r xs H Q →
  wpAny (model X.prog X.w) X.A (call f a) (EP X k8 U Q) X.xe s
noncomputable def qdo (X:Cx) (r:V->Hp->(Bool->Hp->Prop)->Prop):Prop:=
 ∀(k8:List (Addr×Obj)) (s:Shared) (U:St) (H:Hp) (x:V) (v:Value) (Q:Bool->Hp->Prop),Inv X k8 U H s->RelV x v->r x H Q →
  wpAny (model X.prog X.w) X.A (truthy v) (TP X k8 U Q) X.xe s
def zdD (r:R2) (a tb:TE):TE:=λU H Q=>a U H λx H1=>tb U H1 λy H2=>r x y H2 Q
def jdv (r:V->Hp->VK->Prop) (a:TE):TE:=λU H Q=>a U H λx H1=>r x H1 Q
def rI (C:Int->Int->Prop) (g:Int->Int->V):R2:=λx y H Q=> ∃i j,x= .int i/\y= .int j/\C i j/\Q (g i j) H
def jdq (g:Int->Int->V):R2:=λx y H Q=> ∃i j,x= .int i/\y= .int j/\Q (g i j) H
def rU (g:Int->V):V->Hp->VK->Prop:=λx H Q=> ∃i,x= .int i/\Q (g i) H
section
variable {X:Cx}{a b c:Expr}{ta tb tc:TE}{pos:Pos}
def jcU (i:PE X a ta) (k:PE X b tb){R:V->V->Hp->Prop}(I:Inv X k8 U H s)
 (h:ta U H λx H1=>tb U H1 λy H2=>R x y H2){f:Value->Value->Sem Value}
 (o: ∀v u e x y H2,Inv X k8 U H2 e->RelV x v->RelV y u->R x y H2->wpAny (model X.prog X.w) X.A (f v u) Q X.xe e):
 wpAny (model X.prog X.w) X.A (eval a X.env) (λv d=>wpAny (model X.prog X.w) X.A (eval b X.env) (λu c=>wpAny (model X.prog X.w) X.A (f v u) Q X.xe c) X.xe d) X.xe s:=by
 refine zdv (i k8 s U H _ I h) ?_
 rintro v g ⟨x,H1,l,m,n⟩
 refine zdv (k k8 g U H1 _ l n) ?_
 rintro u e ⟨y,H2,j,p,q⟩
 exact o v u e x y H2 j m p q
def xcP (g:xdH X (binaryOp op) r) (d:PE X a ta) (i:PE X b tb):PE X (.BinOp a op b pos) (zdD r ta tb):=by
 intro c s U H Q I h
 exact wpAny_BinOp (jcU d i I h λv u k x y f e l j q=>g c k U f x y v u Q e l j q)
def qbO (g:xdS X (unaryOp op) r) (d:PE X a ta):PE X (.UnaryOp op a pos) (jdv r ta):=by
 intro b s U H Q I h
 exact UnaryOp_ (zdv (d b s U H _ I h) λv f ⟨x,c,i,j,e⟩=>g b f U c x v Q i j e)
def qdO {g:Int->Int->Int}
 (a: ∀ i j t u s Q E,C i j->Q (.int (g i j) s.toks) { s with toks:=s.toks+1 }->wpAny (model X.prog X.w) X.A (f (.int i t) (.int j u)) Q E s):
 xdH X f (rI C λi j=> .int (g i j)):=by
 intro b s U H x y v u Q I e c h
 obtain⟨i,j,rfl,rfl,k,q⟩:=h
 obtain⟨t,rfl⟩:=e
 obtain⟨d,rfl⟩:=c
 exact a i j t d s _ _ k ⟨.int (g i j),H,I.tok _,⟨_,rfl⟩,q⟩
def qcH {g:Int->Int->Int}
 (a: ∀ i j t u s Q E,Q (.int (g i j) s.toks) { s with toks:=s.toks+1 }->wpAny (model X.prog X.w) X.A (f (.int i t) (.int j u)) Q E s):
 xdH X f (jdq λi j=> .int (g i j)):=by
 intro b s U H x y v u Q I e c h
 obtain⟨i,j,rfl,rfl,q⟩:=h
 obtain⟨t,rfl⟩:=e
 obtain⟨d,rfl⟩:=c
 exact a i j t d s _ _ ⟨.int (g i j),H,I.tok _,⟨_,rfl⟩,q⟩
def zcI {g:Int->Int->Bool}
 (a: ∀ i j t u s Q E,Q (.bool (g i j)) s->wpAny (model X.prog X.w) X.A (f (.int i t) (.int j u)) Q E s):
 xdH X f (jdq λi j=> .bl (g i j)):=by
 intro b s U H x y v u Q I e c h
 obtain⟨i,j,rfl,rfl,q⟩:=h
 obtain⟨t,rfl⟩:=e
 obtain⟨d,rfl⟩:=c
 exact a i j t d s _ _ ⟨.bl (g i j),H,I,rfl,q⟩
def qc6 (i j:Int):Prop:=0<j/\j<1073741824
def jc7 (i j:Int):Prop:=0<=j/\j<=1000000/\i.natAbs<2 ^ 64
def CMul (i j:Int):Prop:=(-(2 ^ 64)<i/\i<2 ^ 64)\/(-(2 ^ 64)<j/\j<2 ^ 64)
def CMul.ok (h:CMul i j):IntMulOk i j:=by
 rcases h with⟨b,a⟩ | ⟨b,a⟩
 ·exact .of_left (intBits_le_64 b a)
 ·exact .of_right (intBits_le_64 b a)
def W9 (k):(0:Int)<=2 ^ k:=by
 exact Int.natCast_nonneg _
def xcF:xdH X (binaryOp .Add) (jdq λi j=> .int (i+j)):=qcH λ_ _ _ _ _ _ _ q=>add_int q
def qcE:xdH X (binaryOp .Sub) (jdq λi j=> .int (i-j)):=qcH λ_ _ _ _ _ _ _ q=>sub_int q
def qct:xdH X (binaryOp .Mult) (rI CMul λi j=> .int (i*j)):=qdO λ_ _ _ _ _ _ _ a q=>mul_int q a.ok
def qb5:xdH X (binaryOp .FloorDiv) (rI qc6 λi j=> .int (i / j)):=qdO λi j _ _ _ _ _ a q=>by
 have c:=a.1
 have b:=a.2
 exact floordiv_int (by omega) (by rw [Al2 i (by omega)];exact q) (.inl (PyProof.noPylong_small (by omega)))
def jcB:xdH X (binaryOp .Mod) (rI (λ_ j=>0<j) λi j=> .int (i % j)):=qdO λi j _ _ _ _ _ a q=>by
 have b:=a
 exact mod_int' (by omega) (by rw [Int.fmod_eq_emod_of_nonneg i (by omega)];exact q)
def xcq:xdH X (binaryOp .Pow) (rI jc7 λi j=> .int (i ^ j.toNat)):=qdO λ_ _ _ _ _ _ _ a q=>pow_int_small a.1 a.2.1 a.2.2 q
def zcx:xdH X (binaryOp .LShift) (rI jc7 λi j=> .int (i*2 ^ j.toNat)):=qdO λ_ _ _ _ _ _ _ a q=>lshift_int_small a.1 a.2.1 a.2.2 q
def xcf:xdH X (binaryOp .RShift) (rI (λ_ j=>0<=j) λi j=> .int (i / 2 ^ j.toNat)):=qdO λi j _ _ _ _ _ a q=>
 rshift_int a (by rw [Al2 i (W9 _)];exact q)
def zcq:xdH X (binaryOp .BitAnd) (jdq λi j=> .int (Builtin.bitAnd i j)):=qcH λ_ _ _ _ _ _ _ q=>and_int q
def xcO:xdH X (binaryOp .BitOr) (jdq λi j=> .int (Builtin.bitOr i j)):=qcH λ_ _ _ _ _ _ _ q=>or_int q
def qdx {g:Int->Int}
 (a: ∀ i t s Q E,Q (.int (g i) s.toks) { s with toks:=s.toks+1 }->wpAny (model X.prog X.w) X.A (f (.int i t)) Q E s):
 xdS X f (rU λi=> .int (g i)):=by
 intro b s U H x v Q I c h
 obtain⟨i,rfl,q⟩:=h
 obtain⟨t,rfl⟩:=c
 exact a i t s _ _ ⟨.int (g i),H,I.tok _,⟨_,rfl⟩,q⟩
def qbv:xdS X (unaryOp .USub) (rU λi=> .int (-i)):=qdx λ_ _ _ _ _ q=>neg_int q
def qcy:xdS X (unaryOp .Invert) (rU λi=> .int (Builtin.bitNot i)):=qdx λ_ _ _ _ _ q=>invert_int q
end
section
variable {X:Cx}{a b c:Expr}{ta tb tc:TE}{pos:Pos}
def xbA (I:Inv X k8 U H s) (q:Q (.bl k) H) (e:k=k'):EP X k8 U Q (.bool k') s:=by
 subst e
 exact⟨.bl k,H,I,rfl,q⟩
def xcM:xdH X (compareOp .Lt) (jdq λi j=> .bl (v9 (i<j))):=zcI λ_ _ _ _ _ _ _ q=>lt_int q
def qcW:xdH X (compareOp .LtE) (jdq λi j=> .bl (v9 (i<=j))):=zcI λ_ _ _ _ _ _ _ q=>le_int q
def zcP:xdH X (compareOp .Gt) (jdq λi j=> .bl (v9 (j<i))):=zcI λ_ _ _ _ _ _ _ q=>gt_int q
def jcV:xdH X (compareOp .GtE) (jdq λi j=> .bl (v9 (j<=i))):=zcI λ_ _ _ _ _ _ _ q=>ge_int q
def ZS (i:xdH X (compareOp op) r) (d:PE X a ta) (j:PE X b tb) (f:behindInMarks op b=y9):PE X (.Compare a [op] [b] pos) (zdD r ta tb):=by
 intro c s U H Q I h
 exact wpAny_Compare1 (jcU d j I h λv u l x y g e m k q=>i c l U g x y v u Q e m k q) f
def xct (t:TE):TT:=λU H Q=>t U H λx H'=> ∃k,x= .bl k/\Q k H'
def xV (o:xdH X (compareOp op) r) (i:PE X a ta) (p:PE X b tb) (m:behindInMarks op b=y9):PT X (.Compare a [op] [b] pos) (xct (zdD r ta tb)):=by
 intro d s U H Q I h
 refine wpAny_isTrue_Compare1 (zdv (i d s U H _ I h) λv g ⟨x,f,q,t,B⟩=>zdv (p d g U f _ q B) λu A ⟨y,n,l,D,F⟩=>
  zdv (o d A U n x y v u _ l t D F) λc G ⟨z,j,w,E,k,e,C⟩=> ?_) m
 subst e
 cases E
 exact wpAny_truthy_bool ⟨j,w,C⟩
noncomputable def jag (r d:R2) (e tb f:TE):TE:=λU H Q=>e U H λx H1=>tb U H1 λy H2=>r x y H2 λz a=> ∃k,z= .bl k ∧
 (if k=k9 then f U a λb c=>d y b c Q else Q (.bl y9) a)
def jaT (G:xdH X (compareOp op) r) (g:xdH X (compareOp op') r') (q:PE X a ta) (J:PE X b tb) (S:PE X c tc)
 (C:lastMarks [op,op'] [b,c]=false:=by with_unfolding_all rfl):PE X (.Compare a [op,op'] [b,c] pos) (jag r r' ta tb tc):=by
 intro f s U H Q I h
 refine Compare_chain (zdv (q f s U H _ I h) λv p ⟨x,n,K,L,N⟩=>chain_link (zdv (J f p U n _ K N) λu M ⟨y,F,B,m,T⟩=>
  zdv (G f M U F x y v u _ B L m T) λd O ⟨z,i,j,R,k,e,l⟩=> ?_)) C
 subst e
 cases R
 refine wpAny_truthy_bool ?_
 cases k with
 | false=>exact ite_ff ⟨.bl y9,i,j,rfl,l⟩
 | true=>exact ite_tt (chain_last (zdv (S f O U i _ j l) λw t ⟨A,P,E,o,D⟩=>g f t U P y A u w Q E m o D))
def xaV (J:xdH X (compareOp op) r) (g:xdH X (compareOp op') r') (q:PE X a ta) (K:PE X b tb) (Z:PE X c tc)
 (D:lastMarks [op,op'] [b,c]=false:=by with_unfolding_all rfl):PT X (.Compare a [op,op'] [b,c] pos) (xct (jag r r' ta tb tc)):=by
 intro f s U H Q I h
 refine isTrue_chain (zdv (q f s U H _ I h) λv p ⟨x,n,L,M,P⟩=>test_link (zdv (K f p U n _ L P) λu O ⟨y,G,C,m,q2⟩=>
  zdv (J f O U G x y v u _ C M m q2) λd R ⟨z,i,j,Y,k,e,l⟩=> ?_)) D
 subst e
 cases Y
 refine wpAny_truthy_bool ?_
 cases k with
 | false=>
  obtain⟨k',T,V⟩:=l
  cases T
  exact ite_ff ⟨i,j,V⟩
 | true=>
  refine ite_tt (test_last (zdv (Z f R U i _ j l) λA t ⟨B,S,F,o,E⟩=>zdv (g f t U S y B u A _ F m o E) ?_))
  rintro d' s5 ⟨z2,w,N,W,k2,e2,q5⟩
  subst e2
  cases W
  exact wpAny_truthy_bool ⟨w,N,q5⟩
noncomputable def xb5 (K:Aa6) (x:V) (H:Hp) (k:Bool):Prop:=
 match x with
 | .non=>k=y9
 | .bl b=>k=b
 | .int i=>k=(i != 0)
 | .str y=>y.length<=sizeLine/\k=((y.length:Int) != 0)
 | .byt y=>y.size<=sizeLine/\k=((y.size:Int) != 0)
 | .ref p=>(∃ xs,SqL K H p xs/\k= !xs.isEmpty)\/(∃ xs,qdV K H p xs/\k= !xs.isEmpty)\/ ∃a,H p=y0 (.dK a)/\k= !a.isEmpty
 | _=>False
def W7 (r:KV kvs vs):(!vs.isEmpty)= !kvs.isEmpty:=by
 cases r<;>rfl
def ZG (r:Vals xs its):(!its.toArray.isEmpty)= !xs.isEmpty:=by
 cases r<;>simp
def Jz:(sizeLine:Nat)<2 ^ 63:=by rw [sizeLine_eq];decide
def QZ:qdo X (λx H Q=> ∃k,xb5 X.K x H k/\Q k H):=by
 intro o s U H x v Q I d h
 obtain⟨k,e,q⟩:=h
 have B:=Jz
 have A:=sizeLine_eq
 cases x with
 | non=>
  cases d
  have a:=e
  subst a
  exact truthy_none ⟨H,I,q⟩
 | bl b=>
  cases d
  have a:=e
  subst a
  exact wpAny_truthy_bool ⟨H,I,q⟩
 | int i=>
  obtain⟨t,rfl⟩:=d
  have a:=e
  subst a
  exact PySem.P.truthy_int ⟨H,I,q⟩
 | str y=>
  obtain⟨t,rfl⟩:=d
  obtain⟨u,a⟩:y.length<=sizeLine/\k=((y.length:Int) != 0):=e
  subst a
  exact PySem.P.truthy_str (by omega) ⟨H,I.tok _,q⟩
 | byt y=>
  obtain⟨t,rfl⟩:=d
  obtain⟨u,a⟩:y.size<=sizeLine/\k=((y.size:Int) != 0):=e
  subst a
  exact PySem.W.truthy_bytes (by omega) ⟨H,I.tok _,q⟩
 | ref p=>
  cases d
  have a:=e
  rcases a with⟨z,f,a⟩ | ⟨z,f,a⟩ | ⟨g,f,a⟩
  ·subst a
   obtain⟨j,r,pl,n⟩:=I.list f
   have c:=r.length
   exact wpAny_truthy_list pl.isList (by simp only [Aa8];omega) ⟨H,I.tok _,by rw [ZG r];exact q⟩
  ·subst a
   obtain⟨j,r,pl,n⟩:=I.tuple f
   have c:=r.length
   exact truthy_tuple pl (by simp only [Aa8];omega) ⟨H,I.tok _,by rw [ZG r];exact q⟩
  ·subst a
   obtain⟨n,w,l,r,m⟩:g.length<=sizeLine/\(p==sysModules)=y9/\ ∃l,KV g l/\s.heap.DictOf (qB X.prog X.w) p l:=I.hok p _ f
   have c:=Paired.length r
   exact wpAny_truthy_dict w m (by omega) ⟨H,I.tok _,by rw [W7 r];exact q⟩
 | _=>exact(e).elim
def qa9 (f:PE X a ta) (g: ∀b,isTrue a X.env b=(do let v ←b;standAt a.pos;holding [v] (truthy v))):
 PT X a (λU H Q=>ta U H λx H'=> ∃k,xb5 X.K x H' k/\Q k H'):=by
 intro c s U H Q I h
 exact isTrue_plain (zdv (f c s U H _ I h) λv e ⟨x,d,i,j,l⟩=>QZ c e U d x v Q i j l) (g _)
def zQ (r:Vals [x] us): ∃u,us= [u]/\RelV x u:=by
 cases r with
 | cons b a=>cases a;exact⟨_,rfl,b⟩
def xW (r:Vals [x,y] us): ∃u a,us= [u,a]/\RelV x u/\RelV y a:=by
 cases r with
 | cons e c=>
  cases c with
  | cons d b=>cases b;exact⟨_,_,rfl,e,d⟩
def qah (c:X.calm=k9):Xm X (.builtin "max") (fun xs H Q=> ∃i j,xs= [.int i,.int j]/\Q (.int (if j>i then j else i)) H):=by
 intro b s U H xs f Q I r h
 obtain⟨i,j,rfl,q⟩:=h
 obtain⟨u,e,rfl,⟨t,rfl⟩,⟨l,rfl⟩⟩:=xW r
 refine max_two_ints (I.ok.hd c) λd g k=>⟨_,H,I.kept k,?_,q⟩
 by_cases a:j>i
 ·rw [if_pos a,if_pos a];exact⟨_,rfl⟩
 ·rw [if_neg a,if_neg a];exact⟨_,rfl⟩
def zaH (c:X.calm=k9):Xm X (.builtin "min") (fun xs H Q=> ∃i j,xs= [.int i,.int j]/\Q (.int (if j<i then j else i)) H):=by
 intro b s U H xs f Q I r h
 obtain⟨i,j,rfl,q⟩:=h
 obtain⟨u,e,rfl,⟨t,rfl⟩,⟨l,rfl⟩⟩:=xW r
 refine min_two_ints (I.ok.hd c) λd g k=>⟨_,H,I.kept k,?_,q⟩
 by_cases a:j<i
 ·rw [if_pos a,if_pos a];exact⟨_,rfl⟩
 ·rw [if_neg a,if_neg a];exact⟨_,rfl⟩
def jT:Xm X (.builtin "divmod") (fun xs H Q=> ∃i j,xs= [.int i,.int j]/\qc6 i j/\ ∀p,H p=none->Q (.ref p) (zdL H p (.tup [.int (i / j),.int (i % j)]))):=by
 intro a s U H xs f Q I r h
 obtain⟨i,j,rfl,⟨k,c⟩,q⟩:=h
 obtain⟨u,d,rfl,⟨t,rfl⟩,⟨g,rfl⟩⟩:=xW r
 refine divmod_int (by omega) ?_ (.inl (PyProof.noPylong_small (by omega)))
 rw [Al2 i (by omega),Int.fmod_eq_emod_of_nonneg i (by omega)]
 have hn:=I.hok.fresh (Aa5 _)
 refine⟨.ref s.heap.objs.size,_,?_,rfl,q _ hn⟩
 refine I.laid (λb o e=>Aa1 _ e) (Aa5 _) ⟨by simp only [Ab9,Am6];rw [sizeLine_eq];decide,[.int (i / j) s.toks,.int (i % j) (s.toks+1)],.cons ⟨_,rfl⟩ (.cons ⟨_,rfl⟩ .nil),?_⟩
 exact⟨_,Ab6 s.heap rfl,rfl,rfl,0,rfl⟩
end
structure ObjM (h:Heap) (x dx C:Addr) (mA:Str->Option Value):Prop where
 obj:h.get? x=y0 (Ao0 C dx)
 ns:h.Ns1 dx mA
 ne:dx≠x
def QR {h:Heap}(n:h.Ns1 dx mA): ∃c,h.get? dx=y0 c/\ ∀name,PySem.W.lookIn name c=y0 (mA name):=by
 obtain⟨o,d,m,j,i,k,_,g⟩:=n
 refine⟨o,j,λname=> ?_⟩
 have e:=g name
 unfold nsFind findBy at e
 rw [← Array.find?_toList]at e
 unfold PySem.W.lookIn
 rw [i]
 dsimp only
 split
 ·rename_i y q
  rw [q]at e
  exact congrArg y0 e
 ·rename_i q
  rw [q]at e
  have a:d.toList.any (·.refKey)=false:=by
   rw [Ag5]
   intro y f
   obtain⟨z,t,b⟩:=k y (Array.mem_toList_iff.mp f)
   simp [DictEntry.refKey,b]
  have l: ¬d.toList.any (·.refKey)=true:=by rw [a];exact Ab8
  rw [if_neg l]
  exact congrArg y0 e
def ObjM.look (I:ObjM h x dx C mA): ∃a,PySem.W.InstAt h x (Ao0 C dx) C (y0 a)/\ ∀name,PySem.W.lookIn name a=y0 (mA name):=
 let ⟨a,c,b⟩:=QR I.ns
 ⟨a,⟨I.obj,rfl,rfl,c⟩,b⟩
def RelO.some_of (r:RelO (y0 v) o): ∃u,o=y0 u/\RelV v u:=by
 cases o with
 | none=>exact(r).elim
 | some u=>exact⟨u,rfl,r⟩
def jax (r:RelV v u):PySem.W.handedIn u=true:=by
 cases v with
 | non=>cases (r);rfl
 | bl b=>cases (r);rfl
 | int i=>obtain⟨t,e⟩:=(r);cases e;rfl
 | str x=>obtain⟨t,e⟩:=(r);cases e;rfl
 | byt b=>obtain⟨t,e⟩:=(r);cases e;rfl
 | flt b=>obtain⟨t,e⟩:=(r);cases e;rfl
 | ref a=>cases (r);rfl
 | ty n=>cases (r);rfl
section
variable {P:Program}{w:World}{H H':Hp}{h h':Heap}{a C dx:Addr}{fs fs':List (Str×V)}
def xbD (b:HOk P w H h) (e:H a=y0 (.ins C dx fs)): ∃mA,ObjM h a dx C mA/\(∀ f,RelO (fs.lookup f) (mA f))/\PySem.Within mA (fs.map (·.1))/\fs.length<=1000/\H dx=y0 (.own a):=by
 obtain⟨d,z,ne,c,mA,n,r,q⟩:=(show ObjOk P w H h a (.ins C dx fs)from b a _ e)
 exact⟨mA,⟨c,n,ne⟩,r,q,z,d⟩
end
structure Cls (K:Aa6) (C:Addr):Prop where
 pg:PySem.W.plainGet K C Str.empty=k9
 hd:PySem.W.hasDictIn K C=k9
 po:PySem.W.plainOver K C=k9
 sa:PySem.W.findIn K (.ref C) "__setattr__" =some (some (.builtin "object.__setattr__"))
def Cls.get {K:Aa6}(c:Cls K C) (f):PySem.W.plainGet K C f=true:=c.pg
def xbr (K:Aa6) (C:Addr) (f:Str):Prop:=Am5 K (.ref C) f=y0 u0
structure zdA (K:Aa6) (C:Addr) (f:Str) (v:V) (u:Value):Prop where
 at_:Am5 K (.ref C) f=y0 (y0 u)
 rel:RelV v u
 get:PySem.W.specialIn K u "__get__" =some none
 cp:PySem.W.copiedNames.contains f=y9
structure zc4 (K:Aa6) (C:Addr) (m:Str) (f:Addr):Prop where
 at_:Am5 K (.ref C) m=y0 (y0 (.ref f))
 fn:PySem.W.isFn K (.ref f)=k9
 kp:Ae0 K (.ref f)=k9
section
variable {X:Cx}{k8:List (Addr×Obj)}{U:St}{H:Hp}{s:Shared}{a C dx:Addr}{fs:List (Str×V)}{f:Str}{v:V}{A:Around}{E:Value->Shared->Prop}
def qbS (b:attributeBase e f env (eval e env)=eval e env)
 (h:wpAny (model prog w) A (eval e env) (λo a=>wpAny (model prog w) A (getAttr o f k9) Q E a) E s):wpAny (model prog w) A (eval (.Attribute e f pos) env) Q E s:=
 Attribute_any_ h (by rw [arm_eval_Attribute,b])
end
section
variable {X:Cx}{k8:List (Addr×Obj)}{U:St}{H:Hp}{s:Shared}{A:Around}{E:Value->Shared->Prop}{Q:Value->Shared->Prop}{c:Value}{b:Bool}
inductive xaa (K:Aa6) (H:Hp):V->Value->Prop where
 | non:xaa K H .non (.type "NoneType")
 | bl (x:Bool):xaa K H (.bl x) (.type "bool")
 | int (i:Int):xaa K H (.int i) (.type "int")
 | str (x:Str):xaa K H (.str x) (.type "str")
 | flt (x:UInt64):xaa K H (.flt x) (.type "float")
 | lst {a:Addr}{xs:List V}(e:H a=y0 (.lst xs)):xaa K H (.ref a) (.type "list")
 | frz {a:Addr}{o:Obj}{xs:List V}(e:H a=y0 (.frz o (.lst xs))):xaa K H (.ref a) (.type "list")
 | tup {a:Addr}{xs:List V}(e:H a=y0 (.tup xs)):xaa K H (.ref a) (.type "tuple")
 | dK {a:Addr}{kvs:List (zdw×V)}(e:H a=y0 (.dK kvs)):xaa K H (.ref a) (.type "dict")
 | dT {a:Addr}{kvs:List (List zdw×V)}(e:H a=y0 (.dT kvs)):xaa K H (.ref a) (.type "dict")
 | ins {a C dx:Addr}{fs:List (Str×V)}(e:H a=some (.ins C dx fs)) (cl:Cls K C) (ha:PySem.W.findIn K (.ref C) "__class__" =some (some (.builtin "object.__class__")))
  (hn:PySem.W.specialIn K (.builtin "object.__class__") "__get__" =some (some (.builtin "getset_descriptor.__get__"))) (htk:PySem.W.takesIn K (.builtin "object.__class__")=some true)
  (hm:PySem.W.mroIn K C (.type "object")=some true):xaa K H (.ref a) (.ref C)
def qj (I:Inv X k8 U H s) (f:RelV x u) (ty:xaa X.K H x t) (e:Ac5 X.K t c=y0 b) (h: ∀tk,Q (.bool b) { s with toks:=tk }):
 wpAny (model X.prog X.w) A (call (.builtin "isinstance") [u,c]) Q E s:=by
 cases ty with
 | non=>cases (show u=Value.none from f);exact Ae2 PySem.W.kitx_none I.kIn True.intro e (λz=>nomatch z) h
 | bl y=>cases (show u=Value.bool y from f);exact Ae2 PySem.W.kitx_bool I.kIn True.intro e (λz=>nomatch z) h
 | int i=>obtain⟨t,q⟩:=(show ∃t,u=Value.int i t from f);cases q;exact Ae2 PySem.W.kitx_int I.kIn True.intro e (λz=>nomatch z) h
 | str y=>obtain⟨t,q⟩:=(show ∃t,u=Value.str y t from f);cases q;exact Ae2 PySem.W.kitx_str I.kIn True.intro e (λz=>nomatch z) h
 | flt y=>obtain⟨t,q⟩:=(show ∃t,u=Value.float y t from f);cases q;exact Ae2 PySem.W.kitx_float I.kIn True.intro e (λz=>nomatch z) h
 | @lst a k d=>
  cases (show u=Value.ref a from f)
  obtain⟨_,_,n,_,g⟩:=(show ObjOk X.prog X.w H s.heap a (.lst k)from I.hok a _ d)
  exact Ae2 An5 I.kIn ⟨_,g,rfl⟩ e (λz=>nomatch z) h
 | @frz a v k d=>
  cases (show u=Value.ref a from f)
  obtain⟨_,_,_,n,_,g⟩:=(show ObjOk X.prog X.w H s.heap a (.frz v (.lst k))from I.hok a _ d)
  exact Ae2 An5 I.kIn ⟨_,g,rfl⟩ e (λz=>nomatch z) h
 | @tup a k d=>
  cases (show u=Value.ref a from f)
  obtain⟨_,_,_,p⟩:=(show ObjOk X.prog X.w H s.heap a (.tup k)from I.hok a _ d)
  obtain⟨o,g,l,_⟩:=p
  exact Ae2 PySem.W.kitx_tuple I.kIn ⟨o,g,l⟩ e (λz=>nomatch z) h
 | @dK a j d=>
  cases (show u=Value.ref a from f)
  obtain⟨_,_,L,_,p⟩:=(show ObjOk X.prog X.w H s.heap a (.dK j)from I.hok a _ d)
  obtain⟨o,D,F,g,l,_⟩:=p
  exact Ae2 PySem.W.kitx_dict I.kIn ⟨o,g,l.1⟩ e (λz=>nomatch z) h
 | @dT a j d=>
  cases (show u=Value.ref a from f)
  obtain⟨_,_,k,_,o,D,F,g,l,_⟩:=(show ObjOk X.prog X.w H s.heap a (.dT j)from I.hok a _ d)
  exact Ae2 PySem.W.kitx_dict I.kIn ⟨o,g,l.1⟩ e (λz=>nomatch z) h
 | @ins a C G fs d r w hn m B=>
  cases (show u=Value.ref a from f)
  obtain⟨K,O,_⟩:=xbD I.hok d
  obtain⟨M,J,_⟩:=O.look
  exact Ae2 (PySem.W.kitx_own (r.get _) r.hd w hn m B) I.kIn J e (λz=>nomatch z) h
end
structure Room (k:Nat) (A:Around):Prop where
 hd:A.handled=u0
 dp:A.depth+3*k+5<recursionLimit
 un:A.units+16*k+200<cLine
def Room.mono (r:Room k A) (h:j<=k):Room j A:=⟨r.hd,by have:=r.dp;omega,by have:=r.un;omega⟩
theorem Room.deeper (r:Room (k+1) A) (env):Room k (A.deeper env):=
 ⟨r.hd,by have:=r.dp;show A.depth+1+3*k+5<_;omega,by have:=r.un;show A.units+3+16*k+200<_;omega⟩
def J6 {A:Around}:(A.under (.builtin "type.__call__" ⟨.ref C::us,kw⟩)).depth=A.depth+1:=by
 first | rfl | simp [guardIds]
def J8 {A:Around}:(A.under (.builtin "type.__call__" ⟨.ref C::us,kw⟩)).units=A.units+1:=by
 first | rfl | simp [Code.isFrame]
def Room.make (r:Room (k+1) A) (C) (us) (kw):Room k (A.under (.builtin "type.__call__" ⟨.ref C::us,kw⟩)):=
 ⟨r.hd,by have:=r.dp;rw [J6];omega,by have:=r.un;rw [J8];omega⟩
theorem Room.depth (r:Room k A):A.depth<recursionLimit:=by have:=r.dp;omega
def zc8:TA:=λ_ H Q=>Q [] H
def xcW (a:TE) (b:TA):TA:=λU H Q=>a U H λx H1=>b U H1 λxs H2=>Q (x::xs) H2
section
variable {X:Cx}{e:Expr}{es:List Expr}{te:TE}{t:TA}{pos:Pos}
def zg:PA X [] zc8:=λ_ _ _ _ H Q I h=>Calls.spliced_nil ⟨[],H,I,.nil,h⟩
def Xb (g:PE X e te) (d:PA X es t) (i:starEach (e::es) X.env=(y9,eval e X.env)::starEach es X.env:=by rfl):PA X (e::es) (xcW te t):=by
 intro b a s U H Q I h
 rw [i]
 refine Calls.spliced_cons (zdv (g a s U H _ I h) ?_)
 rintro u f ⟨x,c,m,n,o⟩
 exact zdv (d b a f U c _ m o) λr v ⟨k,l,j,p,q⟩=>⟨x::k,l,j,.cons n p,q⟩
def xdn (t:TA):TE:=λU H Q=>t U H λxs H1=>xs.length<=sizeLine/\ ∀p,H1 p=u0->Q (.ref p) (zdL H1 p (.tup xs))
def jdg (t:TA):TE:=λU H Q=>t U H λxs H1=>xs.length<=sizeLine/\ ∀p,H1 p=u0->Q (.ref p) (zdL H1 p (.lst xs))
def jbm {x1}(h:PA X es t):PE X (.Tuple es x1 pos) (xdn t):=by
 intro a s U H Q I k
 refine wpAny_Tuple_spliced (zdv (h pos a s U H _ I k) λi c ⟨g,f,d,r,z,q⟩=>⟨by rw [← r.length];exact z,?_⟩)
 have j:=d.hok.fresh (Aa5 _)
 refine⟨.ref c.heap.objs.size,zdL f c.heap.objs.size (.tup g),d.laid (λb u e=>Aa1 _ e) (Aa5 _) ?_,rfl,q _ j⟩
 exact⟨z,i,r,⟨_,Ab6 _ rfl,rfl,rfl,_,rfl⟩⟩
def xcd (h:PA X es t):PE X (.List es pos) (jdg t):=by
 intro a s U H Q I k
 refine wpAny_List_spliced (zdv (h pos a s U H _ I k) λi c ⟨g,f,d,r,z,q⟩=>⟨by rw [← r.length];exact z,?_⟩)
 have j:=d.hok.fresh (Aa5 _)
 refine⟨.ref c.heap.objs.size,zdL f c.heap.objs.size (.lst g),d.laid (λb u e=>Aa1 _ e) (Aa5 _) ?_,rfl,q _ j⟩
 exact⟨z,i,0,r,Ab6 _ rfl⟩
end
abbrev Sp:=List V->Hp->VK->XK->Prop
abbrev zd0:=List Env->Hp->Shared->XK->Value->Shared->Prop
structure Env0 (P:Program) (w:World) (K:Aa6) (mg:Str->Option Value) (base:Heap) (A:Around) (outer:List Env) (s:Shared) (H:Hp):Prop where
 frames:A.frames=y0 outer
 mod:Mod K mg base
 bs: ∀b o,base.get? b=y0 o->s.heap.get? b=y0 o/\H b=u0
 bsz:base.objs.size<=s.heap.objs.size
 funs:s.heap.FunFrames base outer
 frf: ∀b∈qdG outer,H b=u0
 hok:HOk P w H s.heap
 bare:AllBare s.gens
noncomputable def CE (a:List Env) (P:Program) (w:World) (H:Hp) (s:Shared) (Q:VK) (u:Value) (s':Shared):Prop:=
 ∃v H',s'.os=s.os/\AllBare s'.gens/\Un (qdG a) [] H H' s.heap s'.heap/\HOk P w H' s'.heap/\RelV v u/\Q v H'
noncomputable def CR (b:zd0) (a:List Env) (P:Program) (w:World) (H:Hp) (s:Shared) (Q:VK) (E:XK) (r:Result) (s':Shared):Prop:=
 match r with
 | .ok (.ret u)=>CE a P w H s Q u s'
 | .ok _=>False
 | .error e=>b a H s E e s'
structure FnOk (P:Program) (w:World) (K:Aa6) (mg:Str->Option Value) (base:Heap) (CX:zd0) (k:Nat) (f:Addr) (fd:FuncData) (ps:List Str) (sp:Sp):Prop where
 len: ∀vs H Q E,sp vs H Q E->vs.length=ps.length
 run: ∀(A:Around) (outer:List Env) (s:Shared) (H:Hp) (args:Args) (us:List Value) (vs:List V) (Q:VK) (E:XK),Room k A->Env0 P w K mg base A outer s H->BindsTo s fd args (ps.zip us)->Vals vs us->sp vs H Q E →
  codeAny (model P w) A (.call (.ref f) args) (CR CX outer P w H s Q E) s
def Env0.make {K:Aa6}(e:Env0 P w K mg base A outer s H) (C:Addr) (a:List Value) (b:List (Str×Value)):
 Env0 P w K mg base (A.under (.builtin "type.__call__" ⟨.ref C::a,b⟩)) outer s H:=⟨by first | exact e.frames | (simpa [Around.under,Code.envs,Code.isFrame,pushEnvs]using e.frames),e.mod,e.bs,e.bsz,e.funs,e.frf,e.hok,e.bare⟩
section
variable {X:Cx}{k8:List (Addr×Obj)}{U:St}{H:Hp}{s s':Shared}
def Inv.env0 (I:Inv X k8 U H s):Env0 X.prog X.w X.K X.mg X.base X.A X.stack s H:=
 ⟨I.ok.frames,I.ok.mod,I.bs,Ac0 I.ok.bsz I.sz,I.stack,I.stkFree,I.hok,I.bare⟩
def Inv.after (I:Inv X k8 U H s) (h:CE X.stack X.prog X.w H s Q u s'):EP X k8 U Q u s':=by
 obtain⟨v,i,f,a,un,e,r,q⟩:=h
 obtain⟨j,g,d,t,c⟩:=s'
 obtain rfl:c=s.os:=f
 exact⟨v,i,I.call un e a (λb z=>absurd z (by simp)),r,q⟩
end
def qcA (b:Sp) (a:List V) (E:XK) (t:TA):TE:=λU H Q=>t U H λc H1=>b (c++a) H1 Q E
noncomputable def Binds (K:Aa6) (d:FuncData) (c:List Str) (b:List Value):Prop:=
 ∀(s:Shared) (a:List Value),K.In s.heap->(a++b).length=c.length->BindsTo s d ⟨a,[]⟩ (c.zip (a++b))
def Binds.all {K:Aa6}(h: ∀a:List Value,a.length=ps.length->bindArgs fd ⟨a,[]⟩=pure (ps.zip a)):Binds K fd ps []:=λs a _ b=>by
 rw [Ae7]at b ⊢
 exact .of_eq (h a b)
noncomputable def XM (a:zd0) (X:Cx) (E:XK):Prop:= ∀(k8:List (Addr×Obj)) (U:St) (H:Hp) (s:Shared) (e:Value) (s':Shared),Inv X k8 U H s->a X.stack H s E e s'->X.xe e s'
section
variable {X:Cx}{CX:zd0}{k:Nat}{f C:Addr}{fd:FuncData}{ps:List Str}{sp:Sp}{dvs:List V}{ds:List Value}{E:XK}{x m:Str}{p pos apos:Pos}{e o:Expr}{es:List Expr}{ta:TE}{t:TA}
def qbw (F:FnOk X.prog X.w X.K X.mg X.base CX k f fd ps sp) (i:Room k X.A) (m:Binds X.K fd ps ds) (g:Vals dvs ds) (l:XM CX X E)
 (I:Inv X k8 U H s) (r:Vals vs us) (h:sp (vs++dvs) H Q E):wpAny (model X.prog X.w) X.A (call (.ref f) us) (EP X k8 U Q) X.xe s:=by
 have b:=r.append g
 have j:(us++ds).length=ps.length:=by rw [← b.length];exact F.len _ _ _ _ h
 refine wpAny_call (codeAny_mono (F.run X.A X.stack s H ⟨us,[]⟩ (us++ds) (vs++dvs) Q E i I.env0 (m s us I.kIn j) b h) λr c a=> ?_)
 cases r with
 | error e=>exact l k8 U H s e c I a
 | ok d=>
  cases d with
  | ret u=>exact I.after a
  | next=>exact False.elim a
  | brk=>exact False.elim a
  | cont=>exact False.elim a
def qbW (F:FnOk X.prog X.w X.K X.mg X.base CX k f fd ps sp) (g:Room k X.A) (v:Gl X x) (l:X.mg x=y0 (.ref f)) (o:Ae0 X.K (.ref f)=k9) (n:Binds X.K fd ps ds) (m:Vals dvs ds) (u:XM CX X E)
 (i:PA X (e::es) t) (c:(x==("__debug__" :Str))=false:=by decide) (j:starEach (e::es) X.env=(false,eval e X.env)::starEach es X.env:=by rfl) (b:(backTo pos (starEach es X.env)).any (·.1)=false:=by rfl):
 PE X (.Call (.Name x p) (e::es) [] pos) (qcA sp dvs E t):=by
 intro a s U H Q I h
 refine wpAny_Call_Name_kw (xv I v l ?_ c)
 refine PySem.W.callWith_K I.ok.mod.kin o (zdv (i pos a s U H _ I h) λz y ⟨A,w,d,r,q⟩=>⟨d.kIn,?_⟩) j b
 exact qbw F g n m u d r q
def zaZ (F:FnOk X.prog X.w X.K X.mg X.base CX k f fd ps sp) (i:Room k X.A) (l:Gl X x) (d:X.mg x=y0 (.ref f)) (c:Ae0 X.K (.ref f)=k9) (e:Binds X.K fd ps ds) (g:Vals dvs ds) (j:XM CX X E)
 (a:(x==("__debug__" :Str))=false:=by decide):PE X (.Call (.Name x p) [] [] pos) (qcA sp dvs E zc8):=by
 intro b s U H Q I h
 refine wpAny_Call_Name_kw (xv I l d ?_ a)
 exact PySem.W.callWith_K0 I.kIn c (qbw F i e g j I .nil h)
structure Mk (K:Aa6) (C f:Addr):Prop where
 makes:PySem.W.makesIn K C=k9
 init:PySem.W.findIn K (.ref C) "__init__" =some (some (.ref f))
 fn:PySem.W.isFn K (.ref f)=k9
 kp:Ae0 K (.ref C)=k9
end
section
variable {X:Cx}{CX:zd0}{k:Nat}{f C:Addr}{fd:FuncData}{ps ks:List Str}{sp:Sp}{E:XK}{x m:Str}{p pos apos kpos:Pos}{e o:Expr}{es:List Expr}{kws:List Keyword}{te ta:TE}{t tk:TA}{nm:Option Str}
structure xc5 (K:Aa6) (fd:FuncData) (ps ks:List Str) (g:List Value->List Value->List Value) (gV:List V->List V->List V):Prop where
 to: ∀(s:Shared) (us ws:List Value),K.In s.heap->(g us ws).length=ps.length->BindsTo s fd ⟨us,ks.zip ws⟩ (ps.zip (g us ws))
 rel: ∀ {vs:List V}{us:List Value}{zs:List V}{ws:List Value},Vals vs us->Vals zs ws->Vals (gV vs zs) (g us ws)
variable {g:List Value->List Value->List Value}{gV:List V->List V->List V}
end
structure Qp (N P:List Str) (sc:Scope):Prop where
 kind:sc.kind= .function
 co:sc.isCoroutine=y9
 gen:sc.isGenerator=y9
 nd:N.Nodup
 pre:N.take P.length=P
 par: ∀x∈P,sc.names.lookup x=y0 .local\/sc.names.lookup x=y0 .cell
 nofree: ∀y∈sc.names,y.2≠ .free
theorem xN {a:Str->Option NameKind}: ∀ {binds}{m},(∀ v,(x,v)∉binds)->bindL a binds m x=m x
 | [],_,_=>rfl
 | (n,v)::r,m,h=>by
  unfold bindL
  rw [xN λw b=>h w (Aa2 _ b)]
  split
  ·have:x≠n:=by rintro rfl;exact h v Aa3
   simp [this]
  ·rfl
theorem jR {a:Str->Option NameKind}: ∀ {binds}{m},(∀ v,(x,v)∉binds)->bindC a binds m x=m x
 | [],_,_=>rfl
 | (n,v)::r,m,h=>by
  unfold bindC
  rw [jR λw b=>h w (Aa2 _ b)]
  split
  ·rfl
  ·have:x≠n:=by rintro rfl;exact h v Aa3
   simp [this]
theorem wO {a:Str->Option NameKind}: ∀ {P:List Str}{b}{i:Nat}{m},P.Nodup->P[i]? =y0 x->b[i]? =y0 v->a x=y0 .local →
 bindL a (P.zip b) m x=y0 v
 | [],_,_,_,_,h,_,_=>by simp at h
 | _::_,[],_,_,_,_,h,_=>by simp at h
 | p::P,w::b,0,m,e,d,c,f=>by
  simp at d c;subst d;subst c
  show bindL a ((p,w)::P.zip b) m p=_
  unfold bindL
  rw [xN λv g=>(Ah.mp e).1 (List.of_mem_zip g).1,if_pos f]
  simp
 | p::P,w::b,i+1,m,e,d,c,f=>by
  unfold bindL
  exact wO (Ah.mp e).2 (by simpa using d) (by simpa using c) f
theorem QQ {a:Str->Option NameKind}: ∀ {P:List Str}{b}{i:Nat}{m},P.Nodup->P[i]? =y0 x->b[i]? =y0 v->a x≠y0 .local →
 bindC a (P.zip b) m x=y0 v
 | [],_,_,_,_,h,_,_=>by simp at h
 | _::_,[],_,_,_,_,h,_=>by simp at h
 | p::P,w::b,0,m,e,d,c,f=>by
  simp at d c;subst d;subst c
  show bindC a ((p,w)::P.zip b) m p=_
  unfold bindC
  rw [jR λv g=>(Ah.mp e).1 (List.of_mem_zip g).1,if_neg f]
  simp
 | p::P,w::b,i+1,m,e,d,c,f=>by
  unfold bindC
  exact QQ (Ah.mp e).2 (by simpa using d) (by simpa using c) f
def start (N:List Str) (a:List V):St:=a.map y0++Ab (N.length-a.length) u0
noncomputable def zM (CX:zd0) (P:Program) (w:World) (K:Aa6) (mg:Str->Option Value) (base:Heap) (N:List Str) (y8:Str) (scope:Scope) (f:Addr) (cd:Value) (A:Around) (outer:List Env) (s:Shared) (H:Hp) (E:XK):Cx where
 prog:=P
 w:=w
 K:=K
 mg:=mg
 base:=base
 A:=A.deeper (envOfC y8 scope s.heap.objs.size f cd)
 N:=N
 s₀:=s
 H₀:=H
 env:=envOfC y8 scope s.heap.objs.size f cd
 outer:=outer
 stack:=envOfC y8 scope s.heap.objs.size f cd::outer
 ex:= []
 calm:=k9
 fn:=λ_=>k9
 pn:= []
 xe:=λe s'=>wpAny (model P w) (A.deeper (envOfC y8 scope s.heap.objs.size f cd)) (leaving (envOfC y8 scope s.heap.objs.size f cd) e) (λ_ s''=>CX outer H s E e s'') (λe' s''=>CX outer H s E e' s'') s'
def W3 {a:Scope}(h:a.names.lookup x=y0 .cell): ∃c,(cellsFrom n a.names []).lookup x=y0 c:=by
 have q:=Am a.names n [] (.inl h)
 exact Ai3.mp q
def xaO {K:Aa6}
 (S:Qp N ps scope) (hd:A.handled=u0) (e0:Env0 P w K mg base A outer s H) (hl:vs.length=ps.length) (r:Vals vs us)
 (x:InCallC s s.heap.objs.size (bindL (envOfC y8 scope s.heap.objs.size f cd).kindOf (ps.zip us) λ_=>u0) (cellsFrom (s.heap.objs.size+1) scope.names []) (bindC (envOfC y8 scope s.heap.objs.size f cd).kindOf (ps.zip us) λ_=>u0) s1):
 Inv (zM CX P w K mg base N y8 scope f cd A outer s H E) [] (start N vs) H s1:=by
 have hpl:ps.length<=N.length:=by have:=congrArg List.length S.pre;rw [Ag3]at this;omega
 obtain⟨h1,tk,rfl,hk⟩:=x.done
 have noA: ∀b:Addr,b∉(zM CX P w K mg base N y8 scope f cd A outer s H E).ex:=λb z=>absurd (show b∈([]:List Addr)from z) (by simp)
 refine⟨⟨e0.mod,S.kind,rfl,rfl,Aa5 _,λy z c h1 h2=> ?_,λy hy=> ?_,λy c _ h=> ?_,λ_=>hd,Around.frames_deeper e0.frames,.inr ⟨rfl,rfl⟩,λb z=>absurd z (noA b),e0.bs,e0.bsz,λb _ _=>noA b,λb z=>absurd z (noA b),e0.funs,e0.frf⟩,
  rfl,e0.bare,Un.kept hk,⟨_,x.toInCall.ns,λi y v h1 h2 h3=> ?_⟩,λy c h=>⟨_,x.cell y c h⟩,e0.hok.fresh (Aa5 _),λy c h=> ?_,λp hp=>absurd (show p∈([]:List (Addr×Obj))from hp) (by simp),e0.hok.kept hk,?_⟩
 ·exact name_of_addr x.apart (PySem.mem_of_lookup h1) (PySem.mem_of_lookup h2)
 ·have hy:=hy
  rcases hy with hy | hy
  ·exact W3 hy
  ·exact absurd rfl (S.nofree _ (PySem.mem_of_lookup hy))
 ·exact Ah2 (x.above y c (PySem.mem_of_lookup h))
 ·have hi:i<vs.length:=by
   unfold start at h2
   by_cases hi:i<vs.length
   ·exact hi
   ·rw [Af7 (by simpa using hi)]at h2
    rw [Am2]at h2
    split at h2<;>cases h2
  have ha:vs[i]? =y0 v:=by
   unfold start at h2
   rw [Ag0 (by simpa using hi),Ad]at h2
   cases e:vs[i]? with
   | none=>rw [e]at h2;cases h2
   | some a=>rw [e]at h2;cases h2;rfl
  obtain⟨u,hu,rv⟩:=r.get ha
  have hp:ps[i]? =y0 y:=by
   rw [← S.pre,List.getElem?_take_of_lt (by omega)];exact h1
  have ndP:ps.Nodup:=by rw [← S.pre];exact S.nd.sublist (List.take_sublist _ _)
  refine⟨u,rv,?_⟩
  rcases S.par y (Ak3 hp)with k | k
  ·exact .inl ⟨k,wO ndP hp hu k⟩
  ·obtain⟨c,e⟩:=W3 k
   refine .inr ⟨.inl k,c,e,?_⟩
   have q:=x.cell y c e
   rw [QQ ndP hp hu (by show scope.names.lookup y≠_;rw [k];decide)]at q
   exact q
 ·exact e0.hok.fresh (Ah2 (x.above y c (PySem.mem_of_lookup h)))
 ·unfold start
  show _=N.length
  rw [Ab1,Aa,Ae8]
  omega
def xcN {K:Aa6}{dV kV doc pm cdv ct oc:Value}
 (lk:K.lookup f=y0 ⟨oc,od,.func (Ah7 name y8 params body scope dV kV doc pm an cdv ct),osl⟩) (hcd:Ak6 K cdv y8=k9) (S:Qp N ps scope)
 (len: ∀vs H Q E,sp vs H Q E->vs.length=ps.length)
 (hbody: ∀ A outer s H vs Q E,Room k (A.deeper (envOfC y8 scope s.heap.objs.size f cdv))->sp vs H Q E →
   ∃t,PSs (zM CX P w K mg base N y8 scope f cdv A outer s H E) body t/\t { nx:=λ_ H'=>Q .non H',rt:=Q } (start N vs) H):
 FnOk P w K mg base CX (k+1) f (Ah7 name y8 params body scope dV kV doc pm an cdv ct) ps sp:=by
 refine⟨len,λA outer s H args us vs Q E hr e0 hb r hsp=> ?_⟩
 have hl:=len _ _ _ _ hsp
 have KX:=e0.mod.kin.keeps λb o e=>(e0.bs b o e).1
 have lim:=e0.mod.nolimit.keeps λb o e=>(e0.bs b o e).1
 have hkind: ∀y∈ps.zip us,scope.names.lookup y.1=y0 .local\/(scope.names.lookup y.1=y0 .cell/\((cellsFrom (s.heap.objs.size+1) scope.names []).lookup y.1).isSome=k9):=by
  rintro ⟨n,v⟩ hy
  rcases S.par n (List.of_mem_zip hy).1 with q | q
  ·exact .inl q
  ·exact .inr ⟨q,Am _ _ _ (.inl q)⟩
 refine codeAny_call_function hr.depth (KX _ _ lk) rfl S.co S.gen rfl (PySem.W.codeRec_of KX hcd) (hb _ _ _ _ ?_)
 refine wpAny_newFunctionEnv_cells S.kind hkind λenv he s1 x=> ?_
 subst he
 refine⟨lim.keeps x.toInCall.keep,codeAny_func ?_⟩
 obtain⟨t,ht,hq⟩:=hbody A outer s H vs Q E (hr.deeper _) hsp
 have I:Inv (zM CX P w K mg base N y8 scope f cdv A outer s H E) [] (start N vs) H s1:=xaO S hr.hd e0 hl r x
 refine wpAny_mono (ht [] s1 (start N vs) H _ I hq) (λfl s' hs=> ?_) λe s' hs=>hs
 have fin: ∀ {U'}{H'}{v}{u},Inv (zM CX P w K mg base N y8 scope f cdv A outer s H E) [] U' H' s'->RelV v u->Q v H'->CE outer P w H s Q u s':=
  λ{U' H' v u} J rv q=>⟨v,H',J.os,J.bare,J.base,J.hok,rv,q⟩
 cases fl with
 | ret u=>
  obtain⟨v,U',H',J,rv,q⟩:=hs
  exact fin J rv q
 | next=>
  obtain⟨U',H',J,q⟩:=hs
  exact fin (v:=V.non) J rfl q
 | brk=>
  obtain⟨_,_,_,q⟩:=hs
  exact False.elim q
 | cont=>
  obtain⟨_,_,_,q⟩:=hs
  exact False.elim q
section
variable {X:Cx}{x:Str}{p pos:Pos}{e:Expr}{es:List Expr}{t:TA}{id T:String}{r:List V->Hp->VK->Prop}
def zdT (r:List V->Hp->VK->Prop) (t:TA):TE:=λU H Q=>t U H λa H1=>r a H1 Q
def qh (v:Xm X (.builtin id) r) (w:Gl X x) (j:X.mg x=none) (n:bootBuiltins x=some (.builtin id)) (g:PA X (e::es) t) (u:x≠ "__name__" :=by decide) (c:(x==("__debug__" :Str))=false:=by decide)
 (i:starEach (e::es) X.env=(y9,eval e X.env)::starEach es X.env:=by rfl) (b:(backTo pos (starEach es X.env)).any (·.1)=false:=by rfl):PE X (.Call (.Name x p) (e::es) [] pos) (zdT r t):=by
 intro a s U H Q I h
 refine wpAny_Call_Name_kw (Qx I w j n ?_ u c)
 exact PyProof.Rows.callWith_builtin1 (zdv (g pos a s U H _ I h) λm f ⟨q,d,k,l,o⟩=>v a f U d q m Q k l o) i b
def ZC (v:Xm X (.type T) r) (w:Gl X x) (j:X.mg x=none) (n:bootBuiltins x=some (.type T)) (g:PA X (e::es) t) (u:x≠ "__name__" :=by decide) (c:(x==("__debug__" :Str))=false:=by decide)
 (i:starEach (e::es) X.env=(y9,eval e X.env)::starEach es X.env:=by rfl) (b:(backTo pos (starEach es X.env)).any (·.1)=false:=by rfl):PE X (.Call (.Name x p) (e::es) [] pos) (zdT r t):=by
 intro a s U H Q I h
 refine wpAny_Call_Name_kw (Qx I w j n ?_ u c)
 exact PyProof.Rows.callWith_type1 (zdv (g pos a s U H _ I h) λm f ⟨q,d,k,l,o⟩=>v a f U d q m Q k l o) i b
end
end L2
namespace HT
open PySem PyProof.Rows
noncomputable def lexLt:List Int->List Int->Bool
 | [],[]=>y9
 | [],_::_=>k9
 | _::_,[]=>y9
 | x::xs,y::ys=>if x=y then lexLt xs ys else v9 (x<y)
def lexLt_cons (x y) (xs ys):lexLt (x::xs) (y::ys)=if x=y then lexLt xs ys else v9 (x<y):=rfl
def qH:lexLt [] []=false:=rfl
def xaU (A) (s) (a) (t) (c) (u): ∃e,SeqAt.EqAt A s (.int a t) (.int c u) e/\(e=k9↔a=c):=
 ⟨(a==c),SeqAt.EqAt.int_int a t c u,by simp⟩
def xaZ (A) (s) (a) (t) (c) (u) (prog) (w) (E) (Q) (h:Q (.bool (v9 (a<c))) s):
 wpAny (model prog w) A (richCompare .Lt (.int a t) (.int c u)) Q E s:=
 (PyProof.Rows.lt_int h)
section
variable {prog:Program}{w:World}{A:Around}{E:Value->Shared->Prop}{s:Shared}
def cat_tup (q:IsTup s.heap t vs.toArray) (u:IsTup s.heap b ws.toArray) (o:vs≠ [])
 (h1:ws= []->Q (.ref t) s) (h2:ws≠ []->Q (.ref s.heap.objs.size) { s with heap:=s.heap.push { cls:= .type "tuple",data:= .seq (vs++ws).toArray } })
 (hsz:vs.length+ws.length<=sizeLine):wpAny (model prog w) A (binaryOp .Add (.ref t) (.ref b)) Q E s:=by
 obtain⟨⟨i,dd,c,sl⟩,g,v,n,r⟩:=id q
 obtain⟨⟨p,f,l,d⟩,a,k,m,j⟩:=id u
 subst v r k j
 have e:vs.toArray++ws.toArray=(vs++ws).toArray:=by simp
 by_cases h:ws= []
 ·exact concat_meets ⟨_,g,rfl⟩ ⟨_,a,rfl⟩ noFill_tuple_add seq_tuple_add PySem.F.slot_tuple_add PySem.F.entry_tuple_add (PySem.F.args_tuple_add_2 _ _)
   (tuple_addW1 t b vs.toArray ws.toArray n m dd f sl d (by simpa using o) (by simp [h])) ⟨g,a,h1 h⟩
 ·refine concat_meets ⟨_,g,rfl⟩ ⟨_,a,rfl⟩ noFill_tuple_add seq_tuple_add PySem.F.slot_tuple_add PySem.F.entry_tuple_add (PySem.F.args_tuple_add_2 _ _)
   (tuple_addW2 t b vs.toArray ws.toArray n m dd f sl d (by simpa using o) (by simpa using h) (by rw [Aa8,Aa8];exact hsz)) ⟨g,a,?_⟩
  rw [e]
  exact h2 h
def sIx (n d:Nat):Option Int->Nat
 | none=>d
 | some v=>if v<0 then(v+(n:Int)).toNat else min v.toNat n
def xcs (n d) (b:d<=n) (o):sIx n d o<=n:=by
 cases o with
 | none=>exact b
 | some v=>
  show(if v<0 then(v+ n).toNat else min v.toNat n)<=n
  by_cases a:v<0
  ·rw [if_pos a];omega
  ·rw [if_neg a];exact Nat.min_le_right _ _
def jas (v) (n d:Nat):(if v<0 then max (v+(n:Int)) 0 else min v (n:Int))=((sIx n d (y0 v):Nat):Int):=by
 show(if v<0 then max (v+ n) 0 else min v n)=(((if v<0 then(v+(n:Int)).toNat else min v.toNat n):Nat))
 by_cases a:v<0
 ·simp only [if_pos a];omega
 ·simp only [if_neg a];omega
def w9 (a b) (n:Nat):Builtin.Slice.sliceAdjust a b 1 (n:Int)=(((sIx n 0 a:Nat):Int),((sIx n n b:Nat):Int)):=by
 have c: ¬(1<0):=by omega
 refine Prod.ext ?_ ?_
 ·cases a with
  | none=>rfl
  | some v=>exact jas v n 0
 ·cases b with
  | none=>rfl
  | some v=>exact jas v n n
def x9 (i j:Nat):Builtin.Slice.slicePlaces (i:Int) (j:Int) 1=j-i:=by
 unfold Builtin.Slice.slicePlaces
 have a:(1:Int)>0:=by omega
 simp only [Int.ediv_one]
 split<;>omega
def QG (p:IsPart v o) (h:Q o s):wpAny (model prog w) A (Builtin.Slice.slicePartIndex v) Q E s:=by
 cases p with
 | none=>exact slicePart_none h
 | int i t=>exact slicePart_int h
def sliceApplied_gen {a b:Option Int}{Q:Int×Int×Nat->Shared->Prop}(e:s.heap.IsSliceOf sl vl vu .none) (pl:IsPart vl a) (g:IsPart vu b)
 (h:Q (((sIx n 0 a:Nat):Int),1,sIx n n b-sIx n 0 a) s):wpAny (model prog w) A (Builtin.Slice.sliceApplied (.ref sl) (pure (n:Int))) Q E s:=by
 obtain⟨i,c,f,d⟩:=id e
 refine wpAny_bind (wpAny_bind (wpAny_field c d (x:=vl) rfl (wpAny_bind (wpAny_field c d (x:=vu) rfl (wpAny_bind (wpAny_field c d rfl (wpAny_pure ?_)))))))
 refine wpAny_bind (slicePart_none ?_)
 refine wpAny_bind (QG pl (wpAny_bind (QG g (wpAny_bind (wpAny_pure ?_)))))
 show wpAny _ _ (match Builtin.Slice.sliceAdjust a b 1 (n:Int)with | (a,b)=>pure (a,(1:Int),Builtin.Slice.slicePlaces a b 1)) _ _ s
 rw [w9 a b n]
 show wpAny _ _ (pure (((sIx n 0 a:Nat):Int),1,Builtin.Slice.slicePlaces ((sIx n 0 a:Nat)) ((sIx n n b:Nat)) 1)) _ _ s
 rw [x9]
 exact wpAny_pure h
def zaS (xs:Array Value) (i k:Nat):((Aa0 k).filterMap λ(m:Nat)=>xs[((i:Int)+(m:Int)*1).toNat]?).toArray=((xs.toList.drop i).take k).toArray:=by
 have e:(λ(m:Nat)=>xs[(i+(m:Int)*1).toNat]?)=λm=>xs[i+m]? :=by
  funext m
  have:(i+(m:Int)*1).toNat=i+m:=by omega
  rw [this]
 rw [e]
 have:=pick_run xs i k
 rw [List.filterMap_map]at this
 have a:((λx=>xs[x]?)∘λx=>i+x)=λm=>xs[i+m]? :=rfl
 rw [a]at this
 rw [this]
def getItem_tuple_cut {b c:Option Int}(d:IsTup s.heap t items) (j:s.heap.IsSliceOf sl vl vu .none) (pl:IsPart vl b) (m:IsPart vu c)
 (l: ¬(sIx items.size 0 b=0/\sIx items.size items.size c=items.size))
 (h:Q (.ref s.heap.objs.size) { s with heap:=s.heap.push { cls:= .type "tuple",data:= .seq ((items.toList.drop (sIx items.size 0 b)).take (sIx items.size items.size c-sIx items.size 0 b)).toArray } })
 (hsz:items.size<=sizeLine):wpAny (model prog w) A (getItem (.ref t) (.ref sl)) Q E s:=by
 have a:=by
  show((items.toList.drop (sIx items.size 0 b)).take (sIx items.size items.size c-sIx items.size 0 b)).toArray.size<=sizeLine
  rw [Aa8,Ag3,Ai5,An1]
  omega
 have o:sIx items.size items.size c<=items.size:=xcs _ _ (Aa5 _) c
 obtain⟨k,f,e,n⟩:=id j
 have i:s.TypeIs (.ref sl) "slice" :=⟨k,f,e⟩
 unfold getItem
 try with_reducible refine wpAny_holding ?_
 first | refine wpAny_bind (wpAny_pure ?_) | skip
 refine wpAny_bind (wpAny_sequenceKey d.typeIs (by decide) ?_)
 refine wpAny_bind (wpAny_callSpecial?_slot d.typeIs PyProof.Rows.slot_tuple_getitem
  (wpAny_call_entry PyProof.Rows.slot_tuple_getitem d.typeIs entry_tuple_getitem ?_ (args_tuple_getitem _ _)))
 show wpAny _ _ (Builtin.Tuple.tupleItemsOf (.ref t) >>= _) _ _ s
 refine wpAny_bind (tupleItemsOf_ d ?_)
 refine wpAny_bind (wpAny_typeOf i ?_)
 rw [if_pos (by decide)]
 refine wpAny_bind (sliceApplied_gen j pl m ?_)
 have g: ¬((((sIx items.size 0 b:Nat):Int)==0&&(1:Int)==1&&(sIx items.size items.size c-sIx items.size 0 b)==items.size)=k9):=by
  intro q
  rw [Aa7,Aa7]at q
  have p:=eq_of_beq q.1.1
  have r:=eq_of_beq q.2
  exact l ⟨by omega,by omega⟩
 show wpAny _ _ (if (((sIx items.size 0 b:Nat):Int)==0&&(1:Int)==1&&(sIx items.size items.size c-sIx items.size 0 b)==items.size)=k9 then _ else _) _ _ s
 rw [if_neg g,zaS]
 first
  | exact wpAny_bind (wpAny_newObj_type (wpAny_pure ⟨_,rfl,wpAny_pure h⟩) a)
  | exact wpAny_bind (wpAny_newObj_type (wpAny_bind (wpAny_pure (wpAny_pure ⟨_,rfl,wpAny_pure h⟩))) a)
  | exact wpAny_bind (wpAny_bind (wpAny_newObj_type (wpAny_pure (wpAny_pure ⟨_,rfl,wpAny_pure h⟩)) a))
  | exact wpAny_bind (wpAny_bind (wpAny_newObj_type (wpAny_pure ⟨_,rfl,wpAny_pure h⟩) a))
end
end HT
namespace L2
open PySem PySem.Spec PyProof.Rows
abbrev TO:=St->Hp->(Option Int->Hp->Prop)->Prop
noncomputable def PO (X:Cx) (e:Option Expr) (t:TO):Prop:=
 ∀(k8:List (Addr×Obj)) (s:Shared) (U:St) (H:Hp) (Q:Option Int->Hp->Prop),Inv X k8 U H s->t U H Q →
  wpAny (model X.prog X.w) X.A (evalPart e X.env) (λu s'=> ∃o H',Inv X k8 U H' s'/\IsPart u o/\Q o H') X.xe s
def zbG:TO:=λ_ H Q=>Q u0 H
def jcP (t:TE):TO:=λU H Q=>t U H λx H1=> ∃i,x= .int i/\Q (y0 i) H1
def WE : ∀ {a},Vals (b.map V.int) a->IntsAre a b:=by
 induction b with
 | nil=>intro a r;rw [Ad1]at r;cases r;exact .nil
 | cons n b c=>
  intro a r
  cases r with
  | cons f d=>
   obtain⟨t,e⟩:=f
   subst e
   exact .cons n t (c d)
section
variable {X:Cx}{e:Expr}{te:TE}{lo hi:Option Expr}{tl th:TO}{pos p2:Pos}
def jaI:PO X u0 zbG:=by
 intro a s U H Q I h
 exact wpAny_pure ⟨u0,H,I,.none,h⟩
def xJ (h:PE X e te):PO X (y0 e) (jcP te):=by
 intro a s U H Q I d
 refine zdv (h a s U H _ I d) ?_
 rintro u j ⟨x,b,c,f,g⟩
 obtain⟨i,rfl,q⟩:=g
 obtain⟨t,rfl⟩:=f
 exact⟨y0 i,b,c,.int i t,q⟩
noncomputable def SlR (X:Cx) (r:V->Option Int->Option Int->Hp->VK->Prop):Prop:=
 ∀(k8:List (Addr×Obj)) (s:Shared) (U:St) (H:Hp) (x:V) (v a b:Value) (lo hi:Option Int) (sl:Addr) (Q:VK),Inv X k8 U H s->RelV x v->s.heap.IsSliceOf sl a b .none->IsPart a lo->IsPart b hi->r x lo hi H Q →
  ∃T id,typeLookup (.type T) "__getitem__" =pure (some (.builtin id))/\s.TypeIs v T/\wpAny (model X.prog X.w) X.A (getItem v (.ref sl)) (EP X k8 U Q) X.xe s
def SlR.or (h:SlR X r) (h':SlR X r'):SlR X (λx lo hi H Q=>r x lo hi H Q\/r' x lo hi H Q):=by
 intro a s U H x v c d lo hi sl Q I f b pl e q
 rcases q with q | q
 ·exact h a s U H x v c d lo hi sl Q I f b pl e q
 ·exact h' a s U H x v c d lo hi sl Q I f b pl e q
noncomputable def jdC (r:V->Option Int->Option Int->Hp->VK->Prop) (d:TE) (b c:TO):TE:=λU H Q=>d U H λx H1=>b U H1 λl H2=>c U H2 λu a=>r x l u a Q
def WL (m:SlR X r) (o:PE X e te) (E:PO X lo tl) (w:PO X hi th):PE X (.Subscript e (.Slice lo hi u0 p2) pos) (jdC r te tl th):=by
 intro a s U H Q I h
 refine Subscript_ (zdv (o a s U H _ I h) ?_)
 rintro v n ⟨x,j,z,A,F⟩
 refine wpAny_Slice (zdv (E a n U j _ z F) λd D ⟨l,y,p,pl,K⟩=>zdv (w a D U y _ p K) ?_)
 rintro f c ⟨u,g,B,C,G⟩
 refine wpAny_pure ?_
 have t:Inv X a U g { c with heap:=c.heap.push { cls:= .type "slice",data:= .fields #[d,f,.none] } }:=B.kept fun b L q=>Heap.get?_push_of_some _ q
 obtain⟨T,M,J,i,k⟩:=m a { c with heap:=c.heap.push { cls:= .type "slice",data:= .fields #[d,f,.none] } } U g x v d f l u c.heap.objs.size Q t A (Heap.IsSliceOf.new ..) pl C G
 exact tail_any i J k (by with_unfolding_all rfl)
noncomputable def zcz (xs:List V) (a b:Option Int):List V:=(xs.drop (HT.sIx xs.length 0 a)).take (HT.sIx xs.length xs.length b-HT.sIx xs.length 0 a)
def JC (xs) (lo hi):(zcz xs lo hi).length<=xs.length:=by
 unfold zcz
 rw [Ag3,Ai5]
 omega
noncomputable def qcL (K:Aa6):V->Option Int->Option Int->Hp->VK->Prop:=λx lo hi H Q=> ∃a xs,x= .ref a/\qdV K H a xs ∧
 ¬(HT.sIx xs.length 0 lo=0/\HT.sIx xs.length xs.length hi=xs.length)/\ ∀p,H p=u0->Q (.ref p) (zdL H p (.tup (zcz xs lo hi)))
def xcx:SlR X (qcL X.K):=by
 intro j s U H x v u w e k sl Q I p m pl o h
 obtain⟨a,d,rfl,l,n,q⟩:=h
 cases p
 obtain⟨f,r,g,i⟩:=I.tuple l
 have c:f.toArray.size=d.length:=by rw [Aa8];exact r.length.symm
 refine⟨"tuple",_,PyProof.Rows.slot_tuple_getitem.lookup,g.typeIs,?_⟩
 refine HT.getItem_tuple_cut g m pl o (by rw [c];exact n) ?_ (by rw [c];exact i)
 rw [c]
 refine⟨.ref s.heap.objs.size,_,I.laid (λb t q=>Aa1 _ q) (Aa5 _) ?_,rfl,q _ (I.hok.fresh (Aa5 _))⟩
 exact⟨Ac0 (JC d e k) i,_,(r.drop (HT.sIx d.length 0 e)).take (HT.sIx d.length d.length k-HT.sIx d.length 0 e),PTup.new _ _⟩
noncomputable def xcL (K:Aa6):R2:=λx y H Q=> ∃a b xs ys,x= .ref a/\y= .ref b/\qdV K H a xs/\qdV K H b ys/\xs≠ []/\xs.length+ys.length<=sizeLine ∧
 (ys= []->Q (.ref a) H)/\(ys≠ []-> ∀p,H p=u0->Q (.ref p) (zdL H p (.tup (xs++ys))))
def Vals.nil_iff (r:Vals xs us):us= []↔xs= []:=by
 cases r with
 | nil=>simp
 | cons _ _=>simp
def qbG:xdH X (binaryOp .Add) (xcL X.K):=by
 intro g s U H x y v u Q I r m h
 obtain⟨a,b,B,C,rfl,rfl,j,l,k,e,o,t⟩:=h
 cases r
 cases m
 obtain⟨i,d,n,_⟩:=I.tuple j
 obtain⟨f,c,p,_⟩:=I.tuple l
 refine HT.cat_tup n p (λz=>k (d.nil_iff.mp z)) (λz=>⟨.ref a,H,I,rfl,o (c.nil_iff.mp z)⟩) (λz=> ?_) (by rw [← d.length,←c.length];exact e)
 refine⟨.ref s.heap.objs.size,_,I.laid (λb A q=>Aa1 _ q) (Aa5 _) ?_,rfl,t (λw=>z (c.nil_iff.mpr w)) _ (I.hok.fresh (Aa5 _))⟩
 exact⟨by rw [Ab1];exact e,_,d.append c,PTup.new _ _⟩
end
noncomputable def ixN (n:Nat) (i:Int):Option Nat:=if 0<=i then(if i<n then y0 i.toNat else u0)else if -(n:Int)<=i then y0 (i+n).toNat else u0
def atI {a:Type}(xs:List a) (i:Int):Option a:=(ixN xs.length i).bind λj=>xs[j]?
def qaO (h:ixN n i=y0 j):seqIndex? i n=y0 j/\j<n/\ -(n:Int)<=i/\i<n:=by
 unfold ixN at h
 by_cases b:0<=i
 ·rw [if_pos b]at h
  by_cases a:i<n
  ·rw [if_pos a]at h
   have e:=Ae5.inj h
   exact⟨by rw [seqIndex_of b a,e],by omega,by omega,a⟩
  ·rw [if_neg a]at h;cases h
 ·rw [if_neg b]at h
  by_cases a: - n<=i
  ·rw [if_pos a]at h
   have e:=Ae5.inj h
   exact⟨by rw [seqIndex_neg (by omega) a,e],by omega,a,by omega⟩
  ·rw [if_neg a]at h;cases h
def WS (h:atI xs i=y0 v): ∃j,seqIndex? i xs.length=y0 j/\xs[j]? =y0 v/\j<xs.length/\ -(xs.length:Int)<=i/\i<xs.length:=by
 unfold atI at h
 cases e:ixN xs.length i with
 | none=>rw [e]at h;cases h
 | some j=>
  rw [e]at h
  obtain⟨b,a,c,d⟩:=qaO e
  exact⟨j,b,h,a,c,d⟩
def Xk {j:Nat}(h:xs[j]? =y0 v):atI xs (j:Int)=y0 v:=by
 have a:=(Ac1.mp h).1
 have e:ixN xs.length j=y0 j:=by
  unfold ixN
  rw [if_pos (by omega),if_pos (by omega)];simp
 unfold atI;rw [e];exact h
def zav (b:Expr):Prop:= ∀o i,subscripted b y9 o i=operate [o,i] (getItem o i)
noncomputable def IxR (X:Cx) (r:R2):Prop:=
 ∀(value a:Expr) (k8:List (Addr×Obj)) (s:Shared) (U:St) (H:Hp) (x y:V) (v u:Value) (Q:VK),Inv X k8 U H s->RelV x v->RelV y u->r x y H Q →
  subscripted a y9 v u=operate [v,u] (getItem v u)->wpAny (model X.prog X.w) X.A (subscriptTail value a v u) (EP X k8 U Q) X.xe s
noncomputable def xdG (X:Cx) (b:String) (r:V->List V->Hp->VK->Prop):Prop:=
 ∀(k8:List (Addr×Obj)) (s:Shared) (U:St) (H:Hp) (x:V) (xs:List V) (v:Value) (a:List Value) (Q:VK),Inv X k8 U H s->RelV x v->Vals xs a->r x xs H Q →
  wpAny (model X.prog X.w) X.A (call (.builtin b) (v::a)) (EP X k8 U Q) X.xe s
section
variable {X:Cx}{a b:Expr}{ta tb:TE}{pos:Pos}
def IxR.or (h:IxR X r) (h':IxR X r'):IxR X (λx y H Q=>r x y H Q\/r' x y H Q):=by
 intro a b c s U H x y v u Q I f d q e
 rcases q with q | q
 ·exact h a b c s U H x y v u Q I f d q e
 ·exact h' a b c s U H x y v u Q I f d q e
def xcY (d:IxR X r) (e:PE X a ta) (j:PE X b tb) (f:zav b):PE X (.Subscript a b pos) (zdD r ta tb):=by
 intro c s U H Q I h
 exact Subscript_ (jcU e j I h λv u l x y i g m k q=>d a b c l U i x y v u Q g m k q (f _ _))
def jc1 (K:Aa6):R2:=λx y H Q=> ∃p xs i v,x= .ref p/\y= .int i/\SqL K H p xs/\atI xs i=y0 v/\Q v H
def qc3 (K:Aa6):R2:=λx y H Q=> ∃p xs i v,x= .ref p/\y= .int i/\qdV K H p xs/\atI xs i=y0 v/\Q v H
def jc9:R2:=λx y H Q=> ∃z i c,x= .str z/\y= .int i/\z.length<=sizeLine/\atI z.cps.toList i=y0 c/\Q (.str ⟨#[c]⟩) H
def ix_list:IxR X (jc1 X.K):=by
 intro c g a s U H x y v u Q I F C h k
 obtain⟨p,K,i,z,rfl,rfl,E,A,q⟩:=h
 cases F
 obtain⟨t,rfl⟩:=C
 obtain⟨e,r,pl,G⟩:=I.list E
 obtain⟨j,b,n,J,B,o⟩:=WS A
 obtain⟨w,l,d⟩:=r.get n
 have D:=r.length
 have hn:=Jz
 have fin:EP X a U Q w s:=⟨z,H,I,d,q⟩
 by_cases m:0<=i
 ·have f:=by
   rw [seqIndex_of m o]at b
   exact Ae5.inj b
  exact item_listR pl.isList m (by omega) (by rw [f];simpa using l) fin k
 ·have f:(i+ e.toArray.size).toNat=j:=by
   rw [seqIndex_neg (by omega) B]at b
   rw [Aa8,←D]
   exact Ae5.inj b
  exact subscriptTail_builtinR pl.isList.typeIs slot_list_getitem.lookup
   (wpAny_getItem_list_neg pl.isList (by omega) (by rw [Aa8]<;>omega) (by omega) (by rw [f];simpa using l) ⟨rfl,fin⟩) k
def ix_tup:IxR X (qc3 X.K):=by
 intro b d a s U H x y v u Q I B m h k
 obtain⟨p,F,i,z,rfl,rfl,A,g,q⟩:=h
 cases B
 obtain⟨t,rfl⟩:=m
 obtain⟨f,r,pl,D⟩:=I.tuple A
 obtain⟨j,o,e,E,G,C⟩:=WS g
 obtain⟨w,l,c⟩:=r.get e
 have n:=r.length
 have hn:=Jz
 have fin:EP X a U Q w s:=⟨z,H,I,c,q⟩
 exact subscriptTail_builtinR pl.typeIs slot_tuple_getitem.lookup
  (getItem_tuple pl (by omega) (by omega) (by rw [Aa8,←n];exact o) (by simpa using l) ⟨rfl,fin⟩) k
def qca:IxR X jc9:=by
 intro a b d s U H x y v u Q I r n h l
 obtain⟨z,i,c,rfl,rfl,A,k,q⟩:=h
 obtain⟨t,rfl⟩:=r
 obtain⟨C,rfl⟩:=n
 obtain⟨j,e,f,B,m,g⟩:=WS k
 have o:z.cps.toList.length=z.length:=by simp [Str.length]
 rw [o]at e m g
 have hn:=Jz
 exact tail_any (typeIs_str s z t) slot_str_getitem.lookup (getItem_str (by
  have p:v9 (i< -(2 ^ 63:Int))=false:=decide_eq_false (by omega)
  have w:v9 (i>=2 ^ 63)=false:=decide_eq_false (by omega)
  rw [p,w,Bool.or_false]) (by rw [e];simpa using f) ⟨.str ⟨#[c]⟩,H,I.tok _,⟨_,rfl⟩,q⟩) l
def xdC (K:Aa6):R2:=λx y H Q=>jc1 K x y H Q\/qc3 K x y H Q\/jc9 x y H Q
def xcc:IxR X (xdC X.K):=ix_list.or (ix_tup.or qca)
def j7 (a:List Value) (n j) (u):Obj.mapSeq (·.setIfInBounds j u) { cls:= .type "list",data:= .seq a.toArray n }= { cls:= .type "list",data:= .seq (a.set j u).toArray n }:=by
 simp [Obj.mapSeq]
theorem Inv.lst (I:Inv X k8 U H s) (h:H p=y0 (.lst xs)):
 ∃ a n,Vals xs a/\s.heap.get? p=y0 { cls:= .type "list",data:= .seq a.toArray n }/\xs.length<=sizeLine:=by
 obtain⟨z,a,n,r,e⟩:=I.hok p _ h
 exact⟨a,n,r,e,z⟩
def Inv.lstUpd {a its':List Value}(I:Inv X k8 U H s) (h:H p=y0 (.lst xs))
 (i:s.heap.get? p=y0 { cls:= .type "list",data:= .seq a.toArray n }) (c:f { cls:= .type "list",data:= .seq a.toArray n }= { cls:= .type "list",data:= .seq its'.toArray n' }) (r:Vals ys its') (d:ys.length<=sizeLine) (t):
 Inv X k8 U (zdL H p (.lst ys)) { s with heap:=s.heap.update p f,toks:=t }:=by
 have e:(s.heap.update p f).get? p=y0 { cls:= .type "list",data:= .seq its'.toArray n' }:=by
  rw [Ah9 f i (by rw [c]<;>rfl),c]
 refine I.write (by rw [h];trivial) (.inl rfl) (λb u g q=>(Aj3 _ _ (Ne.symm g)).trans q) ⟨_,e⟩ ?_
 exact⟨d,its',n',r,e⟩
noncomputable def xcZ:V->V->V->Hp->(Hp->Prop)->Prop:=λo i v H Q=> ∃p xs k j,o= .ref p/\i= .int k/\H p=y0 (.lst xs)/\ixN xs.length k=y0 j/\Q (zdL H p (.lst (xs.set j v)))
def qbe:zcZ X xcZ:=by
 intro f s U H o i v D F u Q I A z rv h
 obtain⟨p,E,k,j,rfl,rfl,m,B,q⟩:=h
 cases A
 obtain⟨t,rfl⟩:=z
 obtain⟨a,n,r,c,y⟩:=I.lst m
 obtain⟨b,C,g,l⟩:=qaO B
 have e:=r.length
 have hn:=Jz
 have w:=
  I.lstUpd m c (j7 a n j u) (r.set rv j) (by rw [Ae3];exact y) s.toks
 by_cases x:0<=k
 ·have d:=by
   rw [seqIndex_of x l]at b
   exact Ae5.inj b
  exact PySem.W.ki_setAt c x (by omega) (by rw [Aa8,←e];exact l) (by rw [d];exact⟨_,w,q⟩)
 ·have d:(k+ a.toArray.size).toNat=j:=by
   rw [seqIndex_neg (by omega) g]at b
   rw [Aa8,←e]
   exact Ae5.inj b
  exact PySem.W.ki_setBack c (by omega) (by rw [Aa8,←e];exact g) (by omega) (by rw [d];exact⟨_,w,q⟩)
def WO (lo hi) (n):(sliceBounds lo hi u0 n).1=((HT.sIx n 0 lo:Nat):Int)/\(sliceBounds lo hi u0 n).2.1=((HT.sIx n n hi:Nat):Int)/\(sliceBounds lo hi u0 n).2.2=1:=by
 refine⟨?_,?_,rfl⟩
 ·cases lo with
  | none=>simp [sliceBounds,HT.sIx]
  | some i=>
   simp only [sliceBounds,HT.sIx,Option.getD_none,show(1:Int)>0 by decide,if_true]
   by_cases h:i<0
   ·simp only [h,if_true]<;>omega
   ·simp only [h,if_false]<;>omega
 ·cases hi with
  | none=>simp [sliceBounds,HT.sIx]
  | some i=>
   simp only [sliceBounds,HT.sIx,Option.getD_none,show(1:Int)>0 by decide,if_true]
   by_cases h:i<0
   ·simp only [h,if_true]<;>omega
   ·simp only [h,if_false]<;>omega
def ZJ (a:List Value) (lo hi):slicePick a.toArray lo hi u0=((a.drop (HT.sIx a.length 0 lo)).take (HT.sIx a.length a.length hi-HT.sIx a.length 0 lo)).toArray:=by
 obtain⟨c,d,b⟩:=WO lo hi a.toArray.size
 unfold slicePick
 rw [c,d,b]
 simp only [sliceRange_one,pick_run,Aa8]<;>rfl
noncomputable def zcK (K:Aa6):V->Option Int->Option Int->Hp->VK->Prop:=λx lo hi H Q=> ∃a xs,x= .ref a/\SqL K H a xs/\ ∀p,H p=u0->Q (.ref p) (zdL H p (.lst (zcz xs lo hi)))
def sl_list:SlR X (zcK X.K):=by
 intro g s U H x v t u e i sl Q I o m pl n h
 obtain⟨a,c,rfl,k,q⟩:=h
 cases o
 obtain⟨j,r,f,l⟩:=I.list k
 have d:=r.length
 refine⟨"list",_,slot_list_getitem.lookup,f.isList.typeIs,?_⟩
 refine wpAny_getItem_list_slice f.isList m pl n .none (by simp) ?_ (by rw [Aa8]<;>omega)
 rw [ZJ,←d]
 refine⟨.ref s.heap.objs.size,_,I.laid (λb p q=>Aa1 _ q) (Aa5 _) ?_,rfl,q _ (I.hok.fresh (Aa5 _))⟩
 exact⟨Ac0 (JC c e i) l,_,0,(r.drop (HT.sIx c.length 0 e)).take (HT.sIx c.length c.length i-HT.sIx c.length 0 e),Ab6 _ rfl⟩
def qE:V->Bool
 | .non=>k9
 | .bl _=>k9
 | .int _=>k9
 | .str _=>k9
 | _=>y9
noncomputable def jdt:V->V->Bool
 | .non,.non=>k9
 | .bl a,.bl b=>a==b
 | .bl a,.int b=>(if a then 1 else 0)==b
 | .int a,.bl b=>a==(if b then 1 else 0)
 | .int a,.int b=>a==b
 | .str a,.str b=>a==b
 | _,_=>y9
def qcD (e:RelV y u) (c:RelV x v) (f:qE y=k9) (fx:qE x=k9):SeqAt.EqAt A s u v (jdt y x):=by
 cases y with
 | non=>
  cases e
  cases x with
  | non=>cases c;exact SeqAt.EqAt.same _
  | bl b=>cases c;exact SeqAt.EqAt.none_bool b
  | int b=>obtain⟨t,rfl⟩:=c;exact SeqAt.EqAt.none_int b t
  | str b=>obtain⟨t,rfl⟩:=c;exact SeqAt.EqAt.none_str b t
  | _=>exact absurd (fx) Ab8
 | bl a=>
  cases e
  cases x with
  | non=>cases c;exact SeqAt.EqAt.bool_none a
  | bl b=>cases c;exact SeqAt.EqAt.bool_bool a b
  | int b=>obtain⟨t,rfl⟩:=c;exact SeqAt.EqAt.bool_int a b t
  | str b=>obtain⟨t,rfl⟩:=c;exact SeqAt.EqAt.bool_str a b t
  | _=>exact absurd (fx) Ab8
 | int a=>
  obtain⟨d,rfl⟩:=e
  cases x with
  | non=>cases c;exact SeqAt.EqAt.int_none a d
  | bl b=>cases c;exact SeqAt.EqAt.int_bool a d b
  | int b=>obtain⟨t,rfl⟩:=c;exact SeqAt.EqAt.int_int a d b t
  | str b=>obtain⟨t,rfl⟩:=c;exact SeqAt.EqAt.int_str a d b t
  | _=>exact absurd (fx) Ab8
 | str a=>
  obtain⟨d,rfl⟩:=e
  cases x with
  | non=>cases c;exact SeqAt.EqAt.str_none a d
  | bl b=>cases c;exact SeqAt.EqAt.str_bool a d b
  | int b=>obtain⟨t,rfl⟩:=c;exact SeqAt.EqAt.str_int a d b t
  | str b=>obtain⟨t,rfl⟩:=c;exact SeqAt.EqAt.str_str a d b t
  | _=>exact absurd (fx) Ab8
 | _=>exact absurd (f) Ab8
noncomputable def xdP (x:V) (u:Value):Bool:=match u with
 | .none=>jdt .non x
 | .bool b=>jdt (.bl b) x
 | .int i _=>jdt (.int i) x
 | .str z _=>jdt (.str z) x
 | _=>y9
def xbB (r:RelV y u) (f:qE y=k9):xdP x u=jdt y x:=by
 cases y with
 | non=>cases r;rfl
 | bl b=>cases r;rfl
 | int i=>obtain⟨t,rfl⟩:=r;rfl
 | str z=>obtain⟨t,rfl⟩:=r;rfl
 | _=>exact absurd (f) Ab8
theorem jC : ∀ {xs}{a},Vals xs a->xs.all qE=k9->a.any (xdP x)=xs.any λy=>jdt y x
 | _,_,.nil,_=>rfl
 | y::xs,u::a,.cons r t,f=>by
  rw [Ai1,Aa7]at f
  rw [Af3,Af3,xbB r f.1,jC t f.2]
theorem zv (c:RelV x v) (fx:qE x=k9): ∀ {xs}{b},Vals xs b->xs.all qE=k9-> ∀u∈b,SeqAt.EqAt A s u v (xdP x u)
 | _,_,.nil,_=>λu a=>by cases a
 | y::xs,u::b,.cons r t,f=>λd a=>by
  rw [Ai1,Aa7]at f
  rcases Ab4.mp a with rfl | a
  ·rw [xbB r f.1];exact qcD r c f.1 fx
  ·exact zv c fx t f.2 d a
def qdH (x:V) (xs:List V):Bool:=xs.any λy=>jdt y x
noncomputable def jdw (K:Aa6) (neg:Bool):R2:=λx y H Q=> ∃p xs,y= .ref p/\(SqL K H p xs\/qdV K H p xs)/\qE x=k9/\xs.all qE=k9/\Q (.bl (if neg then !qdH x xs else qdH x xs)) H
def zaE:xdH X (compareOp .In) (jdw X.K y9):=by
 intro d s U H x y v u Q I e g h
 obtain⟨p,i,rfl,b,fx,fs,q⟩:=h
 cases g
 rcases b with b | b
 ·obtain⟨a,r,pl,f⟩:=I.list b
  refine SeqAt.in_listAt (xdP x) pl.isList (λw c=>zv e fx r fs w (by simpa using c)) ⟨.bl _,H,I,rfl,?_⟩
  rw [show a.toArray.any (xdP x)=a.any (xdP x)by simp,jC r fs]
  exact q
 ·obtain⟨a,r,pl,f⟩:=I.tuple b
  refine SeqAt.in_tupleAt (xdP x) pl (λw c=>zv e fx r fs w (by simpa using c)) ⟨.bl _,H,I,rfl,?_⟩
  rw [show a.toArray.any (xdP x)=a.any (xdP x)by simp,jC r fs]
  exact q
def zN:xdH X (compareOp .NotIn) (jdw X.K k9):=by
 intro d s U H x y v u Q I e g h
 obtain⟨p,i,rfl,b,fx,fs,q⟩:=h
 cases g
 rcases b with b | b
 ·obtain⟨a,r,pl,f⟩:=I.list b
  refine SeqAt.notIn_listAt (xdP x) pl.isList (λw c=>zv e fx r fs w (by simpa using c)) ⟨.bl _,H,I,rfl,?_⟩
  rw [show a.toArray.any (xdP x)=a.any (xdP x)by simp,jC r fs]
  exact q
 ·obtain⟨a,r,pl,f⟩:=I.tuple b
  refine SeqAt.notIn_tupleAt (xdP x) pl (λw c=>zv e fx r fs w (by simpa using c)) ⟨.bl _,H,I,rfl,?_⟩
  rw [show a.toArray.any (xdP x)=a.any (xdP x)by simp,jC r fs]
  exact q
def jP:Xm X (.builtin "len") (fun xs H Q=> ∃p ys,xs= [.ref p]/\(SqL X.K H p ys\/qdV X.K H p ys)/\Q (.int ys.length) H):=by
 intro e s U H xs i Q I r h
 obtain⟨p,ys,rfl,b,q⟩:=h
 obtain⟨u,rfl,g⟩:=zQ r
 cases g
 have hn:=Jz
 rcases b with b | b
 ·obtain⟨c,d,pl,f⟩:=I.list b
  have a:=d.length
  exact Calls.call_len_list pl.isList (by simp only [Aa8]<;>omega) ⟨.int ys.length,H,I.tok _,⟨s.toks+1,by rw [Aa8,a]⟩,q⟩
 ·obtain⟨c,d,pl,f⟩:=I.tuple b
  have a:=d.length
  exact len_tuple pl (by simp only [Aa8]<;>omega) ⟨.int ys.length,H,I.tok _,⟨s.toks+1,by rw [Aa8,a]⟩,q⟩
def wM:Xm X (.builtin "len") (fun xs H Q=> ∃z,xs= [.str z]/\z.length<=sizeLine/\Q (.int z.length) H):=by
 intro a s U H xs b Q I r h
 obtain⟨z,rfl,c,q⟩:=h
 obtain⟨u,rfl,t,rfl⟩:=zQ r
 have hn:=Jz
 exact len_str (by omega) ⟨.int z.length,H,I.tok _,⟨_,rfl⟩,q⟩
def jM:Xm X (.type "list") (fun xs H Q=> ∃p ys,xs= [.ref p]/\(SqL X.K H p ys\/qdV X.K H p ys)/\ ∀l,H l=none->Q (.ref l) (zdL H l (.lst ys))):=by
 intro i s U H xs z Q I r h
 obtain⟨p,ys,rfl,m,q⟩:=h
 obtain⟨u,rfl,y⟩:=zQ r
 cases y
 have fin: ∀ a,Vals ys a->ys.length<=sizeLine-> ∀ c f,(∀ b x,s.heap.get? b=y0 x->c.get? b=y0 x) →
  c.get? s.heap.objs.size=some { cls:= .type "list",dict:=none,data:= .seq a.toArray f,slots:= #[] }->EP X i U Q (.ref s.heap.objs.size) { s with heap:=c }:=fun a d g c f j e=>
  ⟨.ref s.heap.objs.size,_,I.laid j (Aa5 _) (show ObjOk X.prog X.w _ c _ (.lst ys)from⟨g,a,f,d,e⟩),rfl,q _ (I.hok.fresh (Aa5 _))⟩
 rcases m with m | m
 ·obtain⟨a,d,pl,g⟩:=I.list m
  have k:=d.length
  obtain⟨o,v,w,n,t⟩:=pl.isList
  exact call_list_seq p (.inl rfl) v w t (λc f j e=>fin a d g c f j e) (by simp only [Aa8]<;>omega)
 ·obtain⟨a,d,pl,g⟩:=I.tuple m
  have k:=d.length
  obtain⟨o,v,w,n,t⟩:=pl
  exact call_list_seq p (.inr rfl) v w t (λc f j e=>fin a d g c f j e) (by simp only [Aa8]<;>omega)
def Zf:Xm X (.type "tuple") (fun xs H Q=> ∃p ys,xs= [.ref p]/\((SqL X.K H p ys/\ ∀l,H l=none->Q (.ref l) (zdL H l (.tup ys)))\/(qdV X.K H p ys/\Q (.ref p) H))):=by
 intro a s U H xs v Q I r h
 obtain⟨p,ys,rfl,h⟩:=h
 obtain⟨u,rfl,t⟩:=zQ r
 cases t
 rcases h with⟨g,q⟩ | ⟨g,q⟩
 ·obtain⟨c,f,pl,i⟩:=I.list g
  have k:=f.length
  refine call_tuple_list pl.isList (λd n=> ?_) (by simp only [Aa8]<;>omega)
  have j:Inv X a U H { s with heap:=d }:=I.kept n
  have m:Inv X a U (zdL H d.objs.size (.tup ys)) { s with heap:=d.push { cls:= .type "tuple",data:= .seq c.toArray } }:=
   j.laid (λb o e=>Aa1 _ e) (Aa5 _) (show ObjOk X.prog X.w _ _ _ (.tup ys)from⟨i,c,f,PTup.new _ _⟩)
  exact⟨.ref d.objs.size,_,m,rfl,q _ (j.hok.fresh (Aa5 _))⟩
 ·obtain⟨c,f,pl,i⟩:=I.tuple g
  exact call_tuple_same pl ⟨.ref p,H,I,rfl,q⟩
noncomputable def jdH (K:Aa6) (T:String) (x:V) (H:Hp):Prop:=match x with
 | .str _=>T= "str"
 | .int _=>T= "int"
 | .ref p=>(T= "list" /\ ∃xs,SqL K H p xs)\/(T= "tuple" /\ ∃o,K.lookup p=some o/\o.cls= .type "tuple" /\o.dict=none) ∨
  (T= "dict" /\((∃ a,H p=some (.dK a))\/ ∃a,H p=some (.dT a)))\/(T= "set" /\ ∃S n,H p=some (.set S n))
 | _=>False
def jbl (I:Inv X k8 U H s) (r:RelV x v) (ty:jdH X.K T x H):
 s.TypeIs v T/\ ∀a,v= .ref a-> ∃ob,s.heap.get? a=y0 ob/\ob.dict=none:=by
 cases x with
 | str z=>
  obtain⟨t,rfl⟩:=r
  cases (ty)
  exact⟨typeIs_str s z t,λ_ e=>nomatch e⟩
 | int i=>
  obtain⟨t,rfl⟩:=r
  cases (ty)
  exact⟨typeIs_int s i t,λ_ e=>nomatch e⟩
 | ref p=>
  cases r
  rcases ty with⟨rfl,l,j⟩ | ⟨rfl,o,b,k,d⟩ | ⟨rfl,b⟩ | ⟨rfl,S,n,b⟩
  ·obtain⟨h,_,pl,_⟩:=I.list j
   refine⟨pl.isList.typeIs,λa e=> ?_⟩
   cases e
   obtain⟨o,n,e,c,d,_⟩:=pl
   exact⟨o,e,d⟩
  ·refine⟨⟨o,I.kIn p o b,k⟩,λa e=> ?_⟩
   cases e
   exact⟨o,I.kIn _ o b,d⟩
  ·have z: ∃o,s.heap.get? p=y0 o/\o.ExactDict:=by
    rcases b with⟨f,b⟩ | ⟨f,b⟩
    ·obtain⟨_,_,_,_,o,_,_,e,ex,_⟩:=I.hok p _ b
     exact⟨o,e,ex⟩
    ·obtain⟨_,_,_,_,o,_,_,e,ex,_⟩:=I.hok p _ b
     exact⟨o,e,ex⟩
   obtain⟨o,e,ex⟩:=z
   refine⟨⟨o,e,ex.1⟩,λa g=> ?_⟩
   cases g
   exact⟨o,e,ex.2.1⟩
  ·obtain⟨o,_,_,_,e,ex,_⟩:=I.hok p _ b
   refine⟨⟨o,e,ex.1⟩,λa g=> ?_⟩
   cases g
   exact⟨o,e,ex.2.1⟩
 | _=>exact False.elim ty
def zdk (K:Aa6) (T:String) (r:V->List V->Hp->VK->Prop) (a:TE):TE:=λU H Q=>a U H λx H1=>jdH K T x H1/\r x [] H1 Q
noncomputable def xdM (K:Aa6) (T:String) (r:V->List V->Hp->VK->Prop) (a:TE) (t:TA):TE:=λU H Q=>a U H λx H1=>jdH K T x H1/\t U H1 λxs H2=>r x xs H2 Q
variable {o e:Expr}{es:List Expr}{to:TE}{t:TA}{name:Str}{apos k7:Pos}{T id:String}{r:V->List V->Hp->VK->Prop}
def xbv (q:PlainAttrs T) (d:Slot T name id) (e:typeOf (.builtin id)=pure (.type "method_descriptor")) (l:xdG X id r) (m:PE X o to)
 (b:attributeBase o name X.env (eval o X.env)=eval o X.env:=by rfl) (c:(apos.endLine==k7.line)=true:=by rfl):PE X (.Call (.Attribute o name apos) [] [] k7) (zdk X.K T r to):=by
 intro a s U H Q I h
 refine wpAny_Call_method0_late b c (zdv (m a s U H _ I h) ?_)
 rintro v k ⟨x,i,f,g,ty,n⟩
 obtain⟨p,j⟩:=jbl f g ty
 exact⟨T,id,q,d,e,p,j,Calls.callWith_builtin rfl (PySem.evalArgs_none (l a k U i x [] v [] Q f g .nil n))⟩
def zbF (G:PlainAttrs T) (g:Slot T name id) (i:typeOf (.builtin id)=pure (.type "method_descriptor")) (w:xdG X id r) (z:PE X o to) (p:PA X (e::es) t)
 (c:attributeBase o name X.env (eval o X.env)=eval o X.env:=by rfl)
 (f:((backTo k7 (starEach (e::es) X.env)).all (λx=> !x.1)&&(backToKw k7 (keywordEach [] X.env)).all (λx=>x.1.isSome)
   &&v9 ((e::es).length+([]:List Keyword).length+(if ([]:List Keyword).isEmpty then 0 else 1)<30))=true:=by rfl)
 (d:(apos.endLine==k7.line)=true:=by rfl) (q:starEach (e::es) X.env=(y9,eval e X.env)::starEach es X.env:=by rfl) (b:(backTo k7 (starEach es X.env)).any (·.1)=false:=by rfl):
 PE X (.Call (.Attribute o name apos) (e::es) [] k7) (xdM X.K T r to t):=by
 intro a s U H Q I h
 refine wpAny_Call_method_late c f d rfl (zdv (z a s U H _ I h) ?_)
 rintro v n ⟨x,l,j,k,ty,C⟩
 obtain⟨F,m⟩:=jbl j k ty
 refine⟨T,id,G,g,i,F,m,?_⟩
 have hA:=p k7 a n U l _ j C
 rw [q]at hA ⊢
 refine Calls.callWith_builtin (by show(y9||(backTo k7 (starEach es X.env)).any (·.1))=y9;rw [b]<;>rfl) (Calls.evalArgs_plain ?_)
 exact zdv hA λA B ⟨D,y,u,E,J⟩=>w a B U y x D v A Q u k E J
end
noncomputable def zdX (X:Cx) (b:String) (r:V->List V->Hp->VK->Prop):Prop:=
 ∀(k8:List (Addr×Obj)) (s:Shared) (U:St) (H:Hp) (x:V) (xs:List V) (v:Value) (a:List Value) (Q:VK),Inv X k8 U H s->RelV x v->Vals xs a->r x xs H Q →
  wpAny (model X.prog X.w) X.A (call (.builtin b) (v::a)) (EP X k8 U Q) X.xe s
def Vals.one: ∀ {x:V}{a:List Value},Vals [x] a-> ∃u,a= [u]/\RelV x u
 | _,_,.cons r .nil=>⟨_,rfl,r⟩
def Vals.zero: ∀ {a:List Value},Vals [] a->a= []
 | _,.nil=>rfl
theorem Vals.dropLast {xs:List V}{a:List Value}(h:Vals xs a):Vals xs.dropLast a.dropLast:=by
 induction h with
 | nil=>exact .nil
 | cons r t b=>
  cases t with
  | nil=>exact .nil
  | cons q c=>exact .cons r b
theorem Vals.rep {xs:List V}{a:List Value}(h:Vals xs a): ∀k:Nat,Vals (Ab k xs).flatten (Ab k a).flatten
 | 0=> .nil
 | k+1=>by
  rw [Ac7,Ac7,Aj5,Aj5]
  exact Vals.append h (Vals.rep h k)
def j6 {d:Type}(l:List d):l.eraseIdx (l.length-1)=l.dropLast:=by
 induction l with
 | nil=>rfl
 | cons a r c=>
  cases r with
  | nil=>rfl
  | cons b r=>
   have e:(a::b::r).length-1=((b::r).length-1)+1:=by
    have g:(a::b::r).length=r.length+2:=rfl
    have f:(b::r).length=r.length+1:=rfl
    omega
   rw [e,List.eraseIdx_cons_succ,c]
   all_goals rfl
theorem WM (a:List Value): ∀(k:Nat) (b:List Value),
 List.foldl (λx1 x2=>x1++x2) b.toArray (Ab k a.toArray)=(b++(Ab k a).flatten).toArray
 | 0,b=>by simp
 | k+1,b=>by
  have e:b.toArray++a.toArray=(b++a).toArray:=by simp
  have c:(b++a)++(Ab k a).flatten=b++(Ab (k+1) a).flatten:=by
   rw [Ac7,Aj5,Ae9]
  rw [← c,←WM a k (b++a),←e,Ac7,Ah8]
section
variable {X:Cx}{k8:List (Addr×Obj)}{U:St}{H:Hp}{s:Shared}{l b:Addr}{xs ys zs:List V}
def Inv.lset {a its':List Value}{n:Nat}{f:Array Value->Array Value}{t':Nat}(I:Inv X k8 U H s) (h:H l=y0 (.lst xs))
 (e:s.heap.get? l=y0 { cls:= .type "list",data:= .seq a.toArray n }) (b:f a.toArray=its'.toArray) (c:Vals ys its') (d:ys.length<=sizeLine):
 Inv X k8 U (zdL H l (.lst ys)) { s with heap:=s.heap.update l (Obj.mapSeq f),toks:=t' }:=by
 have q:=PySem.IsL.update e f
 rw [b]at q
 refine I.write (x:=l) (e:=l) (by rw [h];exact trivial) (.inl rfl) (λj u i g=>(Aj3 s.heap (Obj.mapSeq f) (Ne.symm i)).trans g) ⟨_,q⟩ ?_
 exact⟨d,its',_,c,q⟩
def Inv.lnew {a:List Value}{t':Nat}(I:Inv X k8 U H s) (b:Vals ys a) (c:ys.length<=sizeLine):
 Inv X k8 U (zdL H s.heap.objs.size (.lst ys)) { s with heap:=s.heap.push { cls:= .type "list",data:= .seq a.toArray },toks:=t' }:=
 I.laid (λ_ _ q=>Aa1 _ q) (Aa5 _) ⟨c,a,0,b,Ab6 _ rfl⟩
theorem Inv.fresh (I:Inv X k8 U H s):H s.heap.objs.size=none:=I.hok.fresh (Aa5 _)
def Inv.lstM (I:Inv X k8 U H s) (b:H l=y0 (.lst xs)):xs.length<=sizeLine/\ ∃(a:List Value) (n:Nat),Vals xs a/\xs.length=a.length/\s.heap.get? l=y0 { cls:= .type "list",data:= .seq a.toArray n }:=by
 obtain⟨z,a,n,r,e⟩:=I.hok l _ b
 exact⟨z,a,n,r,r.length,e⟩
def j5 {n:Nat}(h:n<=sizeLine):Builtin.List.listTooLong n=false:=by
 unfold Builtin.List.listTooLong
 exact decide_eq_false (by omega)
end
section
variable {X:Cx}
noncomputable def qbT:V->List V->Hp->VK->Prop:=λx a H Q=> ∃l xs y,x= .ref l/\a= [y]/\H l=y0 (.lst xs)/\xs.length<sizeLine/\Q .non (zdL H l (.lst (xs++ [y])))
def JR:zdX X "list.append" qbT:=by
 intro b s U H x m v j Q I f rv h
 obtain⟨l,i,y,rfl,rfl,c,g,q⟩:=h
 cases f
 obtain⟨u,rfl,d⟩:=rv.one
 obtain⟨z,a,n,r,k,e⟩:=I.lstM c
 refine call_meets F.slot_list_append ⟨_,e,rfl⟩ F.entry_list_append (F.args_list_append_2 _ _) (PySem.list_append l a.toArray n u (by rw [Aa8];omega)) ⟨e,?_⟩
 refine⟨.non,_,I.lset (its':=a++ [u]) c e (by simp) (r.append (.cons d .nil)) ?_,rfl,q⟩
 rw [Ab1,Ag2]
 omega
noncomputable def qbL:V->List V->Hp->VK->Prop:=λx a H Q=> ∃l b xs zs,x= .ref l/\a= [.ref b]/\H l=y0 (.lst xs)/\H b=y0 (.lst zs)/\xs.length+zs.length<=sizeLine/\Q .non (zdL H l (.lst (xs++zs)))
def xaA:zdX X "list.extend" qbL:=by
 intro g s U H x D v B Q I p rv h
 obtain⟨l,b,A,E,rfl,rfl,i,hB,y,q⟩:=h
 cases p
 obtain⟨u,rfl,j⟩:=rv.one
 cases j
 obtain⟨z,c,n,r,C,e⟩:=I.lstM i
 obtain⟨w,a,k,o,m,t⟩:=I.lstM hB
 have f:c.toArray.size+a.toArray.size<=sizeLine:=by rw [Aa8,Aa8];omega
 have d: ¬(!c.toArray.isEmpty&&Builtin.List.listTooLong (c.toArray.size+a.toArray.size))=true:=by
  rw [j5 f,Bool.and_false]
  exact Ab8
 refine call_meets F.slot_list_extend ⟨_,e,rfl⟩ F.entry_list_extend (F.args_list_extend_2 _ _)
  (AutoSeq1.list_extend_list_list_0 l c.toArray n b a.toArray k d (by rw [Aa8];omega) (by omega)) ⟨e,t,?_⟩
 refine⟨.non,_,I.lset (its':=c++a) i e (by simp) (r.append o) ?_,rfl,q⟩
 rw [Ab1]
 omega
noncomputable def qdc:V->List V->Hp->VK->Prop:=λx a H Q=> ∃l xs y,x= .ref l/\a= []/\H l=y0 (.lst xs)/\xs[xs.length-1]? =y0 y/\Q y (zdL H l (.lst xs.dropLast))
def zbA:zdX X "list.pop" qdc:=by
 intro d s U H x t v p Q I m rv h
 obtain⟨l,o,y,rfl,rfl,f,g,q⟩:=h
 cases m
 have b:=rv.zero
 subst b
 obtain⟨z,a,n,r,k,e⟩:=I.lstM f
 obtain⟨u,j,i⟩:=r.get g
 have c:a.toArray[a.toArray.size-1]? =y0 u:=by
  show a.toArray[a.length-1]? =y0 u
  rw [← Array.getElem?_toList,←k]
  exact j
 refine call_meets F.slot_list_pop ⟨_,e,rfl⟩ F.entry_list_pop (F.args_list_pop_1 _) (MeetsSeq.list_pop_last l a.toArray n u c (by rw [Aa8];omega)) ⟨e,?_⟩
 refine⟨y,_,I.lset (its':=a.dropLast) f e ?_ r.dropLast ?_,i,q⟩
 ·show a.toArray.eraseIdxIfInBounds (a.toArray.size-1)=a.dropLast.toArray
  rw [Aa8,List.eraseIdxIfInBounds_toArray,j6]
 ·rw [List.length_dropLast]
  omega
def zb1 {b:Type}(xs:List b) (k:Nat):(Ab k xs).flatten.length=k*xs.length:=by
 induction k with
 | zero=>simp
 | succ k a=>rw [Ac7,Aj5,Ab1,a,Al5,Am9]
end
end L2
namespace Att
open PySem PySem.W PySem.Calls PyProof.Rows
def xD {P:Params}{h:Heap}: ∀(c:List Int) (d:List Value),WellAll P h d (c.map WData.int)->IntsAre d c:=by
 intro c
 induction c with
 | nil=>
  intro d w
  rw [Ad1]at w
  cases w
  exact .nil
 | cons n c e=>
  intro d w
  rw [Aa9]at w
  cases w with
  | cons a b=>
   cases a
   exact .cons _ _ (e _ b)
def jaF {l:OpenLaw}{n:Nat}(x:l.most=y0 n){P:Params}{h:Heap}{b:List WData}{f:List Value}
 (e:l.row.toRowW.claim.pre b=k9) (o:WellAll P h f b):
 ∃a p c,f= [Value.ref a]/\b= [WData.list (c.map WData.int)]/\h.get? a=y0 { cls:= .type "list",data:= .seq p.toArray }/\IntsAre p c/\c.length<=n:=by
 have m:WShape.hasAll [] b [.list .int]=true:=(pre_splitW e).1
 have s:l.pre.holds [] { args:=b }=true:=(pre_splitW e).2
 obtain⟨d,r,rfl,z,t⟩:=hasAllW_cons m
 obtain rfl:=hasAllW_nil t
 obtain⟨B,rfl,u⟩:=hasW_list z
 obtain⟨c,rfl⟩:=items_int u
 have g:c.length<=n:=by
  unfold OpenLaw.pre at s
  have k:(WTm.not (.lt (.lit (.int (n:Int))) (.len (.arg 0)))).holds [] { args:= [.list (c.map .int)] }=true:=by
   have k:=(holds_andW s).1
   rw [x]at k
   exact k
  have j:=condW_of k (w_not (w_lt w_lit (w_len_list (w_arg rfl))))
  rw [Aa]at j
  refine Nat.le_of_not_lt λq=> ?_
  have y:(n:Int)<((c.length:Nat):Int):=by omega
  first
   | (rw [decide_eq_true y]at j;exact absurd j (by decide))
   | (simp at j;omega)
 cases o with
 | cons v A=>
  cases A
  cases v with
  | list w i=>exact⟨_,_,c,rfl,rfl,w,xD c _ i,g⟩
def jaj (l:OpenLaw) (a:List WData):l.row.toRowW.claim.post a (.bool k9) a=true:=
 postW_of (r:=l.row.toRowW) (X:=(k9==k9))
  (show WShape.has [] (.bool k9) .bool=k9 by first | rfl | decide | simp [WShape.has,WShape.arms,WShape.armsAll])
  (show (WTm.eq .res (.lit (.bool k9))).value [] { args:=a,res:=y0 (.bool k9),after:=a }=y0 (.bool (k9==k9))from w_eq_bool (w_res rfl) w_lit) rfl
def attach_call {l:OpenLaw}{n:Nat}{q:Program}{c:List Str}{D:(Str->Option Value)->Heap->Prop}{E:World->Heap->Prop}{d:DefRec}
 (P:l.most=y0 n) (t:d.params.defaults= [])
 (call: ∀(w:World) (e b:Shared) (mg v:Str->Option Value) (p:Addr) (o:Obj) (pm cd h:Value) (a:Addr) (i:List Value) (s:List Int),
   Ground q c [] D w e mg v b.heap->E w b.heap →
   b.heap.get? p=y0 o->o.data= .func (docDef d.name d.params d.body d.scope pm cd h)->b.heap.CodeRec cd d.name->mg d.name=y0 (.ref p) →
   b.heap.get? a=y0 { cls:= .type "list",data:= .seq i.toArray }->IntsAre i s->s.length<=n->b.gens= #[] →
   codeAny (model l.prog w) callerA (.call (.ref p) ⟨[.ref a],[]⟩) (λr s'=>r= .ok (.ret (.bool k9))/\OldK b.heap s'.heap/\s'.os=b.os/\AllBare s'.gens) b):
 WalkO q c D E l.row.toRowW d [] (λf i=>PySem.call f i):=by
 intro w e b mg v G Y p o pm cd h O kV M J u z x R B C S j A F y K
 obtain rfl:O= .none:=Dflts.none z t
 obtain rfl:kV= .none:=Dflts.noKw z
 obtain⟨a,i,s,rfl,rfl,k,g,m⟩:=jaF P j y
 refine enter_call (codeAny_mono (call w e b mg v p o pm cd h a i s G Y M (fd_plain J) u x k g m R) λr s' Q=> ?_)
 obtain⟨rfl,H,L,N⟩:=Q
 exact⟨.inl ⟨.bool k9,.bool k9,[],rfl,λ_=>rfl,.bool k9,jaj l _,λ_=>⟨List.Pairwise.nil,λ_ I=>(nomatch I)⟩⟩,H,L,N⟩
end Att
namespace L2
open PySem PySem.Spec PyProof.Rows
theorem jO: ∀ {b:List Value}{a:List Int},IntsAre b a->Vals (a.map V.int) b
 | _,_,.nil=> .nil
 | _,_,.cons n t h=> .cons ⟨t,rfl⟩ (jO h)
def qcP (H:Hp):Prop:= ∀b,H b=u0\/ ∃o xs,H b=y0 (.frz o (.lst xs))
def qbj {P:Program}{w:World}{K:Aa6}{mg O:Str->Option Value}{CX:zd0}{k:Nat}{Q a:Addr}{fd:FuncData}{x:Str}{Z:Sp}{c:Shared}{j:List Value}{D:List Int}
 (X:K.In c.heap) (t:c.heap.Ns mainGlobals mg) (f:c.heap.Ns builtinsNs O) (N: ∀x:Str,x≠ "__name__" ->O x=bootBuiltins x) (I:c.heap.NoLimit) (hg:c.gens= #[])
 (L:c.heap.get? a=y0 { cls:= .type "list",data:= .seq j.toArray }) (Y:IntsAre j D) (W:D.length<=sizeLine) (hr:Room k callerA)
 (F: ∀base:Heap,K.In base->base.Ns mainGlobals mg->FnOk P w K mg base CX k Q fd [x] Z) (l: ∀(s:Shared) (u:Value),BindsTo s fd ⟨[u],[]⟩ [(x,u)])
 (M: ∀H:Hp,qcP H->SqL K H a (D.map V.int)->Z [.ref a] H (λv _=>v= .bl k9) λ_ _ _=>False)
 (R: ∀H e s',CX [] H c (λ_ _ _=>False) e s'->False):
 codeAny (model P w) callerA (.call (.ref Q) ⟨[.ref a],[]⟩) (λr s'=>r= .ok (.ret (.bool k9))/\OldK c.heap s'.heap/\s'.os=c.os/\AllBare s'.gens) c:=by
 have rv:=jO Y
 have A:=Y.length
 have i: ∀H:Hp,qcP H->SqL K H a (D.map V.int)->HOk P w H c.heap->(∀ b,H b≠u0->b=a)->(H a≠u0->K.lookup a=u0) →
  codeAny (model P w) callerA (.call (.ref Q) ⟨[.ref a],[]⟩) (λr s'=>r= .ok (.ret (.bool k9))/\OldK c.heap s'.heap/\s'.os=c.os/\AllBare s'.gens) c:=by
  intro H hO hS E hA hK
  have base_of: ∀ {b:Addr}{o:Obj},c.heap.get? b=y0 o->H b=u0->(xaX c.heap H).get? b=y0 o:=λe n=>za9 e n
  have S: ∀ {b:Addr}{o:Obj}{p:Array DictEntry}{G:Nat},c.heap.get? b=y0 o->o.data= .dict p G->H b=none:=λ{b o p G} e d=>by
   cases q:H b with
   | none=>rfl
   | some u=>
    have U:b=a:=hA b (by rw [q];simp)
    subst U
    rw [L]at e;cases e
    have d':Data.seq j.toArray _=Data.dict p G:=d
    cases d'
  have g: ∀ {b:Addr}{m:Str->Option Value},c.heap.Ns b m->(xaX c.heap H).Ns b m:=λ{b m} ⟨o,p,G,e,d,r⟩=>⟨o,p,G,base_of e (S e d),d,r⟩
  have B:K.In (xaX c.heap H):=λb o e=>base_of (X b o e) (by
   cases q:H b with
   | none=>rfl
   | some u=>
    have U:b=a:=hA b (by rw [q];simp)
    subst U
    rw [hK (by rw [q];simp)]at e;cases e)
  have hM:Mod K mg (xaX c.heap H):=⟨B,g t,⟨O,g f,N⟩,let ⟨mc,h1,h2⟩:=I; ⟨mc,g h1,h2⟩⟩
  have e0:Env0 P w K mg (xaX c.heap H) callerA [] c H:=⟨rfl,hM,λb o e=>jbK e,Nat.le_of_eq (qaC _ _),trivial,λb f=>absurd (show b∈([]:List Addr)from f) (by simp),E,.of_eq hg⟩
  refine codeAny_mono ((F _ B (g t)).run callerA [] c H ⟨[.ref a],[]⟩ [.ref a] [.ref a] _ _ hr e0 (l c (.ref a)) (.cons rfl .nil) (M H hO hS)) λr s' h=> ?_
  cases r with
  | error e=>exact(R H e s' h).elim
  | ok fl=>
   cases fl with
   | next=>exact False.elim h
   | brk=>exact False.elim h
   | cont=>exact False.elim h
   | ret u=>
    obtain⟨v,H',os,y,un,C,r',q⟩:=h
    have q':v= .bl true:=q
    subst q'
    obtain rfl:u=Value.bool true:=r'
    refine⟨rfl,OldK.of_keep λb o e=> ?_,os,y⟩
    cases q:H b with
    | none=>exact un.keep b o e q (by intro z;exact absurd (show b∈([]:List Addr)from z) (by simp)) (by simp)
    | some u=>
     rcases hO b with z | ⟨ob,xs,z⟩
     ·rw [q]at z;cases z
     ·have z2:=un.frzs b ob _ z
      obtain⟨e1,_⟩:=E b _ z
      obtain⟨e2,_⟩:=C b _ z2
      rw [e]at e1;cases e1
      exact e2
 cases T:K.lookup a with
 | some o=>
  have e:=X a o T
  rw [L]at e
  cases e
  refine i (λ_=>u0) (λ_=> .inl rfl) (.inr ⟨_,j.toArray,_,T,rfl,rfl,rfl,by rw [Aa8,A];exact W,by simpa using rv⟩) (λb u z=>by have J:(none:Option HO)=y0 u:=z;cases J) (λb z=>absurd rfl z) λz=>absurd rfl z
 | none=>
  refine i (fun b=>if b=a then some (.frz { cls:= .type "list",data:= .seq j.toArray } (.lst (D.map V.int)))else none) (fun b=> ?_) (.inl (.inr ⟨{ cls:= .type "list",data:= .seq j.toArray },if_pos rfl⟩)) (fun b u z=> ?_) (fun b z=> ?_) fun _=>T
  ·by_cases f:b=a
   ·exact .inr ⟨_,_,if_pos f⟩
   ·exact .inl (if_neg f)
  ·by_cases f:b=a
   ·have J:=(if_pos f).symm.trans z
    cases J
    subst f
    exact⟨L,by rw [Aa];exact W,j,_,rv,L⟩
   ·have J:=(if_neg f).symm.trans z
    cases J
  ·by_cases f:b=a
   ·exact f
   ·exact absurd (if_neg f) z
abbrev xdx {K:Aa6}{h:Heap}(_:K.In h):Aa6:=K
def walk_of {l:PySem.W.OpenLaw}{n k:Nat}{q:Program}{c:List Str}{R:(Str->Option Value)->Heap->Prop}{J:World->Heap->Prop}{d:DefRec}{K:Params->Aa6}{I:World->zd0}{E:World->Sp}{x:Str}
 (T:l.most=y0 n) (A:n<=sizeLine) (r:d.params.defaults= []) (M:Room k callerA)
 (P: ∀(w:World) (h:Heap),J w h->(K w.params).In h)
 (F: ∀(w:World) (mg:Str->Option Value) (p:Addr) (h:Heap),(K w.params).In h->h.Ns mainGlobals mg->mg d.name=y0 (.ref p) →
   ∃fd:FuncData,(∀ (s:Shared) (u:Value),BindsTo s fd ⟨[u],[]⟩ [(x,u)]) ∧
    ∀base:Heap,(K w.params).In base->base.Ns mainGlobals mg->FnOk l.prog w (K w.params) mg base (I w) k p fd [x] (E w))
 (t: ∀(w:World) (H:Hp) (a:Addr) (m:List Int),m.length<=n->qcP H->SqL (K w.params) H a (m.map V.int)->E w [.ref a] H (λv _=>v= .bl k9) λ_ _ _=>False)
 (z: ∀(w:World) (H:Hp) (s:Shared) (e:Value) (s':Shared),I w [] H s (λ_ _ _=>False) e s'->False):
 PySem.W.WalkO q c R J l.row.toRowW d [] (λf D=>PySem.call f D):=by
 refine Att.attach_call T r λw C i mg mb p o pm cd U a D m G Y Z X L y j g b W=> ?_
 have B:=P w _ Y
 obtain⟨fd,Q,S⟩:=F w mg p _ B G.T.g y
 exact qbj B G.T.g G.T.b G.T.builtins G.T.nolimit W j g (Ac0 b A) M S Q (λH N O=>t w H a m b N O) λH e s'=>z w H i e s'
noncomputable def jbY (s:Stmt) (j:Nat):Stmt:=match s with
 | .ClassDef _ _ _ a _ _ _ _ _ _ _=>a.getD j (.Pass ⟨0,0,0,0⟩)
 | _=> .Pass ⟨0,0,0,0⟩
noncomputable def Ql (s:Stmt):Arguments:=match s with
 | .FunctionDef _ a _ _ _ _ _ _ _ _=>a
 | _=> { posonlyargs:= [],args:= [],vararg:=u0,kwonlyargs:= [],kw_defaults:= [],kwarg:=u0,defaults:= [] }
def Je (s:Stmt):List Stmt:=match s with
 | .FunctionDef _ _ b _ _ _ _ _ _ _=>b
 | _=> []
noncomputable def Qb (s:Stmt):Scope:=match s with
 | .FunctionDef _ _ _ _ _ _ a _ _ _=>a
 | _=> { kind:= .function,names:= [],isGenerator:=y9,isCoroutine:=y9 }
abbrev jdZ:zd0:=λ_ _ _ _ _ _=>False
abbrev E0:XK:=λ_ _ _=>False
structure Fun (K:Aa6) (x y8:Str) (st:Stmt) (f:Addr) (fd:FuncData):Prop where
 ex: ∃(oc:Value) (od:Option Addr) (kV doc pm:Value) (an:Option Addr) (cdv ct:Value) (osl:Array (Option Value)),
  fd=Ah7 x y8 (Ql st) (Je st) (Qb st) .none kV doc pm an cdv ct/\K.lookup f=y0 ⟨oc,od,.func fd,osl⟩/\Ak6 K cdv y8=k9
 kp:Ae0 K (.ref f)=k9
section
variable {P:Program}{w:World}{K:Aa6}{mg:Str->Option Value}{base:Heap}
def Fun.binds {st:Stmt}(F:Fun K x y8 st f fd)
 (h: ∀ kV a pm e b d c,c.length=ps.length->bindArgs (Ah7 x y8 (Ql st) (Je st) (Qb st) .none kV a pm e b d) ⟨c,[]⟩=pure (ps.zip c)):Binds K fd ps []:=by
 obtain⟨j,k,kV,a,pm,e,b,d,g,rfl,l,i⟩:=F.ex
 exact .all (h kV a pm e b d)
def zaG {st:Stmt}{kV b pm a d:Value}(l:K.lookup f=y0 ⟨oc,od,.func (Ah7 x y8 (Ql st) (Je st) (Qb st) .none kV b pm an a d),osl⟩)
 (c:Ak6 K a y8=k9) (k:Ae0 K (.ref f)=k9):Fun K x y8 st f (Ah7 x y8 (Ql st) (Je st) (Qb st) .none kV b pm an a d):=⟨⟨oc,od,kV,b,pm,an,a,d,osl,rfl,l,c⟩,k⟩
end
def xl (h:n<=1000):n<sizeLine:=An9 h (by decide)
section
variable {X:Cx}
def pv (i)(c:X.N[i]? =some x:=by rfl) (b:zdy X.env.scope x:=by first | exact Or.inl rfl | exact Or.inr (Or.inl rfl) | exact Or.inr (Or.inr rfl)) (d:(x==("__debug__" :Str))=false:=by decide)
 (a:(x==("__classdict__" :Str))=false:=by decide):PE X (.Name x pos) (xcI i):=zl c b d a
end
def jcO {A B:Prop}(h:B):if y9=k9 then A else B:=by
 exact h
def zcS {A B:Prop}(h:A):if k9=k9 then A else B:=by
 exact h
end L2
set_option maxHeartbeats 4000000
namespace L2
open PySem PySem.Spec PyProof.Rows
noncomputable def Xd (env:Env) (a:List (Str×Addr)) (y:Str×NameKind):List (Str×Addr):=
 if y.2== .free then(match env.cells.lookup y.1 with | some c=>(y.1,c)::a | none=>a)else a
def Xv (a:Scope) (env:Env):List (Str×Addr):=a.names.foldl (Xd env) []
theorem zad : ∀(b:List (Str×NameKind)) a,(∀ y∈b,y.2= .free-> ∃c,env.cells.lookup y.1=y0 c) →
 (do
   let mut d:=a
   for (name,kind) in b do
    if kind== .free then d:=(name,←cellOf env name)::d
   return d:Sem (List (Str×Addr)))=pure (b.foldl (Xd env) a)
 | [],a,_=>by simp
 | (n,k)::r,a,h=>by
  have i:=λd=>zad r d λy j=>h y (Aa2 _ j)
  by_cases g:k= .free
  ·subst g
   obtain⟨c,f⟩:=h (n,.free) Aa3 rfl
   have f:=f
   have e:Xd env a (n,.free)=(n,c)::a:=by
    show(if (NameKind.free==NameKind.free)=k9 then(match env.cells.lookup n with | some c=>(n,c)::a | none=>a)else a)=_
    rw [if_pos (show (NameKind.free==NameKind.free)=k9 from rfl),f]
   rw [Ah8,e,←i]
   simp [cellOf,f]
  ·have l:(k==NameKind.free)=false:=by simpa using g
   have e:Xd env a (n,k)=a:=by
    show(if (k==NameKind.free)=k9 then _ else a)=_
    rw [l,if_neg Ab8]
   rw [Ah8,e,←i]
   simp [g]
def xL (h: ∀y∈scope.names,y.2= .free-> ∃c,env.cells.lookup y.1=y0 c):closureFor scope env=pure (Xv scope env):=
 zad scope.names [] h
theorem Qz : ∀(a:List (Str×NameKind)) b,(∀ x c,b.lookup x=y0 c->env.cells.lookup x=y0 c)-> ∀x c,(a.foldl (Xd env) b).lookup x=y0 c->env.cells.lookup x=y0 c
 | [],_,h=>h
 | (n,k)::r,b,h=>by
  refine Qz r (Xd env b (n,k)) λx c e=> ?_
  unfold Xd at e
  split at e
  ·split at e
   ·rename_i g d
    rw [Ad2]at e
    cases f:x==n with
    | true=>
     rw [f]at e
     have:x=n:=by simpa using f
     subst this
     cases e
     exact d
    | false=>rw [f]at e;exact h x c e
   ·exact h x c e
  ·exact h x c e
theorem WN (f:env.cells.lookup x=y0 c): ∀(b:List (Str×NameKind)) d,((x,.free)∈b\/ ∃a,d.lookup x=y0 a)-> ∃a,(b.foldl (Xd env) d).lookup x=y0 a
 | [],d,h=>h.elim (λz=>absurd z (by simp)) id
 | (n,k)::r,d,h=>by
  refine WN f r (Xd env d (n,k)) ?_
  have grow:(∃ a,d.lookup x=y0 a)-> ∃a,(Xd env d (n,k)).lookup x=y0 a:=by
   rintro ⟨a,e⟩
   unfold Xd
   split
   ·split
    ·rw [Ad2]
     cases x==n with
     | true=>exact⟨_,rfl⟩
     | false=>exact⟨a,e⟩
    ·exact⟨a,e⟩
   ·exact⟨a,e⟩
  rcases h with h | h
  ·rcases Ab4.mp h with h | h
   ·cases h
    refine .inr ⟨c,?_⟩
    show List.lookup x (if (NameKind.free==NameKind.free)=k9 then(match env.cells.lookup x with | some c=>(x,c)::d | none=>d)else d)=_
    rw [if_pos (show (NameKind.free==NameKind.free)=k9 from rfl),f]
    simp
   ·exact .inl h
  ·exact .inr (grow h)
def wR (I:Nat->Shared->Prop)
 (p: ∀n s,I n s->wpAny (model prog w) A (pyNext it) (λr d=>match r with
   | none=>R (.ok .next) d
   | some v=>wpAny (model prog w) A (letOwnedTupleGo tg it v) (λ_ f=>wpAny (model prog w) A (assign tg env v) (λ_ i=>
    wpAny (model prog w) A (forIn ifs k9 λc r=>if r=k9 then do let ok ←isTrue c env (eval c env);pure (ForInStep.yield ok)else pure (ForInStep.yield r)) (λok a=>
     if ok=k9 then wpAny (model prog w) A (eval elt env) (λx j=>
      wpAny (model prog w) A (call (.builtin "list.append") [acc,x]) (fun _ g=> ∃m,m<n/\I m g) (notedBy (model prog w) A env fun e s'=>R (.error e) s') j) (notedBy (model prog w) A env fun e s'=>R (.error e) s') a
     else ∃m,m<n/\I m a) (notedBy (model prog w) A env λe s'=>R (.error e) s') i) (notedBy (model prog w) A env λe s'=>R (.error e) s') f) (notedBy (model prog w) A env λe s'=>R (.error e) s') d) (notedBy (model prog w) A env λe s'=>R (.error e) s') s)
 (n) (h:I n s):codeAny (model prog w) A (.compLoop (.ListComp elt [⟨tg,iter,ifs,0⟩] scope pos) 0 it acc env) R s:=by
 refine codeAny_loop rfl I (λn s y=> ?_) n h
 refine wpAny_noted ?_
 rw [compTurn_list]
 refine wpAny_bind (wpAny_standAt (wpAny_bind (wpAny_mono (p n s y) (λr d l=> ?_) λ_ _ b=>b)))
 cases r with
 | none=>exact wpAny_pure l
 | some v=>
  refine wpAny_bind (wpAny_mono l (λ_ f o=> ?_) λ_ _ b=>b)
  refine wpAny_bind (wpAny_mono o (λ_ i q=>wpAny_bind (wpAny_mono q (λok a k=> ?_) λ_ _ b=>b)) λ_ _ b=>b)
  cases ok with
  | false=>exact wpAny_pure ⟨rfl,k⟩
  | true=>
   exact wpAny_bind (wpAny_bind (wpAny_mono k (λx j t=>wpAny_bind (wpAny_mono t (λ_ g u=>wpAny_pure (wpAny_pure ⟨rfl,u⟩)) λ_ _ b=>b)) λ_ _ b=>b))
theorem XU : ∀ a n b,(x,NameKind.cell)∉a->(cellsFrom n a b).lookup x=b.lookup x
 | [],_,_,_=>rfl
 | (y,k)::r,n,b,h=>by
  unfold cellsFrom
  split
  ·rename_i c
   have c:=by simpa using c
   subst c
   rw [XU r (n+1) _ λz=>h (Aa2 _ z),Ad2]
   cases d:x==y with
   | true=>
    have:x=y:=by simpa using d
    subst this
    exact absurd Aa3 h
   | false=>rfl
  ·exact XU r n b λz=>h (Aa2 _ z)
theorem wU : ∀ a (h:Heap) d f,(d.lookup x=y0 c->f\/(h.IsCell c u0/\(x,NameKind.cell)∈a\/h.IsCell c u0/\f))-> ∀lo,lo<=h.objs.size →
 (cellsFrom h.objs.size a d).lookup x=y0 c->d.lookup x=y0 c\/(lo<=c/\(x,NameKind.cell)∈a/\(pushCells h a).IsCell c u0)
 | [],_,_,_,_,_,_,e=> .inl e
 | (y,k)::r,h,d,f,p,lo,i,e=>by
  unfold cellsFrom at e
  unfold pushCells
  split at e
  ·rename_i g
   rw [if_pos g]
   have g:=by simpa using g
   subst g
   have e:(cellsFrom (h.push { cls:= .type "cell",data:= .cell none }).objs.size r ((y,h.objs.size)::d)).lookup x=some c:=by rw [Heap.size_push];exact e
   rcases wU r (h.push { cls:= .type "cell",data:= .cell none }) _ True (fun _=> .inl trivial) lo (by rw [Heap.size_push];omega) e with q | ⟨l,n,m⟩
   ·rw [Ad2]at q
    cases j:x==y with
    | true=>
     rw [j]at q
     have:x=y:=by simpa using j
     subst this
     cases q
     exact .inr ⟨i,List.mem_cons_self,(show (h.push { cls:= .type "cell",data:= .cell none }).IsCell h.objs.size none from⟨_,Heap.get?_push_size _ rfl,rfl⟩).keeps fun b o e=>pushCells_keeps r _ b o e⟩
    | false=>
     rw [j]at q
     exact .inl q
   ·exact .inr ⟨l,Aa2 _ n,m⟩
  ·rename_i g
   rw [if_neg g]
   rcases wU r h d True (λ_=> .inl trivial) lo i e with q | ⟨l,n,m⟩
   ·exact .inl q
   ·exact .inr ⟨l,Aa2 _ n,m⟩
theorem xah: ∀(b) (n) (a),(∀ x c,a.lookup x=y0 c->c<n)->(∀ x y c,a.lookup x=y0 c->a.lookup y=y0 c->x=y) →
 ∀x y c,(cellsFrom n b a).lookup x=y0 c->(cellsFrom n b a).lookup y=y0 c->x=y
 | [],_,_,_,f=>f
 | (z,k)::r,n,a,d,f=>by
  unfold cellsFrom
  split
  ·have look: ∀x c,((z,n)::a).lookup x=y0 c->(x=z/\c=n)\/(a.lookup x=y0 c):=λx c e=>by
    rw [Ad2]at e
    cases g:x==z with
    | true=>
     rw [g]at e
     cases e
     exact .inl ⟨by simpa using g,rfl⟩
    | false=>
     rw [g]at e
     exact .inr e
   refine xah r (n+1) _ (λx c e=> ?_) λx y c j m=> ?_
   ·rcases look x c e with⟨_,q⟩ | q
    ·exact q▸Ag7 n
    ·exact Am1 (d x c q)
   ·rcases look x c j with⟨h,l⟩ | p<;>rcases look y c m with⟨i,o⟩ | q
    ·rw [h,i]
    ·exact absurd (l▸d y c q) (Ag9 _)
    ·exact absurd (o▸d x c p) (Ag9 _)
    ·exact f x y c p q
  ·exact xah r n a d f
theorem qG : ∀(a:List (Str×NameKind)) b,(a.foldl (Xd env) b).lookup x=y0 c->b.lookup x=y0 c\/(x,NameKind.free)∈a
 | [],_,h=> .inl h
 | (y,k)::r,b,h=>by
  rcases qG r _ h with q | q
  ·unfold Xd at q
   split at q
   ·rename_i d
    have d:=by simpa using d
    subst d
    split at q
    ·rw [Ad2]at q
     cases e:x==y with
     | true=>
      have:x=y:=by simpa using e
      subst this
      exact .inr Aa3
     | false=>
      rw [e]at q
      exact .inl q
    ·exact .inl q
   ·exact .inl q
  ·exact .inr (Aa2 _ q)
theorem WP {env:Env}: ∀ {a:List (Str×NameKind)}{x},
 ((a.map λ(n,k)=>if(k==NameKind.free&&env.scope.kind== .function&&env.kindOf n==y0 .cell)then(n,NameKind.cell)else(n,k)).lookup x=y0 .cell ∨
   (a.map λ(n,k)=>if(k==NameKind.free&&env.scope.kind== .function&&env.kindOf n==y0 .cell)then(n,NameKind.cell)else(n,k)).lookup x=y0 .free)->(x,.free)∈a\/(x,.cell)∈a
 | [],_,h=>by simp at h
 | (n,k)::r,x,h=>by
  have e:= @WP env r x
  rw [Aa9]at h
  by_cases b:(k==NameKind.free&&env.scope.kind== .function&&env.kindOf n==y0 .cell)=k9
  ·have f:=by
    rw [Aa7,Aa7]at b
    simpa using b.1.1
   subst f
   simp only [b,if_true,Ad2]at h
   cases c:x==n with
   | true=>
    have:x=n:=by simpa using c
    subst this
    exact .inl Aa3
   | false=>
    rw [c]at h
    exact(e h).imp (Aa2 _) (Aa2 _)
  ·have d:=Aj6.mpr b
   simp only [d,Af4,if_false,Ad2]at h
   cases c:x==n with
   | true=>
    have:x=n:=by simpa using c
    subst this
    rw [c]at h
    rcases h with h | h
    ·have:k= .cell:=by simpa using h
     subst this
     exact .inr Aa3
    ·have:k= .free:=by simpa using h
     subst this
     exact .inl Aa3
   | false=>
    rw [c]at h
    exact(e (by simpa using h)).imp (Aa2 _) (Aa2 _)
theorem jaL: ∀ {a:List (Str×NameKind)}{x}{k e},(a.map Prod.fst).Nodup->(x,k)∈a->(x,e)∈a->k=e
 | (y,j)::r,x,k,e,d,g,f=>by
  rw [Aa9,Ah]at d
  rcases Ab4.mp g with c | c<;>rcases Ab4.mp f with b | b
  ·cases c;cases b;rfl
  ·cases c;exact absurd (Ac.mpr ⟨_,b,rfl⟩) d.1
  ·cases b;exact absurd (Ac.mpr ⟨_,c,rfl⟩) d.1
  ·exact jaL d.2 c b
theorem JW: ∀ {a:List (Str×NameKind)}{x}{k},(a.map Prod.fst).Nodup->(x,k)∈a->a.lookup x=y0 k
 | (y,j)::r,x,k,b,h=>by
  rw [Aa9,Ah]at b
  rw [Ad2]
  rcases Ab4.mp h with e | e
  ·cases e;simp
  ·have:(x==y)=false:=by
    cases c:x==y with
    | false=>rfl
    | true=>
     have:x=y:=by simpa using c
     subst this
     exact absurd (Ac.mpr ⟨_,e,rfl⟩) b.1
   rw [this]
   exact JW b.2 e
def qbq (a:Scope) (C:Addr) (env:Env):List (Str×Addr):=cellsFrom (C+1) a.names (Xv a env)
def Ww 
 (d:Q (newEnv scope s.heap.objs.size globals (cellsFrom (s.heap.objs.size+1) scope.names cl) y8 u0 .none (y0 env) builtinsNs) { s with heap:=pushCells (s.heap.push { cls:= .type "dict",data:= .dict #[] }) scope.names }):
 wpAny M A (newFunctionEnv scope globals cl [] y8 u0 .none (y0 env)) Q E s:=by
 simp only [newFunctionEnv,Option.isSome_some,if_true]
 refine wpAny_bind (wpAny_alloc ?_)
 refine wpAny_bind (wpAny_layCells _ (λname a b=>by cases c:a==NameKind.cell<;>simp [c]) _ _ _ _ ?_)
 rw [show ({ s with heap:=s.heap.push { cls:= .type "dict",data:= .dict #[] } }:Shared).heap.objs.size=s.heap.objs.size+1 from Heap.size_push ..]
 refine wpAny_bind ?_
 exact wpAny_pure (wpAny_pure d)
noncomputable def Jc (X:Cx) (N:List Str) (a:Scope) (C:Addr) (b:List Addr) (s:Shared) (H:Hp):Cx where
 prog:=X.prog
 w:=X.w
 K:=X.K
 mg:=X.mg
 base:=X.base
 A:=X.A
 N:=N
 s₀:=s
 H₀:=H
 env:=compEnvC a (qbq a C X.env) C X.env
 outer:=X.stack
 stack:=X.stack
 ex:=b
 fn:=λx=>v9 (a.names.lookup x=y0 .cell)
 calm:=X.calm
 pn:= []
 xe:=λ_ _=>False
noncomputable def CapOk (X:Cx):List Nat->List Str->Prop
 | [],[]=>True
 | j::a,x::xs=>X.N[j]? =y0 x/\(X.env.kindOf x=y0 .cell\/X.env.kindOf x=y0 .free)/\CapOk X a xs
 | _,_=>False
theorem CapOk.get {U:St}: ∀ {cap}{xs}{i:Nat}{x}{v},CapOk X cap xs->xs[i]? =y0 x->(cap.map λj=>(U[j]?).join)[i]? =y0 (y0 v) →
 ∃j:Nat,X.N[j]? =y0 x/\U[j]? =y0 (y0 v)/\(X.env.kindOf x=y0 .cell\/X.env.kindOf x=y0 .free)
 | [],[],_,_,_,_,e,_=>by simp at e
 | [],_::_,_,_,_,h,_,_=>h.elim
 | _::_,[],_,_,_,h,_,_=>h.elim
 | j::c,g::xs,0,x,v,h,b,a=>by
  obtain⟨f,d,_⟩:=h
  simp at b
  subst b
  refine⟨j,f,?_,d⟩
  have a:y0 ((U[j]?).join)=y0 (y0 v):=by simpa using a
  have a:=Ae5.inj a
  cases q:U[j]? with
  | none=>rw [q]at a;cases a
  | some z=>rw [q]at a;have:z=y0 v:=a;rw [this]
 | j::c,g::xs,i+1,x,v,h,b,a=>CapOk.get h.2.2 (by simpa using b) (by simpa using a)
theorem CapOk.length : ∀ {cap}{xs},CapOk X cap xs->cap.length=xs.length
 | [],[],_=>rfl
 | [],_::_,h=>h.elim
 | _::_,[],h=>h.elim
 | _::_,_::_,h=>congrArg (· +1) (CapOk.length h.2.2)
def zae (k:Nat) (cap:List Nat) (U:St):St:=Ab k u0++cap.map λ(j:Nat)=>(U[j]?).join
noncomputable def qdw (X:Cx) (a:List Expr) (t:TT):Prop:=
 ∀(k8:List (Addr×Obj)) (s:Shared) (U:St) (H:Hp) (Q:Bool->Hp->Prop),Inv X k8 U H s->t U H Q →
  wpAny (model X.prog X.w) X.A (forIn a k9 λc r=>if r=k9 then do let ok ←isTrue c X.env (eval c X.env);pure (ForInStep.yield ok)else pure (ForInStep.yield r)) (TP X k8 U Q) X.xe s
def jdo:TT:=λ_ H Q=>Q k9 H
def zaQ :qdw X [] jdo:=λ_ _ _ H _ I h=>wpAny_tests_nil ⟨H,I,h⟩
def qag (h:PT X c t):qdw X [c] t:=λa s U H Q I b=>wpAny_tests_one (h a s U H Q I b)
noncomputable def jcm (J:It) (g:TG) (k:TT) (n:TE) (j:St) (h:Hp) (Q:VK):Prop:= ∃W:Nat->Nat->List V->St->Hp->Prop,(∃ m,W 0 m [] j h)/\ ∀i m ys Y H,W i m ys Y H →
 (J.stop i H/\ys.length<=sizeLine/\ ∀D,H D=u0->Q (.ref D) (zdL H D (.lst ys))) ∨
 (J.go i H/\ys.length<sizeLine/\ ∃N:List V->St->Hp->Prop,(∀ a d H',N a d H'-> ∃f,f<m/\W (i+1) f a d H') ∧
   ∀x H',J.yld i H x H'->g x Y H' λc H2=>k c H2 λb e=>if b=k9 then n c e λy l=>N (ys++ [y]) c l else N ys c e)
abbrev jd0 (a:Type):=Addr->List Addr->Shared->Hp->a
noncomputable def jaZ (k:Nat) (cap:List Nat) (b:TI) (g:jd0 TG) (c:jd0 TT) (a:jd0 TE):TE:=λU H Q=>b U H λJ H1=> ∀C fp s,jcm J (g C fp s H1) (c C fp s H1) (a C fp s H1) (zae k cap U) H1 Q
def Inv.adopt (I:Inv X k8 U H s) (j:X3 X k8 H D) (t:X.s₀.heap.objs.size<=D)
 (e:s.heap.get? D=y0 { cls:= .type "list",data:= .seq its.toArray n }) (r:Vals ys its) (m:ys.length<=sizeLine):Inv X k8 U (zdL H D (.lst ys)) s:=by
 obtain⟨C,E,F,G,w,k⟩:=j
 have a: ∀b o,H b=y0 o->zdL H D (.lst ys) b=y0 o:=λb o q=>by rw [qa (Xa q C)];exact q
 have d: ∀b o,X.s₀.heap.get? b=y0 o->b≠D:=λb o q z=>by rw [z]at q;exact absurd (Ab0 (Ab5 q) t) (Ag9 _)
 refine⟨I.ok,I.os,I.bare,⟨I.base.keep,I.base.slot,λb o i A l=> ?_,I.base.there,λb f q=>a b _ (I.base.tups b f q),λb o u q=>a b _ (I.base.frzs b o u q),λb y q=> ?_⟩,I.loc,I.cell,?_,λx c q=> ?_,λp h=> ?_,λb u q=> ?_,I.len⟩
 ·rw [qa (d b o i)];exact I.base.free b o i A l
 ·obtain⟨more,B⟩:=I.base.tbls b y q
  exact⟨more,a b _ B⟩
 ·rw [qa (Ne.symm E)];exact I.free
 ·rw [qa (w x c q)];exact I.freeC x c q
 ·obtain⟨v,a2,a3⟩:=I.pin p h
  exact⟨v,by rw [qa (k p h)];exact a2,a3⟩
 ·by_cases g:b=D
  ·subst g
   rw [xb]at q
   cases q
   exact⟨m,its,n,r,e⟩
  ·rw [qa g]at q
   exact(I.hok b u q).stay (λ_ _ _ z=>z) (λc z=>a c _ z) λc f z=>a c _ z
theorem Xh {env:Env}: ∀ {b:List (Str×NameKind)}{x},b.lookup x=y0 .free →
 ((b.map λ(n,k)=>if(k==NameKind.free&&env.scope.kind== .function&&env.kindOf n==y0 .cell)then(n,NameKind.cell)else(n,k)).lookup x=y0 .cell ∨
   (b.map λ(n,k)=>if(k==NameKind.free&&env.scope.kind== .function&&env.kindOf n==y0 .cell)then(n,NameKind.cell)else(n,k)).lookup x=y0 .free)
 | [],_,h=>by simp at h
 | (n,k)::r,x,h=>by
  have e:= @Xh env r x
  rw [Aa9]
  rw [Ad2]at h
  cases d:x==n with
  | true=>
   rw [d]at h
   have f:=by simpa using h
   subst f
   by_cases a:(NameKind.free==NameKind.free&&env.scope.kind== .function&&env.kindOf n==y0 .cell)=k9
   ·simp only [a,if_true,Ad2,d]
    first | exact .inl rfl | exact .inl trivial | simp
   ·have c:=Aj6.mpr a
    simp only [c,Af4,if_false,Ad2,d]
    first | exact .inr rfl | exact .inr trivial | simp
  | false=>
   rw [d]at h
   have q:=e h
   by_cases a:(k==NameKind.free&&env.scope.kind== .function&&env.kindOf n==y0 .cell)=k9
   ·simp only [a,if_true,Ad2,d]
    exact q
   ·have c:=Aj6.mpr a
    simp only [c,Af4,if_false,Ad2,d]
    exact q
structure JO (X:Cx) (scope:Scope) (N:List Str) (k:Nat) (cap:List Nat):Prop where
 kind:scope.kind= .function
 nd:(scope.names.map Prod.fst).Nodup
 names: ∀y∈scope.names,y.2= .local->scope.names.lookup y.1=y0 .local
 free: ∀y∈scope.names,y.2= .free->X.env.kindOf y.1=y0 .cell\/X.env.kindOf y.1=y0 .free
 capf: ∀x∈N.drop k,scope.names.lookup x=y0 .free
 cap:CapOk X cap (N.drop k)
 le:k<=N.length
structure jcW (sc scope:Scope) (N:List Str) (k:Nat):Prop where
 kind:scope.kind= .function
 nd:(scope.names.map Prod.fst).Nodup
 names: ∀y∈scope.names,y.2= .local->scope.names.lookup y.1=y0 .local
 free: ∀y∈scope.names,y.2= .free->sc.names.lookup y.1=y0 .cell\/sc.names.lookup y.1=y0 .free
 capf: ∀x∈N.drop k,scope.names.lookup x=y0 .free
 le:k<=N.length
section
variable {X:Cx}{elt tg iter:Expr}{ifs:List Expr}{scope:Scope}{pos p0:Pos}{N:List Str}{k:Nat}{cap:List Nat}{wi:TI}{g:jd0 TG}{tc:jd0 TT}{te:jd0 TE}
def w6 (ok:JO X scope N k cap) (a:Inv X k8 U H2 s2) (J: ∀b∈fp,X3 X k8 H2 b) (P: ∀b∈fp,b<s2.heap.objs.size)
 (t:s2.heap.objs.size<=C) (M:h₁.Ns C m) (g: ∀b o,s2.heap.get? b=y0 o->h₁.get? b=y0 o)
 (d: ∀x c,(qbq scope C X.env).lookup x=y0 c->(Xv scope X.env).lookup x=y0 c\/(C+1<=c/\(x,NameKind.cell)∈scope.names/\h₁.IsCell c u0)):
 Inv (Jc X N scope C fp s2 H2) [] (zae k cap U) H2 { s2 with heap:=h₁,toks:=tk }:=by
 have sub: ∀x c,(Xv scope X.env).lookup x=y0 c->X.env.cells.lookup x=y0 c:=Qz scope.names [] λx c e=>by simp at e
 have B: ∀x,(x,NameKind.free)∈scope.names-> ∃c,(Xv scope X.env).lookup x=y0 c:=λx I=>by
  obtain⟨c,A⟩:=a.ok.has x (ok.free _ I rfl)
  exact WN A scope.names [] (.inl I)
 have lt: ∀x c,(Xv scope X.env).lookup x=y0 c->c<C+1:=λx c e=>by
  obtain⟨v,o,E,_⟩:=a.cell x c (sub x c e)
  exact Nat.lt_succ_of_le (Ac0 (Ah2 (Ab5 E)) t)
 have inj:=xah scope.names (C+1) (Xv scope X.env) lt λx y c F H=>a.ok.inj x y c (sub x c F) (sub y c H)
 have keep: ∀x c,(x,NameKind.free)∈scope.names->(Xv scope X.env).lookup x=y0 c->(qbq scope C X.env).lookup x=y0 c:=λx c I e=>by
  unfold qbq
  rw [XU scope.names (C+1) _ λz=>by cases jaL ok.nd I z]
  exact e
 have G: ∀x,(x,NameKind.free)∈scope.names\/(x,NameKind.cell)∈scope.names-> ∃c,(qbq scope C X.env).lookup x=y0 c:=λx n=>by
  rcases n with n | n
  ·obtain⟨c,A⟩:=B x n
   exact⟨c,keep x c n A⟩
  ·exact Ai3.mp (Am scope.names (C+1) (Xv scope X.env) (.inl (JW ok.nd n)))
 refine⟨⟨a.ok.mod,ok.kind,a.ok.glob,a.ok.blt,t,inj,λx n=>G x (WP n),λx c w e=> ?_,a.ok.hd,a.ok.frames,.inl rfl,λb h=>⟨?_,λx c e=> ?_⟩,
  λb o e=>a.bs b o e,Ac0 a.ok.bsz a.sz,λb o e h=> ?_,λb h z=>(Ab4.mp (a.stkSub b z)).elim (J b h).2.1 (J b h).2.2.1,a.stack,a.stkFree⟩,
  rfl,a.bare,Un.kept g,⟨m,M,λi x v T s e3=> ?_⟩,λx c e=> ?_,a.hok.fresh t,λx c e=> ?_,λp V=>absurd (show p∈([]:List (Addr×Obj))from V) (by simp),a.hok.kept g,?_⟩
 ·have w:=of_decide_eq_true w
  rcases d x c e with q | q
  ·rcases qG scope.names [] q with z | z
   ·simp at z
   ·have:=JW ok.nd z
    rw [w]at this
    cases this
  ·exact Ac0 t (Ac0 (Ah4 C) q.1)
 ·show b≠C
  exact Ac3 (Ab0 (P b h) t)
 ·rcases d x c e with q | q
  ·exact(J b h).2.2.2.2.1 x c (sub x c q)
  ·exact Ne.symm (Ac3 (Ab0 (P b h) (Ac0 t (Ac0 (Ah4 C) q.1))))
 ·rcases (J b h).2.2.2.1 with z | z
  ·exact a.ok.noex b o e z
  ·have F:=Ab5 e
   have H:=a.ok.bsz
   exact absurd (Ab0 F (Ac0 H z)) (Ag9 _)
 ·have f:k<=i:=by
   by_cases f:i<k
   ·have s:(Ab k u0++cap.map λ(j:Nat)=>(U[j]?).join)[i]? =y0 (y0 v):=s
    rw [Ag0 (by simpa using f),Am2,if_pos f]at s
    cases s
   ·omega
  have D:(N.drop k)[i-k]? =y0 x:=by
   rw [List.getElem?_drop,show k+(i-k)=i by omega];exact T
  have O:(cap.map λ(j:Nat)=>(U[j]?).join)[i-k]? =y0 (y0 v):=by
   have s:(Ab k u0++cap.map λ(j:Nat)=>(U[j]?).join)[i]? =y0 (y0 v):=s
   rw [Af7 (by simpa using f),Ae8]at s
   exact s
  obtain⟨j,R,W,Q⟩:=ok.cap.get (U:=U) D O
  obtain⟨Z,hn,S⟩:=a.loc
  obtain⟨u,r,l⟩:=S j x v R W (.inr (Q.elim (λz=> .inl z) λz=> .inr z))
  refine⟨u,r,.inr ?_⟩
  have w:=ok.capf x (Ak3 D)
  refine⟨Xh w,?_⟩
  obtain⟨c,A⟩:=B x (PySem.mem_of_lookup w)
  refine⟨c,keep x c (PySem.mem_of_lookup w) A,?_⟩
  rcases l with⟨Y,_⟩ | ⟨_,c',L,o,E,K⟩
  ·rcases Q with z | z<;>(rw [Y]at z;cases z)
  ·have d:=sub x c A
   rw [L]at d
   cases d
   exact⟨o,g _ o E,K⟩
 ·rcases d x c e with q | q
  ·obtain⟨v,o,E,K⟩:=a.cell x c (sub x c q)
   exact⟨v,o,g c o E,K⟩
  ·exact⟨u0,q.2.2⟩
 ·rcases d x c e with q | q
  ·exact a.freeC x c (sub x c q)
  ·exact a.hok.fresh (Ac0 t (Ac0 (Ah4 C) q.1))
 ·show(Ab k u0++cap.map λ(j:Nat)=>(U[j]?).join).length=N.length
  have F:=ok.cap.length
  have H:=ok.le
  rw [Ab1,Ae8,Aa,F,Ai5]
  omega
def ZN (use) (hc:X.calm=k9) (ok:JO X scope N k cap) (hi:PI X tg iter wi)
 (hg: ∀C fp s H,PG (Jc X N scope C fp s H) tg (g C fp s H)) (ht: ∀C fp s H,qdw (Jc X N scope C fp s H) ifs (tc C fp s H)) (he: ∀C fp s H,PE (Jc X N scope C fp s H) elt (te C fp s H))
 (hs: ∀x,foldedSetIterable iter X.env x=pure x)
 (I:Inv X k8 U H s) (h:jaZ k cap wi g tc te U H Q)
 (fin: ∀(D C:Addr) (oC:Obj) (m:Str->Option Value) (H4:Hp) (s4:Shared),Inv X (k8++ [(C,oC)]) U H4 s4->X3 X k8 H4 C->Q (.ref D) H4->(∀ h:Heap,h.get? C=y0 oC->h.Ns C m) →
   compPost (model X.prog X.w) X.A X.xe use Q' (.ref D) C (.ok .next) s4):
 wpAny (model X.prog X.w) X.A (comprehension (.ListComp elt [⟨tg,iter,ifs,0⟩] scope pos) scope X.env p0 (newList []) y9 (eval iter X.env) use) Q' X.xe s:=by
 have hcl:closureFor scope X.env=pure (Xv scope X.env):=xL λy hy hf=>I.ok.has y.1 (ok.free y hy hf)
 refine wpAny_comprehension_free (use:=use) rfl hs hcl ok.kind ok.names (zdv (hi k8 s U H _ I h) λv s1 h1=>zdv h1 λitv s2 h2=> ?_)
 obtain⟨it,fp,tn,J,H2,e,I2,T,st2,f2,hW⟩:=h2
 subst e
 refine wpAny_newObj_type (Ww ?_)
 dsimp only
 generalize hHp:s2.heap.push { cls:= .type "list",dict:=none,data:= .seq ([]:List Value).toArray }=HP
 have hCs:HP.objs.size=s2.heap.objs.size+1:=by rw [← hHp,Ag1]
 generalize hDD:s2.heap.objs.size=D at hCs ⊢
 have hns0:(HP.push { cls:= .type "dict",data:= .dict #[] }).Ns HP.objs.size fun _=>none:=Heap.Ns.new HP (.type "dict")
 have hlk: ∀x c,(qbq scope HP.objs.size X.env).lookup x=some c->(Xv scope X.env).lookup x=some c\/(HP.objs.size+1<=c/\(x,NameKind.cell)∈scope.names/\(pushCells (HP.push { cls:= .type "dict",data:= .dict #[] }) scope.names).IsCell c none):=fun x c e=>by
  refine wU scope.names (HP.push { cls:= .type "dict",data:= .dict #[] }) (Xv scope X.env) True (fun _=> .inl trivial) (HP.objs.size+1) (by rw [Heap.size_push];exact Nat.le_refl _) ?_
  rw [Ag1]
  exact e
 generalize hh1:pushCells (HP.push { cls:= .type "dict",data:= .dict #[] }) scope.names=h₁ at hlk ⊢
 have hns₁:h₁.Ns HP.objs.size λ_=>none:=by rw [← hh1];exact hns0.keeps (pushCells_keeps _ _)
 have hk1: ∀b o,HP.get? b=y0 o->h₁.get? b=y0 o:=λb o e=>by
  rw [← hh1]
  exact pushCells_keeps _ _ b o (Aa1 _ e)
 generalize hCC:HP.objs.size=C at hCs hns₁ hlk ⊢
 have hDC:D≠C:=by rw [hCs];exact Ac3 (Ag7 _)
 have hle:s2.heap.objs.size<=C:=by rw [hDD,hCs];exact Ah4 _
 have hleD:s2.heap.objs.size<=D:=Nat.le_of_eq hDD
 have fo: ∀b∈fp,b<D:=λb hb=>by
  obtain⟨o,eo,_⟩:=T.obj _ _ st2 b hb
  rw [← hDD]
  exact Ab5 eo
 have old: ∀b o,s2.heap.get? b=y0 o->h₁.get? b=y0 o:=λb o e=>by
  exact hk1 b o (hHp▸Aa1 _ e)
 have hacc:h₁.get? D=y0 { cls:= .type "list",data:= .seq ([]:List Value).toArray }:=by
  refine hk1 _ _ ?_
  rw [← hHp,←hDD]
  exact Ab6 _ rfl
 obtain⟨W,⟨m0,w0⟩,turn⟩:=hW C fp s2
 have I3:Inv (Jc X N scope C fp s2 H2) [] (zae k cap U) H2 { s2 with heap:=h₁,toks:=s2.toks }:=
  w6 ok I2 f2 (λb hb=>by rw [hDD];exact fo b hb) hle hns₁ old hlk
 have st3:tn 0 h₁:=T.keep _ _ _ st2 λb _ o e=>old b o e
 have hch: ∀b∈fp,(b∈X.ex\/X.s₀.heap.objs.size<=b)/\b≠X.env.locals/\(∀ x c,X.env.cells.lookup x=y0 c->c≠b)/\ ∀p∈X.pn++k8,p.1≠b:=λb hb=>⟨(f2 b hb).2.2.2.1,(f2 b hb).2.1,(f2 b hb).2.2.2.2.1,(f2 b hb).2.2.2.2.2⟩
 have FD: ∀ {H':Hp},H' D=u0->X3 X k8 H' D:=λhn=>I2.fpOk hleD hn
 have FC: ∀ {H':Hp},H' C=u0->X3 X k8 H' C:=λhn=>I2.fpOk hle hn
 have sub: ∀x c,(Xv scope X.env).lookup x=y0 c->X.env.cells.lookup x=y0 c:=Qz scope.names [] λx c e=>by simp at e
 have hDst:D∉qdG X.stack:=λz=>(Ab4.mp (I2.stkSub D z)).elim (FD (H':=λ_=>u0) rfl).2.1 (FD (H':=λ_=>u0) rfl).2.2.1
 have hDc: ∀x c,(qbq scope C X.env).lookup x=y0 c->c≠D:=λx c e=>by
  rcases hlk x c e with q | q
  ·exact(FD (H':=λ_=>u0) rfl).2.2.2.2.1 x c (sub x c q)
  ·exact Ne.symm (Ac3 (Ab0 (by rw [hCs];exact Am1 (Ag7 _)) q.1))
 have loop: ∀s₃:Shared,s₃= { s2 with heap:=h₁,toks:=s2.toks } →
  codeAny (model X.prog X.w) X.A (.compLoop (.ListComp elt [⟨tg,iter,ifs,0⟩] scope pos) 0 (.ref it) (.ref D) (compEnvC scope (qbq scope C X.env) C X.env))
   (compPost (model X.prog X.w) X.A X.xe use Q' (.ref D) C) s₃:=by
  rintro s₃ rfl
  refine wR (λn s'=> ∃i ys its kk Y H',Inv (Jc X N scope C fp s2 H2) [] Y H' s'/\tn i s'.heap/\(∀ b∈fp,H' b=u0)/\H' D=u0/\s'.heap.get? D=y0 { cls:= .type "list",data:= .seq (its:List Value).toArray kk }/\Vals ys its/\W i n ys Y H')
   ?_ m0 ⟨0,[],[],0,_,H2,I3,st3,λb hb=>(f2 b hb).1,I2.hok.fresh hleD,hacc,.nil,w0⟩
  rintro n s3 ⟨i,ys,its,kk,Y,H3,I3,st3,fr3,hD3,eD3,rv3,w3⟩
  have IP:Inv (Jc X N scope C fp s2 H2) [(D,{ cls:= .type "list",data:= .seq its.toArray kk })] Y H3 s3:=I3.pins_of fun p hp=>by
   have e:p=(D,{ cls:= .type "list",data:= .seq its.toArray kk }):=by simpa using hp
   subst e
   exact⟨eD3,hD3,hDC,hDst,λv z=>by cases z⟩
  have fpok: ∀ {H':Hp},(∀ b∈fp,H' b=u0)-> ∀b∈fp,X3 (Jc X N scope C fp s2 H2) [(D,{ cls:= .type "list",data:= .seq its.toArray kk })] H' b:=fun {H'} hn b hb=>by
   refine⟨hn b hb,I3.ok.exf b hb |>.1,I3.ok.exfs b hb,.inl hb,I3.ok.exf b hb |>.2,λp hp=> ?_⟩
   have e:p=(D,{ cls:= .type "list",data:= .seq its.toArray kk }):=by
    have hp:p∈([]:List (Addr×Obj))++ [(D,{ cls:= .type "list",data:= .seq its.toArray kk })]:=hp
    simpa using hp
   rw [e]
   exact Ne.symm (Ac3 (fo b hb))
  rcases turn i n ys Y H3 w3 with⟨stop,hz,q⟩ | ⟨go,hz,NN,hN,step⟩
  ·refine zdv (T.done (Jc X N scope C fp s2 H2) rfl rfl rfl hc i _ s3 Y H3 _ IP (fpok fr3) st3 stop) ?_
   rintro r s4 ⟨hr,I4⟩
   subst hr
   have eD4:=(I4.pin _ (Ab2 _ Aa3)).1
   have I5:Inv X k8 U H3 s4:=I2.call' (ch:=fp) I4.os I4.base I4.hok I4.bare hch
   have I6:=I5.adopt (FD hD3) (Ac0 I2.sz hleD) eD4 rv3 hz
   obtain⟨m,⟨oC,es,ep,hoC,hdC,hr⟩,_⟩:=I4.loc
   have fC:X3 X k8 (zdL H3 D (.lst ys)) C:=FC (by rw [qa (Ne.symm hDC)];exact I4.free)
   have I7:Inv X (k8++ [(C,oC)]) U (zdL H3 D (.lst ys)) s4:=I6.pins_of λp hp=>(Af2.mp hp).elim (λz=>I6.pin p (Ab2 _ z)) λz=>by
    have e:p=(C,oC):=by simpa using z
    subst e
    exact⟨hoC,fC.1,fC.2.1,fC.2.2.1,λv z=>by rw [hdC]at z;cases z⟩
   exact fin D C oC m _ s4 I7 fC (q D hD3) λh e=>⟨oC,es,ep,e,hdC,hr⟩
  ·refine zdv (T.item (Jc X N scope C fp s2 H2) rfl rfl rfl hc i _ s3 Y H3 _ IP (fpok fr3) st3 go) ?_
   rintro r s4 ⟨u,hr,h4⟩
   subst hr
   refine zdv h4 ?_
   rintro _ s5 ⟨x,H5,I5,r5,y5,st5,fr5⟩
   have I5':=I5.pinned (fpok fr5) (T.obj _ _ st5)
   refine wpAny_mono (hg C fp s2 H2 _ s5 Y H5 x u _ I5' r5 (step x H5 y5)) (λ_ s6 ⟨U6,H6,I6,q6⟩=> ?_) λ_ _ z=>False.elim z
   refine wpAny_mono (ht C fp s2 H2 _ s6 U6 H6 _ I6 q6) (λb s7 ⟨H7,I7,q7⟩=> ?_) λ_ _ z=>False.elim z
   have hp5: ∀b∈fp,∃o,s5.heap.get? b=y0 o:=λb hb=>let ⟨o,e,_⟩:=T.obj _ _ st5 b hb; ⟨o,e⟩
   cases b with
   | false=>
    rw [if_neg Ab8]at q7 ⊢
    obtain⟨m',hm,w7⟩:=hN _ _ _ q7
    refine⟨m',hm,i+1,ys,its,kk,U6,H7,I7.pins_of λp hp=>absurd hp (by simp),T.keep _ _ _ st5 λb hb o e=>(I7.pin (b,o) (Ab2 _ (Ab2 _ (ji hb e)))).1,λb hb=> ?_,?_,?_,rv3,w7⟩
    ·obtain⟨o,e⟩:=hp5 b hb
     exact(I7.pin (b,o) (Ab2 _ (Ab2 _ (ji hb e)))).2.1
    ·exact(I7.pin _ (Ab2 _ (Ac9 _ Aa3))).2.1
    ·exact(I7.pin _ (Ab2 _ (Ac9 _ Aa3))).1
   | true=>
    rw [if_pos rfl]at q7 ⊢
    refine wpAny_mono (he C fp s2 H2 _ s7 U6 H7 _ I7 q7) (λy s8 ⟨yv,H8,I8,r8,q8⟩=> ?_) λ_ _ z=>False.elim z
    have pD:=I8.pin _ (Ab2 _ (Ac9 _ Aa3))
    have eD8:s8.heap.get? D=y0 { cls:= .type "list",data:= .seq its.toArray kk }:=pD.1
    have hD8:H8 D=none:=pD.2.1
    have v8:=rv3.length
    refine call_meets F.slot_list_append ⟨_,eD8,rfl⟩ F.entry_list_append (F.args_list_append_2 _ _) (PySem.list_append D its.toArray kk y (by rw [Aa8];omega)) ⟨eD8,?_⟩
    obtain⟨m',hm,w8⟩:=hN _ _ _ q8
    have IQ:Inv (Jc X N scope C fp s2 H2) (QC fp s5.heap) U6 H8 s8:=I8.pins_of λp hp=>I8.pin p (Ab2 _ (Ab2 _ hp))
    have e9:=PySem.IsL.update eD8 (·.push y)
    rw [show its.toArray.push y=(its++ [y]).toArray by simp]at e9
    have I9:Inv (Jc X N scope C fp s2 H2) (QC fp s5.heap) U6 H8 { s8 with heap:=s8.heap.update D (Obj.mapSeq (·.push y)),toks:=s8.toks }:=
     IQ.turned (it:=D) (λb o hb e=>(Aj3 s8.heap (Obj.mapSeq (·.push y)) (Ne.symm hb)).trans e) hD8 hDC (.inr hleD) hDc λp hp=>by
      have hp:p∈([]:List (Addr×Obj))++QC fp s5.heap:=hp
      have:=fo p.1 (WR (by simpa using hp)).1
      exact Ac3 this
    refine⟨m',hm,i+1,ys++ [yv],its++ [y],_,U6,H8,I9.pins_of λp hp=>absurd hp (by simp),T.keep _ _ _ st5 λb hb o e=>(I9.pin (b,o) (Ab2 _ (ji hb e))).1,λb hb=> ?_,hD8,e9,rv3.append (.cons r8 .nil),w8⟩
    obtain⟨o,e⟩:=hp5 b hb
    exact(I9.pin (b,o) (Ab2 _ (ji hb e))).2.1
 exact codeAny_compStart_list (loop _ rfl) (T.self _ 0 _ _ _ st3 (loop _ rfl))
def zbC (ok:JO X scope N k cap) (t:PI X tg iter wi)
 (y: ∀C fp s H,PG (Jc X N scope C fp s H) tg (g C fp s H)) (j: ∀C fp s H,qdw (Jc X N scope C fp s H) ifs (tc C fp s H)) (l: ∀C fp s H,PE (Jc X N scope C fp s H) elt (te C fp s H))
 (w:X.calm=true:=by rfl) (p: ∀x,foldedSetIterable iter X.env x=pure x:=by intro _;rfl):PE X (.ListComp elt [⟨tg,iter,ifs,0⟩] scope pos) (jaZ k cap wi g tc te):=by
 intro f s U H Q I h
 refine ZN u0 w ok t y j l p I h λD C n m v A i a q d=> ?_
 have u:=i.pin (C,n) (Ab2 _ (Ab2 _ Aa3))
 refine⟨m,d _ u.1,λz c=>⟨.ref D,v,?_,rfl,q⟩⟩
 exact(i.unpinned).turned (λb o r e=>c.extBut b o r e) a.1 a.2.1 a.2.2.2.1 a.2.2.2.2.1 a.2.2.2.2.2
def X7 (A:X.N.Nodup) (f:X.N[i]? =y0 x) (r:qdW X.env.scope x) (ok:JO X scope N k cap) (F:PI X tg iter wi)
 (M: ∀C fp s H,PG (Jc X N scope C fp s H) tg (g C fp s H)) (p: ∀C fp s H,qdw (Jc X N scope C fp s H) ifs (tc C fp s H)) (t: ∀C fp s H,PE (Jc X N scope C fp s H) elt (te C fp s H))
 (c:swapsWith (.ListComp elt [⟨tg,iter,ifs,0⟩] scope p0) (y0 (.Name x pos')) pos.line X.env=pure true:=by rfl)
 (L:X.calm=true:=by rfl) (w: ∀x,foldedSetIterable iter X.env x=pure x:=by intro _;rfl) (E:X.fn x=k9\/X.env.scope.names.lookup x=y0 .local:=by first | exact .inl rfl | exact .inr rfl | assumption):
 PS X (.Assign [.Name x pos'] (.ListComp elt [⟨tg,iter,ifs,0⟩] scope p0) pos) (xbt (jaZ k cap wi g tc te) (jQ i)):=by
 intro l s U H D I h
 rw [exec_Assign_Name_used _ _ _ _ c]
 refine wpAny_bind (wpAny_standAt (wpAny_bind ?_))
 refine wpAny_bind (wpAny_mono (ZN (y0 (assign (.Name x pos') X.env)) L ok F M p t w I h λB C u m J R y a q j=> ?_) (λ_ Q K=>wpAny_pure (wpAny_pure K)) λ_ _ e=>e)
 refine wpAny_assign_Name (Zq y A f r (v:= .ref B) rfl (λO n=> ?_) E)
 have G:=n.pin (C,u) (Ab2 _ (Ab2 _ Aa3))
 refine⟨m,j _ G.1,λP d=>⟨_,J,?_,q⟩⟩
 exact(n.unpinned).turned (λb o z e=>d.extBut b o z e) a.1 a.2.1 a.2.2.2.1 a.2.2.2.2.1 a.2.2.2.2.2
end
def Qe {K:Aa6}(c:Nat->List V->St->Hp->Prop) (w:xs.length<=1000) (t:c 0 [] Y0 H1) (o: ∀i ys Y H,c i ys Y H->ys.length<=i)
 (l: ∀i ys Y H,i<=xs.length->c i ys Y H->SqL K H a xs)
 (j: ∀i ys Y H x,xs[i]? =y0 x->c i ys Y H->g x Y H λY2 H2=>tc Y2 H2 λb f=>if b=k9 then te Y2 f λy s=>c (i+1) (ys++ [y]) Y2 s else c (i+1) ys Y2 f)
 (k: ∀ys Y H,c xs.length ys Y H-> ∀D,H D=u0->Q (.ref D) (zdL H D (.lst ys))):jcm (jdN K a) g tc te Y0 H1 Q:=by
 refine⟨λi m ys Y H=>m=xs.length-i/\i<=xs.length/\c i ys Y H,⟨xs.length,by simp,Ah3 _,t⟩,?_⟩
 rintro i m ys Y H ⟨rfl,r,p⟩
 have z:=o i ys Y H p
 have q:=l i ys Y H r p
 by_cases d:i<xs.length
 ·refine .inr ⟨⟨xs,xs[i],q,by simp [d]⟩,xl (by omega),c (i+1),λu v h n=>⟨xs.length-(i+1),by omega,rfl,d,n⟩,λx h y=> ?_⟩
  obtain⟨e,y⟩:=y
  subst e
  exact j i ys Y _ x (y xs q) p
 ·have e:i=xs.length:=by omega
  subst e
  exact .inl ⟨⟨xs,q,Aa5 _⟩,Ah2 (xl (by omega)),k ys Y H p⟩
noncomputable def zds (K:Aa6) (a:Addr) (n:Nat):It:=
 ⟨λi H=> ∃xs,SqL K H a xs/\xs.length=n/\i<n,λi H x H'=>H'=H/\ ∀xs,SqL K H a xs->xs[n-1-i]? =y0 x,λi _=>i=n⟩
def zaV {K:Aa6}(a it) (n):qa6 P w K tg (zds K a n) [it] it (λi h=>h.IsRevIter it a ((n:Int)-1-((i:Nat):Int))) where
 mem:=by simp
 obj:=λi h f b j=>by
  have e:=by simpa using j
  subst e
  obtain⟨o,e,c,d⟩:=f
  exact⟨o,e,λv z=>by rw [d]at z;cases z⟩
 keep:=λi h r f k=>f.at λo e=>k it (by simp) o e
 item:=by
  intro X hP y A L i g s U H E I q f m
  subst hP y A
  obtain⟨G,J,hl,hi⟩:=m
  obtain⟨N,rv,p,Y⟩:=I.list J
  have F:G[n-1-i]? =y0 (G[n-1-i]'(by omega)):=Aa4 (by omega)
  obtain⟨u,R,O⟩:=rv.get F
  obtain⟨B,C,S,t,D,x⟩:=q it (by simp)
  have e: n-1- (i:Nat)=((n-1-i:Nat):Int):=by omega
  have f:=f
  rw [e]at f
  refine wpAny_pyNext_rev_item f p.isList (by simpa using R) λr l V=> ?_
  have T:Inv X g U H { s with heap:=r }:=I.turned (λb o j e=>(V.2 b j).trans e) B C t D x
  have W: (n-1-i:Nat)-1= n-1-((i+1:Nat):Int):=by omega
  rw [W]at l
  obtain⟨o,e,c,d⟩:=id l
  exact⟨u,rfl,Q7 e c d (by decide) ⟨_,H,T,O,⟨rfl,λZ M=>by rw [I.list_inj M J];exact F⟩,l,λb j=>(q b j).1⟩⟩
 done:=by
  intro X hP y A L i g s U H E I q f m
  subst hP y A
  have m:=m
  subst m
  obtain⟨B,C,S,t,D,x⟩:=q it (by simp)
  have e: i-1-((i:Nat):Int)= -1:=by omega
  have f:=f
  rw [e]at f
  exact wpAny_pyNext_rev_end (I.ok.hd L) f λr Q=>⟨rfl,I.turned (λb o j e=>Q b o j e) B C t D x⟩
 self:=λ_ _ _ _ _ f h=>wpAny_pyIter_revIter f h
section
variable {X:Cx}{tg:Expr}
def zdd (K:Aa6) (b:TA):TI:=λU H R=>b U H λc H1=> ∃a xs,c= [.ref a]/\SqL K H1 a xs/\R (zds K a xs.length) H1
def qaF (A:Gl X "reversed") (v:X.mg "reversed" =none) (t:PA X [a] ta) (u:starEach [a] X.env= [(false,eval a X.env)]:=by rfl):PI X tg (.Call (.Name "reversed" p) [a] [] pos) (zdd X.K ta):=by
 intro f s U H R I h
 refine Call_ (Qx I A v boot_reversed (PyProof.Rows.callWith_type1 (zdv (t pos f s U H _ I h) λC i ⟨D,m,j,x,y⟩=> ?_) u rfl))
 obtain⟨b,d,e,z,q⟩:=y
 subst e
 cases x with
 | cons r n=>
  cases n
  cases r
  obtain⟨k,rv,pl,B⟩:=j.list z
  refine call_reversed_list pl.isList ?_
  have g:k.toArray.size=d.length:=by rw [Aa8];exact rv.length.symm
  rw [g]
  have l:(i.heap.push (revObj b (d.length-1))).IsRevIter i.heap.objs.size b (d.length-1- (0:Nat)):=by
   refine⟨_,Ab6 _ rfl,rfl,?_⟩
   rw [show d.length-1- (0:Nat)=(d.length:Int)-1 by omega]<;>rfl
  refine wpAny_pyIter_revIter l ?_
  refine⟨i.heap.objs.size,[i.heap.objs.size],_,_,m,rfl,j.kept λb o e=>Aa1 _ e,zaV b _ d.length,l,λc w=> ?_,q⟩
  have e:=by simpa using w
  subst e
  exact j.fpOk (Aa5 _) (j.hok.fresh (Aa5 _))
end
structure qdy (P:Program) (w:World) (K:Aa6) (mg:Str->Option Value) (base:Heap) (k:Nat) (x:Str) (ps:List Str) (sp:Sp):Prop where
 ex: ∃f fd,FnOk P w K mg base jdZ k f fd ps sp/\Binds K fd ps []/\Ae0 K (.ref f)=k9/\mg x=y0 (.ref f)
open PySem PySem.Spec PySem.Calls PySem.W PyProof.Rows
structure ja0 (K:Frag) (C:Addr):Prop where
 ga:findIn K (.ref C) "__getattribute__" =some (some (.builtin "BaseException.__getattribute__"))
 gn:findIn K (.ref C) "__getattr__" =some none
 cl:findIn K (.ref C) "__class__" =some (some (.builtin "object.__class__"))
 get:specialIn K (.builtin "object.__class__") "__get__" =some (some (.builtin "getset_descriptor.__get__"))
 set:takesIn K (.builtin "object.__class__")=some true
 obj:mroIn K C (.type "object")=some true
 bas:mroIn K C (.type "BaseException")=some true
 slf:kitCls K (.ref C) (.ref C)=y0 k9
 cls:(clsIn K C).isSome=k9
def ExcAt (h:Heap) (x C:Addr):Prop:= ∃o,h.get? x=y0 o/\o.cls= .ref C
def ExcAt.type (e:ExcAt h x C):Looks M h (typeOf (.ref x)) (.ref C):=by
 obtain⟨o,a,b⟩:=e
 rw [← b]
 exact(Looks.ld a).andThen Looks.now
section
variable {prog:Program}{w:World}{A:Around}{E:Value->Shared->Prop}{s:Shared}{K:Frag}{x C:Addr}
def zV (X:K.In s.heap) (I:ExcAt s.heap x C) (Z:ja0 K C) (a:R (.ok (.ret (.ref C))) s):
 codeAny (model prog w) A (.call (.builtin "getset_descriptor.__get__") ⟨[.builtin "object.__class__",.ref x,tp],[]⟩) R s:=by
 obtain⟨c,g,dd,d,f⟩:=s
 have e:=I.type (M:=model prog w)
 have b:=looks_mroIn (M:=model prog w) X Z.obj
 refine codeAny_call_builtin KF.slot_gs.plain KF.entry_gs (KF.slot_gs.check _ _ _ _ _ _ _ _ KF.type_class (KF.args_gs _ _ _) ?_)
 unfold Builtin.«getset_descriptor.__get__» Builtin.Getset_descriptor.descrGet
 rw [dga_obj]
 refine wpAny_bind (wpAny_pure ?_)
 unfold Builtin.Getset_descriptor.descrGetter Builtin.Getset_descriptor.descrCheckInstance Builtin.Getset_descriptor.descrNameAndClass isInstance
 simp only [KF.owner_class]
 repeat lk
 refine⟨Code.quiet_builtin _ (by decide +kernel),codeAny_builtin KF.entry_class ?_⟩
 unfold Builtin.«object.__class__» shownTypeOf
 repeat lk
 exact a
def qS (X:K.In s.heap) (I:ExcAt s.heap x C) (Z:ja0 K C) (v:Q (y0 (.ref C)) { s with toks:=s.toks+1 }):
 wpAny (model prog w) A (getAttr? (.ref x) "__class__") Q E s:=by
 obtain⟨b,e,dd,z,d⟩:=s
 have g:=I.type (M:=model prog w)
 have m:=looks_findIn (M:=model prog w) X Z.ga
 have n:=looks_findIn (M:=model prog w) X Z.gn
 have o:=looks_findIn (M:=model prog w) X Z.cl
 have l:=looks_specialIn (M:=model prog w) X Z.get
 have p:=looks_takesIn (M:=model prog w) X Z.set
 have r:=looks_mroIn (M:=model prog w) X Z.bas
 have c:Looks (model prog w) b (Builtin.ObjectAttr.find (.ref x) (.ref C) "__class__") (.bind (.builtin "getset_descriptor.__get__") (.builtin "object.__class__")):=by
  unfold Builtin.ObjectAttr.find
  refine o.andThen ?_
  refine Looks.andThen (show Looks (model prog w) b (Builtin.ObjectAttr.getOf (some (.builtin "object.__class__"))) (some (.builtin "getset_descriptor.__get__"))from l) ?_
  unfold Builtin.ObjectAttr.dataDescriptor?
  refine Looks.andThen (a:=y0 (.builtin "getset_descriptor.__get__",.builtin "object.__class__")) (p.andThen ?_) (Looks.tag Looks.now)
  exact Looks.now
 have k: ∀ A i Q E t,Q (.done (.ret (.ref C))) ⟨b,e,dd,t,d⟩ →
  wpAny (model prog w) A (Builtin.«object.__getattribute__» ⟨[.ref x,.str "__class__" i],[]⟩) Q E ⟨b,e,dd,t,d⟩:=fun A i Q E t j=>by
  unfold Builtin.«object.__getattribute__»
  refine wpAny_bind (wpAny_of_eq (a:=(Value.ref x,[Value.str "__class__" i])) rfl ?_)
  dsimp only
  refine wpAny_bind (wpAny_of_eq (a:=("__class__" :Str)) rfl ?_)
  refine wpAny_bind (g.at (wpAny_bind (c.at ?_)))
  show wpAny _ _ (Builtin.ObjectAttr.bindTo _ _ _ _) _ _ _
  unfold Builtin.ObjectAttr.bindTo
  dsimp only
  exact wpAny_bind (wpAny_holding (wpAny_call (zV X I Z (wpAny_pure j))))
 have h: ∀ A f Q E t,Q () ⟨b,e,dd,t,d⟩ →
  wpAny (model prog w) A (checkBuiltinCall "BaseException.__getattribute__" ⟨[.ref x,f],[]⟩) Q E ⟨b,e,dd,t,d⟩:=fun A f Q E t j=>by
  have y:builtinKind "BaseException.__getattribute__" =some .slot:=by decide +kernel
  have q:splitId "BaseException.__getattribute__" =some ("BaseException", "__getattribute__"):=by decide +kernel
  have u:=F.args_bexc_ga (.ref x) f
  simp only [checkBuiltinCall,y,q]
  refine wpAny_bind ((g.andThen r:Looks (model prog w) b (isInstance (.ref x) (.type "BaseException")) true).at ?_)
  rw [if_neg (by decide)]
  exact wpAny_of_eq u j
 unfold getAttr? getAttrBy? getAttrBy
 refine wpAny_bind (wpAny_mkText (wpAny_bind (wpAny_attempt (wpAny_holding (wpAny_bind (g.at (wpAny_bind (m.at ?_))))))))
 show wpAny _ _ (getAttrByItsOwn _ _ _ _ _ _) _ _ _
 unfold getAttrByItsOwn hookBefore
 refine wpAny_bind (n.at ?_)
 refine wpAny_bind (wpAny_attempt (wpAny_holding ?_))
 show wpAny _ _ (boundAndCalled (.builtin "BaseException.__getattribute__") (.ref x) _) _ _ _
 unfold boundAndCalled
 refine wpAny_bind (wpAny_of_eq (F.excAttr_ValueError.ga.bind _) ?_)
 refine wpAny_call (codeAny_call_builtin F.excAttr_ValueError.ga.plain F.entry_bexc_ga (h _ _ _ _ _ (k _ _ _ _ _ ?_)))
 show wpAny _ _ (handedOut (.ref C)) _ _ _
 exact handed_on rfl (wpAny_pure v)
end
def jK {K:Frag}(Z:ja0 K C):KitX K (.ref x) (.ref C) (λh=>ExcAt h x C) where
 ty:=λ_ _ _ I=>I.type
 it:=λM h X _=>(kit_cls X Z.slf).2.1
 ne:=λh f dd d n sl X b=>by
  rw [Aj6]
  intro q
  have e:=Value.ref.inj (beq_iff_eq.mp q)
  subst e
  have z:=Z.cls
  cases a:K.lookup C with
  | none=>simp [clsIn,a]at z
  | some o=>
   have c:=X C o a
   rw [b]at c
   cases c
   simp [clsIn,a]at z
 ca:=λX I k=>qS X I Z k
noncomputable def jW (x C:Addr) (a:Option Addr):HO:= .ext λh=> ∃o,h.get? x=y0 o/\o.cls= .ref C/\notCls o=k9/\ ∀dx,a=y0 dx->o.dict=y0 dx
def jb0 (e:h.get? x=y0 o) (c:o.cls= .ref C) (f:notCls o=k9) (d: ∀dx,od=y0 dx->o.dict=y0 dx):ObjOk P w H h x (jW x C od):=
 ⟨⟨o,e,c,f,d⟩,⟨o,e⟩,λi g ⟨o,a,b⟩ k=>⟨o,k o a,b⟩⟩
noncomputable def zc1 (K:Frag):List V->Hp->VK->Prop:=λxs H Q=> ∃x C a b,ja0 K C/\H x=y0 (jW x C a) ∧
 ((∃ (D:Addr),xs= [.ref x,.ref D]/\kitOne K (.ref C) (.ref D)=y0 b)\/(∃ (T:String),xs= [.ref x,.ty T]/\kitOne K (.ref C) (.type T)=y0 b) ∨
   ∃(t:Addr) (ds:List Addr),xs= [.ref x,.ref t]/\H t=y0 (.tup (ds.map V.ref))/\kitAny K (.ref C) (ds.map Value.ref)=y0 b)/\Q (.bl b) H
theorem QP: ∀ {a:List Addr}{us},Vals (a.map V.ref) us->us=a.map Value.ref
 | [],_,.nil=>rfl
 | _::_,_,.cons r t=>by
  cases r
  rw [QP t]
  rfl
def W0 :Xm X (.builtin "isinstance") (zc1 X.K):=by
 intro i s U H B F Q I r h
 obtain⟨x,C,J,b,Z,v,w,q⟩:=h
 have ex:ExcAt s.heap x C:=let ⟨o,a,b,_⟩:=(I.hok x _ v).1; ⟨o,a,b⟩
 rcases w with⟨D,rfl,e⟩ | ⟨T,rfl,e⟩ | ⟨t,E,rfl,k,e⟩
 ·obtain⟨u,g,rfl,f,c⟩:=xW r
  cases f
  cases c
  exact kia_one (jK Z) I.kIn ex e (λz=>nomatch z) λd=>⟨.bl b,H,I.tok d,rfl,q⟩
 ·obtain⟨u,g,rfl,f,c⟩:=xW r
  cases f
  cases c
  exact kia_one (jK Z) I.kIn ex e (λz=>nomatch z) λd=>⟨.bl b,H,I.tok d,rfl,q⟩
 ·obtain⟨u,g,rfl,f,c⟩:=xW r
  cases f
  cases c
  obtain⟨_,m,rv,o,p,l,_,n,j⟩:=I.hok t _ k
  rw [QP rv]at j
  obtain⟨y,G,A,sl⟩:=o
  subst l j
  exact kia_tup (jK Z) I.kIn ex p e (λz=>nomatch z) λd=>⟨.bl b,H,I.tok d,rfl,q⟩
def DK (h h':Heap):Prop:= ∀b o,h.get? b=y0 o-> ∃o',h'.get? b=y0 o'/\o'.dict=o.dict
def DK.refl (h):DK h h:=λ_ o e=>⟨o,e,rfl⟩
theorem DK.trans (x:DK a b) (y:DK b c):DK a c:=λi o e=>
 let ⟨g,k,j⟩:=x i o e
 let ⟨d,h,f⟩:=y i g k
 ⟨d,h,f.trans j⟩
noncomputable def KD {b:Type}:Sem b->Prop
 | .pure _=>True
 | .raise _=>True
 | .unsupported _=>True
 | .finish _=>True
 | .register _ _=>True
 | .rule _ k=>KD (k ())
 | .at _ k=>KD (k ())
 | .load _ _ k=> ∀o,KD (k o)
 | .update _ _ f k=>(∀ o,(f o).dict=o.dict/\(o.isFreed=y9->(f o).isFreed=y9))/\KD (k ())
 | .alloc _ k=> ∀a,KD (k a)
 | .loadIfAlive _ k=> ∀o,KD (k o)
 | .point _ k=>KD (k ())
 | .fresh k=> ∀t,KD (k t)
 | .ask k=> ∀t,KD (k t)
 | .handled _ k=> ∀t,KD (k t)
 | .stack k=> ∀t,KD (k t)
 | .thread k=> ∀t,KD (k t)
 | _=>False
theorem KD.bind (c: ∀a,KD (f a))(h:KD m):KD (m.bind f):=by
 induction m with
 | pure a=>exact c a
 | raise _=>exact trivial
 | unsupported _=>exact trivial
 | finish _=>exact trivial
 | register _ _=>exact trivial
 | rule _ k b=>exact b () h
 | «at» _ k b=>exact b () h
 | load _ _ k b=>exact λo=>b o (h o)
 | update _ _ _ k b=>exact⟨h.1,b () h.2⟩
 | alloc _ k b=>exact λo=>b o (h o)
 | loadIfAlive _ k b=>exact λo=>b o (h o)
 | point _ k b=>exact b () h
 | fresh k b=>exact λo=>b o (h o)
 | ask k b=>exact λo=>b o (h o)
 | handled _ k b=>exact λo=>b o (h o)
 | stack k b=>exact λo=>b o (h o)
 | thread k b=>exact λo=>b o (h o)
 | _=>exact False.elim h
theorem DK.push (h) (o):DK h (h.push o):=λb u e=>⟨u,Aa1 _ e,rfl⟩
theorem DK.update (h) (a)(c: ∀o,(f o).dict=o.dict/\(o.isFreed=y9->(f o).isFreed=y9)):DK h (h.update a f):=λb u e=>by
 by_cases q:a=b
 ·subst q
  exact⟨f u,Ah9 f e ((c u).2 (Heap.get?_some_iff.mp e).2),(c u).1⟩
 ·exact⟨u,by rw [Aj3 _ _ q];exact e,rfl⟩
def jcR : ∀ {p}{s},KD t->DK h0 s.heap->Sem.wp M Γ t Q E p s →
 Sem.wp M Γ t (λa p s'=>Q a p s'/\DK h0 s'.heap) (λe p s'=>E e p s'/\DK h0 s'.heap) p s:=by
 induction t with
 | pure a=>exact λk d h=>⟨h,d⟩
 | raise _=>exact λk d h=>⟨h,d⟩
 | unsupported _=>exact λk d h=>h
 | finish _=>exact λk d h=>h
 | register _ _=>exact λk d h=>h
 | rule _ t b=>exact λk d h=>b () k d h
 | «at» _ t b=>exact λk d h=>b () k d h
 | load _ _ t b=>exact λk d ⟨o,e,h⟩=>⟨o,e,b o (k o) d h⟩
 | update a _ f t b=>exact λk d ⟨e,h⟩=>⟨e,b () k.2 (d.trans (DK.update _ _ k.1)) h⟩
 | alloc o t b=>exact λk d h=>b _ (k _) (d.trans (DK.push _ _)) h
 | loadIfAlive _ t b=>exact λk d h=>b _ (k _) d h
 | point _ t b=>exact λk d h=>b () k d h
 | fresh t b=>exact λk d h=>b _ (k _) d h
 | ask t b=>exact λk d h=>b _ (k _) d h
 | handled _ t b=>exact λk d h=>b _ (k _) d h
 | stack t b=>exact λk d h=>b _ (k _) d h
 | thread t b=>exact λk d h=>b _ (k _) d h
 | _=>exact λk=>False.elim k
def zL (k:KD t) (h:wpAny M A t Q E s):
 wpAny M A t (λa s'=>Q a s'/\DK s.heap s'.heap) (λe s'=>E e s'/\DK s.heap s'.heap) s:=λc p b=>jcR k (DK.refl _) (h c p b)
def wV (v):KD (fieldsOf v):=by
 cases v<;>first | exact trivial | skip
 refine KD.bind (λo=> ?_) λ_=>trivial
 split<;>exact trivial
def Zy (v) (i):KD (field v i):=by
 refine KD.bind (λo=> ?_) (wV v)
 split<;>exact trivial
def XT {c:Bool}(d:KD a) (e:KD b):KD (if c then a else b):=by cases c<;>assumption
def Xs (v) (i) (x):KD (setField v i x):=by
 cases v<;>first | exact trivial | skip
 refine KD.bind (λo=> ?_) λ_=>trivial
 split
 ·split
  ·refine⟨λo=> ?_,trivial⟩
   obtain⟨c,d,a,sl⟩:=o
   cases a<;>exact⟨rfl,λz=>z⟩
  ·exact trivial
 ·exact trivial
def xK (f) (b):KD (entryPlaceOf f b):=by
 refine KD.bind (λo=> ?_) λ_=>trivial
 split<;>exact trivial
def QU (a b c d e) (p):KD (EntryCells.newEntry a b c d e p):=by
 have g: ∀f:Array Value,KD (if f.size>sizeLine+2 then do
  unsupported "record:memory"
  else newObjAsIs (Value.type "traceback") (Data.fields f)):=fun f=>by
  split
  ·exact trivial
  ·unfold newObjAsIs
   exact λ_=>trivial
 exact g _
theorem ZX: ∀l:List Env,KD (readyFrames l)
 | []=>trivial
 | env::outer=>by
  unfold readyFrames
  split
  ·refine KD.bind (λo=> ?_) λ_=>trivial
   refine XT trivial ?_
   refine KD.bind (λi=> ?_) ?_
   ·refine KD.bind (λb=> ?_) ?_
    ·refine KD.bind (λ_=>ZX outer) ⟨λo=>⟨rfl,λz=> ?_⟩,trivial⟩
     obtain⟨c,d,a,sl⟩:=o
     cases a<;>exact z
    ·unfold keptBack
     split
     ·refine XT trivial ?_
      refine KD.bind (λ_=> trivial) ?_
      exact λ_=>trivial
     ·exact trivial
   ·unfold behindIsImport
    refine XT trivial (XT trivial ?_)
    exact KD.bind (λ_=> trivial) (Zy _ _)
  ·exact trivial
def j8 (env):KD (PySem.frameOf env):=by
 refine KD.bind (λl=> ?_) λ_=>trivial
 refine KD.bind (λo=> ?_) ?_
 ·split<;>exact trivial
 ·unfold frameObject
  split
  ·exact trivial
  ·exact KD.bind (λ_=> trivial) (ZX _)
def jab (e) (env):KD (noteFrame e env):=by
 unfold noteFrame
 split
 ·refine KD.bind (λf=> ?_) (Zy _ _)
  have d:KD (do setField e 1 (← EntryCells.newEntry f (← PySem.frameOf env) .none (rawInt ‹Addr›) .none (← entryPlaceOf ‹Addr› (f != .none)))):=
   KD.bind (λa=>KD.bind (λb=>KD.bind (λc=>Xs _ _ _) (QU _ _ _ _ _ _)) (xK _ _)) (j8 env)
  refine XT ?_ d
  refine KD.bind (λx=> ?_) (Zy _ _)
  refine XT trivial ?_
  exact KD.bind (λ_=>d) (Xs _ _ _)
 ·exact trivial
def wA (e) (f):KD (setFlight e f):=by
 refine KD.bind (λx=> ?_) (Zy _ _)
 exact XT (Xs _ _ _) trivial
def ZF (env) (e):KD (leaving env e):=KD.bind (λ_=>wA e u0) (jab e env)
def ObjOk.there (x:ObjOk P w H h a o): ∃u,h.get? a=y0 u:=by
 cases o with
 | lst c=>exact⟨_,x.2.choose_spec.choose_spec.2⟩
 | tup c=>obtain⟨_,_,_,u,e,_⟩:=x;exact⟨u,e⟩
 | dK b=>obtain⟨_,_,_,_,u,_,_,e,_⟩:=x;exact⟨u,e⟩
 | dT b=>obtain⟨_,_,_,_,u,_,_,e,_⟩:=x;exact⟨u,e⟩
 | set S n=>obtain⟨u,_,_,_,e,_⟩:=x;exact⟨u,e⟩
 | ins C l fs=>obtain⟨_,_,_,e,_⟩:=x;exact⟨_,e⟩
 | own y=>exact x
 | xd fs=>obtain⟨_,⟨u,_,_,e,_⟩,_⟩:=x;exact⟨u,e⟩
 | rng d g=>obtain⟨_,_,_,e⟩:=x;exact⟨_,e⟩
 | frz k u=>exact⟨_,x.1⟩
 | tbl i=>exact⟨_,show h.get? a=y0 _ from x⟩
 | met f y=>exact⟨_,show h.get? a=y0 _ from x⟩
 | ext j=>exact x.2.1
noncomputable def qdL (P:Program) (w:World):zd0:=λouter H s E e s'=> ∃(x C t:Addr) (B:Heap) (H':Hp) (a:Option Addr),e= .ref x/\s'.os=s.os/\AllBare s'.gens ∧
 Al3 B outer x (.ref C) (.ref t) s'.heap/\Un (qdG outer) [] H H' s.heap s'.heap/\HOk P w H' s'.heap ∧
 (∀ b o,s'.heap.get? b=y0 o->((∃ u,H' b=y0 u)\/ ∃u,s.heap.get? b=y0 u)->b∉qdG outer->B.get? b=y0 o)/\s.heap.get? x=u0/\(∀ dx,a=y0 dx-> ∃o,s'.heap.get? x=y0 o/\o.dict=y0 dx)/\E (.ref C) a H'
noncomputable def xS (C t:Addr) (a:Option Addr):Obj:= { cls:= .ref C,dict:=a,data:= .fields #[.ref t,.none,.none,.none,.bool y9,.none] }
section
variable {P:Program}{w:World}{K:Frag}{mg:Str->Option Value}{base:Heap}{N:List Str}{y8:Str}{scope:Scope}{f:Addr}{cd:Value}{A:Around}{outer:List Env}{s:Shared}{H:Hp}{E:XK}
def JE (I:Inv (zM (qdL P w) P w K mg base N y8 scope f cd A outer s H E) k8 U H1 s2)
 (he:s2.heap.get? e=y0 (xS C t od)) (new:s.heap.get? e=u0) (h0:H1 e=u0) (q:E (.ref C) od H1):(zM (qdL P w) P w K mg base N y8 scope f cd A outer s H E).xe (.ref e) s2:=by
 have ff:=I.stack
 have fb0:=funFrames_hide (as:=e::qdG (envOfC y8 scope s.heap.objs.size f cd::outer)) ff λenv he a ha=>Aa2 _ (An7.mpr ⟨env,he,ha⟩)
 have free:=I.stkFree
 have fe:e∉qdG (envOfC y8 scope s.heap.objs.size f cd::outer):=λhm=>by
  obtain⟨_,o,ho,nf⟩:=ff.mem hm
  rw [he]at ho
  cases ho
  exact nf _ rfl
 refine wpAny_mono (zL (ZF _ _) (wpAny_leaving_firstW (E:=λ_ _=>False)
  (Q:=λ_ s'=>Heap.LeftW (hideAll s2.heap (e::qdG (envOfC y8 scope s.heap.objs.size f cd::outer))) (envOfC y8 scope s.heap.objs.size f cd::outer) e (.ref C) (.ref t) s2.heap s'.heap/\s'= { s2 with heap:=s'.heap })
  I.ok.frames fb0 rfl he (λb o z=>of_hideAll _ z) (hideAll_none _ (Aa3 ..)) rfl rfl rfl λh' hL=>⟨hL,rfl⟩)) (λ_ s' ⟨⟨hL,hs⟩,dk⟩=> ?_) (λ_ _ z=>z.1.elim)
 obtain⟨k1,k2,k3,x4⟩:=hL
 obtain⟨h2,g2,d2,t2,o2⟩:=s'
 simp only [Shared.mk.injEq]at hs
 obtain⟨-,rfl,rfl,rfl,rfl⟩:=hs
 have inB: ∀b o,s2.heap.get? b=y0 o->b≠e->b∉qdG (envOfC y8 scope s.heap.objs.size f cd::outer)->(hideAll s2.heap (e::qdG (envOfC y8 scope s.heap.objs.size f cd::outer))).get? b=y0 o:=λb o z ne n=>hideAll_get _ z (by rw [Ab4];exact λq=>q.elim ne n)
 have toH: ∀b o,s2.heap.get? b=y0 o->b≠e->b∉qdG (envOfC y8 scope s.heap.objs.size f cd::outer)->h2.get? b=y0 o:=λb o z ne n=>k1 b o (inB b o z ne n)
 have slotH: ∀b o,b∈qdG (envOfC y8 scope s.heap.objs.size f cd::outer)->s2.heap.get? b=y0 o-> ∃sl,h2.get? b=y0 { o with slots:=sl }:=λb o hb z=>by
  obtain⟨_,o',z',nf⟩:=ff.mem hb
  rw [z]at z'
  cases z'
  exact x4 b o z nf
 have cut: ∀b,b∉qdG outer->b≠s.heap.objs.size->b∉qdG (envOfC y8 scope s.heap.objs.size f cd::outer):=λb n1 n2 hb=>by
  rcases Ab4.mp (show b∈s.heap.objs.size::qdG outer from hb)with z | z
  ·exact n2 z
  ·exact n1 z
 have old: ∀b o,s.heap.get? b=y0 o->b≠s.heap.objs.size:=λb o z=>Ac3 (Ab5 z)
 have olde: ∀b o,s.heap.get? b=y0 o->b≠e:=λb o z q=>by rw [q,new]at z;cases z
 have qd0: ∀b u,H1 b=y0 u->b≠e/\b∉qdG (envOfC y8 scope s.heap.objs.size f cd::outer):=λb u z=>⟨λq=>(by rw [q,h0]at z;cases z),λhb=>(by rw [free b hb]at z;cases z)⟩
 refine⟨e,C,t,_,H1,od,rfl,I.os,I.bare,⟨k1,hideAll_none _ (Aa3 ..),k2.2.2,k3⟩,⟨λb o z n hb hx=> ?_,λb o z n hb hx=> ?_,I.base.free,λb o z hx=> ?_,I.base.tups,I.base.frzs,I.base.tbls⟩,λb u z=> ?_,λb o z hc hb=> ?_,new,λdx z=> ?_,q⟩
 ·exact toH b o (I.base.keep b o z n hb hx) (olde b o z) (cut b hb (old b o z))
 ·obtain⟨sl,z1⟩:=I.base.slot b o z n hb hx
  obtain⟨sl2,z2⟩:=slotH b _ (Aa2 _ hb) z1
  exact⟨sl2,z2⟩
 ·obtain⟨o',z1⟩:=I.base.there b o z hx
  by_cases hb:b∈qdG (envOfC y8 scope s.heap.objs.size f cd::outer)
  ·obtain⟨sl,z2⟩:=slotH b o' hb z1
   exact⟨_,z2⟩
  ·exact⟨o',toH b o' z1 (olde b o z) hb⟩
 ·refine(I.hok b u z).stay (λc v hc z1=> ?_) (λ_ z1=>z1) λ_ _ z1=>z1
  rcases hc with rfl | hc
  ·exact toH c v z1 (qd0 c u z).1 (qd0 c u z).2
  ·exact toH c v z1 (qd0 c _ hc).1 (qd0 c _ hc).2
 ·have two: ∃o2,s2.heap.get? b=y0 o2/\b≠e/\b∉qdG (envOfC y8 scope s.heap.objs.size f cd::outer):=by
   rcases hc with⟨u,hu⟩ | ⟨u,hu⟩
   ·obtain⟨o2,z2⟩:=(I.hok b u hu).there
    exact⟨o2,z2,qd0 b u hu⟩
   ·obtain⟨o2,z2⟩:=I.base.there b u hu (by show b∉([]:List Addr);simp)
    exact⟨o2,z2,olde b u hu,cut b hb (old b u hu)⟩
  obtain⟨o2,z2,nb⟩:=two
  have z3:=toH b o2 z2 nb.1 nb.2
  rw [show h2.get? b=y0 o from z]at z3
  cases z3
  exact inB b _ z2 nb.1 nb.2
 ·obtain⟨o',e1,e2⟩:=dk e _ he
  exact⟨o',e1,e2.trans z⟩
def xT (I:Inv (zM (qdL P w) P w K mg base N y8 scope f cd A outer s H E) k8 U H1 s2)
 (b:Heap.MadeExcOf s2.heap h' e (.ref C) vs) (q:E (.ref C) u0 H1):(zM (qdL P w) P w K mg base N y8 scope f cd A outer s H E).xe (.ref e) { s2 with heap:=h' }:=by
 obtain⟨t,d,_⟩:=b.there
 refine JE (I.kept b.keeps) d ?_ ?_ q
 ·cases z:s.heap.get? e with
  | none=>rfl
  | some u=>
   obtain⟨c,a⟩:=I.base.there e u z (by show e∉ [];simp)
   rw [b.new]at a
   cases a
 ·cases z:H1 e with
  | none=>rfl
  | some u=>
   obtain⟨c,a⟩:=(I.hok e u z).there
   rw [b.new]at a
   cases a
end
def xaR {K:Frag}(X:K.In h) (q:excIn K C bmB newId=k9):
 ∃j f nm e bs b sn sub ab col dd k0 k1 k2 k3 k5 mN,h.get? C=some (excClassObj nm e C f bs j b sn sub ab col dd k0 k1 k2 k3 k5 newId)/\h.Ns f mN/\mN "__init__" =none/\OwnTail h bmB j:=by
 unfold excIn at q
 split at q
 next dd cd sl o=>
  split at q
  next t m k0 k1 k2 k3 nn k5 i p=>
   simp only [Aa7,beq_iff_eq,Ao]at q
   obtain⟨⟨⟨⟨⟨rfl,rfl⟩,k⟩,s⟩,d⟩,g⟩:=q
   obtain⟨nm,bs,r,c,e,b,sn,sub,ab,col,n⟩:=cd
   dsimp only at i k d g
   subst i k
   have a:sl= #[k0,k1,k2,k3,y0 (.builtin nn),k5]:=by
    cases sl with
    | mk l=>exact congrArg Array.mk p
   subst a
   exact⟨m,c,nm,e,bs,b,sn,sub,ab,col,dd,k0,k1,k2,k3,k5,_,X _ _ o,.of_isNs (isNs_of_in X d),nsMap_none_of_in X d g,tail_of_in X s⟩
  next=>cases q
 next=>cases q
section
variable {P:Program}{w:World}{K:Frag}{mg:Str->Option Value}{base:Heap}{N:List Str}{y8:Str}{scope:Scope}{f:Addr}{cd:Value}{A:Around}{outer:List Env}{s:Shared}{H:Hp}{E:XK}
abbrev wu:List Value:= [.type "ValueError",.type "Exception",.type "BaseException",.type "object"]
def xbm (C:Addr) (E:XK) (t:TA):TS:=λ_ U H=>t U H λa H1=>a.length<=sizeLine/\E (.ref C) u0 H1
def xaW (Z:excIn K C wu "ValueError.__new__" =true) (O:mg x=some (.ref C)) (hg:Gl (zM (qdL P w) P w K mg base N y8 scope f cd A outer s H E) x)
 (M:PA (zM (qdL P w) P w K mg base N y8 scope f cd A outer s H E) (e::es) t)
 (n:starEach (e::es) (envOfC y8 scope s.heap.objs.size f cd)=(y9,eval e (envOfC y8 scope s.heap.objs.size f cd))::starEach es (envOfC y8 scope s.heap.objs.size f cd):=by rfl)
 (l:(backTo k7 (starEach es (envOfC y8 scope s.heap.objs.size f cd))).any (·.1)=false:=by rfl) (Q:(x==("__debug__" :Str))=false:=by decide):
 PS (zM (qdL P w) P w K mg base N y8 scope f cd A outer s H E) (.Raise (y0 (.Call (.Name x np) (e::es) [] k7)) u0 pos) (xbm C E t):=by
 intro c j U J D I h
 obtain⟨bm,L,p,W,bs,k,B,sub,u,d,dd,r,G,v,y,o,F,X,S,m,T⟩:=xaR I.mod.kin Z
 refine wpAny_Raise_call_subT (nm:=p) (q:=W) (N:=L) (bs:=bs) (hdct:=k) (sn:=B) (sub:=sub) (ab:=u) (col:=d) (dd:=dd) (k0:=r) (k1:=G) (k2:=v) (k3:=y) (k5:=o)
  PySem.F.excBase_ValueError (mN:=F) (T.hasType PySem.F.excBase_ValueError.hasBase) (I.ok.hd rfl) ?_ m (xv I hg O ⟨rfl,?_⟩ Q)
 ·show(backTo k7 (starEach (e::es) (envOfC y8 scope s.heap.objs.size f cd))).any (·.1)=y9
  rw [n]
  show(y9||(backTo k7 (starEach es (envOfC y8 scope s.heap.objs.size f cd))).any (·.1))=y9
  rw [l]
  rfl
 ·have hA:=M k7 c j U J _ I h
  show wpAny (model P w) _ (evalArgs (.ref C) k9 (backTo k7 (starEach (e::es) (envOfC y8 scope s.heap.objs.size f cd))) []) _ _ j
  have b:wpAny (model P w) (A.deeper (envOfC y8 scope s.heap.objs.size f cd)) (spliced (backTo k7 (starEach (e::es) (envOfC y8 scope s.heap.objs.size f cd)))) _ _ j:=hA
  rw [n]at b ⊢
  exact Calls.evalArgs_plain (zdv b λR s2 ⟨vs,H2,g,Y,z,V⟩=>⟨rfl,by show R.length<=sizeLine;rw [← Y.length];exact z,g.bk _ _ X,S.keeps g.bk,T.keeps g.bk,λh' a i=>xT g i V⟩)
def Fun.okX {st:Stmt}(F:Fun K x y8 st f fd) (S:Qp N ps (Qb st)) (len: ∀b H Q E,sp b H Q E->b.length=ps.length)
 (c: ∀ a A outer s H b Q E,Room k (A.deeper (envOfC y8 (Qb st) s.heap.objs.size f a))->sp b H Q E →
   ∃t,PSs (zM (qdL P w) P w K mg base N y8 (Qb st) f a A outer s H E) (Je st) t/\t { nx:=λ_ H'=>Q .non H',rt:=Q } (start N b) H):FnOk P w K mg base (qdL P w) (k+1) f fd ps sp:=by
 obtain⟨m,n,kV,i,pm,o,a,l,g,rfl,j,d⟩:=F.ex
 exact xcN j d S len λA outer s H b Q E h e=>c a A outer s H b Q E h e
def jcZ:PassesOwn (model P w) (A.deeper (envOfC y8 scope s.heap.objs.size f cd)) (envOfC y8 scope s.heap.objs.size f cd) (zM (qdL P w) P w K mg base N y8 scope f cd A outer s H E).xe:=
 PassesOwn.leaving
end
section
variable {X:Cx}{k8:List (Addr×Obj)}{U:St}{H:Hp}{s:Shared}
def Inv.reframe (I:Inv X k8 U H s) (d:Aj8 X.env.locals s.heap h') (m:h'.Ns X.env.locals m')
 (l: ∀(i:Nat) (x:Str) (v:V),X.N[i]? =y0 x->U'[i]? =y0 (y0 v)->zdy X.env.scope x-> ∃u,RelV v u/\zc3 X.env h' m' x u) (len:U'.length=X.N.length):Inv X k8 U' H { s with heap:=h',toks:=t' }:=by
 have a: ∀b o,X.s₀.heap.get? b=y0 o->b≠X.env.locals:=λb o e=>Ac3 (Ab0 (Ab5 e) I.ok.above)
 refine⟨I.ok,I.os,I.bare,⟨λb o e n j g=>(d.2 b (a b o e)).trans (I.base.keep b o e n j g),λb o e n j g=> ?_,I.base.free,λb o e g=> ?_,I.base.tups,I.base.frzs,I.base.tbls⟩,⟨m',m,l⟩,λy c e=> ?_,I.free,I.freeC,λp t=> ?_,λb u e=> ?_,len⟩
 ·obtain⟨sl,k⟩:=I.base.slot b o e n j g
  exact⟨sl,(d.2 b (a b o e)).trans k⟩
 ·obtain⟨q,k⟩:=I.base.there b o e g
  exact⟨q,(d.2 b (a b o e)).trans k⟩
 ·obtain⟨v,z⟩:=I.cell y c e
  exact⟨v,z.sameBut d (I.cne y c e)⟩
 ·obtain⟨e,n,ne,r⟩:=I.pin p t
  exact⟨(d.2 p.1 ne).trans e,n,ne,r⟩
 ·refine(I.hok b u e).stay (λc v f z=>(d.2 c ?_).trans z) (λ_ z=>z) λ_ _ z=>z
  intro h
  rcases f with f | f
  ·rw [← f,h,I.free]at e;cases e
  ·rw [h,I.free]at f;cases f
def Inv.adoptO (I:Inv X k8 U H s) (t:H D=u0) (h1:D≠X.env.locals) (l: ∀x c,X.env.cells.lookup x=y0 c->c≠D) (i: ∀p∈X.pn++k8,p.1≠D) (d: ∀b u,X.s₀.heap.get? b=y0 u->b≠D)
 (new:ObjOk X.prog X.w (zdL H D o) s.heap D o):Inv X k8 U (zdL H D o) s:=by
 have a: ∀b u,H b=y0 u->zdL H D o b=y0 u:=λb u q=>by rw [qa (Xa q t)];exact q
 refine⟨I.ok,I.os,I.bare,⟨I.base.keep,I.base.slot,λb u e n j=> ?_,I.base.there,λb f q=>a b _ (I.base.tups b f q),λb u v q=>a b _ (I.base.frzs b u v q),λb m q=> ?_⟩,I.loc,I.cell,?_,λx c q=> ?_,λp h=> ?_,λb u q=> ?_,I.len⟩
 ·rw [qa (d b u e)];exact I.base.free b u e n j
 ·obtain⟨more,r⟩:=I.base.tbls b m q
  exact⟨more,a b _ r⟩
 ·rw [qa (Ne.symm h1)];exact I.free
 ·rw [qa (l x c q)];exact I.freeC x c q
 ·obtain⟨k,a2,a3⟩:=I.pin p h
  exact⟨k,by rw [qa (i p h)];exact a2,a3⟩
 ·by_cases g:b=D
  ·subst g
   rw [xb]at q
   cases q
   exact new
  ·rw [qa g]at q
   exact(I.hok b u q).stay (λ_ _ _ z=>z) (λc z=>a c _ z) λc f z=>a c _ z
def qaH (I:Inv X k8 U H s) (B:X.N.Nodup) (q:X.N[i]? =y0 n) (p:X.env.scope.names.lookup n=y0 .local)
 (h: ∀s',Inv X k8 (U.set i u0) H s'->Q () s'):wpAny M A (do bindName X.env n .none;unbindBehindTheSuite X.env n hp) Q E s:=by
 have o:(X.env.scope.kind== .class||(X.env.scope.kind== .module&&X.env.locals != X.env.globals))=false:=by rw [I.ok.kind];rfl
 have C:X.env.kindOf n=y0 .local:=p
 have f:i<U.length:=by rw [I.len];exact(Ac1.mp q).1
 refine wpAny_bind (wpAny_bindName (Zq I B q (.inl p) (v:= .non) rfl (λK w=> ?_) (.inr p)))
 obtain⟨m,hn,a⟩:=w.loc
 have d:(m n).isSome=true:=by
  obtain⟨u,_,l⟩:=a i n .non q (Ad6 f) (.inl p)
  rcases l with⟨_,e⟩ | ⟨z,_⟩
  ·rw [e];rfl
  ·rcases z with z | z<;>(rw [C]at z;cases z)
 refine wpAny_onRaise ?_
 refine wpAny_bind (wpAny_point (wpAny_bind ?_))
 unfold deleteName
 simp only [C,o]
 refine wpAny_bind (wpAny_nsDel_keeps hn λJ v x g=> ?_)
 rw [d]
 refine wpAny_pure (wpAny_point (h _ ?_))
 refine w.reframe g x (λj y F D t G=> ?_) (by rw [Ae3];exact I.len)
 have b:j≠i:=λz=>by
  subst z
  rw [Ad6 f]at t
  cases t
 rw [Ad5 (Ne.symm b)]at t
 obtain⟨u,r,l⟩:=a j y F D (by rw [Ad5 (Ne.symm b)];exact t) G
 refine⟨u,r,?_⟩
 rcases l with⟨k,e⟩ | ⟨k,c,e,z⟩
 ·refine .inl ⟨k,?_⟩
  have:y≠n:=λe=>b (qI B D (e▸q))
  simp [this,e]
 ·exact .inr ⟨k,c,e,z.sameBut g (w.cne y c e)⟩
end
def ZV {K:Frag}(X:K.In s.heap) (I:ExcAt s.heap x C) (z:kitCls K (.ref C) (.ref W)=some true) (f:mroIn K W (.type "BaseException")=some true) (d:Q true s):
 wpAny (model prog w) A (excMatches (.ref x) (.ref W)) Q E s:=by
 obtain⟨a,m,dd,j,l⟩:=s
 obtain⟨e,c,k⟩:=kit_cls X z
 have b:=looks_mroIn (M:=model prog w) X f
 have g:=I.type (M:=model prog w)
 have h:Looks (model prog w) a (isInstance (.ref W) (.type "tuple")) false:=e.andThen (Looks.of_pure tc_notTuple)
 have i:Looks (model prog w) a (isExcClass (.ref W)) true:=c.andThen b
 repeat lk
 exact d
def QT {i s':Shared}(j:Inv X k8 U H1 i) (s:s'.os=i.os) (f:AllBare s'.gens) (un:Un (qdG X.stack) [] H1 H' i.heap s'.heap) (q:HOk X.prog X.w H' s'.heap)
 (comp: ∀b o,s'.heap.get? b=y0 o->((∃ u,H' b=y0 u)\/ ∃u,i.heap.get? b=y0 u)->b∉qdG X.stack->B.get? b=y0 o) (g:Al3 B X.stack x (.ref C) (.ref t) h6) (r:s'.heap.UpToSlots h6):Inv X k8 U H' { s' with heap:=h6 }:=by
 have qd0: ∀c u,H' c=y0 u->c∉qdG X.stack:=λc u z d=>by
  obtain⟨_,o,e,_⟩:=j.stack.mem d
  have:=un.free c o e (j.stkFree c d) (by simp)
  rw [this]at z
  cases z
 refine j.call' (s':= { s' with heap:=h6 }) (ch:= []) s ⟨λb o e n a h=> ?_,λb o e n a h=> ?_,un.free,λb o e h=> ?_,un.tups,un.frzs,un.tbls⟩ (λb u e=> ?_) f λb a=>absurd a (by simp)
 ·exact g.1 b o (comp b o (un.keep b o e n a h) (.inr ⟨o,e⟩) a)
 ·obtain⟨sl,p⟩:=un.slot b o e n a h
  obtain⟨_,k,l,A⟩:=j.stack.mem a
  rw [e]at l
  cases l
  obtain⟨m,w⟩:=r b _ p A
  exact⟨m,w⟩
 ·obtain⟨k,p⟩:=un.there b o e h
  by_cases a:b∈qdG X.stack
  ·obtain⟨_,y,l,_⟩:=g.2.2.1.mem a
   exact⟨y,l⟩
  ·exact⟨k,g.1 b k (comp b k p (.inr ⟨o,e⟩) a)⟩
 ·refine(q b u e).stay (λc v d z=> ?_) (λ_ z=>z) λ_ _ z=>z
  rcases d with rfl | d
  ·exact g.1 c v (comp c v z (.inl ⟨u,e⟩) (qd0 c u e))
  ·exact g.1 c v (comp c v z (.inl ⟨_,d⟩) (qd0 c _ d))
def qV {R:Heap->Prop}(k:KD t) (h: ∀a:Unit->Shared->Prop,(∀ h',R h'->a () { s with heap:=h' })->wpAny M A t a E s) (g: ∀h',R h'->DK s.heap h'->Q () { s with heap:=h' }):wpAny M A t Q E s:=
 wpAny_mono (zL k (h (λ_ b=> ∃h',b= { s with heap:=h' }/\R h') λh' r=>⟨h',rfl,r⟩)) (λ_ b ⟨⟨h',e,r⟩,c⟩=>by subst e;exact g h' r c) (λ_ _ z=>z.1)
noncomputable def zdh (K:Frag) (W:Addr) (c:Sp) (t:TA) (b d:Nat):TS:=λD U H=>t U H λf H1=>c f H1 (λ_ H2=>D.nx U H2) λa e H2=> ∃C,a= .ref C/\ja0 K C/\kitCls K (.ref C) (.ref W)=y0 k9 ∧
 ∀x,H2 x=u0->D.nx (((U.set b (y0 (.ref x))).set d (y0 (.ref x))).set b u0) (zdL H2 x (jW x C e))
def jaz 
 (g:X.stack=X.env::X.outer) (hf:X.env.frame=some X.env.locals) (hex:X.ex= []) (hW:Gl X wx) (hmW:X.mg wx=some (.ref W)) (hbW:mroIn X.K W (.type "BaseException")=some true) (hN:X.N.Nodup) (i:X.N[M]? =some n) (f:X.env.scope.names.lookup n=some .local)
 (hiv:X.N[iv]? =some v) (E:X.env.scope.names.lookup v=some .local) (hs2:swapsWith (.Name n np) (some (.Name v vp)) ap.line X.env=pure false) (hdW:(wx==("__debug__" :Str))=false) (hdn:(n==("__debug__" :Str))=false)
 (h:Inv X k8 U H1 s1) (hq:qdL X.prog X.w X.stack H1 s1 (λO V H2=> ∃C,O= .ref C/\ja0 X.K C/\kitCls X.K (.ref C) (.ref W)=y0 k9 ∧
   ∀x,H2 x=u0->D.nx (((U.set M (y0 (.ref x))).set iv (y0 (.ref x))).set M u0) (zdL H2 x (jW x C V))) ev s'):
 wpAny (model X.prog X.w) X.A (noteFrame ev X.env) (λ_ s2=>wpAny (model X.prog X.w) X.A (setFlight ev u0) (λ_ s3=>wpAny (model X.prog X.w) X.A (handleBy ev X.env [.ExceptHandler (y0 (.Name wx wp)) (y0 n) [.Assign [.Name v vp] (.Name n np) ap] hp]) (SP X k8 D) X.xe s3) X.xe s2) X.xe s':=by
 obtain⟨x,s,N,B,H',V,rfl,os,j,fl,un,q,comp,new,dic,C,hC,Z,kc,q2⟩:=hq
 cases hC
 have hfr:X.A.frames=y0 (X.env::X.outer):=by rw [← g];exact h.ok.frames
 have fl0:Al3 B (X.env::X.outer) x (.ref s) (.ref N) s'.heap:=by rw [← g];exact fl
 refine qV (R:=λt=>Heap.HeldW B (X.env::X.outer) x (.ref s) (.ref N) X.env.locals t/\s'.heap.UpToSlots t) (jab _ _) (λQ' k=>wpAny_looks_onW hfr hf fl0 λt a b=>k t ⟨a,b⟩) ?_
 rintro t ⟨L,H⟩ dk4
 refine qV (R:=λl=>Al3 B (X.env::X.outer) x (.ref s) (.ref N) l/\t.UpToSlots l) (wA _ _) (λQ' k=>wpAny_landsW L λl a b=>k l ⟨a,b⟩) ?_
 rintro l ⟨r,K⟩ dk5
 have G:=QT h os j un q comp (by rw [g];exact r) (H.trans K)
 have S:ExcAt l x s:=r.there
 refine wpAny_handleBy_cons (codeAny_handlers_test (Calls.Name_function_global G.ok.kind hW (Calls.loadGlobal_global (by rw [G.ok.glob];exact G.mod.glob.keeps G.bk) hmW ?_) hdW)) (λz=>nomatch z)
 refine ZV G.kIn S kc hbW ?_
 refine codeAny_handlers_suite_as ?_
 refine qV (R:=λw=>Al3 B (X.env::X.outer) x (.ref s) (.ref N) w/\l.UpToSlots w) (wA _ _) (λQ' k=>lands_againW r λw a b=>k w ⟨a,b⟩) ?_
 rintro w ⟨F,Y⟩ P
 have I6:=QT h os j un q comp (by rw [g];exact F) ((H.trans K).trans Y)
 have I:H' x=none:=by
  cases z:H' x with
  | none=>rfl
  | some u=>
   obtain⟨o,e1⟩:=(q x u z).there
   have nf:x∉qdG X.stack:=λhx=>by
    obtain⟨_,o2,e2,_⟩:=h.stack.mem hx
    rw [new]at e2
    cases e2
   have e3:=comp x o e1 (.inl ⟨u,z⟩) nf
   rw [fl.2.1]at e3
   cases e3
 have d: ∀b o,s1.heap.get? b=y0 o->b≠x:=λb o z e=>by rw [e,new]at z;cases z
 obtain⟨o6,vs6,e6,c6,d6,_⟩:=F.first
 have I7:Inv X k8 U (zdL H' x (jW x s V)) { s' with heap:=w }:=by
  refine I6.adoptO I (λz=> ?_) (λy c z=> ?_) (λp hp=> ?_) (λb u z=> ?_) (jb0 e6 c6 (by unfold notCls;rw [d6]) λdx z=> ?_)
  ·obtain⟨m,⟨o,_,_,A,_⟩,_⟩:=h.loc
   exact d _ o A z.symm
  ·obtain⟨_,o,A,_⟩:=h.cell y c z
   exact d c o A
  ·exact d p.1 _ (h.pin p hp).1
  ·obtain⟨o,A⟩:=h.base.there b u z (by rw [hex];simp)
   exact d b o A
  ·obtain⟨o,e0,d0⟩:=dic dx z
   obtain⟨o',e1,d1⟩:=((dk4.trans dk5).trans P) x o e0
   have:=e6.symm.trans e1
   cases this
   exact d1.trans d0
 refine Zq I7 hN i (.inl f) (v:= .ref x) rfl (λs8 T=> ?_) (.inr f)
 have hiU:M<U.length:=by rw [h.len];exact(Ac1.mp i).1
 obtain⟨m8,hn8,hl8⟩:=T.loc
 obtain⟨u8,r8,l8⟩:=hl8 M n (.ref x) i (Ad6 hiU) (.inl f)
 cases r8
 have J:X.env.kindOf n=y0 .local:=f
 have em:m8 n=y0 (.ref x):=by
  rcases l8 with⟨_,z⟩ | ⟨z,_⟩
  ·exact z
  ·rcases z with z | z<;>(rw [J]at z;cases z)
 refine wpAny_execs_cons (wpAny_Assign_Name (wpAny_Name (wpAny_loadName_local T.ok.kind J hn8 em ?_) hdn) hs2)
 refine Zq T hN hiv (.inl E) (v:= .ref x) rfl (λs9 I9=> ?_) (.inr E)
 refine wpAny_execs_nil ?_
 exact qaH I9 hN i f λs10 Q=>⟨_,_,Q,q2 x I⟩
noncomputable def TrySet (X:Cx) (d n v:Str) (g j f e k:Pos) (st:Stmt) (t:TS):Prop:=
 ∀(k8:List (Addr×Obj)) (s:Shared) (U:St) (H:Hp) (D:xbp) (b:Flow->Shared->Prop),Inv X k8 U H s->t D U H->(∀ s c H',Inv X k8 c H' s->D.nx c H'->b .next s) →
  wpAny (model X.prog X.w) X.A (execs [st] X.env) b (λa s'=>wpAny (model X.prog X.w) X.A (noteFrame a X.env) (λ_ h=>wpAny (model X.prog X.w) X.A (setFlight a u0) (λ_ i=>wpAny (model X.prog X.w) X.A (handleBy a X.env [.ExceptHandler (y0 (.Name d g)) (y0 n) [.Assign [.Name v j] (.Name n f) e] k]) (SP X k8 D) X.xe i) X.xe h) X.xe s') s
def qa2 
 (hX: ∀a b, ¬X.xe a b) (x:X.stack=X.env::X.outer) (hf:X.env.frame=y0 X.env.locals) (E:X.ex= []) (F:FnOk X.prog X.w X.K X.mg X.base (qdL X.prog X.w) k f fd ps sp) (O:Room k X.A) (hg:Gl X fx) (T:X.mg fx=y0 (.ref f))
 (hk:keepIn X.K (.ref f)=true) (Y:Binds X.K fd ps []) (P:PA X (e::es) t) (hW:Gl X wx) (m:X.mg wx=some (.ref W)) (w:mroIn X.K W (.type "BaseException")=some true) (Z:X.N.Nodup) (G:X.N[ie]? =some n) (K:X.env.scope.names.lookup n=some .local)
 (j:X.N[iv]? =y0 v) (B:X.env.scope.names.lookup v=y0 .local)
 (R:swapsWith (.Call (.Name fx p) (e::es) [] cp) u0 ep.line X.env=pure false:=by rfl) (l:swapsWith (.Name n np) (y0 (.Name v vp)) ap.line X.env=pure false:=by rfl)
 (C:(fx==("__debug__" :Str))=false:=by decide) (J:(wx==("__debug__" :Str))=false:=by decide) (o:(n==("__debug__" :Str))=false:=by decide) (Q:starEach (e::es) X.env=(false,eval e X.env)::starEach es X.env:=by rfl) (A:(backTo cp (starEach es X.env)).any (·.1)=false:=by rfl):
 TrySet X wx n v wp vp np ap hp (.Expr (.Call (.Name fx p) (e::es) [] cp) ep) (zdh X.K W sp t ie iv):=by
 intro c s U H D Qn I h M
 refine wpAny_execs_cons (wpAny_Expr_any ?_ I.quiet R)
 refine wpAny_Call_Name_kw (xv I hg T ?_ C)
 refine callWith_K (h₀:=X.base) I.ok.mod.kin hk (wpAny_mono (P cp c s U H _ I h) (λi L ⟨vs,N,d,r,q⟩=>⟨d.kIn,?_⟩) λ_ _ z=>(hX _ _ z).elim) Q A
 have hl:(i++ []).length=ps.length:=by rw [Ae7,←r.length];exact F.len _ _ _ _ q
 refine wpAny_call (codeAny_mono (F.run X.A X.stack L N ⟨i,[]⟩ (i++ []) vs _ _ O d.env0 (Y L i d.kIn hl) (by rw [Ae7];exact r) q) λres s' g=> ?_)
 cases res with
 | ok V=>
  cases V with
  | ret u=>
   obtain⟨y,H2,S,_,q2⟩:=d.after g
   exact wpAny_execs_nil (M _ _ _ S q2)
  | next=>exact False.elim g
  | brk=>exact False.elim g
  | cont=>exact False.elim g
 | error ev=>exact jaz x hf E hW m w Z G K j B l J o d g
def xb4 (h1:TrySet X wx n v wp vp np ap hp a t):PS X (.Try [a] [.ExceptHandler (y0 (.Name wx wp)) (y0 n) [.Assign [.Name v vp] (.Name n np) ap] hp] [] [] pos) t:=by
 intro b s U H D I h
 exact wpAny_Try_except (h1 b s U H D _ I h λf d e c q=>wpAny_execs_nil ⟨d,e,c,q⟩)
noncomputable def jcC (K:Aa6) (b c:TE):TE:=λU H Q=>b U H λx H1=>c U H1 λy H2=>y= .int (-1)/\ ∃a xs,x= .ref a/\SqL K H2 a xs/\ ∀p,H2 p=u0->Q (.ref p) (zdL H2 p (.lst xs.reverse))
theorem X0: ∀ {xs}{a},Vals xs a->Vals xs.reverse a.reverse
 | _,_,.nil=> .nil
 | _::_,_::_,.cons r t=>by
  rw [Al9,Al9]
  exact(X0 t).append (.cons r .nil)
def jbf {e st:Expr}(t:PE X e te) (D:PE X st tk) (z: ∀l a,subscripted (.Slice u0 u0 (y0 st) p2) y9 l a=operate [l,a] (getItem l a):=by intro l a;with_unfolding_all rfl):PE X (.Subscript e (.Slice u0 u0 (y0 st) p2) pos) (jcC X.K te tk):=by
 intro c s U H Q I h
 refine Subscript_ (zdv (t c s U H _ I h) ?_)
 rintro v o ⟨x,k,A,B,E⟩
 refine wpAny_Slice ?_
 refine wpAny_pure (wpAny_pure ?_)
 refine zdv (D c o U k _ A E) ?_
 rintro K j ⟨y,w,C,G,F⟩
 obtain⟨rfl,a,J,rfl,p,q⟩:=F
 obtain⟨d,rfl⟩:=G
 cases B
 have f:Inv X c U w { j with heap:=j.heap.push { cls:= .type "slice",data:= .fields #[.none,.none,.int (-1) d] } }:=C.kept fun b m q=>Heap.get?_push_of_some _ q
 obtain⟨n,r,g,u⟩:=f.list p
 have i:=r.length
 refine tail_any g.isList.typeIs slot_list_getitem.lookup ?_ (z _ _)
 refine wpAny_getItem_list_slice g.isList (Heap.IsSliceOf.new ..) .none .none (.int (-1) d) (by decide) ?_ (by rw [Aa8]<;>omega)
 rw [krv_pick]
 refine⟨.ref _,_,f.laid (λb m q=>Aa1 _ q) (Aa5 _) ?_,rfl,q _ (f.hok.fresh (Aa5 _))⟩
 exact⟨by rw [List.length_reverse];exact u,_,0,X0 r,Ab6 _ rfl⟩
def FnOk.calm {K:Frag}(F:FnOk P w K mg base (qdL P w) k f fd ps sp)
 (h: ∀b H Q E,sp0 b H Q E->sp b H Q (λ_ _ _=>False)):FnOk P w K mg base jdZ k f fd ps sp0:=by
 refine⟨λb H Q E q=>F.len b H Q _ (h _ _ _ _ q),λA a s H c n b Q E g i m o j=>codeAny_mono (F.run A a s H c n b Q _ g i m o (h _ _ _ _ j)) λres p d=> ?_⟩
 cases res with
 | ok l=>
  cases l with
  | ret u=>exact d
  | next=>exact d
  | brk=>exact d
  | cont=>exact d
 | error v=>
  obtain⟨x,C,t,B,r,_,_,_,_,_,_,_,_,_,_,e⟩:=d
  exact e
def xbV:bootBuiltins "ValueError" =some (.type "ValueError"):=by decide +kernel
noncomputable def qdu (x:Str):It:=⟨λi _=> ∃c,x.cps[i]? =y0 c,λi H y H'=>H'=H/\ ∃c,x.cps[i]? =y0 c/\y= .str ⟨#[c]⟩,λi _=>x.cps[i]? =u0⟩
def W8 {K:PySem.W.Frag}(it) (x) (t):qa6 P w K tg (qdu x) [it] it (λi h=>h.IsStrIter it "str_ascii_iterator" x t i) where
 mem:=by simp
 obj:=λi h a b g=>by
  have e:=by simpa using g
  subst e
  obtain⟨o,e,c,d⟩:=a
  exact⟨o,e,λv z=>by rw [d]at z;cases z⟩
 keep:=λi h m a k=>by
  obtain⟨o,e,c,d⟩:=a
  exact⟨o,k it (by simp) o e,c,d⟩
 item:=by
  intro X hP D G B i f s U H E I l a y
  obtain⟨c,A⟩:=y
  obtain⟨q,r,F,n,u,p⟩:=l it (by simp)
  refine wpAny_pyNext_ascii_item a A λm j L=> ?_
  have J:Inv X f U H { s with heap:=m,toks:=s.toks+1 }:=I.turned (λb o g e=>(L.2 b g).trans e) q r n u p
  obtain⟨o,e,M,d⟩:=id j
  exact⟨_,rfl,Q7 e M d (by decide) ⟨.str ⟨#[c]⟩,H,J,⟨_,rfl⟩,⟨rfl,c,A,rfl⟩,j,λb g=>(l b g).1⟩⟩
 done:=by
  intro X hP D G B i f s U H E I l a y
  obtain⟨q,r,F,n,u,p⟩:=l it (by simp)
  exact wpAny_pyNext_ascii_end (I.ok.hd B) a y λm C=>⟨rfl,I.turned (λb o g e=>C b o g e) q r n u p⟩
 self:=λ_ _ _ _ _ a h=>wpAny_pyIter_striter_ascii a h
def zao {K:PySem.W.Frag}(it) (x) (t):qa6 P w K tg (qdu x) [it] it (λi h=>h.IsStrIter it "str_iterator" x t i) where
 mem:=by simp
 obj:=λi h a b g=>by
  have e:=by simpa using g
  subst e
  obtain⟨o,e,c,d⟩:=a
  exact⟨o,e,λv z=>by rw [d]at z;cases z⟩
 keep:=λi h m a k=>by
  obtain⟨o,e,c,d⟩:=a
  exact⟨o,k it (by simp) o e,c,d⟩
 item:=by
  intro X hP D G B i f s U H E I l a y
  obtain⟨c,A⟩:=y
  obtain⟨q,r,F,n,u,p⟩:=l it (by simp)
  refine wpAny_pyNext_wide_item a A λm j L=> ?_
  have J:Inv X f U H { s with heap:=m,toks:=s.toks+1 }:=I.turned (λb o g e=>(L.2 b g).trans e) q r n u p
  obtain⟨o,e,M,d⟩:=id j
  exact⟨_,rfl,Q7 e M d (by decide) ⟨.str ⟨#[c]⟩,H,J,⟨_,rfl⟩,⟨rfl,c,A,rfl⟩,j,λb g=>(l b g).1⟩⟩
 done:=by
  intro X hP D G B i f s U H E I l a y
  obtain⟨q,r,F,n,u,p⟩:=l it (by simp)
  exact wpAny_pyNext_wide_end (I.ok.hd B) a y λm C=>⟨rfl,I.turned (λb o g e=>C b o g e) q r n u p⟩
 self:=λ_ _ _ _ _ a h=>wpAny_pyIter_striter_wide a h
noncomputable def xdi (K:Aa6) (b:TE):TI:=λU H R=>b U H λx H1=>(∃ a,x= .ref a/\(∃ xs,SqL K H1 a xs)/\R (jdN K a) H1)\/(∃ a,x= .ref a/\(∃ xs,qdV K H1 a xs)/\R (xdt K a) H1)\/ ∃z,x= .str z/\R (qdu z) H1
def qas (w:PE X l tl):PI X tg l (xdi X.K tl):=by
 intro g s U H R I h
 refine zdv (w g s U H _ I h) ?_
 rintro v d ⟨x,i,c,k,y⟩
 rcases y with⟨a,e,⟨u,m⟩,q⟩ | ⟨a,e,⟨u,m⟩,q⟩ | ⟨z,e,q⟩
 ·subst e
  cases k
  obtain⟨j,rv,p,r⟩:=c.list m
  refine wpAny_pyIter_list p.isList ?_
  refine⟨d.heap.objs.size,[d.heap.objs.size],_,_,i,rfl,c.kept λb o e=>Aa1 _ e,xac a _,⟨_,Ab6 _ rfl,rfl,rfl⟩,λb f=> ?_,q⟩
  have e:=by simpa using f
  subst e
  exact c.fpOk (Aa5 _) (c.hok.fresh (Aa5 _))
 ·subst e
  cases k
  obtain⟨j,rv,p,r⟩:=c.tuple m
  refine wpAny_pyIter_tuple (p) ?_
  refine⟨d.heap.objs.size,[d.heap.objs.size],_,_,i,rfl,c.kept λb o e=>Aa1 _ e,Q9 a _,⟨_,Ab6 _ rfl,rfl,rfl⟩,λb f=> ?_,q⟩
  have e:=by simpa using f
  subst e
  exact c.fpOk (Aa5 _) (c.hok.fresh (Aa5 _))
 ·subst e
  obtain⟨t,rfl⟩:=k
  cases n:z.cps.all (· <128)with
  | true=>
   refine wpAny_pyIter_ascii n ?_
   refine⟨d.heap.objs.size,[d.heap.objs.size],_,_,i,rfl,c.kept λb o e=>Aa1 _ e,W8 _ z t,⟨_,Ab6 _ rfl,rfl,rfl⟩,λb f=> ?_,q⟩
   have e:=by simpa using f
   subst e
   exact c.fpOk (Aa5 _) (c.hok.fresh (Aa5 _))
  | false=>
   refine wpAny_pyIter_wide n ?_
   refine⟨d.heap.objs.size,[d.heap.objs.size],_,_,i,rfl,c.kept λb o e=>Aa1 _ e,zao _ z t,⟨_,Ab6 _ rfl,rfl,rfl⟩,λb f=> ?_,q⟩
   have e:=by simpa using f
   subst e
   exact c.fpOk (Aa5 _) (c.hok.fresh (Aa5 _))
section
variable {X:Cx}
def Vals.getI (r:Vals xs us){i:Nat}(h:us[i]? =y0 u): ∃x,xs[i]? =y0 x/\RelV x u:=by
 have f:=r.length
 have d:=(Ac1.mp h).1
 have b:i<xs.length:=by omega
 obtain⟨e,a,c⟩:=r.get (Aa4 b)
 rw [h]at a
 cases a
 exact⟨_,Aa4 b,c⟩
def zaO (bs:List Bool):(Aa0 bs.length).all (λi=>bs.getD i y9)=bs.all id:=by
 induction bs with
 | nil=>rfl
 | cons b bs a=>
  rw [Ab9,Af8,Ai1,Am7,Ai1,←a]
  rfl
def xan {bs:List Bool}(r:Vals (bs.map V.bl) its):TruthOf P w A (λi v=>its.toArray[i]? =y0 v) (λi=>bs.getD i y9):=by
 intro i v s Q E hP d
 obtain⟨x,a,f⟩:=r.getI (by simpa using hP)
 rw [Ad]at a
 cases c:bs[i]? with
 | none=>rw [c]at a;cases a
 | some b=>
  rw [c]at a
  cases a
  cases f
  refine wpAny_truthy_bool ?_
  have e:bs.getD i y9=b:=by rw [Ab7,c];rfl
  rw [← e]
  exact d
def xal (v:X.calm=k9):Xm X (.builtin "all") (fun xs H Q=> ∃p,∃bs:List Bool,xs= [.ref p]/\SqL X.K H p (bs.map V.bl)/\Q (.bl (bs.all id)) H):=by
 intro c s U H xs x Q I r h
 obtain⟨p,bs,rfl,n,q⟩:=h
 obtain⟨u,rfl,t⟩:=zQ r
 cases t
 obtain⟨d,rv,pl,w⟩:=I.list n
 have a:=rv.length
 rw [Aa]at a
 refine call_all_walk (wpAny_pyIter_list pl.isList ?_)
 have f:p≠s.heap.objs.size:=by
  obtain⟨o,j,_⟩:=pl.isList
  exact Ac3 (Ab5 j)
 refine⟨s.heap.objs.size,_,_,_,_,_,λi=>bs.getD i y9,rfl,Walks.list (A:=X.A.in1) (I.ok.hd v) _ p f d.toArray,⟨⟨_,Ab6 _ rfl,rfl,rfl⟩,pl.isList.at λo e=>Aa1 _ e⟩,xan rv,λg m l=> ?_⟩
 have k:Inv X c U H { s with heap:=g,toks:=m }:=I.kept λb o e=>l b o (by simp;exact Ac3 (Ab5 e)) (Aa1 _ e)
 refine⟨.bl _,H,k,?_,q⟩
 show _=_
 rw [Aa8,←a,zaO]
def zal:List Int->Int
 | []=>0
 | i::r=>i+zal r
theorem xQ: ∀(xs) (x),zal (xs++ [x])=zal xs+x
 | [],x=>by simp [zal]
 | y::a,x=>by
  show y+zal (a++ [x])=y+zal a+x
  rw [xQ a x];omega
theorem jA (a:List Int): ∀j,j<=a.length->preSum (λi=>a.getD i 0) j=zal (a.take j)
 | 0,_=>rfl
 | j+1,h=>by
  rw [preSum,jA a j (by omega),List.take_succ,Aa4 (by omega)]
  show _=zal (a.take j++ [a[j]])
  rw [xQ,Ab7,Aa4 (by omega)]
  rfl
end
section
variable {X:Cx}
theorem wJ: ∀ {ss}{a},Vals (ss.map V.str) a->StrsAre a ss
 | [],a,r=>by cases r;exact .nil
 | z::ss,a,r=>by
  cases r with
  | cons h t=>
   obtain⟨k,rfl⟩:=h
   exact .cons _ _ (wJ t)
end
section
variable {X:Cx}
def xa6:xdH X (binaryOp .Add) (λx y H Q=> ∃a b ys,x= .ref a/\y= .ref b/\qdV X.K H a []/\qdV X.K H b ys/\Q (.ref b) H):=by
 intro l s U H x y v u Q I F C h
 obtain⟨a,b,ys,rfl,rfl,t,A,q⟩:=h
 cases F
 cases C
 obtain⟨r,B,D,_⟩:=I.tuple t
 obtain⟨c,J,E,_⟩:=I.tuple A
 cases B
 obtain⟨⟨p,dd,k,sl⟩,m,G,n,z⟩:=id D
 obtain⟨⟨o,f,j,e⟩,d,i,w,g⟩:=id E
 subst G z i g
 exact concat_meets ⟨_,m,rfl⟩ ⟨_,d,rfl⟩ noFill_tuple_add seq_tuple_add PySem.F.slot_tuple_add PySem.F.entry_tuple_add (PySem.F.args_tuple_add_2 _ _)
  (tuple_addW0 a b _ c.toArray n w dd f sl e (by simp)) ⟨m,d,.ref b,H,I,rfl,q⟩
def jac (G:X.calm=k9):Xm X (.builtin "sum") (fun xs H Q=> ∃p,∃a:List Int,xs= [.ref p]/\SqL X.K H p (a.map V.int)/\Q (.int (zal a)) H):=by
 intro g s U H xs K Q I r h
 obtain⟨p,a,rfl,E,q⟩:=h
 obtain⟨u,rfl,F⟩:=zQ r
 cases F
 obtain⟨l,rv,pl,J⟩:=I.list E
 have c:=rv.length
 rw [Aa]at c
 refine call_sum_walkG (wpAny_pyIter_list pl.isList ?_)
 have f:p<s.heap.objs.size:=by
  obtain⟨o,w,_⟩:=pl.isList
  exact Ab5 w
 have j:s.heap.objs.size<(s.heap.push { cls:= .type "list_iterator",data:= .fields #[.ref p,.int 0 0] }).objs.size:=Heap.lt_size (Heap.get?_push_size _ rfl)
 refine⟨s.heap.objs.size,_,_,_,_,_,λi=>a.getD i 0,rfl,Walks.list (A:=X.A.in1) (I.ok.hd G) _ p (Ac3 f) l.toArray,⟨⟨_,Ab6 _ rfl,rfl,rfl⟩,pl.isList.at λo e=>Aa1 _ e⟩,λb d=> ?_,λi v z=> ?_,λm C D B=> ?_⟩
 ·simp only [Ab4,Ac2,or_false]at d
  rcases d with rfl | rfl
  ·exact j
  ·exact Nat.lt_trans f j
 ·obtain⟨x,k,n⟩:=rv.getI (by simpa using z)
  rw [Ad]at k
  cases d:a[i]? with
  | none=>rw [d]at k;cases k
  | some b=>
   rw [d]at k
   cases k
   obtain⟨t,rfl⟩:=n
   exact⟨t,by show Value.int b t=Value.int (a.getD i 0) t;rw [Ab7,d];rfl⟩
 ·have y:Inv X g U H { s with heap:=m,toks:=C }:=I.kept λb o e=>B b o (by simp;exact Ac3 (Ab5 e)) (Aa1 _ e)
  refine⟨.int (zal a),H,y,⟨D,?_⟩,q⟩
  rw [Aa8,←c,jA a _ (Aa5 _),Ao4]
theorem xq: ∀ {b}{a},Vals (b.map V.int) a-> ∃ps:List (Int×Tok),a=ps.map (λp=> .int p.1 p.2)/\ps.map (·.1)=b
 | [],a,r=>by cases r;exact⟨[],rfl,rfl⟩
 | n::b,a,r=>by
  cases r with
  | cons h t=>
   obtain⟨k,rfl⟩:=h
   obtain⟨ps,d,c⟩:=xq t
   exact⟨(n,k)::ps,by rw [d];rfl,by rw [← c];rfl⟩
def Qv (f:Int->Int->Bool):List Int->Int->Int
 | [],a=>a
 | b::r,a=>Qv f r (if f b a then b else a)
theorem qP (f): ∀ l b a,Qv f (l++ [b]) a=if f b (Qv f l a)then b else Qv f l a
 | [],b,a=>rfl
 | c::l,b,a=>by
  show Qv f (l++ [b]) _=_
  rw [qP f l b]
  rfl
theorem XZ (f) (val:Nat->Int): ∀n,val (argBest (λi j=>f (val i) (val j)) n)=Qv f ((Aa0 n).map λi=>val (i+1)) (val 0)
 | 0=>rfl
 | n+1=>by
  have a:=XZ f val n
  rw [List.range_succ,Ac8,Aa9,Ad1,qP,←a,argBest]
  by_cases q:f (val (n+1)) (val (argBest (λi j=>f (val i) (val j)) n))=k9
  ·simp only [q,if_true]
  ·simp only [q,if_false,Af4]
def jah {c:List (Int×Tok)}(e:c.map (·.1)=n::ns) (f)
 (h:(intItems c.toArray)[argBest (λi j=>f (numAt c.toArray i) (numAt c.toArray j)) (c.toArray.size-1)]? =y0 v): ∃t,v= .int (Qv f ns n) t:=by
 obtain⟨t,rfl⟩:=intItems_at h
 refine⟨t,?_⟩
 rw [XZ f (numAt c.toArray)]
 have k:=by
  have:=congrArg List.length e
  simpa using this
 have d: ∀i,numAt c.toArray i=(n::ns).getD i 0:=λi=>by
  rw [← e,Ab7,Ad]
  unfold numAt
  rw [List.getElem?_toArray]
  all_goals (cases c[i]? )
 have g:(Aa0 (c.toArray.size-1)).map (λi=>numAt c.toArray (i+1))=ns:=by
  rw [Aa8,k,Nat.add_sub_cancel]
  apply Am3
  ·simp
  ·intro i a b
   simp only [Ai6,Ai9,d]
   rw [Ab7,List.getElem?_cons_succ,Aa4 b]
   rfl
 rw [g,d 0]
 rfl
def xad (x:X.calm=k9):Xm X (.builtin "max") (fun xs H Q=> ∃p n,∃c:List Int,xs= [.ref p]/\SqL X.K H p ((n::c).map V.int)/\Q (.int (Qv (fun a b=>decide (a>b)) c n)) H):=by
 intro f s U H xs A Q I r h
 obtain⟨p,n,c,rfl,m,q⟩:=h
 obtain⟨u,rfl,w⟩:=zQ r
 cases w
 obtain⟨i,rv,pl,z⟩:=I.list m
 obtain⟨d,rfl,g⟩:=xq rv
 have l:s.heap.IsList p (intItems d.toArray):=by
  have e:intItems d.toArray=(d.map λp=>Value.int p.1 p.2).toArray:=by simp [intItems]
  rw [e]
  exact pl.isList
 refine max_intList (I.ok.hd x) l (by have:=congrArg List.length g;simp at this ⊢;omega) λv y B j k=> ?_
 obtain⟨t,rfl⟩:=jah g (λa b=>v9 (a>b)) j
 exact⟨.int _,H,I.kept λb o e=>k b o e,⟨t,rfl⟩,q⟩
def qaD (x:X.calm=k9):Xm X (.builtin "min") (fun xs H Q=> ∃p n,∃c:List Int,xs= [.ref p]/\SqL X.K H p ((n::c).map V.int)/\Q (.int (Qv (fun a b=>decide (a<b)) c n)) H):=by
 intro f s U H xs A Q I r h
 obtain⟨p,n,c,rfl,m,q⟩:=h
 obtain⟨u,rfl,w⟩:=zQ r
 cases w
 obtain⟨i,rv,pl,z⟩:=I.list m
 obtain⟨d,rfl,g⟩:=xq rv
 have l:s.heap.IsList p (intItems d.toArray):=by
  have e:intItems d.toArray=(d.map λp=>Value.int p.1 p.2).toArray:=by simp [intItems]
  rw [e]
  exact pl.isList
 refine min_intList (I.ok.hd x) l (by have:=congrArg List.length g;simp at this ⊢;omega) λv y B j k=> ?_
 obtain⟨t,rfl⟩:=jah g (λa b=>v9 (a<b)) j
 exact⟨.int _,H,I.kept λb o e=>k b o e,⟨t,rfl⟩,q⟩
end
open PySem PySem.Spec PyProof.Rows PySem.MeetsSeq
section
variable {X:Cx}
def qax {e:Nat->Bool}(m:IsTup s.heap a items)
 (p: ∀i y,items[i]? =y0 y->PySem.SeqAt.EqAt A.in1 s y x (e i)) (u:j<items.size) (g:e j=k9) (k: ∀i,i<j->e i=y9) (h: ∀t',Q (.int (j:Int) t') { s with toks:=s.toks+1 }):
 wpAny (model prog w) A (call (.builtin "tuple.index") [.ref a,x]) Q E s:=by
 refine wpAny_call_entry F.slot_tuple_index m.typeIs F.entry_tuple_index ?_ (F.args_tuple_index_2 _ _)
 refine wpAny_bind (wpAny_of_eq (show PySem.selfAndSome "tuple.index" "index" 1 3 ⟨[.ref a,x],[]⟩=pure (Value.ref a,[x])from rfl) ?_)
 refine wpAny_bind (tupleItemsOf_ m ?_)
 refine wpAny_bind (wpAny_pure (wpAny_bind (wpAny_pure (wpAny_bind ?_))))
 rw [Nat.min_self,Std.Legacy.Range.forIn_eq_forIn_range']
 refine wpAny_forIn_list _ (λrest b f=>f=s/\b=(u0,())/\ ∃i,i<=j/\rest=List.range' i (items.size-i)) _ ?_ ?_ _ _ ⟨rfl,rfl,0,Ah3 _,by simp⟩
 ·rintro i rest b f ⟨rfl,rfl,d,r,c⟩
  have l:items.size-d=(items.size-(d+1))+1:=by omega
  rw [l,List.range'_succ]at c
  injection c with t o
  subst t
  have n:i<items.size:=by omega
  rw [Array.getElem?_eq_getElem n]
  refine wpAny_bind (p i items[i] (Array.getElem?_eq_getElem n) prog w _ _ ?_)
  by_cases q:i=j
  ·subst q
   rw [g,if_pos rfl]
   refine wpAny_bind (wpAny_bind (wpAny_mkInt ?_))
   exact wpAny_pure (wpAny_pure (wpAny_pure ⟨_,rfl,h _⟩))
  ·rw [k i (by omega),if_neg Ab8]
   exact wpAny_pure ⟨rfl,rfl,i+1,by omega,o⟩
 ·rintro b f ⟨rfl,rfl,d,r,c⟩
  have l:items.size-d=(items.size-(d+1))+1:=by omega
  rw [l,List.range'_succ]at c
  cases c
abbrev qdD:=V->Hp->Prop
noncomputable def qcV (X:Cx) (T:String) (ty:qdD):Prop:= ∀(k8:List (Addr×Obj)) (s:Shared) (U:St) (H:Hp) (x:V) (v:Value),Inv X k8 U H s->RelV x v->ty x H->s.TypeIs v T/\ ∀a,v= .ref a-> ∃ob,s.heap.get? a=y0 ob/\ob.dict=u0
def jdi (ty:qdD) (r:V->List V->Hp->VK->Prop) (a:TE) (t:TA):TE:=λU H Q=>a U H λx H1=>ty x H1/\t U H1 λxs H2=>r x xs H2 Q
def zbr {T i:String}(L:PlainAttrs T) (g:Slot T name i) (j:typeOf (.builtin i)=pure (.type "method_descriptor")) (p:qcV X T ty) (z:zdX X i r) (B:PE X o to) (u:PA X (e::es) t)
 (c:attributeBase o name X.env (eval o X.env)=eval o X.env)
 (f:((backTo k7 (starEach (e::es) X.env)).all (λx=> !x.1)&&(backToKw k7 (keywordEach [] X.env)).all (λx=>x.1.isSome)
   &&v9 ((e::es).length+([]:List Keyword).length+(if ([]:List Keyword).isEmpty then 0 else 1)<30))=k9)
 (d:(apos.endLine==k7.line)=k9) (w:starEach (e::es) X.env=(y9,eval e X.env)::starEach es X.env) (b:(backTo k7 (starEach es X.env)).any (·.1)=y9):
 PE X (.Call (.Attribute o name apos) (e::es) [] k7) (jdi ty r to t):=by
 intro a s U H Q I h
 refine wpAny_Call_method_late c f d rfl (zdv (B a s U H _ I h) ?_)
 rintro v l ⟨x,k,m,n,K,E⟩
 obtain⟨J,q⟩:=p a l U k x v m n K
 refine⟨T,i,L,g,j,J,q,?_⟩
 have hA:=u k7 a l U k _ m E
 rw [w]at hA ⊢
 refine Calls.callWith_builtin (by show(y9||(backTo k7 (starEach es X.env)).any (·.1))=y9;rw [b]<;>rfl) (Calls.evalArgs_plain ?_)
 exact zdv hA λC D ⟨F,A,y,G,M⟩=>z a D U A x F v C Q y n G M
noncomputable def zdz (K:PySem.W.Frag) (H:Hp) (a:Addr):Prop:=(∃ xs,H a=some (.tup xs))\/ ∃o,K.lookup a=some o/\o.cls= .type "tuple" /\o.dict=none
def zcj:qcV X "tuple" (fun x H=> ∃a,x= .ref a/\zdz X.K H a):=by
 intro f s U H x v I r h
 obtain⟨a,rfl,h⟩:=h
 cases r
 rcases h with⟨m,h⟩ | ⟨o,g,k,j⟩
 ·obtain⟨_,i,_,o,e,c,d,n,l⟩:=I.hok a _ h
  refine⟨⟨o,e,c⟩,λb z=> ?_⟩
  cases z
  exact⟨o,e,d⟩
 ·refine⟨⟨o,I.kIn a o g,k⟩,λb z=> ?_⟩
  cases z
  exact⟨o,I.kIn _ o g,j⟩
def xb2:qcV X "list" (fun x H=> ∃a xs,x= .ref a/\SqL X.K H a xs):=by
 intro d s U H x v I r h
 obtain⟨a,xs,rfl,h⟩:=h
 cases r
 obtain⟨f,_,pl,_⟩:=I.list h
 refine⟨pl.isList.typeIs,λb e=> ?_⟩
 cases e
 obtain⟨o,n,e,c,g,_⟩:=pl
 exact⟨o,e,g⟩
def zb8 (x:Str):List Str->Option Nat
 | []=>u0
 | y::ys=>if y=x then y0 0 else(zb8 x ys).map (· +1)
theorem zai : ∀ {ss}{j},zb8 x ss=y0 j->j<ss.length/\ss[j]? =y0 x/\ ∀i,i<j-> ∀y,ss[i]? =y0 y->y≠x
 | [],_,h=>by cases h
 | y::g,j,h=>by
  unfold zb8 at h
  split at h
  ·rename_i q
   cases h
   exact⟨Nat.zero_lt_succ _,by simp [q],λi b=>absurd b (Aj1 _)⟩
  ·rename_i q
   obtain⟨k,e,rfl⟩:=Ag6.mp h
   obtain⟨d,c,f⟩:=zai e
   refine⟨Nat.succ_lt_succ d,by simpa using c,λi b z a=> ?_⟩
   cases i with
   | zero=>simp at a;rw [← a];exact q
   | succ i=>exact f i (by omega) z (by simpa using a)
noncomputable def jcD (K:Aa6):V->List V->Hp->VK->Prop:=λx b H Q=> ∃a z j,∃ss:List Str,x= .ref a/\b= [.str z]/\qdV K H a (ss.map V.str)/\zb8 z ss=y0 j/\Q (.int (j:Nat)) H
def xaY:zdX X "tuple.index" (jcD X.K):=by
 intro B s U H x S v R Q I N rv h
 obtain⟨a,z,j,k,rfl,rfl,M,G,q⟩:=h
 cases N
 obtain⟨u,rfl,E⟩:=rv.one
 obtain⟨t,rfl⟩:=E
 obtain⟨m,r,p,O⟩:=I.tuple M
 obtain⟨L,D,F⟩:=zai G
 have d:=r.length
 rw [Aa]at d
 have look: ∀(i:Nat) y,m.toArray[i]? =y0 y-> ∃w f,k[i]? =y0 w/\y=Value.str w f:=λi y l=>by
  obtain⟨P,g,n⟩:=r.getI (by simpa using l)
  rw [Ad]at g
  cases C:k[i]? with
  | none=>rw [C]at g;cases g
  | some b=>
   rw [C]at g
   cases g
   obtain⟨f,rfl⟩:=n
   exact⟨b,f,rfl,rfl⟩
 refine qax (e:=λi=>v9 (k[i]? =y0 z)) p (λi y l=> ?_) (by rw [Aa8,←d];exact L) (decide_eq_true D) (λi K=> ?_) λf=>⟨.int j,H,I.kept λb o e=>e,⟨f,rfl⟩,q⟩
 ·obtain⟨w,f,e,rfl⟩:=look i y l
  have:=PySem.SeqAt.EqAt.str_str (A:=X.A.in1) (s:=s) w f z t
  have n:v9 (k[i]? =y0 z)=(w==z):=by
   rw [e]
   by_cases q:w=z
   ·subst q;simp
   ·simp [q]
  rw [n]
  exact this
 ·have J:=by omega
  exact decide_eq_false λc=>F i K z c rfl
noncomputable def qco (K:Aa6):V->List V->Hp->VK->Prop:=λx c H Q=> ∃a n,∃b:List Int,x= .ref a/\c= [.int n]/\SqL K H a (b.map V.int)/\Q (.int ((b.count n:Nat):Int)) H
def jbe:zdX X "list.count" (qco X.K):=by
 intro f s U H x K v G Q I B rv h
 obtain⟨a,n,z,rfl,rfl,A,q⟩:=h
 cases B
 obtain⟨u,rfl,m⟩:=rv.one
 obtain⟨t,rfl⟩:=m
 obtain⟨l,r,pl,E⟩:=I.list A
 obtain⟨J,rfl,D⟩:=xq r
 obtain⟨⟨j,dd,d,sl⟩,g,C,k,w⟩:=id pl.isList
 subst C w
 refine call_meets F.slot_list_count ⟨_,g,rfl⟩ F.entry_list_count (F.args_list_count_2 _ _) (PySem.SeqAt.list_countAt a _ k dd sl (.int n t) (λy=>match y with | .int i _=>i==n | _=>y9)) ⟨g,λy c=> ?_,?_⟩
 ·simp only [List.mem_toArray,Ac]at c
  obtain⟨p,_,rfl⟩:=c
  exact PySem.SeqAt.EqAt.int_int p.1 p.2 n t
 ·refine⟨.int ((z.count n:Nat)),H,I.kept λb o e=>e,⟨s.toks,?_⟩,q⟩
  rw [← D,List.count_eq_countP,List.countP_map]
  simp only [List.countP_map]
  rfl
end
section
variable {prog:Program}{w:World}{A:Around}{E:Value->Shared->Prop}{s:Shared}
def nextOf_tup_item (a:s.heap.IsTupleIter it t i) (g:s.heap.IsTuple t items) (j:items[i]? =y0 x)
 (f: ∀h',h'.IsTupleIter it t (i+1)->Aj8 it s.heap h'->Q x { s with heap:=h' }):wpAny (model prog w) A (Builtin.SmallTypes.nextOf (.ref it)) Q E s:=by
 obtain⟨o,c,h,b⟩:=id a
 obtain⟨k,e,_,l,d⟩:=g
 refine wpAny_bind (wpAny_callSpecial?_slot a.typeIs F.slot_tuple_iterator_next
  (wpAny_call_entry F.slot_tuple_iterator_next a.typeIs F.entry_tuple_iterator_next ?_ (F.args_tuple_iterator_next_1 _)))
 show wpAny _ _ (field (.ref it) 0 >>= _) _ _ s
 refine wpAny_bind (wpAny_field c b rfl ?_)
 show wpAny _ _ (if (Value.ref t==Value.none)=k9 then _ else _) _ _ s
 refine wpAny_bind (wpAny_field c b rfl ?_)
 refine wpAny_bind (wpAny_seqItems e d ?_)
 simp only [Ag,j]
 refine wpAny_bind (wpAny_setField c b (by simp) (wpAny_pure ⟨x,rfl,wpAny_pure (f _ ?_ (Aj8.update ..))⟩))
 exact⟨_,Ah9 _ c (Obj.isFreed_of_fields (Obj.data_mapFields b _)),(Obj.cls_mapFields ..).trans h,by
  rw [Obj.data_mapFields b];simp [rawInt]⟩
def nextOf_tup_end (g:A.handled=u0) (a:s.heap.IsTupleIter it t i) (j:s.heap.IsTuple t items) (k:items[i]? =u0)
 (h: ∀h' e,Heap.ExtBut it s.heap h'->(∃ o,h'.get? e=y0 o/\o.cls= .type "StopIteration")->E (.ref e) { s with heap:=h' }):wpAny (model prog w) A (Builtin.SmallTypes.nextOf (.ref it)) Q E s:=by
 obtain⟨o,f,l,c⟩:=id a
 obtain⟨m,d,_,n,b⟩:=j
 refine wpAny_bind (wpAny_callSpecial?_slot a.typeIs F.slot_tuple_iterator_next
  (wpAny_call_entry F.slot_tuple_iterator_next a.typeIs F.entry_tuple_iterator_next ?_ (F.args_tuple_iterator_next_1 _)))
 show wpAny _ _ (field (.ref it) 0 >>= _) _ _ s
 refine wpAny_bind (wpAny_field f c rfl ?_)
 refine wpAny_bind (wpAny_field f c rfl ?_)
 refine wpAny_bind (wpAny_seqItems d b ?_)
 simp only [Ag,k]
 refine wpAny_bind (wpAny_rule (wpAny_bind (wpAny_setField f c (by simp) ?_)))
 refine wpAny_bind ?_
 refine wpAny_bind (wpAny_newObj_type ?_ (by size_fits))
 refine wpAny_bind (wpAny_of_eq (by first | rfl | (simp only [firstArgMember])) ?_)
 refine wpAny_newObj_type ?_ (by size_fits)
 refine wpAny_bind (wpAny_handled ?_)
 first | rw [show A.in1.handled=u0 from g] | rw [g]
 refine wpAny_bind (wpAny_pure (wpAny_throw ?_))
 exact h _ _ (((Aj8.update ..).extBut.push _).push _) ⟨_,Ab6 _ rfl,rfl⟩
def JQ (m:A.handled=u0) (it t) (items) (b:t≠it):Draws prog w A it [it,t] items.size (λi x=>items[i]? =y0 x) (λi h=>h.IsTupleIter it t i/\h.IsTuple t items) where
 live:=λi h a=>let ⟨o,e,_⟩:=a.1; ⟨o,e⟩
 frame:=λi h d a k=>⟨let ⟨o,e,r⟩:=a.1; ⟨o,k it (by simp) o e,r⟩,let ⟨o,e,r⟩:=a.2; ⟨o,k t (by simp) o e,r⟩⟩
 item:=λi s Q E g a l=>nextOf_tup_item a.1 a.2 (x:=items[i]) (by simp [g]) λd c f=>l _ d s.toks (by simp [g]) ⟨c,a.2.extBut f.extBut b⟩ f
 done:=λs Q E a j=>nextOf_tup_end m a.1 a.2 (by simp) j
open PySem.AutoSeq1 (wpAny_loadPart') in
theorem jr (l:Addr) (a:Array Value) (n:Nat) (e:Option Addr) (sl:Array (Option Value)):
 Meets (Builtin.«enumerate.__new__» ⟨[.type "enumerate",.ref l],[]⟩) (fun _ R s=>s.heap.get? l=some { cls:= .type "tuple",dict:=e,data:= .seq a n,slots:=sl } ∧
  R (.ok (.ret (.ref (s.heap.push { cls:= .type "tuple_iterator",data:= .fields #[.ref l,.int 0 0] }).objs.size)))
   { s with heap:=(s.heap.push { cls:= .type "tuple_iterator",data:= .fields #[.ref l,.int 0 0] }).push { cls:= .type "enumerate",data:= .fields #[.none,.bool false,.ref s.heap.objs.size,rawInt 0,.none,.none] } }):=
 .of_wp λprog w A R s h=>by
  obtain⟨m,g,d,k,j⟩:=s;obtain⟨b,h⟩:=h
  have i:=sub_enumerate
  have f:Heap.IsTuple (Shared.heap ⟨m,g,d,k,j⟩) l a:=⟨_,b,rfl,n,rfl⟩
  wp_walk using wpAny_loadPart' b
  refine wpAny_stack_any λo=>wpAny_pure ?_
  split
  ·rename_i c _ _ _ _ _
   cases (c==Value.type "enumerate")
   ·wp_walk using wpAny_loadPart' b,wpAny_pyIter_tuple f
    exact⟨_,rfl,h⟩
   ·wp_walk using wpAny_loadPart' b,wpAny_pyIter_tuple f
    exact⟨_,rfl,h⟩
  ·wp_walk using wpAny_loadPart' b,wpAny_pyIter_tuple f
   exact⟨_,rfl,h⟩
def Zu (j:s.heap.IsTuple l items)
 (h: ∀h',IsEnum h' (s.heap.objs.size+1) s.heap.objs.size 0 .none->h'.IsTupleIter s.heap.objs.size l 0->h'.objs.size=s.heap.objs.size+2 →
   (∀ b o,s.heap.get? b=y0 o->h'.get? b=y0 o)->Q (.ref (s.heap.objs.size+1)) { s with heap:=h' }):
 wpAny (model prog w) A (call (.type "enumerate") [.ref l]) Q E s:=by
 obtain⟨⟨c,a,k,sl⟩,i,f,n,g⟩:=j
 subst f g
 refine callType_new F.called_enumerate (by decide) (F.typeCall_enumerate_1 _) (F.newCall_enumerate_1 _) (λobj=>F.args_object_init_2 obj _) F.entry_enumerate_new
  (jr l items n a sl) ⟨i,?_⟩
 have d:(s.heap.push { cls:= .type "tuple_iterator",data:= .fields #[.ref l,.int 0 0] }).objs.size=s.heap.objs.size+1:=Heap.size_push ..
 rw [d]
 have e:IsEnum ((s.heap.push { cls:= .type "tuple_iterator",data:= .fields #[.ref l,.int 0 0] }).push
  { cls:= .type "enumerate",data:= .fields #[.none,.bool false,.ref s.heap.objs.size,rawInt 0,.none,.none] }) (s.heap.objs.size+1) s.heap.objs.size 0 .none:=by
  have:=Heap.get?_push_size (s.heap.push { cls:= .type "tuple_iterator",data:= .fields #[.ref l,.int 0 0] })
   (o:= { cls:= .type "enumerate",data:= .fields #[.none,.bool false,.ref s.heap.objs.size,rawInt 0,.none,.none] }) rfl
  rw [d]at this;exact this
 refine⟨⟨_,e,rfl⟩,h _ e ⟨_,Aa1 _ (Ab6 _ rfl),rfl,rfl⟩ (by rw [Ag1,d]) λb o x=>Aa1 _ (Aa1 _ x)⟩
end
section
variable {X:Cx}{k8:List (Addr×Obj)}{U:St}{H:Hp}{s:Shared}{h':Heap}
def Inv.turned2 (I:Inv X k8 U H s) (k: ∀b o,b≠e->b≠it->s.heap.get? b=y0 o->h'.get? b=y0 o) (C:H it=u0) (j:H e=u0) (t:it≠X.env.locals) (f:e≠X.env.locals)
 (h1:it∈X.ex\/X.s₀.heap.objs.size<=it) (i:e∈X.ex\/X.s₀.heap.objs.size<=e) (h2: ∀x c,X.env.cells.lookup x=y0 c->c≠it) (l: ∀x c,X.env.cells.lookup x=y0 c->c≠e) (y: ∀p∈X.pn++k8,p.1≠it) (h: ∀p∈X.pn++k8,p.1≠e):Inv X k8 U H { s with heap:=h',toks:=t' }:=by
 have d: ∀b u,H b=y0 u->b≠e/\b≠it:=λb u q=>⟨λz=>(by rw [z,j]at q;cases q),λz=>(by rw [z,C]at q;cases q)⟩
 have g: ∀b o,b∉ [e,it]->s.heap.get? b=y0 o->h'.get? b=y0 o:=λb o a q=>k b o (λz=>a (by simp [z])) (λz=>a (by simp [z])) q
 refine I.step (λb A=> ?_) (λb o _ _ a e _=>g b o a e) (λb o _ _ a e _=>⟨o.slots,g b o a e⟩) (λ_ _ _ _ n=>n)
  (λb o a e=>⟨o,g b o a e⟩) (λ_ _ e=>e) (λ_ _ _ e=>e) (λb G e=>⟨#[],by rw [e];simp⟩) (λm w=> ?_) (λb u q=> ?_) I.bare
 ·rcases Ab4.mp A with z | z
  ·rw [z];exact⟨i,f,l,h⟩
  ·rw [Af1.mp z];exact⟨h1,t,h2,y⟩
 ·obtain⟨o,D,F,B,r⟩:=w
  exact⟨o,D,F,k _ o (Ne.symm f) (Ne.symm t) B,r⟩
 ·refine(I.hok b u q).stay (λc v a E=>k c v ?_ ?_ E) (λ_ q=>q) λ_ _ q=>q
  ·rcases a with z | z
   ·rw [z];exact(d b u q).1
   ·exact(d c _ z).1
  ·rcases a with z | z
   ·rw [z];exact(d b u q).2
   ·exact(d c _ z).2
end
noncomputable def xdv (K:Aa6) (a:Addr):It:=
 ⟨λi H=> ∃xs x,qdV K H a xs/\xs[i]? =y0 x,λi H x H'=> ∃p y,H p=u0/\x= .ref p/\H'=zdL H p (.tup [.int (i:Int),y])/\ ∀xs,qdV K H a xs->xs[i]? =y0 y,λi H=> ∃xs,qdV K H a xs/\xs.length=i⟩
def zaP {K:Aa6}(a it e) (t:e≠it):qa6 P w K (.Tuple elts x1 tp) (xdv K a) [e,it] e (λi h=>(∃ f,IsEnum h e it (i:Int) f)/\h.IsTupleIter it a i) where
 mem:=by simp
 obj:=λi h l b F=>by
  obtain⟨⟨f,q⟩,⟨o,q2,c,d⟩⟩:=l
  rcases Ab4.mp F with z | z
  ·subst z
   exact⟨_,q,λv z=>by cases z⟩
  ·rw [Af1.mp z]
   exact⟨o,q2,λv z=>by rw [d]at z;cases z⟩
 keep:=λi h h' l k=>⟨let ⟨f,q⟩:=l.1; ⟨f,k e (by simp) _ q⟩,let ⟨o,q,r⟩:=l.2; ⟨o,k it (by simp) o q,r⟩⟩
 item:=by
  intro X hP hw T Y i m s U H E I O l hg
  subst hP hw T
  obtain⟨⟨f,C⟩,g⟩:=l
  obtain⟨xs,x,Q,W⟩:=hg
  obtain⟨j,rv,p,hz⟩:=I.tuple Q
  obtain⟨u,hu,ru⟩:=rv.get W
  have B:=p
  have n:a≠it:=λz=>by
   obtain⟨o,q,c,_⟩:=B
   obtain⟨o',q',J,_⟩:=g
   rw [z,q']at q;cases q
   rw [c]at J;exact absurd J (by decide)
  have R:a≠e:=λz=>by
   obtain⟨o,q,c,_⟩:=B
   rw [z,C]at q;cases q
   exact absurd (show Value.type "enumerate" =Value.type "tuple" from c) (by decide)
  obtain⟨f0,f1,f2,f3,f4,f5⟩:=O e (by simp)
  obtain⟨M,g1,g2,S,V,g5⟩:=O it (by simp)
  have Z:=by
   have:=Ac1.mp hu
   simpa using this.1
  have A:X.A.in1.handled=none:=I.ok.hd Y
  refine wpAny_pyNext_enum_itemD (JQ A it a j.toArray n) C ⟨g,B⟩ Z t (by simp [t,Ne.symm R]) λy h1 L G ho hs' hT hsz hk=> ?_
  have ey:y=u:=by
   rw [List.getElem?_toArray]at G
   rw [hu]at G;cases G;rfl
  subst ey
  refine⟨_,rfl,wpAny_letOwnedTupleGo_enum ho λh2 he2 N=> ?_⟩
  have N:=N
  have hep:=Al6 (Ab5 C)
  have hn:=I.hok.fresh (Aa5 _)
  have I1:Inv X m U (zdL H s.heap.objs.size (.tup [.int (i:Int),x])) { s with heap:=s.heap.push { cls:= .type "tuple",data:= .seq #[.int i L,y] },toks:=L+1 }:=by
   refine I.laid (λb o q=>Aa1 _ q) (Aa5 _) ⟨by simp only [Ab9,Am6];rw [sizeLine_eq];decide,[.int i L,y],.cons ⟨_,rfl⟩ (.cons ru .nil),?_⟩
   exact⟨_,Ab6 s.heap rfl,rfl,rfl,_,rfl⟩
  have D:it<s.heap.objs.size:=by obtain⟨o,q,_⟩:=g;exact Ab5 q
  have ee:=Ab5 C
  have I2:=I1.turned2 (t':=L+1) (λb o b1 b2 q=>by
   refine(N.2 b b1).trans ?_
   rcases Heap.get?_push_cases (show (s.heap.push { cls:= .type "tuple",data:= .seq #[.int i L,y] }).get? b=some o from q)with⟨z,z2⟩ | z
   ·rw [z,z2];exact hT
   ·exact hk b o b1 b2 z) (by rw [qa (Ac3 D)];exact M) (by rw [qa (Ac3 ee)];exact f0) g1 f1 S f3 V f4 g5 f5
  refine⟨.ref s.heap.objs.size,_,I2,rfl,⟨s.heap.objs.size,x,hn,rfl,rfl,λys G=>by rw [I.tuple_inj G Q];exact W⟩,⟨⟨y,by simpa using he2⟩,?_⟩,λb F=> ?_⟩
  ·obtain⟨o,q,r⟩:=hs'.1
   exact⟨o,(N.2 it (Ne.symm t)).trans q,r⟩
  ·rcases Ab4.mp F with z | z
   ·rw [z,qa (Ac3 ee)];exact f0
   ·rw [Af1.mp z,qa (Ac3 D)];exact M
 done:=by
  intro X hP hw T Y i m s U H E I O l hg
  subst hP hw T
  obtain⟨⟨f,C⟩,g⟩:=l
  obtain⟨xs,Q,W⟩:=hg
  obtain⟨j,rv,p,hz⟩:=I.tuple Q
  have B:s.heap.IsTuple a j.toArray:=p
  have n:a≠it:=λz=>by
   obtain⟨o,q,c,_⟩:=B
   obtain⟨o',q',J,_⟩:=g
   rw [z,q']at q;cases q
   rw [c]at J;exact absurd J (by decide)
  obtain⟨M,g1,g2,S,V,g5⟩:=O it (by simp)
  have hl:=rv.length
  have A:X.A.in1.handled=none:=I.ok.hd Y
  have hi:i=j.toArray.size:=by simp;omega
  subst hi
  exact wpAny_pyNext_enum_endD (JQ A it a j.toArray n) C ⟨g,B⟩ λh' eb=>⟨rfl,I.turned (λb o F q=>eb b o F q) M g1 S V g5⟩
 self:=λ_ _ _ _ _ l h=>wpAny_pyIter_enum l.1.choose_spec h
def xcX (K:Aa6) (b:TA):TI:=λU H R=>b U H λc H1=> ∃a xs,c= [.ref a]/\qdV K H1 a xs/\R (xdv K a) H1
def QD:bootBuiltins "enumerate" =some (.type "enumerate"):=by decide +kernel
def jbN (B:Gl X "enumerate") (t:X.mg "enumerate" =none) (n:PA X [a] ta) (o:starEach [a] X.env= [(false,eval a X.env)]:=by rfl):PI X (.Tuple elts x1 tp) (.Call (.Name "enumerate" p) [a] [] pos) (xcX X.K ta):=by
 intro g s U H R I h
 refine Call_ (Qx I B t QD (PyProof.Rows.callWith_type1 (zdv (n pos g s U H _ I h) λF f ⟨G,k,d,v,y⟩=> ?_) o rfl))
 obtain⟨b,E,e,A,q⟩:=y
 subst e
 cases v with
 | cons r l=>
  cases l
  cases r
  obtain⟨m,rv,pl,D⟩:=d.tuple A
  refine Zu (pl) λC j i x w=> ?_
  refine wpAny_pyIter_enum j ?_
  refine⟨f.heap.objs.size+1,[f.heap.objs.size+1,f.heap.objs.size],_,_,k,rfl,d.kept w,zaP b f.heap.objs.size (f.heap.objs.size+1) (Nat.succ_ne_self _),⟨⟨_,by simpa using j⟩,i⟩,λc u=> ?_,q⟩
  rcases Ab4.mp u with z | z
  ·rw [z];exact d.fpOk (Ah4 _) (d.hok.fresh (Ah4 _))
  ·rw [Af1.mp z];exact d.fpOk (Aa5 _) (d.hok.fresh (Aa5 _))
section
variable {prog:Program}{w:World}{A:Around}{E:Value->Shared->Prop}{s:Shared}
def zcM:isSubtype (.type "tuple") (.type "set")=pure false:=by rw [isSubtype_type];kernel_rfl
def jcS:isSubtype (.type "tuple") (.type "frozenset")=pure false:=by rw [isSubtype_type];kernel_rfl
abbrev xaQ (a:Bool):Obj:= { cls:= .type "set",dict:=none,data:= .set #[] 0 (.fresh 0 0 a) }
set_option maxHeartbeats 8000000 in
theorem zP {b:Addr}{f:Array Value}{n:List Int}{Q:Value->Shared->Prop}
 (hh:A.handled=u0) (Z:s.heap.IsTuple b f) (hi:IntsAre f.toList n) (hb:f.size+1<scanBound)
 (q: ∀(h':Heap) (C:Nat),h'.SetOf (intKind prog w) s.heap.objs.size (λO=>(firstMet (λi=>n.getD i 0) f.size).any (· ==O)) (firstMet (λi=>n.getD i 0) f.size).length →
   (∀ c o,c<s.heap.objs.size->s.heap.get? c=y0 o->h'.get? c=y0 o)->Q (.ref s.heap.objs.size) { s with heap:=h',toks:=C }):
 wpAny (model prog w) A (call (.type "set") [.ref b]) Q E s:=by
 obtain⟨c,tl,V⟩:=F.called_set.mro
 have D:=F.called_set.made
 have W:=F.called_set.sub
 refine wpAny_call (codeAny_of_tree ?_)
 show wpAny _ _ (callAny (.type "set") _) _ _ _
 refine wpAny_pure ⟨Code.quiet_builtin _ (by decide +kernel),codeAny_builtin F.entry_type_call ?_⟩
 rw [Around.under_plain (weight_type_call_type "set" [.ref b] []) rfl]
 have h1:=F.called_set.notType
 have h2:=F.called_set.canCreate
 have hct:=F.typeCall_set_1 (.ref b)
 repeat (any_goals (first | assumption | wp_step))
 refine codeAny_mono (code_set_new_1 (.ref b) (E:=E) (Q₁:=λS h=> ∃a:Bool,S= .ref s.heap.objs.size/\h= { s with heap:=s.heap.push (xaQ a) }) λa=>⟨a,rfl,rfl⟩) λr h G=> ?_
 cases r with
 | error e=>exact G
 | ok fl=>
  cases fl with
  | ret S=>
   obtain⟨a,rfl,rfl⟩:=G
   have U:(s.heap.push (xaQ a)).get? s.heap.objs.size=y0 (xaQ a):=Ab6 _ rfl
   have hT:Shared.TypeIs { s with heap:=s.heap.push (xaQ a) } (.ref s.heap.objs.size) "set" :=⟨_,U,rfl⟩
   have hli:=F.called_set.init.lookup
   have hbi:=F.called_set.init.bind (.ref s.heap.objs.size)
   repeat (any_goals (first | assumption | wp_step))
   refine codeAny_mono (codeAny_call_builtin (R:=wants (λr g=>r= .none/\ ∃h' C,g= { s with heap:=h',toks:=C } ∧
    h'.SetOf (intKind prog w) s.heap.objs.size (λO=>(firstMet (λi=>n.getD i 0) f.size).any (· ==O)) (firstMet (λi=>n.getD i 0) f.size).length ∧
    (∀ c o,c<s.heap.objs.size->s.heap.get? c=y0 o->h'.get? c=y0 o)) E) F.called_set.init.plain F.entry_set_init (check_set_init_1 hT ?_)) λy g d=> ?_
   ·obtain⟨⟨c1,c2,c3,c4⟩,u,j,P,k⟩:=Z
    replace j:c1= .type "tuple" :=j
    replace k:c3= .seq f P:=k
    subst j;subst k
    have t:(s.heap.push (xaQ a)).get? b=y0 { cls:= .type "tuple",dict:=c2,data:= .seq f P,slots:=c4 }:=Heap.get?_push_of_some _ u
    have T:=zcM
    have X:=jcS
    have hne:(Value.type "tuple" ==Value.type "dict")=false:=by decide
    have z:(s.heap.push (xaQ a)).IsTuple b f:=⟨_,t,rfl,P,rfl⟩
    unfold Builtin.«set.__init__» noKeywords Builtin.Frozenset.updateFrom
    generalize J:pyIter=PI
    wp_walk
    subst J
    refine wpAny_pyIter_tuple z (wpAny_bind (wpAny_runValue ?_))
    have x:b<s.heap.objs.size:=Ab5 u
    have L:A.in1.in1.in1.handled=none:=by simp [hh]
    have K:(s.heap.push (xaQ a)).objs.size=s.heap.objs.size+1:=Ag1 ..
    have p:b≠(s.heap.push (xaQ a)).objs.size:=by rw [K];exact Ac3 (Am1 x)
    have H:s.heap.objs.size∉ [(s.heap.push (xaQ a)).objs.size,b]:=by
     rw [K];simp only [Ab4,Ac2,or_false,not_or];exact⟨Ac3 (Ag7 _),Al6 x⟩
    refine codeAny_set_update_loopS ((Walks.tuple L _ b p f).toS) s.heap.objs.size
     H (λi=>n.getD i 0) (λi v hv=>IntsAre.int_at hi i v (by rw [Array.getElem?_toList];exact hv)) hb (f.size-0) 0 _ (by omega) (Ah3 _)
     ⟨⟨_,Ab6 _ rfl,rfl,rfl⟩,(z.push _)⟩ ?hS0 ?hR
    case hS0=>exact SetOf_congr ((setObjOf_fresh (knd:=intKind prog w) a).setOf (Aa1 _ U) (by unfold scanBound;omega)) (λ_=>rfl) rfl
    case hR=>
     intro s' B m
     obtain⟨h',g',d',N,M⟩:=s'
     have eg:g'=s.gens:=B.gens
     have ed:d'=s.drawn:=B.drawn
     have eo:M=s.os:=B.os
     subst eg;subst ed;subst eo
     show wpAny _ _ _ _ _ _
     refine wpAny_pure ?_
     show wpAny _ _ (ret Value.none) _ _ _
     refine wpAny_pure ⟨rfl,h',N,rfl,m,λc o Y e=>B.heap c o ?_ (Aa1 _ (Aa1 _ e))⟩
     simp only [Ab4,Ac2,or_false,not_or]
     exact⟨Ac3 Y,by
      show c≠(s.heap.push (xaQ a)).objs.size
      rw [K];exact Ac3 (Am1 Y)⟩
   ·cases y with
    | error e=>exact d
    | ok l=>
     cases l with
     | ret r=>
      obtain⟨rfl,h',C,rfl,m,I⟩:=d
      repeat (any_goals (first | assumption | wp_step))
      exact q _ _ m I
     | _=>exact d.elim
  | _=>exact G.elim
end
section
variable {X:Cx}
theorem WX: ∀ {is}{a},Vals (is.map V.int) a->IntsAre a is
 | [],_,.nil=> .nil
 | i::is,_,.cons r b=>by
  obtain⟨t,rfl⟩:=r
  exact .cons _ _ (WX b)
def xdz (is:List Int):Nat:=(firstMet (λi=>is.getD i 0) is.length).length
def xaC:Xm X (.type "set") (fun xs H Q=> ∃p is,xs= [.ref p]/\X.calm=true/\is.length<1000/\qdV X.K H p (is.map V.int)/\ ∀l S,H l=none->Q (.ref l) (zdL H l (.set S (xdz is)))):=by
 intro f s U H xs v Q I r h
 obtain⟨p,is,rfl,m,w,k,q⟩:=h
 cases r with
 | cons r g=>
  cases g
  cases r
  obtain⟨c,rv,pl,t⟩:=I.tuple k
  have a:c.length=is.length:=by have:=rv.length;rw [Aa]at this;omega
  refine zP (I.ok.hd m) pl (by simpa using WX rv) (by rw [Aa8,a];unfold scanBound;omega) λn x d i=> ?_
  have j:c.toArray.size=is.length:=by rw [Aa8];exact a
  rw [j]at d
  have hn:=I.hok.fresh (Aa5 _)
  exact⟨.ref s.heap.objs.size,_,I.laid (o:= .set _ (xdz is)) (λb u e=>i b u (Ab5 e) e) (Aa5 _) d,rfl,q _ _ hn⟩
def xae:Xm X (.builtin "len") (fun xs H Q=> ∃p S n,xs= [.ref p]/\H p=some (.set S n)/\n<1000/\Q (.int (n:Int)) H):=by
 intro b s U H xs j Q I r h
 obtain⟨p,S,n,rfl,i,hn,q⟩:=h
 cases r with
 | cons r c=>
  cases c
  cases r
  obtain⟨o,k,l,t,f,a,d,_,_,_,g,e⟩:s.heap.SetOf (intKind X.prog X.w) p S n:=I.hok p _ i
  subst e
  exact call_len_set f a d g (by omega) ⟨.int _,H,I.tok _,⟨_,rfl⟩,q⟩
end
def wB {b c:Option Int}(a:IsTup s.heap t vs) (g:s.heap.IsSliceOf sl vl vu .none) (pl:IsPart vl b) (k:IsPart vu c)
 (j:HT.sIx vs.size 0 b=0) (h1:HT.sIx vs.size vs.size c=vs.size) (h:Q (.ref t) s):wpAny (model prog w) A (getItem (.ref t) (.ref sl)) Q E s:=by
 obtain⟨i,e,d,l⟩:=id g
 have f:s.TypeIs (.ref sl) "slice" :=⟨i,e,d⟩
 unfold getItem
 try with_reducible refine wpAny_holding ?_
 refine wpAny_bind (wpAny_sequenceKey a.typeIs (by decide) (wpAny_bind (wpAny_callSpecial?_slot a.typeIs PyProof.Rows.slot_tuple_getitem
  (wpAny_call_entry PyProof.Rows.slot_tuple_getitem a.typeIs PyProof.Rows.entry_tuple_getitem ?_ (PyProof.Rows.args_tuple_getitem _ _)))))
 show wpAny _ _ (Builtin.Tuple.tupleItemsOf (.ref t) >>= _) _ _ s
 refine wpAny_bind (tupleItemsOf_ a (wpAny_bind (wpAny_typeOf f ?_)))
 refine wpAny_bind (HT.sliceApplied_gen g pl k ?_)
 show wpAny _ _ (if (((HT.sIx vs.size 0 b:Nat):Int)==0&& 1==1&&(HT.sIx vs.size vs.size c-HT.sIx vs.size 0 b)==vs.size)=k9 then _ else _) _ _ s
 rw [if_pos (by rw [j,h1];simp)]
 refine wpAny_bind (wpAny_bind (wpAny_typeOf a.typeIs (wpAny_pure ?_)))
 exact wpAny_bind (wpAny_rule (wpAny_pure ⟨_,rfl,wpAny_pure h⟩))
section
variable {X:Cx}
noncomputable def xcS (K:Aa6):V->Option Int->Option Int->Hp->VK->Prop:=λx lo hi H Q=> ∃a xs,x= .ref a/\qdV K H a xs/\HT.sIx xs.length 0 lo=0/\HT.sIx xs.length xs.length hi=xs.length/\Q (.ref a) H
def qcv:SlR X (xcS X.K):=by
 intro e s U H x v p t n u sl Q I l f pl i h
 obtain⟨a,g,rfl,m,j,k,q⟩:=h
 cases l
 obtain⟨c,r,d,o⟩:=I.tuple m
 have b:c.toArray.size=g.length:=by rw [Aa8];exact r.length.symm
 refine⟨"tuple",_,PyProof.Rows.slot_tuple_getitem.lookup,d.typeIs,?_⟩
 exact wB d f pl i (by rw [b];exact j) (by rw [b];exact k) ⟨.ref a,H,I,rfl,q⟩
end
end L2
namespace PySem
open Sem (wp)
section
variable {prog:Program}{w:World}{A:Around}{E:Value->Shared->Prop}{s:Shared}
def XD {Q:Value->Shared->Prop}(D:ZipApart z TI TO i1 i2 l1 l2)
 (O:IsZip s.heap z TI TO .none) (hTI:IsPair s.heap TI (.ref i1) (.ref i2)) (hTO:IsPair s.heap TO a b)
 (h1:s.heap.IsListIter i1 l1 k1) (h2:s.heap.IsTupleIter i2 l2 k2) (hl1:s.heap.IsList l1 xs) (hl2:s.heap.IsTuple l2 ys) (hx:xs[k1]? =y0 x) (hy:ys[k2]? =y0 y)
 (hQ: ∀h',IsZip h' z TI TO (rawInt s.heap.objs.size)->IsPair h' TO x y->h'.IsListIter i1 l1 (k1+1)->h'.IsTupleIter i2 l2 (k2+1)->IsPair h' s.heap.objs.size x y->h'.objs.size=s.heap.objs.size+1 →
   (∀ c o,c≠z->c≠TO->c≠i1->c≠i2->s.heap.get? c=y0 o->h'.get? c=y0 o)->Q (.ref s.heap.objs.size) { s with heap:=h' }):
 wpAny (model prog w) A (Builtin.«zip.__next__» ⟨[.ref z],[]⟩) (λfin s'=> ∃v,fin= .done (.ret v)/\Q v s') E s:=by
 show wpAny _ _ (field (.ref z) 2 >>= _) _ _ _
 refine wpAny_bind (wpAny_field O rfl (x:= .bool y9) rfl ?_)
 show wpAny _ _ (field (.ref z) 3 >>= _) _ _ _
 refine wpAny_bind (wpAny_field O rfl (x:= .ref TI) rfl ?_)
 refine wpAny_bind (wpAny_seqItems hTI rfl ?_)
 show wpAny _ _ (Builtin.SmallTypes.ownedTupleIsFree (.ref z) >>= _) _ _ _
 refine wpAny_bind ?_
 unfold Builtin.SmallTypes.ownedTupleIsFree
 refine wpAny_bind (wpAny_field O rfl (x:= .none) rfl (wpAny_pure ?_))
 simp only [if_true]
 refine wpAny_bind (wpAny_rule ?_)
 refine wpAny_bind (wpAny_field O rfl (x:= .ref TO) rfl ?_)
 refine wpAny_bind (wpAny_setField_rec O (by simp) λW t f=> ?_)
 replace t:IsZip W z TI TO .ellipsis:=t
 refine wpAny_bind ?_
 simp only [List.zipIdx_cons,List.zipIdx_nil,List.forIn_cons,List.forIn_nil]
 refine wpAny_bind (wpAny_bind (wpAny_onRaise ?_))
 show wpAny _ _ (Builtin.SmallTypes.nextOf (.ref i1) >>= _) _ _ _
 refine wpAny_bind (wpAny_nextOf_list_item (h1.extBut f.extBut D.i1z) (hl1.extBut f.extBut D.l1z) hx λR J i=>wpAny_pure ?_)
 have u:IsPair R TO a b:=i.extBut _ _ D.TOi1 (f.extBut _ _ D.TOz hTO)
 refine wpAny_bind (wpAny_seqItems u rfl ?_)
 refine wpAny_bind (wpAny_updateSeq_pair u λP m h=> ?_)
 replace m:IsPair P TO x b:=m
 refine wpAny_bind (wpAny_letGo (wpAny_pure ?_))
 refine wpAny_bind (wpAny_bind (wpAny_onRaise ?_))
 show wpAny _ _ (Builtin.SmallTypes.nextOf (.ref i2) >>= _) _ _ _
 refine wpAny_bind (L2.nextOf_tup_item (((h2.extBut f.extBut D.i2z).extBut i.extBut D.i12.symm).extBut h.extBut D.TOi2.symm)
  (((hl2.extBut f.extBut D.l2z).extBut i.extBut D.l2i1).extBut h.extBut D.l2TO) hy λT N k=>wpAny_pure ?_)
 have B:IsPair T TO x b:=k.extBut _ _ D.TOi2 m
 refine wpAny_bind (wpAny_seqItems B rfl ?_)
 refine wpAny_bind (wpAny_updateSeq_pair B λd g j=> ?_)
 replace g:IsPair d TO x y:=g
 refine wpAny_bind (wpAny_letGo (wpAny_pure (wpAny_pure ?_)))
 refine wpAny_bind (wpAny_seqItems g rfl ?_)
 refine wpAny_bind (wpAny_newTuple ?_)
 have U:d.objs.size=s.heap.objs.size:=by rw [j.1,k.1,h.1,i.1,f.1]
 have H:IsZip d z TI TO .ellipsis:=j.extBut _ _ D.TOz.symm (k.extBut _ _ D.i2z.symm (h.extBut _ _ D.TOz.symm (i.extBut _ _ D.i1z.symm t)))
 have L: ∀c o,c≠z->c≠TO->c≠i1->c≠i2->s.heap.get? c=y0 o->d.get? c=y0 o:=λc o M X c3 c4 e=>
  j.extBut _ _ X (k.extBut _ _ c4 (h.extBut _ _ X (i.extBut _ _ c3 (f.extBut _ _ M e))))
 have C:d.IsListIter i1 l1 (k1+1):=((J.extBut h.extBut D.TOi1.symm).extBut k.extBut D.i12).extBut j.extBut D.TOi1.symm
 have G:d.IsTupleIter i2 l2 (k2+1):=N.extBut j.extBut D.TOi2.symm
 have I:z<d.objs.size:=Ab5 H
 have hTOlt:TO<d.objs.size:=Ab5 g
 have hi1lt:i1<d.objs.size:=by obtain⟨_,e,_⟩:=C;exact Ab5 e
 have Z:i2<d.objs.size:=by obtain⟨_,e,_⟩:=G;exact Ab5 e
 show wpAny _ _ (Builtin.SmallTypes.ownedTupleHandOut (.ref z) (.ref d.objs.size) >>= _) _ _ _
 refine wpAny_bind ?_
 unfold Builtin.SmallTypes.ownedTupleHandOut
 have K:IsZip (d.push { cls:= .type "tuple",data:= .seq #[x,y] }) z TI TO .ellipsis:=Heap.get?_push_of_some _ H
 refine wpAny_bind (wpAny_setField_rec K (by simp) λS q p=> ?_)
 replace q:IsZip S z TI TO (rawInt d.objs.size):=q
 refine wpAny_setField_rec q (by simp) λn l r=> ?_
 replace l:IsZip n z TI TO (rawInt d.objs.size):=l
 have Y: ∀c o,c≠z->d.get? c=y0 o->n.get? c=y0 o:=λc o M e=>r.extBut _ _ M (p.extBut _ _ M (Aa1 _ e))
 have F:IsPair n d.objs.size x y:=r.extBut _ _ (Al6 I) (p.extBut _ _ (Al6 I) (Ab6 _ rfl))
 have V:n.objs.size=d.objs.size+1:=by rw [r.1,p.1,Ag1]
 rw [U]at l F V
 refine wpAny_pure ⟨_,rfl,?_⟩
 show Q (.ref d.objs.size) _
 rw [U]
 exact hQ n l (Y _ _ D.TOz g) (C.at λo e=>Y _ o D.i1z e) (G.at λo e=>Y _ o D.i2z e) F V λc o M X c3 c4 e=>Y c o M (L c o M X c3 c4 e)
def QH (T:A.handled=u0) (D:ZipApart z TI TO i1 i2 l1 l2)
 (v:IsZip s.heap z TI TO .none) (P:IsPair s.heap TI (.ref i1) (.ref i2)) (L:IsPair s.heap TO a b)
 (h1:s.heap.IsListIter i1 l1 k1) (h2:s.heap.IsTupleIter i2 l2 k2) (B:s.heap.IsList l1 xs) (N:s.heap.IsTuple l2 ys) (y:xs[k1]? =u0\/ys[k2]? =u0)
 (S: ∀h' e,(∀ c o,c≠z->c≠TO->c≠i1->c≠i2->s.heap.get? c=y0 o->h'.get? c=y0 o)->(∃ o,h'.get? e=y0 o/\o.cls= .type "StopIteration")->E (.ref e) { s with heap:=h' }):
 wpAny (model prog w) A (Builtin.«zip.__next__» ⟨[.ref z],[]⟩) Q E s:=by
 show wpAny _ _ (field (.ref z) 2 >>= _) _ _ _
 refine wpAny_bind (wpAny_field v rfl (x:= .bool y9) rfl ?_)
 show wpAny _ _ (field (.ref z) 3 >>= _) _ _ _
 refine wpAny_bind (wpAny_field v rfl (x:= .ref TI) rfl ?_)
 refine wpAny_bind (wpAny_seqItems P rfl ?_)
 show wpAny _ _ (Builtin.SmallTypes.ownedTupleIsFree (.ref z) >>= _) _ _ _
 refine wpAny_bind ?_
 unfold Builtin.SmallTypes.ownedTupleIsFree
 refine wpAny_bind (wpAny_field v rfl (x:= .none) rfl (wpAny_pure ?_))
 simp only [if_true]
 refine wpAny_bind (wpAny_rule ?_)
 refine wpAny_bind (wpAny_field v rfl (x:= .ref TO) rfl ?_)
 refine wpAny_bind (wpAny_setField_rec v (by simp) λG i d=> ?_)
 replace i:IsZip G z TI TO .ellipsis:=i
 refine wpAny_bind ?_
 simp only [List.zipIdx_cons,List.zipIdx_nil,List.forIn_cons,List.forIn_nil]
 refine wpAny_bind (wpAny_bind (wpAny_onRaise ?_))
 show wpAny _ _ (Builtin.SmallTypes.nextOf (.ref i1) >>= _) _ _ _
 cases R:xs[k1]? with
 | none=>
  refine wpAny_bind (wpAny_nextOf_list_end T (h1.extBut d.extBut D.i1z) (B.extBut d.extBut D.l1z) R λn e f K=> ?_)
  obtain⟨M,j,p⟩:=K
  have l:IsZip n z TI TO .ellipsis:=f _ _ D.i1z.symm i
  have u:e≠z:=λx=>by subst x;rw [l]at j;cases j;simp at p
  refine wpAny_setField_rec l (by simp) λt _ g=>S t e (λc o H _ O _ x=>g.extBut _ _ H (f _ _ O (d.extBut _ _ H x))) ⟨M,g.extBut _ _ u j,p⟩
 | some x=>
  have U:ys[k2]? =none:=by rcases y with h | h;rw [R]at h;cases h;exact h
  refine wpAny_bind (wpAny_nextOf_list_item (h1.extBut d.extBut D.i1z) (B.extBut d.extBut D.l1z) R λn J f=>wpAny_pure ?_)
  have k:IsPair n TO a b:=f.extBut _ _ D.TOi1 (d.extBut _ _ D.TOz L)
  refine wpAny_bind (wpAny_seqItems k rfl ?_)
  refine wpAny_bind (wpAny_updateSeq_pair k λt I g=> ?_)
  refine wpAny_bind (wpAny_letGo (wpAny_pure ?_))
  refine wpAny_bind (wpAny_bind (wpAny_onRaise ?_))
  show wpAny _ _ (Builtin.SmallTypes.nextOf (.ref i2) >>= _) _ _ _
  refine wpAny_bind (L2.nextOf_tup_end T (((h2.extBut d.extBut D.i2z).extBut f.extBut D.i12.symm).extBut g.extBut D.TOi2.symm)
   (((N.extBut d.extBut D.l2z).extBut f.extBut D.l2i1).extBut g.extBut D.l2TO) U λC e r K=> ?_)
  obtain⟨M,j,p⟩:=K
  have m:IsZip C z TI TO .ellipsis:=r _ _ D.i2z.symm (g.extBut _ _ D.TOz.symm (f.extBut _ _ D.i1z.symm i))
  have u:e≠z:=λx=>by subst x;rw [m]at j;cases j;simp at p
  refine wpAny_setField_rec m (by simp) λF _ q=>S F e (λc o H W O V x=>q.extBut _ _ H (r _ _ V (g.extBut _ _ W (f.extBut _ _ O (d.extBut _ _ H x))))) ⟨M,q.extBut _ _ u j,p⟩
def Jn (D:ZipApart z TI TO i1 i2 l1 l2)
 (h:IsZip s.heap z TI TO .none) (f:IsPair s.heap TI (.ref i1) (.ref i2)) (d:IsPair s.heap TO a b)
 (h1:s.heap.IsListIter i1 l1 k1) (h2:s.heap.IsTupleIter i2 l2 k2) (g:s.heap.IsList l1 xs) (e:s.heap.IsTuple l2 ys) (m:xs[k1]? =y0 x) (k:ys[k2]? =y0 y)
 (j: ∀h',IsZip h' z TI TO (rawInt s.heap.objs.size)->IsPair h' TO x y->h'.IsListIter i1 l1 (k1+1)->h'.IsTupleIter i2 l2 (k2+1)->IsPair h' s.heap.objs.size x y->h'.objs.size=s.heap.objs.size+1 →
   (∀ c o,c≠z->c≠TO->c≠i1->c≠i2->s.heap.get? c=y0 o->h'.get? c=y0 o)->Q (y0 (.ref s.heap.objs.size)) { s with heap:=h' }):
 wpAny (model prog w) A (pyNext (.ref z)) Q E s:=by
 have i:s.TypeIs (.ref z) "zip" :=⟨_,h,rfl⟩
 exact wpAny_bind (wpAny_attempt (wpAny_callSpecial?_slot i F.slot_zip_next
  (wpAny_call_entry F.slot_zip_next i F.entry_zip_next
    (XD D h f d h1 h2 g e m k λh' l a2 a3 a4 a5 a6 a7=>wpAny_pure (j h' l a2 a3 a4 a5 a6 a7)) (F.args_zip_next_1 _))))
def xo (m:A.handled=u0) (D:ZipApart z TI TO i1 i2 l1 l2)
 (j:IsZip s.heap z TI TO .none) (h:IsPair s.heap TI (.ref i1) (.ref i2)) (f:IsPair s.heap TO a b)
 (h1:s.heap.IsListIter i1 l1 k1) (h2:s.heap.IsTupleIter i2 l2 k2) (i:s.heap.IsList l1 xs) (g:s.heap.IsTuple l2 ys) (d:xs[k1]? =u0\/ys[k2]? =u0)
 (l: ∀h',(∀ c o,c≠z->c≠TO->c≠i1->c≠i2->s.heap.get? c=y0 o->h'.get? c=y0 o)->Q u0 { s with heap:=h' }):wpAny (model prog w) A (pyNext (.ref z)) Q E s:=by
 have k:s.TypeIs (.ref z) "zip" :=⟨_,j,rfl⟩
 refine wpAny_bind (wpAny_attempt (wpAny_callSpecial?_slot k F.slot_zip_next
  (wpAny_call_entry F.slot_zip_next k F.entry_zip_next (QH m D j h f h1 h2 i g d λh' e q n=> ?_) (F.args_zip_next_1 _))))
 obtain⟨o,p,r⟩:=n
 refine wpAny_bind (wpAny_isInstance ⟨o,p,r⟩ isSubtype_stop ?_)
 exact wpAny_pure (l _ q)
end
abbrev qaV (h:Heap) (a:Addr):Heap:=h.push { cls:= .type "list_iterator",data:= .fields #[.ref a,.int 0 0] }
noncomputable abbrev xbi (h:Heap) (a l2:Addr):Heap:=(qaV h a).push { cls:= .type "tuple_iterator",data:= .fields #[.ref l2,.int 0 0] }
noncomputable abbrev qaW (h:Heap) (a l2:Addr):Heap:=(xbi h a l2).push { cls:= .type "tuple",data:= .seq #[.ref h.objs.size,.ref (qaV h a).objs.size] }
abbrev jaV (h:Heap) (a l2:Addr):Heap:=(qaW h a l2).push { cls:= .type "tuple",data:= .seq #[.none,.none] }
noncomputable abbrev JV (h:Heap) (a l2:Addr):Heap:=(jaV h a l2).push { cls:= .type "zip",data:= .fields #[.none,.bool false,.bool false,.ref (xbi h a l2).objs.size,.ref (qaW h a l2).objs.size] }
def WD (a l2:Addr) (xs k:Array Value):
 Meets (Builtin.«zip.__new__» ⟨[.type "zip",.ref a,.ref l2],[]⟩) (fun _ R s=>s.heap.IsList a xs/\s.heap.IsTuple l2 k ∧
  R (.ok (.ret (.ref (jaV s.heap a l2).objs.size))) { s with heap:=JV s.heap a l2 }):=
 .of_wp λprog w A R s h=>by
  obtain⟨m,g,d,l,i⟩:=s;obtain⟨f,c,h⟩:=h
  have j:=sub_zip
  have b:Heap.IsList (Shared.heap ⟨m,g,d,l,i⟩) a xs:=f
  have e:Heap.IsTuple (Shared.heap ⟨m.push { cls:= .type "list_iterator",data:= .fields #[.ref a,.int 0 0] },g,d,l,i⟩) l2 k:=Heap.IsTuple.push c _
  wp_walk using wpAny_pyIter_list b,wpAny_pyIter_tuple e
  exact⟨_,rfl,h⟩
section
variable {prog:Program}{w:World}{A:Around}{E:Value->Shared->Prop}{s:Shared}
def jU (i:s.heap.IsList l1 xs) (f:s.heap.IsTuple l2 ys)
 (h: ∀h',IsZip h' (s.heap.objs.size+4) (s.heap.objs.size+2) (s.heap.objs.size+3) .none->IsPair h' (s.heap.objs.size+2) (.ref s.heap.objs.size) (.ref (s.heap.objs.size+1)) →
   IsPair h' (s.heap.objs.size+3) .none .none->h'.IsListIter s.heap.objs.size l1 0->h'.IsTupleIter (s.heap.objs.size+1) l2 0->h'.objs.size=s.heap.objs.size+5 →
   (∀ c o,s.heap.get? c=y0 o->h'.get? c=y0 o)->Q (.ref (s.heap.objs.size+4)) { s with heap:=h' }):
 wpAny (model prog w) A (call (.type "zip") [.ref l1,.ref l2]) Q E s:=by
 refine callType_new F.called_zip (by decide) (F.typeCall_zip_2 _ _) (F.newCall_zip_2 _ _) (λobj=>F.args_object_init_3 obj _ _) F.entry_zip_new
  (WD l1 l2 xs ys) ⟨i,f,?_⟩
 have d:(qaV s.heap l1).objs.size=s.heap.objs.size+1:=Ag1 ..
 have a:(xbi s.heap l1 l2).objs.size=s.heap.objs.size+2:=by rw [Ag1,d]
 have g:(qaW s.heap l1 l2).objs.size=s.heap.objs.size+3:=by rw [Ag1,a]
 have b:(jaV s.heap l1 l2).objs.size=s.heap.objs.size+4:=by rw [Ag1,g]
 have m:(JV s.heap l1 l2).objs.size=s.heap.objs.size+5:=by rw [Ag1,b]
 have e:(JV s.heap l1 l2).get? (jaV s.heap l1 l2).objs.size=y0 _:=Ab6 _ rfl
 have l:(JV s.heap l1 l2).get? (qaW s.heap l1 l2).objs.size=y0 _:=Aa1 _ (Ab6 _ rfl)
 have k:(JV s.heap l1 l2).get? (xbi s.heap l1 l2).objs.size=y0 _:=Aa1 _ (Aa1 _ (Ab6 _ rfl))
 have j:(JV s.heap l1 l2).get? (qaV s.heap l1).objs.size=y0 _:=Aa1 _ (Aa1 _ (Aa1 _ (Ab6 _ rfl)))
 have n:(JV s.heap l1 l2).get? s.heap.objs.size=y0 _:=Aa1 _ (Aa1 _ (Aa1 _ (Aa1 _ (Ab6 _ rfl))))
 show _/\_
 rw [a,g,b]at e
 rw [d,a]at k
 rw [g]at l
 rw [d]at j
 rw [b]
 exact⟨⟨_,e,rfl⟩,h _ e k l ⟨_,n,rfl,rfl⟩ ⟨_,j,rfl,rfl⟩ m λc o x=>
  Aa1 _ (Aa1 _ (Aa1 _ (Aa1 _ (Aa1 _ x))))⟩
end
end PySem
namespace L2
open PySem PySem.Spec PyProof.Rows
section
variable {X:Cx}{k8:List (Addr×Obj)}{U:St}{H:Hp}{s:Shared}{h':Heap}
def Inv.turnedL {ch:List Addr}(I:Inv X k8 U H s) (k: ∀b o,b∉ch->s.heap.get? b=y0 o->h'.get? b=y0 o) (f: ∀b∈ch,X3 X k8 H b):Inv X k8 U H { s with heap:=h',toks:=t' }:=by
 have d: ∀b u,H b=y0 u->b∉ch:=λb u q z=>by rw [(f b z).1]at q;cases q
 refine I.step (λb j=> ?_) (λb o _ _ a e _=>k b o a e) (λb o _ _ a e _=>⟨o.slots,k b o a e⟩) (λ_ _ _ _ n=>n)
  (λb o a e=>⟨o,k b o a e⟩) (λ_ _ e=>e) (λ_ _ _ e=>e) (λb B e=>⟨#[],by rw [e];simp⟩) (λm h=> ?_) (λb u q=> ?_) I.bare
 ·obtain⟨C,w,A,g,x,i⟩:=f b j
  exact⟨g,w,x,i⟩
 ·obtain⟨o,p,y,l,r⟩:=h
  exact⟨o,p,y,k _ o (λz=>(f _ z).2.1 rfl) l,r⟩
 ·refine(I.hok b u q).stay (λc v a t=>k c v ?_ t) (λ_ q=>q) λ_ _ q=>q
  rcases a with z | z
  ·rw [z];exact d b u q
  ·exact d c _ z
end
noncomputable def xdN (K:Aa6) (l a:Addr):It:=
 ⟨λi H=> ∃xs x ys y,SqL K H l xs/\xs[i]? =y0 x/\qdV K H a ys/\ys[i]? =y0 y,
   λi H v H'=> ∃p x y,H p=u0/\v= .ref p/\H'=zdL H p (.tup [x,y])/\(∀ xs,SqL K H l xs->xs[i]? =y0 x)/\ ∀ys,qdV K H a ys->ys[i]? =y0 y,
   λi H=> ∃xs ys,SqL K H l xs/\qdV K H a ys/\min xs.length ys.length=i⟩
def jaX {K:Aa6}(z TI TO i1 i2 l a) (D:ZipApart z TI TO i1 i2 l a):qa6 P w K (.Tuple elts x1 tp) (xdN K l a) [z,TI,TO,i1,i2] z
 (λi h=>IsZip h z TI TO .none/\IsPair h TI (.ref i1) (.ref i2)/\(∃ c d,IsPair h TO c d)/\h.IsListIter i1 l i/\h.IsTupleIter i2 a i) where
 mem:=by simp
 obj:=λi h r b g=>by
  obtain⟨A,j,⟨c,d,m⟩,⟨o1,V,c1,d1⟩,⟨o2,W,c2,d2⟩⟩:=r
  simp only [Ab4,Ac2,or_false]at g
  rcases g with e | e | e | e | e
  ·rw [e];exact⟨_,A,λv z=>by cases z⟩
  ·rw [e];exact⟨_,j,λv z=>by cases z⟩
  ·rw [e];exact⟨_,m,λv z=>by cases z⟩
  ·rw [e];exact⟨o1,V,λv z=>by rw [d1]at z;cases z⟩
  ·rw [e];exact⟨o2,W,λv z=>by rw [d2]at z;cases z⟩
 keep:=λi h h' r k=>by
  obtain⟨A,j,⟨c,d,m⟩,J,L⟩:=r
  exact⟨k z (by simp) _ A,k TI (by simp) _ j,⟨c,d,k TO (by simp) _ m⟩,J.at λo e=>k i1 (by simp) o e,L.at λo e=>k i2 (by simp) o e⟩
 item:=by
  intro X hP hw T hc i B s U H E I Q r Z
  subst hP hw T
  obtain⟨A,j,⟨c,d,m⟩,J,L⟩:=r
  obtain⟨xs,x,ys,y,S,M,t,hy⟩:=Z
  obtain⟨N,rv,p,_⟩:=I.list S
  obtain⟨n,C,p2,_⟩:=I.tuple t
  obtain⟨u,hu,ru⟩:=rv.get M
  obtain⟨u2,hu2,Y⟩:=C.get hy
  refine Jn D A j m J L p.isList (show s.heap.IsTuple a n.toArray from p2) (by simpa using hu) (by simpa using hu2) λh3 a1 a2 a3 a4 a5 a6 R=> ?_
  refine⟨_,rfl,wpAny_letOwnedTupleGo_zip a1 λh4 hz4 F=> ?_⟩
  have F:Aj8 z h3 h4:=F
  have lt: ∀ {c o},s.heap.get? c=y0 o->c≠s.heap.objs.size:=λe=>Ac3 (Ab5 e)
  have hn:=I.hok.fresh (Aa5 _)
  have I1:Inv X B U (zdL H s.heap.objs.size (.tup [x,y])) { s with heap:=s.heap.push { cls:= .type "tuple",data:= .seq #[u,u2] } }:=by
   refine I.laid (λb o q=>Aa1 _ q) (Aa5 _) ⟨by simp only [Ab9,Am6];rw [sizeLine_eq];decide,[u,u2],.cons ru (.cons Y .nil),?_⟩
   exact⟨_,Ab6 s.heap rfl,rfl,rfl,_,rfl⟩
  have fz: ∀b∈ [z,TI,TO,i1,i2],b≠s.heap.objs.size:=λb g=>by
   obtain⟨o1,V,_⟩:=J
   obtain⟨o2,W,_⟩:=L
   simp only [Ab4,Ac2,or_false]at g
   rcases g with e | e | e | e | e
   ·rw [e];exact lt A
   ·rw [e];exact lt j
   ·rw [e];exact lt m
   ·rw [e];exact lt V
   ·rw [e];exact lt W
  have I2:=I1.turnedL (t':=s.toks) (ch:= [z,TI,TO,i1,i2]) (λb o g q=>by
   simp only [Ab4,Ac2,or_false,not_or]at g
   obtain⟨b1,b2,b3,b4,b5⟩:=g
   refine(F.2 b b1).trans ?_
   rcases Heap.get?_push_cases (show (s.heap.push { cls:= .type "tuple",data:= .seq #[u,u2] }).get? b=some o from q)with⟨e1,e2⟩ | e1
   ·rw [e1,e2];exact a5
   ·exact R b o b1 b3 b4 b5 e1) (λb g=>by
   obtain⟨f0,f⟩:=Q b g
   exact⟨by rw [qa (fz b g)];exact f0,f⟩)
  refine⟨.ref s.heap.objs.size,_,I2,rfl,⟨s.heap.objs.size,x,y,hn,rfl,rfl,λzs G=>by rw [I.list_inj G S];exact M,λzs G=>by rw [I.tuple_inj G t];exact hy⟩,?_,λb g=>by rw [qa (fz b g)];exact(Q b g).1⟩
  exact⟨hz4,(F.2 TI D.TIz).trans (R _ _ D.TIz D.TITO D.TIi1 D.TIi2 j),⟨_,_,(F.2 TO D.TOz).trans a2⟩,a3.at λo e=>(F.2 i1 D.i1z).trans e,a4.at λo e=>(F.2 i2 D.i2z).trans e⟩
 done:=by
  intro X hP hw T hc i B s U H E I Q r Z
  subst hP hw T
  obtain⟨A,j,⟨c,d,m⟩,J,L⟩:=r
  obtain⟨xs,ys,S,t,M⟩:=Z
  obtain⟨N,rv,p,_⟩:=I.list S
  obtain⟨n,C,p2,_⟩:=I.tuple t
  have hl:=rv.length
  have hl2:=C.length
  have O:N.toArray[i]? =u0\/n.toArray[i]? =none:=by
   rcases Nat.le_total xs.length ys.length with q | q
   ·exact .inl (Array.getElem?_eq_none (by rw [Aa8];rw [Al q]at M;omega))
   ·exact .inr (Array.getElem?_eq_none (by rw [Aa8];rw [Nat.min_eq_right q]at M;omega))
  exact xo (I.ok.hd hc) D A j m J L p.isList (show s.heap.IsTuple a n.toArray from p2) O λh3 R=>⟨rfl,I.turnedL (λb o g q=>by
   simp only [Ab4,Ac2,or_false,not_or]at g
   exact R b o g.1 g.2.2.1 g.2.2.2.1 g.2.2.2.2 q) Q⟩
 self:=λ_ _ _ _ _ r h=>wpAny_pyIter_zip r.1 h
def qaU (n l t:Nat) (h1:l<n) (h2:t<n):ZipApart (n+4) (n+2) (n+3) n (n+1) l t:=by
 constructor<;>exact λe=>absurd (show @Eq Nat _ _ from e) (by omega)
noncomputable def jdf (K:Aa6) (b:TA):TI:=λU H R=>b U H λc H1=> ∃l a xs ys,c= [.ref l,.ref a]/\SqL K H1 l xs/\qdV K H1 a ys/\R (xdN K l a) H1
def xa9:bootBuiltins "zip" =some (.type "zip"):=by decide +kernel
def jcq (N:Gl X "zip") (G:X.mg "zip" =none) (D:PA X [a,b] ta) (E:starEach [a,b] X.env= [(false,eval a X.env),(false,eval b X.env)]:=by rfl) (f:starEach [b] X.env= [(false,eval b X.env)]:=by rfl):PI X (.Tuple elts x1 tp) (.Call (.Name "zip" p) [a,b] [] pos) (jdf X.K ta):=by
 intro g s U H R I h
 refine Call_ (Qx I N G xa9 (PyProof.Rows.callWith_type1 (zdv (D pos g s U H _ I h) λQ d ⟨T,z,i,J,L⟩=> ?_) (by rw [E,f]) (by rw [f];rfl)))
 obtain⟨l,t,P,S,e,M,k,q⟩:=L
 subst e
 cases J with
 | cons r A=>
  cases A with
  | cons F j=>
   cases j
   cases r
   cases F
   obtain⟨B,rv,pl,_⟩:=i.list M
   obtain⟨m,C,pt,_⟩:=i.tuple k
   have v:=pl.isList
   have w:=pt
   have y:l<d.heap.objs.size:=by obtain⟨o,e,_⟩:=v;exact Ab5 e
   have l2:t<d.heap.objs.size:=by obtain⟨o,e,_⟩:=w;exact Ab5 e
   refine jU v w λO n a2 a3 a4 a5 a6 K=> ?_
   refine wpAny_pyIter_zip n ?_
   refine⟨d.heap.objs.size+4,[d.heap.objs.size+4,d.heap.objs.size+2,d.heap.objs.size+3,d.heap.objs.size,d.heap.objs.size+1],_,_,z,rfl,i.kept K,
    jaX (d.heap.objs.size+4) (d.heap.objs.size+2) (d.heap.objs.size+3) d.heap.objs.size (d.heap.objs.size+1) l t (qaU _ l t y l2),⟨n,a2,⟨_,_,a3⟩,a4,a5⟩,λc u=> ?_,q⟩
   have x:d.heap.objs.size<=c:=by
    simp only [Ab4,Ac2,or_false]at u
    rcases u with e | e | e | e | e<;>rw [e]<;>first | exact Aa5 _ | exact Nat.le_add_right _ _
   exact i.fpOk x (i.hok.fresh x)
end L2
namespace HT
open PySem PyProof.Rows
section
open PySem.SeqAt
open PySem.AutoSeq1 (wpAny_loadPart')
open PySem.MeetsSeq PySem.MeetsSeq2 PySem.MeetsSeq3
def JZ (a:IntsAre us ns)(h): ∃t,us[i]= .int (ns.getD i 0) t/\ns.drop i=ns.getD i 0::ns.drop (i+1):=by
 obtain⟨t,e⟩:=IntsAre.int_at a i us[i] (Aa4 h)
 have b:i<ns.length:=by rw [← a.length];exact h
 refine⟨t,e,?_⟩
 rw [Al7 b,Ab7,Aa4 b]
 rfl
def qbN (l b:Addr) (j f:Array Value) (n N:Nat) (dd G:Option Addr) (sl F:Array (Option Value)) (hsz:j.size=f.size) (z D:List Int) (L:IntsAre j.toList z) (K:IntsAre f.toList D) (k:Nat):
 ∀i:Nat,j.size-i=k->Meets (Builtin.«list.__eq__.loop» ⟨[.ref l,.ref b,rawInt i,rawInt 0],[]⟩)
  (λA R s=>s.heap.get? l=some { cls:= .type "list",dict:=dd,data:= .seq j n,slots:=sl }/\s.heap.get? b=some { cls:= .type "list",dict:=G,data:= .seq f N,slots:=F } ∧
    R (.ok (.ret (.bool (lexLt (z.drop i) (D.drop i))))) s):=by
 have V:j.size=z.length:=by rw [← L.length];simp
 have U:f.size=D.length:=by rw [← K.length];simp
 induction k with
 | zero=>
  intro i P prog w A R s h
  obtain⟨I,g,d,H,E⟩:=s;obtain⟨x,v,h⟩:=h
  wp_walk using wpAny_loadPart' x,wpAny_loadPart' v
  have m:j[((i:Nat):Int).toNat]? =none:=by simp;omega
  have o:f[((i:Nat):Int).toNat]? =none:=by simp;omega
  rw [List.drop_eq_nil_of_le (by omega),List.drop_eq_nil_of_le (by omega),qH]at h
  rw [m,o]
  wp_walk using wpAny_loadPart' x,wpAny_loadPart' v
  show R (.ok (.ret (.bool (v9 (j.size<f.size))))) _
  rw [hsz]
  simpa using h
 | succ k Q=>
  intro i P prog w A R s h
  obtain⟨I,g,d,H,E⟩:=s;obtain⟨x,v,h⟩:=h
  wp_walk using wpAny_loadPart' x,wpAny_loadPart' v
  have y:i<j.size:=by omega
  have r:i<f.size:=by omega
  have m:j[((i:Nat):Int).toNat]? =y0 j[i]:=by simp [y]
  have o:f[((i:Nat):Int).toNat]? =y0 f[i]:=by simp [r]
  have S:((i:Int)+1)=((i+1:Nat):Int):=by push_cast;rfl
  obtain⟨t,C,T⟩:=JZ L (i:=i) (by simpa using y)
  obtain⟨u,B,M⟩:=JZ K (i:=i) (by simpa using r)
  rw [Array.getElem_toList]at C B
  rw [T,M,lexLt_cons]at h
  generalize z.getD i 0=a at C h
  generalize D.getD i 0=c at B h
  rw [m,o,C,B]
  obtain⟨e,O,p⟩:=xaU A.in1 ⟨I,g,d,H,E⟩ a t c u
  refine wpAny_bind (O prog w _ _ ?_)
  cases e with
  | true=>
   rw [if_pos (p.mp rfl)]at h
   wp_walk
   rw [S]
   exact⟨plainId_quiet plain_eq_loop _,codeAny_builtin entry_eq_loop (by
    rw [Around.under_plainId plain_eq_loop _]
    exact Q (i+1) (by omega) prog w A R _ ⟨x,v,h⟩)⟩
  | false=>
   rw [if_neg (λq=>absurd (p.mpr q) Ab8)]at h
   have J:=xaZ A.in1 ⟨I,g,d,H,E⟩ a t c u prog w
   wp_walk using wpAny_loadPart' x,wpAny_loadPart' v
   rw [m,o,C,B]
   wp_walk using J
   simpa using h
def qQ (l b) (items items2) (n n2) (dd dd2) (sl sl2) (hsz:items.size=items2.size) (a c:List Int) (j:IntsAre items.toList a) (i:IntsAre items2.toList c):
 Meets (Builtin.«list.__lt__» ⟨[.ref l,.ref b],[]⟩)
  (λA R s=>s.heap.get? l=some { cls:= .type "list",dict:=dd,data:= .seq items n,slots:=sl }/\s.heap.get? b=some { cls:= .type "list",dict:=dd2,data:= .seq items2 n2,slots:=sl2 } ∧
    R (.ok (.ret (.bool (lexLt a c)))) s):=by
 intro prog w A R s h
 obtain⟨p,g,d,o,m⟩:=s;obtain⟨f,e,h⟩:=h
 have k:=AutoSeq1.sub_list_list
 wp_walk using wpAny_loadPart' f,wpAny_loadPart' e
 exact⟨plainId_quiet plain_eq_loop _,codeAny_builtin entry_eq_loop (by
  rw [Around.under_plainId plain_eq_loop _]
  exact qbN l b items items2 n n2 dd dd2 sl sl2 hsz a c j i _ 0 rfl prog w A R _ ⟨f,e,by simpa using h⟩)⟩
end
section
variable {prog:Program}{w:World}{A:Around}{E:Value->Shared->Prop}{s:Shared}
def lt_lstInts (u:s.heap.IsList l items) (t:s.heap.IsList b items2) (hsz:items.size=items2.size) (y:IntsAre items.toList ns) (v:IntsAre items2.toList ms)
 (r:A.units<cLine) (h:Q (.bool (lexLt ns ms)) s):wpAny (model prog w) A (compareOp .Lt (.ref l) (.ref b)) Q E s:=by
 obtain⟨⟨p,dd,i,sl⟩,k,o,n,j⟩:=id u
 obtain⟨⟨m,f,g,e⟩,a,d,q,c⟩:=id t
 simp only at o j d c
 subst o j d c
 exact richCompare_meets_room (op:= .Lt) ⟨_,k,rfl⟩ ⟨_,a,rfl⟩ PySem.F.slot_list_lt PySem.F.entry_list_lt (PySem.F.args_list_lt_2 _ _) (qQ l b items items2 n q dd f sl e hsz ns ms y v)
  ⟨k,a,show Value.bool (lexLt ns ms)≠Value.notImplemented/\Q (.bool (lexLt ns ms)) s from⟨(λx=>nomatch x),h⟩⟩ r
end
end HT
namespace L2
open PySem PySem.Spec PyProof.Rows
section
variable {X:Cx}
noncomputable def xdj (K:Aa6):R2:=λx y H Q=> ∃a b c d,x= .ref a/\y= .ref b/\SqL K H a (c.map V.int)/\SqL K H b (d.map V.int)/\c.length=d.length/\Q (.bl (HT.lexLt c d)) H
def xbs (l:X.A.units<cLine):xdH X (compareOp .Lt) (xdj X.K):=by
 intro d s U H x y v u Q I z n h
 obtain⟨a,b,o,r,rfl,rfl,k,m,A,q⟩:=h
 cases z
 cases n
 obtain⟨j,e,p,_⟩:=I.list k
 obtain⟨c,f,t,_⟩:=I.list m
 have i:=WE e
 have w:=WE f
 have g:=e.length
 have l2:=f.length
 rw [Aa]at g l2
 exact HT.lt_lstInts p.isList t.isList (by rw [Aa8,Aa8];omega) i w l ⟨.bl (HT.lexLt o r),H,I,rfl,q⟩
end
end L2
set_option maxHeartbeats 8000000
namespace L2
open PySem PySem.Spec PyProof.Rows
open Sem (wp)
abbrev K2:=List (Int ⊕ List Int)
section
variable (prog:Program) (w:World)
inductive wN (h:Heap):K2->List Value->Prop
 | nil:wN h [] []
 | int {i:Int}{t:Tok}{ks:K2}{vs:List Value}:wN h ks vs->wN h (.inl i::ks) (.int i t::vs)
 | tup {l:List Int}{a:Addr}{ks:K2}{vs:List Value}:IsTupleKey (intKind prog w) h l a->wN h ks vs->wN h (.inr l::ks) (.ref a::vs)
end
abbrev WK:=Int×List Int×List Int
def zcG (l:List Int):Int:=reduceHash (Builtin.Tuple.tupleHashOf (l.map hashInt))
def jcT (k:WK):Int:=reduceHash (Builtin.Tuple.tupleHashOf [hashInt k.1,zcG k.2.1,zcG k.2.2])
def xdg (x:WK×Addr×Value):DictEntry:=⟨jcT x.1,.ref x.2.1,x.2.2⟩
noncomputable def DW (a:Addr) (xs:List (WK×Addr×Value)):HO:= .ext λh=>(a==sysModules)=y9/\xs.length<=sizeLine/\(xs.map (·.1)).Nodup/\ ∃o es b,h.get? a=y0 o/\o.ExactDict/\o.data= .dict es b/\es.toList=xs.map xdg
section
variable {X:Cx}{k8:List (Addr×Obj)}{U:St}{H:Hp}{s:Shared}{a b:Addr}{k:WK}{xs:List (WK×Addr×Value)}{r:Value}{A:Around}{E:Value->Shared->Prop}
def xbR (I:Inv X k8 U H s):sysModules<s.heap.objs.size:=by
 have h:=(I.mod.glob.keeps I.bk).lt
 exact Nat.lt_trans (by decide) h
end
open PySem.AutoSeq1 (wpAny_loadPart')
open MeetsSeq MeetsSeq2 MeetsSeq3 SeqRoads2 PySem.SeqAt
open PySem PySem.Spec PyProof.Rows PyProof.Rows.KTD PyProof.V
def zdi (K:Aa6) (a:Addr) (T:List (Str×PyData)):Prop:=tabLook flatLooks (λb=>K.lookup b) a T=k9
open PySem PySem.Spec PySem.Calls PySem.W PyProof.Rows
def JK:List Value->Bool
 | []=>y9
 | x::r=>match x with
  | .ref _=>JK r
  | _=>x::r==wu
theorem Jp {P:List Value->Prop}(a:P wu) (h1: ∀c r,P r->P (.ref c::r)): ∀ {l},JK l=k9->P l
 | [],e=>by cases e
 | x::r,e=>by
  unfold JK at e
  split at e
  ·exact h1 _ _ (Jp a h1 e)
  ·rw [beq_iff_eq.mp e];exact a
def QM (self)(e:JK l=k9):refuseLoop self "__setattr__" l=pure ():=
 Jp (P:=fun l=>refuseLoop self "__setattr__" l=pure ()) (PySem.F.store_ValueError.passes self) (fun c r h=>by rw [refuseLoop_ref];exact h) e
def qN (e:JK l=true):l.contains (.type "object")=true:=
 Jp (P:=fun l=>l.contains (.type "object")=true) (by decide +kernel) (fun c r h=>by rw [List.contains_cons,h,Bool.or_true]) e
def zaa (e:JK l=true):l.contains (.type "BaseException")=true:=
 Jp (P:=fun l=>l.contains (.type "BaseException")=true) (by decide +kernel) (fun c r h=>by rw [List.contains_cons,h,Bool.or_true]) e
def ZY (e:JK l=k9):l.isEmpty=false:=
 Jp (P:=λl=>l.isEmpty=y9) rfl (λc r h=>rfl) e
def qb8 (K:Frag) (C:Addr):Bool:=(clsIn K C).any λcd=>JK cd.mro&&cd.hasDict
def xav {K:Frag}(h:qb8 K C=k9): ∃cd,clsIn K C=y0 cd/\JK cd.mro=k9/\cd.hasDict=true:=by
 obtain⟨cd,b,a⟩:=PySem.W.any_some h
 rw [Aa7]at a
 exact⟨cd,b,a.1,a.2⟩
section
variable {prog:Program}{w:World}{A:Around}{E:Value->Shared->Prop}{s:Shared}{K:Frag}{x C t:Addr}{f:Str}{u:Value}
def xaD (X:K.In s.heap) (j:s.heap.get? x=some (xS C t none)) (G:qb8 K C=true) (B:findIn K (.ref C) "__setattr__" =some (some (.builtin "object.__setattr__"))) (L:findIn K (.ref C) f=some none)
 (h: ∀h',(∀ b o,b≠x->s.heap.get? b=y0 o->h'.get? b=y0 o)->h'.get? x=y0 (xS C t (y0 s.heap.objs.size))->h'.Ns1 s.heap.objs.size (λy=>if y=f then y0 u else u0)->Q () { s with heap:=h',toks:=s.toks+2 }):
 wpAny (model prog w) A (setAttr (.ref x) f u) Q E s:=by
 obtain⟨cd,r,m,D⟩:=xav G
 have I:PySem.W.InstAt s.heap x (xS C t u0) C none:=⟨j,rfl,rfl,trivial⟩
 refine PySem.W.set_plain X I B ?_
 have a:=PySem.F.store_object
 have sub:Looks (model prog w) s.heap (isInstance (.ref x) (.type "object")) true:=I.type.andThen (looks_mroIn X (by unfold mroIn;rw [r,Option.bind_some,if_neg (by rw [ZY m];decide),qN m]))
 have J:Looks (model prog w) s.heap (mroOf (.ref C)) cd.mro:=(looks_clsIn X r).andThen .now
 have v:=looks_findIn (M:=model prog w) X L
 refine codeAny_call_builtin a.slot.plain a.entry (@check_slot (model prog w) _ _ { s with toks:=s.toks+1 } "object.__setattr__" "object" "__setattr__" (.ref x) [.str f s.toks,u] [] _ a.kind a.split sub (a.args (.ref x) (.str f s.toks) u) ?_)
 rw [osa_eq,refuse_eq]
 refine wpAny_bind (wpAny_bind (I.type.here (s:= { s with toks:=s.toks+1 }) (wpAny_bind (J.here (s:= { s with toks:=s.toks+1 }) ?_))))
 rw [QM _ m]
 refine wpAny_pure (wpAny_bind (I.type.here (s:= { s with toks:=s.toks+1 }) (wpAny_bind (v.here (s:= { s with toks:=s.toks+1 }) (wpAny_bind (wpAny_pure ?_))))))
 have i:(s.heap.push { cls:= .type "dict",data:= .dict #[] }).get? x=some (xS C t none):=Heap.get?_push_of_some _ j
 have c:=Ac3 (Ab5 j)
 refine wpAny_bind (wpAny_pure (wpAny_bind (wpAny_bind (wpAny_loadPart j (wpAny_bind (PySem.W.Looks.here (PySem.W.looks_clsIn X r) ?_))))))
 rw [D]
 have n:((s.heap.push { cls:= .type "dict",data:= .dict #[] }).update x fun o=> { o with dict:=some s.heap.objs.size }).get? s.heap.objs.size=some { cls:= .type "dict",data:= .dict #[] }:=
  (An4 _ _ _ _ c.symm).trans (Ab6 _ rfl)
 have k:((s.heap.push { cls:= .type "dict",data:= .dict #[] }).update x fun o=> { o with dict:=some s.heap.objs.size }).Ns s.heap.objs.size (fun _=>none):=
  ⟨_, #[],_,n,rfl,λe z=>absurd z (by simp),λ_=>rfl⟩
 refine wpAny_bind (wpAny_alloc (wpAny_bind (wpAny_update i (wpAny_pure ?_))))
 refine wpAny_bind (wpAny_pure (wpAny_bind (wpAny_nsSet1 (Heap.Ns1.of_empty k) λh' g d=> ?_)))
 obtain⟨O,N,H,p,l,q⟩:=g.count (PySem.Within.cons f u PySem.Within.nil)
 refine wpAny_bind (wpAny_lookBehind p (by rw [l];exact pastItsLine_dict (Ac0 q (by rw [Ab9,Am6,sizeLine_eq];omega))) ?_)
 refine wpAny_pure (h h' (λb o F e=> ?_) ?_ g)
 ·exact(d.2 b (Ac3 (Ab5 e))).trans ((An4 _ _ _ _ F).trans (Aa1 _ e))
 ·exact(d.2 x c).trans (Ah9 _ i rfl)
end
noncomputable def ZE (K:Frag) (C:Addr):Bool:=match K.lookup C with
 | some ⟨.type "type",_,.cls cd,sl⟩=>(match cd.mro,sl.toList with
  | .ref c::a,[_,_,_,_,y0 (.builtin n),_]=>c==C&&(n== "ValueError.__new__" &&(!cd.hasDel&&(tailIn K wu a&&nsOkIn K cd.ns)))
  | _,_=>y9)
 | _=>y9
def qD {K:Frag}(X:K.In h) (q:ZE K C=k9):
 ∃i e nm d bs b sn sub ab col dd k0 k1 k2 k3 k5 mN,h.get? C=y0 (excClassObj nm d C e bs i b sn sub ab col dd k0 k1 k2 k3 k5 "ValueError.__new__")/\h.Ns e mN/\OwnTail h wu i:=by
 unfold ZE at q
 split at q
 next dd cd sl n=>
  split at q
  next s k k0 k1 k2 k3 nn k5 f o=>
   simp only [Aa7,beq_iff_eq,Ao]at q
   obtain⟨rfl,rfl,j,r,g⟩:=q
   obtain⟨nm,bs,p,c,d,b,sn,sub,ab,col,m⟩:=cd
   dsimp only at f j g
   subst f j
   have a:sl= #[k0,k1,k2,k3,y0 (.builtin "ValueError.__new__"),k5]:=by
    cases sl with
    | mk l=>exact congrArg Array.mk o
   subst a
   exact⟨k,c,nm,d,bs,b,sn,sub,ab,col,dd,k0,k1,k2,k3,k5,_,X _ _ n,.of_isNs (isNs_of_in X g),tail_of_in X r⟩
  next=>cases q
 next=>cases q
section
variable {prog:Program}{w:World}{A:Around}{E:Value->Shared->Prop}{h:Heap}{g:Array GenState}{d:Drawn}{t:Nat}{os:OsState}{K:Frag}{C fI:Addr}
noncomputable def jN (h:Heap) (C:Addr) (rest:List Value):Heap:=(h.push { cls:= .type "tuple",data:= .seq rest.toArray }).push (xS C h.objs.size none)
def Jv {rest:List Value}(e:h.get? b=y0 o):(jN h C rest).get? b=y0 o:=Aa1 _ (Aa1 _ e)
def Q1 {rest:List Value}:(jN h C rest).get? (h.objs.size+1)=y0 (xS C h.objs.size u0):=by
 have:=Heap.get?_push_size (h.push { cls:= .type "tuple",data:= .seq rest.toArray }) (o:=xS C h.objs.size none) rfl
 rwa [Ag1]at this
def za7 {rest:List Value}{Q:Value->Shared->Prop}(X:K.In h) (y:ZE K C=true) (u:findIn K (.ref C) "__init__" =some (some (.ref fI))) (s:typeIn K (.ref fI)=some (.type "function")) (c:rest.length<=sizeLine)
 (v:wpAny (model prog w) (A.under (.builtin "type.__call__" ⟨.ref C::rest,[]⟩)) (call (.ref fI) (.ref (h.objs.size+1)::rest)) (fun r s'=>r= .none/\Q (.ref (h.objs.size+1)) s') E ⟨jN h C rest,g,d,t,os⟩):
 wpAny (model prog w) A (call (.ref C) rest) Q E ⟨h,g,d,t,os⟩:=by
 obtain⟨p,z,D,N,bs,n,R,sub,L,q,dd,G,U,J,O,B,S,a,I,T⟩:=qD X y
 have F:=PySem.F.excBase_ValueError
 have P:=tc_lookup
 have H:=tc_bind (.ref C)
 have V:(⟨h,g,d,t,os⟩:Shared).TypeIs (.ref C) "type" :=⟨_,a,rfl⟩
 refine wpAny_call (codeAny_of_tree ?_)
 show wpAny _ _ (callAny (.ref C) _) _ _ _
 repeat (any_goals (first | assumption | with_reducible refine wpAny_loadPart_at a ?_ | wp_step))
 refine⟨rfl,codeAny_call_builtin_at (Code.quiet_builtin _ (by decide +kernel)) entry_typeCall (wpAny_check_type_call_sub a ?_)⟩
 repeat (first | with_reducible refine wpAny_loadPart_at a ?_ | with_reducible refine wpAny_madeBy_exc a ?_ | wp_step)
 refine codeAny_call_builtin_code (Code.quiet_builtin _ F.quiet) (wpAny_check_new_subT F T a (codeAny_exc_new_subT F T a ?_ c))
 show wpAny _ _ _ _ _ ⟨jN h C rest,g,d,t,os⟩
 have k:K.In (jN h C rest):=λb o e=>Jv (X b o e)
 have j:=Jv (C:=C) (rest:=rest) a
 have f:(jN h C rest).get? (h.objs.size+1)=y0 { cls:= .ref C,data:= .fields #[.ref h.objs.size,.none,.none,.none,.bool y9,.none] }:=Q1
 have i:(Value.ref C::p).contains (.ref C)=true:=by simp
 unfold isInstance
 repeat (first | with_reducible refine wpAny_loadPart_at f ?_ | (with_reducible refine wpAny_isSubtype_exc j ?_;rw [i]) | wp_step)
 show wpAny _ _ (typeLookup (.ref C) _) _ _ _
 refine(looks_findIn (M:=model prog w) k u).at ?_
 refine wpAny_holding (wpAny_bind ((bind_fn (M:=model prog w) k (.ref (h.objs.size+1)) s).at ?_))
 refine wpAny_bind (wpAny_mono v (λr s' m=> ?_) λ_ _ x=>x)
 obtain⟨rfl,l⟩:=m
 wp_walk
 exact l
end
def zaI (x C t:Addr) (a:Option Addr):HO:= .ext λh=>h.get? x=y0 (xS C t a)
def zaD (e:h.get? x=y0 (xS C t od)):ObjOk P w H h x (zaI x C t od):=⟨e,⟨_,e⟩,λ_ _ z k=>k _ z⟩
def qdC (H:Hp) (x:Addr):Hp:=λb=>if b=x then u0 else H b
def jan (h:b≠x):qdC H x b=H b:=if_neg h
def XX :qdC H x x=none:=if_pos rfl
section
variable {X:Cx}{k8:List (Addr×Obj)}{U:St}{H:Hp}{s:Shared}
def Inv.forget (I:Inv X k8 U H s) (a:H x=y0 (.ext g)):Inv X k8 U (qdC H x) s:=by
 have ne: ∀b o,H b=y0 o->(∀ g,o≠ .ext g)->qdC H x b=y0 o:=λb o q n=>by
  rw [jan (λe=>by rw [e,a]at q;cases q;exact n _ rfl)];exact q
 have nn: ∀b,H b=u0->qdC H x b=none:=λb q=>by
  unfold qdC
  split
  ·rfl
  ·exact q
 refine⟨I.ok,I.os,I.bare,⟨I.base.keep,I.base.slot,λb u e n a=>nn b (I.base.free b u e n a),I.base.there,λb d q=>ne b _ (I.base.tups b d q) (λ_ z=>by cases z),λb u v q=>ne b _ (I.base.frzs b u v q) (λ_ z=>by cases z),λb i q=> ?_⟩,
  I.loc,I.cell,nn _ I.free,λy c q=>nn _ (I.freeC y c q),λp j=> ?_,λb u q=> ?_,I.len⟩
 ·obtain⟨more,k⟩:=I.base.tbls b i q
  exact⟨more,ne b _ k (λ_ z=>by cases z)⟩
 ·obtain⟨h,a2,a3⟩:=I.pin p j
  exact⟨h,nn _ a2,a3⟩
 ·by_cases f:b=x
  ·rw [f,XX]at q;cases q
  ·rw [jan f]at q
   exact(I.hok b u q).stay (λ_ _ _ z=>z) (λc z=>ne c _ z (λ_ z=>by cases z)) λc d z=>ne c _ z (λ_ z=>by cases z)
def Inv.stored (I:Inv X k8 U H s) (j:H x=y0 (zaI x C t u0)) (n:RelV y u) (k: ∀b o,b≠x->s.heap.get? b=y0 o->h'.get? b=y0 o)
 (e:h'.get? x=y0 (xS C t (y0 s.heap.objs.size))) (p:h'.Ns1 s.heap.objs.size (λz=>if z=f then y0 u else u0)):
 Inv X k8 U (zdL (zdL H s.heap.objs.size (.xd [(f,y)])) x (zaI x C t (y0 s.heap.objs.size))) { s with heap:=h',toks:=t' }:=by
 have d:=(I.hok x _ j).1
 have c:=Ac3 (Ab5 d)
 have l:(h'.update x λ_=>xS C t u0).get? x=y0 (xS C t u0):=Ah9 _ e rfl
 have i: ∀b,b≠x->(h'.update x λ_=>xS C t u0).get? b=h'.get? b:=λb a=>An4 _ _ _ _ a
 have m:=I.laid (o:= .xd [(f,y)]) (t':=t') (λb o q=>by
  by_cases a:b=x
  ·subst a;rw [d]at q;cases q;exact l
  ·rw [i b a];exact k b o a q) (Aa5 _) ⟨_,p.at λo q=>(by rw [i _ c.symm];exact q),λg=>by
   by_cases h:g=f
   ·rw [if_pos h]
    subst h
    show RelO (match g==g with | true=>y0 y | false=>u0) _
    rw [beq_self_eq_true]
    exact n
   ·rw [if_neg h]
    show RelO (match g==f with | true=>y0 y | false=>u0) _
    rw [beq_eq_false_iff_ne.mpr h]
    exact trivial⟩
 refine m.write (by rw [qa c,j];exact True.intro) (.inl rfl) (λb o a q=> ?_) ⟨_,e⟩ (zaD e)
 exact(i b a).symm.trans q
end
structure jcI (K:Frag) (C:Addr) (f:Str):Prop where
 cls:ZE K C=k9
 ov:qb8 K C=k9
 sa:findIn K (.ref C) "__setattr__" =some (some (.builtin "object.__setattr__"))
 no:findIn K (.ref C) f=y0 u0
 kp:keepIn K (.ref C)=k9
noncomputable def qdp (K:Frag) (b c:TE) (f:Str):TS:=λD U H=>c U H λy H1=>b U H1 λx H2=> ∃a C t,x= .ref a/\H2 a=y0 (zaI a C t u0)/\jcI K C f/\ ∀dx,H2 dx=u0->dx≠a->D.nx U (zdL (zdL H2 dx (.xd [(f,y)])) a (zaI a C t (y0 dx)))
def xcw (n:PE X o ta) (w:PE X value tv) (p:swapsWith value (y0 (.Attribute o f pos')) pos.line X.env=pure y9):PS X (.Assign [.Attribute o f pos'] value pos) (qdp X.K ta tv f):=by
 intro b s U H D I h
 refine plainObj_wpAny_Assign_Attribute (zdv (w b s U H _ I h) λu m ⟨y,j,r,v,q⟩=>zdv (n b m U j _ r q) λl F ⟨x,E,g,z,a,C,t,ex,i,c,A⟩=> ?_) p
 subst ex
 obtain rfl:l=Value.ref a:=z
 have d:=(g.hok a _ i).1
 exact xaD g.kIn d c.ov c.sa c.no λB k e hn=>⟨U,_,g.stored i v k e hn,A _ (g.hok.fresh (Aa5 _)) (Al6 (Ab5 d))⟩
noncomputable def xcQ (K:Frag) (f:Str):Sp:=λb H Q _=> ∃a v C t,b= [.ref a,v]/\H a=y0 (zaI a C t u0)/\jcI K C f/\ ∀dx,H dx=u0->dx≠a->Q .non (zdL (zdL H dx (.xd [(f,v)])) a (zaI a C t (y0 dx)))
structure W4 (K:Frag) (f:Str) (fI:Addr) (fd:FuncData) (ps:List Str):Prop where
 ex: ∃x y8 st N n1 n2 p1 p2 p3 p4,Fun K x y8 st fI fd/\ps= [n1,n2]/\N= [n1,n2]/\Qp N ps (Qb st)/\Je st= [.Assign [.Attribute (.Name n1 p1) f p2] (.Name n2 p3) p4]/\(n1==("__debug__" :Str))=false/\(n2==("__debug__" :Str))=false ∧
  (n1==("__classdict__" :Str))=false/\(n2==("__classdict__" :Str))=false
 bd:Binds K fd ps []
 fn:typeIn K (.ref fI)=y0 (.type "function")
def qck {K:Frag}(Z:W4 K f fI fd ps):FnOk P w K mg base (qdL P w) 1 fI fd ps (xcQ K f):=by
 obtain⟨x,g,d,N,k,h,I,J,G,L,F,rfl,rfl,S,m,u,B,y,l⟩:=Z.ex
 refine Fun.okX F S (λr H Q E ⟨a,v,C,t,e,_⟩=>by subst e;rfl) ?_
 rintro p A b s H r Q E j ⟨a,v,C,t,e,o,c,q⟩
 subst e
 rw [m]
 have n:zdy (Qb d) k:=(S.par k (by simp)).elim .inl λz=> .inr (.inl z)
 have D:zdy (Qb d) h:=(S.par h (by simp)).elim .inl λz=> .inr (.inl z)
 refine⟨_,qb3 (xcw (zl (i:=0) rfl n u y) (zl (i:=1) rfl D B l) (by rfl)),?_⟩
 exact⟨v,rfl,.ref a,rfl,a,C,t,rfl,o,c,q⟩
def zaq {M:Model}{A:Around}{E:Value->Shared->Prop}{s:Shared}{env:Env}{v:Sem Value}{K:Frag}{C:Addr}{Q:Flow->Shared->Prop}(q:ZE K C=k9) (k:A.handled=u0)
 (h:wpAny M A v (λv a=> ∃e t c,v= .ref e/\K.In a.heap/\a.heap.get? e=y0 (xS C t c)/\E (.ref e) a) E s):wpAny M A (raiseStmt env (y0 v) u0) Q E s:=by
 unfold raiseStmt
 refine wpAny_bind (wpAny_mono h (λv a p=> ?_) λ_ _ x=>x)
 obtain⟨e,t,c,rfl,X,m,j⟩:=p
 obtain⟨n,r,y,G,bs,l,L,sub,D,o,dd,z,N,F,I,u,O,i,B,T⟩:=qD X q
 have b:(Value.ref C::n).contains (.type "BaseException")=true:=by rw [List.contains_cons,T.hasType PySem.F.excBase_ValueError.hasBase,Bool.or_true]
 have f:a.heap.get? e=y0 { cls:= .ref C,dict:=c,data:= .fields #[.ref t,.none,.none,.none,.bool y9,.none] }:=m
 obtain⟨J,g,d,H,w⟩:=a
 repeat (first | with_reducible refine wpAny_loadPart_at f ?_ | with_reducible refine wpAny_loadPart_at i ?_ | (with_reducible refine wpAny_isSubtype_exc i ?_;rw [b]) | wp_step)
 exact wpAny_raiseNew_none k j
section
variable {P:Program}{w:World}{K:Frag}{mg:Str->Option Value}{base:Heap}{N:List Str}{y8:Str}{scope:Scope}{f:Addr}{cd:Value}{A:Around}{outer:List Env}{s:Shared}{H:Hp}{E:XK}
noncomputable def jak (C:Addr) (a:Str) (E:XK) (t:TA):TS:=λ_ U H=>t U H λb H1=> ∃v,b= [v]/\ ∀dx,H1 dx=u0->E (.ref C) (y0 dx) (zdL H1 dx (.xd [(a,v)]))
def zah (m:jcI K C fl) (hi:findIn K (.ref C) "__init__" =some (some (.ref fI))) (Z:W4 K fl fI fd ps) (Y:mg x=some (.ref C)) (hg:Gl (zM (qdL P w) P w K mg base N y8 scope f cd A outer s H E) x)
 (S:Room 2 (A.deeper (envOfC y8 scope s.heap.objs.size f cd))) (V:PA (zM (qdL P w) P w K mg base N y8 scope f cd A outer s H E) [e] t)
 (W:starEach [e] (envOfC y8 scope s.heap.objs.size f cd)=(false,eval e (envOfC y8 scope s.heap.objs.size f cd))::starEach [] (envOfC y8 scope s.heap.objs.size f cd):=by rfl) (hd:(x==("__debug__" :Str))=false:=by decide):
 PS (zM (qdL P w) P w K mg base N y8 scope f cd A outer s H E) (.Raise (y0 (.Call (.Name x np) [e] [] k7)) u0 pos) (jak C fl E t):=by
 intro j X U R D I h
 rw [arm_exec_Raise]
 refine wpAny_bind (wpAny_standAt (zaq m.cls (I.ok.hd rfl) ?_))
 refine wpAny_bind (wpAny_mono (wpAny_Call_Name_kw (xv I hg Y ?_ hd)) (λv s3 h3=>wpAny_bind (wpAny_standAt (wpAny_pure h3))) λ_ _ x=>x)
 refine callWith_K I.ok.mod.kin m.kp (zdv (V k7 j X U R _ I h) λus a ⟨vs,k,i,r,v,Q,q⟩=>⟨i.kIn,?_⟩) W rfl
 subst Q
 obtain⟨u,rfl,y⟩: ∃u,us= [u]/\RelV v u:=by
  cases r with
  | cons y r2=>cases r2;exact⟨_,rfl,y⟩
 have B:=i.laid (h':=jN a.heap C [u]) (t':=a.toks) (λb o z=>Jv z) (Ah4 _) (zaD Q1)
 have d:k (a.heap.objs.size+1)=none:=i.hok.fresh (Ah4 _)
 refine za7 i.kIn m.cls hi Z.fn (show 1<=sizeLine by rw [sizeLine_eq];decide) ?_
 have F:=qck (P:=P) (w:=w) (mg:=mg) (base:=base) Z
 have hl:ps.length=2:=by obtain⟨_,_,_,_,_,_,_,_,_,_,_,rfl,_⟩:=Z.ex;rfl
 refine wpAny_call (codeAny_mono (F.run _ (envOfC y8 scope s.heap.objs.size f cd::outer) _ _ ⟨[.ref (a.heap.objs.size+1),u],[]⟩ [.ref (a.heap.objs.size+1),u] [.ref (a.heap.objs.size+1),v]
  (λM L=>M= .non/\ ∃c,k c=u0/\c≠a.heap.objs.size+1/\L=zdL (zdL (zdL k (a.heap.objs.size+1) (zaI (a.heap.objs.size+1) C a.heap.objs.size u0)) c (.xd [(fl,v)])) (a.heap.objs.size+1) (zaI (a.heap.objs.size+1) C a.heap.objs.size (y0 c)))
  (λ_ _ _=>False) (S.make C [u] []) (B.env0.make C [u] []) (by
    have:=Z.bd ⟨jN a.heap C [u],a.gens,a.drawn,a.toks,a.os⟩ [.ref (a.heap.objs.size+1),u] B.kIn (by rw [Ae7,hl];rfl)
    rwa [Ae7]at this) (.cons rfl (.cons y .nil)) ⟨_,v,C,a.heap.objs.size,rfl,xb,m,λc z ne=>⟨rfl,c,by rw [qa ne]at z;exact z,ne,rfl⟩⟩) λres s' l=> ?_)
 cases res with
 | error Q=>
  obtain⟨_,_,_,_,_,_,_,_,_,_,_,_,_,_,_,z⟩:=l
  exact z.elim
 | ok G=>
  cases G with
  | ret u'=>
   obtain⟨M,L,n,rv,rfl,c,z1,J,rfl⟩:=B.after l
   refine⟨rv,_,a.heap.objs.size,y0 c,rfl,n.kIn,(n.hok _ _ xb).1,?_⟩
   have O:=n.forget xb
   have T:qdC (zdL (zdL (zdL k (a.heap.objs.size+1) (zaI (a.heap.objs.size+1) C a.heap.objs.size u0)) c (.xd [(fl,v)])) (a.heap.objs.size+1) (zaI (a.heap.objs.size+1) C a.heap.objs.size (y0 c))) (a.heap.objs.size+1)=zdL k c (.xd [(fl,v)]):=by
    funext b
    by_cases p:b=a.heap.objs.size+1
    ·rw [p,XX,qa (Ne.symm J),d]
    ·rw [jan p,qa p]
     by_cases g:b=c
     ·rw [g,xb,xb]
     ·rw [qa g,qa g,qa p]
   rw [T]at O
   refine JE O (n.hok _ _ xb).1 (Heap.get?_none_of_le (Ac0 i.sz (Ah4 _))) ?_ (q c z1)
   rw [qa (Ne.symm J),d]
  | next=>exact False.elim l
  | brk=>exact False.elim l
  | cont=>exact False.elim l
end
section
variable {prog:Program}{w:World}{A:Around}{E:Value->Shared->Prop}{s:Shared}{K:Frag}{x C dx:Addr}{fl:Str}{u:Value}{ox:Obj}{mA:Str->Option Value}
def jbW (X:K.In s.heap) (v:s.heap.get? x=y0 ox) (P:ox.cls= .ref C) (N:notCls ox=k9) (F:ox.dict=y0 dx) (o:s.heap.Ns1 dx mA) (G:mA fl=y0 u) (z:handedIn u=k9) (H:qb8 K C=k9) (O:findIn K (.ref C) fl=y0 u0)
 (k:findIn K (.ref C) "__getattribute__" =some (some (.builtin "BaseException.__getattribute__"))) (J:findIn K (.ref C) "__getattr__" =some none)
 (h:Q u { s with toks:=s.toks+1 }):wpAny (model prog w) A (getAttr (.ref x) fl b) Q E s:=by
 obtain⟨cd,c,a,i⟩:=xav H
 obtain⟨l,g,d,t,D⟩:=s
 dsimp only at X v o h
 obtain⟨p,m,j⟩:=QR o
 have I:PySem.W.InstAt l x ox C (y0 p):=⟨v,P,N,by rw [F];exact m⟩
 have e:findObj K C (y0 p) fl=y0 (.value u):=PySem.W.findObj_own (by unfold hasDictIn;rw [c];exact i) O rfl (by rw [j,G])
 have q:=I.type (M:=model prog w)
 have L:=looks_findIn (M:=model prog w) X k
 have y:=looks_findIn (M:=model prog w) X J
 have B:=looks_find (M:=model prog w) X I e
 have sub:Looks (model prog w) l (isInstance (.ref x) (.type "BaseException")) true:=I.type.andThen (looks_mroIn X (by unfold mroIn;rw [c,Option.bind_some,if_neg (by rw [ZY a];decide),zaa a]))
 have r:=PySem.F.attrBase_ValueError
 have R:=r.ga.bind (.ref x)
 have n:(b&&onTheHeap (Value.builtin "BaseException.__getattribute__"))=false:=by cases b<;>rfl
 unfold getAttr getAttrBy
 refine wpAny_bind (wpAny_mkText (wpAny_holding (wpAny_bind (q.at (wpAny_bind (L.at ?_))))))
 have f:(Value.builtin "BaseException.__getattribute__" ==Value.builtin "object.__getattribute__")=false:=by decide +kernel
 dsimp only
 rw [f,Bool.and_false,if_neg (by decide)]
 unfold getAttrByItsOwn hookBefore
 refine wpAny_bind (y.at (wpAny_bind (wpAny_attempt (wpAny_holding ?_))))
 unfold callGetattribute
 rw [n,if_neg (by decide)]
 repeat (any_goals (first | assumption | wp_step))
 refine codeAny_call_builtin r.ga.plain PySem.F.entry_bexc_ga (@check_slot (model prog w) _ _ ⟨l,g,d,t+1,D⟩ "BaseException.__getattribute__" "BaseException" "__getattribute__" (.ref x) [.str fl t] [] _ (by decide +kernel) (by decide +kernel) sub (PySem.F.args_bexc_ga (.ref x) (.str fl t)) ?_)
 refine wpAny_bind (wpAny_pure (wpAny_bind (wpAny_pure (wpAny_bind (q.at (wpAny_bind (B.at ?_)))))))
 refine wpAny_pure ?_
 show wpAny _ _ (handedOut u) _ _ _
 rw [handedOut_of z]
 exact wpAny_pure h
end
structure qcC (K:Frag) (C:Addr) (f:Str):Prop where
 ov:qb8 K C=k9
 no:findIn K (.ref C) f=y0 u0
 ga:findIn K (.ref C) "__getattribute__" =some (some (.builtin "BaseException.__getattribute__"))
 gh:findIn K (.ref C) "__getattr__" =some none
noncomputable def zdr (K:Frag) (b:TE) (f:Str):TE:=λU H Q=>b U H λx H1=> ∃a C dx v,x= .ref a/\H1 a=y0 (jW a C (y0 dx))/\H1 dx=y0 (.xd [(f,v)])/\qcC K C f/\Q v H1
def jcL (t:PE X e ta) (A:attributeBase e f X.env (eval e X.env)=eval e X.env):PE X (.Attribute e f pos) (zdr X.K ta f):=by
 intro b s U H Q I h
 refine qbS A (zdv (t b s U H _ I h) ?_)
 rintro u p ⟨x,m,d,E,a,C,i,v,ex,D,n,c,q⟩
 subst ex
 obtain rfl:u=Value.ref a:=E
 obtain⟨o,B,F,hn,y⟩:=(d.hok a _ D).1
 obtain⟨j,w,r⟩: ∃j,p.heap.Ns1 i j/\ ∀g,RelO (List.lookup g [(f,v)]) (j g):=d.hok i _ n
 have k:=r f
 rw [show List.lookup f [(f,v)]=y0 v by simp [List.lookup]]at k
 obtain⟨G,z,l⟩:=RelO.some_of k
 exact jbW d.kIn B F hn (y i rfl) w z (jax l) c.ov c.no c.ga c.gh ⟨v,m,d.tok _,l,q⟩
def dI (ks:List Int):HO:= .dK (ks.map λk=>(.inl k,.bl k9))
def jdL (ks:List Int):List (zdw×Value):=ks.map λk=>(.inl k,.bool k9)
theorem qcu: ∀ {ks}{c},KV (ks.map λk=>((.inl k:zdw),V.bl k9)) c->c=jdL ks
 | [],_,.nil=>rfl
 | k::ks,(a,b)::c,.cons r t=>by
  obtain⟨e,d⟩:=r
  dsimp only at e d
  subst e
  cases (d)
  rw [qcu t]
  rfl
theorem zcy: ∀ks:List Int,KV (ks.map λk=>((.inl k:zdw),V.bl k9)) (jdL ks)
 | []=> .nil
 | k::ks=> .cons ⟨rfl,rfl⟩ (zcy ks)
def qbp (ks) (k):(valueAt (jdL ks) (.inl k)).isSome=ks.contains k:=by
 unfold valueAt jdL
 rw [Option.isSome_map,List.find?_map,Option.isSome_map]
 induction ks with
 | nil=>rfl
 | cons a ks b=>
  rw [List.find?_cons,List.contains_cons]
  by_cases h:a=k
  ·subst h;simp
  ·have c:=beq_eq_false_iff_ne.mpr λe=>h e.symm
   rw [c,Bool.false_or,←b]
   simp [h]
def jbi (ks:List Int) (k:Int):List Int:=if ks.contains k then ks else ks++ [k]
def jbD (ks) (k):stored (jdL ks) (.inl k) (.bool k9)=jdL (jbi ks k):=by
 have e:(jdL ks).any (λb=>b.1= .inl k)=ks.contains k:=by
  unfold jdL
  rw [List.any_map]
  induction ks with
  | nil=>rfl
  | cons a ks c=>
   rw [Af3,List.contains_cons,c]
   by_cases h:a=k
   ·subst h;simp
   ·have: ¬k=a:=λe=>h e.symm
    simp [h,this]
 unfold stored jbi
 rw [e]
 by_cases h:ks.contains k=k9
 ·rw [if_pos h,if_pos h]
  unfold jdL
  rw [Ac6]
  refine Ae λa _=> ?_
  simp only [Function.comp]
  split<;>rfl
 ·rw [if_neg h,if_neg h]
  simp [jdL]
section
variable {X:Cx}{k8:List (Addr×Obj)}{U:St}{H:Hp}{s:Shared}{a:Addr}{k:Int}{ks:List Int}{u r:Value}{A:Around}{E:Value->Shared->Prop}
def jbH (I:Inv X k8 U H s) (e:H a=y0 (dI ks)):ks.length<=sizeLine/\(a==sysModules)=y9/\s.heap.DictOf (qB X.prog X.w) a (jdL ks):=by
 obtain⟨z,c,d,b,dd⟩:=(show ObjOk X.prog X.w H s.heap a (dI ks)from I.hok a _ e)
 rw [Aa]at z
 rw [qcu b]at dd
 exact⟨z,c,dd⟩
def qcX (I:Inv X k8 U H s) (e:H a=y0 (dI ks)) (b:RelV (.int k) u) (h: ∀s',Inv X k8 U H s'->Q (.bool (ks.contains k)) s'):wpAny (model X.prog X.w) A (compareOp .In u (.ref a)) Q E s:=by
 obtain⟨z,c,dd⟩:=jbH I e
 obtain⟨t,rfl⟩:=b
 refine wpAny_in_of (zt _ _ k t) c dd.mapOf ?_
 rw [qbp]
 exact h _ (I.tok _)
def qaS (I:Inv X k8 U H s) (e:H a=y0 (dI ks)) (b:RelV (.int k) u) (h: ∀s',Inv X k8 U H s'->Q (.bool (!ks.contains k)) s'):wpAny (model X.prog X.w) A (compareOp .NotIn u (.ref a)) Q E s:=by
 obtain⟨z,c,dd⟩:=jbH I e
 obtain⟨t,rfl⟩:=b
 refine wpAny_notIn_of (zt _ _ k t) c dd.mapOf ?_
 rw [qbp]
 exact h _ (I.tok _)
def zcB (I:Inv X k8 U H s) (e:H a=y0 (dI ks)) (j:RelV (.int k) u) (n:ks.length<sizeLine) (h: ∀s',Inv X k8 U (zdL H a (dI (jbi ks k))) s'->Q () s'):wpAny (model X.prog X.w) A (setItem (.ref a) u (.bool k9)) Q E s:=by
 obtain⟨z,i,dd⟩:=jbH I e
 obtain⟨t,rfl⟩:=j
 refine wpAny_setItem_pairs (hsz:=by unfold jdL;rw [Aa];exact z) (zt _ _ k t) dd λd b g=>h _ ?_
 rw [jbD]at b
 have f: ∃q,d.get? a=y0 q:=let ⟨q,_,_,l,_⟩:=b; ⟨q,l⟩
 refine I.write (by rw [e];exact True.intro) (.inl rfl) (λm q c z=>(g.2 m c).trans z) f ⟨?_,i,_,zcy _,b⟩
 rw [Aa]
 unfold jbi
 split
 ·exact z
 ·rw [Ab1,Ag2];omega
def zcF:TE:=λ_ H Q=> ∀p,H p=u0->Q (.ref p) (zdL H p (dI []))
def qa0 :PE X (.Dict [] [] pos) zcF:=λa s U H Q I h=>
 wpAny_Dict_empty ⟨.ref s.heap.objs.size,_,I.laid (o:=dI []) (λ_ _ q=>Aa1 _ q) (Aa5 _) ⟨Ah3 _,beq_eq_false_iff_ne.mpr (Ne.symm (Ac3 (xbR I))),[],.nil,Heap.DictOf.new _⟩,rfl,h _ (I.hok.fresh (Aa5 _))⟩
end
end L2
set_option genSizeOfSpec false
namespace M
abbrev Tx:=List Nat
def zbB: ∃n:Nat,n=1000000:=⟨_,rfl⟩
noncomputable def LIM:Nat:=Ah0 zbB
def Gi:LIM=1000000:=Af9 zbB
def jbs: ∃n:Int,n=1073741824:=⟨_,rfl⟩
noncomputable def jdO:Int:=Ah0 jbs
def GY:jdO=1073741824:=Af9 jbs
def jbz: ∃n:Int,n=2 ^ 62:=⟨_,rfl⟩
noncomputable def jdF:Int:=Ah0 jbz
def K3:jdF=2 ^ 62:=Af9 jbz
def qbB: ∃n:Int,n=2 ^ 64:=⟨_,rfl⟩
noncomputable def xdU:Int:=Ah0 qbB
def K4:xdU=2 ^ 64:=Af9 qbB
def qcz: ∃n:Int,n=1000000:=⟨_,rfl⟩
noncomputable def BP:Int:=Ah0 qcz
def KW:BP=1000000:=Af9 qcz
def qby: ∃n:Nat,n=2 ^ 64:=⟨_,rfl⟩
noncomputable def qdF:Nat:=Ah0 qby
def GX:qdF=2 ^ 64:=Af9 qby
inductive D where
 | non
 | bl (b:Bool)
 | int (i:Int)
 | str (s:Tx)
 | tup (xs:List D)
 | lst (xs:List D)
 | ref (r:Nat)
 | exc (c:String) (fs:List (Tx×D))
 | err (c f:String) (d:D)
inductive W where
 | v (d:D)
 | own (xs:List D)
 | bor (xs:List D)
abbrev WK:=Int×List Int×List Int
inductive Cell where
 | lst (xs:List D)
 | dic (ks:List WK)
 | dii (ks:List Int)
 | obj (c:String) (fs:List (String×D))
abbrev AH:=List Cell
abbrev Sl:=List (Option W)
inductive R (α:Type) where
 | ok (a:α) (h:AH)
 | exc (d:D) (h:AH)
 | fail
def R.bind {c b:Type}:R c->(c->AH->R b)->R b
 | .ok a h,f=>f a h
 | .exc d h,_=> .exc d h
 | .fail,_=> .fail
inductive O where
 | next (Y:Sl) (h:AH)
 | ret (w:W) (h:AH)
 | brk (Y:Sl) (h:AH)
 | cont (Y:Sl) (h:AH)
 | exc (d:D) (h:AH)
 | fail
def O.seq:O->(Sl->AH->O)->O
 | .next Y h,f=>f Y h
 | o,_=>o
def R.toO {b:Type}:R b->(b->AH->O)->O
 | .ok a h,f=>f a h
 | .exc d h,_=> .exc d h
 | .fail,_=> .fail
section
variable {α β:Type}
@[simp] theorem R.bind_ok (a) (h) (f:α->AH->R β):(R.ok a h).bind f=f a h:=rfl
@[simp] theorem R.toO_ok (a) (h) (f:α->AH->O):(R.ok a h).toO f=f a h:=rfl
@[simp] theorem O.seq_next (Y) (h) (f):(O.next Y h).seq f=f Y h:=rfl
@[simp] theorem O.seq_ret (w) (h) (f):(O.ret w h).seq f= .ret w h:=rfl
@[simp] theorem O.seq_exc (d) (h) (f):(O.exc d h).seq f= .exc d h:=rfl
end
inductive Op where
 | add | sub | mul | fdiv | mod | pow | shl | shr | band | bor | bxor
 deriving DecidableEq
inductive Cp where
 | eq | ne | lt | le | gt | ge | mem | nmem | isb
 deriving DecidableEq
inductive Ty where
 | non | bool | int | str | list | tuple
 deriving DecidableEq
inductive Mt where
 | index | count
 deriving DecidableEq
inductive Bi where
 | len | int | list | tuple | sum | all | any | sorted | divmod | str | min | max | abs
 deriving DecidableEq
set_option genInjectivity false
mutual
inductive E where
 | var (i:Nat)
 | con (x:String)
 | int (i:Int)
 | bl (b:Bool)
 | non
 | str (s:Tx)
 | tup (es:Es)
 | lst (es:Es)
 | bin (o:Op) (a b:E)
 | cmp (o:Cp) (a b:E)
 | chain (o p:Cp) (a b c:E)
 | isn (neg:Bool) (a:E)
 | neg (a:E)
 | inv (a:E)
 | not (a:E)
 | and (a b:E)
 | or (a b:E)
 | call (f:String) (es:Es)
 | bi (b:Bi) (es:Es)
 | isT (a:E) (t:Ty)
 | isX (a:E) (one:Bool) (ts:List String)
 | ix (a b:E)
 | sl (a lo hi:E)
 | slL (a lo:E)
 | slH (a hi:E)
 | rev (a:E)
 | comp (tg:List Nat) (one:Bool) (k:Nat) (cap:List Nat) (it:It) (y7:Bool) (c elt:E)
 | dnewI
 | dinI (neg:Bool) (a:E) (i:Nat)
 | share (a:E)
 | lenset (a:E)
 | ltL (a b:E)
 | meth (m:Mt) (a:E) (es:Es)
 | xf (i:Nat) (f:String)
inductive Es where
 | nil
 | cons (e:E) (es:Es)
inductive It where
 | seq (e:E)
 | range1 (a:E)
 | range2 (a b:E)
 | rev (e:E)
 | zip (a b:E)
 | enum (e:E)
end
set_option genInjectivity true
mutual
inductive S where
 | set (i:Nat) (e:E)
 | setf (i:Nat) (e:E)
 | unp (is:List Nat) (e:E)
 | setix (i:Nat) (k e:E)
 | app (i:Nat) (e:E)
 | ext (i:Nat) (e:E)
 | mv (i j:Nat)
 | dputI (i:Nat) (e:E)
 | appR (i:Nat) (e:E)
 | popR (i j:Nat)
 | popU (i:Nat) (is:List Nat)
 | freeze (i:Nat)
 | ex (e:E)
 | ret (e:E)
 | iff (c:E) (a b:Ss)
 | whl (n:Nat) (c:E) (b:Ss)
 | for (tg:List Nat) (one:Bool) (it:It) (b:Ss)
 | raise (c:String) (es:Es)
 | tryc (f:String) (es:Es) (k:String) (nm iv:Nat)
 | raisf (c f:String) (e:E)
 | nope
inductive Ss where
 | nil
 | cons (s:S) (ss:Ss)
end
noncomputable section
mutual
@[simp,reducible] noncomputable def Gc:D->Bool
 | .ref _=>y9
 | .tup xs=>Gd xs
 | .lst xs=>Gd xs
 | .exc _ _=>y9
 | .err _ _ _=>y9
 | _=>k9
@[simp,reducible] noncomputable def Gd:List D->Bool
 | []=>k9
 | x::xs=>Gc x&&Gd xs
end
mutual
@[simp,reducible] noncomputable def dep:D->Nat
 | .tup xs=>Kz xs+1
 | .lst xs=>Kz xs+1
 | _=>0
@[simp,reducible] noncomputable def Kz:List D->Nat
 | []=>0
 | x::xs=>max (dep x) (Kz xs)
end
@[reducible] def KQ (a b:D):Bool:=Gc a&&Gc b&&v9 (dep a<150)
mutual
@[simp] noncomputable def res (h:AH):D->D
 | .ref r=>match h[r]? with
  | some (.lst xs)=> .lst xs
  | _=> .ref r
 | .tup xs=> .tup (KT h xs)
 | .lst xs=> .lst (KT h xs)
 | d=>d
@[simp] noncomputable def KT (h:AH):List D->List D
 | []=> []
 | x::xs=>res h x::KT h xs
end
mutual
@[simp] noncomputable def eqD:D->D->Bool
 | .non,.non=>k9
 | .bl a,.bl b=>a==b
 | .int i,.int j=>i==j
 | .bl a,.int j=>(a.toNat:Int)==j
 | .int i,.bl b=>i==(b.toNat:Int)
 | .str s,.str t=>s==t
 | .tup xs,.tup ys=>Ks xs ys
 | .lst xs,.lst ys=>Ks xs ys
 | _,_=>y9
@[simp] noncomputable def Ks:List D->List D->Bool
 | [],[]=>k9
 | x::xs,y::ys=>eqD x y&&Ks xs ys
 | _,_=>y9
end
def chs (s:Tx):List D:=s.map λc=> .str [c]
def W.d:W->Option D
 | .v d=>y0 d
 | .own xs=>y0 (.lst xs)
 | .bor _=>u0
def W.arg:W->W
 | .own xs=> .bor xs
 | w=>w
@[simp] theorem W.arg_v (d):(W.v d).arg= .v d:=rfl
@[simp] theorem W.arg_own (xs):(W.own xs).arg= .bor xs:=rfl
@[simp] theorem W.arg_bor (xs):(W.bor xs).arg= .bor xs:=rfl
def W.dd (h:AH):W->D
 | .v d=>res h d
 | .own xs=> .lst (KT h xs)
 | .bor xs=> .lst (KT h xs)
noncomputable def W.lst? (h:AH):W->Option (List D)
 | .v (.lst xs)=>y0 xs
 | .own xs=>y0 xs
 | .bor xs=>y0 xs
 | .v (.ref r)=>match h[r]? with
  | some (.lst xs)=>y0 xs
  | _=>u0
 | _=>u0
noncomputable def W.seq? (h:AH):W->Option (List D)
 | .v (.tup xs)=>y0 xs
 | .v (.lst xs)=>y0 xs
 | .own xs=>y0 xs
 | .bor xs=>y0 xs
 | .v (.ref r)=>match h[r]? with
  | some (.lst xs)=>y0 xs
  | _=>u0
 | _=>u0
def R.of {b:Type}(h:AH):Option b->R b
 | some a=> .ok a h
 | none=> .fail
@[simp] abbrev okv (d:D) (h:AH):R W:= .ok (.v d) h
noncomputable def KS (h:AH):W->Option Bool
 | .v .non=>y0 y9
 | .v (.bl b)=>y0 b
 | .v (.int i)=>y0 (i != 0)
 | .v (.str s)=>if s.length<=LIM then y0 (!s.isEmpty)else u0
 | .v (.tup xs)=>y0 (!xs.isEmpty)
 | .v (.lst xs)=>y0 (!xs.isEmpty)
 | .own xs=>y0 (!xs.isEmpty)
 | .bor xs=>y0 (!xs.isEmpty)
 | _=>u0
@[simp] theorem R.of_some (h) (a:α):R.of h (y0 a)= .ok a h:=rfl
@[simp] theorem W.d_v (d):(W.v d).d=y0 d:=rfl
@[simp] theorem W.d_own (xs):(W.own xs).d=y0 (.lst xs):=rfl
@[simp] theorem W.dd_v (h) (d):(W.v d).dd h=res h d:=rfl
@[simp] theorem W.dd_own (h) (xs):(W.own xs).dd h= .lst (KT h xs):=rfl
@[simp] theorem W.dd_bor (h) (xs):(W.bor xs).dd h= .lst (KT h xs):=rfl
@[simp] theorem GW (h) (b):KS h (.v (.bl b))=y0 b:=rfl
@[simp] theorem ZT (h) (i):KS h (.v (.int i))=y0 (i != 0):=rfl
noncomputable def K9 (i j:Int):Option Int:=
 if 0<=i then(if 0<=j then y0 ((i.toNat &&& j.toNat:Nat):Int)else y0 ((i.toNat-(i.toNat &&& (-j-1).toNat):Nat):Int))else u0
def orI (i j:Int):Option Int:=if 0<=i/\0<=j then y0 ((i.toNat ||| j.toNat:Nat):Int)else u0
def jdk (i j:Int):Option Int:=if 0<=i/\0<=j then y0 ((i.toNat ^^^ j.toNat:Nat):Int)else u0
noncomputable def Gn (o:Op) (i j:Int):Option Int:=match o with
 | .add=>y0 (i+j)
 | .sub=>y0 (i-j)
 | .mul=>if(-(xdU)<i/\i<xdU)\/(-(xdU)<j/\j<xdU)then y0 (i*j)else u0
 | .fdiv=>if 0<j/\j<jdO then y0 (i / j)else u0
 | .mod=>if 0<j then y0 (i % j)else u0
 | .pow=>if 0<=j/\j<=BP/\i.natAbs<qdF then y0 (i ^ j.toNat)else u0
 | .shl=>if 0<=j/\j<=BP/\i.natAbs<qdF then y0 (i*2 ^ j.toNat)else u0
 | .shr=>if 0<=j then y0 (i / 2 ^ j.toNat)else u0
 | .band=>K9 i j
 | .bor=>orI i j
 | .bxor=>jdk i j
def W.int? :W->Option Int
 | .v (.int i)=>y0 i
 | _=>u0
def W.str? :W->Option Tx
 | .v (.str s)=>y0 s
 | _=>u0
def W.tup? :W->Option (List D)
 | .v (.tup s)=>y0 s
 | _=>u0
def Ps (xs a:List D) (h:AH):R W:=if xs.length+a.length<=LIM then .ok (.own (xs++a)) h else .fail
noncomputable def Pp (xs:List D) (j:Int) (h:AH):R W:=if -1000<=j/\j<=1000/\xs.length*j.toNat<=LIM then .ok (.own (Ab j.toNat xs).flatten) h else .fail
noncomputable def Pu (a b:W) (h:AH):R W:=match a.tup?,b.tup? with
 | some xs,y0 ys=>if xs.length+ys.length<=LIM then okv (.tup (xs++ys)) h else .fail
 | _,_=>match a.lst? h,b.lst? h with
  | some xs,y0 ys=>Ps xs ys h
  | _,_=> .fail
noncomputable def W.lstO? (h:AH):W->Option (List D)
 | .own xs=>y0 xs
 | .bor xs=>y0 xs
 | .v (.ref r)=>match h[r]? with
  | some (.lst xs)=>y0 xs
  | _=>u0
 | _=>u0
def Pt (a b:W) (h:AH):R W:=match a.lstO? h,b.int? with
 | some xs,y0 j=>Pp xs j h
 | _,_=> .fail
noncomputable def Pb (o:Op) (a b:W) (h:AH):R W:=match a.int?,b.int? with
 | some i,y0 j=>(R.of h (Gn o i j)).bind λk h=>okv (.int k) h
 | _,_=>match o with
  | .add=>Pu a b h
  | .mul=>Pt a b h
  | _=> .fail
def inD (x:D) (xs:List D):Bool:=xs.any λy=>eqD y x
@[simp,reducible] def KP:D->Bool
 | .non=>k9
 | .bl _=>k9
 | .int _=>k9
 | .str _=>k9
 | _=>y9
noncomputable def Pm (a b:W) (h:AH):Option Bool:=match b.dd h with
 | .lst ys=>if Gc (a.dd h)&&Gd ys&&v9 (Kz ys<140)then y0 (inD (a.dd h) ys)else u0
 | _=>u0
noncomputable def Pa (a b:W) (h:AH):Option Bool:=match a.d,b.seq? h with
 | some d,y0 xs=>if KP d&&xs.all KP then y0 (inD d xs)else Pm a b h
 | _,_=>u0
noncomputable def Po (o:Cp) (i j:Int):Option Bool:=match o with
 | .lt=>y0 (v9 (i<j))
 | .le=>y0 (v9 (i<=j))
 | .gt=>y0 (v9 (j<i))
 | .ge=>y0 (v9 (j<=i))
 | _=>u0
def Pq:W->W->Option Bool
 | .v .non,.v (.bl _)=>y0 y9
 | .v (.bl b),.v (.bl c)=>y0 (b==c)
 | _,_=>u0
noncomputable def GD (o:Cp) (a b:W) (h:AH):Option Bool:=match o with
 | .eq=>if KQ (a.dd h) (b.dd h)then y0 (eqD (a.dd h) (b.dd h))else u0
 | .ne=>if KQ (a.dd h) (b.dd h)then y0 (!eqD (a.dd h) (b.dd h))else u0
 | .mem=>Pa a b h
 | .nmem=>(Pa a b h).map (!·)
 | .isb=>Pq a b
 | o=>match a.int?,b.int? with
  | some i,y0 j=>Po o i j
  | _,_=>u0
noncomputable def ixN (n:Nat) (i:Int):Option Nat:=if 0<=i then(if i<n then y0 i.toNat else u0)else if -(n:Int)<=i then y0 (i+n).toNat else u0
def atI {a:Type}(xs:List a) (i:Int):Option a:=(ixN xs.length i).bind λj=>xs[j]?
def ixD (a b:W) (h:AH):Option D:=match b.int? with
 | some i=>(a.seq? h).bind λxs=>atI xs i
 | none=>u0
def sIx (n d:Nat):Option Int->Nat
 | none=>d
 | some v=>if v<0 then(v+n).toNat else min v.toNat n
noncomputable def cut {b:Type}(xs:List b) (a c:Option Int):List b:=(xs.drop (sIx xs.length 0 a)).take (sIx xs.length xs.length c-sIx xs.length 0 a)
noncomputable def slD (a:W) (b c:Option Int) (h:AH):R W:=match a.tup? with
 | some xs=>okv (.tup (cut xs b c)) h
 | none=>match a.lst? h with
  | some xs=> .ok (.own (cut xs b c)) h
  | none=> .fail
def Pl:List D->Option Int
 | []=>y0 0
 | .int i::r=>(Pl r).map (i+ ·)
 | _::_=>u0
def Kg:List D->Option (List Int)
 | []=>y0 []
 | .int i::r=>(Kg r).map (i:: ·)
 | _::_=>u0
def KM:List D->Option (List Tx)
 | []=>y0 []
 | .str s::r=>(KM r).map (s:: ·)
 | _::_=>u0
def zdp:List Int->Option Int
 | []=>u0
 | i::r=>y0 (r.foldl (λa b=>if b>a then b else a) i)
def zdo:List Int->Option Int
 | []=>u0
 | i::r=>y0 (r.foldl (λa b=>if b<a then b else a) i)
def qc9 (x:Tx):List Tx->List Tx
 | []=> [x]
 | y::ys=>if y<x then y::qc9 x ys else x::y::ys
def jcy:List Tx->List Tx
 | []=> []
 | x::xs=>qc9 x (jcy xs)
def xc2 (x:Int):List Int->List Int
 | []=> [x]
 | y::ys=>if y<x then y::xc2 x ys else x::y::ys
def zbH:List Int->List Int
 | []=> []
 | x::xs=>xc2 x (zbH xs)
noncomputable def KU:List Int->List Int->Bool
 | [],[]=>y9
 | [],_::_=>k9
 | _::_,[]=>y9
 | x::xs,y::ys=>if x=y then KU xs ys else v9 (x<y)
def Pc (x:Tx):List Tx->Option Nat
 | []=>u0
 | y::ys=>if y=x then y0 0 else(Pc x ys).map (· +1)
def Pg:List D->Option (List Bool)
 | []=>y0 []
 | .bl b::r=>(Pg r).map (b:: ·)
 | _::_=>u0
noncomputable def bi1 (b:Bi) (w:W) (h:AH):R W:=match b with
 | .len=>match w.str? with
  | some s=>if s.length<=LIM then okv (.int s.length) h else .fail
  | none=>(R.of h (w.seq? h)).bind λxs h=>okv (.int xs.length) h
 | .int=>match w with
  | .v (.int i)=>okv (.int i) h
  | .v (.bl b)=>okv (.int (b.toNat:Int)) h
  | _=> .fail
 | .list=>(R.of h (w.seq? h)).bind λxs h=> .ok (.own xs) h
 | .tuple=>(R.of h (w.seq? h)).bind λxs h=>okv (.tup xs) h
 | .sum=>(R.of h ((w.lst? h).bind λxs=>if xs.length<=LIM then Pl xs else u0)).bind λi h=>okv (.int i) h
 | .all=>(R.of h ((w.lst? h).bind Pg)).bind λbs h=>okv (.bl (bs.all id)) h
 | .any=>(R.of h ((w.lst? h).bind Pg)).bind λbs h=>okv (.bl (bs.any id)) h
 | .max=>(R.of h (((w.lst? h).bind Kg).bind zdp)).bind λi h=>okv (.int i) h
 | .min=>(R.of h (((w.lst? h).bind Kg).bind zdo)).bind λi h=>okv (.int i) h
 | .sorted=>(R.of h ((w.lst? h).bind KM)).bind λts h=>if ts.length<64 then .ok (.own ((jcy ts).map .str)) h else .fail
 | _=> .fail
def xcT (m:Mt) (x:W) (h:AH):Bool:=match m with
 | .index=>x.tup?.isSome
 | .count=>(x.lst? h).isSome
@[simp] theorem zbl (xs) (h):xcT .index (.v (.tup xs)) h=true:=rfl
def Pf:List Int->List Int->Nat
 | _,[]=>0
 | a,x::xs=>(if a.any (· ==x)then 0 else 1)+Pf (a++ [x]) xs
def KO:Nat->List D->List D
 | _,[]=> []
 | i,d::ds=> .tup [.int (i:Int),d]::KO (i+1) ds
noncomputable def qbR (m:Mt) (x:W) (ws:List W) (h:AH):R W:=match m,ws with
 | .index,[w]=>(R.of h (x.tup?.bind KM)).bind λts h=>(R.of h w.str?).bind λt h=>(R.of h (Pc t ts)).bind λn h=>if ts.length<=LIM then okv (.int (n:Int)) h else .fail
 | .count,[w]=>(R.of h ((x.lst? h).bind Kg)).bind λis h=>(R.of h w.int?).bind λi h=>if is.length<=LIM then okv (.int ((is.count i:Nat):Int)) h else .fail
 | _,_=> .fail
noncomputable def bi2 (b:Bi) (i j:Int) (h:AH):R W:=match b with
 | .divmod=>if 0<j/\j<jdO then okv (.tup [.int (i / j),.int (i % j)]) h else .fail
 | .min=>okv (.int (if j<i then j else i)) h
 | .max=>okv (.int (if j>i then j else i)) h
 | _=> .fail
noncomputable def biD (b:Bi) (ws:List W) (h:AH):R W:=match ws with
 | [w]=>bi1 b w h
 | [v,w]=>(R.of h v.int?).bind λi h=>(R.of h w.int?).bind λj h=>bi2 b i j h
 | _=> .fail
@[simp] theorem Gy (o) (i j) (h):Pb o (.v (.int i)) (.v (.int j)) h=(R.of h (Gn o i j)).bind λk h=>okv (.int k) h:=rfl
@[simp] theorem wd (i j):Gn .add i j=y0 (i+j):=rfl
@[simp] theorem Qs (i j):Gn .sub i j=y0 (i-j):=rfl
@[simp] theorem wz (s u) (h):Pb .add (.v (.tup s)) (.v (.tup u)) h=if s.length+u.length<=LIM then okv (.tup (s++u)) h else .fail:=rfl
@[simp] theorem qaP (s u) (h):Pb .add (.own s) (.own u) h=if s.length+u.length<=LIM then .ok (.own (s++u)) h else .fail:=rfl
@[simp] theorem zd (i j) (h):GD .lt (.v (.int i)) (.v (.int j)) h=y0 (v9 (i<j)):=rfl
@[simp] theorem zci (i j) (h):GD .le (.v (.int i)) (.v (.int j)) h=y0 (v9 (i<=j)):=rfl
@[simp] theorem Jr (i j) (h):GD .gt (.v (.int i)) (.v (.int j)) h=y0 (v9 (j<i)):=rfl
@[simp] theorem xcG (i j) (h):GD .ge (.v (.int i)) (.v (.int j)) h=y0 (v9 (j<=i)):=rfl
@[simp] theorem zak (a b) (h):GD .eq a b h=if KQ (a.dd h) (b.dd h)then y0 (eqD (a.dd h) (b.dd h))else none:=rfl
@[simp] theorem jbj (a b) (h):GD .ne a b h=if KQ (a.dd h) (b.dd h)then y0 (!eqD (a.dd h) (b.dd h))else none:=rfl
@[simp] theorem int?_int (i):(W.v (.int i)).int? =y0 i:=rfl
@[simp] theorem len_str (s) (h):biD .len [.v (.str s)] h=if s.length<=LIM then okv (.int s.length) h else .fail:=rfl
@[simp] theorem Zn (s) (h):biD .len [.v (.tup s)] h=okv (.int s.length) h:=rfl
@[simp] theorem XL (s) (h):biD .len [.v (.lst s)] h=okv (.int s.length) h:=rfl
@[simp] theorem zbP (s) (h):biD .len [.bor s] h=okv (.int s.length) h:=rfl
@[simp] theorem int_int (i) (h):biD .int [.v (.int i)] h=okv (.int i) h:=rfl
@[simp] theorem zY (s) (h):biD .list [.v (.tup s)] h= .ok (.own s) h:=rfl
@[simp] theorem zA (s) (h):biD .tuple [.own s] h=okv (.tup s) h:=rfl
@[simp] theorem xR (s) (h):biD .tuple [.bor s] h=okv (.tup s) h:=rfl
@[simp] theorem jbR (s) (h):biD .all [.own s] h=(R.of h (Pg s)).bind λbs h=>okv (.bl (bs.all id)) h:=rfl
@[simp] theorem wW (s) (h):biD .sum [.own s] h=(R.of h (if s.length<=LIM then Pl s else u0)).bind λi h=>okv (.int i) h:=rfl
@[simp] theorem jj (i j) (h):biD .divmod [.v (.int i),.v (.int j)] h=if 0<j/\j<jdO then okv (.tup [.int (i / j),.int (i % j)]) h else .fail:=rfl
@[simp] theorem qa7 (i j) (h):biD .min [.v (.int i),.v (.int j)] h=okv (.int (if j<i then j else i)) h:=rfl
@[simp] theorem qaZ (i j) (h):biD .max [.v (.int i),.v (.int j)] h=okv (.int (if j>i then j else i)) h:=rfl
@[simp] theorem ix_tup (s) (i) (h):ixD (.v (.tup s)) (.v (.int i)) h=atI s i:=rfl
@[simp] theorem Zp (s) (i) (h):ixD (.v (.lst s)) (.v (.int i)) h=atI s i:=rfl
@[simp] theorem xp (s) (i) (h):ixD (.own s) (.v (.int i)) h=atI s i:=rfl
@[simp] theorem qcn (s) (i) (h):ixD (.bor s) (.v (.int i)) h=atI s i:=rfl
@[simp] theorem qcx (s) (lo hi) (h):slD (.v (.lst s)) lo hi h= .ok (.own (cut s lo hi)) h:=rfl
@[simp] theorem xb9 (s) (lo hi) (h):slD (.bor s) lo hi h= .ok (.own (cut s lo hi)) h:=rfl
abbrev Cls:=List (String×String)
noncomputable def Kx (a:Cls):Nat->String->List String
 | 0,_=> []
 | n+1,c=>c::match a.lookup c with
  | some b=>Kx a n b
  | none=> []
noncomputable def jdE:W->Option Ty
 | .v .non=>y0 .non
 | .v (.bl _)=>y0 .bool
 | .v (.int _)=>y0 .int
 | .v (.str _)=>y0 .str
 | .v (.tup _)=>y0 .tuple
 | .v (.lst _)=>y0 .list
 | .own _=>y0 .list
 | .bor _=>y0 .list
 | .v (.ref _)=>u0
 | .v (.exc _ _)=>u0
 | .v (.err _ _ _)=>u0
def Ty.le:Ty->Ty->Bool
 | .bool,.int=>k9
 | a,b=>v9 (a=b)
def isT (t:Ty) (w:W):Option Bool:=(jdE w).map λu=>u.le t
@[simp] theorem zT (t) (s):isT t (.v (.tup s))=y0 (Ty.le .tuple t):=rfl
@[simp] theorem qb6 (t) (s):isT t (.bor s)=y0 (Ty.le .list t):=rfl
@[simp] theorem Ty.le_self (t):Ty.le t t=true:=by cases t<;>rfl
noncomputable def isX (a:Cls) (w:W) (ts:List String):Option Bool:=match w with
 | .v (.exc c [])=>y0 (ts.any (Kx a 8 c).contains)
 | .v (.err c _ _)=>y0 (ts.any (Kx a 8 c).contains)
 | _=>u0
@[simp] theorem XS (cl) (c) (ts):isX cl (.v (.exc c [])) ts=y0 (ts.any (Kx cl 8 c).contains):=rfl
@[simp] theorem jam (cl) (c f) (d) (ts):isX cl (.v (.err c f d)) ts=y0 (ts.any (Kx cl 8 c).contains):=rfl
@[simp] def Gj:Sl->Nat->Option W
 | [],_=>u0
 | x::_,0=>x
 | _::r,n+1=>Gj r n
@[simp] def GB:Sl->Nat->W->Sl
 | [],_,_=> []
 | _::r,0,w=>y0 w::r
 | x::r,n+1,w=>x::GB r n w
def Gg (Y:Sl) (i:Nat):Option W:=match Gj Y i with
 | some (.own xs)=>y0 (.bor xs)
 | o=>o
@[simp] theorem K5 (e:Gj Y i=y0 (.own xs)):Gg Y i=y0 (.bor xs):=by simp [Gg,e]
@[simp] theorem KG (e:Gj Y i=y0 (.v d)):Gg Y i=y0 (.v d):=by simp [Gg,e]
@[simp] theorem K8 (e:Gj Y i=y0 (.bor xs)):Gg Y i=y0 (.bor xs):=by simp [Gg,e]
@[simp] noncomputable def setTup:List Nat->List D->Sl->Option Sl
 | [],[],Y=>y0 Y
 | i::is,d::ds,Y=>setTup is ds (GB Y i (.v d))
 | _,_,_=>u0
noncomputable def Gp (a:List Nat) (one:Bool) (d:D) (Y:Sl):Option Sl:=match one with
 | true=>match a with
  | [i]=>y0 (GB Y i (.v d))
  | _=>u0
 | false=>match d with
  | .tup ds=>setTup a ds Y
  | _=>u0
noncomputable def Gv (step:D->AH->R (Option D)):List D->AH->R (List D)
 | [],h=> .ok [] h
 | d::ds,h=>match step d h with
  | .ok o h1=>match Gv step ds h1 with
   | .ok r h2=> .ok (match o with | some x=>x::r | none=>r) h2
   | _=> .fail
  | _=> .fail
structure Fx where
 call:String->List W->AH->R W
 cl:Cls
 con:List (String×D)
noncomputable def cellD (h:AH):Option W->Option (Nat×List D)
 | some (.v (.ref r))=>match h[r]? with
  | some (.lst xs)=>y0 (r,xs)
  | _=>u0
 | _=>u0
noncomputable def Pe (h:AH):Option W->Option (Nat×List Int)
 | some (.v (.ref r))=>match h[r]? with
  | some (.dii ks)=>y0 (r,ks)
  | _=>u0
 | _=>u0
def KY (ks:List Int) (k:Int):List Int:=if ks.contains k then ks else ks++ [k]
noncomputable def dinI (neg:Bool) (w:W) (o:Option (Nat×List Int)) (h:AH):R W:=match w,o with
 | .v (.int k),y0 (_,ks)=>okv (.bl (if neg then !ks.contains k else ks.contains k)) h
 | _,_=> .fail
mutual
@[simp] noncomputable def eval (F:Fx):E->Sl->AH->R W
 | .var i,Y,h=>match Gg Y i with
  | some w=> .ok w h
  | none=> .fail
 | .con x,_,h=>match F.con.lookup x with
  | some d=>okv d h
  | none=> .fail
 | .int i,_,h=>okv (.int i) h
 | .bl b,_,h=>okv (.bl b) h
 | .non,_,h=>okv .non h
 | .str s,_,h=>okv (.str s) h
 | .tup es,Y,h=>(Gm F es Y h).bind λds h=>okv (.tup ds) h
 | .lst es,Y,h=>(Gm F es Y h).bind λds h=> .ok (.own ds) h
 | .bin o a b,Y,h=>(eval F a Y h).bind λx h=>(eval F b Y h).bind λy h=>Pb o x y h
 | .cmp o a b,Y,h=>(eval F a Y h).bind λx h=>(eval F b Y h).bind λy h=>(R.of h (GD o x y h)).bind λc h=>okv (.bl c) h
 | .chain o p a b c,Y,h=>(eval F a Y h).bind λx h=>(eval F b Y h).bind λy h=>(R.of h (GD o x y h)).bind λt h=>match t with
  | true=>(eval F c Y h).bind λz h=>(R.of h (GD p y z h)).bind λc h=>okv (.bl c) h
  | false=>okv (.bl y9) h
 | .isn neg a,Y,h=>(eval F a Y h).bind λx h=>match x with
  | .v .non=>okv (.bl (!neg)) h
  | _=>okv (.bl neg) h
 | .neg a,Y,h=>(eval F a Y h).bind λx h=>(R.of h x.int?).bind λi h=>okv (.int (-i)) h
 | .inv a,Y,h=>(eval F a Y h).bind λx h=>(R.of h x.int?).bind λi h=>okv (.int (-i-1)) h
 | .not a,Y,h=>(eval F a Y h).bind λx h=>(R.of h (KS h x)).bind λc h=>okv (.bl (!c)) h
 | .and a b,Y,h=>(eval F a Y h).bind λx h=>(R.of h (KS h x)).bind λc h=>match c with
  | true=>eval F b Y h
  | false=> .ok x h
 | .or a b,Y,h=>(eval F a Y h).bind λx h=>(R.of h (KS h x)).bind λc h=>match c with
  | true=> .ok x h
  | false=>eval F b Y h
 | .call f es,Y,h=>(Gf F es Y h).bind λws h=>F.call f (ws.map W.arg) h
 | .bi b es,Y,h=>(Gf F es Y h).bind λws h=>biD b ws h
 | .isT a t,Y,h=>(eval F a Y h).bind λx h=>(R.of h (isT t x)).bind λc h=>okv (.bl c) h
 | .isX a _ ts,Y,h=>(eval F a Y h).bind λx h=>(R.of h (isX F.cl x ts)).bind λc h=>okv (.bl c) h
 | .ix a b,Y,h=>(eval F a Y h).bind λx h=>(eval F b Y h).bind λy h=>(R.of h (ixD x y h)).bind λd h=>okv d h
 | .sl a lo hi,Y,h=>(eval F a Y h).bind λx h=>(eval F lo Y h).bind λl h=>(R.of h l.int?).bind λl h=>(eval F hi Y h).bind λu h=>(R.of h u.int?).bind λu h=>slD x (y0 l) (y0 u) h
 | .slL a lo,Y,h=>(eval F a Y h).bind λx h=>(eval F lo Y h).bind λl h=>(R.of h l.int?).bind λl h=>slD x (y0 l) u0 h
 | .slH a hi,Y,h=>(eval F a Y h).bind λx h=>(eval F hi Y h).bind λu h=>(R.of h u.int?).bind λu h=>slD x u0 (y0 u) h
 | .rev a,Y,h=>(eval F a Y h).bind λx h=>(R.of h (x.lst? h)).bind λxs h=> .ok (.own xs.reverse) h
 | .comp tg one k cap it y7 c elt,Y,h=>(Gk F it Y h).bind λds h=>
  if ds.length<=LIM then
   (Gv (λd h=>match Gp tg one d (Ab k u0++cap.map λj=>Gg Y j)with
     | none=> .fail
     | some Y'=>(if y7 then(eval F c Y' h).bind λx h=>R.of h (KS h x)else .ok k9 h).bind λb h=>match b with
      | true=>(eval F elt Y' h).bind λy h=>(R.of h y.d).bind λy h=> .ok (y0 y) h
      | false=> .ok u0 h) ds h).bind λys h=> .ok (.own ys) h
  else .fail
 | .dnewI,_,h=>okv (.ref h.length) (h++ [.dii []])
 | .dinI neg a i,Y,h=>(eval F a Y h).bind λx h=>dinI neg x (Pe h (Gj Y i)) h
 | .share a,Y,h=>(eval F a Y h).bind λx h=>match x with
  | .own xs=>if Gd xs then okv (.ref h.length) (h++ [.lst xs])else .fail
  | _=> .fail
 | .lenset a,Y,h=>(eval F a Y h).bind λx h=>(R.of h (x.tup?.bind Kg)).bind λis h=>if is.length<1000 then okv (.int ((Pf [] is:Nat):Int)) h else .fail
 | .ltL a b,Y,h=>(eval F a Y h).bind λx h=>(eval F b Y h).bind λy h=>(R.of h ((x.lst? h).bind Kg)).bind λis h=>(R.of h ((y.lst? h).bind Kg)).bind λjs h=>if is.length=js.length then okv (.bl (KU is js)) h else .fail
 | .meth m a es,Y,h=>(eval F a Y h).bind λx h=>if xcT m x h then(Gf F es Y h).bind λws h=>qbR m x ws h else .fail
 | .xf i f,Y,h=>match Gj Y i with
  | some (.v (.err _ g d))=>if g=f then .ok (.v d) h else .fail
  | _=> .fail
@[simp] noncomputable def Gf (F:Fx):Es->Sl->AH->R (List W)
 | .nil,_,h=> .ok [] h
 | .cons e es,Y,h=>(eval F e Y h).bind λw h=>(Gf F es Y h).bind λws h=> .ok (w::ws) h
@[simp] noncomputable def Gm (F:Fx):Es->Sl->AH->R (List D)
 | .nil,_,h=> .ok [] h
 | .cons e es,Y,h=>(eval F e Y h).bind λw h=>(R.of h w.d).bind λd h=>(Gm F es Y h).bind λds h=> .ok (d::ds) h
@[simp] noncomputable def Gk (F:Fx):It->Sl->AH->R (List D)
 | .seq e,Y,h=>(eval F e Y h).bind λw h=>match w with
  | .v (.str s)=> .ok (chs s) h
  | .v (.tup xs)=> .ok xs h
  | .v (.lst xs)=> .ok xs h
  | .own xs=> .ok xs h
  | .bor xs=> .ok xs h
  | _=> .fail
 | .range1 a,Y,h=>(eval F a Y h).bind λw h=>(R.of h w.int?).bind λn h=>if -(jdF)<=n/\n<jdF then .ok ((Aa0 n.toNat).map λ(i:Nat)=> .int (i:Int)) h else .fail
 | .range2 a b,Y,h=>(eval F a Y h).bind λw h=>(R.of h w.int?).bind λi h=>(eval F b Y h).bind λw h=>(R.of h w.int?).bind λj h=>
  if(-(jdF)<=i/\i<jdF)/\(-(jdF)<=j/\j<jdF)then .ok ((Aa0 (j-i).toNat).map λ(k:Nat)=> .int (i+(k:Int))) h else .fail
 | .rev e,Y,h=>(eval F e Y h).bind λw h=>match w with
  | .v (.lst xs)=> .ok xs.reverse h
  | .own xs=> .ok xs.reverse h
  | .bor xs=> .ok xs.reverse h
  | _=> .fail
 | .enum e,Y,h=>(eval F e Y h).bind λw h=>match w with
  | .v (.tup xs)=> .ok (KO 0 xs) h
  | _=> .fail
 | .zip a b,Y,h=>(eval F a Y h).bind λx h=>(eval F b Y h).bind λy h=>match x,y with
  | .own xs,.v (.tup ys)=> .ok ((xs.zip ys).map λp=> .tup [p.1,p.2]) h
  | _,_=> .fail
end
noncomputable def zdt:W->Option (List D)
 | .v (.str s)=>y0 (chs s)
 | .v (.tup xs)=>y0 xs
 | .v (.lst xs)=>y0 xs
 | .own xs=>y0 xs
 | _=>u0
noncomputable def lpV:W->Option (List D)
 | .v (.str s)=>y0 (chs s)
 | .v (.tup xs)=>y0 xs
 | .v (.lst xs)=>y0 xs
 | .bor xs=>y0 xs
 | _=>u0
def qdj:W->Option (List D)
 | .v (.lst xs)=>y0 xs.reverse
 | .own xs=>y0 xs.reverse
 | _=>u0
def Pr:W->Option (List D)
 | .v (.lst xs)=>y0 xs.reverse
 | .bor xs=>y0 xs.reverse
 | _=>u0
@[simp] theorem Pj (xs):zdt (.v (.tup xs))=y0 xs:=rfl
@[simp] theorem Pi (xs):zdt (.v (.lst xs))=y0 xs:=rfl
@[simp] theorem KA (xs):zdt (.own xs)=y0 xs:=rfl
@[simp] theorem K1 (xs):lpV (.v (.tup xs))=y0 xs:=rfl
@[simp] theorem Ph (xs):lpV (.v (.lst xs))=y0 xs:=rfl
@[simp] theorem Pk (xs):lpV (.bor xs)=y0 xs:=rfl
@[simp] def GV:E->Option Nat
 | .var i=>y0 i
 | _=>u0
@[simp] noncomputable def Gu (F:Fx) (it:It) (Y:Sl) (h:AH):R (List D):=match it with
 | .seq e=>match GV e with
  | some i=>R.of h ((Gj Y i).bind lpV)
  | none=>(eval F e Y h).bind λw h=>R.of h (zdt w)
 | .rev e=>match GV e with
  | some i=>R.of h ((Gj Y i).bind Pr)
  | none=>(eval F e Y h).bind λw h=>R.of h (qdj w)
 | it=>Gk F it Y h
noncomputable def Gq (b:D->Sl->Option Sl) (a:Sl->AH->O):List D->Sl->AH->O
 | [],Y,h=> .next Y h
 | d::ds,Y,h=>match b d Y with
  | none=> .fail
  | some e=>match a e h with
   | .next c h2=>Gq b a ds c h2
   | .cont c h2=>Gq b a ds c h2
   | .brk c h2=> .next c h2
   | o=>o
noncomputable def KN (c:Sl->AH->R Bool) (a:Sl->AH->O):Nat->Sl->AH->O
 | 0,_,_=> .fail
 | n+1,Y,h=>(c Y h).toO λb h1=>match b with
  | false=> .next Y h1
  | true=>match a Y h1 with
   | .next d h2=>KN c a n d h2
   | .cont d h2=>KN c a n d h2
   | .brk d h2=> .next d h2
   | o=>o
def Gr (F:Fx) (e:E) (Y:Sl) (h:AH):R Bool:=(eval F e Y h).bind λx h=>R.of h (KS h x)
noncomputable def Pn (call:String->List W->AH->R W) (e:Cls) (b:Option Nat) (f k:String) (nm a:Nat) (Y:Sl):R (List W)->O
 | .ok c h=>match call f (c.map W.arg) h with
  | .ok w h=>match b with
   | none=> .next Y h
   | some i=>match w with
    | .v d=> .next (GB Y i (.v d)) h
    | _=> .fail
  | .exc d h=>match isX e (.v d) [k]with
   | some true=> .next ((GB (GB Y nm (.v d)) a (.v d)).set nm u0) h
   | _=> .fail
  | .fail=> .fail
 | _=> .fail
mutual
@[simp] noncomputable def exec (F:Fx):S->Sl->AH->O
 | .set i e,Y,h=>(eval F e Y h).toO λw h=>match w with
  | .bor _=> .fail
  | w=> .next (GB Y i w) h
 | .setf i e,Y,h=>(eval F e Y h).toO λw h=>match w.d with
  | some d=> .next (GB Y i (.v d)) h
  | none=> .fail
 | .unp is e,Y,h=>(eval F e Y h).toO λw h=>match w with
  | .v (.tup ds)=>match setTup is ds Y with
   | some Y'=> .next Y' h
   | none=> .fail
  | _=> .fail
 | .setix i k e,Y,h=>(eval F e Y h).toO λw h=>match Gj Y i with
  | some (.own xs)=>(eval F k Y h).toO λkw h=>match w,kw with
   | .v d,.v (.int j)=>if KP d then(match ixN xs.length j with
    | some n=> .next (GB Y i (.own (xs.set n d))) h
    | none=> .fail)else .fail
   | _,_=> .fail
  | _=> .fail
 | .app i e,Y,h=>match Gj Y i with
  | some (.own xs)=>(eval F e Y h).toO λw h=>match w.d with
   | some d=>if xs.length<LIM then .next (GB Y i (.own (xs++ [d]))) h else .fail
   | none=> .fail
  | _=> .fail
 | .ext i e,Y,h=>match Gj Y i with
  | some (.own xs)=>(eval F e Y h).toO λw h=>match w with
   | .own ys=>if xs.length+ys.length<LIM then .next (GB Y i (.own (xs++ys))) h else .fail
   | _=> .fail
  | _=> .fail
 | .mv i j,Y,h=>match Gj Y j with
  | some (.own xs)=> .next (GB (Y.set j u0) i (.own xs)) h
  | _=> .fail
 | .dputI i e,Y,h=>match Pe h (Gj Y i)with
  | some _=>(eval F e Y h).toO λw h=>match w,Pe h (Gj Y i)with
   | .v (.int k),y0 (r,ks)=>if ks.length<LIM then .next Y (h.set r (.dii (KY ks k)))else .fail
   | _,_=> .fail
  | none=> .fail
 | .appR i e,Y,h=>match cellD h (Gj Y i)with
  | some _=>(eval F e Y h).toO λw h=>match w.d,cellD h (Gj Y i)with
   | some d,y0 (r,xs)=>if xs.length<LIM/\Gc d=k9 then .next Y (h.set r (.lst (xs++ [d])))else .fail
   | _,_=> .fail
  | none=> .fail
 | .popR i j,Y,h=>match cellD h (Gj Y i)with
  | some (r,xs)=>match xs[xs.length-1]? with
   | some d=> .next (GB Y j (.v d)) (h.set r (.lst (xs.take (xs.length-1))))
   | none=> .fail
  | none=> .fail
 | .popU i is,Y,h=>match cellD h (Gj Y i)with
  | some (r,xs)=>match xs[xs.length-1]? with
   | some (.tup ds)=>match setTup is ds Y with
    | some Y'=> .next Y' (h.set r (.lst (xs.take (xs.length-1))))
    | none=> .fail
   | _=> .fail
  | none=> .fail
 | .freeze i,Y,h=>match Gj Y i with
  | some (.own xs)=> .next (GB Y i (.v (.lst xs))) h
  | _=> .next Y h
 | .ex e,Y,h=>(eval F e Y h).toO λ_ h=> .next Y h
 | .ret e,Y,h=>match GV e with
  | some i=>match Gj Y i with
   | some (.bor _)=> .fail
   | some w=> .ret w h
   | none=> .fail
  | none=>(eval F e Y h).toO λw h=>match w with
   | .bor _=> .fail
   | w=> .ret w h
 | .iff c a b,Y,h=>(Gr F c Y h).toO λt h=>match t with
  | true=>execs F a Y h
  | false=>execs F b Y h
 | .whl n c b,Y,h=>KN (λY h=>Gr F c Y h) (λY h=>execs F b Y h) n Y h
 | .for tg one it b,Y,h=>(Gu F it Y h).toO λds h=>Gq (Gp tg one) (λY h=>execs F b Y h) ds Y h
 | .raise c es,Y,h=>(Gf F es Y h).toO λ_ h=> .exc (.exc c []) h
 | .raisf c f e,Y,h=>(Gm F (.cons e .nil) Y h).toO λds h=>match ds with
  | [d]=> .exc (.err c f d) h
  | _=> .fail
 | .tryc f es k nm iv,Y,h=>Pn F.call F.cl u0 f k nm iv Y (Gf F es Y h)
 | .nope,_,_=> .fail
@[simp] noncomputable def execs (F:Fx):Ss->Sl->AH->O
 | .nil,Y,h=> .next Y h
 | .cons s ss,Y,h=>(exec F s Y h).seq λY h=>execs F ss Y h
end
structure Fn where
 ps:Nat
 n:Nat
 body:Ss
structure Prog where
 fns:List (String×Fn)
 cl:Cls
 con:List (String×D)
def W.keep:W->Bool
 | .v d=>Gc d
 | .own xs=>Gd xs
 | .bor _=>k9
def fin (n:Nat) (w:W) (h:AH):R W:=if h.length=n then .ok w h else if w.keep then .ok w (h.take n)else .ok w h
noncomputable def Ka (n:Nat):O->R W
 | .ret w h=>match w with
  | .bor _=> .fail
  | w=>fin n w h
 | .next _ h=>fin n (.v .non) h
 | .exc d h=> .exc d h
 | _=> .fail
@[simp] theorem Gb (d) (h h':AH) (e:h'.length=h.length):Ka h.length (.ret (.v d) h')= .ok (.v d) h':=by simp [Ka,fin,e]
@[simp] theorem Gw (xs) (h h':AH) (e:h'.length=h.length):Ka h.length (.ret (.own xs) h')= .ok (.own xs) h':=by simp [Ka,fin,e]
@[simp] theorem GI (Y) (h h':AH) (e:h'.length=h.length):Ka h.length (.next Y h')= .ok (.v .non) h':=by simp [Ka,fin,e]
@[simp] theorem Pd (d) (n) (h):Ka n (.exc d h)= .exc d h:=rfl
noncomputable def run (F:Fx) (d:Fn) (ws:List W) (h:AH):R W:=if ws.length=d.ps then Ka h.length (execs F d.body (ws.map y0++Ab (d.n-d.ps) u0) h)else .fail
noncomputable def call (p:Prog):Nat->String->List W->AH->R W
 | 0,_,_,_=> .fail
 | k+1,f,a,h=>match p.fns.lookup f with
  | some d=>run ⟨call p k,p.cl,p.con⟩ d a h
  | none=> .fail
def Ga (e:p.fns.lookup f=y0 d) (k) (ws) (h) (a:ws.length=d.ps):
 call p (k+1) f ws h=Ka h.length (execs ⟨call p k,p.cl,p.con⟩ d.body (ws.map y0++Ab (d.n-d.ps) u0) h):=by
 rw [call,e]
 simp [run,a]
end
end M
namespace L2.MS
open PySem PySem.Spec
structure Ge where
 K:Aa6
 ca:String->Addr
 cl:M.Cls
 own:List String
 ma:String->Addr
structure zdZ (Γ:Ge) (c:String):Prop where
 k:ja0 Γ.K (Γ.ca c)
 own: ∀t∈Γ.own,Ac5 Γ.K (.ref (Γ.ca c)) (.ref (Γ.ca t))=y0 ((M.Kx Γ.cl 8 c).contains t)
 ve:PySem.W.kitOne Γ.K (.ref (Γ.ca c)) (.type "ValueError")=some ((M.Kx Γ.cl 8 c).contains "ValueError")
structure Gh where
 fz:Addr->Prop
 rho:Nat->Addr
 n:Nat
noncomputable def StT (d:Ge) (G:Gh) (H:Hp) (a:Addr) (c:List V):Prop:=(G.fz a/\H a=y0 (.tup c)) ∨
 ∃(o:Obj) (b:Array Value) (n:Nat),d.K.lookup a=some o/\o.cls= .type "tuple" /\o.dict=none/\o.data= .seq b n/\b.size<=sizeLine/\Vals c b.toList
noncomputable def xc1 (c:Ge) (a:Addr) (d:List V):Prop:= ∃(o:Obj) (b:Array Value) (n:Nat),c.K.lookup a=some o/\o.cls= .type "list" /\o.dict=none/\o.data= .seq b n/\b.size<=sizeLine/\Vals d b.toList
def StL (c:Ge) (G:Gh) (H:Hp) (a:Addr) (b:List V):Prop:=(G.fz a/\Rd H a (.lst b))\/xc1 c a b
def StT.sq (h:StT Γ G H a vs):qdV Γ.K H a vs:=h.elim (λz=> .inl (.inl z.2)) λ⟨o,b,n,d,c,_,e⟩=> .inr ⟨o,b,n,d,c,e⟩
def StT.pl (h:StT Γ G H a vs):zdz Γ.K H a:=h.elim (λz=> .inl ⟨_,z.2⟩) λ⟨o,_,_,c,b,d,_⟩=> .inr ⟨o,c,b,d⟩
def StL.sq (h:StL Γ G H a vs):SqL Γ.K H a vs:=h.elim (λz=> .inl z.2) λz=> .inr z
def zdH (s:M.Tx):Str:=⟨s.toArray⟩
def xdX:M.D->PyData
 | .int i=> .int i
 | .str s=> .str (zdH s)
 | .bl b=> .bool b
 | _=> .none
def xdl (T:List (M.Tx×M.D)):List (Str×PyData):=T.map λp=>(zdH p.1,xdX p.2)
def zcR (b:Ge) (a:Addr) (T:List (M.Tx×M.D)):Prop:=zdi b.K a (xdl T)
mutual
noncomputable def RelD (Γ:Ge) (G:Gh) (H:Hp):M.D->V->Prop
 | .non,v=>v= .non
 | .bl b,v=>v= .bl b
 | .int i,v=>v= .int i
 | .str s,v=>v= .str (zdH s)
 | .tup ds,v=> ∃a vs,v= .ref a/\StT Γ G H a vs/\RelDs Γ G H ds vs
 | .lst ds,v=> ∃a vs,v= .ref a/\StL Γ G H a vs/\RelDs Γ G H ds vs
 | .ref r,v=>r<G.n/\v= .ref (G.rho r)
 | .exc c fs,v=>(fs= []/\ ∃x,v= .ref x/\G.fz x/\H x=y0 (jW x (Γ.ca c) u0)/\zdZ Γ c)\/(fs≠ []/\ ∃a,v= .ref a/\zcR Γ a fs)
 | .err c f d,v=> ∃x dx u,v= .ref x/\G.fz x/\G.fz dx/\H x=y0 (jW x (Γ.ca c) (y0 dx))/\H dx=y0 (.xd [(Str.ofString f,u)])/\zdZ Γ c/\qcC Γ.K (Γ.ca c) (Str.ofString f)/\RelD Γ G H d u
noncomputable def RelDs (Γ:Ge) (G:Gh) (H:Hp):List M.D->List V->Prop
 | [],vs=>vs= []
 | d::ds,vs=> ∃v r,vs=v::r/\RelD Γ G H d v/\RelDs Γ G H ds r
end
def qdE (k:M.WK):M.D:= .tup [.int k.1,.tup (k.2.1.map .int),.tup (k.2.2.map .int)]
noncomputable def CellRel (b:Ge) (G:Gh) (H:Hp) (a:Addr):M.Cell->Prop
 | .lst xs=>M.Gd xs=k9/\ ∃e,H a=y0 (.lst e)/\RelDs b G H xs e
 | .dic ks=> ∃xs,H a=y0 (DW a xs)/\xs.map (·.1)=ks/\ ∀x∈xs,RelD b G H (qdE x.1) (.ref x.2.1)
 | .dii ks=>H a=y0 (dI ks)
 | .obj c fs=>M.Gd (fs.map (·.2))=k9/\ ∃dx d,H a=y0 (.ins (b.ca c) dx ((fs.map λp=>Str.ofString p.1).zip d))/\RelDs b G H (fs.map (·.2)) d
structure HRel (Γ:Ge) (G:Gh) (h:M.AH) (H:Hp):Prop where
 len:h.length=G.n
 any: ∀r c,h[r]? =y0 c-> ¬G.fz (G.rho r)/\CellRel Γ G H (G.rho r) c
 inj: ∀r s,r<G.n->s<G.n->G.rho r=G.rho s->r=s
 live: ∀a,G.fz a-> ∃o,H a=y0 o
def jdB (G:Gh) (a:Addr):Prop:= ∀r,r<G.n->G.rho r≠a
structure Ext (G:Gh) (H:Hp) (G':Gh) (H':Hp):Prop where
 keep: ∀a o,H a=y0 o->jdB G a->H' a=y0 o
 le:G.n<=G'.n
 rho: ∀r,r<G.n->G'.rho r=G.rho r
 new: ∀r,G.n<=r->r<G'.n->H (G'.rho r)=u0
 fz: ∀a,G.fz a->G'.fz a
 old: ∀a,G'.fz a->G.fz a\/H a=u0
 cells: ∀r,r<G.n->(∃ o,H (G.rho r)=y0 o)-> ∃o,H' (G.rho r)=y0 o
noncomputable def RelW (c:Ge) (G:Gh) (H:Hp):M.W->V->Prop
 | .v d,v=>RelD c G H d v
 | .own xs,v=> ∃a b,v= .ref a/\ ¬G.fz a/\jdB G a/\H a=y0 (.lst b)/\RelDs c G H xs b
 | .bor xs,v=> ∃a b,v= .ref a/\jdB G a/\Rd H a (.lst b)/\RelDs c G H xs b
def xdR:M.W->Bool
 | .own _=>k9
 | .bor _=>k9
 | _=>y9
structure StRel (Γ:Ge) (G:Gh) (Y:M.Sl) (h:M.AH) (U:St) (H:Hp):Prop where
 len:Y.length=U.length
 slot: ∀i w,M.Gj Y i=y0 w-> ∃v,U[i]? =y0 (y0 v)/\RelW Γ G H w v
 apart: ∀i j xs w a,i≠j->M.Gj Y i=y0 (.own xs)->M.Gj Y j=y0 w->xdR w=k9->U[i]? =y0 (y0 (.ref a))->U[j]? ≠y0 (y0 (.ref a))
 heap:HRel Γ G h H
section
variable {Γ:Ge}{G G' G1 G2:Gh}{H H' H1 H2:Hp}{h h':M.AH}{Y:M.Sl}{U:St}
def HRel.cell (R:HRel Γ G h H) (r) (xs) (e:h[r]? =y0 (M.Cell.lst xs)): ¬G.fz (G.rho r)/\ ∃a,H (G.rho r)=y0 (.lst a)/\RelDs Γ G H xs a:=⟨(R.any r _ e).1,(R.any r _ e).2.2⟩
def HRel.pure (R:HRel Γ G h H) (r:Nat) (xs) (e:h[r]? =y0 (M.Cell.lst xs)):M.Gd xs=true:=(R.any r _ e).2.1
def HRel.lt (R:HRel Γ G h H)(e:h[r]? =y0 c):r<G.n:=by rw [← R.len];exact(Ac1.mp e).1
def HRel.at (R:HRel Γ G h H)(a:i<G.n): ∃c,h[i]? =y0 c:=⟨_,Aa4 (by rw [R.len];exact a)⟩
def CellRel.there (z:CellRel Γ G H a c): ∃o,H a=y0 o:=by
 cases c with
 | lst d=>obtain⟨_,_,z,_⟩:=z;exact⟨_,z⟩
 | dic b=>obtain⟨_,z,_⟩:=z;exact⟨_,z⟩
 | dii b=>exact⟨_,z⟩
 | obj c fs=>obtain⟨_,_,_,z,_⟩:=z;exact⟨_,z⟩
def HRel.nfz (r:HRel Γ G h H)(a:i<G.n): ¬G.fz (G.rho i):=let ⟨_,e⟩:=r.at a;(r.any i _ e).1
def HRel.off (r:HRel Γ G h H)(c:G.fz a):jdB G a:=λi b z=>r.nfz b (z▸c)
theorem HRel.there (r:HRel Γ G h H)(a:i<G.n): ∃o,H (G.rho i)=y0 o:=let ⟨_,e⟩:=r.at a;(r.any i _ e).2.there
def Ext.refl:Ext G H G H:=⟨λ_ _ e _=>e,Aa5 _,λ_ _=>rfl,λr b a=>absurd b (Ao2.mpr a),λ_ z=>z,λ_ z=> .inl z,λ_ _ z=>z⟩
theorem Ext.none (e:Ext G H G' H') (d:HRel Γ G h H)(z:H' a=u0):H a=none:=by
 cases q:H a with
 | none=>rfl
 | some o=>
  by_cases b:jdB G a
  ·rw [e.keep a o q b]at z;cases z
  ·unfold jdB at b
   have: ∃r,r<G.n/\G.rho r=a:=Classical.byContradiction λg=>b λr d z=>g ⟨r,d,z⟩
   obtain⟨r,c,rfl⟩:=this
   obtain⟨i,f⟩:=e.cells r c ⟨o,q⟩
   rw [z]at f;cases f
def Ext.off (e:Ext G H G' H')(d:H a=y0 o) (b:jdB G a):jdB G' a:=λr c z=>by
 by_cases hn:r<G.n
 ·rw [e.rho r hn]at z;exact b r hn z
 ·have:=e.new r (Am0.mp hn) c
  rw [z,d]at this;cases this
def Ext.trans (b:Ext G H G1 H1) (e:HRel Γ G h H) (c:Ext G1 H1 G2 H2):Ext G H G2 H2 where
 keep:=λa o z d=>c.keep a o (b.keep a o z d) (b.off z d)
 le:=Ac0 b.le c.le
 rho:=λr hn=>by rw [c.rho r (Ab0 hn b.le),b.rho r hn]
 new:=λr g f=>by
  by_cases hn:r<G1.n
  ·rw [c.rho r hn];exact b.new r g hn
  ·exact b.none e (c.new r (Am0.mp hn) f)
 fz:=λa z=>c.fz a (b.fz a z)
 old:=λa z=>(c.old a z).elim (λz=>b.old a z) λz=> .inr (b.none e z)
 cells:=λr hn z=>by
  have:=c.cells r (Ab0 hn b.le) (by rw [b.rho r hn];exact b.cells r hn z)
  rwa [b.rho r hn]at this
def Ext.rd (e:Ext G H G' H')(z:Rd H a u) (b:jdB G a):Rd H' a u:=z.elim (λz=> .inl (e.keep a _ z b)) λ⟨o,z⟩=> .inr ⟨o,e.keep a _ z b⟩
structure Mon (G:Gh) (H:Hp) (G':Gh) (H':Hp):Prop where
 keep: ∀a o,G.fz a->H a=y0 o->H' a=y0 o
 le:G.n<=G'.n
 rho: ∀r,r<G.n->G'.rho r=G.rho r
 fz: ∀a,G.fz a->G'.fz a
def Ext.mon (e:Ext G H G' H') (b:HRel Γ G h H):Mon G H G' H':=⟨λa o z q=>e.keep a o q (b.off z),e.le,e.rho,e.fz⟩
def Mon.rd (e:Mon G H G' H')(z:Rd H a u) (b:G.fz a):Rd H' a u:=z.elim (λz=> .inl (e.keep a _ b z)) λ⟨o,z⟩=> .inr ⟨o,e.keep a _ b z⟩
mutual
theorem RelD.mon (e:Mon G H G' H'): ∀ {d:M.D}{v:V},RelD Γ G H d v->RelD Γ G' H' d v
 | .non,_,z=>z
 | .bl _,_,z=>z
 | .int _,_,z=>z
 | .str _,_,z=>z
 | .tup _,_,⟨a,vs,z1,z2,z3⟩=>⟨a,vs,z1,z2.elim (λz=> .inl ⟨e.fz a z.1,e.keep a _ z.1 z.2⟩) λz=> .inr z,RelDs.mon e z3⟩
 | .lst _,_,⟨a,vs,z1,z2,z3⟩=>⟨a,vs,z1,z2.elim (λz=> .inl ⟨e.fz a z.1,e.rd z.2 z.1⟩) .inr,RelDs.mon e z3⟩
 | .ref r,_,⟨z1,z2⟩=>⟨Ab0 z1 e.le,by rw [e.rho r z1];exact z2⟩
 | .exc c fs,_,z=>z.imp (λ⟨z0,x,z1,z2,z3,z4⟩=>⟨z0,x,z1,e.fz x z2,e.keep x _ z2 z3,z4⟩) id
 | .err c f d,_,⟨x,dx,u,z1,z2,z3,z4,z5,z6,z7,z8⟩=>⟨x,dx,u,z1,e.fz x z2,e.fz dx z3,e.keep x _ z2 z4,e.keep dx _ z3 z5,z6,z7,RelD.mon e z8⟩
theorem RelDs.mon (e:Mon G H G' H'): ∀ {ds:List M.D}{vs:List V},RelDs Γ G H ds vs->RelDs Γ G' H' ds vs
 | [],_,z=>z
 | _::_,_,⟨v,r,z1,z2,z3⟩=>⟨v,r,z1,RelD.mon e z2,RelDs.mon e z3⟩
end
theorem CellRel.mon (e:Mon G H G' H')(k: ∀o,H a=y0 o->H' a=y0 o) (z:CellRel Γ G H a c):CellRel Γ G' H' a c:=by
 cases c with
 | lst g=>obtain⟨f,n,d,b⟩:=z;exact⟨f,n,k _ d,b.mon e⟩
 | dic m=>obtain⟨g,d,b,i⟩:=z;exact⟨g,k _ d,b,λx l=>(i x l).mon e⟩
 | dii m=>exact k _ z
 | obj c fs=>obtain⟨f,j,h,d,b⟩:=z;exact⟨f,j,h,k _ d,b.mon e⟩
def RelD.ext (e:Ext G H G' H') (a:HRel Γ G h H)(z:RelD Γ G H d v):RelD Γ G' H' d v:=z.mon (e.mon a)
def RelDs.ext (e:Ext G H G' H') (a:HRel Γ G h H)(z:RelDs Γ G H d v):RelDs Γ G' H' d v:=z.mon (e.mon a)
theorem RelW.ext (e:Ext G H G' H') (g:HRel Γ G h H)(z:RelW Γ G H w v):RelW Γ G' H' w v:=by
 cases w with
 | v d=>exact RelD.ext e g z
 | own k=>
  obtain⟨a,i,f,l,c,b,j⟩:=z
  refine⟨a,i,f,λq=> ?_,e.off b c,e.keep a _ b c,RelDs.ext e g j⟩
  rcases e.old a q with q | q
  ·exact l q
  ·rw [b]at q;cases q
 | bor k=>
  obtain⟨a,i,f,c,b,j⟩:=z
  refine⟨a,i,f,?_,e.rd b c,RelDs.ext e g j⟩
  rcases b with b | ⟨o,b⟩
  ·exact e.off b c
  ·exact e.off b c
theorem StRel.ext (s:StRel Γ G Y h U H) (e:Ext G H G' H') (c:HRel Γ G' h' H'):StRel Γ G' Y h' U H' where
 len:=s.len
 slot:=λi w z=>let ⟨v,b,a⟩:=s.slot i w z; ⟨v,b,a.ext e s.heap⟩
 apart:=s.apart
 heap:=c
theorem RelDs.length: ∀ {ds}{a},RelDs Γ G H ds a->ds.length=a.length
 | [],_,rfl=>rfl
 | _::_,_,⟨_,_,rfl,_,z⟩=>congrArg (· +1) (RelDs.length z)
theorem RelDs.get: ∀ {ds}{vs}{i:Nat}{d},RelDs Γ G H ds vs->ds[i]? =y0 d-> ∃v,vs[i]? =y0 v/\RelD Γ G H d v
 | [],_,_,_,_,e=>by simp at e
 | _::_,_,0,_,⟨v,_,rfl,z,_⟩,e=>by simp at e;subst e;exact⟨v,rfl,z⟩
 | _::_,_,i+1,_,⟨_,_,rfl,_,z⟩,e=>by
  obtain⟨v,b,a⟩:=RelDs.get z (by simpa using e)
  exact⟨v,by simpa using b,a⟩
theorem RelDs.append: ∀ {ds es}{b a},RelDs Γ G H ds b->RelDs Γ G H es a->RelDs Γ G H (ds++es) (b++a)
 | [],_,_,_,rfl,z=>z
 | _::_,_,_,_,⟨v,r,rfl,d,c⟩,z=>⟨v,r++_,rfl,d,RelDs.append c z⟩
theorem RelDs.drop: ∀ {ds}{a}(n),RelDs Γ G H ds a->RelDs Γ G H (ds.drop n) (a.drop n)
 | _,_,0,z=>z
 | [],_,_+1,rfl=>rfl
 | _::_,_,n+1,⟨_,_,rfl,_,z⟩=>RelDs.drop n z
theorem RelDs.take: ∀ {ds}{a}(n),RelDs Γ G H ds a->RelDs Γ G H (ds.take n) (a.take n)
 | _,_,0,_=>rfl
 | [],_,_+1,rfl=>rfl
 | _::_,_,n+1,⟨v,r,rfl,b,z⟩=>⟨v,r.take n,rfl,b,RelDs.take n z⟩
theorem RelDs.reverse: ∀ {ds}{a},RelDs Γ G H ds a->RelDs Γ G H ds.reverse a.reverse
 | [],_,rfl=>rfl
 | _::_,_,⟨v,r,rfl,b,z⟩=>by
  rw [Al9,Al9]
  exact(RelDs.reverse z).append ⟨v,[],rfl,b,rfl⟩
theorem RelDs.set (z:RelD Γ G H d v): ∀ {ds}{b} i,RelDs Γ G H ds b->RelDs Γ G H (ds.set i d) (b.set i v)
 | [],_,_,rfl=>rfl
 | _::_,_,0,⟨_,r,rfl,_,a⟩=>⟨v,r,rfl,z,a⟩
 | _::_,_,i+1,⟨u,r,rfl,c,a⟩=>⟨u,r.set i v,rfl,c,RelDs.set z i a⟩
def Gh.more (G:Gh) (a:Addr):Gh:= { G with fz:=λb=>G.fz b\/b=a }
def QB (o) (b:H p=u0):Ext G H G (zdL H p o) where
 keep:=λa u z _=>by rw [qa (Xa z b)];exact z
 le:=Aa5 _
 rho:=λ_ _=>rfl
 new:=λr d c=>absurd d (Ao2.mpr c)
 fz:=λ_ z=>z
 old:=λ_ z=> .inl z
 cells:=λr _ ⟨u,z⟩=>⟨u,by rw [qa (Xa z b)];exact z⟩
def Wg (o) (b:H p=u0):Ext G H (G.more p) (zdL H p o) where
 keep:=λa u z _=>by rw [qa (Xa z b)];exact z
 le:=Aa5 _
 rho:=λ_ _=>rfl
 new:=λr d c=>absurd d (Ao2.mpr c)
 fz:=λ_ z=> .inl z
 old:=λa z=>z.elim .inl λe=> .inr (e▸b)
 cells:=λr _ ⟨u,z⟩=>⟨u,by rw [qa (Xa z b)];exact z⟩
def HRel.new (r:HRel Γ G h H)(o) (b:H p=u0):HRel Γ G h (zdL H p o) where
 len:=r.len
 any:=λi c z=>⟨(r.any i c z).1,(r.any i c z).2.mon ((QB o b).mon r) λu q=>by rw [qa (Xa q b)];exact q⟩
 inj:=r.inj
 live:=λa z=>let ⟨u,q⟩:=r.live a z; ⟨u,by rw [qa (Xa q b)];exact q⟩
def HRel.newF (r:HRel Γ G h H)(o) (b:H p=u0):HRel Γ (G.more p) h (zdL H p o) where
 len:=r.len
 any:=λi c z=>by
  obtain⟨f,d⟩:=r.any i c z
  obtain⟨u,g⟩:=d.there
  exact⟨λq=>q.elim f (Xa g b),d.mon ((Wg o b).mon r) λu q=>by rw [qa (Xa q b)];exact q⟩
 inj:=r.inj
 live:=λa z=>z.elim (λz=>let ⟨u,q⟩:=r.live a z; ⟨u,by rw [qa (Xa q b)];exact q⟩) λe=>⟨o,by rw [e];exact xb⟩
def Zm (a):Mon G H (G.more a) H:=⟨λ_ _ _ z=>z,Aa5 _,λ_ _=>rfl,λ_ z=> .inl z⟩
theorem Ext.more (e:Ext G H G1 H1)(c:H a=Option.none):Ext G H (G1.more a) H1:=
 ⟨e.keep,e.le,e.rho,e.new,λb z=> .inl (e.fz b z),λb z=>z.elim (λz=>e.old b z) λz=> .inr (z▸c),e.cells⟩
theorem HRel.more (r:HRel Γ G h H)(d:jdB G a) (f: ∃o,H a=y0 o):HRel Γ (G.more a) h H where
 len:=r.len
 any:=λi c z=>⟨λq=>q.elim (r.any i c z).1 λe=>d i (r.lt z) e,(r.any i c z).2.mon (Zm a) λ_ q=>q⟩
 inj:=r.inj
 live:=λb z=>z.elim (λz=>r.live b z) λe=>e▸f
theorem RelW.more (z:RelW Γ G H w v) (j:xdR w=k9->v≠ .ref a):RelW Γ (G.more a) H w v:=by
 cases w with
 | v d=>exact RelD.mon (Zm a) z
 | own l=>
  obtain⟨b,h,c,k,g,f,i⟩:=z
  exact⟨b,h,c,λq=>q.elim k λe=>j rfl (e▸c),g,f,i.mon (Zm a)⟩
 | bor l=>
  obtain⟨b,h,c,g,f,i⟩:=z
  exact⟨b,h,c,g,f,i.mon (Zm a)⟩
theorem StRel.more (s:StRel Γ G Y h U H)(b:jdB G a) (g: ∃o,H a=y0 o) (d: ∀ i w,M.Gj Y i=y0 w->xdR w=k9->U[i]? ≠y0 (y0 (.ref a))):StRel Γ (G.more a) Y h U H where
 len:=s.len
 slot:=λi w z=>by
  obtain⟨v,c,f⟩:=s.slot i w z
  exact⟨v,c,f.more λq e=>d i w z q (e▸c)⟩
 apart:=s.apart
 heap:=s.heap.more b g
noncomputable def FreshW (Y:M.Sl) (U:St) (H:Hp):M.W->V->Prop
 | .v _,_=>True
 | .own _,v=> ∃a,v= .ref a/\H a=u0
 | .bor _,v=> ∃(i:Nat) (w:M.W),M.Gj Y i=y0 w/\xdR w=k9/\U[i]? =y0 (y0 v)
def FreshW.back (e:Ext G H G1 H1) (f:HRel Γ G h H)(z:FreshW Y U H1 w v):FreshW Y U H w v:=by
 cases w with
 | v d=>trivial
 | own g=>obtain⟨a,c,b⟩:=z;exact⟨a,c,e.none f b⟩
 | bor g=>exact z
def StRel.slotThere (s:StRel Γ G Y h U H)(e:M.Gj Y i=y0 w) (k:xdR w=k9) (q:U[i]? =y0 (y0 (.ref a))): ∃o,H a=y0 o:=by
 obtain⟨v,f,g⟩:=s.slot i w e
 rw [q]at f
 cases f
 cases w with
 | v d=>cases k
 | own j=>obtain⟨b,l,f,_,_,c,_⟩:=g;cases f;exact⟨_,c⟩
 | bor j=>
  obtain⟨b,l,f,_,c,_⟩:=g
  cases f
  rcases c with c | ⟨o,c⟩
  ·exact⟨_,c⟩
  ·exact⟨_,c⟩
noncomputable def qcN (a:Ge) (E:XK) (d:M.D) (G:Gh) (H:Hp):Prop:=(∀ c,d= .exc c []->zdZ a c->E (.ref (a.ca c)) u0 H) ∧
 ∀c f b,d= .err c f b->zdZ a c->qcC a.K (a.ca c) (Str.ofString f)-> ∀dx u,G.fz dx->H dx=y0 (.xd [(Str.ofString f,u)])->RelD a G H b u->E (.ref (a.ca c)) (y0 dx) H
noncomputable def Post {c:Type}(b:Ge) (E:XK) (G:Gh) (H:Hp) (r:M.R c) (P:c->M.AH->Gh->Hp->Prop):Prop:=match r with
 | .ok a h'=> ∀G' H',Ext G H G' H'->HRel b G' h' H'->P a h' G' H'
 | .exc d h'=> ∀G' H',Ext G H G' H'->HRel b G' h' H'->qcN b E d G' H'
 | .fail=>False
def Post.on (p:Post Γ E G H r P) (e:Ext G H G1 H1) (i:HRel Γ G h H):Post Γ E G1 H1 r P:=by
 cases r with
 | ok a j=>exact λg f c b=>p g f (e.trans i c) b
 | exc d j=>exact λg f c b=>p g f (e.trans i c) b
 | fail=>exact p
noncomputable def tD (a:Ge) (E:XK) (m:M.Sl->M.AH->M.R M.W):TE:=λU H Q=> ∃G Y h,StRel a G Y h U H/\Post a E G H (m Y h) λw h' G' H'=> ∀v,RelW a G' H' w v->FreshW Y U H w v->Q v H'
noncomputable def qdS (a:Ge) (E:XK) (m:M.Sl->M.AH->M.R Bool):TT:=λU H Q=> ∃G Y h,StRel a G Y h U H/\Post a E G H (m Y h) λb _ _ H'=>Q b H'
def Ja (b:HRel Γ G0 h0 H0) (a:Ext G0 H0 G H) (s:StRel Γ G Y h U H)
 (p:Post Γ E G0 H0 ((m Y h).bind f) P)
 (k: ∀w v h1 G1 H1,Ext G0 H0 G1 H1->Ext G H G1 H1->StRel Γ G1 Y h1 U H1->RelW Γ G1 H1 w v->FreshW Y U H w v->Post Γ E G0 H0 (f w h1) P->Q v H1):tD Γ E m U H Q:=by
 refine⟨G,Y,h,s,?_⟩
 cases q:m Y h with
 | ok w h1=>
  rw [q]at p
  exact λG1 H1 e i v g c=>k w v h1 G1 H1 (a.trans b e) e (s.ext e i) g c p
 | exc d h1=>rw [q]at p;exact Post.on p a b
 | fail=>rw [q]at p;exact p
def QK (c:HRel Γ G0 h0 H0) (a:Ext G0 H0 G H) (s:StRel Γ G Y h U H)
 (p:Post Γ E G0 H0 ((m Y h).bind f) P)
 (k: ∀b h1 G1 H1,Ext G0 H0 G1 H1->Ext G H G1 H1->StRel Γ G1 Y h1 U H1->Post Γ E G0 H0 (f b h1) P->Q b H1):qdS Γ E m U H Q:=by
 refine⟨G,Y,h,s,?_⟩
 cases q:m Y h with
 | ok w h1=>
  rw [q]at p
  exact λG1 H1 e g=>k w h1 G1 H1 (a.trans c e) e (s.ext e g) p
 | exc d h1=>rw [q]at p;exact Post.on p a c
 | fail=>rw [q]at p;exact p
noncomputable def xd0 (a:Ge) (E:XK) (m:M.Sl->M.AH->M.R (List M.D)):TA:=λU H Q=> ∃G Y h,StRel a G Y h U H/\Post a E G H (m Y h) λds _ G' H'=> ∀b,RelDs a G' H' ds b->Q b H'
noncomputable def RelWs (b:Ge) (G:Gh) (H:Hp):List M.W->List V->Prop
 | [],a=>a= []
 | w::c,a=> ∃v r,a=v::r/\RelW b G H w v/\RelWs b G H c r
theorem RelWs.length: ∀ {ws}{a},RelWs Γ G H ws a->ws.length=a.length
 | [],_,rfl=>rfl
 | _::_,_,⟨_,_,rfl,_,z⟩=>congrArg (· +1) (RelWs.length z)
noncomputable def zdJ (a:Ge) (E:XK) (m:M.Sl->M.AH->M.R (List M.W)):TA:=λU H Q=> ∃G Y h,StRel a G Y h U H/\Post a E G H (m Y h) λc _ G' H'=> ∀b,RelWs a G' H' c b->Q b H'
def QS (c:HRel Γ G0 h0 H0) (b:Ext G0 H0 G H) (s:StRel Γ G Y h U H)
 (p:Post Γ E G0 H0 ((m Y h).bind f) P)
 (k: ∀ds a h1 G1 H1,Ext G0 H0 G1 H1->Ext G H G1 H1->StRel Γ G1 Y h1 U H1->RelDs Γ G1 H1 ds a->Post Γ E G0 H0 (f ds h1) P->Q a H1):xd0 Γ E m U H Q:=by
 refine⟨G,Y,h,s,?_⟩
 cases q:m Y h with
 | ok w h1=>
  rw [q]at p
  exact λG1 H1 e g a z=>k w a h1 G1 H1 (b.trans c e) e (s.ext e g) z p
 | exc d h1=>rw [q]at p;exact Post.on p b c
 | fail=>rw [q]at p;exact p
def qC (c:HRel Γ G0 h0 H0) (b:Ext G0 H0 G H) (s:StRel Γ G Y h U H)
 (p:Post Γ E G0 H0 ((m Y h).bind f) P)
 (k: ∀ds a h1 G1 H1,Ext G0 H0 G1 H1->Ext G H G1 H1->StRel Γ G1 Y h1 U H1->RelWs Γ G1 H1 ds a->Post Γ E G0 H0 (f ds h1) P->Q a H1):zdJ Γ E m U H Q:=by
 refine⟨G,Y,h,s,?_⟩
 cases q:m Y h with
 | ok w h1=>
  rw [q]at p
  exact λG1 H1 e g a z=>k w a h1 G1 H1 (b.trans c e) e (s.ext e g) z p
 | exc d h1=>rw [q]at p;exact Post.on p b c
 | fail=>rw [q]at p;exact p
theorem Post.of (p:Post Γ E G H ((M.R.of h o).bind f) P): ∃b,o=y0 b/\Post Γ E G H (f b h) P:=by
 cases o with
 | none=>exact p.elim
 | some b=>exact⟨b,rfl,p⟩
def Post.at (p:Post Γ E G H (.ok a h) P) (e:Ext G H G1 H1) (b:HRel Γ G1 h H1):P a h G1 H1:=p G1 H1 e b
def qdt (e:Ext G H G1 H1) (s:StRel Γ G1 Y h U H1) (t:StRel Γ G Y h' U H)(r:RelW Γ G1 H1 w v) (f:FreshW Y U H w v) (c:w.d=y0 d):
 ∃G2,Ext G H G2 H1/\StRel Γ G2 Y h U H1/\RelD Γ G2 H1 d v/\Mon G1 H1 G2 H1:=by
 cases w with
 | v y=>cases c;exact⟨G1,e,s,r,⟨λ_ _ _ z=>z,Aa5 _,λ_ _=>rfl,λ_ z=>z⟩⟩
 | own k=>
  cases c
  obtain⟨a,n,rfl,x,p,g,u⟩:=r
  obtain⟨b,l,hn⟩:=f
  cases l
  refine⟨G1.more a,e.more hn,s.more p ⟨_,g⟩ λi w q m z=> ?_,⟨a,n,rfl,.inl ⟨.inr rfl,.inl g⟩,u.mon (Zm a)⟩,Zm a⟩
  obtain⟨o,j⟩:=t.slotThere q m z
  rw [hn]at j;cases j
 | bor k=>cases c
end
open PySem PySem.Spec PyProof.Rows
mutual
noncomputable def RV (hp:Heap):M.D->Value->Prop
 | .non,u=>u= .none
 | .bl b,u=>u= .bool b
 | .int i,u=> ∃t,u= .int i t
 | .str s,u=> ∃t,u= .str (zdH s) t
 | .tup ds,u=> ∃(a:Addr) (its:List Value),u= .ref a/\IsTup hp a its.toArray/\RVs hp ds its
 | .lst ds,u=> ∃(a:Addr) (its:List Value),u= .ref a/\hp.IsList a its.toArray/\RVs hp ds its
 | .ref _,_=>False
 | .exc _ _,_=>False
 | .err _ _ _,_=>False
noncomputable def RVs (hp:Heap):List M.D->List Value->Prop
 | [],us=>us= []
 | d::ds,us=> ∃u r,us=u::r/\RV hp d u/\RVs hp ds r
end
theorem RVs.length : ∀ {ds}{a},RVs hp ds a->ds.length=a.length
 | [],_,rfl=>rfl
 | _::_,_,⟨_,_,rfl,_,z⟩=>congrArg (· +1) (RVs.length z)
theorem RVs.get : ∀ {ds}{us}{j:Nat}{u},RVs hp ds us->us[j]? =y0 u-> ∃d,ds[j]? =y0 d/\RV hp d u
 | [],_,_,_,rfl,e=>by simp at e
 | d::_,_,0,_,⟨v,_,rfl,z,_⟩,e=>by simp at e;subst e;exact⟨d,rfl,z⟩
 | _::_,_,j+1,_,⟨_,_,rfl,_,z⟩,e=>by
  obtain⟨v,b,a⟩:=RVs.get z (by simpa using e)
  exact⟨v,by simpa using b,a⟩
section
variable {X:Cx}{Γ:Ge}{G:Gh}{H:Hp}{h:M.AH}{k8:List (Addr×Obj)}{U:St}{s:Shared}
mutual
theorem RelD.rv0 (I:Inv X k8 U H s) (hK:X.K=Γ.K): ∀ {d:M.D}{x:V}{u:Value},RelD Γ G H d x->RelV x u->M.Gc d=k9->RV s.heap d u
 | .non,_,_,rfl,r,_=>r
 | .bl _,_,_,rfl,r,_=>r
 | .int _,_,_,rfl,r,_=>r
 | .str _,_,_,rfl,r,_=>r
 | .tup ds,_,_,⟨a,vs,rfl,z2,z3⟩,r,n=>by
  cases r
  obtain⟨its,r1,p1,_⟩:=I.tuple (hK▸z2.sq)
  exact⟨a,its,rfl,p1,RelDs.rv0 I hK z3 r1 (by simpa [M.Gc]using n)⟩
 | .lst ds,_,_,⟨a,vs,rfl,z2,z3⟩,r,n=>by
  cases r
  obtain⟨its,r1,p1,_⟩:=I.list (hK▸z2.sq)
  exact⟨a,its,rfl,p1.isList,RelDs.rv0 I hK z3 r1 (by simpa [M.Gc]using n)⟩
 | .ref _,_,_,_,_,n=>by simp [M.Gc]at n
 | .exc _ _,_,_,_,_,n=>by simp [M.Gc]at n
 | .err _ _ _,_,_,_,_,n=>by simp [M.Gc]at n
theorem RelDs.rv0 (I:Inv X k8 U H s) (hK:X.K=Γ.K): ∀ {ds:List M.D}{xs:List V}{us:List Value},RelDs Γ G H ds xs->Vals xs us->M.Gd ds=k9->RVs s.heap ds us
 | [],_,_,rfl,.nil,_=>rfl
 | d::ds,_,_,⟨v,r,rfl,z1,z2⟩,.cons r1 r2,n=>by
  have n':M.Gc d=k9/\M.Gd ds=true:=by simpa [M.Gd]using n
  exact⟨_,_,rfl,RelD.rv0 I hK z1 r1 n'.1,RelDs.rv0 I hK z2 r2 n'.2⟩
end
mutual
theorem RelD.rv (I:Inv X k8 U H s) (hK:X.K=Γ.K) (hr:HRel Γ G h H): ∀ {d:M.D}{x:V}{u:Value},RelD Γ G H d x->RelV x u->M.Gc (M.res h d)=k9->RV s.heap (M.res h d) u
 | .non,_,_,rfl,r,_=>r
 | .bl _,_,_,rfl,r,_=>r
 | .int _,_,_,rfl,r,_=>r
 | .str _,_,_,rfl,r,_=>r
 | .tup ds,_,_,⟨a,vs,rfl,z2,z3⟩,r,n=>by
  cases r
  obtain⟨its,r1,p1,_⟩:=I.tuple (hK▸z2.sq)
  rw [M.res]at n ⊢
  exact⟨a,its,rfl,p1,RelDs.rv I hK hr z3 r1 (by simpa [M.Gc]using n)⟩
 | .lst ds,_,_,⟨a,vs,rfl,z2,z3⟩,r,n=>by
  cases r
  obtain⟨its,r1,p1,_⟩:=I.list (hK▸z2.sq)
  rw [M.res]at n ⊢
  exact⟨a,its,rfl,p1.isList,RelDs.rv I hK hr z3 r1 (by simpa [M.Gc]using n)⟩
 | .ref i,_,_,⟨hi,e⟩,r,n=>by
  subst e
  cases r
  rw [M.res]at n ⊢
  cases q:h[i]? with
  | none=>rw [q]at n;simp [M.Gc]at n
  | some c=>
   cases c with
   | lst xs=>
    rw [q]at n
    obtain⟨_,vs,z2,z3⟩:=hr.cell i xs q
    obtain⟨its,r1,p1,_⟩:=I.list (SqL.of (K:=X.K) z2)
    exact⟨_,its,rfl,p1.isList,RelDs.rv0 I hK z3 r1 (by simpa [M.Gc]using n)⟩
   | dic ks=>rw [q]at n;simp [M.Gc]at n
   | obj c fs=>rw [q]at n;simp [M.Gc]at n
   | dii ks=>rw [q]at n;simp [M.Gc]at n
 | .exc _ _,_,_,_,_,n=>by simp [M.res,M.Gc]at n
 | .err _ _ _,_,_,_,_,n=>by simp [M.res,M.Gc]at n
theorem RelDs.rv (I:Inv X k8 U H s) (hK:X.K=Γ.K) (hr:HRel Γ G h H): ∀ {ds:List M.D}{xs:List V}{us:List Value},RelDs Γ G H ds xs->Vals xs us->M.Gd (M.KT h ds)=k9->RVs s.heap (M.KT h ds) us
 | [],_,_,rfl,.nil,_=>rfl
 | d::ds,_,_,⟨v,r,rfl,z1,z2⟩,.cons r1 r2,n=>by
  rw [M.KT]at n ⊢
  have n':M.Gc (M.res h d)=k9/\M.Gd (M.KT h ds)=true:=by simpa [M.Gd]using n
  exact⟨_,_,rfl,RelD.rv I hK hr z1 r1 n'.1,RelDs.rv I hK hr z2 r2 n'.2⟩
end
theorem RelW.rv (I:Inv X k8 U H s) (c:X.K=Γ.K) (g:HRel Γ G h H)(z:RelW Γ G H w x) (r:RelV x u) (n:M.Gc (w.dd h)=k9):RV s.heap (w.dd h) u:=by
 cases w with
 | v d=>exact RelD.rv I c g z r n
 | own k=>
  obtain⟨a,l,rfl,_,_,f,j⟩:=z
  cases r
  obtain⟨b,i,e,_⟩:=I.list (SqL.of f)
  exact⟨a,b,rfl,e.isList,RelDs.rv I c g j i (by simpa [M.Gc]using n)⟩
 | bor k=>
  obtain⟨a,l,rfl,_,f,j⟩:=z
  cases r
  obtain⟨b,i,e,_⟩:=I.list (.inl f)
  exact⟨a,b,rfl,e.isList,RelDs.rv I c g j i (by simpa [M.Gc]using n)⟩
end
def zay (h:zdH a=zdH b):a=b:=by
 have:=congrArg Str.cps h
 simpa [zdH]using this
def QN {xs c:List Value}(h1:IsTup hp a xs.toArray) (h2:IsTup hp a c.toArray):xs=c:=by
 obtain⟨o,f,_,n,e⟩:=h1
 obtain⟨g,d,_,h,b⟩:=h2
 rw [f]at d;cases d
 rw [e]at b;cases b
 rfl
def wG {b:Heap}{xs d:List Value}(h1:b.IsList a xs.toArray) (h2:b.IsList a d.toArray):xs=d:=by
 obtain⟨o,g,_,n,f⟩:=h1
 obtain⟨h,e,_,i,c⟩:=h2
 rw [g]at e;cases e
 rw [f]at c;cases c
 rfl
def Jx (h1:IsTup hp a xs) (h2:hp.IsList a ys):False:=by
 obtain⟨o,e,d,_⟩:=h1
 obtain⟨f,c,b,_⟩:=h2
 rw [e]at c;cases c
 rw [d]at b
 exact absurd b (by decide)
mutual
theorem RV.inj {hp:Heap}: ∀ {d e:M.D}{u:Value},RV hp d u->RV hp e u->d=e
 | .non,e,_,rfl,q=>by cases e<;>first | rfl | (simp [RV]at q)
 | .bl _,e,_,rfl,q=>by cases e<;>first | (simp [RV]at q;done) | (have q:=q;simp [RV]at q;try rw [q])
 | .int _,e,_,⟨t,rfl⟩,q=>by cases e<;>first | (simp [RV]at q;done) | (have q:=q;simp [RV]at q;try rw [q])
 | .str _,e,_,⟨t,rfl⟩,q=>by
  cases e with
  | str z=>
   obtain⟨t',q⟩:=q
   injection q with q1 q2
   rw [zay q1]
  | _=>simp [RV]at q
 | .tup ds,e,_,⟨a,its,rfl,p,r⟩,q=>by
  cases e with
  | tup es=>
   obtain⟨b,its2,e,p2,r2⟩:=q
   cases e
   cases QN p p2
   rw [RVs.inj r r2]
  | lst es=>
   obtain⟨b,its2,e,p2,r2⟩:=q
   cases e
   exact(Jx p p2).elim
  | _=>simp [RV]at q
 | .lst ds,e,_,⟨a,its,rfl,p,r⟩,q=>by
  cases e with
  | lst es=>
   obtain⟨b,its2,e,p2,r2⟩:=q
   cases e
   cases wG p p2
   rw [RVs.inj r r2]
  | tup es=>
   obtain⟨b,its2,e,p2,r2⟩:=q
   cases e
   exact(Jx p2 p).elim
  | _=>simp [RV]at q
 | .ref _,_,_,q,_=>q.elim
 | .exc _ _,_,_,q,_=>q.elim
 | .err _ _ _,_,_,q,_=>q.elim
theorem RVs.inj {hp:Heap}: ∀ {d e:List M.D}{u:List Value},RVs hp d u->RVs hp e u->d=e
 | [],e,_,rfl,q=>by
  cases e with
  | nil=>rfl
  | cons a b=>obtain⟨_,_,z,_⟩:=q;cases z
 | d::ds,e,_,⟨u,r,rfl,z1,z2⟩,q=>by
  cases e with
  | nil=>cases (show _::_= []from q)
  | cons a b=>
   obtain⟨_,_,z,y1,y2⟩:=q
   cases z
   rw [RV.inj z1 y1,RVs.inj z2 y2]
end
mutual
theorem RV.refl {hp:Heap}: ∀ {d:M.D}{u:Value},RV hp d u->M.eqD d d=k9
 | .non,_,_=>rfl
 | .bl _,_,_=>by simp
 | .int _,_,_=>by simp
 | .str _,_,_=>by simp
 | .tup ds,_,⟨_,_,_,_,r⟩=>by rw [M.eqD];exact RVs.refl r
 | .lst ds,_,⟨_,_,_,_,r⟩=>by rw [M.eqD];exact RVs.refl r
 | .ref _,_,q=>q.elim
 | .exc _ _,_,q=>q.elim
 | .err _ _ _,_,q=>q.elim
theorem RVs.refl {hp:Heap}: ∀ {d:List M.D}{u:List Value},RVs hp d u->M.Ks d d=k9
 | [],_,_=>rfl
 | d::ds,_,⟨_,_,_,z1,z2⟩=>by rw [M.Ks,RV.refl z1,RVs.refl z2];rfl
end
def jdW (xs c:List M.D) (j:Nat):Bool:=match xs[j]?,c[j]? with
 | some a,y0 b=>M.eqD a b
 | _,_=>k9
def ZD (n) (e):(Aa0 (n+1)).all e=(e 0&&(Aa0 n).all λj=>e (j+1)):=by
 rw [Af8,Ai1,Am7];rfl
theorem WT: ∀(xs ys),xs.length=ys.length->(Aa0 xs.length).all (jdW xs ys)=M.Ks xs ys
 | [],[],_=>rfl
 | [],_::_,h=>by simp at h
 | _::_,[],h=>by simp at h
 | x::xs,y::ys,h=>by
  rw [Ab9,ZD,M.Ks]
  have a:=WT xs ys (by simpa using h)
  rw [← a]
  rfl
theorem wZ: ∀(xs ys),M.Ks xs ys=k9->xs.length=ys.length
 | [],[],_=>rfl
 | [],_::_,h=>by simp at h
 | _::_,[],h=>by simp at h
 | x::xs,y::ys,h=>by
  rw [M.Ks,Aa7]at h
  rw [Ab9,Ab9,wZ xs ys h.2]
def zag (h:xs.length≠ys.length):M.Ks xs ys=false:=by
 cases e:M.Ks xs ys with
 | false=>rfl
 | true=>exact absurd (wZ xs ys e) h
open SeqAt in
structure Cmp3 (A:Around) (s:Shared) (u v:Value) (b:Bool):Prop where
 rc:RcAt A s u v b
 ne:RcNeAt A s u v (!b)
 eq:EqAt A s u v b
section
open SeqAt
variable {A:Around}{s:Shared}
theorem qz: ∀ {ds}{j:Nat}{d},ds[j]? =y0 d->M.dep d<=M.Kz ds
 | [],_,_,e=>by simp at e
 | x::a,0,d,e=>by simp at e;subst e;simp only [M.Kz];omega
 | x::a,j+1,d,e=>by
  have:=qz (by simpa using e)
  simp only [M.Kz]
  omega
def xdp (b:Bool):((if b then(1:Int)else 0))=((b.toNat:Nat):Int):=by cases b<;>rfl
def qae (a b):(zdH a==zdH b)=(a==b):=by
 by_cases h:a=b
 ·subst h;simp
 ·have c:=λe=>h (zay e)
  rw [beq_eq_false_iff_ne.mpr h,beq_eq_false_iff_ne.mpr c]
def jaf (h:s.heap.IsList l its.toArray) (g:s.heap.IsList b its2.toArray) (k:RVs s.heap xs its) (n:RVs s.heap ys its2) (i:A.units<cLine)
 (y: ∀(j:Nat) a c u v,xs[j]? =y0 a->ys[j]? =y0 c->RV s.heap a u->RV s.heap c v->EqAt A.in1 s u v (M.eqD a c)):Cmp3 A s (.ref l) (.ref b) (M.Ks xs ys):=by
 have t: ∀ j o (m:j<its2.toArray.size),EqAt A.in1 s its.toArray[j] its2.toArray[j] (jdW xs ys j):=λj o m=>by
  obtain⟨a,r,z⟩:=k.get (j:=j) (u:=its.toArray[j]) (by simp at o;simp [o])
  obtain⟨c,p,x⟩:=n.get (j:=j) (u:=its2.toArray[j]) (by simp at m;simp [m])
  have:=y j a c _ _ r p z x
  unfold jdW
  rw [r,p]
  exact this
 have w:=k.length
 have l2:=n.length
 have two:RcAt A s (.ref l) (.ref b) (M.Ks xs ys)/\RcNeAt A s (.ref l) (.ref b) (!M.Ks xs ys):=by
  by_cases q:xs.length=ys.length
  ·have d:its.toArray.size=its2.toArray.size:=by simp;omega
   have e:(Aa0 its.toArray.size).all (jdW xs ys)=M.Ks xs ys:=by
    rw [Aa8,←w];exact WT xs ys q
   have a:=RcAt.lists h g d i t
   have c:=RcNeAt.lists h g d i t
   rw [e]at a c
   exact⟨a,c⟩
  ·have d:(its.toArray.size != its2.toArray.size)=true:=by simp;omega
   rw [zag q]
   exact⟨RcAt.lists_lengths h g d i,RcNeAt.lists_lengths h g d i⟩
 refine⟨two.1,two.2,?_⟩
 by_cases f:l=b
 ·subst f
  cases wG h g
  cases RVs.inj k n
  rw [RVs.refl k]
  exact EqAt.same _
 ·exact EqAt.of_refs f two.1
def Z8 (k:IsTup s.heap l its.toArray) (i:IsTup s.heap b its2.toArray) (g:RVs s.heap xs its) (m:RVs s.heap ys its2) (p:A.units<cLine)
 (x: ∀(j:Nat) a c u v,xs[j]? =y0 a->ys[j]? =y0 c->RV s.heap a u->RV s.heap c v->EqAt A.in1 s u v (M.eqD a c)):Cmp3 A s (.ref l) (.ref b) (M.Ks xs ys):=by
 have r: ∀ j n (h:j<its2.toArray.size),EqAt A.in1 s its.toArray[j] its2.toArray[j] (jdW xs ys j):=λj n h=>by
  obtain⟨a,q,y⟩:=g.get (j:=j) (u:=its.toArray[j]) (by simp at n;simp [n])
  obtain⟨c,o,w⟩:=m.get (j:=j) (u:=its2.toArray[j]) (by simp at h;simp [h])
  have:=x j a c _ _ q o y w
  unfold jdW
  rw [q,o]
  exact this
 have t:=g.length
 have l2:=m.length
 have e:((Aa0 (min its.toArray.size its2.toArray.size)).all (jdW xs ys)&&its.toArray.size==its2.toArray.size)=M.Ks xs ys:=by
  rw [Aa8,Aa8,←t,←l2]
  by_cases f:xs.length=ys.length
  ·rw [← f,Nat.min_self,WT xs ys f];simp
  ·rw [zag f];simp [f]
 have a:=RcAt.tuples k i p r
 have c:=RcNeAt.tuples k i p r
 rw [e]at a c
 refine⟨a,c,?_⟩
 by_cases d:l=b
 ·subst d
  cases QN k i
  cases RVs.inj g m
  rw [RVs.refl g]
  exact EqAt.same _
 ·exact EqAt.of_refs d a
def Cmp3.of (h:Cmp3 A s u v b) (e:b=b'):Cmp3 A s u v b':=e▸h
def zcN: ∀(n:Nat) (d e:M.D) (A:Around) (u v:Value),M.dep d<=n->A.units+n<cLine->RV s.heap d u->RV s.heap e v->Cmp3 A s u v (M.eqD d e):=by
 intro n
 induction n with
 | zero=>
  intro d e A u v y L m f
  have c:A.units<cLine:=by omega
  cases d with
  | non=>
   cases (show u= .none from m)
   cases e with
   | non=>cases (show v= .none from f);exact⟨RcAt.none_none,RcNeAt.none_none,EqAt.same _⟩
   | bl b=>cases (show v= .bool b from f);exact⟨RcAt.none_bool b,RcNeAt.none_bool b,EqAt.none_bool b⟩
   | int i=>obtain⟨t,rfl⟩:=f;exact⟨RcAt.none_int i t,RcNeAt.none_int i t,EqAt.none_int i t⟩
   | str z=>obtain⟨t,rfl⟩:=f;exact⟨RcAt.none_str _ t,RcNeAt.none_str _ t,EqAt.none_str _ t⟩
   | tup o=>obtain⟨a,k,rfl,p,_⟩:=f;exact⟨RcAt.none_tuple p c,RcNeAt.none_tuple p c,EqAt.none_tuple p c⟩
   | lst o=>obtain⟨a,k,rfl,p,_⟩:=f;exact⟨RcAt.none_list p c,RcNeAt.none_list p c,EqAt.none_list p c⟩
   | ref _=>exact f.elim
   | exc _ _=>exact f.elim
   | err _ _ _=>exact f.elim
  | bl x=>
   cases (show u= .bool x from m)
   cases e with
   | non=>cases (show v= .none from f);exact⟨RcAt.bool_none x,RcNeAt.bool_none x,EqAt.bool_none x⟩
   | bl b=>cases (show v= .bool b from f);exact⟨RcAt.bool_bool x b,RcNeAt.bool_bool x b,EqAt.bool_bool x b⟩
   | int i=>obtain⟨t,rfl⟩:=f;exact(Cmp3.mk (RcAt.bool_int x i t) (RcNeAt.bool_int x i t) (EqAt.bool_int x i t)).of (by rw [xdp];rfl)
   | str z=>obtain⟨t,rfl⟩:=f;exact⟨RcAt.bool_str x _ t,RcNeAt.bool_str x _ t,EqAt.bool_str x _ t⟩
   | tup o=>obtain⟨a,k,rfl,p,_⟩:=f;exact⟨RcAt.bool_tuple x p c,RcNeAt.bool_tuple x p c,EqAt.bool_tuple x p c⟩
   | lst o=>obtain⟨a,k,rfl,p,_⟩:=f;exact⟨RcAt.bool_list x p c,RcNeAt.bool_list x p c,EqAt.bool_list x p c⟩
   | ref _=>exact f.elim
   | exc _ _=>exact f.elim
   | err _ _ _=>exact f.elim
  | int x=>
   obtain⟨g,rfl⟩:=m
   cases e with
   | non=>cases (show v= .none from f);exact⟨RcAt.int_none x g,RcNeAt.int_none x g,EqAt.int_none x g⟩
   | bl b=>cases (show v= .bool b from f);exact(Cmp3.mk (RcAt.int_bool x g b) (RcNeAt.int_bool x g b) (EqAt.int_bool x g b)).of (by rw [xdp];rfl)
   | int i=>obtain⟨t,rfl⟩:=f;exact⟨RcAt.int_int x g i t,RcNeAt.int_int x g i t,EqAt.int_int x g i t⟩
   | str z=>obtain⟨t,rfl⟩:=f;exact⟨RcAt.int_str x g _ t,RcNeAt.int_str x g _ t,EqAt.int_str x g _ t⟩
   | tup o=>obtain⟨a,k,rfl,p,_⟩:=f;exact⟨RcAt.int_tuple x g p c,RcNeAt.int_tuple x g p c,EqAt.int_tuple x g p c⟩
   | lst o=>obtain⟨a,k,rfl,p,_⟩:=f;exact⟨RcAt.int_list x g p c,RcNeAt.int_list x g p c,EqAt.int_list x g p c⟩
   | ref _=>exact f.elim
   | exc _ _=>exact f.elim
   | err _ _ _=>exact f.elim
  | str x=>
   obtain⟨g,rfl⟩:=m
   cases e with
   | non=>cases (show v= .none from f);exact⟨RcAt.str_none _ g,RcNeAt.str_none _ g,EqAt.str_none _ g⟩
   | bl b=>cases (show v= .bool b from f);exact⟨RcAt.str_bool _ g b,RcNeAt.str_bool _ g b,EqAt.str_bool _ g b⟩
   | int i=>obtain⟨t,rfl⟩:=f;exact⟨RcAt.str_int _ g i t,RcNeAt.str_int _ g i t,EqAt.str_int _ g i t⟩
   | str z=>obtain⟨t,rfl⟩:=f;exact(Cmp3.mk (RcAt.str_str _ g _ t) (RcNeAt.str_str _ g _ t) (EqAt.str_str _ g _ t)).of (by rw [qae];rfl)
   | tup o=>obtain⟨a,k,rfl,p,_⟩:=f;exact⟨RcAt.str_tuple _ g p c,RcNeAt.str_tuple _ g p c,EqAt.str_tuple _ g p c⟩
   | lst o=>obtain⟨a,k,rfl,p,_⟩:=f;exact⟨RcAt.str_list _ g p c,RcNeAt.str_list _ g p c,EqAt.str_list _ g p c⟩
   | ref _=>exact f.elim
   | exc _ _=>exact f.elim
   | err _ _ _=>exact f.elim
  | tup B=>simp only [M.dep]at y;omega
  | lst B=>simp only [M.dep]at y;omega
  | ref _=>exact m.elim
  | exc _ _=>exact m.elim
  | err _ _ _=>exact m.elim
 | succ n w=>
  intro d e A u v y L m f
  have c:A.units<cLine:=by omega
  cases d with
  | tup B=>
   obtain⟨l,C,rfl,h,H⟩:=m
   have r:M.Kz B<=n:=by simp only [M.dep]at y;omega
   cases e with
   | non=>cases (show v= .none from f);exact⟨RcAt.tuple_none h c,RcNeAt.tuple_none h c,EqAt.tuple_none h c⟩
   | bl b=>cases (show v= .bool b from f);exact⟨RcAt.tuple_bool b h c,RcNeAt.tuple_bool b h c,EqAt.tuple_bool b h c⟩
   | int i=>obtain⟨t,rfl⟩:=f;exact⟨RcAt.tuple_int i t h c,RcNeAt.tuple_int i t h c,EqAt.tuple_int i t h c⟩
   | str z=>obtain⟨t,rfl⟩:=f;exact⟨RcAt.tuple_str _ t h c,RcNeAt.tuple_str _ t h c,EqAt.tuple_str _ t h c⟩
   | tup o=>
    obtain⟨a,k,rfl,p,q⟩:=f
    rw [M.eqD]
    exact Z8 h p H q c λj K F D E I N J G=>(w K F A.in1 D E (Ac0 (qz I) r) (by show A.units+1+n<cLine;omega) J G).eq
   | lst o=>obtain⟨a,k,rfl,p,_⟩:=f;exact⟨RcAt.tuple_list h p c,RcNeAt.tuple_list h p c,EqAt.tuple_list h p c⟩
   | ref _=>exact f.elim
   | exc _ _=>exact f.elim
   | err _ _ _=>exact f.elim
  | lst B=>
   obtain⟨l,C,rfl,h,H⟩:=m
   have r:M.Kz B<=n:=by simp only [M.dep]at y;omega
   cases e with
   | non=>cases (show v= .none from f);exact⟨RcAt.list_none h c,RcNeAt.list_none h c,EqAt.list_none h c⟩
   | bl b=>cases (show v= .bool b from f);exact⟨RcAt.list_bool b h c,RcNeAt.list_bool b h c,EqAt.list_bool b h c⟩
   | int i=>obtain⟨t,rfl⟩:=f;exact⟨RcAt.list_int i t h c,RcNeAt.list_int i t h c,EqAt.list_int i t h c⟩
   | str z=>obtain⟨t,rfl⟩:=f;exact⟨RcAt.list_str _ t h c,RcNeAt.list_str _ t h c,EqAt.list_str _ t h c⟩
   | lst o=>
    obtain⟨a,k,rfl,p,q⟩:=f
    rw [M.eqD]
    exact jaf h p H q c λj K F D E I N J G=>(w K F A.in1 D E (Ac0 (qz I) r) (by show A.units+1+n<cLine;omega) J G).eq
   | tup o=>obtain⟨a,k,rfl,p,_⟩:=f;exact⟨RcAt.list_tuple h p c,RcNeAt.list_tuple h p c,EqAt.list_tuple h p c⟩
   | ref _=>exact f.elim
   | exc _ _=>exact f.elim
   | err _ _ _=>exact f.elim
  | non=>exact w .non e A u v (by simp) (by omega) m f
  | bl x=>exact w (.bl x) e A u v (by simp) (by omega) m f
  | int x=>exact w (.int x) e A u v (by simp) (by omega) m f
  | str x=>exact w (.str x) e A u v (by simp) (by omega) m f
  | ref _=>exact m.elim
  | exc _ _=>exact m.elim
  | err _ _ _=>exact m.elim
end
noncomputable def PostW (a:Ge) (E:XK) (G:Gh) (H:Hp) (r:M.R M.W) (Q:VK):Prop:=Post a E G H r λw _ G' H'=> ∀v,RelW a G' H' w v->FreshW [] [] H w v->Q v H'
section
variable {X:Cx}{Γ:Ge}{G:Gh}{H:Hp}{h:M.AH}{k8:List (Addr×Obj)}{U:St}{s:Shared}{Q:VK}{E:XK}
theorem PostW.v (p:PostW Γ E G H (.ok (.v d) h) Q) (a:HRel Γ G h H){v:V}(z:RelD Γ G H d v):Q v H:=p G H Ext.refl a v z trivial
def HRel.nofz (b:HRel Γ G h H)(c:H a=u0): ¬G.fz a:=λq=>by
 obtain⟨o,z⟩:=b.live a q
 rw [c]at z;cases z
def HRel.offN (b:HRel Γ G h H)(c:H a=u0):jdB G a:=λr hn e=>by
 obtain⟨o,q⟩:=b.there hn
 rw [e,c]at q;cases q
theorem PostW.own (p:PostW Γ E G H (.ok (.own xs) h) Q) (c:HRel Γ G h H) (z:RelDs Γ G H xs vs) (a) (b:H a=u0):Q (.ref a) (zdL H a (.lst vs)):=
 p G (zdL H a (.lst vs)) (QB _ b) (c.new _ b) (.ref a) ⟨a,vs,rfl,c.nofz b,c.offN b,xb,z.ext (QB _ b) c⟩ ⟨a,rfl,b⟩
theorem PostW.tup (p:PostW Γ E G H (.ok (.v (.tup xs)) h) Q) (c:HRel Γ G h H) (z:RelDs Γ G H xs vs) (a) (b:H a=u0):Q (.ref a) (zdL H a (.tup vs)):=
 p (G.more a) (zdL H a (.tup vs)) (Wg _ b) (c.newF _ b) (.ref a) ⟨a,vs,rfl,.inl ⟨.inr rfl,xb⟩,z.ext (Wg _ b) c⟩ trivial
theorem PostW.of (p:PostW Γ E G H ((M.R.of h o).bind f) Q): ∃b,o=y0 b/\PostW Γ E G H (f b h) Q:=Post.of p
def PostW.mk (p:Post Γ E G0 H0 r λw _ G' H'=> ∀v,RelW Γ G' H' w v->FreshW Y U H0 w v->Q v H') (e:Ext G0 H0 G H) (g:HRel Γ G0 h0 H0):PostW Γ E G H r Q:=by
 cases r with
 | ok w j=>
  refine λG' H' c b v l h=>p G' H' (e.trans g c) b v l ?_
  cases w with
  | v d=>trivial
  | own m=>obtain⟨a,f,k⟩:=h;exact⟨a,f,e.none g k⟩
  | bor m=>obtain⟨i,w,f,_⟩:=h;simp at f
 | exc d j=>exact λG' H' c b=>p G' H' (e.trans g c) b
 | fail=>exact p
theorem RelW.lst (k:HRel Γ G h H)(z:RelW Γ G H w v) (e:w.lst? h=y0 xs): ∃a b,v= .ref a/\SqL Γ.K H a b/\RelDs Γ G H xs b:=by
 cases w with
 | v d=>
  cases d with
  | lst j=>cases e;obtain⟨a,b,g,f,i⟩:=z;exact⟨a,b,g,f.sq,i⟩
  | ref r=>
   obtain⟨hn,g⟩:=z
   have e:(match h[r]? with | some (M.Cell.lst zs)=>y0 zs | _=>u0)=y0 xs:=e
   cases q:h[r]? with
   | none=>rw [q]at e;cases e
   | some c=>
    cases c with
    | lst j=>
     rw [q]at e
     cases e
     obtain⟨_,b,f,i⟩:=k.cell r _ q
     exact⟨_,b,g,SqL.of f,i⟩
    | dic l=>rw [q]at e;cases e
    | obj c fs=>rw [q]at e;cases e
    | dii l=>rw [q]at e;cases e
  | non=>cases e
  | bl _=>cases e
  | int _=>cases e
  | str _=>cases e
  | tup _=>cases e
  | exc _ _=>cases e
  | err _ _ _=>cases e
 | own j=>cases e;obtain⟨a,b,g,_,_,f,i⟩:=z;exact⟨a,b,g,SqL.of f,i⟩
 | bor j=>cases e;obtain⟨a,b,g,_,f,i⟩:=z;exact⟨a,b,g,.inl f,i⟩
theorem RelW.lstO (k:HRel Γ G h H)(z:RelW Γ G H w v) (e:w.lstO? h=y0 xs): ∃a b,v= .ref a/\Rd H a (.lst b)/\RelDs Γ G H xs b:=by
 cases w with
 | v d=>
  cases d with
  | ref r=>
   obtain⟨hn,g⟩:=z
   have e:(match h[r]? with | some (M.Cell.lst zs)=>y0 zs | _=>u0)=y0 xs:=e
   cases q:h[r]? with
   | none=>rw [q]at e;cases e
   | some c=>
    cases c with
    | lst j=>
     rw [q]at e
     cases e
     obtain⟨_,b,f,i⟩:=k.cell r _ q
     exact⟨_,b,g,.inl f,i⟩
    | dic l=>rw [q]at e;cases e
    | obj c fs=>rw [q]at e;cases e
    | dii l=>rw [q]at e;cases e
  | _=>cases e
 | own j=>cases e;obtain⟨a,b,g,_,_,f,i⟩:=z;exact⟨a,b,g,.inl f,i⟩
 | bor j=>cases e;obtain⟨a,b,g,_,f,i⟩:=z;exact⟨a,b,g,f,i⟩
theorem RelW.seq (k:HRel Γ G h H)(z:RelW Γ G H w v) (e:w.seq? h=y0 xs): ∃a b,v= .ref a/\(SqL Γ.K H a b\/qdV Γ.K H a b)/\RelDs Γ G H xs b:=by
 have c:w.lst? h=y0 xs-> ∃a b,v= .ref a/\(SqL Γ.K H a b\/qdV Γ.K H a b)/\RelDs Γ G H xs b:=λe=>by
  obtain⟨a,b,g,f,j⟩:=z.lst k e
  exact⟨a,b,g,.inl f,j⟩
 cases w with
 | v d=>
  cases d with
  | tup i=>cases e;obtain⟨a,b,g,f,j⟩:=z;exact⟨a,b,g,.inr f.sq,j⟩
  | lst i=>exact c e
  | ref r=>exact c e
  | non=>cases e
  | bl _=>cases e
  | int _=>cases e
  | str _=>cases e
  | exc _ _=>cases e
  | err _ _ _=>cases e
 | own i=>exact c e
 | bor i=>exact c e
def zcw (I:Inv X k8 U H s)(r:Rd H a (.lst vs)):vs.length<=sizeLine/\ ∃ b n,Vals vs b/\vs.length=b.length/\s.heap.get? a=y0 { cls:= .type "list",data:= .seq b.toArray n }:=by
 obtain⟨z,b,n,r,e⟩:=r.ok I.hok
 exact⟨z,b,n,r,r.length,e⟩
def Wj:M.LIM<=sizeLine:=by rw [M.Gi];decide
noncomputable def jcK (K:Aa6):R2:=λx y H Q=> ∃l b xs zs,x= .ref l/\y= .ref b/\SqL K H l xs/\SqL K H b zs/\xs.length+zs.length<=sizeLine/\ ∀p,H p=u0->Q (.ref p) (zdL H p (.lst (xs++zs)))
def qbH:xdH X (binaryOp .Add) (jcK X.K):=by
 intro m s U H x y v u Q I G C h
 obtain⟨l,b,M,N,rfl,rfl,B,hB,L,q⟩:=h
 cases G
 cases C
 obtain⟨c,r,D,_⟩:=I.list B
 obtain⟨a,p,F,_⟩:=I.list hB
 have K:=r.length
 have l2:=p.length
 have E:c.toArray++a.toArray=(c++a).toArray:=by simp
 obtain⟨⟨w,dd,k,sl⟩,o,J,n,A⟩:=id D.isList
 obtain⟨⟨t,f,j,e⟩,d,i,z,g⟩:=id F.isList
 subst J A i g
 refine concat_meets ⟨_,o,rfl⟩ ⟨_,d,rfl⟩ noFill_list_add seq_list_add PySem.F.slot_list_add PySem.F.entry_list_add (PySem.F.args_list_add_2 _ _) (list_addW l b c.toArray a.toArray n z dd f sl e (by rw [Aa8,Aa8];omega)) ⟨o,d,?_⟩
 rw [E]
 exact⟨.ref _,_,I.lnew (r.append p) (by rw [Ab1];omega),rfl,q _ I.fresh⟩
noncomputable def qcO:R2:=λx y H Q=> ∃l k xs,x= .ref l/\y= .int k/\Rd H l (.lst xs)/\ -(2 ^ 63)<=k/\k<2 ^ 63/\xs.length*k.toNat<=sizeLine ∧
 ∀p,H p=u0->Q (.ref p) (zdL H p (.lst (Ab k.toNat xs).flatten))
def jb5:xdH X (binaryOp .Mult) qcO:=by
 intro o s U H x y v u Q I K C h
 obtain⟨l,k,M,rfl,rfl,B,J,w,j,q⟩:=h
 cases K
 obtain⟨t,rfl⟩:=C
 obtain⟨z,b,n,r,D,e⟩:=zcw I B
 have f:b.toArray.size*k.toNat<=sizeLine:=by rw [Aa8,←D];exact j
 have i: ¬b.toArray.size*k.toNat>(2 ^ 63-1) / 8:=by
  have: sizeLine<=(2 ^ 63-1) / 8:=by decide
  omega
 have d: ¬(!Builtin.List.listFitsIndex k)=true:=by
  rw [fitsIndex_both J w]
  exact Ab8
 have c: ¬Builtin.List.listTooLong (b.toArray.size*k.toNat)=true:=by
  rw [j5 f]
  exact Ab8
 have g:List.foldl (λA G=>A++G) #[] (Ab (if b.toArray.isEmpty=k9 then 0 else k.toNat) b.toArray)=(Ab k.toNat b).flatten.toArray:=by
  have E:=λm=>by
   have:=WM b m []
   rw [Af0]at this
   exact this
  rw [E]
  cases b with
  | nil=>simp
  | cons a L=>rw [if_neg (by simp)]
 refine wpAny_binaryOp_repeat_ref (by decide) ⟨_,e,rfl⟩ (λp=>typeIs_int p k t) noFill_list_mul F.fills_int_mul F.slot_int_rmul repeat_list F.slot_int_index.lookup
  (call_meets F.slot_int_rmul (typeIs_int s k t) F.entry_int_rmul (F.args_int_rmul_2 _ _) (int___rmul___int_list k t l b.toArray n)
    ⟨e,rfl,⟨_,e,rfl⟩,call_meets F.slot_list_mul ⟨_,e,rfl⟩ F.entry_list_mul (F.args_list_mul_2 _ _) (AutoListH.list___mul___list_int_3 l b.toArray n k t d i c) ⟨e,?_⟩⟩)
 rw [g]
 exact⟨.ref _,_,I.lnew (r.rep k.toNat) (by rw [zb1,Ai];exact j),rfl,q _ I.fresh⟩
theorem RelDs.rep (z:RelDs Γ G H ds vs): ∀k:Nat,RelDs Γ G H (Ab k ds).flatten (Ab k vs).flatten
 | 0=>rfl
 | k+1=>by
  exact z.append (RelDs.rep z k)
def Xo (a b:Nat):Builtin.bitAnd (a:Int) (b:Int)=((a &&& b:Nat):Int):=by
 unfold Builtin.bitAnd
 rfl
def jbJ (a:Nat) (j) (b: ¬0<=j):Builtin.bitAnd (a:Int) j=((a-(a &&& (-j-1).toNat):Nat):Int):=by
 have e:(Builtin.bitNot j).toNat=(-j-1).toNat:=by unfold Builtin.bitNot;omega
 unfold Builtin.bitAnd
 rw [decide_eq_true (Int.natCast_nonneg a),decide_eq_false b]
 show a-((a &&& (Builtin.bitNot j).toNat:Nat):Int)=_
 rw [e]
 have:= @Nat.and_le_left a (-j-1).toNat
 omega
def Wz (a b:Nat):Builtin.bitOr (a:Int) (b:Int)=((a ||| b:Nat):Int):=by
 have d: ¬ 0<=Builtin.bitNot a:=by unfold Builtin.bitNot;omega
 have c: ¬ 0<=Builtin.bitNot b:=by unfold Builtin.bitNot;omega
 have f:(Builtin.bitNot (Builtin.bitNot a)).toNat=a:=by unfold Builtin.bitNot;omega
 have e:(Builtin.bitNot (Builtin.bitNot b)).toNat=b:=by unfold Builtin.bitNot;omega
 unfold Builtin.bitOr Builtin.bitAnd
 rw [decide_eq_false d,decide_eq_false c]
 show Builtin.bitNot (Builtin.bitNot (((Builtin.bitNot (Builtin.bitNot (a:Int))).toNat ||| (Builtin.bitNot (Builtin.bitNot (b:Int))).toNat:Nat)))=_
 rw [f,e]
 unfold Builtin.bitNot
 omega
def qbJ (h:M.K9 i j=y0 k):Builtin.bitAnd i j=k:=by
 unfold M.K9 at h
 split at h
 ·rename_i d
  obtain⟨a,rfl⟩:=Aj2 d
  split at h
  ·rename_i c
   obtain⟨b,rfl⟩:=Aj2 c
   cases h
   exact Xo a b
  ·rename_i c
   cases h
   exact jbJ a j c
 ·cases h
def zco (h:M.orI i j=y0 k):Builtin.bitOr i j=k:=by
 unfold M.orI at h
 split at h
 ·rename_i c
  obtain⟨a,rfl⟩:=Aj2 c.1
  obtain⟨b,rfl⟩:=Aj2 c.2
  cases h
  exact Wz a b
 ·cases h
noncomputable def xdq:M.Op->Operator
 | .add=> .Add | .sub=> .Sub | .mul=> .Mult | .fdiv=> .FloorDiv | .mod=> .Mod | .pow=> .Pow | .shl=> .LShift | .shr=> .RShift | .band=> .BitAnd | .bor=> .BitOr | .bxor=> .BitXor
noncomputable def zdb (a:Ge) (E:XK) (o:M.Op):R2:=λx y H Q=> ∃G h b c,HRel a G h H/\RelW a G H b x/\RelW a G H c y/\PostW a E G H (M.Pb o b c h) Q
def zr (s):(zdH s).length=s.length:=by
 show s.toArray.size=s.length
 simp
def xa5:M.Op->Bool
 | .bxor=>y9
 | _=>k9
def jbE (d:xa5 o=k9)(e:M.Gn o i j=y0 k)(I:Inv X k8 U H s) (b:RelV (.int i) v) (a:RelV (.int j) u) (q:Q (.int k) H):
 wpAny (model X.prog X.w) X.A (binaryOp (xdq o) v u) (EP X k8 U Q) X.xe s:=by
 cases o with
 | add=>cases e;exact xcF k8 s U H _ _ v u Q I b a ⟨i,j,rfl,rfl,q⟩
 | sub=>cases e;exact qcE k8 s U H _ _ v u Q I b a ⟨i,j,rfl,rfl,q⟩
 | mul=>
  simp only [M.Gn,M.K4,M.GX]at e
  split at e
  ·rename_i c;cases e;exact qct k8 s U H _ _ v u Q I b a ⟨i,j,rfl,rfl,c,q⟩
  ·cases e
 | fdiv=>
  simp only [M.Gn,M.GY,M.GX]at e
  split at e
  ·rename_i c;cases e;exact qb5 k8 s U H _ _ v u Q I b a ⟨i,j,rfl,rfl,c,q⟩
  ·cases e
 | mod=>
  simp only [M.Gn,M.GX]at e
  split at e
  ·rename_i c;cases e;exact jcB k8 s U H _ _ v u Q I b a ⟨i,j,rfl,rfl,c,q⟩
  ·cases e
 | pow=>
  simp only [M.Gn,M.KW,M.GX]at e
  split at e
  ·rename_i c;cases e;exact xcq k8 s U H _ _ v u Q I b a ⟨i,j,rfl,rfl,c,q⟩
  ·cases e
 | shl=>
  simp only [M.Gn,M.KW,M.GX]at e
  split at e
  ·rename_i c;cases e;exact zcx k8 s U H _ _ v u Q I b a ⟨i,j,rfl,rfl,c,q⟩
  ·cases e
 | shr=>
  simp only [M.Gn,M.GX]at e
  split at e
  ·rename_i c;cases e;exact xcf k8 s U H _ _ v u Q I b a ⟨i,j,rfl,rfl,c,q⟩
  ·cases e
 | band=>exact zcq k8 s U H _ _ v u Q I b a ⟨i,j,rfl,rfl,by dsimp only;rw [qbJ e];exact q⟩
 | bor=>exact xcO k8 s U H _ _ v u Q I b a ⟨i,j,rfl,rfl,by dsimp only;rw [zco e];exact q⟩
 | bxor=>cases d
theorem RelW.int (z:RelW Γ G H w v) (e:w.int? =y0 i):v= .int i:=by
 cases w with
 | v d=>
  cases d with
  | int j=>cases e;exact z
  | _=>cases e
 | _=>cases e
theorem RelW.str (z:RelW Γ G H w v) (e:w.str? =y0 i):v= .str (zdH i):=by
 cases w with
 | v d=>
  cases d with
  | str j=>cases e;exact z
  | _=>cases e
 | _=>cases e
theorem RelW.tup (z:RelW Γ G H w v) (e:w.tup? =y0 xs): ∃a b,v= .ref a/\StT Γ G H a b/\RelDs Γ G H xs b:=by
 cases w with
 | v d=>
  cases d with
  | tup j=>cases e;exact z
  | _=>cases e
 | _=>cases e
def xco (o:M.Op) (O:xa5 o=k9) (r:X.K=Γ.K):xdH X (binaryOp (xdq o)) (zdb Γ E o):=by
 intro d s U H x y v u Q I C z ⟨G,h,R,S,f,J,K,p⟩
 have P:=Wj
 unfold M.Pb at p
 split at p
 ·rename_i i j n q
  obtain⟨k,e,p⟩:=p.of
  cases J.int n
  cases K.int q
  exact jbE O e I C z (p.v f rfl)
 ·split at p
  · -- add
    unfold M.Pu at p
    ·split at p
     ·rename_i L N n q
      obtain⟨a,m,rfl,l,g⟩:=J.tup n
      obtain⟨b,A,rfl,D,t⟩:=K.tup q
      split at p
      ·rename_i c
       have F:=g.length
       have l2:=t.length
       by_cases ex:m= []
       ·subst ex
        have:L= []:=Ah5 F
        subst this
        rw [Af0]at p
        exact xa6 d s U H _ _ v u Q I C z ⟨a,b,A,rfl,rfl,r▸l.sq,r▸D.sq,p.v f ⟨b,A,rfl,D,t⟩⟩
       refine qbG d s U H _ _ v u Q I C z ⟨a,b,m,A,rfl,rfl,r▸l.sq,r▸D.sq,ex,by omega,λe=> ?_,λe w B=>p.tup f (g.append t) w B⟩
       ·subst e
        have:N= []:=Ah5 l2
        subst this
        rw [Ae7]at p
        exact p.v f ⟨a,m,rfl,l,g⟩
      ·exact p.elim
     ·split at p
      ·rename_i L N n q
       obtain⟨a,m,rfl,l,g⟩:=J.lst f n
       obtain⟨b,A,rfl,D,t⟩:=K.lst f q
       unfold M.Ps at p
       split at p
       ·have F:=g.length
        have l2:=t.length
        exact qbH d s U H _ _ v u Q I C z ⟨a,b,m,A,rfl,rfl,r▸l,r▸D,by omega,λw B=>p.own f (g.append t) w B⟩
       ·exact p.elim
      ·exact p.elim
  · -- mul
    unfold M.Pt at p
    split at p
    ·rename_i L j n q
     obtain⟨a,m,rfl,l,g⟩:=J.lstO f n
     cases K.int q
     unfold M.Pp at p
     split at p
     ·rename_i c
      have F:=g.length
      exact jb5 d s U H _ _ v u Q I C z ⟨a,j,m,rfl,rfl,l,by omega,by omega,by rw [← F];omega,λw B=>p.own f (g.rep j.toNat) w B⟩
     ·exact p.elim
    ·exact p.elim
  ·exact p.elim
noncomputable def qdr:M.Cp->CmpOp
 | .eq=> .Eq | .ne=> .NotEq | .lt=> .Lt | .le=> .LtE | .gt=> .Gt | .ge=> .GtE | .mem=> .In | .nmem=> .NotIn | .isb=> .Is
noncomputable def jbQ (a:Ge) (o:M.Cp):R2:=λx y H Q=> ∃G h c d b,HRel a G h H/\RelW a G H c x/\RelW a G H d y/\M.GD o c d h=y0 b/\Q (.bl b) H
def JD:M.Cp->Bool
 | .mem=>k9
 | .nmem=>k9
 | _=>k9
def qba (e:M.Po o i j=y0 b)(I:Inv X k8 U H s) (c:RelV (.int i) v) (a:RelV (.int j) u) (q:Q (.bl b) H):
 wpAny (model X.prog X.w) X.A (compareOp (qdr o) v u) (EP X k8 U Q) X.xe s:=by
 cases o with
 | lt=>cases e;exact xcM k8 s U H _ _ v u Q I c a ⟨i,j,rfl,rfl,q⟩
 | le=>cases e;exact qcW k8 s U H _ _ v u Q I c a ⟨i,j,rfl,rfl,q⟩
 | gt=>cases e;exact zcP k8 s U H _ _ v u Q I c a ⟨i,j,rfl,rfl,q⟩
 | ge=>cases e;exact jcV k8 s U H _ _ v u Q I c a ⟨i,j,rfl,rfl,q⟩
 | _=>cases e
def qcG (f:X.K=Γ.K)(i:Room k X.A):xdH X (compareOp .Eq) (jbQ Γ .eq):=by
 intro d s U H x y v u Q I n l ⟨G,h,o,p,b,a,j,m,e,q⟩
 simp only [M.GD]at e
 split at e
 ·rename_i c
  cases e
  have g:=by simpa [M.KQ]using c
  exact(zcN 150 _ _ X.A v u (by omega) (by have:=i.un;omega) (j.rv I f a n g.1.1) (m.rv I f a l g.1.2)).rc _ _ _ _ ⟨.bl _,H,I,rfl,q⟩
 ·cases e
def qci (f:X.K=Γ.K)(i:Room k X.A):xdH X (compareOp .NotEq) (jbQ Γ .ne):=by
 intro d s U H x y v u Q I n l ⟨G,h,o,p,b,a,j,m,e,q⟩
 simp only [M.GD]at e
 split at e
 ·rename_i c
  cases e
  have g:=by simpa [M.KQ]using c
  exact(zcN 150 _ _ X.A v u (by omega) (by have:=i.un;omega) (j.rv I f a n g.1.1) (m.rv I f a l g.1.2)).ne _ _ _ _ ⟨.bl _,H,I,rfl,q⟩
 ·cases e
end
def PE.imp (h:PE X e t) (k: ∀U H Q,t' U H Q->t U H Q):PE X e t':=λa s U H Q I q=>h a s U H Q I (k _ _ _ q)
def PT.imp (h:PT X e t) (k: ∀U H Q,t' U H Q->t U H Q):PT X e t':=λa s U H Q I q=>h a s U H Q I (k _ _ _ q)
def PA.imp (h:PA X e t) (k: ∀U H Q,t' U H Q->t U H Q):PA X e t':=λb a s U H Q I q=>h b a s U H Q I (k _ _ _ q)
section
variable {X:Cx}{Γ:Ge}{G:Gh}{H:Hp}{h:M.AH}{k8:List (Addr×Obj)}{U:St}{s:Shared}{Q:VK}{E:XK}
def RelWs.one (z:RelWs Γ G H [w] vs): ∃v,vs= [v]/\RelW Γ G H w v:=by
 obtain⟨v,r,rfl,b,a⟩:=z
 cases (show r= []from a)
 exact⟨v,rfl,b⟩
def RelWs.two (z:RelWs Γ G H [w,w'] vs): ∃v a,vs= [v,a]/\RelW Γ G H w v/\RelW Γ G H w' a:=by
 obtain⟨v,r,rfl,c,b⟩:=z
 obtain⟨a,rfl,d⟩:=b.one
 exact⟨v,a,rfl,c,d⟩
noncomputable def xdQ (a:Ge) (E:XK) (b:M.Bi):List V->Hp->VK->Prop:=λxs H Q=> ∃G h c,HRel a G h H/\RelWs a G H c xs/\PostW a E G H (M.biD b c h) Q
def ja3 {K:Aa6}(h:SqL K H a vs\/qdV K H a vs):SqL K H a vs\/qdV K H a vs:=h
noncomputable def zcJ:M.Bi->Bool
 | .len=>k9 | .list=>k9 | .tuple=>k9 | .divmod=>k9 | .min=>k9 | .max=>k9 | .sum=>k9 | .all=>k9
 | _=>y9
noncomputable def zdI:M.Bi->Value
 | .len=> .builtin "len" | .int=> .type "int" | .list=> .type "list" | .tuple=> .type "tuple" | .sum=> .builtin "sum" | .all=> .builtin "all" | .any=> .builtin "any"
 | .sorted=> .builtin "sorted" | .divmod=> .builtin "divmod" | .str=> .type "str" | .min=> .builtin "min" | .max=> .builtin "max" | .abs=> .builtin "abs"
def PostW.of2 {f:α->β->M.AH->M.R M.W}(p:PostW Γ E G H ((M.R.of h o).bind λa h=>(M.R.of h o').bind λb h=>f a b h) Q): ∃a b,o=y0 a/\o'=y0 b/\PostW Γ E G H (f a b h) Q:=by
 obtain⟨a,e,p⟩:=p.of
 obtain⟨b,c,p⟩:=p.of
 exact⟨a,b,e,c,p⟩
theorem zar : ∀ {xs}{a}{bs},M.Pg xs=y0 bs->RelDs Γ G H xs a->a=bs.map V.bl
 | [],_,_,e,z=>by cases e;exact z
 | x::xs,_,bs,e,⟨v,r,d,c,f⟩=>by
  subst d
  cases x with
  | bl b=>
   obtain⟨h,g,rfl⟩:=Ag6.mp (e)
   cases (c)
   rw [zar g f];rfl
  | _=>cases e
theorem xaE : ∀ {xs}{b}{n},M.Pl xs=y0 n->RelDs Γ G H xs b-> ∃a:List Int,b=a.map V.int/\n=zal a
 | [],_,_,e,z=>by cases e;exact⟨[],z,rfl⟩
 | x::xs,_,n,e,⟨v,r,f,c,j⟩=>by
  subst f
  cases x with
  | int i=>
   have e:=e
   obtain⟨k,g,rfl⟩:=Ag6.mp e
   obtain⟨a,h,d⟩:=xaE g j
   cases (c)
   exact⟨i::a,by rw [h];rfl,by rw [d];rfl⟩
  | _=>cases e
theorem Jf : ∀ {xs}{c}{a},M.Kg xs=y0 a->RelDs Γ G H xs c->c=a.map V.int
 | [],_,_,e,z=>by cases e;exact z
 | x::xs,_,a,e,⟨v,r,f,d,g⟩=>by
  subst f
  cases x with
  | int b=>
   obtain⟨i,h,rfl⟩:=Ag6.mp (e)
   cases (d)
   rw [Jf h g];rfl
  | _=>cases e
theorem zZ : ∀ {xs}{c}{a},M.KM xs=y0 a->RelDs Γ G H xs c->c=(a.map zdH).map V.str
 | [],_,_,e,z=>by cases e;exact z
 | x::xs,_,a,e,⟨v,r,f,d,g⟩=>by
  subst f
  cases x with
  | str b=>
   obtain⟨i,h,rfl⟩:=Ag6.mp (e)
   cases (show v= .str (zdH b)from d)
   rw [zZ h g];rfl
  | _=>cases e
def qa1 (c): ∀n:Int,Qv (λa b=>v9 (a>b)) c n=c.foldl (λa b=>if b>a then b else a) n:=by
 induction c with
 | nil=>intro n;rfl
 | cons m c d=>
  intro n
  show Qv _ c _=_
  rw [d,Ah8]
  simp only [decide_eq_true_eq]
def jaR (c): ∀n:Int,Qv (λa b=>v9 (a<b)) c n=c.foldl (λa b=>if b<a then b else a) n:=by
 induction c with
 | nil=>intro n;rfl
 | cons m c d=>
  intro n
  show Qv _ c _=_
  rw [d,Ah8]
  simp only [decide_eq_true_eq]
def xbK (b) (B:zcJ b=k9) (u:X.K=Γ.K) (F:X.calm=k9):Xm X (zdI b) (xdQ Γ E b):=by
 intro f s U H Y t Q I r ⟨G,h,Z,g,J,p⟩
 have W:=Wj
 unfold M.biD at p
 split at p
 ·rename_i w
  obtain⟨v,rfl,z⟩:=J.one
  cases b with
  | len=>
   simp only [M.bi1]at p
   split at p
   ·rename_i y e
    cases z.str e
    split at p
    ·exact wM f s U H _ t Q I r ⟨_,rfl,by rw [zr];omega,by rw [zr];exact p.v g rfl⟩
    ·exact p.elim
   ·obtain⟨D,e,p⟩:=p.of
    obtain⟨a,o,rfl,k,m⟩:=z.seq g e
    refine jP f s U H _ t Q I r ⟨a,o,rfl,u▸ja3 k,?_⟩
    rw [← m.length]
    exact p.v g rfl
  | int=>cases B
  | list=>
   obtain⟨D,e,p⟩:=p.of
   obtain⟨a,o,rfl,k,m⟩:=z.seq g e
   exact jM f s U H _ t Q I r ⟨a,o,rfl,u▸ja3 k,λl x=>p.own g m l x⟩
  | tuple=>
   obtain⟨D,e,K⟩:=p.of
   clear p
   cases w with
   | v d=>
    cases d with
    | tup O=>
     cases e
     obtain⟨a,o,rfl,k,m⟩:=z
     exact Zf f s U H _ t Q I r ⟨a,o,rfl,.inr ⟨u▸k.sq,K.v g ⟨a,o,rfl,k,m⟩⟩⟩
    | lst O=>
     obtain⟨a,o,rfl,k,m⟩:=RelW.lst g z e
     exact Zf f s U H _ t Q I r ⟨a,o,rfl,.inl ⟨u▸k,λl x=>K.tup g m l x⟩⟩
    | ref q=>
     obtain⟨a,o,rfl,k,m⟩:=RelW.lst g z e
     exact Zf f s U H _ t Q I r ⟨a,o,rfl,.inl ⟨u▸k,λl x=>K.tup g m l x⟩⟩
    | non=>cases e
    | bl _=>cases e
    | int _=>cases e
    | str _=>cases e
    | exc _ _=>cases e
    | err _ _ _=>cases e
   | own O=>
    obtain⟨a,o,rfl,k,m⟩:=RelW.lst g z e
    exact Zf f s U H _ t Q I r ⟨a,o,rfl,.inl ⟨u▸k,λl x=>K.tup g m l x⟩⟩
   | bor O=>
    obtain⟨a,o,rfl,k,m⟩:=RelW.lst g z e
    exact Zf f s U H _ t Q I r ⟨a,o,rfl,.inl ⟨u▸k,λl x=>K.tup g m l x⟩⟩
  | divmod=>exact p.elim
  | min=>
   obtain⟨n,e,p⟩:=p.of
   obtain⟨is,C,A⟩:=Ad4.mp e
   obtain⟨D,N,L⟩:=Ad4.mp C
   obtain⟨a,o,rfl,k,m⟩:=RelW.lst g z N
   cases Jf L m
   cases is with
   | nil=>cases A
   | cons i is=>
    cases A
    refine qaD F f s U H _ t Q I r ⟨a,i,is,rfl,u▸k,?_⟩
    rw [jaR]
    exact p.v g rfl
  | max=>
   obtain⟨n,e,p⟩:=p.of
   obtain⟨is,C,A⟩:=Ad4.mp e
   obtain⟨D,N,L⟩:=Ad4.mp C
   obtain⟨a,o,rfl,k,m⟩:=RelW.lst g z N
   cases Jf L m
   cases is with
   | nil=>cases A
   | cons i is=>
    cases A
    refine xad F f s U H _ t Q I r ⟨a,i,is,rfl,u▸k,?_⟩
    rw [qa1]
    exact p.v g rfl
  | sum=>
   obtain⟨n,e,p⟩:=p.of
   obtain⟨D,C,A⟩:=Ad4.mp e
   split at A
   rotate_left
   ·cases A
   obtain⟨a,o,rfl,k,m⟩:=RelW.lst g z C
   obtain⟨P,rfl,rfl⟩:=xaE A m
   exact jac F f s U H _ t Q I r ⟨a,P,rfl,u▸k,p.v g rfl⟩
  | all=>
   obtain⟨bs,e,p⟩:=p.of
   obtain⟨D,C,A⟩:=Ad4.mp e
   obtain⟨a,o,rfl,k,m⟩:=RelW.lst g z C
   cases zar A m
   exact xal F f s U H _ t Q I r ⟨a,bs,rfl,u▸k,p.v g rfl⟩
  | any=>cases B
  | sorted=>cases B
  | str=>cases B
  | abs=>cases B
 ·rename_i w T
  obtain⟨v,V,rfl,z,S⟩:=J.two
  obtain⟨i,j,e,R,p⟩:=p.of2
  cases z.int e
  cases S.int R
  cases b with
  | divmod=>
   simp only [M.bi2,M.GY]at p
   split at p
   ·rename_i c
    exact jT f s U H _ t Q I r ⟨i,j,rfl,c,λl x=>p.tup g ⟨_,_,rfl,rfl,_,_,rfl,rfl,rfl⟩ l x⟩
   ·exact p.elim
  | min=>exact zaH F f s U H _ t Q I r ⟨i,j,rfl,p.v g rfl⟩
  | max=>exact qah F f s U H _ t Q I r ⟨i,j,rfl,p.v g rfl⟩
  | len=>exact p.elim
  | int=>cases B
  | list=>exact p.elim
  | tuple=>exact p.elim
  | sum=>exact p.elim
  | all=>exact p.elim
  | any=>cases B
  | sorted=>cases B
  | str=>cases B
  | abs=>cases B
 ·exact p.elim
noncomputable def qdJ:M.Ty->String
 | .non=> "NoneType" | .bool=> "bool" | .int=> "int" | .str=> "str" | .list=> "list" | .tuple=> "tuple"
def Xt (K): ∀ u t,t≠ .non->Ac5 K (.type (qdJ u)) (.type (qdJ t))=y0 (M.Ty.le u t):=by
 intro u t a
 cases u<;>cases t<;>first | exact absurd rfl a | kernel_rfl
noncomputable def zdl (a:Ge):List V->Hp->VK->Prop:=λxs H Q=> ∃G h w x t b,xs= [x,.ty (qdJ t)]/\t≠ .non/\HRel a G h H/\RelW a G H w x/\M.isT t w=y0 b/\Q (.bl b) H
def qbb (E:X.K=Γ.K):Xm X (.builtin "isinstance") (zdl Γ):=by
 intro k s U H R S Q I r ⟨G,h,w,x,t,b,N,g,O,z,e,q⟩
 subst N
 obtain⟨u,P,rfl,j,J⟩:=xW r
 cases J
 have fin: ∀C,EP X k U Q (.bool b) { s with toks:=C }:=λC=>⟨.bl b,H,I.tok C,rfl,q⟩
 have lst: ∀ {a}{m},x= .ref a->Rd H a (.lst m)->M.Ty.le .list t=b->wpAny (model X.prog X.w) X.A (call (.builtin "isinstance") [u,.type (qdJ t)]) (EP X k U Q) X.xe s:=by
  intro a m ex rd F
  subst ex F
  rcases rd with rd | ⟨o,rd⟩
  ·exact qj I j (.lst rd) (Xt _ .list t g) fin
  ·exact qj I j (.frz rd) (Xt _ .list t g) fin
 cases w with
 | v d=>
  cases d with
  | non=>cases e;cases (z);exact qj I j .non (Xt _ .non t g) fin
  | bl c=>cases e;cases (z);exact qj I j (.bl c) (Xt _ .bool t g) fin
  | int i=>cases e;cases (z);exact qj I j (.int i) (Xt _ .int t g) fin
  | str y=>cases e;cases (z);exact qj I j (.str _) (Xt _ .str t g) fin
  | tup B=>
   cases e
   obtain⟨a,m,rfl,f,L⟩:=z
   rcases f with⟨_,f⟩ | ⟨o,p,n,D,A,K,_⟩
   ·exact qj I j (.tup f) (Xt _ .tuple t g) fin
   ·cases j
    exact Ae2 PySem.W.kitx_tuple I.kIn ⟨o,I.kIn a o (E▸D),A⟩ (Xt _ .tuple t g) (λz=>nomatch z) fin
  | lst B=>
   cases e
   obtain⟨a,m,l,f,L⟩:=z
   rcases f with f | ⟨o,p,n,D,A,K,_⟩
   ·exact lst l f.2 rfl
   ·subst l
    cases j
    exact Ae2 An5 I.kIn ⟨o,I.kIn a o (E▸D),A⟩ (Xt _ .list t g) (λz=>nomatch z) fin
  | ref T=>cases e
  | exc c fs=>cases e
  | err _ _ _=>cases e
 | own B=>cases e;obtain⟨a,m,l,_,_,f,_⟩:=z;exact lst l (.inl f) rfl
 | bor B=>cases e;obtain⟨a,m,l,_,f,_⟩:=z;exact lst l f rfl
def qY (m:X.K=Γ.K) (o:HRel Γ G h H)(z:RelW Γ G H w x) (e:M.KS h w=y0 b):xb5 X.K x H b:=by
 have lst: ∀ {a}{f}{g},x= .ref a->SqL X.K H a f->RelDs Γ G H g f->(!g.isEmpty)=b->xb5 X.K x H b:=by
  intro a f g ex rd k n
  subst ex n
  refine .inl ⟨f,rd,?_⟩
  cases g with
  | nil=>cases (show f= []from k);rfl
  | cons _ _=>obtain⟨_,_,rfl,_⟩:=k;rfl
 cases w with
 | v d=>
  cases d with
  | non=>cases e;cases (z);exact rfl
  | bl _=>cases e;cases (z);exact rfl
  | int _=>cases e;cases (z);exact rfl
  | str y=>
   cases (z)
   have e:(if y.length<=M.LIM then y0 (!y.isEmpty)else u0)=y0 b:=e
   split at e
   ·rename_i c
    cases e
    refine⟨by rw [zr];have:=Wj;omega,?_⟩
    rw [zr]
    cases y with
    | nil=>rfl
    | cons a r=>
     have:((((a::r).length:Nat):Int) != 0)=true:=by
      rw [Ab9,bne_iff_ne];omega
     rw [this];rfl
   ·cases e
  | tup g=>
   cases e
   obtain⟨a,f,rfl,i,k⟩:=z
   refine .inr (.inl ⟨f,m▸i.sq,?_⟩)
   cases g with
   | nil=>cases (show f= []from k);rfl
   | cons _ _=>obtain⟨_,_,rfl,_⟩:=k;rfl
  | lst g=>cases e;obtain⟨a,f,j,i,l⟩:=z;exact lst j (m▸i.sq) l rfl
  | ref p=>cases e
  | exc c fs=>cases e
  | err _ _ _=>cases e
 | own g=>cases e;obtain⟨a,f,j,_,_,i,l⟩:=z;exact lst j (SqL.of i) l rfl
 | bor g=>cases e;obtain⟨a,f,j,_,i,l⟩:=z;exact lst j (.inl i) l rfl
end
abbrev qf (x:String):Str:=Str.ofString x
example:("len" :Str)=qf "len" :=rfl
structure qdv where
 fl:List (String×String)
 mt:List (String×String×String)
 mks:List (String×String)
 ms:List String
 er:List (String×String)
structure Cf where
 sc:Scope
 N:List Str
 fns:List String
 own:List String
 rai:List String
 hnd:List String
 ob:qdv
noncomputable def WV (a:Scope) (x:Str):Bool:=match a.names.lookup x with
 | some .local=>k9
 | some .cell=>k9
 | some .free=>k9
 | _=>y9
def zdY (a:Scope) (x:Str):Bool:=match a.names.lookup x with
 | some .globalImplicit=>k9
 | _=>y9
def xbQ (a:Scope) (x:Str):Bool:=match a.names.lookup x with
 | some .local=>k9
 | some .cell=>k9
 | _=>y9
def jdu (x:Str):Bool:= !(x==("__debug__" :Str))&& !(x==("__classdict__" :Str))
noncomputable def jdQ:M.Bi->String
 | .len=> "len" | .int=> "int" | .list=> "list" | .tuple=> "tuple" | .sum=> "sum" | .all=> "all" | .any=> "any" | .sorted=> "sorted" | .divmod=> "divmod" | .str=> "str" | .min=> "min" | .max=> "max" | .abs=> "abs"
noncomputable def bltN:List String:= ["len", "int", "list", "tuple", "sum", "all", "any", "sorted", "divmod", "str", "min", "max", "abs", "isinstance", "bool", "range", "reversed", "zip", "enumerate", "set", "ValueError"]
def xar:Expr->Str->Bool
 | .Name y _,x=>y==x
 | _,_=>y9
def qdq (a:Scope) (x:String) (e:Expr):Bool:=xar e (qf x)&&zdY a (qf x)&&jdu (qf x)
def qdP:M.Mt->String
 | .index=> "index" | .count=> "count"
def xc6:M.Mt->Bool
 | .index=>k9 | .count=>k9
def jb3:Expr->Bool
 | .Call .. =>y9
 | _=>k9
noncomputable def QA (cf:Cf):List String->List Expr->Bool
 | [],[]=>k9
 | t::ts,e::es=>qdq cf.sc t e&&cf.own.contains t&&QA cf ts es
 | _,_=>y9
def qcJ:Expr->Bool
 | .UnaryOp .USub (.Constant (.int 1) _ _) _=>k9
 | _=>y9
noncomputable def Xn (cf:Cf):List Nat->List Expr->Bool
 | [],[]=>k9
 | i::is,.Name x _::es=>v9 (cf.N[i]? =y0 x)&&xbQ cf.sc x&&Xn cf is es
 | _,_=>y9
noncomputable def je (cf:Cf) (a:List Nat) (one:Bool) (e:Expr):Bool:=match one,e with
 | true,.Name x p=>(match a with | [_]=>k9 | _=>y9)&&Xn cf a [.Name x p]
 | false,.Tuple es _ _=>Xn cf a es
 | _,_=>y9
def Qa:Expr->Bool
 | .Starred .. =>y9
 | _=>k9
def zh:Expr->Bool
 | .Slice .. =>y9
 | _=>k9
def Ze:Expr->Bool
 | .Set .. =>y9
 | _=>k9
noncomputable def XB (cf:Cf):List Nat->List Str->Bool
 | [],[]=>k9
 | j::a,x::xs=>v9 (cf.N[j]? =y0 x)&&v9 (cf.sc.names.lookup x=y0 .cell\/cf.sc.names.lookup x=y0 .free)&&XB cf a xs
 | _,_=>y9
noncomputable def qW (cf:Cf) (a:Scope) (N:List Str) (k:Nat) (cap:List Nat):Bool:=
 v9 (a.kind= .function)&&v9 (a.names.map Prod.fst).Nodup&&a.names.all (λy=>v9 (y.2= .local->a.names.lookup y.1=y0 .local))&&
 a.names.all (λy=>v9 (y.2= .free->cf.sc.names.lookup y.1=y0 .cell\/cf.sc.names.lookup y.1=y0 .free))&&(N.drop k).all (λx=>v9 (a.names.lookup x=y0 .free))&&
 XB cf cap (N.drop k)&&v9 (k<=N.length)&&decide N.Nodup&&decide cap.Nodup
def jbG:Expr->List Str
 | .Name x _=> [x]
 | .Tuple es _ _=>es.filterMap λ| .Name x _=>y0 x | _=>u0
 | _=> []
def qs (cf:Cf) (t:Expr) (cap:List Nat):List Str:=jbG t++cap.filterMap λj=>cf.N[j]?
def qdK:M.E->Bool
 | .share _=>y9
 | .not a=>qdK a
 | .and a b=>qdK a&&qdK b
 | .or a b=>qdK a&&qdK b
 | _=>k9
def jdT (neg:Bool):CmpOp:=if neg then .NotIn else .In
def xdF {P:Prop}(h:y9=k9):P:=nomatch h
set_option backward.match.sparseCases false
def lC {a:Type}(l:List a) (f:a->List a->Bool):Bool:=match l with
 | x::r=>f x r
 | _=>y9
def oS {a:Type}(l:Option a) (f:a->Bool):Bool:=match l with
 | some x=>f x
 | _=>y9
@[elab_as_elim] theorem kC {P:List α->Prop}(k: ∀x r,f x r=k9->P (x::r)): ∀l,lC l f=k9->P l:=by rintro (_|_)<;>first | exact xdF | exact k _ _
@[elab_as_elim] theorem kS {P:Option α->Prop}(k: ∀x,f x=k9->P (y0 x)): ∀l,oS l f=k9->P l:=by rintro (_|_)<;>first | exact xdF | exact k _
def Zr (e:Expr) (f:Str->Bool):Bool:=match e with
 | .Name x _=>f x
 | _=>y9
@[elab_as_elim] theorem xr {P:Expr->Prop}(k: ∀x p,f x=k9->P (.Name x p)): ∀e,Zr e f=k9->P e:=by rintro (_|_)<;>first | exact xdF | exact k _ _
def JG (e:Expr) (f:Const->Bool):Bool:=match e with
 | .Constant x _ _=>f x
 | _=>y9
@[elab_as_elim] theorem WQ {P:Expr->Prop}(k: ∀x n p,f x=k9->P (.Constant x n p)): ∀e,JG e f=k9->P e:=by rintro (_|_)<;>first | exact xdF | exact k _ _ _
def jcp (e:Expr) (f:List Expr->Bool):Bool:=match e with
 | .Tuple x _ _=>f x
 | _=>y9
@[elab_as_elim] theorem qcI {P:Expr->Prop}(k: ∀x n p,f x=k9->P (.Tuple x n p)): ∀e,jcp e f=k9->P e:=by rintro (_|_)<;>first | exact xdF | exact k _ _ _
def jc2 (e:Expr) (f:List Expr->Bool):Bool:=match e with
 | .List x _=>f x
 | _=>y9
@[elab_as_elim] theorem qdh {P:Expr->Prop}(k: ∀x p,f x=k9->P (.List x p)): ∀e,jc2 e f=k9->P e:=by rintro (_|_)<;>first | exact xdF | exact k _ _
def zc9 (e:Expr) (f:Expr->Operator->Expr->Bool):Bool:=match e with
 | .BinOp x o y _=>f x o y
 | _=>y9
@[elab_as_elim] theorem xda {P:Expr->Prop}(k: ∀x o y p,f x o y=k9->P (.BinOp x o y p)): ∀e,zc9 e f=k9->P e:=by rintro (_|_)<;>first | exact xdF | exact k _ _ _ _
def xb7 (e:Expr) (f:Expr->List CmpOp->List Expr->Bool):Bool:=match e with
 | .Compare x o y _=>f x o y
 | _=>y9
@[elab_as_elim] theorem xcC {P:Expr->Prop}(k: ∀x o y p,f x o y=k9->P (.Compare x o y p)): ∀e,xb7 e f=k9->P e:=by rintro (_|_)<;>first | exact xdF | exact k _ _ _ _
def jdr (e:Expr) (f:UnaryOp->Expr->Bool):Bool:=match e with
 | .UnaryOp o x _=>f o x
 | _=>y9
@[elab_as_elim] theorem jdM {P:Expr->Prop}(k: ∀o x p,f o x=k9->P (.UnaryOp o x p)): ∀e,jdr e f=k9->P e:=by rintro (_|_)<;>first | exact xdF | exact k _ _ _
def zbD (e:Expr) (f:BoolOp->List Expr->Pos->Bool):Bool:=match e with
 | .BoolOp o x p=>f o x p
 | _=>y9
@[elab_as_elim] theorem zct {P:Expr->Prop}(k: ∀o x p,f o x p=k9->P (.BoolOp o x p)): ∀e,zbD e f=k9->P e:=by rintro (_|_)<;>first | exact xdF | exact k _ _ _
def Xj (e:Expr) (f:Expr->List Expr->List Keyword->Pos->Bool):Bool:=match e with
 | .Call g x l p=>f g x l p
 | _=>y9
@[elab_as_elim] theorem zi {P:Expr->Prop}(k: ∀g x l p,f g x l p=k9->P (.Call g x l p)): ∀e,Xj e f=k9->P e:=by rintro (_|_)<;>first | exact xdF | exact k _ _ _ _
def qbm (e:Expr) (f:Expr->Expr->Bool):Bool:=match e with
 | .Subscript x y _=>f x y
 | _=>y9
@[elab_as_elim] theorem xbJ {P:Expr->Prop}(k: ∀x y p,f x y=k9->P (.Subscript x y p)): ∀e,qbm e f=k9->P e:=by rintro (_|_)<;>first | exact xdF | exact k _ _ _
def xdA (e:Expr) (f:Option Expr->Option Expr->Option Expr->Bool):Bool:=match e with
 | .Slice x y z _=>f x y z
 | _=>y9
@[elab_as_elim] theorem qdU {P:Expr->Prop}(k: ∀x y z p,f x y z=k9->P (.Slice x y z p)): ∀e,xdA e f=k9->P e:=by rintro (_|_)<;>first | exact xdF | exact k _ _ _ _
def jcG (e:Expr) (f:Expr->List Comprehension->Scope->Bool):Bool:=match e with
 | .ListComp y g s _=>f y g s
 | _=>y9
@[elab_as_elim] theorem zcb {P:Expr->Prop}(k: ∀y g s p,f y g s=k9->P (.ListComp y g s p)): ∀e,jcG e f=k9->P e:=by rintro (_|_)<;>first | exact xdF | exact k _ _ _ _
def zax (e:Expr) (f:Expr->Str->Pos->Bool):Bool:=match e with
 | .Attribute x n p=>f x n p
 | _=>y9
@[elab_as_elim] theorem zbd {P:Expr->Prop}(k: ∀x n p,f x n p=k9->P (.Attribute x n p)): ∀e,zax e f=k9->P e:=by rintro (_|_)<;>first | exact xdF | exact k _ _ _
def jcn (e:Expr) (f:List (Option Expr)->List Expr->Bool):Bool:=match e with
 | .Dict x y _=>f x y
 | _=>y9
@[elab_as_elim] theorem zcT {P:Expr->Prop}(k: ∀x y p,f x y=k9->P (.Dict x y p)): ∀e,jcn e f=k9->P e:=by rintro (_|_)<;>first | exact xdF | exact k _ _ _
def qau (e:Stmt) (f:List Expr->Expr->Bool):Bool:=match e with
 | .Assign t v _=>f t v
 | _=>y9
@[elab_as_elim] theorem jaQ {P:Stmt->Prop}(k: ∀t v p,f t v=k9->P (.Assign t v p)): ∀e,qau e f=k9->P e:=by rintro (_|_)<;>first | exact xdF | exact k _ _ _
def qdX (e:Stmt) (f:Expr->Bool):Bool:=match e with
 | .Expr v _=>f v
 | _=>y9
@[elab_as_elim] theorem xdZ {P:Stmt->Prop}(k: ∀v p,f v=k9->P (.Expr v p)): ∀e,qdX e f=k9->P e:=by rintro (_|_)<;>first | exact xdF | exact k _ _
def qc2 (e:Stmt) (f:Option Expr->Bool):Bool:=match e with
 | .Return v _=>f v
 | _=>y9
@[elab_as_elim] theorem jdd {P:Stmt->Prop}(k: ∀v p,f v=k9->P (.Return v p)): ∀e,qc2 e f=k9->P e:=by rintro (_|_)<;>first | exact xdF | exact k _ _
def qc8 (e:Stmt) (f:Expr->List Stmt->List Stmt->Bool):Bool:=match e with
 | .If x y z _=>f x y z
 | _=>y9
@[elab_as_elim] theorem qdg {P:Stmt->Prop}(k: ∀x y z p,f x y z=k9->P (.If x y z p)): ∀e,qc8 e f=k9->P e:=by rintro (_|_)<;>first | exact xdF | exact k _ _ _ _
def jc6 (e:Stmt) (f:Expr->List Stmt->List Stmt->Bool):Bool:=match e with
 | .While x y z _=>f x y z
 | _=>y9
@[elab_as_elim] theorem xdd {P:Stmt->Prop}(k: ∀x y z p,f x y z=k9->P (.While x y z p)): ∀e,jc6 e f=k9->P e:=by rintro (_|_)<;>first | exact xdF | exact k _ _ _ _
def zc7 (e:Stmt) (f:Expr->Expr->List Stmt->List Stmt->Bool):Bool:=match e with
 | .For t i y z _=>f t i y z
 | _=>y9
@[elab_as_elim] theorem jdm {P:Stmt->Prop}(k: ∀t i y z p,f t i y z=k9->P (.For t i y z p)): ∀e,zc7 e f=k9->P e:=by rintro (_|_)<;>first | exact xdF | exact k _ _ _ _ _
def qcT (e:Stmt) (f:Option Expr->Option Expr->Bool):Bool:=match e with
 | .Raise x y _=>f x y
 | _=>y9
@[elab_as_elim] theorem zc6 {P:Stmt->Prop}(k: ∀x y p,f x y=k9->P (.Raise x y p)): ∀e,qcT e f=k9->P e:=by rintro (_|_)<;>first | exact xdF | exact k _ _ _
set_option backward.match.sparseCases true
def vB (cf:Cf) (i:Nat) (x:Str):Bool:=v9 (cf.N[i]? =y0 x)&&WV cf.sc x&&jdu x
def kZ {a:Type}(l:List a) (b:Bool):Bool:=l.isEmpty&&b
noncomputable def jc8 (e:Stmt) (f:List Stmt->List ExceptHandler->Bool):Bool:=match e with
 | .Try a b c d _=>kZ c (kZ d (f a b))
 | _=>y9
noncomputable def xc4 (e:ExceptHandler) (f:Option Expr->Option Str->List Stmt->Bool):Bool:=match e with
 | .ExceptHandler a b c _=>f a b c
mutual
noncomputable def jc (cf:Cf):M.E->Expr->Bool
 | .var i,e=>Zr e (vB cf i)
 | .con c,e=>qdq cf.sc c e
 | .int i,e=>JG e λj=>v9 (j= .int i)
 | .bl i,e=>JG e λj=>v9 (j= .bool i)
 | .non,e=>JG e λj=>v9 (j= .none)
 | .str i,e=>JG e λj=>v9 (j= .str (zdH i))
 | .tup es,e=>jcp e λxs=>v9 (xs.length<=1000)&&chkEs cf es xs
 | .lst es,e=>jc2 e λxs=>v9 (xs.length<=1000)&&chkEs cf es xs
 | .bin o a b,e=>zc9 e λx p y=>v9 (p=xdq o)&&xa5 o&&jc cf a x&&jc cf b y
 | .cmp o a b,e=>xb7 e λx p y=>lC y λy r=>v9 (p= [qdr o]/\r= [])&&JD o&&Ze y&&jc cf a x&&jc cf b y
 | .chain o q a b c,e=>xb7 e λx p y=>lC y λy r=>lC r λz r=>v9 (p= [qdr o,qdr q]/\r= [])&&JD o&&JD q&&Ze z&&jc cf a x&&jc cf b y&&jc cf c z
 | .isn neg a,e=>xb7 e λx p y=>lC y λy r=>JG y λj=>v9 (p= [if neg then .IsNot else .Is]/\r= [])&&v9 (j= .none)&&jc cf a x
 | .neg a,e=>jdr e λo x=>v9 (o= .USub)&&jc cf a x
 | .inv a,e=>jdr e λo x=>v9 (o= .Invert)&&jc cf a x
 | .not a,e=>jdr e λo x=>v9 (o= .Not)&&jc cf a x
 | .and a b,e=>zbD e λo x p=>lC x λx r=>lC r λy r=>v9 (o= .And)&&jc cf a x&&bif r.isEmpty then jc cf b y else jc cf b (.BoolOp .And (y::r) p)
 | .or a b,e=>zbD e λo x p=>lC x λx r=>lC r λy r=>v9 (o= .Or)&&jc cf a x&&bif r.isEmpty then jc cf b y else jc cf b (.BoolOp .Or (y::r) p)
 | .call f es,e=>Xj e λg xs l _=>kZ l (qdq cf.sc f g&&cf.fns.contains f&&chkEs cf es xs)
 | .bi b es,e=>Xj e λg xs l _=>kZ l (lC xs λx r=>qdq cf.sc (jdQ b) g&&zcJ b&&chkEs cf es (x::r))
 | .isT a t,e=>Xj e λg xs l _=>kZ l (lC xs λx r=>lC r λy r=>kZ r (qdq cf.sc "isinstance" g&&qdq cf.sc (qdJ t) y&&decide (t≠ .non)&&Qa x&&jc cf a x))
 | .isX a one ts,e=>Xj e fun g xs l _=>kZ l (lC xs fun x r=>lC r fun y r=>kZ r (qdq cf.sc "isinstance" g&&Qa x&&jc cf a x&&bif one then(lC ts fun t r=>kZ r (qdq cf.sc t y&&(decide (t= "ValueError")||cf.own.contains t)))else(jcp y fun zs=>decide (zs.length<=1000)&&QA cf ts zs)))
 | .ix a b,e=>qbm e λx y=>zh y&&jc cf a x&&jc cf b y
 | .sl a lo hi,e=>qbm e λx y=>xdA y λl u z=>oS l λl=>oS u λu=>z.isNone&&jc cf a x&&jc cf lo l&&jc cf hi u
 | .slL a lo,e=>qbm e λx y=>xdA y λl u z=>oS l λl=>u.isNone&&z.isNone&&jc cf a x&&jc cf lo l
 | .slH a hi,e=>qbm e λx y=>xdA y λl u z=>oS u λu=>l.isNone&&z.isNone&&jc cf a x&&jc cf hi u
 | .rev a,e=>qbm e λx y=>xdA y λl u z=>oS z λz=>l.isNone&&u.isNone&&qcJ z&&jc cf a x
 | .comp tg one k cap it y7 c elt,e=>jcG e λy g scope=>lC g λg r=>
  v9 (g.is_async=0/\r= [])&&qW cf scope (qs cf g.target cap) k cap&&tg.all (λi=>v9 (i<k))&&je { cf with sc:=scope,N:=qs cf g.target cap } tg one g.target&&chkIt cf it g.iter&&jc { cf with sc:=scope,N:=qs cf g.target cap } elt y&&
   bif y7 then(lC g.ifs λz r=>kZ r (qdK c&&jc { cf with sc:=scope,N:=qs cf g.target cap } c z))else g.ifs.isEmpty
 | .dnewI,e=>jcn e λx y=>x.isEmpty&&y.isEmpty
 | .dinI neg a i,e=>xb7 e λx p y=>lC y λy r=>Zr y λy=>v9 (p= [jdT neg]/\r= [])&&vB cf i y&&jc cf a x
 | .share a,e=>jc cf a e
 | .lenset a,e=>Xj e λg xs l _=>kZ l (lC xs λx r=>kZ r (Xj x λg2 xs l _=>kZ l (lC xs λx r=>kZ r (qdq cf.sc "len" g&&qdq cf.sc "set" g2&&Qa x&&jc cf a x))))
 | .ltL a b,e=>xb7 e λx p y=>lC y λy r=>v9 (p= [.Lt]/\r= [])&&Ze y&&jc cf a x&&jc cf b y
 | .meth m a es,e=>Xj e λg xs l q=>kZ l (lC xs λx r=>kZ r (zax g λo n p=>v9 (n=qf (qdP m))&&xc6 m&&(p.endLine==q.line)&&jb3 o&&jc cf a o&&chkEs cf es [x]))
 | .xf i f,e=>zax e λx n _=>Zr x λx=>vB cf i x&&v9 (n=qf f)
noncomputable def chkEs (cf:Cf):M.Es->List Expr->Bool
 | .nil,xs=>xs.isEmpty
 | .cons e es,xs=>lC xs λx xs=>Qa x&&jc cf e x&&chkEs cf es xs
noncomputable def chkIt (cf:Cf):M.It->Expr->Bool
 | .seq a,e=>Ze e&&jc cf a e
 | .range1 a,e=>Xj e λg xs l _=>kZ l (lC xs λx r=>kZ r (qdq cf.sc "range" g&&Qa x&&jc cf a x))
 | .range2 a b,e=>Xj e λg xs l _=>kZ l (lC xs λx r=>lC r λy r=>kZ r (qdq cf.sc "range" g&&Qa x&&Qa y&&jc cf a x&&jc cf b y))
 | .rev a,e=>Xj e λg xs l _=>kZ l (lC xs λx r=>kZ r (qdq cf.sc "reversed" g&&Qa x&&jc cf a x))
 | .zip _ _,_=>y9
 | .enum _,_=>y9
end
def Zs:Expr->Bool
 | .ListComp .. =>y9
 | .SetComp .. =>y9
 | .DictComp .. =>y9
 | _=>k9
def wk:Expr->Bool
 | .Tuple .. =>y9
 | _=>k9
def xx (cf:Cf) (i:Nat) (x:Str):Bool:=v9 (cf.N[i]? =y0 x)&&v9 (cf.sc.names.lookup x=y0 .local)
def Qu (cf:Cf) (i:Nat) (x:Str):Bool:=v9 (cf.N[i]? =y0 x)&&xbQ cf.sc x
def zp (cf:Cf) (i:Nat) (m:Str) (e:Expr) (a:Pos):Bool:=zax e λx n p=>Zr x λx=>vB cf i x&&v9 (n=m)&&(p.endLine==a.line)
noncomputable def jbS (cf:Cf):M.It->Expr->Bool
 | .seq a,e=>Ze e&&jc cf a e
 | .range1 a,e=>chkIt cf (.range1 a) e
 | .range2 a b,e=>chkIt cf (.range2 a b) e
 | .rev a,e=>chkIt cf (.rev a) e
 | .zip a b,e=>Xj e λg xs l _=>kZ l (lC xs λx r=>lC r λy r=>kZ r (qdq cf.sc "zip" g&&Qa x&&Qa y&&jc cf a x&&jc cf b y))
 | .enum a,e=>Xj e λg xs l _=>kZ l (lC xs λx r=>kZ r (qdq cf.sc "enumerate" g&&Qa x&&jc cf a x))
def xaI:M.It->Expr->Bool
 | .enum _,e=> !wk e
 | .zip _ _,e=> !wk e
 | _,_=>k9
def zb3:M.S->Bool
 | .freeze _=>k9
 | _=>y9
noncomputable def jcM (cf:Cf) (k:String) (nm e:Nat) (c:List ExceptHandler):Bool:=lC c λx r=>kZ r (xc4 x λw n b=>oS w λw=>oS n λn=>lC b λa r=>kZ r (qau a λts y=>lC ts λt r=>kZ r (Zr t λv=>Zr y λd=>
 qdq cf.sc k w&&cf.hnd.contains k&&v9 (d=n)&&xx cf nm n&&(jdu n&&xx cf e v))))
noncomputable def qdA (cf:Cf) (f:String) (s:Stmt) (q:List Expr->Bool):Bool:=qdX s λe=>Xj e λg xs l _=>kZ l (lC xs λx r=>qdq cf.sc f g&&cf.fns.contains f&&q (x::r))
mutual
noncomputable def zcO (cf:Cf):M.S->Stmt->Bool
 | .set i e,st=>qau st λts v=>lC ts λt r=>Zr t λx=>kZ r (Qu cf i x&&jc cf e v)
 | .setf i e,st=>qau st λts v=>lC ts λt r=>Zr t λx=>kZ r (Qu cf i x&&jc cf e v)
 | .unp is e,st=>qau st λts v=>lC ts λt r=>jcp t λts=>kZ r (Xn cf is ts&&wk v&&jc cf e v)
 | .setix i kx e,st=>qau st λts v=>lC ts λt r=>qbm t λx y=>Zr x λx=>kZ r (vB cf i x&&zh y&&wk v&&Zs v&&jc cf kx y&&jc cf e v)
 | .app i e,st=>qdX st λc=>Xj c λf xs l p=>kZ l (lC xs λv r=>kZ r (zp cf i "append" f p&&Qa v&&jc cf e v))
 | .ext i e,st=>qdX st λc=>Xj c λf xs l p=>kZ l (lC xs λv r=>kZ r (zp cf i "extend" f p&&Qa v&&jc cf e v))
 | .mv i j,st=>qau st λts c=>lC ts λt r=>Zr t λx=>kZ r (Zr c λy=>Qu cf i x&&vB cf j y)
 | .dputI i e,st=>qau st λts v=>lC ts λt r=>qbm t λx y=>Zr x λx=>kZ r (vB cf i x&&zh y&&wk v&&Zs v&&jc cf e y&&jc cf (.bl k9) v)
 | .appR i e,st=>qdX st λc=>Xj c λf xs l p=>kZ l (lC xs λv r=>kZ r (zp cf i "append" f p&&Qa v&&jc cf e v))
 | .popR i j,st=>qau st λts c=>lC ts λt r=>Zr t λx=>kZ r (Xj c λf xs l p=>kZ l (kZ xs (Qu cf j x&&zp cf i "pop" f p)))
 | .popU i is,st=>qau st λts c=>lC ts λt r=>jcp t λts=>kZ r (Xj c λf xs l p=>kZ l (kZ xs (Xn cf is ts&&zp cf i "pop" f p)))
 | .freeze _,_=>y9
 | .ex e,st=>qdX st λv=>Zs v&&jc cf e v
 | .ret e,st=>qc2 st λv=>oS v λv=>jc cf e v
 | .iff c a b,st=>qc8 st λx ys zs=>qdK c&&jc cf c x&&chkSs cf a ys&&chkSs cf b zs
 | .whl _ c b,st=>jc6 st λx ys zs=>kZ zs (qdK c&&jc cf c x&&chkSs cf b ys)
 | .for tg one it b,st=>zc7 st λt iter ys zs=>kZ zs (xaI it t&&je cf tg one t&&jbS cf it iter&&chkSs cf b ys)
 | .raisf c f e,st=>qcT st λa b=>oS a λa=>Xj a λg xs l _=>kZ l (lC xs λx r=>kZ r (b.isNone&&qdq cf.sc c g&&cf.ob.er.contains (c,f)&&chkEs cf (.cons e .nil) [x]))
 | .raise c es,st=>qcT st λa b=>oS a λa=>Xj a λg xs l _=>kZ l (lC xs λx r=>b.isNone&&qdq cf.sc c g&&cf.rai.contains c&&v9 ((x::r).length<=1000)&&chkEs cf es (x::r))
 | .tryc f es k nm iv,st=>jc8 st λb hs=>lC b λs r=>kZ r (qdA cf f s (λxs=>chkEs cf es xs)&&jcM cf k nm iv hs)
 | .nope,_=>k9
noncomputable def chkSs (cf:Cf):M.Ss->List Stmt->Bool
 | .nil,sts=>sts.isEmpty
 | .cons s ss,sts=>bif zb3 s then chkSs cf ss sts else lC sts λst sts=>zcO cf s st&&chkSs cf ss sts
end
structure zdn (X:Cx) (k:Nat) (x:Str) (ps:List Str) (sp:Sp):Prop where
 ex: ∃f fd,FnOk X.prog X.w X.K X.mg X.base (qdL X.prog X.w) k f fd ps sp/\Binds X.K fd ps []/\Ae0 X.K (.ref f)=k9/\X.mg x=y0 (.ref f)
def zaY:M.W->Bool
 | .own _=>y9
 | _=>k9
noncomputable def jdV (a:Ge) (m:List M.W->M.AH->M.R M.W):Sp:=λc H Q E=> ∃G h b,HRel a G h H/\RelWs a G H b c/\(∀ w∈b,zaY w=k9)/\PostW a E G H (m b h) Q
structure Go (Γ:Ge) (F:M.Fx) (X:Cx) (E:XK) (k:Nat) (cf:Cf):Prop where
 N:X.N=cf.N
 K:X.K=Γ.K
 cl:F.cl=Γ.cl
 ow:cf.own=Γ.own
 nd:cf.N.Nodup
 vis: ∀x,WV cf.sc x=k9->zdy X.env.scope x
 lcl: ∀x,cf.sc.names.lookup x=y0 .local->X.env.scope.names.lookup x=y0 .local
 sto: ∀x,xbQ cf.sc x=k9->qdW X.env.scope x/\(X.fn x=k9\/X.env.scope.names.lookup x=y0 .local)
 cel: ∀x,(cf.sc.names.lookup x=y0 .cell\/cf.sc.names.lookup x=y0 .free)->X.env.kindOf x=y0 .cell\/X.env.kindOf x=y0 .free
 gl: ∀x,zdY cf.sc x=k9->Gl X x
 calm:X.calm=k9
 room:Room k X.A
 room1:Room (k+1) X.A
 pass:XM (qdL X.prog X.w) X E
 blt: ∀x,x∈bltN->X.mg (qf x)=u0
 con: ∀x d,F.con.lookup x=y0 d-> ∃u v,X.mg (qf x)=y0 u/\RelV v u/\ ∀G H,RelD Γ G H d v
 fn: ∀f,cf.fns.contains f=k9-> ∃ps,zdn X k (qf f) ps (jdV Γ (F.call f))
 cls: ∀c,cf.own.contains c=k9->X.mg (qf c)=y0 (.ref (Γ.ca c))
 fld: ∀c f,cf.ob.fl.contains (c,f)=k9->Cls X.K (Γ.ca c)/\xbr X.K (Γ.ca c) (qf f)
 mth: ∀c m q,cf.ob.mt.contains (c,m,q)=k9->Cls X.K (Γ.ca c)/\ ∃fa fd ps,zc4 X.K (Γ.ca c) (qf m) fa/\FnOk X.prog X.w X.K X.mg X.base (qdL X.prog X.w) k fa fd ps (jdV Γ (F.call q))/\Binds X.K fd ps []
 mks: ∀c q,cf.ob.mks.contains (c,q)=k9->X.mg (qf c)=y0 (.ref (Γ.ca c))/\ ∃fa fd ps,Mk X.K (Γ.ca c) fa/\FnOk X.prog X.w X.K X.mg X.base (qdL X.prog X.w) k fa fd ps (jdV Γ (F.call q))/\Binds X.K fd ps []
@[elab_as_elim] theorem kE {P:List α->Prop}(k:b=k9->P []): ∀l,kZ l b=k9->P l:=by rintro (_|_)<;>first | exact xdF | exact k
@[elab_as_elim] theorem zdj {P:Stmt->Prop}(k: ∀a b p,f a b=k9->P (.Try a b [] [] p)): ∀e,jc8 e f=k9->P e:=by
 rintro (_|_)<;>first | exact xdF | exact λh=>kE (λh=>kE (λh=>k _ _ _ h) _ h) _ h
@[elab_as_elim] theorem jdh {P:ExceptHandler->Prop}(k: ∀a b c p,f a b c=k9->P (.ExceptHandler a b c p)): ∀e,xc4 e f=k9->P e
 | .ExceptHandler _ _ _ _,h=>k _ _ _ _ h
def a2 (h:(a&&b)=k9):a=k9/\b=true:=Bool.and_eq_true_iff.mp h
def a3 (h:(a&&b&&c)=k9):a=k9/\b=k9/\c=true:=⟨(a2 (a2 h).1).1,(a2 (a2 h).1).2,(a2 h).2⟩
def a4 (h:(a&&b&&c&&d)=k9):a=k9/\b=k9/\c=k9/\d=true:=⟨(a3 (a2 h).1).1,(a3 (a2 h).1).2.1,(a3 (a2 h).1).2.2,(a2 h).2⟩
def a5 (h:(a&&b&&c&&d&&e)=k9):a=k9/\b=k9/\c=k9/\d=k9/\e=true:=⟨(a2 (a4 h).1).1,(a2 (a4 h).1).2,(a4 h).2⟩
def a6 (h:(a&&b&&c&&d&&e&&f)=k9):a=k9/\b=k9/\c=k9/\d=k9/\e=k9/\f=true:=⟨(a2 (a5 h).1).1,(a2 (a5 h).1).2,(a5 h).2⟩
def a7 (h:(a&&b&&c&&d&&e&&f&&g)=k9):a=k9/\b=k9/\c=k9/\d=k9/\e=k9/\f=k9/\g=true:=⟨(a2 (a6 h).1).1,(a2 (a6 h).1).2,(a6 h).2⟩
def nn (h:o.isNone=k9):o=none:=Option.isNone_iff_eq_none.mp h
def xbz (h:vB cf i x=k9):cf.N[i]? =y0 x/\WV cf.sc x=k9/\jdu x=true:=⟨of_decide_eq_true (a3 h).1,(a3 h).2⟩
def wb (h:qdq sc x e=true): ∃p,e= .Name (qf x) p/\zdY sc (qf x)=true/\(qf x==("__debug__" :Str))=false:=by
 unfold qdq at h
 rw [Aa7,Aa7]at h
 obtain⟨⟨b,c⟩,a⟩:=h
 unfold jdu at a
 rw [Aa7]at a
 cases e with
 | Name y p=>
  have:y=qf x:=by simpa [xar]using b
  subst this
  exact⟨p,rfl,c,by simpa using a.1⟩
 | _=>simp [xar]at b
def zk (h:x∈bltN):qf x≠("__name__" :Str):=by
 have:(bltN.all λx=>decide (qf x≠ "__name__"))=true:=by decide +kernel
 exact of_decide_eq_true (Ad3.mp this x h)
section
variable {Γ:Ge}{F:M.Fx}{X:Cx}{E:XK}{k:Nat}{cf:Cf}
section
variable {G:Gh}{H:Hp}{h:M.AH}{Y:M.Sl}{U:St}{Q:VK}
def Post.val (p:Post Γ E G0 H0 (.ok w h) λw _ G' H'=> ∀v,RelW Γ G' H' w v->FreshW Y U H0 w v->Q v H') (e:Ext G0 H0 G H) (a:HRel Γ G h H) (z:RelW Γ G H w v) (f:FreshW Y U H0 w v):Q v H:=
 p G H e a v z f
end
def qbC (c:Go Γ F X E k cf)(n:cf.N[i]? =y0 x) (m:WV cf.sc x=k9) (b:jdu x=k9):PE X (.Name x pos) (tD Γ E (M.eval F (.var i))):=by
 unfold jdu at b
 rw [Aa7]at b
 refine PE.imp (zl (by rw [c.N];exact n) (c.vis x m) (by simpa using b.1) (by simpa using b.2)) λU H Q g=> ?_
 obtain⟨G,Y,h,s,p⟩:=g
 rw [M.eval]at p
 cases q:M.Gj Y i with
 | none=>simp [M.Gg,q]at p;exact p.elim
 | some w=>
  obtain⟨v,e,r⟩:=s.slot i w q
  refine⟨v,e,?_⟩
  cases w with
  | v d=>
   rw [M.KG q]at p
   exact Post.val p Ext.refl s.heap r trivial
  | own l=>
   rw [M.K5 q]at p
   obtain⟨a,o,j,y,t,f,u⟩:=r
   exact Post.val p Ext.refl s.heap ⟨a,o,j,t,.inl f,u⟩ ⟨i,_,q,rfl,e⟩
  | bor l=>
   rw [M.K8 q]at p
   exact Post.val p Ext.refl s.heap r ⟨i,_,q,rfl,e⟩
def xb0 (g:Go Γ F X E k cf)(n:qdq cf.sc c e=k9):PE X e (tD Γ E (M.eval F (.con c))):=by
 obtain⟨p,rfl,j,m⟩:=wb n
 cases q:F.con.lookup c with
 | none=>
  intro f s U H Q I ⟨G,Y,h,b,a⟩
  rw [M.eval,q]at a
  exact a.elim
 | some d=>
  obtain⟨u,v,l,rv,rd⟩:=g.con c d q
  refine PE.imp (zU (g.gl _ j) l rv m) λU H Q i=> ?_
  obtain⟨G,Y,h,b,a⟩:=i
  rw [M.eval,q]at a
  exact Post.val a Ext.refl b.heap (rd G H) trivial
def xbC :PE X (.Constant (.int i) j pos) (tD Γ E (M.eval F (.int i))):=PE.imp zbo λU H Q ⟨G,Y,h,s,p⟩=>Post.val p Ext.refl s.heap rfl trivial
def jck :PE X (.Constant (.bool i) j pos) (tD Γ E (M.eval F (.bl i))):=PE.imp qcK λU H Q ⟨G,Y,h,s,p⟩=>Post.val p Ext.refl s.heap rfl trivial
def zbK :PE X (.Constant .none j pos) (tD Γ E (M.eval F .non)):=PE.imp zce λU H Q ⟨G,Y,h,s,p⟩=>Post.val p Ext.refl s.heap rfl trivial
def xbH :PE X (.Constant (.str (zdH i)) j pos) (tD Γ E (M.eval F (.str i))):=PE.imp xcb λU H Q ⟨G,Y,h,s,p⟩=>Post.val p Ext.refl s.heap rfl trivial
section
variable {a b c:M.E}{x y z:Expr}{pos:Pos}
def xb6 (v:Go Γ F X E k cf)(m:xa5 o=k9) (i:PE X x (tD Γ E (M.eval F a))) (n:PE X y (tD Γ E (M.eval F b))):PE X (.BinOp x (xdq o) y pos) (tD Γ E (M.eval F (.bin o a b))):=by
 refine PE.imp (xcP (xco (E:=E) o m v.K) i n) λU H Q f=> ?_
 obtain⟨G,Y,h,s,p⟩:=f
 refine Ja s.heap Ext.refl s p λl J L O C u j d q K r=> ?_
 refine Ja s.heap u d r λB N g e D A c t z I w=> ?_
 exact⟨e,g,l,B,t.heap,q.ext c d.heap,z,PostW.mk w A s.heap⟩
def JU (z:RelD Γ G H d v) (f:M.KP d=k9):qE v=true:=by
 cases d with
 | non=>cases (z);rfl
 | bl _=>cases (z);rfl
 | int _=>cases (z);rfl
 | str _=>cases (z);rfl
 | _=>exact absurd (f) Ab8
theorem jJ : ∀ {ds}{a},RelDs Γ G H ds a->ds.all M.KP=k9->a.all qE=k9
 | [],_,rfl,_=>rfl
 | d::ds,_,⟨v,r,rfl,c,b⟩,f=>by
  rw [Ai1,Aa7]at f ⊢
  exact⟨JU c f.1,jJ b f.2⟩
def xcu (z:RelD Γ G H d v) (y:RelD Γ G H e u) (f:M.KP d=k9) (c:M.KP e=k9):jdt v u=M.eqD d e:=by
 cases d with
 | non=>
  cases (z)
  cases e with
  | non=>cases (y);rfl
  | bl _=>cases (y);rfl
  | int _=>cases (y);rfl
  | str _=>cases (y);rfl
  | _=>exact absurd (c) Ab8
 | bl a=>
  cases (z)
  cases e with
  | non=>cases (y);rfl
  | bl _=>cases (y);rfl
  | int j=>cases (y);show((if a then(1:Int)else 0)==j)=(a.toNat==j);rw [xdp]
  | str _=>cases (y);rfl
  | _=>exact absurd (c) Ab8
 | int i=>
  cases (z)
  cases e with
  | non=>cases (y);rfl
  | bl b=>cases (y);show(i==(if b then(1:Int)else 0))=(i== b.toNat);rw [xdp]
  | int _=>cases (y);rfl
  | str _=>cases (y);rfl
  | _=>exact absurd (c) Ab8
 | str i=>
  cases (z)
  cases e with
  | non=>cases (y);rfl
  | bl _=>cases (y);rfl
  | int _=>cases (y);rfl
  | str j=>cases (y);exact qae i j
  | _=>exact absurd (c) Ab8
 | _=>exact absurd (f) Ab8
theorem jbt (z:RelD Γ G H d v) (b:M.KP d=k9): ∀ {ds}{c},RelDs Γ G H ds c->ds.all M.KP=k9->qdH v c=M.inD d ds
 | [],_,rfl,_=>rfl
 | e::ds,_,⟨u,r,rfl,h,g⟩,f=>by
  rw [Ai1,Aa7]at f
  have a:=jbt z b g f.2
  unfold qdH M.inD at a ⊢
  rw [Af3,Af3,a,xcu h z f.1 b]
def RelW.dflat (z:RelW Γ G H w v) (e:w.d=y0 d) (f:M.KP d=k9):RelD Γ G H d v:=by
 cases w with
 | v b=>cases e;exact z
 | own a=>cases e;exact absurd (f) Ab8
 | bor a=>cases e
theorem qbk (e: ∀c y,RV hp c y->ee y=M.eqD c d): ∀ {ys}{a},RVs hp ys a->a.any ee=M.inD d ys
 | [],_,rfl=>rfl
 | c::ys,_,⟨u,r,rfl,g,f⟩=>by
  have b:=qbk e f
  unfold M.inD at b ⊢
  rw [Af3,Af3,b,e c u g]
def qbV (p:X.K=Γ.K)(l:Room k X.A) (neg:Bool){x y:V}(I:Inv X k8 U H s) (S:RelV x v) (L:RelV y u){b:Bool}(m:HRel Γ G h H)
 (K:RelW Γ G H w1 x) (R:RelW Γ G H w2 y) (e:M.Pm w1 w2 h=y0 b) (q:Q (.bl (if neg then !b else b)) H):wpAny (model X.prog X.w) X.A (compareOp (if neg then .NotIn else .In) v u) (EP X k8 U Q) X.xe s:=by
 unfold M.Pm at e
 split at e
 ·rename_i O C
  split at e
  ·rename_i c
   cases e
   have r:=by simpa using c
   have N:=K.rv I p m S r.1.1
   have w:=R.rv I p m L (by rw [C];exact r.1.2)
   rw [C]at w
   obtain⟨a,g,rfl,t,A⟩:=w
   have i: ∃f:Value->Bool,∀c y,RV s.heap c y->f y=M.eqD c (w1.dd h):=⟨λy=> @v9 (∃ d,RV s.heap d y/\M.eqD d (w1.dd h)=k9) (Al4 _),λc y z=>by
    cases q:M.eqD c (w1.dd h)with
    | true=>exact @decide_eq_true _ (Al4 _) ⟨c,z,q⟩
    | false=>exact @decide_eq_false _ (Al4 _) λ⟨d,E,D⟩=>by rw [RV.inj E z,q]at D;cases D⟩
   obtain⟨f,o⟩:=i
   have B: ∀y,y∈g.toArray->SeqAt.EqAt X.A.in1 s y v (f y):=λy F=>by
    obtain⟨j,P⟩:=List.getElem?_of_mem (List.mem_toArray.mp F)
    obtain⟨d,J,rd⟩:=A.get P
    rw [o d y rd]
    exact(zcN 140 d _ X.A.in1 y v (by have:=qz J;omega) (by show X.A.units+1+140<cLine;have:=l.un;omega) rd N).eq
   have n:g.toArray.any f=M.inD (w1.dd h) O:=by rw [List.any_toArray];exact qbk o A
   cases neg with
   | true=>exact SeqAt.notIn_listAt f t B ⟨.bl _,H,I,rfl,by rw [n];exact q⟩
   | false=>exact SeqAt.in_listAt f t B ⟨.bl _,H,I,rfl,by rw [n];exact q⟩
  ·cases e
 ·cases e
def jbA (i:X.K=Γ.K){k:Nat}(g:Room k X.A) (neg:Bool){f:List (Addr×Obj)}{s:Shared}{U:St}{H:Hp}{x y:V}{v u:Value}{Q:VK}(I:Inv X f U H s) (m:RelV x v) (j:RelV y u){G:Gh}{h:M.AH}{p A:M.W}{b:Bool}(o:HRel Γ G h H)
 (r:RelW Γ G H p x) (w:RelW Γ G H A y) (e:M.Pa p A h=y0 b) (q:Q (.bl (if neg then !b else b)) H):wpAny (model X.prog X.w) X.A (compareOp (if neg then .NotIn else .In) v u) (EP X f U Q) X.xe s:=by
 unfold M.Pa at e
 ·split at e
  ·rename_i d D B C
   split at e
   ·rename_i c
    rw [Aa7]at c
    cases e
    have z:=r.dflat B c.1
    obtain⟨a,t,rfl,n,l⟩:=w.seq o C
    rw [← jbt z c.1 l c.2]at q
    cases neg with
    | true=>exact zN f s U H _ _ v u Q I m j ⟨a,t,rfl,i▸ja3 n,JU z c.1,jJ l c.2,q⟩
    | false=>exact zaE f s U H _ _ v u Q I m j ⟨a,t,rfl,i▸ja3 n,JU z c.1,jJ l c.2,q⟩
   ·exact qbV i g neg I m j o r w e q
  ·cases e
def qF (n:Go Γ F X E k cf) (o:M.Cp) (D:JD o=k9):xdH X (compareOp (qdr o)) (jbQ Γ o):=by
 have f: ∀ {o:M.Cp},(∀ a d h b,M.GD o a d h=y0 b-> ∃i j,M.W.int? a=y0 i/\M.W.int? d=y0 j/\M.Po o i j=y0 b)->xdH X (compareOp (qdr o)) (jbQ Γ o):=by
  intro o C g s U H x y v u Q I r m ⟨G,h,a,d,b,z,l,p,e,q⟩
  obtain⟨i,j,A,w,B⟩:=C a d h b e
  cases l.int A
  cases p.int w
  exact qba B I r m q
 have mk: ∀ {o:M.Cp}{a d:M.W}{h:M.AH}{b:Bool},(match M.W.int? a,M.W.int? d with
  | some i,y0 j=>M.Po o i j
  | _,_=>u0)=y0 b-> ∃i j,M.W.int? a=y0 i/\M.W.int? d=y0 j/\M.Po o i j=y0 b:=by
  intro o a d h b e
  split at e
  ·rename_i i j A w;exact⟨i,j,A,w,e⟩
  ·cases e
 cases o with
 | eq=>exact qcG n.K n.room
 | ne=>exact qci n.K n.room
 | lt=>exact f λa d h b e=>mk (h:=h) e
 | le=>exact f λa d h b e=>mk (h:=h) e
 | gt=>exact f λa d h b e=>mk (h:=h) e
 | ge=>exact f λa d h b e=>mk (h:=h) e
 | mem=>
  intro g s U H x y v u Q I r m ⟨G,h,a,d,b,z,l,p,e,q⟩
  exact jbA n.K n.room y9 I r m z l p e q
 | nmem=>
  intro g s U H x y v u Q I r m ⟨G,h,a,d,b,z,l,p,e,q⟩
  have e:(M.Pa a d h).map (!·)=y0 b:=e
  cases w:M.Pa a d h with
  | none=>rw [w]at e;cases e
  | some c=>
   rw [w]at e
   cases e
   exact jbA n.K n.room k9 I r m z l p w q
 | isb=>
  intro g s U H x y v u Q I r m ⟨G,h,a,d,b,z,l,p,e,q⟩
  have e:M.Pq a d=y0 b:=e
  unfold M.Pq at e
  split at e
  ·cases e
   cases l
   cases p
   cases r
   obtain⟨t,rfl⟩:=m
   exact wpAny_is_plain rfl (xbA I q rfl)
  ·cases e
   cases l
   cases p
   obtain⟨t,rfl⟩:=r
   obtain⟨J,rfl⟩:=m
   exact PyProof.Rows.is_bool (xbA I q rfl)
  ·cases e
def Zi (h:Ze e=k9):behindInMarks o e=false:=by
 cases e<;>first | rfl | (simp [Ze]at h)
def jbk (D:Go Γ F X E k cf)(s:StRel Γ G Y h U H)
 (p:Post Γ E G H ((M.eval F a Y h).bind λx h=>(M.eval F b Y h).bind λy h=>(M.R.of h (M.GD o x y h)).bind λc h=> .ok c h) λc _ _ H'=>R (.bl c) H'):
 zdD (jbQ Γ o) (tD Γ E (M.eval F a)) (tD Γ E (M.eval F b)) U H R:=by
 refine Ja s.heap Ext.refl s p λn C J L z t m f q I r=> ?_
 refine Ja s.heap t f r λw K l j A v d g u B e=> ?_
 obtain⟨c,i,e⟩:=e.of
 exact⟨j,l,n,w,c,g.heap,q.ext d f.heap,u,i,e.at v g.heap⟩
def Post.map {f:α->β}(p:Post Γ E G H (r.bind λa h=> .ok (f a) h) P):Post Γ E G H r λa h G' H'=>P (f a) h G' H':=by
 cases r with
 | ok a h=>exact p
 | exc d h=>exact p
 | fail=>exact p
def We (r:M.R α) (f) (g:β->M.AH->M.R γ):(r.bind f).bind g=r.bind λa h=>(f a h).bind g:=by cases r<;>rfl
def xbO (j:Go Γ F X E k cf)(u:JD o=k9) (n:Ze y=k9) (t:PE X x (tD Γ E (M.eval F a))) (z:PE X y (tD Γ E (M.eval F b))):PE X (.Compare x [qdr o] [y] pos) (tD Γ E (M.eval F (.cmp o a b))):=by
 refine PE.imp (ZS (qF j o u) t z (Zi n)) λU H Q m=> ?_
 obtain⟨G,Y,h,s,p⟩:=m
 rw [M.eval]at p
 refine jbk j s ?_
 have A:Post Γ E G H (((M.eval F a Y h).bind λx h=>(M.eval F b Y h).bind λy h=>(M.R.of h (M.GD o x y h)).bind λc h=> .ok c h).bind λc h=> .ok (M.W.v (.bl c)) h) λw _ i g=> ∀v,RelW Γ i g w v->FreshW Y U H w v->Q v g:=by
  simpa only [We,M.R.bind_ok]using p
 have f:=A.map
 cases q:(M.eval F a Y h).bind λx h=>(M.eval F b Y h).bind λy h=>(M.R.of h (M.GD o x y h)).bind λc h=> .ok c h with
 | ok c l=>rw [q]at f;exact λi g e r=>f i g e r (.bl c) rfl trivial
 | exc d l=>rw [q]at f;exact f
 | fail=>rw [q]at f;exact f
def xa7 (g:Go Γ F X E k cf)(u:JD o=k9) (l:Ze y=k9) (r:PE X x (tD Γ E (M.eval F a))) (t:PE X y (tD Γ E (M.eval F b))):PT X (.Compare x [qdr o] [y] pos) (qdS Γ E (M.Gr F (.cmp o a b))):=by
 refine PT.imp (xV (qF g o u) r t (Zi l)) λU H Q j=> ?_
 obtain⟨G,Y,h,s,p⟩:=j
 unfold M.Gr at p
 rw [M.eval]at p
 refine jbk g s ?_
 have f:=by
  simpa only [We,M.R.bind_ok,M.GW,M.R.of_some]using p
 cases q:(M.eval F a Y h).bind λx h=>(M.eval F b Y h).bind λy h=>(M.R.of h (M.GD o x y h)).bind λc h=> .ok c h with
 | ok c i=>rw [q]at f;exact λv n e m=>⟨c,rfl,f v n e m⟩
 | exc d i=>rw [q]at f;exact f
 | fail=>rw [q]at f;exact f
end
end
section
variable {Γ:Ge}{F:M.Fx}{X:Cx}{E:XK}{k:Nat}{cf:Cf}{a b c:M.E}{x y z:Expr}{pos:Pos}
def qy (r:M.R α):(r.bind λw h=> .ok w h)=r:=by cases r<;>rfl
def zbf (n:Go Γ F X E k cf) (g:PE X x (tD Γ E (M.eval F a))) (i: ∀b,isTrue x X.env b=(do let v ←b;standAt x.pos;holding [v] (truthy v))):PT X x (qdS Γ E (M.Gr F a)):=by
 refine PT.imp (qa9 g i) λU H Q f=> ?_
 obtain⟨G,Y,h,s,p⟩:=f
 refine Ja s.heap Ext.refl s p λl w r u e o j d m y c=> ?_
 cases q:M.KS r l with
 | none=>rw [q]at c;exact c.elim
 | some t=>
  rw [q]at c
  exact⟨t,qY n.K d.heap m q,c u e o d.heap⟩
def jbL (e:PE X x ta):PE X (.UnaryOp .Not x pos) (λU H Q=>ta U H λv H1=> ∃t,xb5 X.K v H1 t/\Q (.bl (!t)) H1):=by
 intro a s U H Q I h
 refine UnaryOp_ (zdv (e a s U H _ I h) ?_)
 rintro v b ⟨x,H1,i,j,t,k,l⟩
 exact not_of (zdv (QZ a b U H1 x v (λc d=>Q (.bl (!c)) d) i j ⟨t,k,l⟩) λc m ⟨g,f,q⟩=>⟨.bl (!c),g,f,rfl,q⟩)
def zbW (i:Go Γ F X E k cf) (e:PE X x (tD Γ E (M.eval F a))):PE X (.UnaryOp .Not x pos) (tD Γ E (M.eval F (.not a))):=by
 refine PE.imp (jbL e) λU H Q d=> ?_
 obtain⟨G,Y,h,s,p⟩:=d
 refine Ja s.heap Ext.refl s p λm n r u l j f c g o b=> ?_
 obtain⟨t,q,b⟩:=b.of
 exact⟨t,qY i.K c.heap g q,Post.val b j c.heap rfl trivial⟩
def za8 (f:PT X x (qdS Γ E (M.Gr F a))):PT X (.UnaryOp .Not x pos) (qdS Γ E (M.Gr F (.not a))):=by
 refine PT.imp (qch f) λU H Q c=> ?_
 obtain⟨G,Y,h,s,p⟩:=c
 unfold M.Gr at p
 rw [M.eval]at p
 have e:Post Γ E G H ((M.Gr F a Y h).bind λt h=> .ok (!t) h) λb _ _ d=>Q b d:=by
  unfold M.Gr
  simpa only [We,M.R.bind_ok,M.GW,M.R.of_some]using p
 exact⟨G,Y,h,s,e.map⟩
def jbX {rest:List Expr}(j:PE X x ta) (k:PE X (.BoolOp .And (y::rest) pos) tb):PE X (.BoolOp .And (x::y::rest) pos) (λU H Q=>ta U H λv H1=> ∃t,xb5 X.K v H1 t/\if t=k9 then tb U H1 Q else Q v H1):=by
 intro a s U H Q I h
 refine BoolOp_and (zdv (j a s U H _ I h) ?_)
 rintro v i ⟨x,H1,l,f,t,n,o⟩
 refine zdv (QZ a i U H1 x v (λc b=>if c=k9 then tb U b Q else Q x b) l f ⟨t,n,o⟩) λc m g=> ?_
 obtain⟨e,d,q⟩:=g
 cases c with
 | true=>exact k a m U e Q d q
 | false=>exact⟨x,e,d,f,q⟩
def zcr {rest:List Expr}(j:PE X x ta) (k:PE X (.BoolOp .Or (y::rest) pos) tb):PE X (.BoolOp .Or (x::y::rest) pos) (λU H Q=>ta U H λv H1=> ∃t,xb5 X.K v H1 t/\if t=k9 then Q v H1 else tb U H1 Q):=by
 intro a s U H Q I h
 refine BoolOp_or (zdv (j a s U H _ I h) ?_)
 rintro v i ⟨x,H1,l,f,t,n,o⟩
 refine zdv (QZ a i U H1 x v (λc b=>if c=k9 then Q x b else tb U b Q) l f ⟨t,n,o⟩) λc m g=> ?_
 obtain⟨e,d,q⟩:=g
 cases c with
 | false=>exact k a m U e Q d q
 | true=>exact⟨x,e,d,f,q⟩
def xam (o:Go Γ F X E k cf){rest:List Expr}(i:PE X x (tD Γ E (M.eval F a))) (m:PE X (.BoolOp .And (y::rest) pos) (tD Γ E (M.eval F b))):PE X (.BoolOp .And (x::y::rest) pos) (tD Γ E (M.eval F (.and a b))):=by
 refine PE.imp (jbX i m) λU H Q g=> ?_
 obtain⟨G,Y,h,s,p⟩:=g
 refine Ja s.heap Ext.refl s p λD J K N A e j d f v c=> ?_
 obtain⟨t,q,c⟩:=c.of
 refine⟨t,qY o.K d.heap f q,?_⟩
 cases t with
 | true=>
  exact Ja s.heap e d (by rw [qy];exact c) λO L C B I z r n w l u=>Post.val u z n.heap w (l.back e s.heap)
 | false=>
  exact Post.val c e d.heap f v
def xbj (o:Go Γ F X E k cf){rest:List Expr}(i:PE X x (tD Γ E (M.eval F a))) (m:PE X (.BoolOp .Or (y::rest) pos) (tD Γ E (M.eval F b))):PE X (.BoolOp .Or (x::y::rest) pos) (tD Γ E (M.eval F (.or a b))):=by
 refine PE.imp (zcr i m) λU H Q g=> ?_
 obtain⟨G,Y,h,s,p⟩:=g
 refine Ja s.heap Ext.refl s p λD J K N A e j d f v c=> ?_
 obtain⟨t,q,c⟩:=c.of
 refine⟨t,qY o.K d.heap f q,?_⟩
 cases t with
 | false=>
  exact Ja s.heap e d (by rw [qy];exact c) λO L C B I z r n w l u=>Post.val u z n.heap w (l.back e s.heap)
 | true=>
  exact Post.val c e d.heap f v
def qbD :M.Gr F (.and a b) Y h=(M.Gr F a Y h).bind λt h=>match t with
 | true=>M.Gr F b Y h
 | false=> .ok y9 h:=by
 unfold M.Gr
 rw [M.eval]
 simp only [We]
 congr 1
 funext w h1
 cases q:M.KS h1 w with
 | none=>rfl
 | some t=>
  cases t with
  | true=>rfl
  | false=>simp [q]
def qcp :M.Gr F (.or a b) Y h=(M.Gr F a Y h).bind λt h=>match t with
 | true=> .ok k9 h
 | false=>M.Gr F b Y h:=by
 unfold M.Gr
 rw [M.eval]
 simp only [We]
 congr 1
 funext w h1
 cases q:M.KS h1 w with
 | none=>rfl
 | some t=>
  cases t with
  | false=>rfl
  | true=>simp [q]
def Z2 {rest:List Expr}(m:PT X x (qdS Γ E (M.Gr F a))) (q:PW X (.BoolOp .And (y::rest) pos) (qdS Γ E (M.Gr F b))):PW X (.BoolOp .And (x::y::rest) pos) (qdS Γ E (M.Gr F (.and a b))):=by
 intro l c k U H Q I ⟨G,Y,h,s,p⟩
 refine zcE m q l c k U H Q I ?_
 rw [qbD]at p
 refine QK s.heap Ext.refl s p λt D v i g n d e=> ?_
 cases t with
 | true=>
  exact QK s.heap g d (f:=λw h=> .ok w h) (by rw [qy];exact e) λC B j o z A r u=>u j o z r.heap
 | false=>
  exact e v i g d.heap
def zaK {rest:List Expr}(m:PT X x (qdS Γ E (M.Gr F a))) (q:PW X (.BoolOp .Or (y::rest) pos) (qdS Γ E (M.Gr F b))):PW X (.BoolOp .Or (x::y::rest) pos) (qdS Γ E (M.Gr F (.or a b))):=by
 intro l c k U H Q I ⟨G,Y,h,s,p⟩
 refine zc0 m q l c k U H Q I ?_
 rw [qcp]at p
 refine QK s.heap Ext.refl s p λt D v i g n d e=> ?_
 cases t with
 | false=>
  exact QK s.heap g d (f:=λw h=> .ok w h) (by rw [qy];exact e) λC B j o z A r u=>u j o z r.heap
 | true=>
  exact e v i g d.heap
def jbU (e:PE X x (tD Γ E (M.eval F a))):PE X (.UnaryOp .USub x pos) (tD Γ E (M.eval F (.neg a))):=by
 refine PE.imp (qbO qbv e) λU H Q c=> ?_
 obtain⟨G,Y,h,s,p⟩:=c
 refine Ja s.heap Ext.refl s p λk l n o j i f d g m b=> ?_
 obtain⟨t,q,b⟩:=b.of
 exact⟨t,g.int q,Post.val b i d.heap rfl trivial⟩
def jb6 (f:PE X x (tD Γ E (M.eval F a))):PE X (.UnaryOp .Invert x pos) (tD Γ E (M.eval F (.inv a))):=by
 refine PE.imp (qbO qcy f) λU H Q c=> ?_
 obtain⟨G,Y,h,s,p⟩:=c
 refine Ja s.heap Ext.refl s p λl m o r k j g d i n b=> ?_
 obtain⟨t,q,b⟩:=b.of
 refine⟨t,i.int q,?_⟩
 have e:Builtin.bitNot t= -t-1:=by unfold Builtin.bitNot;omega
 exact Post.val b j d.heap rfl trivial
def xat (r:RelW Γ G H w v):(v= .non)↔w= .v .non:=by
 constructor
 ·intro e
  subst e
  cases w with
  | v d=>
   cases d with
   | non=>rfl
   | bl _=>cases (r)
   | int _=>cases (r)
   | str _=>cases (r)
   | tup _=>obtain⟨_,_,e,_⟩:=r;cases e
   | lst _=>obtain⟨_,_,e,_⟩:=r;cases e
   | ref _=>obtain⟨_,e⟩:=r;cases e
   | exc _ _=>rcases r with⟨_,_,e,_⟩ | ⟨_,_,e,_⟩<;>cases e
   | err _ _ _=>obtain⟨_,_,_,e,_⟩:=r;cases e
  | own _=>obtain⟨_,_,e,_⟩:=r;cases e
  | bor _=>obtain⟨_,_,e,_⟩:=r;cases e
 ·intro e
  subst e
  exact r
def zcX (neg:Bool):M.W->Bool
 | .v .non=> !neg
 | _=>neg
def jao :M.eval F (.isn neg a) Y h=(M.eval F a Y h).bind λw h=>M.okv (.bl (zcX neg w)) h:=by
 rw [M.eval]
 congr 1
 funext w h1
 cases w with
 | v d=>cases d<;>rfl
 | own _=>rfl
 | bor _=>rfl
def xbq (r:RelW Γ G H w v) (neg:Bool):(if neg then !v9 (v= .non)else v9 (v= .non))=zcX neg w:=by
 by_cases a:v= .non
 ·have b:=(xat r).mp a
  subst b a
  cases neg<;>rfl
 ·have b:=λe=>a ((xat r).mpr e)
  have f:=decide_eq_false a
  rw [f]
  have c:zcX neg w=neg:=by
   cases w with
   | v d=>cases d<;>first | rfl | exact absurd rfl b
   | own _=>rfl
   | bor _=>rfl
  rw [c]
  cases neg<;>rfl
def zb4 (d:PE X x (tD Γ E (M.eval F a))):PE X (.Compare x [if neg then .IsNot else .Is] [.Constant .none j pos'] pos) (tD Γ E (M.eval F (.isn neg a))):=by
 have b: ∀U H Q,tD Γ E (M.eval F (.isn neg a)) U H Q->tD Γ E (M.eval F a) U H λv c=>Q (.bl (if neg then !v9 (v= .non)else v9 (v= .non))) c:=λU H Q e=>by
  obtain⟨G,Y,h,s,p⟩:=e
  rw [jao]at p
  refine Ja s.heap Ext.refl s p λm n q r c l g f i o k=> ?_
  rw [xbq i neg]
  exact Post.val k l f.heap rfl trivial
 cases neg with
 | true=>exact PE.imp (zby (jaJ d)) b
 | false=>exact PE.imp (zby (qbo d)) b
def jbb (i:PE X x (tD Γ E (M.eval F a))):PT X (.Compare x [if neg then .IsNot else .Is] [.Constant .none j pos'] pos) (qdS Γ E (M.Gr F (.isn neg a))):=by
 have g: ∀U H Q,qdS Γ E (M.Gr F (.isn neg a)) U H Q->tD Γ E (M.eval F a) U H λv b=>Q (if neg then !v9 (v= .non)else v9 (v= .non)) b:=λU H Q l=>by
  obtain⟨G,Y,h,s,p⟩:=l
  unfold M.Gr at p
  rw [jao,We]at p
  refine Ja s.heap Ext.refl s p λD I K B b A u n y J z=> ?_
  rw [xbq y neg]
  exact z B b A n.heap
 have fin: ∀U H Q,qdS Γ E (M.Gr F (.isn neg a)) U H Q->tD Γ E (M.eval F a) U H λv b=> ∃c,V.bl (if neg then !v9 (v= .non)else v9 (v= .non))= .bl c/\Q c b:=λU H Q t=>by
  obtain⟨G,Y,h,s,p⟩:=g U H Q t
  refine⟨G,Y,h,s,?_⟩
  cases q:M.eval F a Y h with
  | ok w k=>rw [q]at p;exact λC o e m v r f=>⟨_,rfl,p C o e m v r f⟩
  | exc d k=>rw [q]at p;exact p
  | fail=>rw [q]at p;exact p
 cases neg with
 | true=>exact PT.imp (xbk (jaJ i)) fin
 | false=>exact PT.imp (xbk (qbo i)) fin
def J4 (h:Ze e'=k9):lastMarks [o,o'] [e,e']=false:=Zi h
def W2 (V:Go Γ F X E k cf)(s:StRel Γ G Y h U H)
 (hP: ∀b h' G' H',P (.v (.bl b)) h' G' H'->R (.bl b) H') (p:Post Γ E G H (M.eval F (.chain o o' a b c) Y h) P):
 jag (jbQ Γ o) (jbQ Γ o') (tD Γ E (M.eval F a)) (tD Γ E (M.eval F b)) (tD Γ E (M.eval F c)) U H R:=by
 refine Ja s.heap Ext.refl s p λx T Z G1 N D w m z W C=> ?_
 refine Ja s.heap D m C λl v2 v u Q r j d q S e=> ?_
 obtain⟨t,g,e⟩:=e.of
 refine⟨u,v,x,l,t,d.heap,z.ext j m.heap,q,g,t,rfl,?_⟩
 cases t with
 | true=>
  refine Ja s.heap r d e λA K y I O B f n J L i=> ?_
  obtain⟨t,g,i⟩:=i.of
  exact⟨I,y,l,A,t,n.heap,q.ext f d.heap,J,g,hP _ _ _ _ (i.at B n.heap)⟩
 | false=>
  exact hP _ _ _ _ (e.at r d.heap)
def xaJ (e:Go Γ F X E k cf)(i:JD o=k9) (d:JD o'=k9) (g:Ze z=k9) (f:PE X x (tD Γ E (M.eval F a))) (j:PE X y (tD Γ E (M.eval F b))) (l:PE X z (tD Γ E (M.eval F c))):
 PE X (.Compare x [qdr o,qdr o'] [y,z] pos) (tD Γ E (M.eval F (.chain o o' a b c))):=
 PE.imp (jaT (qF e o i) (qF e o' d) f j l (J4 g)) λU H Q ⟨G,Y,h,s,p⟩=>W2 e s (λb m r n q=>q (.bl b) rfl trivial) p
def Z7 (i:Go Γ F X E k cf)(v:JD o=k9) (g:JD o'=k9) (t:Ze z=k9) (r:PE X x (tD Γ E (M.eval F a))) (A:PE X y (tD Γ E (M.eval F b))) (B:PE X z (tD Γ E (M.eval F c))):
 PT X (.Compare x [qdr o,qdr o'] [y,z] pos) (qdS Γ E (M.Gr F (.chain o o' a b c))):=by
 refine PT.imp (xaV (qF i o v) (qF i o' g) r A B (J4 t)) λU H Q m=> ?_
 obtain⟨G,Y,h,s,p⟩:=m
 refine W2 i s (P:=λw _ _ f=> ∀b,w= .v (.bl b)->Q b f) (λb j l f q=>⟨b,rfl,q b rfl⟩) ?_
 unfold M.Gr at p
 cases q:M.eval F (.chain o o' a b c) Y h with
 | ok w j=>rw [q]at p;exact λl f e n b u=>by subst u;exact p l f e n
 | exc d j=>rw [q]at p;exact p
 | fail=>rw [q]at p;exact p
end
def ja (h:Qa e=k9):starEach (e::es) env=(y9,eval e env)::starEach es env:=by
 cases e<;>first | rfl | (simp [Qa]at h)
def xu (h: ∀e∈es,Qa e=k9):(backTo pos (starEach es env)).any (·.1)=false:=by
 induction es with
 | nil=>rfl
 | cons e r b=>
  rw [ja (h e Aa3)]
  show(y9||(backTo pos (starEach r env)).any (·.1))=y9
  rw [b λc a=>h c (Aa2 _ a)]
  rfl
section
variable {Γ:Ge}{F:M.Fx}{X:Cx}{E:XK}{k:Nat}{cf:Cf}{a b c:M.E}{x y z:Expr}{pos:Pos}{es:M.Es}{xs:List Expr}
def qa5:PA X [] (xd0 Γ E (M.Gm F .nil)):=PA.imp zg λU H Q ⟨G,Y,h,s,p⟩=>p G H Ext.refl s.heap [] rfl
def xai (z:Qa x=k9) (l:PE X x (tD Γ E (M.eval F a))) (j:PA X xs (xd0 Γ E (M.Gm F es))):PA X (x::xs) (xd0 Γ E (M.Gm F (.cons a es))):=by
 refine PA.imp (Xb l j (ja z)) λU H Q i=> ?_
 obtain⟨G,Y,h,s,p⟩:=i
 refine Ja s.heap Ext.refl s p λJ e L N C v m k o y c=> ?_
 obtain⟨d,q,c⟩:=c.of
 obtain⟨D,B,f,rd,_⟩:=qdt v k s o y q
 refine QS s.heap B f c λK g I w n r b u A t=> ?_
 exact t w n r u.heap (e::g) ⟨e,g,rfl,rd.ext b f.heap,A⟩
def ja7:PA X [] (zdJ Γ E (M.Gf F .nil)):=PA.imp zg λU H Q ⟨G,Y,h,s,p⟩=>p G H Ext.refl s.heap [] rfl
def qaK (u:Qa x=k9) (i:PE X x (tD Γ E (M.eval F a))) (g:PA X xs (zdJ Γ E (M.Gf F es))):PA X (x::xs) (zdJ Γ E (M.Gf F (.cons a es))):=by
 refine PA.imp (Xb i g (ja u)) λU H Q f=> ?_
 obtain⟨G,Y,h,s,p⟩:=f
 refine Ja s.heap Ext.refl s p λz d C D w r j c l B n=> ?_
 refine qC s.heap r c n λA e y t k m b q v o=> ?_
 exact o t k m q.heap (d::e) ⟨d,e,rfl,l.ext b c.heap,v⟩
def qbQ (B:xs.length<=1000) (b: ∀Y h ds h',M.Gm F es Y h= .ok ds h'->ds.length=xs.length) (o:PA X xs (xd0 Γ E (M.Gm F es))):PE X (.Tuple xs n pos) (tD Γ E (M.eval F (.tup es))):=by
 refine PE.imp (jbm o) λU H Q l=> ?_
 obtain⟨G,Y,h,s,p⟩:=l
 rw [M.eval]at p
 cases q:M.Gm F es Y h with
 | ok a k=>
  have r:=b _ _ _ _ q
  refine QS s.heap Ext.refl s (f:=λds h=>if ds.length=xs.length then M.okv (.tup ds) h else .fail) (P:=λw h' y g=> ∀v,RelW Γ y g w v->FreshW Y U H w v->Q v g) ?_ λds C D I A u t m j c=> ?_
  ·rw [q]at p ⊢
   show Post Γ E G H (if a.length=xs.length then M.okv (.tup a) k else .fail) _
   rw [if_pos r]
   exact p
  ·by_cases i:ds.length=xs.length
   ·rw [if_pos i]at c
    have z:=j.length
    exact⟨Ah2 (xl (by omega)),λx e=>PostW.tup (PostW.mk c u s.heap) m.heap j x e⟩
   ·rw [if_neg i]at c;exact c.elim
 | exc d k=>rw [q]at p;exact⟨G,Y,h,s,by rw [q];exact p⟩
 | fail=>rw [q]at p;exact p.elim
def qb2 (A:xs.length<=1000) (b: ∀Y h ds h',M.Gm F es Y h= .ok ds h'->ds.length=xs.length) (n:PA X xs (xd0 Γ E (M.Gm F es))):PE X (.List xs pos) (tD Γ E (M.eval F (.lst es))):=by
 refine PE.imp (xcd n) λU H Q l=> ?_
 obtain⟨G,Y,h,s,p⟩:=l
 rw [M.eval]at p
 cases q:M.Gm F es Y h with
 | ok a k=>
  have o:=b _ _ _ _ q
  refine QS s.heap Ext.refl s (f:=λds h=>if ds.length=xs.length then .ok (.own ds) h else .fail) (P:=λw h' x g=> ∀v,RelW Γ x g w v->FreshW Y U H w v->Q v g) ?_ λds B C D z t r m j c=> ?_
  ·rw [q]at p ⊢
   show Post Γ E G H (if a.length=xs.length then .ok (M.W.own a) k else .fail) _
   rw [if_pos o]
   exact p
  ·by_cases i:ds.length=xs.length
   ·rw [if_pos i]at c
    have y:=j.length
    exact⟨Ah2 (xl (by omega)),λu e=>PostW.own (PostW.mk c t s.heap) m.heap j u e⟩
   ·rw [if_neg i]at c;exact c.elim
 | exc d k=>rw [q]at p;exact⟨G,Y,h,s,by rw [q];exact p⟩
 | fail=>rw [q]at p;exact p.elim
def qbM (r:RelW Γ G H w v):RelW Γ G H w.arg v:=by
 cases w with
 | v d=>exact r
 | own f=>obtain⟨a,g,c,_,e,b,h⟩:=r;exact⟨a,g,c,e,.inl b,h⟩
 | bor f=>exact r
theorem zz : ∀ {ws}{a},RelWs Γ G H ws a->RelWs Γ G H (ws.map M.W.arg) a
 | [],_,z=>z
 | _::_,_,⟨v,r,c,b,d⟩=>⟨v,r,c,qbM b,zz d⟩
def xA (ws:List M.W): ∀w∈ws.map M.W.arg,zaY w=true:=λw a=>by
 obtain⟨u,_,rfl⟩:=Ac.mp a
 cases u<;>rfl
def za5 (a:Go Γ F X E k cf)(D:qdq cf.sc f g=k9) (A:cf.fns.contains f=k9) (c: ∀e∈x::xs,Qa e=k9) (l:PA X (x::xs) (zdJ Γ E (M.Gf F es))):PE X (.Call g (x::xs) [] pos) (tD Γ E (M.eval F (.call f es))):=by
 obtain⟨p,rfl,i,r⟩:=wb D
 obtain⟨v,L,J,b,o,t,q⟩:=(a.fn f A).imp λv h=>h.ex
 refine PE.imp (qbW b a.room (a.gl _ i) q t o .nil a.pass l r (ja (c _ Aa3)) (xu λe m=>c e (Aa2 _ m))) λU H Q d=> ?_
 obtain⟨G,Y,h,s,p⟩:=d
 refine qC s.heap Ext.refl s p λz K B C I y n j u w=> ?_
 rw [Ae7]
 exact⟨C,B,_,j.heap,zz u,xA z,PostW.mk w y s.heap⟩
def qaj (a:Go Γ F X E k cf)(o:qdq cf.sc f g=k9) (n:cf.fns.contains f=k9):PE X (.Call g [] [] pos) (tD Γ E (M.eval F (.call f .nil))):=by
 obtain⟨p,rfl,d,j⟩:=wb o
 obtain⟨m,r,q,b,e,l,i⟩:=(a.fn f n).imp λm h=>h.ex
 refine PE.imp (zaZ b a.room (a.gl _ d) i l e .nil a.pass j) λU H Q c=> ?_
 obtain⟨G,Y,h,s,p⟩:=c
 have p:=p
 exact⟨G,h,_,s.heap,zz (ws:= []) rfl,xA [],PostW.mk p Ext.refl s.heap⟩
def jcA (b:M.Bi) (a:zcJ b=k9):bootBuiltins (qf (jdQ b))=y0 (zdI b):=by
 cases b<;>first | (exact absurd (show y9=k9 from a) Ab8) | decide +kernel
def jc5 (b):jdQ b∈bltN:=by cases b<;>decide
def zcC (c:Go Γ F X E k cf){b:M.Bi}(q:zcJ b=k9) (D:qdq cf.sc (jdQ b) g=k9) (r: ∀e∈x::xs,Qa e=k9) (j:PA X (x::xs) (zdJ Γ E (M.Gf F es))):PE X (.Call g (x::xs) [] pos) (tD Γ E (M.eval F (.bi b es))):=by
 obtain⟨p,rfl,i,m⟩:=wb D
 have l:=c.blt _ (jc5 b)
 have hn:=zk (jc5 b)
 have f:=jcA b q
 have o:Xm X (zdI b) (xdQ Γ E b):=xbK b q c.K c.calm
 have a: ∀U H Q,tD Γ E (M.eval F (.bi b es)) U H Q->zdT (xdQ Γ E b) (zdJ Γ E (M.Gf F es)) U H Q:=λU H Q t=>by
  obtain⟨G,Y,h,s,p⟩:=t
  refine qC s.heap Ext.refl s p λA J B C I z v d w y=> ?_
  exact⟨C,B,A,d.heap,w,PostW.mk y z s.heap⟩
 have d:=ja (env:=X.env) (es:=xs) (r _ Aa3)
 have n:=xu (env:=X.env) (pos:=pos) λe u=>r e (Aa2 _ u)
 cases b with
 | len=>exact PE.imp (qh o (c.gl _ i) l f j hn m d n) a
 | divmod=>exact PE.imp (qh o (c.gl _ i) l f j hn m d n) a
 | min=>exact PE.imp (qh o (c.gl _ i) l f j hn m d n) a
 | max=>exact PE.imp (qh o (c.gl _ i) l f j hn m d n) a
 | int=>cases q
 | list=>exact PE.imp (ZC o (c.gl _ i) l f j hn m d n) a
 | tuple=>exact PE.imp (ZC o (c.gl _ i) l f j hn m d n) a
 | sum=>exact PE.imp (qh o (c.gl _ i) l f j hn m d n) a
 | all=>exact PE.imp (qh o (c.gl _ i) l f j hn m d n) a
 | any=>cases q
 | sorted=>cases q
 | str=>cases q
 | abs=>cases q
def base_of (h:jb3 o=k9) (w):attributeBase o n env w=w:=by
 cases o<;>first | rfl | exact absurd (h) Ab8
theorem zaL (t): ∀ {ts}{n},M.Pc t ts=y0 n->zb8 (zdH t) (ts.map zdH)=y0 n
 | [],_,e=>by cases e
 | y::ys,n,e=>by
  unfold M.Pc at e
  rw [Aa9,zb8]
  split at e
  ·rename_i q
   cases e
   rw [if_pos (by rw [q])]
  ·rename_i q
   obtain⟨k,e1,rfl⟩:=Ag6.mp e
   rw [if_neg (λc=>q (by
    have:=congrArg (λs:Str=>s.cps.toList) c
    simpa [zdH]using this)),zaL t e1]
   rfl
def zaW (A:Go Γ F X E k cf){m:M.Mt}{a:M.E}{o:Expr}{e d:Pos}(hm:xc6 m=k9) (hl:(e.endLine==d.line)=k9) (hc:jb3 o=k9) (C:Qa x=k9) (ha:PE X o (tD Γ E (M.eval F a))) (hw:PA X [x] (zdJ Γ E (M.Gf F es))):
 PE X (.Call (.Attribute o (qf (qdP m)) e) [x] [] d) (tD Γ E (M.eval F (.meth m a es))):=by
 cases m with
 | index=>
  refine PE.imp (zbr PySem.F.plainAttrs_tuple PySem.F.slot_tuple_index PySem.F.type_tuple_index zcj xaY ha hw (base_of hc _) (by rw [ja C];rfl) hl (ja C) rfl) λU H Q I=> ?_
  obtain⟨G,Y,h,s,p⟩:=I
  rw [M.eval]at p
  refine Ja s.heap Ext.refl s p λl v1 h1 G1 H1 R L j v f1 f=> ?_
  split at f
  ·rename_i D
   obtain⟨xs,ex⟩:=Ai3.mp (show l.tup?.isSome=k9 from D)
   obtain⟨b,P,rfl,q,z3⟩:=v.tup ex
   refine⟨⟨b,rfl,A.K▸q.pl⟩,?_⟩
   refine qC s.heap R j f λS us r G2 H2 Z g y V c=> ?_
   obtain⟨b',O,N,W,K⟩:=RelW.ext (w:= .v (.tup xs)) g j.heap ⟨b,P,rfl,q,z3⟩
   cases N
   cases S with
   | nil=>exact c.elim
   | cons w wr=>
    cases wr with
    | cons _ _=>exact c.elim
    | nil=>
     obtain⟨u,rfl,J⟩:=V.one
     have c:Post Γ E G H ((M.R.of r (l.tup?.bind M.KM)).bind λB h=>(M.R.of h w.str?).bind λt h=>(M.R.of h (M.Pc t B)).bind λn h=>if B.length<=M.LIM then M.okv (.int (n:Int)) h else .fail) _:=c
     obtain⟨B,z,c⟩:=c.of
     obtain⟨t,q2,c⟩:=c.of
     obtain⟨n,T,c⟩:=c.of
     cases J.str q2
     rw [ex,Ah1]at z
     cases zZ z K
     split at c
     ·exact⟨b,zdH t,n,B.map zdH,rfl,rfl,A.K▸StT.sq W,zaL t T,(PostW.mk c Z s.heap).v y.heap rfl⟩
     ·exact c.elim
  ·exact f.elim
 | count=>
  refine PE.imp (zbr PySem.F.plainAttrs_list PySem.F.slot_list_count PySem.F.type_list_count xb2 jbe ha hw (base_of hc _) (by rw [ja C];rfl) hl (ja C) rfl) λU H Q I=> ?_
  obtain⟨G,Y,h,s,p⟩:=I
  rw [M.eval]at p
  refine Ja s.heap Ext.refl s p λl v1 h1 G1 H1 R L j v f1 f=> ?_
  split at f
  ·rename_i D
   obtain⟨ys,ey⟩:=Ai3.mp (show (l.lst? h1).isSome=k9 from D)
   obtain⟨b,P,rfl,q,z3⟩:=RelW.lst j.heap v ey
   refine⟨⟨b,P,rfl,A.K▸q⟩,?_⟩
   refine qC s.heap R j f λS us r G2 H2 Z g y V c=> ?_
   cases S with
   | nil=>exact c.elim
   | cons w wr=>
    cases wr with
    | cons _ _=>exact c.elim
    | nil=>
     obtain⟨u,rfl,J⟩:=V.one
     have c:Post Γ E G H ((M.R.of r ((l.lst? r).bind M.Kg)).bind λis h=>(M.R.of h w.int?).bind λi h=>if is.length<=M.LIM then M.okv (.int ((is.count i:Nat):Int)) h else .fail) _:=c
     obtain⟨is,z,c⟩:=c.of
     obtain⟨i,q2,c⟩:=c.of
     obtain⟨ys2,T,q4⟩:=Ad4.mp z
     obtain⟨b',O,N,y2,y3⟩:=RelW.lst y.heap (v.ext g j.heap) T
     cases N
     cases Jf q4 y3
     cases J.int q2
     split at c
     ·exact⟨b,i,is,rfl,rfl,A.K▸y2,(PostW.mk c Z s.heap).v y.heap rfl⟩
     ·exact c.elim
  ·exact f.elim
def xcr: "set" ∈bltN:=by decide
def jco: "len" ∈bltN:=by decide
def zcA (is):xdz is=M.Pf [] is:=by
 have k: ∀ n a rest,is=a++rest->a.length=n->(firstMet (λi=>is.getD i 0) n).length+M.Pf a rest=(firstMet (λi=>is.getD i 0) is.length).length:=by
  intro n a rest
  induction rest generalizing n a with
  | nil=>
   intro b c
   rw [Ae7]at b
   rw [M.Pf,Nat.add_zero,←c,b]
  | cons x m h=>
   intro b c
   have g:is.getD n 0=x:=by
    rw [Ab7,b,Af7 (by omega),c,Nat.sub_self]
    rfl
   have d:=h (n+1) (a++ [x]) (by rw [b,Ae9];rfl) (by simp [c])
   rw [← d,M.Pf,firstMet_succ,g]
   have j:(Aa0 n).map (λi=>is.getD i 0)=a:=by
    refine Am3 (by simp [c]) λi l f=> ?_
    rw [Ai6,Ai9,Ab7,b,Ag0 f,Aa4 f]
    rfl
   have e:=firstMet_any (λi=>is.getD i 0) n x
   rw [j]at e
   rw [PyProof.Rows.step_length,e]
   split<;>omega
 have:=k 0 [] is rfl rfl
 rw [show (firstMet (λi=>is.getD i 0) 0).length=0 from rfl,Ag8]at this
 exact this.symm
def Q8 (e:Go Γ F X E k cf)(L:qdq cf.sc "len" g=true) (j:qdq cf.sc "set" g2=true) (o:Qa x=true) (v:PE X x (tD Γ E (M.eval F a))):PE X (.Call g [.Call g2 [x] [] pos2] [] pos) (tD Γ E (M.eval F (.lenset a))):=by
 obtain⟨p,rfl,t,y⟩:=wb L
 obtain⟨A,rfl,m,i⟩:=wb j
 have d:=ZC (p:=A) (pos:=pos2) xaC (e.gl _ m) (e.blt _ xcr) (by decide +kernel) (Xb v zg (ja o)) (zk xcr) i (ja o) rfl
 refine PE.imp (qh xae (e.gl _ t) (e.blt _ jco) (by decide +kernel) (Xb d zg rfl) (zk jco) y rfl rfl) λU H Q r=> ?_
 obtain⟨G,Y,h,s,p⟩:=r
 rw [M.eval]at p
 refine Ja s.heap Ext.refl s p λO R W K N D w u z V f=> ?_
 obtain⟨is,C,f⟩:=f.of
 obtain⟨P,B,I⟩:=Ad4.mp C
 obtain⟨l,T,rfl,q,J⟩:=z.tup B
 cases Jf I J
 split at f
 ·rename_i c
  refine⟨l,is,rfl,e.calm,c,e.K▸q.sq,λb S n=>⟨b,S,xdz is,rfl,xb,?_,?_⟩⟩
  ·exact An9 (firstMet_length_le _ _) c
  ·rw [zcA]
   exact f K _ (D.trans s.heap (QB _ n)) (u.heap.new _ n) (.int _) rfl trivial
 ·exact f.elim
theorem ZU: ∀xs ys:List Int,M.KU xs ys=HT.lexLt xs ys
 | [],[]=>rfl
 | [],_::_=>rfl
 | _::_,[]=>rfl
 | x::xs,y::ys=>by rw [M.KU,HT.lexLt_cons,ZU xs ys]
def xbM (f:Go Γ F X E k cf) (r:Ze y=k9) (u:PE X x (tD Γ E (M.eval F a))) (z:PE X y (tD Γ E (M.eval F b))):PE X (.Compare x [.Lt] [y] pos) (tD Γ E (M.eval F (.ltL a b))):=by
 refine PE.imp (ZS (xbs (by have:=f.room.un;omega)) u z (Zi r)) λU H Q q=> ?_
 obtain⟨G,Y,h,s,p⟩:=q
 refine Ja s.heap Ext.refl s p λT v1 h1 G1 R J v j B f1 C=> ?_
 refine Ja s.heap J j C λw2 v2 S n W O g e K Z c=> ?_
 obtain⟨is,I,c⟩:=c.of
 obtain⟨o,P,c⟩:=c.of
 obtain⟨V,w,a2⟩:=Ad4.mp I
 obtain⟨ys,t,A⟩:=Ad4.mp P
 obtain⟨l,vs,rfl,m,N⟩:=RelW.lst e.heap (B.ext g j.heap) w
 obtain⟨l2,L,rfl,i,d⟩:=RelW.lst e.heap K t
 cases Jf a2 N
 cases Jf A d
 split at c
 ·rename_i D
  refine⟨l,l2,is,o,rfl,rfl,f.K▸m,f.K▸i,D,?_⟩
  rw [← ZU]
  exact c n _ O e.heap (.bl _) rfl trivial
 ·exact c.elim
def qcw (c) [Decidable c] (v) (h):((if c then M.okv (.bl v) h else M.R.fail).bind λx h=>M.R.of h (M.KS h x))=if c then M.R.ok v h else M.R.fail:=by
 split<;>rfl
def qbg (f:Go Γ F X E k cf) (r:Ze y=k9) (v:PE X x (tD Γ E (M.eval F a))) (A:PE X y (tD Γ E (M.eval F b))):PT X (.Compare x [.Lt] [y] pos) (qdS Γ E (M.Gr F (.ltL a b))):=by
 refine PT.imp (xV (xbs (by have:=f.room.un;omega)) v A (Zi r)) λU H Q q=> ?_
 obtain⟨G,Y,h,s,p⟩:=q
 unfold M.Gr at p
 rw [M.eval]at p
 have u:=by
  simpa only [We,M.R.bind_ok,qcw]using p
 refine Ja s.heap Ext.refl s u λV v1 h1 G1 S K w j C f1 D=> ?_
 refine Ja s.heap K j D λw2 v2 T n Z P g e L f2 c=> ?_
 obtain⟨is,J,c⟩:=c.of
 obtain⟨o,R,c⟩:=c.of
 obtain⟨W,z,a2⟩:=Ad4.mp J
 obtain⟨ys,t,B⟩:=Ad4.mp R
 obtain⟨l,vs,rfl,m,O⟩:=RelW.lst e.heap (C.ext g j.heap) z
 obtain⟨l2,N,rfl,i,d⟩:=RelW.lst e.heap L t
 cases Jf a2 O
 cases Jf B d
 split at c
 ·rename_i I
  refine⟨l,l2,is,o,rfl,rfl,f.K▸m,f.K▸i,I,?_⟩
  rw [← ZU]
  exact⟨_,rfl,c n _ P e.heap⟩
 ·exact c.elim
def qb0 (b:Go Γ F X E k cf)(f:t≠ .non) (P:qdq cf.sc "isinstance" g=true) (r:qdq cf.sc (qdJ t) y=true) (m:Qa x=true) (z:PE X x (tD Γ E (M.eval F a))):PE X (.Call g [x,y] [] pos) (tD Γ E (M.eval F (.isT a t))):=by
 obtain⟨p,rfl,u,C⟩:=wb P
 obtain⟨q,rfl,I,w⟩:=wb r
 have d:qdJ t∈bltN:=by cases t<;>first | exact absurd rfl f | decide
 have n:bootBuiltins (qf (qdJ t))=y0 (.type (qdJ t)):=by cases t<;>first | exact absurd rfl f | decide +kernel
 have bi:bootBuiltins (qf "isinstance")=some (.builtin "isinstance"):=boot_isinstance
 have e: "isinstance" ∈bltN:=by decide
 have j:PE X (.Name (qf (qdJ t)) q) (tC (.ty (qdJ t))):=jar (b.gl _ I) (b.blt _ d) n rfl (zk d) w
 refine PE.imp (qh (qbb b.K) (b.gl _ u) (b.blt _ e) bi (Xb z (Xb j zg) (ja m)) (zk e) C (ja m) rfl) λU H Q o=> ?_
 obtain⟨G,Y,h,s,p⟩:=o
 rw [M.eval]at p
 refine Ja s.heap Ext.refl s p λB J N O R K A l D S i=> ?_
 obtain⟨c,L,i⟩:=i.of
 exact⟨O,N,B,J,t,c,rfl,f,l.heap,D,L,Post.val i K l.heap (v:= .bl c) rfl trivial⟩
theorem xaG (a:Go Γ F X E k cf): ∀ {ts}{zs},QA cf ts zs=k9->PA X zs (λ_ H Q=>Q (ts.map λt=> .ref (Γ.ca t)) H)/\(∀ t∈ts,t∈Γ.own)/\ts.length=zs.length
 | [],[],_=>⟨zg,λ_ h=>absurd h (by simp),rfl⟩
 | [],_::_,h=>by simp [QA]at h
 | _::_,[],h=>by simp [QA]at h
 | t::ts,z::zs,h=>by
  unfold QA at h
  rw [Aa7,Aa7]at h
  obtain⟨⟨l,c⟩,g⟩:=h
  obtain⟨p,rfl,i,e⟩:=wb l
  obtain⟨d,j,f⟩:=xaG a g
  refine⟨?_,λu b=> ?_,congrArg (· +1) f⟩
  ·exact Xb (zU (v:= .ref (Γ.ca t)) (a.gl _ i) (a.cls t c) rfl e) d
  ·rcases Ab4.mp b with rfl | b
   ·rw [← a.ow];exact Aj7.mp c
   ·exact j u b
theorem wP {c:String}(a:zdZ Γ c): ∀ {ts:List String},(∀ t∈ts,t∈Γ.own)->PySem.W.kitAny Γ.K (.ref (Γ.ca c)) ((ts.map Γ.ca).map Value.ref)=y0 (ts.any (M.Kx Γ.cl 8 c).contains)
 | [],_=>rfl
 | t::ts,h=>by
  rw [Aa9,Aa9,PySem.W.kitAny,a.own t (h t Aa3),Af3]
  cases e:(M.Kx Γ.cl 8 c).contains t with
  | true=>rfl
  | false=>
   exact wP a λu b=>h u (Aa2 _ b)
def jaD {b:Bool}(r:RelW Γ G H w v) (e:M.isX cl w ts=y0 b): ∃c x k,v= .ref x/\H x=y0 (jW x (Γ.ca c) k)/\zdZ Γ c/\b=ts.any (M.Kx cl 8 c).contains:=by
 unfold M.isX at e
 split at e
 ·rename_i c
  rcases r with⟨_,x,g,_,h,a⟩ | ⟨z,_⟩
  ·exact⟨c,x,u0,g,h,a,(Ae5.inj e).symm⟩
  ·exact absurd rfl z
 ·rename_i c f d
  obtain⟨x,j,u,g,l,h,a,o,i,n,m⟩:=r
  exact⟨c,x,y0 j,g,a,i,(Ae5.inj e).symm⟩
 ·cases e
def jbg (d:Go Γ F X E k cf)(l:t= "ValueError" \/cf.own.contains t=true) (Z:qdq cf.sc "isinstance" g=true) (I:qdq cf.sc t y=true) (f:Qa x=true) (L:PE X x (tD Γ E (M.eval F a))):
 PE X (.Call g [x,y] [] pos) (tD Γ E (M.eval F (.isX a k9 [t]))):=by
 obtain⟨p,rfl,J,O⟩:=wb Z
 obtain⟨q,rfl,w,u⟩:=wb I
 have bi:=boot_isinstance
 have j: "isinstance" ∈bltN:=by decide
 have fin: ∀ v,PE X (.Name (qf t) q) (tC v)->(∀ c,zdZ Γ c-> ∀x b,b= [t].any (M.Kx Γ.cl 8 c).contains-> ∀e H Q,H x=y0 (jW x (Γ.ca c) e)->Q (.bl b) H->zc1 X.K [.ref x,v] H Q) →
  PE X (.Call (.Name (qf "isinstance") p) [x,.Name (qf t) q] [] pos) (tD Γ E (M.eval F (.isX a true [t]))):=fun v S r=>by
  refine PE.imp (qh W0 (d.gl _ J) (d.blt _ j) bi (Xb L (Xb S zg) (ja f)) (zk j) O (ja f) rfl) λU H Q D=> ?_
  obtain⟨G,Y,h,s,p⟩:=D
  refine Ja s.heap Ext.refl s p λw1 v1 h1 G1 B T N K R f1 o=> ?_
  obtain⟨b,V,o⟩:=o.of
  obtain⟨c,P,e,rfl,W,C,A⟩:=jaD R V
  rw [d.cl]at A
  exact r c C P b A e B Q W (Post.val o T K.heap rfl trivial)
 by_cases n:cf.own.contains t=k9
 ·refine fin (.ref (Γ.ca t)) (zU (d.gl _ w) (d.cls t n) rfl u) λc i x b m e H Q f q=> ?_
  have r:=i.own t (by rw [← d.ow];exact Aj7.mp n)
  refine⟨x,Γ.ca c,e,b,d.K▸i.k,f,.inl ⟨Γ.ca t,rfl,?_⟩,q⟩
  rw [d.K,r,m]
  simp
 ·have l:=l.elim id λz=>absurd z n
  subst l
  have qdH: "ValueError" ∈bltN:=by decide
  refine fin (.ty "ValueError") (jar (d.gl _ w) (d.blt _ qdH) xbV rfl (zk qdH) u) fun c i x b m e H Q f q=> ?_
  refine⟨x,Γ.ca c,e,b,d.K▸i.k,f,.inr (.inl ⟨"ValueError",rfl,?_⟩),q⟩
  rw [d.K,i.ve,m]
  simp
def qbd (d:Go Γ F X E k cf)(J:zs.length<=1000) (R:qdq cf.sc "isinstance" g=true) (r:QA cf ts zs=true) (m:Qa x=true) (z:PE X x (tD Γ E (M.eval F a))):
 PE X (.Call g [x,.Tuple zs n p2] [] pos) (tD Γ E (M.eval F (.isX a y9 ts))):=by
 obtain⟨p,rfl,v,C⟩:=wb R
 have bi:=boot_isinstance
 have e: "isinstance" ∈bltN:=by decide
 obtain⟨u,O,B⟩:=xaG d r
 refine PE.imp (qh W0 (d.gl _ v) (d.blt _ e) bi (Xb z (Xb (jbm u) zg) (ja m)) (zk e) C (ja m) rfl) λU H Q q=> ?_
 obtain⟨G,Y,h,s,p⟩:=q
 refine Ja s.heap Ext.refl s p λT V Z G1 S L A y I W i=> ?_
 obtain⟨b,N,i⟩:=i.of
 obtain⟨c,D,K,rfl,l,j,o⟩:=jaD I N
 rw [d.cl]at o
 refine⟨?_,λt f=> ?_⟩
 ·rw [Aa,B];exact Ah2 (xl J)
 have w:=y.heap.newF (.tup (ts.map λt=> .ref (Γ.ca t))) f
 have P:=L.trans s.heap (Wg (.tup (ts.map λt=> .ref (Γ.ca t))) f)
 refine⟨D,Γ.ca c,K,b,d.K▸j.k,?_,.inr (.inr ⟨t,ts.map Γ.ca,rfl,?_,?_⟩),Post.val i P w rfl trivial⟩
 ·rw [qa (Xa l f)];exact l
 ·rw [xb,Ac6];rfl
 ·rw [d.K,wP j O,o]
theorem RelDs.atI (z:RelDs Γ G H ds vs) (e:M.atI ds i=y0 d): ∃v,L2.atI vs i=y0 v/\RelD Γ G H d v:=by
 unfold M.atI at e
 unfold L2.atI
 rw [z.length]at e
 cases q:M.ixN vs.length i with
 | none=>rw [q]at e;cases e
 | some j=>
  rw [q]at e
  obtain⟨v,c,b⟩:=z.get (e)
  refine⟨v,?_,b⟩
  have a:L2.ixN vs.length i=y0 j:=q
  rw [a]
  exact c
def qaR (a:zh y=k9):zav y:=by
 intro o i
 cases y<;>first | rfl | (simp [zh]at a)
def jcv (t:Go Γ F X E k cf) (z:zh y=k9) (B:PE X x (tD Γ E (M.eval F a))) (I:PE X y (tD Γ E (M.eval F b))):PE X (.Subscript x y pos) (tD Γ E (M.eval F (.ix a b))):=by
 refine PE.imp (xcY xcc B I (qaR z)) λU H Q w=> ?_
 obtain⟨G,Y,h,s,p⟩:=w
 rw [M.eval]at p
 refine Ja s.heap Ext.refl s p λD Z h1 G1 S L C n f f1 K=> ?_
 refine Ja s.heap L n K λw2 v2 A T V R g o N W j=> ?_
 obtain⟨d,q,j⟩:=j.of
 have f:=f.ext g n.heap
 unfold M.ixD at q
 split at q
 ·rename_i i P
  cases N.int P
  ·cases m:D.seq? A with
   | none=>rw [m]at q;cases q
   | some J=>
    rw [m]at q
    obtain⟨l,r,rfl,c,O⟩:=f.seq o.heap m
    obtain⟨v,e,rd⟩:=O.atI (show M.atI J i=y0 d from q)
    have u:=Post.val j R o.heap rd trivial
    rcases c with c | c
    ·exact .inl ⟨l,r,i,v,rfl,rfl,t.K▸c,e,u⟩
    ·exact .inr (.inl ⟨l,r,i,v,rfl,rfl,t.K▸c,e,u⟩)
 ·cases q
end
section
variable {Γ:Ge}{F:M.Fx}{X:Cx}{E:XK}{k:Nat}{cf:Cf}{a b c:M.E}{x y z:Expr}{pos p2:Pos}
def zbu (xs:List α) (lo hi):M.cut xs lo hi=(xs.drop (HT.sIx xs.length 0 lo)).take (HT.sIx xs.length xs.length hi-HT.sIx xs.length 0 lo):=by
 unfold M.cut
 have e: ∀d o,M.sIx xs.length d o=HT.sIx xs.length d o:=λd o=>by cases o<;>rfl
 rw [e,e]
theorem RelDs.cut (z:RelDs Γ G H ds vs) (lo hi):RelDs Γ G H (M.cut ds lo hi) (zcz vs lo hi):=by
 rw [zbu]
 rw [z.length]
 exact(z.drop _).take _
def qbY {o G:Gh}{k H:Hp}{u h:M.AH}{Y:M.Sl}{U:St}{Q:VK}{w:M.W}{v:V}{d f:Option Int}(s:HRel Γ o u k) (e:Ext o k G H) (j:HRel Γ G h H) (r:RelW Γ G H w v)
 (p:Post Γ E o k (M.slD w d f h) λw _ G' H'=> ∀v,RelW Γ G' H' w v->FreshW Y U k w v->Q v H'):(zcK Γ.K v d f H Q\/qcL Γ.K v d f H Q)\/xcS Γ.K v d f H Q:=by
 unfold M.slD at p
 ·split at p
  ·rename_i n q
   obtain⟨l,b,rfl,i,g⟩:=r.tup q
   by_cases c:HT.sIx b.length 0 d=0/\HT.sIx b.length b.length f=b.length
   ·have t:M.cut n d f=n:=by
     rw [zbu,g.length,c.1,c.2,List.drop_zero,Nat.sub_zero,←g.length,Ao4]
    rw [t]at p
    exact .inr ⟨l,b,rfl,i.sq,c.1,c.2,p G H e j _ ⟨l,b,rfl,i,g⟩ trivial⟩
   ·exact .inl (.inr ⟨l,b,rfl,i.sq,c,λa m=>PostW.tup (PostW.mk p e s) j (g.cut d f) a m⟩)
  ·split at p
   ·rename_i n q
    obtain⟨l,b,rfl,i,g⟩:=r.lst j q
    exact .inl <| .inl ⟨l,b,rfl,i,λa m=>PostW.own (PostW.mk p e s) j (g.cut d f) a m⟩
   ·exact p.elim
noncomputable def qdz (K:Aa6):V->Option Int->Option Int->Hp->VK->Prop:=λx lo hi H Q=>(zcK K x lo hi H Q\/qcL K x lo hi H Q)\/xcS K x lo hi H Q
def jaq:SlR X (qdz X.K):=(sl_list.or xcx).or qcv
def qcj (C:Go Γ F X E k cf){e m:M.E}(q:PE X x (tD Γ E (M.eval F a))) (z:PE X l (tD Γ E (M.eval F e))) (t:PE X u (tD Γ E (M.eval F m))):PE X (.Subscript x (.Slice (y0 l) (y0 u) u0 p2) pos) (tD Γ E (M.eval F (.sl a e m))):=by
 refine PE.imp (WL jaq q (xJ z) (xJ t)) λU H Q o=> ?_
 obtain⟨G,Y,h,s,p⟩:=o
 refine Ja s.heap Ext.refl s p λT v1 h1 G1 O B r f v f1 y=> ?_
 refine Ja s.heap B f y λw2 v2 R P W J d g D Z p2=> ?_
 obtain⟨i,K,p2⟩:=p2.of
 refine⟨i,D.int K,?_⟩
 refine Ja s.heap J g p2 λw3 L V G3 S w b A I N c=> ?_
 obtain⟨j,n,c⟩:=c.of
 exact⟨j,I.int n,C.K▸qbY s.heap w A.heap ((v.ext d f.heap).ext b g.heap) c⟩
def jbZ (r:Go Γ F X E k cf){c:M.E}(f:PE X x (tD Γ E (M.eval F a))) (o:PE X l (tD Γ E (M.eval F c))):PE X (.Subscript x (.Slice (y0 l) u0 u0 p2) pos) (tD Γ E (M.eval F (.slL a c))):=by
 refine PE.imp (WL jaq f (xJ o) jaI) λU H Q e=> ?_
 obtain⟨G,Y,h,s,p⟩:=e
 refine Ja s.heap Ext.refl s p λA D J L w q g d j I m=> ?_
 refine Ja s.heap q d m λN K z y B u b n t C p2=> ?_
 obtain⟨i,v,p2⟩:=p2.of
 exact⟨i,t.int v,r.K▸qbY s.heap u n.heap (j.ext b d.heap) p2⟩
def jbC (o:Go Γ F X E k cf)(e:PE X x (tD Γ E (M.eval F a))) (g:PE X u (tD Γ E (M.eval F hi))):PE X (.Subscript x (.Slice u0 (y0 u) u0 p2) pos) (tD Γ E (M.eval F (.slH a hi))):=by
 refine PE.imp (WL jaq e jaI (xJ g)) λU H Q d=> ?_
 obtain⟨G,Y,h,s,p⟩:=d
 refine Ja s.heap Ext.refl s p λz C I K v n f c j D l=> ?_
 refine Ja s.heap n c l λL J y w A r b m q B p2=> ?_
 obtain⟨i,t,p2⟩:=p2.of
 exact⟨i,q.int t,o.K▸qbY s.heap r m.heap (j.ext b c.heap) p2⟩
def zbi {st:Expr}(h:qcJ st=k9): ∃k p q,st= .UnaryOp .USub (.Constant (.int 1) k p) q:=by
 unfold qcJ at h
 split at h
 ·exact⟨_,_,_,rfl⟩
 ·cases h
def zbZ (o:Go Γ F X E k cf){st:Expr}(d:qcJ st=k9) (i:PE X x (tD Γ E (M.eval F a))):PE X (.Subscript x (.Slice u0 u0 (y0 st) p2) pos) (tD Γ E (M.eval F (.rev a))):=by
 obtain⟨C,A,J,rfl⟩:=zbi d
 refine PE.imp (jbf i (qbO qbv zbo)) λU H Q g=> ?_
 obtain⟨G,Y,h,s,p⟩:=g
 refine Ja s.heap Ext.refl s p λw z D I v r j e m B c=> ?_
 obtain⟨y,q,c⟩:=c.of
 obtain⟨l,n,rfl,f,t⟩:=m.lst e.heap q
 exact⟨1,rfl,rfl,l,n,rfl,o.K▸f,λu b=>PostW.own (PostW.mk c r s.heap) e.heap t.reverse u b⟩
def Gh.cell (G:Gh) (a:Addr):Gh:= { G with rho:=λr=>if r=G.n then a else G.rho r,n:=G.n+1 }
def w5 (a):Mon G H (G.cell a) H:=⟨λ_ _ _ z=>z,Ah4 _,λr b=>by show(if r=G.n then a else G.rho r)=_;rw [if_neg (by omega)],λ_ z=>z⟩
def q3 {a:Addr}{c:M.Cell}(d:HRel Γ G h H) (m: ¬G.fz a) (l:jdB G a) (z:CellRel Γ G H a c):HRel Γ (G.cell a) (h++ [c]) H where
 len:=by rw [Ab1,d.len];rfl
 any:=λr i q=>by
  show ¬G.fz (if r=G.n then a else G.rho r)/\CellRel Γ (G.cell a) H (if r=G.n then a else G.rho r) i
  by_cases hn:r=G.n
  ·rw [if_pos hn]
   rw [hn,←d.len,Af7 (Aa5 _),Nat.sub_self]at q
   cases q
   exact⟨m,z.mon (w5 a) λ_ e=>e⟩
  ·rw [if_neg hn]
   have g:r<G.n:=by
    have:=(Ac1.mp q).1
    rw [Ab1,d.len]at this
    simp at this
    omega
   rw [Ag0 (by rw [d.len];exact g)]at q
   exact⟨(d.any r i q).1,(d.any r i q).2.mon (w5 a) λ_ e=>e⟩
 inj:=λr s k j e=>by
  have k:r<G.n+1:=k
  have j:s<G.n+1:=j
  have e:(if r=G.n then a else G.rho r)=(if s=G.n then a else G.rho s):=e
  by_cases f:r=G.n
  ·by_cases b:s=G.n
   ·omega
   ·rw [if_pos f,if_neg b]at e
    exact absurd e.symm (l s (by omega))
  ·by_cases b:s=G.n
   ·rw [if_neg f,if_pos b]at e
    exact absurd e (l r (by omega))
   ·rw [if_neg f,if_neg b]at e
    exact d.inj r s (by omega) (by omega) e
 live:=d.live
def zO {a:Addr}(d:HRel Γ G h H) (c: ¬G.fz a) (f:jdB G a) (e:H a=y0 (.lst vs)) (z:RelDs Γ G H xs vs) (b:M.Gd xs=k9):HRel Γ (G.cell a) (h++ [.lst xs]) H:=q3 d c f ⟨b,vs,e,z⟩
def zK {a:Addr}(e:Ext G0 H0 G H) (f:H0 a=u0):Ext G0 H0 (G.cell a) H where
 keep:=e.keep
 le:=Ac0 e.le (Ah4 _)
 rho:=λr d=>by show(if r=G.n then a else G.rho r)=_;rw [if_neg (by have:=e.le;omega)];exact e.rho r d
 new:=λr c b=>by
  have b:r<G.n+1:=b
  show H0 (if r=G.n then a else G.rho r)=u0
  by_cases hn:r=G.n
  ·rw [if_pos hn];exact f
  ·rw [if_neg hn];exact e.new r c (by omega)
 fz:=e.fz
 old:=e.old
 cells:=e.cells
def xab:PE X (.Dict [] [] pos) (tD Γ E (M.eval F .dnewI)):=by
 refine PE.imp qa0 λU H Q d=> ?_
 obtain⟨G,Y,h,s,p⟩:=d
 intro a b
 have p:=p
 have e:Ext G H G (zdL H a (dI [])):=QB _ b
 have c:=s.heap.new (dI []) b
 refine Post.val p (zK e b) (q3 c (λz=>by obtain⟨o,q⟩:=s.heap.live a z;rw [b]at q;cases q) (s.heap.offN b) xb) ?_ trivial
 show h.length<G.n+1/\V.ref a= .ref (if h.length=G.n then a else G.rho h.length)
 rw [s.heap.len,if_pos rfl]
 exact⟨Ag7 _,rfl⟩
def QX (e:M.Pe h o=y0 (r,ks)):o=y0 (.v (.ref r))/\h[r]? =y0 (.dii ks):=by
 unfold M.Pe at e
 split at e
 ·split at e
  ·rename_i q
   cases e
   exact⟨rfl,q⟩
  ·cases e
 ·cases e
def Qq (s:StRel Γ G Y h U H)(e:M.Pe h (M.Gj Y i)=y0 (r,ks)):U[i]? =y0 (y0 (.ref (G.rho r)))/\H (G.rho r)=y0 (dI ks):=by
 obtain⟨f,d⟩:=QX e
 obtain⟨v,c,a⟩:=s.slot i _ f
 obtain⟨g,b⟩:=(a)
 subst b
 exact⟨c,(s.heap.any r _ d).2⟩
noncomputable def xde (neg:Bool):R2:=λx y H Q=> ∃k a ks,x= .int k/\y= .ref a/\H a=y0 (dI ks)/\Q (.bl (if neg then !ks.contains k else ks.contains k)) H
def zbt (neg):xdH X (compareOp (jdT neg)) (xde neg):=by
 intro c i U H x y v u Q I d g ⟨k,a,j,ex,h,e,q⟩
 subst ex h
 cases g
 cases neg with
 | false=>exact qcX I e d λf b=>⟨.bl _,H,b,rfl,q⟩
 | true=>exact qaS I e d λf b=>⟨.bl _,H,b,rfl,q⟩
noncomputable def zcY:V->V->V->Hp->(Hp->Prop)->Prop:=λo i v H Q=> ∃k a ks,i= .int k/\o= .ref a/\v= .bl k9/\H a=y0 (dI ks)/\ks.length<sizeLine/\Q (zdL H a (dI (M.KY ks k)))
def qaY:zcZ X zcY:=by
 intro b n U H o i v r s u Q I e c rv ⟨k,a,p,j,l,h,d,f,q⟩
 subst j l h
 cases e
 cases rv
 exact zcB I d c f λm g=>⟨_,g,q⟩
def xau (n:PE X x (tD Γ E (M.eval F a))):PE X x (tD Γ E (M.eval F (.share a))):=by
 refine PE.imp n λU H Q m=> ?_
 obtain⟨G,Y,h,s,p⟩:=m
 refine Ja s.heap Ext.refl s p λr D c g B w o i t y b=> ?_
 cases r with
 | own e=>
  obtain⟨l,I,rfl,j,z,k,A⟩:=t
  obtain⟨C,q,u⟩:=y
  cases q
  have b:Post Γ E G H (if M.Gd e=k9 then M.okv (.ref c.length) (c++ [.lst e])else .fail) _:=b
  by_cases f:M.Gd e=k9
  rotate_left
  ·rw [if_neg f]at b;exact b.elim
  rw [if_pos f]at b
  refine Post.val b (zK w u) (zO i.heap j z k A f) ?_ trivial
  show c.length<g.n+1/\V.ref l= .ref (if c.length=g.n then l else g.rho c.length)
  rw [i.heap.len,if_pos rfl]
  exact⟨Ag7 _,rfl⟩
 | v d=>exact b.elim
 | bor e=>exact b.elim
end
structure Wn (Γ:Ge) (J:It) (ds:List M.D) (C:Gh->Hp->Prop):Prop where
 go: ∀i G H,C G H->i<ds.length->J.go i H
 yld: ∀i G H x H',C G H->i<ds.length->J.yld i H x H'-> ∃G',Ext G H G' H'/\(∀ h,HRel Γ G h H->HRel Γ G' h H')/\ ∃d,ds[i]? =y0 d/\RelD Γ G' H' d x
 stop: ∀i G H,C G H->ds.length<=i->i<=ds.length->J.stop i H
 keep: ∀G H G' H' h,C G H->Ext G H G' H'->HRel Γ G h H->C G' H'
noncomputable def jh (Y:M.Sl) (U:St) (H:Hp):Hp:=λa=>open Classical in if ∃(i:Nat) (xs:List M.D),M.Gj Y i=y0 (.own xs)/\U[i]? =y0 (y0 (.ref a))then u0 else H a
noncomputable def jdJ (a:Ge) (E:XK) (b:Bool) (m:M.Sl->M.AH->M.R (List M.D)):TI:=λU H R=> ∃G Y h,StRel a G Y h U H/\Post a E G H (m Y h) λds _ G' H'=> ∀J C,Wn a J ds C->C G' H'->(b=k9->C G' (jh Y U H'))->R J H'
def PI.imp (h:PI X tg e t) (k: ∀U H R,t' U H R->t U H R):PI X tg e t':=λa s U H R I q=>h a s U H R I (k _ _ _ q)
section
variable {Γ:Ge}{F:M.Fx}{X:Cx}{E:XK}{k:Nat}{cf:Cf}{a b c:M.E}{x y z tg:Expr}{pos p2:Pos}{lp:Bool}
def LOk (b:Ge) (G:Gh) (H:Hp) (l:Addr) (a:List V):Prop:=(Rd H l (.lst a)/\jdB G l)\/xc1 b l a
def CL (a:Ge) (c:List M.D) (l:Addr) (b:List V) (G:Gh) (H:Hp):Prop:=LOk a G H l b/\RelDs a G H c b
def LOk.sq (z:LOk Γ G H l vs):SqL Γ.K H l vs:=z.elim (λz=> .inl z.1) .inr
def StL.lok (z:StL Γ G H l vs) (a:HRel Γ G h H):LOk Γ G H l vs:=z.elim (λz=> .inl ⟨z.2,a.off z.1⟩) .inr
def CL.keep (z:CL Γ ds l vs G H) (e:Ext G H G' H') (d:HRel Γ G h H):CL Γ ds l vs G' H':=by
 obtain⟨a,c⟩:=z
 refine⟨?_,c.ext e d⟩
 rcases a with⟨a,b⟩ | a
 ·refine .inl ⟨e.rd a b,?_⟩
  rcases a with a | ⟨o,a⟩
  ·exact e.off a b
  ·exact e.off a b
 ·exact .inr a
def CL.walk {K:Aa6}(d:K=Γ.K):Wn Γ (jdN K l) ds (CL Γ ds l vs) where
 go:=by
  rintro i G H ⟨b,c⟩ a
  obtain⟨v,e,_⟩:=c.get (Aa4 a)
  exact⟨vs,v,d▸b.sq,e⟩
 yld:=by
  rintro i G H x g ⟨b,c⟩ a ⟨e,y⟩
  subst e
  obtain⟨v,e,rd⟩:=c.get (Aa4 a)
  have:=y vs (d▸b.sq)
  rw [e]at this
  cases this
  exact⟨G,Ext.refl,λ_ q=>q,_,Aa4 a,rd⟩
 stop:=λi G H ⟨b,c⟩ a _=>⟨vs,d▸b.sq,by rw [← c.length];exact a⟩
 keep:=λG H j g h z e f=>z.keep e f
def CT (a:Ge) (c:List M.D) (l:Addr) (b:List V) (G:Gh) (H:Hp):Prop:=StT a G H l b/\RelDs a G H c b
def StT.mon (z:StT Γ G H l vs) (e:Mon G H G' H'):StT Γ G' H' l vs:=z.elim (λz=> .inl ⟨e.fz l z.1,e.keep l _ z.1 z.2⟩) λz=> .inr z
def CT.walk {K:Aa6}(d:K=Γ.K):Wn Γ (xdt K l) ds (CT Γ ds l vs) where
 go:=by
  rintro i G H ⟨b,c⟩ a
  obtain⟨v,e,_⟩:=c.get (Aa4 a)
  exact⟨vs,v,d▸b.sq,e⟩
 yld:=by
  rintro i G H x g ⟨b,c⟩ a ⟨e,y⟩
  subst e
  obtain⟨v,e,rd⟩:=c.get (Aa4 a)
  have:=y vs (d▸b.sq)
  rw [e]at this
  cases this
  exact⟨G,Ext.refl,λ_ q=>q,_,Aa4 a,rd⟩
 stop:=λi G H ⟨b,c⟩ a _=>⟨vs,d▸b.sq,by rw [← c.length];exact a⟩
 keep:=λG H j g h z e f=>⟨z.1.mon (e.mon f),z.2.ext e f⟩
def CL.walkR {K:Aa6}(d:K=Γ.K):Wn Γ (zds K l vs.length) ds.reverse (CL Γ ds l vs) where
 go:=λi G H ⟨c,b⟩ a=>⟨vs,d▸c.sq,rfl,by rw [← b.length];simpa using a⟩
 yld:=by
  rintro i G H x j ⟨c,b⟩ a ⟨e,y⟩
  subst e
  obtain⟨v,e,rd⟩:=b.reverse.get (Aa4 a)
  have:=y vs (d▸c.sq)
  have k:i<vs.length:=by rw [← b.length];simpa using a
  rw [List.getElem?_reverse k,this]at e
  cases e
  exact⟨G,Ext.refl,λ_ q=>q,_,Aa4 a,rd⟩
 stop:=by
  rintro i G H ⟨c,b⟩ a f
  have m:=b.length
  rw [List.length_reverse]at a f
  show i=vs.length
  omega
 keep:=λG H n j h z e g=>z.keep e g
def jE {b:Int}:Wn Γ (xdD b n) ((Aa0 n).map λ(i:Nat)=>M.D.int (b+(i:Int))) (λ_ _=>True) where
 go:=λi G H _ a=>show i<n by simpa using a
 yld:=λi G H x d _ a c=>by
  obtain⟨e,y⟩:=c
  subst e y
  have a:=by simpa using a
  exact⟨G,Ext.refl,λ_ q=>q,.int (b+i),by simp [a],rfl⟩
 stop:=λi G H _ a _=>show n<=i by simpa using a
 keep:=λ_ _ _ _ _ _ _ _=>trivial
def zD {z:M.Tx}:Wn Γ (qdu (zdH z)) (M.chs z) (λ_ _=>True) where
 go:=λi G H _ a=>by
  have a:=by simpa [M.chs]using a
  exact⟨z[i],by simp [zdH,a]⟩
 yld:=λi G H x g _ a d=>by
  obtain⟨e,c,b,f⟩:=d
  subst e f
  have a:=by simpa [M.chs]using a
  have b:=by simpa [zdH]using b
  exact⟨G,Ext.refl,λ_ q=>q,.str [c],by simp [M.chs,b],rfl⟩
 stop:=λi G H _ a _=>by
  have a:=by simpa [M.chs]using a
  show(zdH z).cps[i]? =u0
  simp [zdH,a]
 keep:=λ_ _ _ _ _ _ _ _=>trivial
def Zj (a: ¬ ∃ i xs,M.Gj Y i=y0 (.own xs)/\U[i]? =y0 (y0 (.ref l))):jh Y U H l=H l:=by
 unfold jh
 rw [if_neg a]
def qp (s:StRel Γ G Y h U H)(e:M.Gj Y i=y0 (.own xs)) (j:U[i]? =y0 (y0 (.ref l))): ¬G.fz l/\jdB G l/\ ∃b,H l=y0 (.lst b)/\RelDs Γ G H xs b:=by
 obtain⟨v,c,a,b,f,k,g,m,d⟩:=s.slot i _ e
 rw [j]at c
 cases c
 cases f
 exact⟨k,g,b,m,d⟩
def zu (s:StRel Γ G Y h U H):Mon G H G (jh Y U H):=by
 refine⟨λa o z e=> ?_,Aa5 _,λ_ _=>rfl,λ_ z=>z⟩
 rw [Zj λ⟨i,d,b,c⟩=>(qp s b c).1 z]
 exact e
def xbh (t:Go Γ F X E k cf) (I:PE X x (tD Γ E (M.eval F a))):PI X tg x (jdJ Γ E y9 (M.Gk F (.seq a))):=by
 refine PI.imp (qas I) λU H R D=> ?_
 obtain⟨G,Y,h,s,p⟩:=D
 refine Ja s.heap Ext.refl s p λL o N q e y K r n O c=> ?_
 have lst: ∀ {f},Post Γ E G H (.ok f N) (λf x B u=> ∀J C,Wn Γ J f C->C B u->(y9=k9->C B (jh Y U u))->R J u)->(∃ l b,o= .ref l/\LOk Γ q e l b/\RelDs Γ q e f b) →
  (∃ a,o= .ref a/\(∃ w,SqL X.K e a w)/\R (jdN X.K a) e)\/(∃ a,o= .ref a/\(∃ w,qdV X.K e a w)/\R (xdt X.K a) e)\/ ∃z,o= .str z/\R (qdu z) e:=λ{f} p ⟨l,b,i,g,m⟩=>
  .inl ⟨l,i,⟨b,t.K▸g.sq⟩,p q e y r.heap _ _ (CL.walk t.K) ⟨g,m⟩ λz=>absurd z Ab8⟩
 cases L with
 | v d=>
  cases d with
  | tup f=>
   obtain⟨l,b,rfl,g,j⟩:=n
   exact .inr (.inl ⟨l,rfl,⟨b,t.K▸g.sq⟩,c q e y r.heap _ _ (CT.walk t.K) ⟨g,j⟩ λz=>absurd z Ab8⟩)
  | lst f=>obtain⟨l,b,i,g,j⟩:=n;exact lst c ⟨l,b,i,g.lok r.heap,j⟩
  | non=>exact c.elim
  | bl _=>exact c.elim
  | int _=>exact c.elim
  | str z=>
   cases (show o= .str (zdH z)from n)
   exact .inr (.inr ⟨_,rfl,c q e y r.heap _ _ zD trivial λz=>absurd z Ab8⟩)
  | ref _=>exact c.elim
  | exc _ _=>exact c.elim
  | err _ _ _=>exact c.elim
 | own f=>obtain⟨l,b,i,_,j,m,A⟩:=n;exact lst c ⟨l,b,i,.inl ⟨.inl m,j⟩,A⟩
 | bor f=>obtain⟨l,b,i,j,m,A⟩:=n;exact lst c ⟨l,b,i,.inl ⟨m,j⟩,A⟩
def qa8 (n:Int):((Aa0 n.toNat).map λ(i:Nat)=>M.D.int (i:Int))=(Aa0 n.toNat).map λ(i:Nat)=>M.D.int (0+(i:Int)):=by
 congr 1;funext i;rw [Int.zero_add]
def zac: "range" ∈bltN:=by decide
def WC (d:Go Γ F X E k cf)(v:qdq cf.sc "range" g=true) (e:Qa x=true) (m:PE X x (tD Γ E (M.eval F a))):PI X tg (.Call g [x] [] pos) (jdJ Γ E lp (M.Gk F (.range1 a))):=by
 obtain⟨p,rfl,j,y⟩:=wb v
 refine PI.imp (zaN (d.gl _ j) (d.blt _ zac) (Xb m zg (ja e)) (ja e)) λU H R i=> ?_
 obtain⟨G,Y,h,s,p⟩:=i
 refine Ja s.heap Ext.refl s p λw z B u f t o l r A b=> ?_
 obtain⟨n,q,b⟩:=b.of
 split at b
 ·rename_i c
  rw [M.K3]at c
  cases r.int q
  rw [qa8]at b
  exact⟨n,rfl,c.1,c.2,b u f t l.heap _ _ jE trivial λ_=>trivial⟩
 ·exact b.elim
def jB (j:Go Γ F X E k cf)(L:qdq cf.sc "range" g=true) (l:Qa x=true) (e:Qa y=true) (u:PE X x (tD Γ E (M.eval F a))) (z:PE X y (tD Γ E (M.eval F b))):PI X tg (.Call g [x,y] [] pos) (jdJ Γ E lp (M.Gk F (.range2 a b))):=by
 obtain⟨p,rfl,i,P⟩:=wb L
 refine PI.imp (jay (j.gl _ i) (j.blt _ zac) (Xb u (Xb z zg (ja e)) (ja l)) (by rw [ja l,ja e];rfl) (ja e)) λU H R r=> ?_
 obtain⟨G,Y,h,s,p⟩:=r
 refine Ja s.heap Ext.refl s p λO S V Z N D v t A T f=> ?_
 obtain⟨n,q,f⟩:=f.of
 refine Ja s.heap D t f λw2 W i o w K I B J Q d=> ?_
 obtain⟨m,C,d⟩:=d.of
 split at d
 ·rename_i c
  rw [M.K3]at c
  cases A.int q
  cases J.int C
  exact⟨n,m,rfl,⟨c.1.1,c.1.2,c.2.1,c.2.2⟩,d o w K B.heap _ _ jE trivial λ_=>trivial⟩
 ·exact d.elim
def xbN: "reversed" ∈bltN:=by decide
def ja9 (o:Go Γ F X E k cf)(S:qdq cf.sc "reversed" g=true) (B:Qa x=true) (L:PE X x (tD Γ E (M.eval F a))):PI X tg (.Call g [x] [] pos) (jdJ Γ E false (M.Gk F (.rev a))):=by
 obtain⟨p,rfl,K,T⟩:=wb S
 refine PI.imp (qaF (o.gl _ K) (o.blt _ xbN) (Xb L zg (ja B)) (ja B)) λU H R I=> ?_
 obtain⟨G,Y,h,s,p⟩:=I
 refine Ja s.heap Ext.refl s p λO A Q t i P N w r V b=> ?_
 have lst: ∀ {e},Post Γ E G H (.ok e.reverse Q) (λe x D q=> ∀J C,Wn Γ J e C->C D q->(y9=k9->C D (jh Y U q))->R J q)->(∃ l c,A= .ref l/\LOk Γ t i l c/\RelDs Γ t i e c) →
  ∃a y,[A]= [.ref a]/\SqL X.K i a y/\R (zds X.K a y.length) i:=λ{e} p ⟨l,c,f,n,j⟩=>
  ⟨l,c,by rw [f],o.K▸n.sq,p t i P w.heap _ _ (CL.walkR o.K) ⟨n,j⟩ λz=>absurd z Ab8⟩
 cases O with
 | v d=>
  cases d with
  | lst e=>obtain⟨l,c,f,n,m⟩:=r;exact lst b ⟨l,c,f,n.lok w.heap,m⟩
  | tup _=>exact b.elim
  | non=>exact b.elim
  | bl _=>exact b.elim
  | int _=>exact b.elim
  | str _=>exact b.elim
  | ref _=>exact b.elim
  | exc _ _=>exact b.elim
  | err _ _ _=>exact b.elim
 | own e=>obtain⟨l,c,f,_,m,j,u⟩:=r;exact lst b ⟨l,c,f,.inl ⟨.inl j,m⟩,u⟩
 | bor e=>obtain⟨l,c,f,m,j,u⟩:=r;exact lst b ⟨l,c,f,.inl ⟨j,m⟩,u⟩
end
section
variable {Γ:Ge}{F:M.Fx}{X:Cx}{E:XK}{k:Nat}{cf:Cf}
theorem Zd: ∀(Y) (i j) (w),M.Gj (M.GB Y i w) j=if j=i/\i<Y.length then y0 w else M.Gj Y j
 | [],i,j,w=>by simp
 | x::r,0,0,w=>by simp
 | x::r,0,j+1,w=>by simp
 | x::r,i+1,0,w=>by simp
 | x::r,i+1,j+1,w=>by
  have:=Zd r i j w
  simp only [M.GB,M.Gj,this,Ab9]
  by_cases h:j=i/\i<r.length
  ·rw [if_pos h,if_pos (by omega)]
  ·rw [if_neg h,if_neg (by omega)]
theorem Xi: ∀(Y) (i) (w),(M.GB Y i w).length=Y.length
 | [],_,_=>rfl
 | _::_,0,_=>rfl
 | _::r,i+1,w=>by simp [Xi r i w]
theorem jn: ∀ {Y}{i}{w},M.Gj Y i=y0 w->i<Y.length
 | [],_,_,e=>by simp at e
 | _::_,0,_,_=>by simp
 | _::r,i+1,w,e=>by
  have:=jn (by simpa using e)
  simp;omega
theorem StRel.set (s:StRel Γ G Y h U H)(r:RelW Γ G H w v)
 (o:xdR w=k9-> ∀ j f,j≠i->M.Gj Y j=y0 f->xdR f=k9-> ∀a,v= .ref a->U[j]? ≠y0 (y0 (.ref a))):StRel Γ G (M.GB Y i w) h (U.set i (y0 v)) H where
 len:=by rw [Xi,Ae3];exact s.len
 slot:=λj f e=>by
  rw [Zd]at e
  by_cases c:j=i/\i<Y.length
  ·rw [if_pos c]at e
   cases e
   obtain⟨rfl,c⟩:=c
   exact⟨v,Ad6 (by rw [← s.len];exact c),r⟩
  ·rw [if_neg c]at e
   have B:=λz=>c ⟨z,by subst z;exact jn e⟩
   obtain⟨y,x,u⟩:=s.slot j f e
   exact⟨y,by rw [Ad5 (Ne.symm B)];exact x,u⟩
 apart:=λp q A f a b g d n m=>by
  rw [Zd]at g d
  by_cases l:p=i/\i<Y.length
  ·rw [if_pos l]at g
   cases g
   obtain⟨rfl,l⟩:=l
   rw [if_neg (λz=>b z.1.symm)]at d
   rw [Ad6 (by rw [← s.len];exact l)]at m
   cases m
   rw [Ad5 b]
   exact o rfl q f (Ne.symm b) d n a rfl
  ·rw [if_neg l]at g
   have t:=λz=>l ⟨z,by subst z;exact jn g⟩
   rw [Ad5 (Ne.symm t)]at m
   by_cases k:q=i/\i<Y.length
   ·rw [if_pos k]at d
    cases d
    obtain⟨rfl,k⟩:=k
    rw [Ad6 (by rw [← s.len];exact k)]
    intro z
    cases z
    exact o n p _ t g rfl a rfl m
   ·rw [if_neg k]at d
    have C:=λz=>k ⟨z,by subst z;exact jn d⟩
    rw [Ad5 (Ne.symm C)]
    exact s.apart p q A f a b g d n m
 heap:=s.heap
def StRel.setD (s:StRel Γ G Y h U H)(r:RelD Γ G H d v):StRel Γ G (M.GB Y i (.v d)) h (U.set i (y0 v)) H:=s.set r λz=>by cases z
def zba:List Nat->List V->St->St
 | i::is,v::a,U=>zba is a (U.set i (y0 v))
 | _,_,U=>U
theorem xF : ∀ {is}{ds}{a}{Y b}{U},M.setTup is ds Y=y0 b->RelDs Γ G H ds a->StRel Γ G Y h U H->StRel Γ G b h (zba is a U) H/\is.length=a.length
 | [],[],_,_,_,_,e,rfl,s=>by cases e;exact⟨s,rfl⟩
 | [],_::_,_,_,_,_,e,_,_=>by simp [M.setTup]at e
 | _::_,[],_,_,_,_,e,_,_=>by simp [M.setTup]at e
 | i::is,d::ds,_,_,_,_,e,⟨v,r,rfl,f,c⟩,s=>by
  obtain⟨j,g⟩:=xF (by simpa [M.setTup]using e) c (s.setD f)
  exact⟨j,congrArg (· +1) g⟩
noncomputable def gM (d:Ge) (c:List Nat) (one:Bool):TG:=λv U H Q=>match one with
 | true=> ∃i,c= [i]/\Q (U.set i (y0 v)) H
 | false=> ∃G ds b a,v= .ref a/\StT d G H a b/\RelDs d G H ds b/\c.length=b.length/\Q (zba c b U) H
theorem JP (c:Go Γ F X E k cf): ∀ {is}{es},Xn cf is es=k9->zdV X es (λb U H Q=>b.length=is.length/\Q (zba is b U) H)
 | [],[],_=>λa s U H b f Q I r h=>by
  have d:=Ah5 h.1
  subst d
  exact jbI a s U H [] f Q I r ⟨rfl,h.2⟩
 | [],_::_,h=>by simp [Xn]at h
 | _::_,[],h=>by simp [Xn]at h
 | i::is,e::es,h=>by
  cases e with
  | Name x p=>
   simp only [Xn,Aa7,decide_eq_true_eq]at h
   obtain⟨⟨n,j⟩,l⟩:=h
   have m:=JP c l
   have d:=c.sto x j
   have g:=zbg (zaJ (pos:=p) (by rw [c.N];exact c.nd) (by rw [c.N];exact n) d.1 d.2) m
   intro a s U H b f Q I r q
   refine g a s U H b f Q I r ?_
   cases b with
   | nil=>simp at q
   | cons v b=>
    refine⟨v,b,rfl,?_⟩
    exact⟨by simpa using q.1,q.2⟩
  | _=>simp [Xn]at h
theorem jae : ∀ {is}{es},Xn cf is es=k9->(assignEach es env).length=is.length/\(assignEach es env).findIdx? (·.1)=u0
 | [],[],_=>⟨rfl,rfl⟩
 | [],_::_,h=>by simp [Xn]at h
 | _::_,[],h=>by simp [Xn]at h
 | i::is,e::es,h=>by
  cases e with
  | Name x p=>
   simp only [Xn,Aa7]at h
   obtain⟨b,a⟩:=jae h.2
   have c:assignEach (.Name x p::es) env=(y9,assign (.Name x p) env)::assignEach es env:=rfl
   rw [c]
   refine⟨congrArg (· +1) b,?_⟩
   rw [List.findIdx?_cons]
   simp [a]
  | _=>simp [Xn]at h
def Qo (c:Go Γ F X E k cf)(h:je cf tg one e=k9):PG X e (gM Γ tg one):=by
 cases one with
 | true=>
  cases e with
  | Name x p=>
   simp only [je,Aa7]at h
   cases tg with
   | nil=>simp at h
   | cons i r=>
    cases r with
    | cons _ _=>simp at h
    | nil=>
     simp only [Xn,Aa7,decide_eq_true_eq]at h
     obtain⟨_,⟨w,m⟩,_⟩:=h
     have g:=c.sto x m
     have d:=zaJ (pos:=p) (by rw [c.N];exact c.nd) (by rw [c.N];exact w) g.1 g.2
     intro b s U H v u Q I r q
     obtain⟨j,e,q⟩:=q
     cases e
     exact d b s U H v u Q I r q
  | _=>simp [je]at h
 | false=>
  cases e with
  | Tuple A n p=>
   have h:=h
   obtain⟨hn,f⟩:=jae h
   have d:=qcl (k:=n) (pos:=p) c.calm (JP c h) hn f
   intro b s U H v u Q I r q
   obtain⟨G,z,t,a,rfl,o,y,l,q⟩:=q
   exact d b s U H _ u Q I r ⟨a,t,rfl,c.K▸o.sq,l.symm,l.symm,q⟩
  | _=>simp [je]at h
def jl (k) (l): ∀ i,M.Gj (Ab k u0++l) (k+i)=M.Gj l i:=by
 induction k with
 | zero=>intro i;simp
 | succ k a=>intro i;rw [Ac7,show k+1+i=(k+i)+1 by omega];exact a i
def Xr (k) (l): ∀ {i},i<k->M.Gj (Ab k u0++l) i=none:=by
 induction k with
 | zero=>intro i h;omega
 | succ k a=>
  intro i h
  cases i with
  | zero=>rfl
  | succ i=>rw [Ac7];exact a (by omega)
theorem Jy: ∀(l) (i),M.Gj l i=(l[i]?).join
 | [],_=>by simp
 | _::_,0=>by simp
 | _::r,i+1=>by simpa using Jy r i
def zF (s:StRel Γ G Y h U H)(e:M.Gg Y j=y0 w): ∃v,U[j]? =y0 (y0 v)/\RelW Γ G H w v/\(xdR w=k9-> ∃b,M.Gj Y j=y0 b/\xdR b=k9)/\zaY w=true:=by
 unfold M.Gg at e
 cases q:M.Gj Y j with
 | none=>rw [q]at e;cases e
 | some b=>
  obtain⟨v,f,c⟩:=s.slot j b q
  rw [q]at e
  cases b with
  | v d=>cases e;exact⟨v,f,c,λz=>(by cases z),rfl⟩
  | own m=>cases e;obtain⟨a,n,l,o,k,g,i⟩:=c;exact⟨v,f,⟨a,n,l,k,.inl g,i⟩,λ_=>⟨_,rfl,rfl⟩,rfl⟩
  | bor m=>cases e;exact⟨v,f,c,λ_=>⟨_,rfl,rfl⟩,rfl⟩
def xbd (k:Nat) (cap:List Nat) (Y:M.Sl):M.Sl:=Ab k u0++cap.map λj=>M.Gg Y j
def jbP (s:StRel Γ G Y h U H) (kk) (cap)(d:Ub.length=kk+cap.length) (f: ∀i,i<cap.length->Ub[kk+i]? =y0 ((U[cap.getD i 0]?).join)):
 StRel Γ G (xbd kk cap Y) h Ub H where
 len:=by unfold xbd;rw [Ab1,Ae8,Aa,d]
 slot:=λi w e=>by
  unfold xbd at e
  by_cases g:i<kk
  ·rw [Xr kk _ g]at e;cases e
  ·obtain⟨j,rfl⟩: ∃j,i=kk+j:=⟨i-kk,by omega⟩
   rw [jl,Jy,Ad]at e
   cases q:cap[j]? with
   | none=>rw [q]at e;cases e
   | some c=>
    rw [q]at e
    have e:=e
    obtain⟨v,m,k,_⟩:=zF s e
    have o:=(Ac1.mp q).1
    refine⟨v,?_,k⟩
    rw [f j o,Ab7,q]
    show y0 ((U[c]?).join)=_
    rw [m]
    rfl
 apart:=λi j p w a n b u t r=>by
  exfalso
  unfold xbd at b
  by_cases g:i<kk
  ·rw [Xr kk _ g]at b;cases b
  ·obtain⟨l,rfl⟩: ∃j,i=kk+j:=⟨i-kk,by omega⟩
   rw [jl,Jy,Ad]at b
   cases q:cap[l]? with
   | none=>rw [q]at b;cases b
   | some c=>
    rw [q]at b
    have b:=b
    obtain⟨_,_,_,_,z⟩:=zF s b
    cases z
 heap:=s.heap
end
theorem Jd {env:Env}{d:NameKind}(g:d≠ .free): ∀ {a:List (Str×NameKind)}{x},a.lookup x=y0 d →
 (a.map λ(n,k)=>if(k==NameKind.free&&env.scope.kind== .function&&env.kindOf n==y0 .cell)then(n,NameKind.cell)else(n,k)).lookup x=y0 d
 | [],_,h=>by simp at h
 | (n,k)::r,x,h=>by
  have j:= @Jd env d g r x
  rw [Aa9]
  rw [Ad2]at h
  cases c:x==n with
  | true=>
   rw [c]at h
   have e:=by simpa using h
   subst e
   have i:(k==NameKind.free)=false:=by simpa using g
   simp only [i,Al8,Af4,if_false,Ad2,c]
  | false=>
   rw [c]at h
   have q:=j h
   by_cases b:(k==NameKind.free&&env.scope.kind== .function&&env.kindOf n==y0 .cell)=k9
   ·simp only [b,if_true,Ad2,c]
    exact q
   ·have f:=Aj6.mpr b
    simp only [f,Af4,if_false,Ad2,c]
    exact q
section
variable {Γ:Ge}{F:M.Fx}{X:Cx}{E:XK}{k:Nat}{cf:Cf}
structure zb7 (cf:Cf) (scope:Scope) (N:List Str) (k:Nat) (cap:List Nat):Prop where
 kind:scope.kind= .function
 ndn:(scope.names.map Prod.fst).Nodup
 names: ∀y∈scope.names,y.2= .local->scope.names.lookup y.1=y0 .local
 free: ∀y∈scope.names,y.2= .free->cf.sc.names.lookup y.1=y0 .cell\/cf.sc.names.lookup y.1=y0 .free
 capf: ∀x∈N.drop k,scope.names.lookup x=y0 .free
 cap:XB cf cap (N.drop k)=k9
 le:k<=N.length
 nd:N.Nodup
def JA (h:qW cf scope N kk cap=k9):zb7 cf scope N kk cap:=by
 simp only [qW,Aa7,decide_eq_true_eq,Ad3]at h
 obtain⟨⟨⟨⟨⟨⟨⟨⟨f,e⟩,j⟩,k⟩,g⟩,c⟩,d⟩,b⟩,l⟩:=h
 exact⟨f,e,λy a=>j y a,λy a=>k y a,λx i=>g x i,c,d,b⟩
theorem zR (a:Go Γ F X E k cf): ∀ {cap}{xs},XB cf cap xs=k9->CapOk X cap xs
 | [],[],_=>trivial
 | [],_::_,h=>by simp [XB]at h
 | _::_,[],h=>by simp [XB]at h
 | j::e,x::xs,h=>by
  simp only [XB,Aa7,decide_eq_true_eq]at h
  obtain⟨⟨c,b⟩,d⟩:=h
  exact⟨by rw [a.N];exact c,a.cel x b,zR a d⟩
def xP (a:Go Γ F X E k cf)(h:zb7 cf scope N kk cap):JO X scope N kk cap:=
 ⟨h.kind,h.ndn,h.names,λy c b=>a.cel y.1 (h.free y c b),h.capf,zR a h.cap,h.le⟩
def JY (h:WV sc x=k9):sc.names.lookup x=y0 .local\/sc.names.lookup x=y0 .cell\/sc.names.lookup x=y0 .free:=by
 unfold WV at h
 split at h
 ·rename_i q;exact .inl q
 ·rename_i q;exact .inr (.inl q)
 ·rename_i q;exact .inr (.inr q)
 ·cases h
def WY (h:xbQ sc x=k9):sc.names.lookup x=y0 .local\/sc.names.lookup x=y0 .cell:=by
 unfold xbQ at h
 split at h
 ·rename_i q;exact .inl q
 ·rename_i q;exact .inr q
 ·cases h
def wL (h:zdY sc x=k9):sc.names.lookup x=y0 .globalImplicit:=by
 unfold zdY at h
 split at h
 ·rename_i q;exact q
 ·cases h
def jw (a:Go Γ F X E k cf)(h:zb7 cf scope N kk cap) (C:Addr) (p:List Addr) (s:Shared) (H:Hp):Go Γ F (Jc X N scope C p s H) E0 k { cf with sc:=scope,N:=N } where
 N:=rfl
 K:=a.K
 cl:=a.cl
 ow:=a.ow
 nd:=h.nd
 vis:=λx b=>by
  rcases JY b with q | q | q
  ·exact .inl (Jd (by decide) q)
  ·exact .inr (.inl (Jd (by decide) q))
  ·exact .inr (Xh q)
 lcl:=λx b=>Jd (by decide) b
 sto:=λx b=>by
  rcases WY b with q | q
  ·exact⟨.inl (Jd (by decide) q),.inr (Jd (by decide) q)⟩
  ·exact⟨.inr (Jd (by decide) q),.inl (decide_eq_true q)⟩
 cel:=λx b=>by
  rcases b with q | q
  ·exact .inl (Jd (by decide) q)
  ·exact Xh q
 gl:=λx b=>Jd (by decide) (wL b)
 calm:=a.calm
 room:=a.room
 room1:=a.room1
 pass:=λc U z y e m _ u=>by
  obtain⟨x,w,t,B,A,_,_,_,_,_,_,_,_,_,_,g⟩:=u
  exact g.elim
 blt:=a.blt
 con:=a.con
 fn:=λf o=>by
  obtain⟨d,v,n,r,i,j,l⟩:=(a.fn f o).imp λd h=>h.ex
  exact⟨d,⟨v,n,r,i,j,l⟩⟩
 cls:=a.cls
 fld:=a.fld
 mth:=a.mth
 mks:=a.mks
theorem XY: ∀(is) (a) (U) (j),j∉is->(zba is a U)[j]? =U[j]?
 | [],_,_,_,_=>rfl
 | _::_,[],_,_,_=>rfl
 | i::is,v::a,U,j,h=>by
  show(zba is a (U.set i (y0 v)))[j]? =U[j]?
  rw [XY is a _ j λz=>h (Aa2 _ z),Ad5 (λz:i=j=>h (by rw [z];exact Aa3))]
theorem WA: ∀(is) (a) (U),(zba is a U).length=U.length
 | [],_,_=>rfl
 | _::_,[],_=>rfl
 | i::is,v::a,U=>by
  show(zba is a (U.set i (y0 v))).length=U.length
  rw [WA is a,Ae3]
def bind_ok (e:M.Gp tg one d Y=y0 Y') (r:RelD Γ G H d x) (s:StRel Γ G Y h U H)
 (g: ∀b,StRel Γ G Y' h b H->(∀ j,j∉tg->b[j]? =U[j]?)->b.length=U.length->Q b H):gM Γ tg one x U H Q:=by
 cases one with
 | true=>
  cases tg with
  | nil=>cases e
  | cons i n=>
   cases n with
   | cons _ _=>cases e
   | nil=>
    cases e
    exact⟨i,rfl,g _ (s.setD r) (λj c=>Ad5 λz=>c (by simp [z])) (Ae3 ..)⟩
 | false=>
  cases d with
  | tup o=>
   obtain⟨a,f,rfl,m,k⟩:=r
   obtain⟨l,p⟩:=xF (e) k s
   exact⟨G,o,f,a,rfl,m,k,p,g _ l (λj c=>XY tg f U j c) (WA tg f U)⟩
  | _=>cases e
def QO {step:M.D->M.AH->M.R (Option M.D)}: ∀ {ds}{h}{d}{h'},M.Gv step ds h≠ .exc d h'
 | [],_,_,_=>λe=>by cases e
 | x::ds,h,d,h'=>λe=>by
  rw [M.Gv]at e
  split at e
  ·split at e<;>cases e
  ·cases e
def wT {step:M.D->M.AH->M.R (Option M.D)}(e:M.Gv step (x::ds) h= .ok ys hf): ∃o h1 r,step x h= .ok o h1/\M.Gv step ds h1= .ok r hf/\ys=(match o with | some y=>y::r | none=>r):=by
 rw [M.Gv]at e
 split at e
 ·rename_i o h1 b
  split at e
  ·rename_i r c a
   cases e
   exact⟨o,h1,r,b,a,rfl⟩
  ·cases e
 ·cases e
noncomputable def zaB (F:M.Fx) (g:List Nat) (one:Bool) (f:M.Sl) (a:Bool) (c elt:M.E):M.D->M.AH->M.R (Option M.D):=λd h=>match M.Gp g one d f with
 | none=> .fail
 | some e=>(if a then(M.eval F c e h).bind λx h=>M.R.of h (M.KS h x)else .ok k9 h).bind λb h=>match b with
  | true=>(M.eval F elt e h).bind λy h=>(M.R.of h y.d).bind λy h=> .ok (y0 y) h
  | false=> .ok u0 h
def qac :M.eval F (.comp tg one kk cap it y7 c elt) Y h=(M.Gk F it Y h).bind λds h=>
 if ds.length<=M.LIM then(M.Gv (zaB F tg one (xbd kk cap Y) y7 c elt) ds h).bind λys h=> .ok (.own ys) h else .fail:=by
 rw [M.eval];rfl
noncomputable def X9 (F:M.Fx) (a:Bool) (c:M.E):M.Sl->M.AH->M.R Bool:=λY h=>if a then M.Gr F c Y h else .ok k9 h
def jd {r:M.R α}(e:r.bind f= .ok b h): ∃a h1,r= .ok a h1/\f a h1= .ok b h:=by
 cases r with
 | ok a h1=>exact⟨a,h1,rfl,e⟩
 | exc d h1=>cases e
 | fail=>cases e
def QV (a:Ze iter=k9): ∀v,foldedSetIterable iter env v=pure v:=λv=>by cases iter<;>first | rfl | (simp [Ze]at a)
def qaA (htk: ∀i∈tg,i<kk)(h0:tD Γ E (M.eval F (.comp tg one kk cap it y7 c elt)) U H Q):
 jaZ kk cap (jdJ Γ E y9 (M.Gk F it)) (λ_ _ _ _=>gM Γ tg one) (λ_ _ _ _=>qdS Γ E0 (X9 F y7 c)) (λ_ _ _ _=>tD Γ E0 (M.eval F elt)) U H Q:=by
 obtain⟨G,Y,h,s,p⟩:=h0
 rw [qac]at p
 refine⟨G,Y,h,s,?_⟩
 cases qi:M.Gk F it Y h with
 | exc d n=>rw [qi]at p;exact p
 | fail=>rw [qi]at p;exact p
 | ok f h1=>
  rw [qi]at p
  intro G1 H1 e1 t J C N c0 _ Ca fp st
  have p:Post Γ E G H (if f.length<=M.LIM then(M.Gv (zaB F tg one (xbd kk cap Y) y7 c elt) f h1).bind λW h=> .ok (.own W) h else .fail) λw n q l=> ∀v,RelW Γ q l w v->FreshW Y U H w v->Q v l:=p
  by_cases hL:f.length<=M.LIM
  rotate_left
  ·rw [if_neg hL]at p;exact p.elim
  rw [if_pos hL]at p
  cases qc:M.Gv (zaB F tg one (xbd kk cap Y) y7 c elt) f h1 with
  | exc d n=>exact absurd qc QO
  | fail=>rw [qc]at p;exact p.elim
  | ok W hf=>
   rw [qc]at p
   have p:=p
   have hLs:=Wj
   refine⟨λi m yv Ub l=> ∃q n done rest,(m=f.length-i/\i<=f.length/\done.length<=i)/\Ext G1 H1 q l/\HRel Γ q n l/\C q l/\RelDs Γ q l done yv ∧
    M.Gv (zaB F tg one (xbd kk cap Y) y7 c elt) (f.drop i) n= .ok rest hf/\W=done++rest/\Ub.length=kk+cap.length/\ ∀j,j<cap.length->Ub[kk+j]? =y0 ((U[cap.getD j 0]?).join),⟨f.length,?_⟩,?_⟩
   ·refine⟨G1,h1,[],W,⟨by simp,Ah3 _,Aa5 _⟩,Ext.refl,t,c0,rfl,qc,rfl,?_,λj hj=> ?_⟩
    ·unfold zae;rw [Ab1,Ae8,Aa]
    ·unfold zae
     rw [Af7 (by simp),Ae8,Nat.add_sub_cancel_left,Ad,Aa4 hj,Ab7,Aa4 hj]
     rfl
   ·rintro i m yv Ub l ⟨q,n,done,rest,⟨rfl,hi',hd⟩,L,e,K,rd,X,y,k,A⟩
    have ldone:=rd.length
    by_cases u:i<f.length
    ·refine .inr ⟨N.go i q l K u,by omega,_,λyv' Ub' V w=>⟨f.length-(i+1),by omega,w⟩,λx V hy=> ?_⟩
     obtain⟨G4,x4,hx4,d,ed,rdx⟩:=N.yld i q l x V K u hy
     have K:=N.keep _ _ _ _ n K x4 e
     have rd:=rd.ext x4 e
     have L:=L.trans t x4
     have e:=hx4 _ e
     have edr:f.drop i=d::f.drop (i+1):=by
      rw [Al7 u]
      rw [Aa4 u]at ed
      cases ed
      rfl
     rw [edr]at X
     obtain⟨o,h2,r,O,P,er⟩:=wT X
     unfold zaB at O
     cases qb:M.Gp tg one d (xbd kk cap Y)with
     | none=>rw [qb]at O;cases O
     | some Y'=>
      rw [qb]at O
      have so:=s.ext (e1.trans s.heap L) e
      have sb:=jbP so kk cap k A
      refine bind_ok qb rdx sb λU2 s2 same T=> ?_
      have g: ∀j,j<cap.length->U2[kk+j]? =y0 ((U[cap.getD j 0]?).join):=λj hj=>by
       rw [same _ λz=>by have:=htk _ z;omega];exact A j hj
      obtain⟨b,h3,I,a⟩:=jd (show (X9 F y7 c Y' n).bind _=_ from O)
      refine⟨G4,Y',n,s2,?_⟩
      rw [I]
      intro G3 H3 S R
      have s3:=s2.ext S R
      cases b with
      | false=>
       refine jcO ?_
       have a:=a
       cases a
       exact⟨G3,_,done,r,⟨rfl,by omega,by omega⟩,L.trans t S,R,N.keep _ _ _ _ n K S e,rd.ext S e,P,by rw [y,er],by rw [T];exact k,g⟩
      | true=>
       refine zcS ?_
       obtain⟨w,h4,qe,a⟩:=jd (a)
       refine⟨G3,Y',h3,s3,?_⟩
       rw [qe]
       intro G4 H4 e4 hr4 v rw' fw
       obtain⟨dd,h5,Z,a⟩:=jd (a)
       cases qw:w.d with
       | none=>rw [qw]at Z;cases Z
       | some d'=>
        rw [qw]at Z
        cases Z
        cases (a)
        have s4:=s3.ext e4 hr4
        obtain⟨G5,e5,s5,rdv,m5⟩:=qdt e4 s4 s3 rw' fw qw
        have B:=S.trans e e5
        refine⟨G5,_,done++ [dd],r,⟨rfl,by omega,by rw [Ab1,Ag2];omega⟩,L.trans t B,s5.heap,N.keep _ _ _ _ n K B e,(rd.ext B e).append ⟨v,[],rfl,rdv,rfl⟩,P,?_,by rw [T];exact k,g⟩
        rw [y,er]
        simp
    ·have ei:i=f.length:=by omega
     subst ei
     rw [List.drop_length]at X
     cases (X)
     rw [Ae7]at y
     subst y
     exact .inl ⟨N.stop _ q l K (Aa5 _) (Aa5 _),by omega,λD hD=>PostW.own (PostW.mk p (e1.trans s.heap L) s.heap) e rd D hD⟩
def jaY (f:Go Γ F X E k cf)(a:zb7 cf scope N kk cap)
 (h:cap.length=(N.drop kk).length) (e:je { cf with sc:=scope,N:=N } tg one t=k9) (d: ∀i∈tg,i<kk) (b:Ze iter=k9)
 (g:PI X t iter (jdJ Γ E y9 (M.Gk F it)))
 (m: ∀C fp s H,PE (Jc X N scope C fp s H) y (tD Γ E0 (M.eval F elt)))
 (j: ∀C fp s H,qdw (Jc X N scope C fp s H) ifs (qdS Γ E0 (X9 F y7 c))):
 PE X (.ListComp y [⟨t,iter,ifs,0⟩] scope pos) (tD Γ E (M.eval F (.comp tg one kk cap it y7 c elt))):=
 PE.imp (zbC (xP f a) g (λC fp s H=>Qo (jw f a C fp s H) e) j m f.calm (QV b)) λU H Q l=>qaA d l
def jV (a:Go Γ F X E k cf)(p:cf.N[i]? =y0 x) (u:xbQ cf.sc x=k9)(f:swapsWith (.ListComp y [⟨t,iter,ifs,0⟩] scope p0) (y0 (.Name x pos2)) pos.line X.env=pure k9) (d:zb7 cf scope N kk cap)
 (o:cap.length=(N.drop kk).length) (h:je { cf with sc:=scope,N:=N } tg one t=k9) (g: ∀i∈tg,i<kk) (e:Ze iter=k9)
 (r:PI X t iter (jdJ Γ E y9 (M.Gk F it)))
 (n: ∀C fp s H,PE (Jc X N scope C fp s H) y (tD Γ E0 (M.eval F elt)))
 (m: ∀C fp s H,qdw (Jc X N scope C fp s H) ifs (qdS Γ E0 (X9 F y7 c))):
 PS X (.Assign [.Name x pos2] (.ListComp y [⟨t,iter,ifs,0⟩] scope p0) pos) (xbt (tD Γ E (M.eval F (.comp tg one kk cap it y7 c elt))) (jQ i)):=by
 have l:=a.sto x u
 have j:=X7 (by rw [a.N];exact a.nd) (by rw [a.N];exact p) l.1 (xP a d) r (λC fp s H=>Qo (jw a d C fp s H) h) m n f a.calm (QV e) l.2
 exact λb s U H D I q=>j b s U H D I (qaA g q)
def Xu (e:M.cellD h o=y0 (r,xs)):o=y0 (.v (.ref r))/\h[r]? =y0 (.lst xs):=by
 unfold M.cellD at e
 split at e
 ·split at e
  ·rename_i q
   cases e
   exact⟨rfl,q⟩
  ·cases e
 ·cases e
def ju (s:StRel Γ G Y h U H)(e:M.cellD h (M.Gj Y i)=y0 (r,xs)):U[i]? =y0 (y0 (.ref (G.rho r)))/\ ∃a,H (G.rho r)=y0 (.lst a)/\RelDs Γ G H xs a:=by
 obtain⟨j,g⟩:=Xu e
 obtain⟨v,f,c⟩:=s.slot i _ j
 obtain⟨k,d⟩:=(c)
 subst d
 obtain⟨_,a,b,rv⟩:=s.heap.cell r xs g
 exact⟨f,a,b,rv⟩
def xI (b:Go Γ F X E k cf)(h1:cf.N[i]? =y0 x) (h2:WV cf.sc x=k9) (a:jdu x=k9):PE X (.Name x p) (xcI i):=by
 unfold jdu at a
 rw [Aa7]at a
 exact zl (by rw [b.N];exact h1) (b.vis x h2) (by simpa using a.1) (by simpa using a.2)
def qbh (o:Go Γ F X E k cf)(h1:cf.N[i]? =y0 y) (h2:WV cf.sc y=k9) (m:jdu y=k9) (j:PE X x (tD Γ E (M.eval F a))):PE X (.Compare x [jdT neg] [.Name y b] pos) (tD Γ E (M.eval F (.dinI neg a i))):=by
 refine PE.imp (ZS (zbt neg) j (xI o h1 h2 m) (Zi rfl)) λU H Q f=> ?_
 obtain⟨G,Y,h,s,p⟩:=f
 refine Ja s.heap Ext.refl s p λv w h1 t u q l c n z b=> ?_
 unfold M.dinI at b
 split at b
 ·rename_i e r g d
  cases n
  exact⟨_,(Qq c d).1,e,_,g,rfl,rfl,(Qq c d).2,b t _ q c.heap (.bl _) rfl trivial⟩
 ·exact b.elim
def qaM (o:Go Γ F X E k cf)(h1:cf.N[i]? =y0 y) (h2:WV cf.sc y=k9) (m:jdu y=k9) (j:PE X x (tD Γ E (M.eval F a))):PT X (.Compare x [jdT neg] [.Name y b] pos) (qdS Γ E (M.Gr F (.dinI neg a i))):=by
 refine PT.imp (xV (zbt neg) j (xI o h1 h2 m) (Zi rfl)) λU H Q f=> ?_
 obtain⟨G,Y,h,s,p⟩:=f
 unfold M.Gr at p
 rw [M.eval,We]at p
 refine Ja s.heap Ext.refl s p λv w h1 t u q l c n z b=> ?_
 unfold M.dinI at b
 split at b
 ·rename_i e r g d
  cases n
  exact⟨_,(Qq c d).1,e,_,g,rfl,rfl,(Qq c d).2,_,rfl,b t _ q c.heap⟩
 ·exact b.elim
def zcp (a:Go Γ F X E k cf)(h1:cf.N[i]? =y0 x) (h2:WV cf.sc x=k9) (j:jdu x=k9):PE X (.Attribute (.Name x p1) (qf f) pos) (tD Γ E (M.eval F (.xf i f))):=by
 refine PE.imp (jcL (xI a h1 h2 j) rfl) λU H Q e=> ?_
 obtain⟨G,Y,h,s,p⟩:=e
 rw [M.eval]at p
 split at p
 ·rename_i c g d q
  split at p
  ·rename_i t
   subst t
   obtain⟨v,o,l,m,u,rfl,y,A,b,w,z,r,n⟩:=s.slot i _ q
   exact⟨_,o,l,Γ.ca c,m,u,rfl,b,w,a.K▸r,Post.val p Ext.refl s.heap n trivial⟩
  ·exact p.elim
 ·exact p.elim
end
def PW.of_bool (h:PT X (.BoolOp op vs pos) t):PW X (.BoolOp op vs pos) t:=λb a s U H Q I q=>by
 have:=h a s U H Q I q
 exact this
theorem Zv : ∀ {es}{xs}{Y}{h}{ds}{h'},chkEs cf es xs=k9->M.Gm F es Y h= .ok ds h'->ds.length=xs.length
 | .nil,xs,_,_,_,_,c,e=>by
  cases Af6.mp c
  rw [M.Gm]at e;cases e;rfl
 | .cons a es,xs,Y,h,ds,h',c,e=>by
  refine kC (λx r c=> ?_) xs c
  obtain⟨w,j,i,e⟩:=jd e
  obtain⟨d,f,k,e⟩:=jd e
  obtain⟨r,g,b,e⟩:=jd e
  cases e
  rw [Ab9,Ab9,Zv (a2 c).2 b]
theorem Xe : ∀ {es}{xs},chkEs cf es xs=k9-> ∀e∈xs,Qa e=k9
 | .nil,xs,c=>by
  cases Af6.mp c
  intro e b;cases b
 | .cons a es,xs,c=>by
  refine kC (λx r c=> ?_) xs c
  intro e b
  rcases Ab4.mp b with rfl | b
  ·exact(a3 c).1
  ·exact Xe (a2 c).2 e b
theorem zC : ∀ {cap}{xs},XB cf cap xs=k9->cap.length=xs.length
 | [],[],_=>rfl
 | [],_::_,h=>by simp [XB]at h
 | _::_,[],h=>by simp [XB]at h
 | j::a,x::xs,h=>by
  simp only [XB,Aa7]at h
  exact congrArg (· +1) (zC h.2)
def xH (h:Xj e f=k9):Ze e=true:=by
 refine zi (λg x l p h=> ?_) e h
 rfl
def wQ {cf:Cf}{it:M.It}{e:Expr}(h:chkIt cf it e=k9):Ze e=true:=by
 cases it with
 | seq a=>exact(a2 h).1
 | range1 a=>exact xH h
 | range2 a b=>exact xH h
 | rev a=>exact xH h
 | zip a b=>exact xdF h
 | enum a=>exact xdF h
section
variable {Γ:Ge}{F:M.Fx}{k:Nat}
def bo (c:Go Γ F X E k cf) (r:PE X x (tD Γ E (M.eval F m))) (b: ∀a,isTrue x X.env a=(do let v ←a;standAt x.pos;holding [v] (truthy v))):PE X x (tD Γ E (M.eval F m))/\(qdK m=k9->PT X x (qdS Γ E (M.Gr F m))):=⟨r,λ_=>zbf c r b⟩
mutual
theorem zc: ∀(m:M.E){X:Cx}{E:XK}{cf:Cf}{e:Expr},Go Γ F X E k cf->jc cf m e=k9->PE X e (tD Γ E (M.eval F m))/\(qdK m=k9->PT X e (qdS Γ E (M.Gr F m)))
 | .var i,X,E,cf,e,go,h=>by
  refine xr (λx p h=> ?_) e h
  obtain⟨h1,h2,h3⟩:=xbz h
  exact bo go (qbC go h1 h2 h3) λ_=>rfl
 | .con c,X,E,cf,e,go,h=>by
  have r:=xb0 go h
  obtain⟨p,rfl,_,_⟩:=wb h
  exact bo go r λ_=>rfl
 | .int i,X,E,cf,e,go,h=>by
  refine WQ (λx n p h=> ?_) e h
  cases of_decide_eq_true h;exact bo go xbC λ_=>rfl
 | .bl i,X,E,cf,e,go,h=>by
  refine WQ (λx n p h=> ?_) e h
  cases of_decide_eq_true h;exact bo go jck λ_=>rfl
 | .non,X,E,cf,e,go,h=>by
  refine WQ (λx n p h=> ?_) e h
  cases of_decide_eq_true h;exact bo go zbK λ_=>rfl
 | .str i,X,E,cf,e,go,h=>by
  refine WQ (λx n p h=> ?_) e h
  cases of_decide_eq_true h;exact bo go xbH λ_=>rfl
 | .tup es,X,E,cf,e,go,h=>by
  refine qcI (λx n p h=> ?_) e h
  obtain⟨h1,h2⟩:=a2 h
  exact bo go (qbQ (of_decide_eq_true h1) (λY hh ds h' q=>Zv h2 q) (sndA es go h2)) λ_=>rfl
 | .lst es,X,E,cf,e,go,h=>by
  refine qdh (λx p h=> ?_) e h
  obtain⟨h1,h2⟩:=a2 h
  exact bo go (qb2 (of_decide_eq_true h1) (λY hh ds h' q=>Zv h2 q) (sndA es go h2)) λ_=>rfl
 | .bin o a b,X,E,cf,e,go,h=>by
  refine xda (λx o y p h=> ?_) e h
  obtain⟨h0,ho,h1,h2⟩:=a4 h
  cases of_decide_eq_true h0
  exact bo go (xb6 go ho (zc a go h1).1 (zc b go h2).1) λ_=>rfl
 | .cmp o a b,X,E,cf,e,go,h=>by
  refine xcC (λx o y p h=> ?_) e h
  refine kC (λy r h=> ?_) y h
  obtain⟨h0,ho,hs,h1,h2⟩:=a5 h
  obtain⟨rfl,rfl⟩:=of_decide_eq_true h0
  exact⟨xbO go ho hs (zc a go h1).1 (zc b go h2).1,λ_=>xa7 go ho hs (zc a go h1).1 (zc b go h2).1⟩
 | .chain o q a b c,X,E,cf,e,go,h=>by
  refine xcC (λx o y p h=> ?_) e h
  refine kC (λy r h=> ?_) y h
  refine kC (λz r h=> ?_) r h
  obtain⟨h0,ho,hq,hs,h1,h2,h3⟩:=a7 h
  obtain⟨rfl,rfl⟩:=of_decide_eq_true h0
  exact⟨xaJ go ho hq hs (zc a go h1).1 (zc b go h2).1 (zc c go h3).1,λ_=>Z7 go ho hq hs (zc a go h1).1 (zc b go h2).1 (zc c go h3).1⟩
 | .isn neg a,X,E,cf,e,go,h=>by
  refine xcC (λx o y p h=> ?_) e h
  refine kC (λy r h=> ?_) y h
  refine WQ (λj n p h=> ?_) y h
  obtain⟨h0,h1,h2⟩:=a3 h
  obtain⟨rfl,rfl⟩:=of_decide_eq_true h0
  cases of_decide_eq_true h1
  exact⟨zb4 (zc a go h2).1,λ_=>jbb (zc a go h2).1⟩
 | .neg a,X,E,cf,e,go,h=>by
  refine jdM (λo x p h=> ?_) e h
  cases of_decide_eq_true (a2 h).1
  exact bo go (jbU (zc a go (a2 h).2).1) λ_=>rfl
 | .inv a,X,E,cf,e,go,h=>by
  refine jdM (λo x p h=> ?_) e h
  cases of_decide_eq_true (a2 h).1
  exact bo go (jb6 (zc a go (a2 h).2).1) λ_=>rfl
 | .not a,X,E,cf,e,go,h=>by
  refine jdM (λo x p h=> ?_) e h
  cases of_decide_eq_true (a2 h).1
  exact⟨zbW go (zc a go (a2 h).2).1,λt=>za8 ((zc a go (a2 h).2).2 t)⟩
 | .and a b,X,E,cf,e,go,h=>by
  refine zct (λo x p h=> ?_) e h
  refine kC (λx r h=> ?_) x h
  refine kC (λy r h=> ?_) r h
  obtain⟨h0,h1,h2⟩:=a3 h
  cases of_decide_eq_true h0
  cases r with
  | nil=>exact⟨xam go (zc a go h1).1 (zbm (zc b go h2).1),λt=>(Z2 ((zc a go h1).2 (a2 t).1) (zb0 ((zc b go h2).2 (a2 t).2))).pt⟩
  | cons z r=>exact⟨xam go (zc a go h1).1 (zc b go h2).1,λt=>(Z2 ((zc a go h1).2 (a2 t).1) (PW.of_bool ((zc b go h2).2 (a2 t).2))).pt⟩
 | .or a b,X,E,cf,e,go,h=>by
  refine zct (λo x p h=> ?_) e h
  refine kC (λx r h=> ?_) x h
  refine kC (λy r h=> ?_) r h
  obtain⟨h0,h1,h2⟩:=a3 h
  cases of_decide_eq_true h0
  cases r with
  | nil=>exact⟨xbj go (zc a go h1).1 (zbm (zc b go h2).1),λt=>(zaK ((zc a go h1).2 (a2 t).1) (jch ((zc b go h2).2 (a2 t).2))).pt⟩
  | cons z r=>exact⟨xbj go (zc a go h1).1 (zc b go h2).1,λt=>(zaK ((zc a go h1).2 (a2 t).1) (PW.of_bool ((zc b go h2).2 (a2 t).2))).pt⟩
 | .call f es,X,E,cf,e,go,h=>by
  refine zi (λg x l p h=> ?_) e h
  refine kE (λh=> ?_) l h
  obtain⟨h1,h2,h3⟩:=a3 h
  cases x with
  | nil=>
   cases es with
   | cons _ _=>exact xdF h3
   | nil=>
    have r:=qaj (pos:=p) go h1 h2
    obtain⟨p,rfl,_,_⟩:=wb h1
    exact bo go r λ_=>rfl
  | cons x r=>
   have r:=za5 (pos:=p) go h1 h2 (Xe h3) (sndWs es go h3)
   obtain⟨p,rfl,_,_⟩:=wb h1
   exact bo go r λ_=>rfl
 | .bi b es,X,E,cf,e,go,h=>by
  refine zi (λg x l p h=> ?_) e h
  refine kE (λh=> ?_) l h
  refine kC (λx r h=> ?_) x h
  obtain⟨h1,h2,h3⟩:=a3 h
  have r:=zcC (pos:=p) go h2 h1 (Xe h3) (sndWs es go h3)
  obtain⟨p,rfl,_,_⟩:=wb h1
  exact bo go r λ_=>rfl
 | .isT a t,X,E,cf,e,go,h=>by
  refine zi (λg x l p h=> ?_) e h
  refine kE (λh=> ?_) l h
  refine kC (λx r h=> ?_) x h
  refine kC (λy r h=> ?_) r h
  refine kE (λh=> ?_) r h
  obtain⟨h1,h2,h3,h4,h5⟩:=a5 h
  have r:=qb0 (pos:=p) go (of_decide_eq_true h3) h1 h2 h4 (zc a go h5).1
  obtain⟨p,rfl,_,_⟩:=wb h1
  exact bo go r λ_=>rfl
 | .isX a one ts,X,E,cf,e,go,h=>by
  refine zi (λg x l p h=> ?_) e h
  refine kE (λh=> ?_) l h
  refine kC (λx r h=> ?_) x h
  refine kC (λy r h=> ?_) r h
  refine kE (λh=> ?_) r h
  obtain⟨h1,h2,h3,h4⟩:=a4 h
  have fin:PE X (.Call g [x,y] [] p) (tD Γ E (M.eval F (.isX a one ts))):=by
   cases one with
   | true=>
    refine kC (λt r h=> ?_) ts h4
    refine kE (λh=> ?_) r h
    obtain⟨h5,h6⟩:=a2 h
    simp only [Am8,decide_eq_true_eq]at h6
    exact jbg go h6 h1 h5 h2 (zc a go h3).1
   | false=>
    refine qcI (λzs n p h=> ?_) y h4
    exact qbd go (of_decide_eq_true (a2 h).1) h1 (a2 h).2 h2 (zc a go h3).1
  obtain⟨p,rfl,_,_⟩:=wb h1
  exact bo go fin λ_=>rfl
 | .ix a b,X,E,cf,e,go,h=>by
  refine xbJ (λx y p h=> ?_) e h
  obtain⟨h1,h2,h3⟩:=a3 h
  exact bo go (jcv go h1 (zc a go h2).1 (zc b go h3).1) λ_=>rfl
 | .sl a lo hi,X,E,cf,e,go,h=>by
  refine xbJ (λx y p h=> ?_) e h
  refine qdU (λl u z p2 h=> ?_) y h
  refine kS (λl h=> ?_) l h
  refine kS (λu h=> ?_) u h
  obtain⟨h0,h1,h2,h3⟩:=a4 h
  cases nn h0
  exact bo go (qcj go (zc a go h1).1 (zc lo go h2).1 (zc hi go h3).1) λ_=>rfl
 | .slL a lo,X,E,cf,e,go,h=>by
  refine xbJ (λx y p h=> ?_) e h
  refine qdU (λl u z p2 h=> ?_) y h
  refine kS (λl h=> ?_) l h
  obtain⟨h0,h1,h2,h3⟩:=a4 h
  cases nn h0;cases nn h1
  exact bo go (jbZ go (zc a go h2).1 (zc lo go h3).1) λ_=>rfl
 | .slH a hi,X,E,cf,e,go,h=>by
  refine xbJ (λx y p h=> ?_) e h
  refine qdU (λl u z p2 h=> ?_) y h
  refine kS (λu h=> ?_) u h
  obtain⟨h0,h1,h2,h3⟩:=a4 h
  cases nn h0;cases nn h1
  exact bo go (jbC go (zc a go h2).1 (zc hi go h3).1) λ_=>rfl
 | .rev a,X,E,cf,e,go,h=>by
  refine xbJ (λx y p h=> ?_) e h
  refine qdU (λl u z p2 h=> ?_) y h
  refine kS (λz h=> ?_) z h
  obtain⟨h0,h1,h2,h3⟩:=a4 h
  cases nn h0;cases nn h1
  exact bo go (zbZ go h2 (zc a go h3).1) λ_=>rfl
 | .comp tg one kk cap it y7 c elt,X,E,cf,e,go,h=>by
  refine zcb (λy g s p h=> ?_) e h
  refine kC (λg r h=> ?_) g h
  obtain⟨t,iter,ifs,z⟩:=g
  obtain⟨h0,h1,h2,h3,h4,h5,h6⟩:=a7 h
  obtain⟨rfl,rfl⟩:=of_decide_eq_true h0
  simp only [Ad3,decide_eq_true_eq]at h2
  have sc:=JA h1
  have ht: ∀C fp w H,qdw (Jc X (qs cf t cap) s C fp w H) ifs (qdS Γ E0 (X9 F y7 c)):=λC fp w H=>by
   have gc:=jw go sc C fp w H
   cases y7 with
   | true=>
    refine kC (λz r h=> ?_) ifs h6
    refine kE (λh=> ?_) r h
    exact qag ((zc c gc (a2 h).2).2 (a2 h).1)
   | false=>
    cases Af6.mp h6
    intro k8 s1 U H1 Q I ⟨G,Y,h,st,p⟩
    exact zaQ k8 s1 U H1 Q I (p G H1 Ext.refl st.heap)
  exact bo go (jaY go sc (zC sc.cap) h3 h2 (wQ h4) (sndI it go h4) (λC fp s H=>(zc elt (jw go sc C fp s H) h5).1) ht) λ_=>rfl
 | .dnewI,X,E,cf,e,go,h=>by
  refine zcT (λx y p h=> ?_) e h
  cases Af6.mp (a2 h).1
  cases Af6.mp (a2 h).2
  exact bo go xab λ_=>rfl
 | .dinI neg a i,X,E,cf,e,go,h=>by
  refine xcC (λx o y p h=> ?_) e h
  refine kC (λy r h=> ?_) y h
  refine xr (λy p1 h=> ?_) y h
  obtain⟨h0,h1,h4⟩:=a3 h
  obtain⟨rfl,rfl⟩:=of_decide_eq_true h0
  obtain⟨h1,h2,h3⟩:=xbz h1
  exact⟨qbh go h1 h2 h3 (zc a go h4).1,λ_=>qaM go h1 h2 h3 (zc a go h4).1⟩
 | .share a,X,E,cf,e,go,h=>⟨xau (zc a go h).1,λt=>xdF t⟩
 | .lenset a,X,E,cf,e,go,h=>by
  refine zi (λg x l p h=> ?_) e h
  refine kE (λh=> ?_) l h
  refine kC (λx r h=> ?_) x h
  refine kE (λh=> ?_) r h
  refine zi (λg2 x l p2 h=> ?_) x h
  refine kE (λh=> ?_) l h
  refine kC (λx r h=> ?_) x h
  refine kE (λh=> ?_) r h
  obtain⟨h1,h2,h3,h4⟩:=a4 h
  exact bo go (Q8 go h1 h2 h3 (zc a go h4).1) λ_=>rfl
 | .ltL a b,X,E,cf,e,go,h=>by
  refine xcC (λx o y p h=> ?_) e h
  refine kC (λy r h=> ?_) y h
  obtain⟨h0,hs,h1,h2⟩:=a4 h
  obtain⟨rfl,rfl⟩:=of_decide_eq_true h0
  exact⟨xbM go hs (zc a go h1).1 (zc b go h2).1,λ_=>qbg go hs (zc a go h1).1 (zc b go h2).1⟩
 | .xf i f,X,E,cf,e,go,h=>by
  refine zbd (λx n q h=> ?_) e h
  refine xr (λx p h=> ?_) x h
  obtain⟨h,h0⟩:=a2 h
  obtain⟨h1,h2,h3⟩:=xbz h
  cases of_decide_eq_true h0
  exact bo go (zcp go h1 h2 h3) λ_=>rfl
 | .meth m a es,X,E,cf,e,go,h=>by
  refine zi (λg x l p h=> ?_) e h
  refine kE (λh=> ?_) l h
  refine kC (λx r h=> ?_) x h
  refine kE (λh=> ?_) r h
  refine zbd (λo n q h=> ?_) g h
  obtain⟨h1,h2,h3,h4,h5,h6⟩:=a6 h
  cases of_decide_eq_true h1
  exact bo go (zaW go h2 h3 h4 (Xe h6 _ Aa3) (zc a go h5).1 (sndWs es go h6)) λ_=>rfl
theorem sndA: ∀(es:M.Es){X:Cx}{E:XK}{cf:Cf}{xs:List Expr},Go Γ F X E k cf->chkEs cf es xs=k9->PA X xs (xd0 Γ E (M.Gm F es))
 | .nil,X,E,cf,xs,go,h=>by
  cases Af6.mp h
  exact qa5
 | .cons a es,X,E,cf,xs,go,h=>by
  refine kC (λx r h=> ?_) xs h
  obtain⟨h1,h2,h3⟩:=a3 h
  exact xai h1 (zc a go h2).1 (sndA es go h3)
theorem sndWs: ∀(es:M.Es){X:Cx}{E:XK}{cf:Cf}{xs:List Expr},Go Γ F X E k cf->chkEs cf es xs=k9->PA X xs (zdJ Γ E (M.Gf F es))
 | .nil,X,E,cf,xs,go,h=>by
  cases Af6.mp h
  exact ja7
 | .cons a es,X,E,cf,xs,go,h=>by
  refine kC (λx r h=> ?_) xs h
  obtain⟨h1,h2,h3⟩:=a3 h
  exact qaK h1 (zc a go h2).1 (sndWs es go h3)
theorem sndI: ∀(it:M.It){X:Cx}{E:XK}{cf:Cf}{tg e:Expr},Go Γ F X E k cf->chkIt cf it e=k9->PI X tg e (jdJ Γ E y9 (M.Gk F it))
 | .seq a,X,E,cf,tg,e,go,h=>xbh go (zc a go (a2 h).2).1
 | .range1 a,X,E,cf,tg,e,go,h=>by
  refine zi (λg x l p h=> ?_) e h
  refine kE (λh=> ?_) l h
  refine kC (λx r h=> ?_) x h
  refine kE (λh=> ?_) r h
  obtain⟨h1,h2,h3⟩:=a3 h
  exact WC go h1 h2 (zc a go h3).1
 | .range2 a b,X,E,cf,tg,e,go,h=>by
  refine zi (λg x l p h=> ?_) e h
  refine kE (λh=> ?_) l h
  refine kC (λx r h=> ?_) x h
  refine kC (λy r h=> ?_) r h
  refine kE (λh=> ?_) r h
  obtain⟨h1,h2,h3,h4,h5⟩:=a5 h
  exact jB go h1 h2 h3 (zc a go h4).1 (zc b go h5).1
 | .rev a,X,E,cf,tg,e,go,h=>by
  refine zi (λg x l p h=> ?_) e h
  refine kE (λh=> ?_) l h
  refine kC (λx r h=> ?_) x h
  refine kE (λh=> ?_) r h
  obtain⟨h1,h2,h3⟩:=a3 h
  exact ja9 go h1 h2 (zc a go h3).1
 | .zip a b,X,E,cf,tg,e,go,h=>xdF h
 | .enum a,X,E,cf,tg,e,go,h=>xdF h
end
end
structure Bs where
 G:Gh
 H:Hp
 h:M.AH
structure StS (Γ:Ge) (B:Bs) (G:Gh) (Y:M.Sl) (h:M.AH) (U:St) (H:Hp):Prop where
 st:StRel Γ G Y h U H
 ext:Ext B.G B.H G H
 hr:HRel Γ B.G B.h B.H
 own: ∀i xs a,M.Gj Y i=y0 (.own xs)->U[i]? =y0 (y0 (.ref a))->B.H a=u0
noncomputable def PostO (a:Ge) (E:XK) (B:Bs) (o:M.O) (D:xbp):Prop:=match o with
 | .next Y h=> ∀G U H,StS a B G Y h U H->D.nx U H
 | .ret w h=> ∀G v H,Ext B.G B.H G H->HRel a G h H->RelW a G H w v->FreshW [] [] B.H w v->D.rt v H
 | .brk Y h=> ∀G U H,StS a B G Y h U H->D.bk U H
 | .cont Y h=> ∀G U H,StS a B G Y h U H->D.ct U H
 | .exc d h=> ∀G H,Ext B.G B.H G H->HRel a G h H->qcN a E d G H
 | .fail=>False
def qdZ (a:Ge) (E:XK) (m:M.Sl->M.AH->M.O):TS:=λD U H=> ∃B G Y h,StS a B G Y h U H/\PostO a E B (m Y h) D
def PS.imp {st:Stmt}(h:PS X st t) (k: ∀D U H,t' D U H->t D U H):PS X st t':=λa s U H D I q=>h a s U H D I (k _ _ _ q)
def PSs.imp {st:List Stmt}(h:PSs X st t) (k: ∀D U H,t' D U H->t D U H):PSs X st t':=λa s U H D I q=>h a s U H D I (k _ _ _ q)
section
variable {Γ:Ge}{E:XK}{B:Bs}{G G1:Gh}{Y:M.Sl}{h h1:M.AH}{U:St}{H H1:Hp}{D:xbp}
def StS.on (s:StS Γ B G Y h U H) (e:Ext G H G1 H1) (a:HRel Γ G1 h1 H1):StS Γ B G1 Y h1 U H1:=⟨s.st.ext e a,s.ext.trans s.hr e,s.hr,s.own⟩
theorem PostO.exc (s:StS Γ B G Y h U H) (p:PostO Γ E B (.exc d h1) D):Post Γ E G H (.exc d h1) P:=λc b e a=>p c b (s.ext.trans s.hr e) a
def Ji (s:StS Γ B G Y h U H) (p:PostO Γ E B ((m Y h).toO f) D)
 (k: ∀w v h1 G1 H1,Ext G H G1 H1->StS Γ B G1 Y h1 U H1->RelW Γ G1 H1 w v->FreshW Y U H w v->PostO Γ E B (f w h1) D->Q v H1):tD Γ E m U H Q:=by
 refine⟨G,Y,h,s.st,?_⟩
 cases q:m Y h with
 | ok w h1=>rw [q]at p;exact λG1 H1 e c v b a=>k w v h1 G1 H1 e (s.on e c) b a p
 | exc d h1=>rw [q]at p;exact PostO.exc s p
 | fail=>rw [q]at p;exact p
def xZ (s:StS Γ B G Y h U H) (p:PostO Γ E B ((m Y h).toO f) D)
 (k: ∀b h1 G1 H1,Ext G H G1 H1->StS Γ B G1 Y h1 U H1->PostO Γ E B (f b h1) D->Q b H1):qdS Γ E m U H Q:=by
 refine⟨G,Y,h,s.st,?_⟩
 cases q:m Y h with
 | ok w h1=>rw [q]at p;exact λG1 H1 e a=>k w h1 G1 H1 e (s.on e a) p
 | exc d h1=>rw [q]at p;exact PostO.exc s p
 | fail=>rw [q]at p;exact p
theorem StS.set (n:StS Γ B G Y h U H) (e:Ext G H G1 H1) (s:StS Γ B G1 Y h1 U H1) (r:RelW Γ G1 H1 w v) (f:FreshW Y U H w v) (t: ∀xs,w≠ .bor xs):StS Γ B G1 (M.GB Y i w) h1 (U.set i (y0 v)) H1:=by
 refine⟨s.st.set r λu j y p g l a x z=> ?_,s.ext,s.hr,λj xs a g k=> ?_⟩
 ·cases w with
  | v d=>cases u
  | bor xs=>exact t xs rfl
  | own xs=>
   obtain⟨b,m,hn⟩:=f
   subst x
   cases m
   obtain⟨o,q⟩:=n.st.slotThere g l z
   rw [hn]at q;cases q
 ·rw [Zd]at g
  by_cases c:j=i/\i<Y.length
  ·rw [if_pos c]at g
   cases g
   obtain⟨rfl,c⟩:=c
   rw [Ad6 (by rw [← s.st.len];exact c)]at k
   cases k
   obtain⟨b,m,hn⟩:=f
   cases m
   exact n.ext.none n.hr hn
  ·rw [if_neg c]at g
   have p:=λz=>c ⟨z,by subst z;exact jn g⟩
   rw [Ad5 (Ne.symm p)]at k
   exact s.own j xs a g k
def StS.fz (a:StS Γ B G Y h U H) (e:Ext G H G1 H1) (s:StS Γ B G1 Y h1 U H1) (r:RelW Γ G1 H1 w v) (f:FreshW Y U H w v) (c:w.d=y0 d): ∃G2,Ext G H G2 H1/\StS Γ B G2 Y h1 U H1/\RelD Γ G2 H1 d v:=by
 obtain⟨G2,b,g,rd,_⟩:=qdt e s.st a.st r f c
 exact⟨G2,b,⟨g,a.ext.trans a.hr b,s.hr,s.own⟩,rd⟩
def StS.setD (s:StS Γ B G Y h U H) (r:RelD Γ G H d v):StS Γ B G (M.GB Y i (.v d)) h (U.set i (y0 v)) H:=StS.set s Ext.refl s r trivial λa z=>by cases z
theorem StS.setTup: ∀ {is}{ds}{a}{Y b}{U},M.setTup is ds Y=y0 b->RelDs Γ G H ds a->StS Γ B G Y h U H->StS Γ B G b h (zba is a U) H/\is.length=a.length
 | [],[],_,_,_,_,e,rfl,s=>by cases e;exact⟨s,rfl⟩
 | [],_::_,_,_,_,_,e,_,_=>by simp [M.setTup]at e
 | _::_,[],_,_,_,_,e,_,_=>by simp [M.setTup]at e
 | i::is,d::ds,_,_,_,_,e,⟨v,r,rfl,f,c⟩,s=>by
  obtain⟨j,g⟩:=StS.setTup (by simpa [M.setTup]using e) c (s.setD f)
  exact⟨j,congrArg (· +1) g⟩
def jb1 (e:M.Gp tg one d Y=y0 Y') (r:RelD Γ G H d x) (s:StS Γ B G Y h U H) (f: ∀c,StS Γ B G Y' h c H->Q c H):gM Γ tg one x U H Q:=by
 cases one with
 | true=>
  cases tg with
  | nil=>cases e
  | cons i l=>
   cases l with
   | cons _ _=>cases e
   | nil=>
    cases e
    exact⟨i,rfl,f _ (s.setD r)⟩
 | false=>
  cases d with
  | tup g=>
   obtain⟨a,m,rfl,k,b⟩:=r
   obtain⟨j,n⟩:=StS.setTup (e) b s
   exact⟨G,g,m,a,rfl,k,b,n,f _ j⟩
  | _=>cases e
def StS.write (s:StS Γ B G Y h U H) (g:M.Gj Y i=y0 (.own xs)) (n:U[i]? =y0 (y0 (.ref a))) (r:RelDs Γ G H ys us):StS Γ B G (M.GB Y i (.own ys)) h U (zdL H a (.lst us)):=by
 obtain⟨J,of,Z,X,_⟩:=qp s.st g n
 have hB:=s.own i xs a g n
 have mon:Mon G H G (zdL H a (.lst us)):=⟨λb o z q=>by rw [qa (λe:b=a=>J (e▸z))];exact q,Aa5 _,λ_ _=>rfl,λ_ z=>z⟩
 have R:=jn g
 have F:HRel Γ G h (zdL H a (.lst us)):=by
  refine⟨s.st.heap.len,λq c e=>⟨(s.st.heap.any q c e).1,(s.st.heap.any q c e).2.mon mon λo z=>by rw [qa (of q (s.st.heap.lt e))];exact z⟩,s.st.heap.inj,λb z=> ?_⟩
  obtain⟨o,q⟩:=s.st.heap.live b z
  exact⟨o,by rw [qa (λe:b=a=>J (e▸z))];exact q⟩
 refine⟨⟨by rw [Xi];exact s.st.len,λj w e=> ?_,λp q P w b L f l T V=> ?_,F⟩,⟨λb o q A=> ?_,s.ext.le,s.ext.rho,s.ext.new,s.ext.fz,s.ext.old,λq O z=> ?_⟩,s.hr,λj P b f l=> ?_⟩
 ·rw [Zd]at e
  by_cases c:j=i/\i<Y.length
  ·rw [if_pos c]at e
   cases e
   obtain⟨rfl,_⟩:=c
   exact⟨.ref a,n,a,us,rfl,J,of,xb,r.mon mon⟩
  ·rw [if_neg c]at e
   have Q:=λz=>c ⟨z,by subst z;exact jn e⟩
   obtain⟨v,C,x⟩:=s.st.slot j w e
   refine⟨v,C,?_⟩
   cases w with
   | v d=>exact RelD.mon mon x
   | own K=>
    obtain⟨b,bs,rfl,W,I,k,E⟩:=x
    have u:b≠a:=λz=>s.st.apart i j xs (.own K) a (Ne.symm Q) g e rfl n (z▸C)
    exact⟨b,bs,rfl,W,I,by rw [qa u];exact k,E.mon mon⟩
   | bor K=>
    obtain⟨b,bs,rfl,I,k,E⟩:=x
    have u:b≠a:=λz=>s.st.apart i j xs (.bor K) a (Ne.symm Q) g e rfl n (z▸C)
    refine⟨b,bs,rfl,I,?_,E.mon mon⟩
    rcases k with k | ⟨o,k⟩
    ·exact .inl (by rw [qa u];exact k)
    ·exact .inr ⟨o,by rw [qa u];exact k⟩
 ·rw [Zd]at f l
  have N: ∃m,M.Gj Y p=y0 (.own m):=by
   by_cases c:p=i/\i<Y.length
   ·exact⟨xs,by rw [c.1];exact g⟩
   ·rw [if_neg c]at f;exact⟨P,f⟩
  have D: ∃t,M.Gj Y q=y0 t/\xdR t=true:=by
   by_cases c:q=i/\i<Y.length
   ·exact⟨.own xs,by rw [c.1];exact g,rfl⟩
   ·rw [if_neg c]at l;exact⟨w,l,T⟩
  obtain⟨m,N⟩:=N
  obtain⟨t,D,y⟩:=D
  exact s.st.apart p q m t b L N D y V
 ·rw [qa (λe:b=a=>by rw [e,hB]at q;cases q)]
  exact s.ext.keep b o q A
 ·obtain⟨o,S⟩:=s.ext.cells q O z
  have:B.G.rho q≠a:=λe=>by
   have:=of q (Ab0 O s.ext.le)
   rw [s.ext.rho q O]at this
   exact this e
  exact⟨o,by rw [qa this];exact S⟩
 ·rw [Zd]at f
  by_cases c:j=i/\i<Y.length
  ·obtain⟨rfl,_⟩:=c
   rw [n]at l
   cases l
   exact hB
  ·rw [if_neg c]at f;exact s.own j P b f l
def StS.acell (s:StS Γ B G Y h U H) (p:h[r]? =y0 c0) (z:CellRel Γ G (zdL H (G.rho r) o1) (G.rho r) c1):StS Γ B G Y (h.set r c1) U (zdL H (G.rho r) o1):=by
 have y:=(Ac1.mp p).1
 have f:=s.st.heap.lt p
 have n:=s.st.heap.nfz f
 have mon:Mon G H G (zdL H (G.rho r) o1):=⟨λb o w q=>by rw [qa (λe:b=G.rho r=>n (e▸w))];exact q,Aa5 _,λ_ _=>rfl,λ_ w=>w⟩
 have m:HRel Γ G (h.set r c1) (zdL H (G.rho r) o1):=by
  refine⟨by rw [Ae3];exact s.st.heap.len,λq c e=> ?_,s.st.heap.inj,λb w=> ?_⟩
  ·by_cases c:q=r
   ·subst c
    rw [Ad6 y]at e
    cases e
    exact⟨n,z⟩
   ·rw [Ad5 (Ne.symm c)]at e
    exact⟨(s.st.heap.any q _ e).1,(s.st.heap.any q _ e).2.mon mon λo w=>by rw [qa λC=>c (s.st.heap.inj q r (s.st.heap.lt e) f C)];exact w⟩
  ·obtain⟨o,q⟩:=s.st.heap.live b w
   exact⟨o,by rw [qa (λe:b=G.rho r=>n (e▸w))];exact q⟩
 refine⟨⟨s.st.len,λj w e=> ?_,s.st.apart,m⟩,⟨λb o q i=> ?_,s.ext.le,s.ext.rho,s.ext.new,s.ext.fz,s.ext.old,λq D w=> ?_⟩,s.hr,s.own⟩
 ·obtain⟨v,u,k⟩:=s.st.slot j w e
  refine⟨v,u,?_⟩
  cases w with
  | v d=>exact RelD.mon mon k
  | own A=>
   obtain⟨b,bs,rfl,E,g,a,l⟩:=k
   exact⟨b,bs,rfl,E,g,by rw [qa (Ne.symm (g r f))];exact a,l.mon mon⟩
  | bor A=>
   obtain⟨b,bs,rfl,g,a,l⟩:=k
   refine⟨b,bs,rfl,g,?_,l.mon mon⟩
   rcases a with a | ⟨o,a⟩
   ·exact .inl (by rw [qa (Ne.symm (g r f))];exact a)
   ·exact .inr ⟨o,by rw [qa (Ne.symm (g r f))];exact a⟩
 ·have x:b≠G.rho r:=λe=>by
   by_cases c:r<B.G.n
   ·exact i r c (by rw [← s.ext.rho r c];exact e.symm)
   ·have:=s.ext.new r (Am0.mp c) f
    rw [← e,q]at this
    cases this
  rw [qa x]
  exact s.ext.keep b o q i
 ·by_cases c:B.G.rho q=G.rho r
  ·exact⟨_,by rw [c];exact xb⟩
  ·obtain⟨o,t⟩:=s.ext.cells q D w
   exact⟨o,by rw [qa c];exact t⟩
def jaS (a:HRel Γ G h H) (c:r<G.n) (o):Mon G H G (zdL H (G.rho r) o):=⟨λb o w q=>by rw [qa (λe:b=G.rho r=>a.nfz c (e▸w))];exact q,Aa5 _,λ_ _=>rfl,λ_ w=>w⟩
def StS.cell (s:StS Γ B G Y h U H) (a:h[r]? =y0 (.lst xs)) (b:M.Gd ys=k9) (z:RelDs Γ G H ys us):StS Γ B G Y (h.set r (.lst ys)) U (zdL H (G.rho r) (.lst us)):=
 s.acell a ⟨b,us,xb,z.mon (jaS s.st.heap (s.st.heap.lt a) _)⟩
def StS.freeze (s:StS Γ B G Y h U H) (k:M.Gj Y i=y0 (.own xs)): ∃G',StS Γ B G' (M.GB Y i (.v (.lst xs))) h U H:=by
 obtain⟨v,n,a,y,rfl,E,of,o,D⟩:=s.st.slot i _ k
 have hB:=s.own i xs a k n
 refine⟨G.more a,⟨⟨by rw [Xi];exact s.st.len,λj w e=> ?_,λp q m w b l d f g A=> ?_,s.st.heap.more of ⟨_,o⟩⟩,s.ext.more hB,s.hr,λj m b d f=> ?_⟩⟩
 ·rw [Zd]at e
  by_cases c:j=i/\i<Y.length
  ·rw [if_pos c]at e
   cases e
   obtain⟨rfl,_⟩:=c
   exact⟨.ref a,n,a,y,rfl,.inl ⟨.inr rfl,.inl o⟩,D.mon (Zm a)⟩
  ·rw [if_neg c]at e
   have x:=λz=>c ⟨z,by subst z;exact jn e⟩
   obtain⟨v,r,u⟩:=s.st.slot j w e
   exact⟨v,r,u.more λg C=>s.st.apart i j xs w a (Ne.symm x) k e g n (C▸r)⟩
 ·rw [Zd]at d f
  by_cases c:p=i/\i<Y.length
  ·rw [if_pos c]at d;cases d
  ·rw [if_neg c]at d
   by_cases t:q=i/\i<Y.length
   ·rw [if_pos t]at f;cases f;cases g
   ·rw [if_neg t]at f;exact s.st.apart p q m w b l d f g A
 ·rw [Zd]at d
  by_cases c:j=i/\i<Y.length
  ·rw [if_pos c]at d;cases d
  ·rw [if_neg c]at d;exact s.own j m b d f
end
structure jdS (Γ:Ge) (F:M.Fx) (X:Cx) (E:XK) (k:Nat) (cf:Cf):Prop extends Go Γ F X E k cf where
 pown:PassesOwn (model X.prog X.w) X.A X.env X.xe
 stk:X.stack=X.env::X.outer
 frm:X.env.frame=y0 X.env.locals
 ex:X.ex= []
 rai: ∀c,cf.rai.contains c=true->zdY cf.sc (qf c)=true->(qf c==("__debug__" :Str))=false->zdZ Γ c/\ ∀(np k7 pos:Pos) (e:Expr) (es:List Expr) (t:TA),PA X (e::es) t->(∀ e'∈e::es,Qa e'=true) →
  PS X (.Raise (y0 (.Call (.Name (qf c) np) (e::es) [] k7)) u0 pos) (xbm (Γ.ca c) E t)
 rfi: ∀c f,cf.ob.er.contains (c,f)=true->zdY cf.sc (qf c)=true->(qf c==("__debug__" :Str))=false->zdZ Γ c/\qcC Γ.K (Γ.ca c) (qf f)/\ ∀(np k7 pos:Pos) (e:Expr) (t:TA),PA X [e] t->Qa e=true →
  PS X (.Raise (y0 (.Call (.Name (qf c) np) [e] [] k7)) u0 pos) (jak (Γ.ca c) (qf f) E t)
 hnd: ∀c,cf.hnd.contains c=true->PySem.W.mroIn X.K (Γ.ca c) (.type "BaseException")=some true/\cf.own.contains c=true
section
variable {Γ:Ge}{F:M.Fx}{X:Cx}{E:XK}{k:Nat}{cf:Cf}
def Ju (h:Qu cf i x=k9):cf.N[i]? =y0 x/\xbQ cf.sc x=true:=by
 simpa [Qu]using h
def zH (h:xx cf i x=k9):cf.N[i]? =y0 x/\cf.sc.names.lookup x=y0 .local:=by
 simpa [xx]using h
def zbc (w:tD Γ E (M.eval F (.share a)) U H Q):tD Γ E (M.eval F a) U H Q:=by
 obtain⟨G,Y,h,s,p⟩:=w
 refine Ja s.heap Ext.refl s p λo B c g z t m i q u b=> ?_
 cases o with
 | own e=>
  obtain⟨l,C,rfl,j,x,k,y⟩:=q
  obtain⟨A,n,r⟩:=u
  cases n
  have b:Post Γ E G H (if M.Gd e=k9 then M.okv (.ref c.length) (c++ [.lst e])else .fail) _:=b
  by_cases f:M.Gd e=k9
  rotate_left
  ·rw [if_neg f]at b;exact b.elim
  rw [if_pos f]at b
  refine Post.val b (zK t r) (zO i.heap j x k y f) ?_ trivial
  show c.length<g.n+1/\V.ref l= .ref (if c.length=g.n then l else g.rho c.length)
  rw [i.heap.len,if_pos rfl]
  exact⟨Ag7 _,rfl⟩
 | v d=>exact b.elim
 | bor e=>exact b.elim
def Qc (h:Zs v=k9):swapsWith v t l env=pure false:=by
 cases v<;>first | rfl | (simp [Zs]at h)
def xO (b:Go Γ F X E k cf)(a:Qu cf i x=k9) (c:PE X v (tD Γ E (M.eval F m))) (f:swapsWith v (y0 (.Name x p)) pos.line X.env=pure y9):
 PS X (.Assign [.Name x p] v pos) (xbt (tD Γ E (M.eval F m)) (jQ i)):=by
 obtain⟨e,d⟩:=Ju a
 have a:=b.sto x d
 exact jai (by rw [b.N];exact b.nd) (by rw [b.N];exact e) a.1 c f a.2
def xc8:M.E->Bool
 | .share _=>k9
 | .comp .. =>k9
 | _=>y9
def zbe (h:jc cf m v=k9) (a:xc8 m=y9):Zs v=true:=by
 cases v with
 | ListComp _ _ _ _=>cases m<;>first | exact xdF h | (exact absurd (a) Ao5)
 | SetComp _ _ _ _=>cases m<;>first | exact xdF h | (exact absurd (a) Ao5)
 | DictComp _ _ _ _ _=>cases m<;>first | exact xdF h | (exact absurd (a) Ao5)
 | _=>rfl
def qdn (d:Cf) (a:Bool) (b:List Expr) (c:M.E):Bool:=bif a then(lC b λz r=>kZ r (qdK c&&jc d c z))else b.isEmpty
def jbc (h:jc cf (.comp tg one kk cap it y7 c elt) v=k9): ∃y t iter ifs scope p0,v= .ListComp y [⟨t,iter,ifs,0⟩] scope p0 ∧
 zb7 cf scope (qs cf t cap) kk cap/\(∀ i∈tg,i<kk)/\je { cf with sc:=scope,N:=qs cf t cap } tg one t=k9/\chkIt cf it iter=k9/\jc { cf with sc:=scope,N:=qs cf t cap } elt y=k9 ∧
 qdn { cf with sc:=scope,N:=qs cf t cap } y7 ifs c=true:=by
 refine zcb (λy g s p h=> ?_) v h
 refine kC (λg r h=> ?_) g h
 obtain⟨t,iter,ifs,z⟩:=g
 obtain⟨j,k,a,e,f,d,b⟩:=a7 h
 obtain⟨rfl,rfl⟩:=of_decide_eq_true j
 simp only [Ad3,decide_eq_true_eq]at a
 exact⟨y,t,iter,ifs,s,p,rfl,JA k,a,e,f,d,b⟩
def xbc (e:Go Γ F X E k cf)(u:Qu cf i x=k9)(h:jc cf (.comp tg one kk cap it y7 c elt) v=k9):
 PS X (.Assign [.Name x p] v pos) (xbt (tD Γ E (M.eval F (.comp tg one kk cap it y7 c elt))) (jQ i)):=by
 have P:=(zc (.comp tg one kk cap it y7 c elt) e h).1
 obtain⟨y,t,g,d,a,J,rfl,l,B,O,q,D,m⟩:=jbc h
 obtain⟨b,o⟩: ∃b,swapsWith (.ListComp y [⟨t,g,d,0⟩] a J) (y0 (.Name x p)) pos.line X.env=pure b:=⟨_,rfl⟩
 cases b with
 | false=>exact xO e u P o
 | true=>
  obtain⟨R,L⟩:=Ju u
  have w: ∀C j s H,qdw (Jc X (qs cf t cap) a C j s H) d (qdS Γ E0 (X9 F y7 c)):=λC j s H=>by
   have N:=jw e l C j s H
   cases y7 with
   | true=>
    refine kC (λz r h=> ?_) d m
    refine kE (λh=> ?_) r h
    exact qag ((zc c N (a2 h).2).2 (a2 h).1)
   | false=>
    cases Af6.mp m
    intro f K U n Q I ⟨G,Y,h,A,p⟩
    exact zaQ f K U n Q I (p G n Ext.refl A.heap)
  exact jV e R L o l (zC l.cap) O B (wQ q) (sndI it e q) (λC j s H=>(zc elt (jw e l C j s H) D).1) w
def Jb (a:Go Γ F X E k cf)(c:Qu cf i x=k9)(h:jc cf m v=k9) (b:xc8 m=y9):PS X (.Assign [.Name x p] v pos) (xbt (tD Γ E (M.eval F m)) (jQ i)):=
 xO a c (zc m a h).1 (Qc (zbe h b))
theorem qaz (c:Go Γ F X E k cf)(b:Qu cf i x=k9): ∀ m,jc cf m v=k9->PS X (.Assign [.Name x p] v pos) (xbt (tD Γ E (M.eval F m)) (jQ i))
 | .share a,h=>PS.imp (qaz c b a h) λD U H q=>zbc q
 | .comp ..,h=>xbc c b h
 | .dnewI,h=>Jb c b h rfl
 | .dinI ..,h=>Jb c b h rfl
 | .var _,h=>Jb c b h rfl
 | .con _,h=>Jb c b h rfl
 | .int _,h=>Jb c b h rfl
 | .bl _,h=>Jb c b h rfl
 | .non,h=>Jb c b h rfl
 | .str _,h=>Jb c b h rfl
 | .tup _,h=>Jb c b h rfl
 | .lst _,h=>Jb c b h rfl
 | .bin ..,h=>Jb c b h rfl
 | .cmp ..,h=>Jb c b h rfl
 | .chain ..,h=>Jb c b h rfl
 | .isn ..,h=>Jb c b h rfl
 | .neg _,h=>Jb c b h rfl
 | .inv _,h=>Jb c b h rfl
 | .not _,h=>Jb c b h rfl
 | .and ..,h=>Jb c b h rfl
 | .or ..,h=>Jb c b h rfl
 | .call ..,h=>Jb c b h rfl
 | .bi ..,h=>Jb c b h rfl
 | .isT ..,h=>Jb c b h rfl
 | .isX ..,h=>Jb c b h rfl
 | .ix ..,h=>Jb c b h rfl
 | .sl ..,h=>Jb c b h rfl
 | .slL ..,h=>Jb c b h rfl
 | .slH ..,h=>Jb c b h rfl
 | .rev _,h=>Jb c b h rfl
 | .lenset _,h=>Jb c b h rfl
 | .ltL ..,h=>Jb c b h rfl
 | .meth ..,h=>Jb c b h rfl
 | .xf ..,h=>Jb c b h rfl
def jbh (q:Go Γ F X E k cf)(o:Qu cf i x=k9)(h:jc cf m v=k9):PS X (.Assign [.Name x p] v pos) (qdZ Γ E (M.exec F (.set i m))):=by
 refine PS.imp (qaz q o m h) λD U H n=> ?_
 obtain⟨B,G,Y,h,s,p⟩:=n
 refine Ji s p λw v t l b g c f j a=> ?_
 cases w with
 | bor e=>exact a.elim
 | v d=>exact a l _ b (StS.set s g c f j λe z=>by cases z)
 | own r=>exact a l _ b (StS.set s g c f j λe z=>by cases z)
def zaf (n:Go Γ F X E k cf)(l:Qu cf i x=k9)(h:jc cf m v=k9):PS X (.Assign [.Name x p] v pos) (qdZ Γ E (M.exec F (.setf i m))):=by
 refine PS.imp (qaz n l m h) λD U H e=> ?_
 obtain⟨B,G,Y,h,s,p⟩:=e
 refine Ji s p λw v t u b o f g r a=> ?_
 cases q:w.d with
 | none=>rw [q]at a;exact a.elim
 | some d=>
  rw [q]at a
  obtain⟨c,y,j,rd⟩:=StS.fz s o f g r q
  exact a c _ b (j.setD rd)
def XQ :swapsWithSole [.Tuple ts n p] v l env=pure false:=by
 cases v<;>rfl
def xC (h:wk v=k9):swappedStores [.Tuple ts n p] v env=pure none:=by
 cases v<;>first | rfl | (simp [wk]at h)
def zbj (e:Go Γ F X E k cf)(f:Xn cf is ts=k9) (t:wk v=k9)(h:jc cf m v=k9):PS X (.Assign [.Tuple ts n p] v pos) (qdZ Γ E (M.exec F (.unp is m))):=by
 refine PS.imp (Z1 (zc m e h).1 (Qo e (one:=y9) f) XQ (xC t) rfl) λD U H j=> ?_
 obtain⟨B,G,Y,h,s,p⟩:=j
 refine Ji s p λw v u x i y l r z a=> ?_
 cases w with
 | v d=>
  cases d with
  | tup c=>
   have a:PostO Γ E B (match M.setTup is c Y with | some b=> .next b u | none=> .fail) D:=a
   cases q:M.setTup is c Y with
   | none=>rw [q]at a;exact a.elim
   | some b=>
    rw [q]at a
    exact jb1 (show M.Gp is y9 (.tup c) Y=y0 b from q) r l λo g=>a x o i g
  | _=>exact a.elim
 | own _=>exact a.elim
 | bor _=>exact a.elim
def JN :swapsWithSole [.Subscript x y p] v l env=pure false:=by
 cases v<;>rfl
def WF :swappedStores [.Subscript x y p] v env=pure none:=by
 cases v<;>rfl
def zaA (c:zh y=k9) (v):assign (.Subscript x y p) env v=(do
 let a ←holding [v] (eval x env)
 let b ←holding [v,a] (eval y env)
 standAt p
 holding [v,a,b] (setItem a b v)
 release [v,a,b] []):=by
 cases y<;>first | rfl | (simp [zh]at c)
def xbf (a:M.KP d=k9) (z:RelD Γ G H d v):RelD Γ G' H' d v:=by
 cases d with
 | non=>exact z
 | bl _=>exact z
 | int _=>exact z
 | str _=>exact z
 | _=>exact absurd (a) Ab8
def qu (h:zp cf i m e k7=k9): ∃x p apos,e= .Attribute (.Name x p) m apos/\cf.N[i]? =y0 x/\WV cf.sc x=k9/\jdu x=k9/\(apos.endLine==k7.line)=true:=by
 refine zbd (λx n q h=> ?_) e h
 refine xr (λx p h=> ?_) x h
 obtain⟨h,a,b⟩:=a3 h
 obtain⟨c,d,f⟩:=xbz h
 cases of_decide_eq_true a
 exact⟨_,_,_,rfl,c,d,f,b⟩
def ja4 (n:Go Γ F X E k cf)(S:zp cf i "append" f k7=true) (j:Qa v=true)(h:jc cf m v=true):PS X (.Expr (.Call f [v] [] k7) pos) (qdZ Γ E (M.exec F (.app i m))):=by
 obtain⟨x,p,r,rfl,o,J,c,O⟩:=qu S
 unfold jdu at c
 rw [Aa7]at c
 have pv:=zl (pos:=p) (by rw [n.N];exact o) (n.vis x J) (by simpa using c.1) (by simpa using c.2)
 refine PS.imp (jI (zbF PySem.F.plainAttrs_list PySem.F.slot_list_append PySem.F.type_list_append JR pv (Xb (zc m n h).1 zg (ja j)) rfl (by rw [ja j];rfl) O (ja j) rfl) (Qc rfl)) λD U H I=> ?_
 obtain⟨B,G,Y,h,s,p⟩:=I
 rw [M.exec]at p
 cases q:M.Gj Y i with
 | none=>rw [q]at p;exact p.elim
 | some V=>
  rw [q]at p
  cases V with
  | v d=>exact p.elim
  | bor e=>exact p.elim
  | own e=>
   obtain⟨v0,l,a,Q,rfl,W,z3,A,z5⟩:=s.st.slot i _ q
   refine⟨.ref a,l,.inl ⟨rfl,Q,SqL.of A⟩,?_⟩
   refine Ji s p λw v o G1 Z R K N T b=> ?_
   cases g:w.d with
   | none=>rw [g]at b;exact b.elim
   | some d=>
    rw [g]at b
    obtain⟨C,e2,y,rd⟩:=StS.fz s R K N T g
    have b:PostO Γ E B (if e.length<M.LIM then .next (M.GB Y i (.own (e++ [d]))) o else .fail) D:=b
    by_cases t:e.length<M.LIM
    ·rw [if_pos t]at b
     obtain⟨nf,of,P,L,z⟩:=qp y.st q l
     have u:=z.length
     exact⟨a,P,v,rfl,rfl,L,by have:=Wj;omega,b C U _ (y.write q l (z.append ⟨v,[],rfl,rd,rfl⟩))⟩
    ·rw [if_neg t]at b;exact b.elim
def xbg (u:Go Γ F X E k cf)(V:zp cf i "extend" f k7=true) (r:Qa v=true)(h:jc cf m v=true):PS X (.Expr (.Call f [v] [] k7) pos) (qdZ Γ E (M.exec F (.ext i m))):=by
 obtain⟨x,p,z,rfl,y,N,j,R⟩:=qu V
 unfold jdu at j
 rw [Aa7]at j
 have pv:=zl (pos:=p) (by rw [u.N];exact y) (u.vis x N) (by simpa using j.1) (by simpa using j.2)
 refine PS.imp (jI (zbF PySem.F.plainAttrs_list PySem.F.slot_list_extend PySem.F.type_list_extend xaA pv (Xb (zc m u h).1 zg (ja r)) rfl (by rw [ja r];rfl) R (ja r) rfl) (Qc rfl)) λD U H L=> ?_
 obtain⟨B,G,Y,h,s,p⟩:=L
 rw [M.exec]at p
 cases q:M.Gj Y i with
 | none=>rw [q]at p;exact p.elim
 | some Z=>
  rw [q]at p
  cases Z with
  | v d=>exact p.elim
  | bor l=>exact p.elim
  | own l=>
   obtain⟨v0,t,a,T,rfl,z2,z3,K,z5⟩:=s.st.slot i _ q
   refine⟨.ref a,t,.inl ⟨rfl,T,SqL.of K⟩,?_⟩
   refine Ji s p λw v y W H1 e1 A Q f1 c=> ?_
   cases w with
   | v d=>exact c.elim
   | bor g=>exact c.elim
   | own g=>
    obtain⟨b,n,rfl,_,_,P,e⟩:=Q
    have c:PostO Γ E B (if l.length+g.length<M.LIM then .next (M.GB Y i (.own (l++g))) y else .fail) D:=c
    by_cases C:l.length+g.length<M.LIM
    ·rw [if_pos C]at c
     obtain⟨nf,of,S,O,J⟩:=qp A.st q t
     have I:=J.length
     have o:=e.length
     exact⟨a,b,S,n,rfl,rfl,O,P,by have:=Wj;omega,c W U _ (A.write q t (J.append e))⟩
    ·rw [if_neg C]at c;exact c.elim
def xay (r:RelDs Γ G H D vs)(e:D[D.length-1]? =y0 d): ∃v,vs[vs.length-1]? =y0 v/\RelD Γ G H d v/\RelDs Γ G H (D.take (D.length-1)) vs.dropLast:=by
 obtain⟨v,a,c⟩:=RelDs.get r e
 have b:=r.length
 rw [b]at a
 refine⟨v,a,c,?_⟩
 rw [List.dropLast_eq_take,←b]
 exact r.take _
theorem wq: ∀ {xs ys},M.Gd xs=k9->M.Gd ys=k9->M.Gd (xs++ys)=k9
 | [],_,_,h=>h
 | x::xs,ys,h,a=>by
  have h:=h
  rw [Aa7]at h
  show(M.Gc x&&M.Gd (xs++ys))=k9
  rw [h.1,wq h.2 a];rfl
theorem xt: ∀ {xs}(n),M.Gd xs=k9->M.Gd (xs.take n)=k9
 | _,0,_=>by rw [List.take_zero]
 | [],n+1,_=>rfl
 | x::xs,n+1,h=>by
  have h:=h
  rw [Aa7]at h
  show(M.Gc x&&M.Gd (xs.take n))=k9
  rw [h.1,xt n h.2];rfl
def qad (o:Go Γ F X E k cf)(Z:zp cf i "append" f k7=true) (g:Qa v=true)(h:jc cf m v=true):PS X (.Expr (.Call f [v] [] k7) pos) (qdZ Γ E (M.exec F (.appR i m))):=by
 obtain⟨x,p,t,rfl,I,O,c,T⟩:=qu Z
 unfold jdu at c
 rw [Aa7]at c
 have pv:=zl (pos:=p) (by rw [o.N];exact I) (o.vis x O) (by simpa using c.1) (by simpa using c.2)
 refine PS.imp (jI (zbF PySem.F.plainAttrs_list PySem.F.slot_list_append PySem.F.type_list_append JR pv (Xb (zc m o h).1 zg (ja g)) rfl (by rw [ja g];rfl) T (ja g) rfl) (Qc rfl)) λD U H N=> ?_
 obtain⟨B,G,Y,h,s,p⟩:=N
 rw [M.exec]at p
 cases q:M.cellD h (M.Gj Y i)with
 | none=>rw [q]at p;exact p.elim
 | some rx=>
  obtain⟨r0,Q⟩:=rx
  rw [q]at p
  obtain⟨A,l,j,_⟩:=ju s.st q
  refine⟨_,A,.inl ⟨rfl,l,SqL.of j⟩,?_⟩
  refine Ji s p λw v I G1 H1 W P S f1 a=> ?_
  split at a
  ·rename_i d r z L y
   obtain⟨K,e2,n,rd⟩:=StS.fz s W P S f1 L
   by_cases e:z.length<M.LIM/\M.Gc d=k9
   ·rw [if_pos e]at a
    obtain⟨b,V,R,u⟩:=ju n.st y
    obtain⟨q1,J⟩:=Xu y
    have C:=u.length
    have er:=by rw [A]at b;exact Ae5.inj (Ae5.inj b)
    exact⟨_,V,v,er,rfl,R,by have:=Wj;omega,a K U _ (n.cell J (wq (n.st.heap.pure r z J) (by show(M.Gc d&&k9)=k9;rw [e.2];rfl)) (u.append ⟨v,[],rfl,rd,rfl⟩))⟩
   ·rw [if_neg e]at a;exact a.elim
  ·exact a.elim
def StS.cellD (s:StS Γ B G Y h U H)(c:h[r]? =y0 (.lst xs))(rd:RelD Γ G H d v):RelD Γ G (zdL H (G.rho r) (.lst us)) d v:=by
 obtain⟨a,g,f,_⟩:=s.st.heap.cell r xs c
 exact rd.mon ⟨λb o w q=>by rw [qa (λe:b=G.rho r=>a (e▸w))];exact q,Aa5 _,λ_ _=>rfl,λ_ w=>w⟩
def qaJ (a:Go Γ F X E k cf)(c:Qu cf j x0=true) (C:zp cf i "pop" f k7=true):PS X (.Assign [.Name x0 p0] (.Call f [] [] k7) pos) (qdZ Γ E (M.exec F (.popR i j))):=by
 obtain⟨x,p,m,rfl,J,v,b,z⟩:=qu C
 unfold jdu at b
 rw [Aa7]at b
 have pv:=zl (pos:=p) (by rw [a.N];exact J) (a.vis x v) (by simpa using b.1) (by simpa using b.2)
 obtain⟨L,w⟩:=Ju c
 have c:=a.sto x0 w
 refine PS.imp (jai (by rw [a.N];exact a.nd) (by rw [a.N];exact L) c.1 (xbv PySem.F.plainAttrs_list PySem.F.slot_list_pop PySem.F.type_list_pop zbA pv rfl z) (Qc rfl) c.2) λD U H t=> ?_
 obtain⟨B,G,Y,h,s,p⟩:=t
 rw [M.exec]at p
 cases q:M.cellD h (M.Gj Y i)with
 | none=>rw [q]at p;exact p.elim
 | some K=>
  obtain⟨r,g⟩:=K
  rw [q]at p
  obtain⟨A,o,n,rv⟩:=ju s.st q
  obtain⟨N,l⟩:=Xu q
  refine⟨_,A,.inl ⟨rfl,o,SqL.of n⟩,?_⟩
  cases e:g[g.length-1]? with
  | none=>simp only [e]at p;exact p.elim
  | some d=>
   simp only [e]at p
   obtain⟨y,u,rd,I⟩:=xay rv e
   exact⟨_,o,y,rfl,rfl,n,u,p G _ _ ((s.cell l (xt _ (s.st.heap.pure r g l)) I).setD (s.cellD l rd))⟩
def jaB (l:Go Γ F X E k cf)(v:Xn cf is ts=true) (L:zp cf i "pop" f k7=true):PS X (.Assign [.Tuple ts n p0] (.Call f [] [] k7) pos) (qdZ Γ E (M.exec F (.popU i is))):=by
 obtain⟨x,p,o,rfl,O,C,b,J⟩:=qu L
 unfold jdu at b
 rw [Aa7]at b
 have pv:=zl (pos:=p) (by rw [l.N];exact O) (l.vis x C) (by simpa using b.1) (by simpa using b.2)
 refine PS.imp (Z1 (xbv PySem.F.plainAttrs_list PySem.F.slot_list_pop PySem.F.type_list_pop zbA pv rfl J) (Qo l (one:=y9) v) XQ (xC rfl) rfl) λD U H z=> ?_
 obtain⟨B,G,Y,h,s,p⟩:=z
 rw [M.exec]at p
 cases q:M.cellD h (M.Gj Y i)with
 | none=>rw [q]at p;exact p.elim
 | some P=>
  obtain⟨r,a⟩:=P
  rw [q]at p
  obtain⟨K,u,t,rv⟩:=ju s.st q
  obtain⟨Q,m⟩:=Xu q
  refine⟨_,K,.inl ⟨rfl,u,SqL.of t⟩,?_⟩
  cases e:a[a.length-1]? with
  | none=>simp only [e]at p;exact p.elim
  | some d=>
   simp only [e]at p
   cases d with
   | tup g=>
    have p:PostO Γ E B (match M.setTup is g Y with
     | some c=> .next c (h.set r (.lst (a.take (a.length-1))))
     | none=> .fail) D:=p
    cases j:M.setTup is g Y with
    | none=>rw [j]at p;exact p.elim
    | some c=>
     rw [j]at p
     obtain⟨y,A,rd,N⟩:=xay rv e
     refine⟨_,u,y,rfl,rfl,t,A,?_⟩
     exact jb1 (show M.Gp is y9 (.tup g) Y=y0 c from j) (s.cellD m rd) (s.cell m (xt _ (s.st.heap.pure r a m)) N) λI w=>p G I _ w
   | non=>exact p.elim
   | bl _=>exact p.elim
   | int _=>exact p.elim
   | str _=>exact p.elim
   | lst _=>exact p.elim
   | ref _=>exact p.elim
   | exc _ _=>exact p.elim
   | err _ _ _=>exact p.elim
def x8 (f:Go Γ F X E k cf)(h1:cf.N[i]? =y0 x) (h2:WV cf.sc x=k9) (z:jdu x=k9) (o:zh y=k9)(I:jc cf kx y=k9) (h:jc cf (.bl k9) v=k9):PS X (.Assign [.Subscript (.Name x p) y p2] v pos) (qdZ Γ E (M.exec F (.dputI i kx))):=by
 refine PS.imp (Z1 (zc (.bl k9) f h).1 (xbl (xI f h1 h2 z) (zc kx f I).1 qaY (zaA o)) JN WF rfl) λD U H n=> ?_
 obtain⟨B,G,Y,h,s,p⟩:=n
 rw [M.exec]at p
 refine⟨G,Y,h,s.st,?_⟩
 intro P T C e V rv0 _
 have j:=s.on C e
 cases q:M.Pe h (M.Gj Y i)with
 | none=>rw [q]at p;exact p.elim
 | some K=>
  obtain⟨N,u⟩:=K
  rw [q]at p
  have sl:=(Qq j.st q).1
  refine⟨_,sl,?_⟩
  refine Ji j p λw S h1 J L Q g A R a=> ?_
  split at a
  ·rename_i m r t l
   split at a
   ·rename_i O
    obtain⟨b,d⟩:=Qq g.st l
    have c:=by rw [sl]at b;exact Ae5.inj (Ae5.inj b)
    cases A
    exact⟨m,_,t,rfl,c,rv0,d,by have:=Wj;omega,a J U _ (g.acell (QX l).2 xb)⟩
   ·exact a.elim
  ·exact a.elim
def J7 (e:Go Γ F X E k cf)(h1:cf.N[i]? =y0 x) (h2:WV cf.sc x=k9) (c:jdu x=k9) (u:zh y=k9)(J:jc cf kx y=k9) (h:jc cf m v=k9):PS X (.Assign [.Subscript (.Name x p) y p2] v pos) (qdZ Γ E (M.exec F (.setix i kx m))):=by
 unfold jdu at c
 rw [Aa7]at c
 have pv:=zl (pos:=p) (by rw [e.N];exact h1) (e.vis x h2) (by simpa using c.1) (by simpa using c.2)
 refine PS.imp (Z1 (zc m e h).1 (xbl pv (zc kx e J).1 qbe (zaA u)) JN WF rfl) λD U H t=> ?_
 obtain⟨B,G,Y,h,s,p⟩:=t
 refine Ji s p λw v h1 G1 R e1 l C f1 b=> ?_
 cases q:M.Gj Y i with
 | none=>rw [q]at b;exact b.elim
 | some P=>
  rw [q]at b
  cases P with
  | v d=>exact b.elim
  | bor K=>exact b.elim
  | own K=>
   obtain⟨v0,f,a,Z,rfl,Q,z3,S,z5⟩:=l.st.slot i _ q
   refine⟨.ref a,f,?_⟩
   refine Ji l b λT iv h2 g A e2 o O V p2=> ?_
   split at p2
   ·rename_i d j
    split at p2
    ·rename_i N
     split at p2
     ·rename_i n L
      cases (O)
      have rd:RelD Γ g A d v:=xbf N C
      obtain⟨W,of,I,z,r⟩:=qp o.st q f
      refine⟨_,I,j,n,rfl,rfl,z,by rw [← r.length];exact L,?_⟩
      exact p2 g U _ (o.write q f (RelDs.set rd n r))
     ·exact p2.elim
    ·exact p2.elim
   ·exact p2.elim
end
section
variable {Γ:Ge}{E:XK}{B:Bs}{G:Gh}{Y:M.Sl}{h:M.AH}{U:St}{H:Hp}{D:xbp}
def qaL (c:M.Gj Y i=y0 (.own xs)) (b:U[i]? =y0 (y0 (.ref a))):jh Y U H a=none:=by
 unfold jh
 rw [if_pos ⟨i,xs,c,b⟩]
def JX (e:jh Y U H a=y0 o):H a=y0 o:=by
 unfold jh at e
 split at e
 ·cases e
 ·exact e
def qab (s:StRel Γ G Y h U H):HRel Γ G h (jh Y U H) where
 len:=s.heap.len
 any:=λr c e=>⟨(s.heap.any r c e).1,(s.heap.any r c e).2.mon (zu s) λo z=>by rw [Zj λ⟨i,f,b,d⟩=>(qp s b d).2.1 r (s.heap.lt e) rfl];exact z⟩
 inj:=s.heap.inj
 live:=λa z=>by
  obtain⟨o,q⟩:=s.heap.live a z
  exact⟨o,by rw [Zj λ⟨i,f,b,d⟩=>(qp s b d).1 z];exact q⟩
noncomputable def jdD (G:Gh) (Y:M.Sl) (h:M.AH) (U:St) (H:Hp):Bs:=⟨G,jh Y U H,h⟩
def XA (s:StS Γ B G Y h U H):Ext B.G B.H G (jh Y U H) where
 keep:=λa o e c=>by
  rw [Zj λ⟨i,b,d,f⟩=>by rw [s.own i b a d f]at e;cases e]
  exact s.ext.keep a o e c
 le:=s.ext.le
 rho:=s.ext.rho
 new:=s.ext.new
 fz:=s.ext.fz
 old:=s.ext.old
 cells:=λr j z=>by
  obtain⟨o,q⟩:=s.ext.cells r j z
  refine⟨o,?_⟩
  rw [Zj λg=>by
   obtain⟨i,b,d,f⟩:=g
   obtain⟨u,z⟩:=z
   rw [s.own i b _ d f]at z
   cases z]
  exact q
def qce (s:StS Γ B G Y h U H):StS Γ (jdD G Y h U H) G Y h U H where
 st:=s.st
 ext:=⟨λa o e _=>JX e,Aa5 _,λ_ _=>rfl,λr h1 h2=>absurd h1 (Ao2.mpr h2),λ_ z=>z,λ_ z=> .inl z,λr hr ⟨o,z⟩=>⟨o,JX z⟩⟩
 hr:=qab s.st
 own:=λi xs a e1 e2=>qaL e1 e2
def XJ (s:StS Γ B G Y h U H)(b:StS Γ (jdD G Y h U H) G2 Y2 h2 U2 H2):StS Γ B G2 Y2 h2 U2 H2:=
 ⟨b.st,(XA s).trans s.hr b.ext,s.hr,λi d a e c=>(XA s).none s.hr (b.own i d a e c)⟩
def xaT (s:StS Γ B G Y h U H)(p:PostO Γ E B o D):PostO Γ E (jdD G Y h U H) o D:=by
 cases o with
 | next l j=>exact λc i b g=>p c i b (XJ s g)
 | brk l j=>exact λc i b g=>p c i b (XJ s g)
 | cont l j=>exact λc i b g=>p c i b (XJ s g)
 | ret w j=>
  refine λc v b e k r f=>p c v b ((XA s).trans s.hr e) k r ?_
  cases w with
  | v d=>trivial
  | own q=>obtain⟨a,n,m⟩:=f;exact⟨a,n,(XA s).none s.hr m⟩
  | bor q=>exact f
 | exc d j=>exact λc b e k=>p c b ((XA s).trans s.hr e) k
 | fail=>exact p
end
section
variable {Γ:Ge}{F:M.Fx}{X:Cx}{E:XK}{k:Nat}{cf:Cf}
def CL.hide (s:StRel Γ G Y h U H) (c:CL Γ ds l vs G H) (b: ¬ ∃ i xs,M.Gj Y i=y0 (.own xs)/\U[i]? =y0 (y0 (.ref l))):CL Γ ds l vs G (jh Y U H):=by
 obtain⟨a,e⟩:=c
 refine⟨?_,e.mon (zu s)⟩
 rcases a with⟨a,d⟩ | a
 ·refine .inl ⟨?_,d⟩
  rcases a with a | ⟨o,a⟩
  ·exact .inl (by rw [Zj b];exact a)
  ·exact .inr ⟨o,by rw [Zj b];exact a⟩
 ·exact .inr a
def CL.hideS (s:StRel Γ G Y h U H) (a:StL Γ G H l vs) (b:RelDs Γ G H ds vs):CL Γ ds l vs G (jh Y U H):=by
 refine⟨?_,b.mon (zu s)⟩
 rcases a with a | a
 ·exact(CL.hide s ⟨.inl ⟨a.2,s.heap.off a.1⟩,b⟩ λ⟨j,e,c,d⟩=>(qp s c d).1 a.1).1
 ·exact .inr a
def CT.hide (s:StRel Γ G Y h U H) (c:CT Γ ds l vs G H):CT Γ ds l vs G (jh Y U H):=⟨c.1.mon (zu s),c.2.mon (zu s)⟩
def ZA (h:M.GV a=y0 i):a= .var i:=by
 cases a<;>first | (cases h;rfl) | cases h
def qb1 (h:jc cf (.var i) e=k9): ∃x p,e= .Name x p/\cf.N[i]? =y0 x/\WV cf.sc x=k9/\jdu x=true:=by
 refine xr (λx p h=> ?_) e h
 exact⟨_,_,rfl,xbz h⟩
def qbI (b:Go Γ F X E k cf)(h:jc cf (.var i) e=k9):PE X e (xcI i):=by
 obtain⟨x,p,rfl,d,c,a⟩:=qb1 h
 unfold jdu at a
 rw [Aa7]at a
 exact zl (by rw [b.N];exact d) (b.vis x c) (by simpa using a.1) (by simpa using a.2)
def ZQ (s:StRel Γ G Y h U H)(e:M.Gj Y i=y0 w) (n:w= .v (.lst xs)\/w= .bor xs):
 ∃l a,U[i]? =y0 (y0 (.ref l))/\CL Γ xs l a G H/\CL Γ xs l a G (jh Y U H):=by
 obtain⟨v,k,r⟩:=s.slot i w e
 rcases n with rfl | rfl
 ·obtain⟨l,a,rfl,b,d⟩:=r
  exact⟨l,a,k,⟨b.lok s.heap,d⟩,CL.hideS s b d⟩
 ·obtain⟨l,a,rfl,b,d,m⟩:=r
  have c:CL Γ xs l a G H:=⟨.inl ⟨d,b⟩,m⟩
  refine⟨l,a,k,c,c.hide s λ⟨j,o,g,p⟩=> ?_⟩
  have f:j≠i:=λz=>by rw [z,e]at g;cases g
  exact s.apart j i o _ l f g e rfl p k
def XC (m:StRel Γ G0 Y h0 U H0) (s:StRel Γ G Y h U H)(r:RelW Γ G H w v) (f:FreshW Y U H0 w v) (i:w= .v (.lst xs)\/w= .own xs):
 ∃l a,v= .ref l/\CL Γ xs l a G H/\CL Γ xs l a G (jh Y U H):=by
 rcases i with rfl | rfl
 ·obtain⟨l,a,rfl,d,b⟩:=r
  exact⟨l,a,rfl,⟨d.lok s.heap,b⟩,CL.hideS s d b⟩
 ·obtain⟨l,a,rfl,d,b,e,p⟩:=r
  obtain⟨q,g,hn⟩:=f
  cases g
  have c:CL Γ xs l a G H:=⟨.inl ⟨.inl e,b⟩,p⟩
  refine⟨l,a,rfl,c,c.hide s λ⟨j,t,k,n⟩=> ?_⟩
  obtain⟨o,z⟩:=m.slotThere k rfl n
  rw [hn]at z;cases z
def za4 (j:Go Γ F X E k cf)(T:jc cf a e=k9):PI X tg e (jdJ Γ E k9 (M.Gu F (.seq a))):=by
 cases q:M.GV a with
 | some i=>
  cases ZA q
  refine PI.imp (qas (qbI j T)) λU H R K=> ?_
  obtain⟨G,Y,h,s,p⟩:=K
  have p:Post Γ E G H (M.R.of h ((M.Gj Y i).bind M.lpV)) λy _ o f=> ∀J C,Wn Γ J y C->C o f->(k9=k9->C o (jh Y U f))->R J f:=p
  cases A:M.Gj Y i with
  | none=>rw [A]at p;exact p.elim
  | some w=>
   rw [A]at p
   have lst: ∀ {b},(w= .v (.lst b)\/w= .bor b)->Post Γ E G H (.ok b h) (λy _ o f=> ∀J C,Wn Γ J y C->C o f->(k9=k9->C o (jh Y U f))->R J f) →
    ∃v,U[i]? =y0 (y0 v)/\((∃ a,v= .ref a/\(∃ b,SqL X.K H a b)/\R (jdN X.K a) H)\/(∃ a,v= .ref a/\(∃ b,qdV X.K H a b)/\R (xdt X.K a) H)\/ ∃z,v= .str z/\R (qdu z) H):=λ{b} O p=>by
    obtain⟨l,n,t,B,L⟩:=ZQ s A O
    exact⟨_,t,.inl ⟨l,rfl,⟨n,j.K▸B.1.sq⟩,p G H Ext.refl s.heap _ _ (CL.walk j.K) B λ_=>L⟩⟩
   cases w with
   | v d=>
    cases d with
    | lst b=>exact lst (.inl rfl) p
    | tup b=>
     obtain⟨v,t,l,n,rfl,u,S⟩:=s.slot i _ A
     have c:CT Γ b l n G H:=⟨u,S⟩
     exact⟨_,t,.inr (.inl ⟨l,rfl,⟨n,j.K▸u.sq⟩,p G H Ext.refl s.heap _ _ (CT.walk j.K) c λ_=>c.hide s⟩)⟩
    | non=>exact p.elim
    | bl _=>exact p.elim
    | int _=>exact p.elim
    | str z=>
     obtain⟨v,t,r⟩:=s.slot i _ A
     cases (show v= .str (zdH z)from r)
     exact⟨_,t,.inr (.inr ⟨_,rfl,p G H Ext.refl s.heap _ _ zD trivial λ_=>trivial⟩)⟩
    | ref _=>exact p.elim
    | exc _ _=>exact p.elim
    | err _ _ _=>exact p.elim
   | bor b=>exact lst (.inr rfl) p
   | own b=>exact p.elim
 | none=>
  refine PI.imp (qas (zc a j T).1) λU H R K=> ?_
  obtain⟨G,Y,h,s,p⟩:=K
  have p:=by
   unfold M.Gu at p
   dsimp only at p
   rw [q]at p
   exact p
  refine Ja s.heap Ext.refl s p λN D Z I m Q V x P W g=> ?_
  have lst: ∀ {b},(N= .v (.lst b)\/N= .own b)->Post Γ E G H (.ok b Z) (λy _ o f=> ∀J C,Wn Γ J y C->C o f->(k9=k9->C o (jh Y U f))->R J f) →
   ((∃ a,D= .ref a/\(∃ b,SqL X.K m a b)/\R (jdN X.K a) m)\/(∃ a,D= .ref a/\(∃ b,qdV X.K m a b)/\R (xdt X.K a) m)\/ ∃z,D= .str z/\R (qdu z) m):=λ{b} O p=>by
   obtain⟨l,n,t,B,L⟩:=XC s x P W O
   exact .inl ⟨l,t,⟨n,j.K▸B.1.sq⟩,p I m Q x.heap _ _ (CL.walk j.K) B λ_=>L⟩
  cases N with
  | v d=>
   cases d with
   | lst b=>exact lst (.inl rfl) g
   | tup b=>
    obtain⟨l,n,rfl,u,S⟩:=P
    have c:CT Γ b l n I m:=⟨u,S⟩
    exact .inr (.inl ⟨l,rfl,⟨n,j.K▸u.sq⟩,g I m Q x.heap _ _ (CT.walk j.K) c λ_=>c.hide x⟩)
   | non=>exact g.elim
   | bl _=>exact g.elim
   | int _=>exact g.elim
   | str z=>
    cases (show D= .str (zdH z)from P)
    exact .inr (.inr ⟨_,rfl,g I m Q x.heap _ _ zD trivial λ_=>trivial⟩)
   | ref _=>exact g.elim
   | exc _ _=>exact g.elim
   | err _ _ _=>exact g.elim
  | own b=>exact lst (.inr rfl) g
  | bor b=>exact g.elim
def za1 (f:Go Γ F X E k cf)(W:qdq cf.sc "reversed" g=true) (o:Qa x=true) (L:jc cf a x=true):PI X tg (.Call g [x] [] pos) (jdJ Γ E true (M.Gu F (.rev a))):=by
 obtain⟨Z,rfl,I,h3⟩:=wb W
 cases q:M.GV a with
 | some i=>
  cases ZA q
  refine PI.imp (qaF (f.gl _ I) (f.blt _ xbN) (Xb (qbI f L) zg (ja o)) (ja o)) λU H R t=> ?_
  obtain⟨G,Y,h,s,p⟩:=t
  have p:Post Γ E G H (M.R.of h ((M.Gj Y i).bind M.Pr)) λm _ j c=> ∀J C,Wn Γ J m C->C j c->(k9=k9->C j (jh Y U c))->R J c:=p
  cases A:M.Gj Y i with
  | none=>rw [A]at p;exact p.elim
  | some w=>
   rw [A]at p
   have lst: ∀ {b},(w= .v (.lst b)\/w= .bor b)->Post Γ E G H (.ok b.reverse h) (λm _ j c=> ∀J C,Wn Γ J m C->C j c->(k9=k9->C j (jh Y U c))->R J c) →
    ∃v,U[i]? =y0 (y0 v)/\ ∃a b,[v]= [.ref a]/\SqL X.K H a b/\R (zds X.K a b.length) H:=λ{b} z p=>by
    obtain⟨l,B,D,n,u⟩:=ZQ s A z
    exact⟨_,D,l,B,rfl,f.K▸n.1.sq,p G H Ext.refl s.heap _ _ (CL.walkR f.K) n λ_=>u⟩
   cases w with
   | v d=>
    cases d with
    | lst b=>exact lst (.inl rfl) p
    | tup _=>exact p.elim
    | non=>exact p.elim
    | bl _=>exact p.elim
    | int _=>exact p.elim
    | str _=>exact p.elim
    | ref _=>exact p.elim
    | exc _ _=>exact p.elim
    | err _ _ _=>exact p.elim
   | bor b=>exact lst (.inr rfl) p
   | own b=>exact p.elim
 | none=>
  refine PI.imp (qaF (f.gl _ I) (f.blt _ xbN) (Xb (zc a f L).1 zg (ja o)) (ja o)) λU H R t=> ?_
  obtain⟨G,Y,h,s,p⟩:=t
  have p:=by
   unfold M.Gu at p
   dsimp only at p
   rw [q]at p
   exact p
  refine Ja s.heap Ext.refl s p λy P T V r Q N K O S e=> ?_
  have lst: ∀ {b},(y= .v (.lst b)\/y= .own b)->Post Γ E G H (.ok b.reverse T) (λm _ j c=> ∀J C,Wn Γ J m C->C j c->(k9=k9->C j (jh Y U c))->R J c) →
   ∃a b,[P]= [.ref a]/\SqL X.K r a b/\R (zds X.K a b.length) r:=λ{b} z p=>by
   obtain⟨l,B,D,n,u⟩:=XC s K O S z
   exact⟨l,B,by rw [D],f.K▸n.1.sq,p V r Q K.heap _ _ (CL.walkR f.K) n λ_=>u⟩
  cases y with
  | v d=>
   cases d with
   | lst b=>exact lst (.inl rfl) e
   | tup _=>exact e.elim
   | non=>exact e.elim
   | bl _=>exact e.elim
   | int _=>exact e.elim
   | str _=>exact e.elim
   | ref _=>exact e.elim
   | exc _ _=>exact e.elim
   | err _ _ _=>exact e.elim
  | own b=>exact lst (.inr rfl) e
  | bor b=>exact e.elim
theorem jy: ∀(ds) (i),(M.KO i ds).length=ds.length
 | [],_=>rfl
 | d::ds,i=>congrArg (· +1) (jy ds (i+1))
theorem Z5: ∀(ds) (j i) (h:i<ds.length),(M.KO j ds)[i]? =y0 (.tup [.int ((j+i:Nat):Int),ds[i]])
 | d::ds,j,0,_=>rfl
 | d::ds,j,i+1,h=>by
  have:=Z5 ds (j+1) i (by simpa using h)
  rw [show j+1+i=j+(i+1)by omega]at this
  simpa [M.KO]using this
def zcs: "enumerate" ∈bltN:=by decide
def CT.walkE {K:Aa6}(g:K=Γ.K):Wn Γ (xdv K l) (M.KO 0 ds) (CT Γ ds l vs) where
 go:=by
  rintro i G H ⟨c,d⟩ b
  rw [jy]at b
  obtain⟨v,e,_⟩:=d.get (Aa4 b)
  exact⟨vs,v,g▸c.sq,e⟩
 yld:=by
  rintro i G H x n ⟨c,d⟩ b ⟨p,y,j,ex,r,k⟩
  rw [jy]at b
  subst ex r
  obtain⟨v,e,rd⟩:=d.get (Aa4 b)
  have:=k vs (g▸c.sq)
  rw [e]at this
  cases this
  refine⟨G.more p,Wg _ j,λh f=>f.newF _ j,.tup [.int i,ds[i]],by rw [Z5 ds 0 i b,Ag8],⟨p,[.int i,y],rfl,.inl ⟨.inr rfl,xb⟩,⟨.int i,[y],rfl,rfl,⟨y,[],rfl,?_,rfl⟩⟩⟩⟩
  have s:Mon G H (G.more p) (zdL H p (.tup [.int i,y])):=⟨λa o u q=>by rw [qa (Xa q j)];exact q,Aa5 _,λ_ _=>rfl,λ_ z=>Or.inl z⟩
  exact rd.mon s
 stop:=by
  rintro i G H ⟨c,d⟩ t m
  rw [jy]at t m
  exact⟨vs,g▸c.sq,by rw [← d.length];omega⟩
 keep:=λG H w n h z e f=>⟨z.1.mon (e.mon f),z.2.ext e f⟩
def zaj (f:Go Γ F X E k cf)(N:qdq cf.sc "enumerate" g=true) (r:Qa x=true) (z:PE X x (tD Γ E (M.eval F a))):PI X (.Tuple elts x1 tp) (.Call g [x] [] pos) (jdJ Γ E true (M.Gu F (.enum a))):=by
 obtain⟨O,rfl,y,P⟩:=wb N
 refine PI.imp (jbN (f.gl _ y) (f.blt _ zcs) (Xb z zg (ja r)) (ja r)) λU H R u=> ?_
 obtain⟨G,Y,h,s,p⟩:=u
 have p:Post Γ E G H ((M.eval F a Y h).bind λw h=>match w with
  | .v (.tup e)=> .ok (M.KO 0 e) h
  | _=> .fail) λI _ t i=> ∀J C,Wn Γ J I C->C t i->(k9=k9->C t (jh Y U i))->R J i:=p
 refine Ja s.heap Ext.refl s p λB Q T q m K A n D S b=> ?_
 cases B with
 | v d=>
  cases d with
  | tup e=>
   obtain⟨l,o,rfl,j,L⟩:=D
   have c:CT Γ e l o q m:=⟨j,L⟩
   exact⟨l,o,rfl,f.K▸j.sq,b q m K n.heap _ _ (CT.walkE f.K) c λ_=>c.hide n⟩
  | non=>exact b.elim
  | bl _=>exact b.elim
  | int _=>exact b.elim
  | str _=>exact b.elim
  | lst _=>exact b.elim
  | ref _=>exact b.elim
  | exc _ _=>exact b.elim
  | err _ _ _=>exact b.elim
 | own e=>exact b.elim
 | bor e=>exact b.elim
def jcJ: "zip" ∈bltN:=by decide
theorem CZ.walk {K:Aa6}(d:K=Γ.K):Wn Γ (xdN K l a) ((xs.zip ys).map λp=> .tup [p.1,p.2]) (λG H=>CL Γ xs l vs G H/\CT Γ ys a us G H) where
 go:=by
  rintro i G H ⟨c,b⟩ j
  rw [Aa,Ak5]at j
  obtain⟨v,e,_⟩:=c.2.get (Aa4 (show i<xs.length by omega))
  obtain⟨A,r,_⟩:=b.2.get (Aa4 (show i<ys.length by omega))
  exact⟨vs,v,us,A,d▸c.1.sq,e,d▸b.1.sq,r⟩
 yld:=by
  rintro i G H x u ⟨c,b⟩ j ⟨p,n,g,s,ex,D,t,k⟩
  rw [Aa,Ak5]at j
  subst ex D
  have C:i<xs.length:=by omega
  have E:i<ys.length:=by omega
  obtain⟨v,e,rd⟩:=c.2.get (Aa4 C)
  obtain⟨A,r,m⟩:=b.2.get (Aa4 E)
  have w:=t vs (d▸c.1.sq)
  rw [e]at w
  cases w
  have B:=k us (d▸b.1.sq)
  rw [r]at B
  cases B
  have y:Mon G H (G.more p) (zdL H p (.tup [n,g])):=⟨λa o I q=>by rw [qa (Xa q s)];exact q,Aa5 _,λ_ _=>rfl,λ_ z=>Or.inl z⟩
  refine⟨G.more p,Wg _ s,λh f=>f.newF _ s,.tup [xs[i],ys[i]],?_,⟨p,[n,g],rfl,.inl ⟨.inr rfl,xb⟩,⟨n,[g],rfl,rd.mon y,⟨g,[],rfl,m.mon y,rfl⟩⟩⟩⟩
  rw [Ad,Aa4 (by rw [Ak5];exact j),List.getElem_zip]
  rfl
 stop:=by
  rintro i G H ⟨c,b⟩ t k
  rw [Aa,Ak5]at t k
  exact⟨vs,us,d▸c.1.sq,d▸b.1.sq,by rw [← c.2.length,←b.2.length];omega⟩
 keep:=λG H F u h ⟨c,b⟩ e f=>⟨(CL.walk d).keep G H F u h c e f,⟨b.1.mon (e.mon f),b.2.ext e f⟩⟩
def jaW (e:Go Γ F X E k cf)(hg:qdq cf.sc "zip" g=true) (I:Qa x=true) (f:Qa y=true) (N:PE X x (tD Γ E (M.eval F a))) (Q:PE X y (tD Γ E (M.eval F b))):PI X (.Tuple elts x1 tp) (.Call g [x,y] [] pos) (jdJ Γ E true (M.Gu F (.zip a b))):=by
 obtain⟨p0,rfl,u,h3⟩:=wb hg
 refine PI.imp (jcq (e.gl _ u) (e.blt _ jcJ) (Xb N (Xb Q zg (ja f)) (ja I)) (by rw [ja I,ja f];rfl) (by rw [ja f];rfl)) λU H R L=> ?_
 obtain⟨G,Y,h,s,p⟩:=L
 have p:Post Γ E G H ((M.eval F a Y h).bind λx h=>(M.eval F b Y h).bind λy h=>match x,y with
  | .own m,.v (.tup n)=> .ok ((m.zip n).map λp=>M.D.tup [p.1,p.2]) h
  | _,_=> .fail) λT _ K i=> ∀J C,Wn Γ J T C->C K i->(k9=k9->C K (jh Y U i))->R J i:=p
 refine Ja s.heap Ext.refl s p λP v1 h1 G1 H1 e1 O w S f1 V=> ?_
 refine Ja s.heap e1 w V λw2 v2 u t A W q o r2 f2 c=> ?_
 cases P with
 | v d=>exact c.elim
 | bor m=>exact c.elim
 | own m=>
  cases w2 with
  | own _=>exact c.elim
  | bor _=>exact c.elim
  | v d=>
   cases d with
   | tup n=>
    obtain⟨l,Z,rfl,D,j⟩:=XC s o (S.ext q w.heap) f1 (.inr rfl)
    obtain⟨l2,B,rfl,r,z3⟩:=r2
    have z:CT Γ n l2 B t A:=⟨r,z3⟩
    exact⟨l,l2,Z,B,rfl,e.K▸D.1.sq,e.K▸r.sq,c t A W o.heap _ _ (CZ.walk e.K) ⟨D,z⟩ λ_=>⟨j,z.hide o⟩⟩
   | non=>exact c.elim
   | bl _=>exact c.elim
   | int _=>exact c.elim
   | str _=>exact c.elim
   | lst _=>exact c.elim
   | ref _=>exact c.elim
   | exc _ _=>exact c.elim
   | err _ _ _=>exact c.elim
def zdg (c:Go Γ F X E k cf){it:M.It}{e m:Expr}(q:xaI it m=k9) (h:jbS cf it e=k9):PI X m e (jdJ Γ E k9 (M.Gu F it))/\Ze e=true:=by
 cases it with
 | seq a=>exact⟨za4 c (a2 h).2,(a2 h).1⟩
 | range1 a=>
  refine zi (λg x l p h=> ?_) e h
  refine kE (λh=> ?_) l h
  refine kC (λx r h=> ?_) x h
  refine kE (λh=> ?_) r h
  obtain⟨i,d,f⟩:=a3 h
  exact⟨WC c i d (zc a c f).1,rfl⟩
 | range2 a b=>
  refine zi (λg x l p h=> ?_) e h
  refine kE (λh=> ?_) l h
  refine kC (λx r h=> ?_) x h
  refine kC (λy r h=> ?_) r h
  refine kE (λh=> ?_) r h
  obtain⟨i,d,f,o,n⟩:=a5 h
  exact⟨jB c i d f (zc a c o).1 (zc b c n).1,rfl⟩
 | rev a=>
  refine zi (λg x l p h=> ?_) e h
  refine kE (λh=> ?_) l h
  refine kC (λx r h=> ?_) x h
  refine kE (λh=> ?_) r h
  obtain⟨i,d,f⟩:=a3 h
  exact⟨za1 c i d f,rfl⟩
 | zip a b=>
  cases m with
  | Tuple j t s=>
   refine zi (λg x l p h=> ?_) e h
   refine kE (λh=> ?_) l h
   refine kC (λx r h=> ?_) x h
   refine kC (λy r h=> ?_) r h
   refine kE (λh=> ?_) r h
   obtain⟨i,d,f,o,n⟩:=a5 h
   exact⟨jaW c i d f (zc a c o).1 (zc b c n).1,rfl⟩
  | _=>exact xdF q
 | enum a=>
  cases m with
  | Tuple j t s=>
   refine zi (λg x l p h=> ?_) e h
   refine kE (λh=> ?_) l h
   refine kC (λx r h=> ?_) x h
   refine kE (λh=> ?_) r h
   obtain⟨i,d,f⟩:=a3 h
   exact⟨zaj c i d (zc a c f).1,rfl⟩
  | _=>exact xdF q
end
section
variable {Γ:Ge}{F:M.Fx}{X:Cx}{E:XK}{k:Nat}{cf:Cf}
def zbS (e:Go Γ F X E k cf)(f:Zs v=k9)(h:jc cf m v=k9):PS X (.Expr v pos) (qdZ Γ E (M.exec F (.ex m))):=by
 refine PS.imp (jI (zc m e h).1 (Qc f)) λD U H b=> ?_
 obtain⟨B,G,Y,h,s,p⟩:=b
 exact Ji s p λw v n g a j c i l d=>d g U a c
def qaE (s:StS Γ B G Y h U H)(f:FreshW Y U H w v) (e: ∀xs,w≠ .bor xs):FreshW [] [] B.H w v:=by
 cases w with
 | v d=>trivial
 | own xs=>obtain⟨a,c,b⟩:=f;exact⟨a,c,s.ext.none s.hr b⟩
 | bor xs=>exact absurd rfl (e xs)
def xa3 (n:Go Γ F X E k cf)(h:jc cf m v=k9):PS X (.Return (y0 v) pos) (qdZ Γ E (M.exec F (.ret m))):=by
 cases q:M.GV m with
 | some i=>
  cases ZA q
  refine PS.imp (qbn (qbI n h)) λD U H f=> ?_
  obtain⟨B,G,Y,h,s,p⟩:=f
  rw [M.exec,q]at p
  dsimp only at p
  cases e:M.Gj Y i with
  | none=>rw [e]at p;exact p.elim
  | some w=>
   rw [e]at p
   obtain⟨v,t,r⟩:=s.st.slot i w e
   refine⟨v,t,?_⟩
   cases w with
   | bor b=>exact p.elim
   | v d=>exact p G v H s.ext s.st.heap r trivial
   | own b=>
    have u:=r
    obtain⟨a,y,rfl,_⟩:=u
    exact p G _ H s.ext s.st.heap r ⟨a,rfl,s.own i b a e t⟩
 | none=>
  refine PS.imp (qbn (zc m n h).1) λD U H f=> ?_
  obtain⟨B,G,Y,h,s,p⟩:=f
  have p:PostO Γ E B ((M.eval F m Y h).toO λw h=>match w with
   | .bor _=> .fail
   | w=> .ret w h) D:=by
   rw [M.exec,q]at p;exact p
  refine Ji s p λw v C o j A c l x g=> ?_
  cases w with
  | bor b=>exact g.elim
  | v d=>exact g o v j c.ext c.st.heap l trivial
  | own b=>exact g o v j c.ext c.st.heap l (qaE s x λb z=>by cases z)
def xa8 (l:PT X x (qdS Γ E (M.Gr F c))) (j:PSs X ys (qdZ Γ E (M.execs F a))) (k:PSs X zs (qdZ Γ E (M.execs F b))):PS X (.If x ys zs pos) (qdZ Γ E (M.exec F (.iff c a b))):=by
 refine PS.imp (qcU l j k) λD U H i=> ?_
 obtain⟨B,G,Y,h,s,p⟩:=i
 refine xZ s p λt f g m n d e=> ?_
 cases t with
 | true=>exact zcS ⟨B,g,Y,f,d,e⟩
 | false=>exact jcO ⟨B,g,Y,f,d,e⟩
def q9 {st:Stmt}(h1:PS X st (qdZ Γ E (M.exec F s))) (h2:PSs X sts (qdZ Γ E (M.execs F ss))):PSs X (st::sts) (qdZ Γ E (M.execs F (.cons s ss))):=by
 refine PSs.imp (zaR h1 h2) λD U H e=> ?_
 obtain⟨B,G,Y,h,c,p⟩:=e
 rw [M.execs]at p
 refine⟨B,G,Y,h,c,?_⟩
 cases q:M.exec F s Y h with
 | next b a=>rw [q]at p;exact λg j i f=>⟨B,g,b,a,f,p⟩
 | ret w a=>rw [q]at p;exact p
 | brk b a=>rw [q]at p;exact p
 | cont b a=>rw [q]at p;exact p
 | exc d a=>rw [q]at p;exact p
 | fail=>rw [q]at p;exact p
def xag:PSs X [] (qdZ Γ E (M.execs F .nil)):=PSs.imp qb4 λD U H ⟨B,G,Y,h,s,p⟩=>p G U H s
def JM (h2:PSs X sts (qdZ Γ E (M.execs F ss))):PSs X sts (qdZ Γ E (M.execs F (.cons (.freeze i) ss))):=by
 refine PSs.imp h2 λD U H b=> ?_
 obtain⟨B,G,Y,h,s,p⟩:=b
 rw [M.execs,M.exec]at p
 cases q:M.Gj Y i with
 | none=>rw [q]at p;exact⟨B,G,Y,h,s,p⟩
 | some w=>
  rw [q]at p
  cases w with
  | v d=>exact⟨B,G,Y,h,s,p⟩
  | bor c=>exact⟨B,G,Y,h,s,p⟩
  | own c=>
   obtain⟨e,a⟩:=s.freeze q
   exact⟨B,e,_,h,a,p⟩
def xa0 (J:jdS Γ F X E k cf)(K:PT X x (qdS Γ E (M.Gr F c))) (I:PSs X ys (qdZ Γ E (M.execs F b))):PS X (.While x ys [] pos) (qdZ Γ E (M.exec F (.whl n c b))):=by
 refine PS.imp (xbe J.pown K I) λD U H C=> ?_
 obtain⟨B,G,Y,h,s,p⟩:=C
 refine⟨λm U H=> ∃G Y h,StS Γ B G Y h U H/\PostO Γ E B (M.KN (λY h=>M.Gr F c Y h) (λY h=>M.execs F b Y h) m Y h) D,⟨n,G,Y,h,s,p⟩,?_⟩
 rintro m U H ⟨G,Y,h,s,p⟩
 cases m with
 | zero=>exact p.elim
 | succ m=>
  refine xZ s p λt l z A L v a=> ?_
  cases t with
  | false=>exact jcO (a z U A v)
  | true=>
   refine zcS ⟨_,λy u w=>⟨m,Ag7 _,w⟩,B,z,Y,l,v,?_⟩
   have a:PostO Γ E B (match M.execs F b Y l with
    | .next g f=>M.KN (λY h=>M.Gr F c Y h) (λY h=>M.execs F b Y h) m g f
    | .cont g f=>M.KN (λY h=>M.Gr F c Y h) (λY h=>M.execs F b Y h) m g f
    | .brk g f=> .next g f
    | o=>o) D:=a
   cases q:M.execs F b Y l with
   | next i e=>rw [q]at a;exact λr y u j=>⟨r,i,e,j,a⟩
   | cont i e=>rw [q]at a;exact λr y u j=>⟨r,i,e,j,a⟩
   | ret w e=>rw [q]at a;exact a
   | brk i e=>rw [q]at a;exact a
   | exc d e=>rw [q]at a;exact a
   | fail=>rw [q]at a;exact a
def zaT (A:jdS Γ F X E k cf)(he:xaI it t=k9) (ht:je cf tg one t=k9) (hi:jbS cf it iter=k9) (hb:PSs X ys (qdZ Γ E (M.execs F b))):
 PS X (.For t iter ys [] pos) (qdZ Γ E (M.exec F (.for tg one it b))):=by
 obtain⟨li,ls⟩:=zdg A.toGo he hi
 refine PS.imp (qcg A.pown A.calm li (Qo A.toGo ht) hb (QV ls)) λD U H qq=> ?_
 obtain⟨B,G,Y,h,s,p⟩:=qq
 rw [M.exec]at p
 refine⟨G,Y,h,s.st,?_⟩
 cases q:M.Gu F it Y h with
 | exc d v=>rw [q]at p;exact PostO.exc s p
 | fail=>rw [q]at p;exact p
 | ok f v=>
  rw [q]at p
  intro I K e hr J C z c0 L
  have s1:=s.on e hr
  have p1:=xaT s1 p
  have cB:=L rfl
  have s2:=qce s1
  refine⟨λi m R r=> ∃u y n,(m=f.length-i/\i<=f.length)/\StS Γ (jdD I Y v U K) u y n R r/\PostO Γ E (jdD I Y v U K) (M.Gq (M.Gp tg one) (λY h=>M.execs F b Y h) (f.drop i) y n) D,
   ⟨f.length,I,Y,v,⟨by simp,Ah3 _⟩,s2,p1⟩,?_⟩
  rintro i m R r ⟨u,y,n,⟨rfl,hi'⟩,l,a⟩
  have S:=z.keep _ _ _ _ _ cB l.ext l.hr
  by_cases j:i<f.length
  ·refine .inr ⟨z.go i u r S j,_,λU2 H2 w=>⟨f.length-(i+1),by omega,w⟩,λx W hy=> ?_⟩
   obtain⟨G4,x4,Q,d,ed,O⟩:=z.yld i u r x W S j hy
   have l:=l.on x4 (Q _ l.st.heap)
   have Z:f.drop i=d::f.drop (i+1):=by
    rw [Al7 j]
    rw [Aa4 j]at ed
    cases ed
    rfl
   rw [Z,M.Gq]at a
   cases P:M.Gp tg one d y with
   | none=>rw [P]at a;exact a.elim
   | some T=>
    rw [P]at a
    refine jb1 P O l λU2 s3=>⟨_,G4,T,n,s3,?_⟩
    have a:PostO Γ E (jdD I Y v U K) (match M.execs F b T n with
     | .next g c=>M.Gq (M.Gp tg one) (λY h=>M.execs F b Y h) (f.drop (i+1)) g c
     | .cont g c=>M.Gq (M.Gp tg one) (λY h=>M.execs F b Y h) (f.drop (i+1)) g c
     | .brk g c=> .next g c
     | o=>o) D:=a
    cases q:M.execs F b T n with
    | next g c=>rw [q]at a;exact λV U3 H3 N=>⟨V,g,c,⟨rfl,by omega⟩,N,a⟩
    | cont g c=>rw [q]at a;exact λV U3 H3 N=>⟨V,g,c,⟨rfl,by omega⟩,N,a⟩
    | ret w c=>rw [q]at a;exact a
    | brk g c=>rw [q]at a;exact a
    | exc d c=>rw [q]at a;exact a
    | fail=>rw [q]at a;exact a
  ·have ei:i=f.length:=by omega
   subst ei
   rw [List.drop_length]at a
   exact .inl ⟨z.stop _ u r S (Aa5 _) (Aa5 _),a u R r l⟩
theorem wE: ∀ {es}{xs}{Y}{h}{ds}{h'},chkEs cf es xs=k9->M.Gf F es Y h= .ok ds h'->ds.length=xs.length
 | .nil,xs,_,_,_,_,c,e=>by
  cases Af6.mp c
  rw [M.Gf]at e;cases e;rfl
 | .cons a es,xs,Y,h,ds,h',c,e=>by
  refine kC (λx r c=> ?_) xs c
  obtain⟨w,d,g,e⟩:=jd e
  obtain⟨r,f,b,e⟩:=jd e
  cases e
  rw [Ab9,Ab9,wE (a2 c).2 b]
theorem wv: ∀(Y) (i j),M.Gj (Y.set i u0) j=if j=i then u0 else M.Gj Y j
 | [],i,j=>by simp
 | x::r,0,0=>by simp
 | x::r,0,j+1=>by simp
 | x::r,i+1,0=>by simp
 | x::r,i+1,j+1=>by simpa using wv r i j
def StS.clear (s:StS Γ B G Y h U H):StS Γ B G (Y.set i u0) h (U.set i u0) H:=by
 have ne: ∀ {j w},M.Gj (Y.set i u0) j=y0 w->j≠i/\M.Gj Y j=y0 w:=λ{j w} e=>by
  rw [wv]at e
  split at e
  ·cases e
  ·rename_i b;exact⟨b,e⟩
 have f: ∀ {j},j≠i->(U.set i u0)[j]? =U[j]? :=λ{j} b=>Ad5 (Ne.symm b)
 refine⟨⟨by rw [Ae3,Ae3];exact s.st.len,λj w e=> ?_,λp q g w a k c d o l=> ?_,s.st.heap⟩,s.ext,s.hr,λj g a c d=> ?_⟩
 ·obtain⟨b,e⟩:=ne e
  obtain⟨v,n,m⟩:=s.st.slot j w e
  exact⟨v,by rw [f b];exact n,m⟩
 ·obtain⟨r,c⟩:=ne c
  obtain⟨t,d⟩:=ne d
  rw [f r]at l
  rw [f t]
  exact s.st.apart p q g w a k c d o l
 ·obtain⟨b,c⟩:=ne c
  rw [f b]at d
  exact s.own j g a c d
def StS.mv (s:StS Γ B G Y h U H)(e:M.Gj Y j=y0 (.own xs)) (y:U[j]? =y0 (y0 (.ref a))):StS Γ B G (M.GB (Y.set j u0) i (.own xs)) h (U.set i (y0 (.ref a))) H:=by
 have d: ∀ {k w},M.Gj (M.GB (Y.set j u0) i (.own xs)) k=y0 w->(k=i/\i<Y.length/\w= .own xs)\/(k≠i/\k≠j/\M.Gj Y k=y0 w):=λ{k w} q=>by
  rw [Zd]at q
  by_cases c:k=i/\i<(Y.set j u0).length
  ·rw [if_pos c]at q
   cases q
   exact .inl ⟨c.1,by have:=c.2;rw [Ae3]at this;exact this,rfl⟩
  ·rw [if_neg c,wv]at q
   split at q
   ·cases q
   ·rename_i E
    refine .inr ⟨λz=>c ⟨z,?_⟩,E,q⟩
    rw [Ae3,←z]
    exact jn q
 have m: ∀ {k},k≠i->(U.set i (y0 (V.ref a)))[k]? =U[k]? :=λ{k} E=>Ad5 (Ne.symm E)
 have x:i<Y.length->(U.set i (y0 (V.ref a)))[i]? =y0 (y0 (.ref a)):=λf=>Ad6 (by rw [← s.st.len];exact f)
 refine⟨⟨by rw [Xi,Ae3,Ae3];exact s.st.len,λk w q=> ?_,λp q u w b n F g K l=> ?_,s.st.heap⟩,s.ext,s.hr,λk u b F g=> ?_⟩
 ·rcases d q with⟨rfl,f,rfl⟩ | ⟨o,C,q⟩
  ·obtain⟨v,r,A⟩:=s.st.slot j _ e
   rw [y]at r
   cases r
   exact⟨_,x f,A⟩
  ·obtain⟨v,r,A⟩:=s.st.slot k w q
   exact⟨v,by rw [m o];exact r,A⟩
 ·rcases d F with⟨rfl,f,z⟩ | ⟨o,C,t⟩
  ·rcases d g with⟨rfl,_,_⟩ | ⟨D,J,I⟩
   ·exact absurd rfl n
   ·rw [x f]at l
    cases l
    rw [m D]
    exact s.st.apart j q xs w a (Ne.symm J) e I K y
  ·rw [m o]at l
   rcases d g with⟨rfl,f,z⟩ | ⟨D,J,I⟩
   ·rw [x f]
    intro L
    cases L
    exact s.st.apart p j u (.own xs) a C t e rfl l y
   ·rw [m D]
    exact s.st.apart p q u w b n t I K l
 ·rcases d F with⟨rfl,f,z⟩ | ⟨o,C,t⟩
  ·rw [x f]at g
   cases g
   exact s.own j xs a e y
  ·rw [m o]at g
   exact s.own k u b t g
def jb2 (b:Go Γ F X E k cf)(f:Qu cf i x=k9) (h1:cf.N[j]? =y0 y) (h2:WV cf.sc y=k9) (c:jdu y=k9):PS X (.Assign [.Name x p] (.Name y p') pos) (qdZ Γ E (M.exec F (.mv i j))):=by
 unfold jdu at c
 rw [Aa7]at c
 have pv:=zl (pos:=p') (by rw [b.N];exact h1) (b.vis y h2) (by simpa using c.1) (by simpa using c.2)
 obtain⟨n,m⟩:=Ju f
 have f:=b.sto x m
 refine PS.imp (jai (by rw [b.N];exact b.nd) (by rw [b.N];exact n) f.1 pv (Qc rfl) f.2) λD U H l=> ?_
 obtain⟨B,G,Y,h,s,q⟩:=l
 rw [M.exec]at q
 cases e:M.Gj Y j with
 | none=>rw [e]at q;exact q.elim
 | some r=>
  rw [e]at q
  cases r with
  | v d=>exact q.elim
  | bor o=>exact q.elim
  | own o=>
   obtain⟨A,g,a,w,rfl,t,z,u,C⟩:=s.st.slot j _ e
   exact⟨.ref a,g,q G _ H (s.mv e g)⟩
def J9 (b:jdS Γ F X E k cf)(y:qdq cf.sc c g=k9) (w:cf.rai.contains c=k9) (t:(x::xs).length<=1000) (a:chkEs cf es (x::xs)=k9):
 PS X (.Raise (y0 (.Call g (x::xs) [] k7)) u0 pos) (qdZ Γ E (M.exec F (.raise c es))):=by
 obtain⟨z,rfl,j,n⟩:=wb y
 obtain⟨m,o⟩:=b.rai c w j n
 refine PS.imp (o _ _ _ _ _ _ (sndWs es b.toGo a) (Xe a)) λD U H i=> ?_
 obtain⟨B,G,Y,h,s,p⟩:=i
 rw [M.exec]at p
 refine⟨G,Y,h,s.st,?_⟩
 cases q:M.Gf F es Y h with
 | exc d u=>rw [q]at p;exact PostO.exc s p
 | fail=>rw [q]at p;exact p
 | ok C u=>
  rw [q]at p
  intro v f e l A r
  refine⟨?_,(p v f (s.ext.trans s.hr e) l).1 c rfl m⟩
  rw [← r.length,wE a q]
  exact Ah2 (xl t)
def Z6 (m:jdS Γ F X E k cf)(J:qdq cf.sc c g=k9) (I:cf.ob.er.contains (c,f)=k9) (j:chkEs cf (.cons e .nil) [x]=k9):
 PS X (.Raise (y0 (.Call g [x] [] k7)) u0 pos) (qdZ Γ E (M.exec F (.raisf c f e))):=by
 obtain⟨L,rfl,o,w⟩:=wb J
 obtain⟨t,u,y⟩:=m.rfi c f I o w
 refine PS.imp (y _ _ _ _ _ (sndA _ m.toGo j) (Xe j _ Aa3)) λD U H n=> ?_
 obtain⟨B,G,Y,h,s,p⟩:=n
 rw [M.exec]at p
 refine⟨G,Y,h,s.st,?_⟩
 cases q:M.Gm F (.cons e .nil) Y h with
 | exc d A=>rw [q]at p;exact PostO.exc s p
 | fail=>rw [q]at p;exact p
 | ok b A=>
  rw [q]at p
  intro C K z i O r
  cases b with
  | nil=>exact p.elim
  | cons d b=>
   cases b with
   | cons _ _=>exact p.elim
   | nil=>
    obtain⟨v,N,rfl,rd,rfl⟩:=r
    refine⟨v,rfl,λl a=> ?_⟩
    exact(p (C.more l) _ ((s.ext.trans s.hr z).trans s.hr (Wg (.xd [(qf f,v)]) a)) (i.newF _ a)).2 c f d rfl t u l v (.inr rfl) xb (rd.ext (Wg _ a) i)
def jaw (a:zdZ Γ c) (d:w∈Γ.own) (b:(M.Kx Γ.cl 8 c).contains w=k9):PySem.W.kitCls Γ.K (.ref (Γ.ca c)) (.ref (Γ.ca w))=y0 true:=by
 have h:=a.own w d
 rw [b]at h
 unfold Ac5 at h
 split at h
 ·rename_i e
  have e:=by simpa using e
  rw [← e]
  exact a.k.slf
 ·exact h
theorem Go.nox (a:Go Γ F X E k cf):Go Γ F X.nox E0 k cf:=⟨a.N,a.K,a.cl,a.ow,a.nd,a.vis,a.lcl,a.sto,a.cel,a.gl,a.calm,a.room,a.room1,λb U H s e r _ o=>by
 obtain⟨x,q,t,B,u,_,_,_,_,_,_,_,_,_,_,d⟩:=o
 exact d.elim,a.blt,a.con,λf m=>by
 obtain⟨c,p,l,n,g,i,j⟩:=(a.fn f m).imp λc h=>h.ex
 exact⟨c,⟨p,l,n,g,i,j⟩⟩,a.cls,a.fld,a.mth,a.mks⟩
theorem PS.nox {st:Stmt}(h:PS X.nox st t):PS X st t:=λa s U H D I q=>wpAny_mono (h a s U H D (I.wish _) q) (λ_ _ z=>SP.unwish z) λ_ _ z=>False.elim z
def TrySet.imp {st:Stmt}(h:TrySet X wx n v wp vp np ap hp st t) (k: ∀D U H,t' D U H->t D U H):TrySet X wx n v wp vp np ap hp st t':=λa s U H D c I q b=>h a s U H D c I (k _ _ _ q) b
def xcl (i:jdS Γ F X E k cf)(w:cf.own.contains c=k9) (s:StS Γ B G1 Y h1 U H1) (H:Ext G1 H1 G2 H2) (f:HRel Γ G2 h2 H2)
 (p:PostO Γ E B (match M.isX F.cl (.v d) [c]with
   | some true=> .next ((M.GB (M.GB Y nm (.v d)) r (.v d)).set nm u0) h2
   | _=> .fail) D):
 qcN Γ (λj g H2=> ∃C,j= .ref C/\ja0 X.nox.K C/\PySem.W.kitCls X.nox.K (.ref C) (.ref (Γ.ca c))=y0 k9/\ ∀x,H2 x=u0->D.nx (((U.set nm (y0 (.ref x))).set r (y0 (.ref x))).set nm u0) (zdL H2 x (jW x C g))) d G2 H2:=by
 have h: ∀ a g,M.isX F.cl (.v d) [c]=y0 ([c].any (M.Kx F.cl 8 a).contains)->zdZ Γ a->(∀ y,H2 y=u0->RelD Γ (G2.more y) (zdL H2 y (jW y (Γ.ca a) g)) d (.ref y)) →
  ∃C,Value.ref (Γ.ca a)= .ref C/\ja0 X.nox.K C/\PySem.W.kitCls X.nox.K (.ref C) (.ref (Γ.ca c))=y0 k9/\ ∀y,H2 y=u0->D.nx (((U.set nm (y0 (.ref y))).set r (y0 (.ref y))).set nm u0) (zdL H2 y (jW y C g)):=λa g ix b m=>by
  rw [ix]at p
  cases n: [c].any (M.Kx F.cl 8 a).contains with
  | false=>rw [n]at p;exact p.elim
  | true=>
   rw [n]at p
   have z:(M.Kx Γ.cl 8 a).contains c=true:=by rw [← i.cl];simpa using n
   refine⟨_,rfl,i.K▸b.k,i.K▸jaw b (by rw [← i.ow];exact Aj7.mp w) z,λy e=> ?_⟩
   have A:=(s.on H f).on (Wg (jW y (Γ.ca a) g) e) (f.newF (jW y (Γ.ca a) g) e)
   have rd:=m y e
   exact p _ _ _ ((A.setD rd).setD rd).clear
 refine⟨λa l b=> ?_,λa I J l b v q u t o G=> ?_⟩
 ·subst l
  exact h a u0 rfl b λy e=> .inl ⟨rfl,y,rfl,.inr rfl,xb,b⟩
 ·subst l
  exact h a (y0 q) rfl b λy e=>⟨y,q,u,rfl,.inr rfl,.inl t,xb,by rw [qa (Xa o e)];exact o,b,v,G.ext (Wg _ e) f⟩
def zbI (a:jdS Γ F X E k cf)(hg:qdq cf.sc f g=k9) (hf:cf.fns.contains f=k9) (m:chkEs cf es (x::xs)=k9)
 (R:qdq cf.sc c (.Name (qf c) p1)=k9) (hc:cf.hnd.contains c=k9) (hn:xx cf nm n=k9) (i:jdu n=k9) (W:xx cf iv v=k9):
 TrySet X.nox (qf c) n v p1 vp np ap hp (.Expr (.Call g (x::xs) [] cp) ep) (qdZ Γ E λY h=>M.Pn F.call F.cl u0 f c nm iv Y (M.Gf F es Y h)):=by
 obtain⟨p0,rfl,o,P⟩:=wb hg
 obtain⟨_,_,T,K⟩:=wb R
 obtain⟨V,fa,fd,t,N,Z,O⟩:=(a.fn f hf).imp λV h=>h.ex
 obtain⟨Q,I⟩:=a.hnd c hc
 obtain⟨n1,L⟩:=zH hn
 obtain⟨v1,v2⟩:=zH W
 have l:=Xe m
 unfold jdu at i
 rw [Aa7]at i
 refine TrySet.imp (qa2 (λ_ _ z=>z) a.stk a.frm a.ex t a.room (a.gl _ o) O Z N (sndWs es a.toGo.nox m) (a.gl _ T) (a.cls c I) Q (by show X.N.Nodup;rw [a.N];exact a.nd) (by show X.N[nm]? =_;rw [a.N];exact n1) (a.lcl n L) (by show X.N[iv]? =_;rw [a.N];exact v1) (a.lcl v v2)
  (Qc rfl) (Qc rfl) P K (by simpa using i.1) (ja (l _ Aa3)) (xu λe m=>l e (Aa2 _ m))) λD U H ⟨B,G,Y,h,s,p⟩=> ?_
 refine⟨G,Y,h,s.st,?_⟩
 dsimp only at p
 cases q:M.Gf F es Y h with
 | exc d u=>rw [q]at p;exact p.elim
 | fail=>rw [q]at p;exact p.elim
 | ok J u=>
  rw [q]at p
  intro G1 H1 e1 j vs S
  have A:=s.on e1 j
  refine⟨G1,u,_,j,zz S,xA J,?_⟩
  unfold M.Pn at p
  dsimp only at p
  cases r:F.call f (J.map M.W.arg) u with
  | fail=>rw [r]at p;exact p.elim
  | ok w' o=>
   rw [r]at p
   intro y C w b _ _ _
   exact p y U C (A.on w b)
  | exc d o=>
   rw [r]at p
   exact λy C w b=>xcl a I A w b p
def zda (h:qdA cf f s q=k9): ∃g x xs b a,s= .Expr (.Call g (x::xs) [] b) a/\qdq cf.sc f g=k9/\cf.fns.contains f=k9/\q (x::xs)=true:=by
 refine xdZ (λe p h=> ?_) s h
 refine zi (λg xs l p h=> ?_) e h
 refine kE (λh=> ?_) l h
 refine kC (λx r h=> ?_) xs h
 exact⟨_,_,_,_,_,rfl,a3 h⟩
def xc0 (h:jcM cf c nm iv hs=k9): ∃w n v l i f m,hs= [.ExceptHandler (y0 w) (y0 n) [.Assign [.Name v l] (.Name n i) f] m]/\qdq cf.sc c w=k9/\cf.hnd.contains c=k9/\xx cf nm n=k9/\jdu n=k9/\xx cf iv v=true:=by
 refine kC (λx r h=> ?_) hs h
 refine kE (λh=> ?_) r h
 refine jdh (λw n b p h=> ?_) x h
 refine kS (λw h=> ?_) w h
 refine kS (λn h=> ?_) n h
 refine kC (λa r h=> ?_) b h
 refine kE (λh=> ?_) r h
 refine jaQ (λo y p h=> ?_) a h
 refine kC (λt r h=> ?_) o h
 refine kE (λh=> ?_) r h
 refine xr (λv p h=> ?_) t h
 refine xr (λs p h=> ?_) y h
 obtain⟨q,g,j,k,d⟩:=a5 h
 obtain⟨d,e⟩:=a2 d
 cases of_decide_eq_true j
 exact⟨_,_,_,_,_,_,_,rfl,q,g,k,d,e⟩
def zaX (t:jdS Γ F X E k cf)(l:qdA cf f a (λxs=>chkEs cf es xs)=k9) (j:jcM cf c nm iv hs=k9):PS X (.Try [a] hs [] [] pos) (qdZ Γ E (M.exec F (.tryc f es c nm iv))):=by
 obtain⟨g,x,xs,C,K,rfl,u,i,q⟩:=zda l
 obtain⟨w,n,v,I,z,y,J,rfl,d,m,o,r,e⟩:=xc0 j
 have b:=d
 obtain⟨A,rfl,_,_⟩:=wb d
 refine PS.nox (xb4 (TrySet.imp (zbI t u i q b m o r e) λD U H ⟨B,G,Y,h,s,p⟩=>⟨B,G,Y,h,s,?_⟩))
 exact p
end
section
variable {Γ:Ge}{F:M.Fx}{k:Nat}{X:Cx}{E:XK}{cf:Cf}
mutual
theorem jdj (go:jdS Γ F X E k cf): ∀(m:M.S){st:Stmt},zcO cf m st=k9->PS X st (qdZ Γ E (M.exec F m))
 | .set i e,st,h=>by
  refine jaQ (λts v p h=> ?_) st h
  refine kC (λt r h=> ?_) ts h
  refine xr (λx p1 h=> ?_) t h
  refine kE (λh=> ?_) r h
  exact jbh go.toGo (a2 h).1 (a2 h).2
 | .setf i e,st,h=>by
  refine jaQ (λts v p h=> ?_) st h
  refine kC (λt r h=> ?_) ts h
  refine xr (λx p1 h=> ?_) t h
  refine kE (λh=> ?_) r h
  exact zaf go.toGo (a2 h).1 (a2 h).2
 | .unp is e,st,h=>by
  refine jaQ (λts v p h=> ?_) st h
  refine kC (λt r h=> ?_) ts h
  refine qcI (λx n p1 h=> ?_) t h
  refine kE (λh=> ?_) r h
  obtain⟨h1,h2,h3⟩:=a3 h
  exact zbj go.toGo h1 h2 h3
 | .setix i kx e,st,h=>by
  refine jaQ (λts v p h=> ?_) st h
  refine kC (λt r h=> ?_) ts h
  refine xbJ (λx y p1 h=> ?_) t h
  refine xr (λx p2 h=> ?_) x h
  refine kE (λh=> ?_) r h
  obtain⟨h0,h4,_,h5,h6,h7⟩:=a6 h
  obtain⟨h1,h2,h3⟩:=xbz h0
  exact J7 go.toGo h1 h2 h3 h4 h6 h7
 | .dputI i e,st,h=>by
  refine jaQ (λts v p h=> ?_) st h
  refine kC (λt r h=> ?_) ts h
  refine xbJ (λx y p1 h=> ?_) t h
  refine xr (λx p2 h=> ?_) x h
  refine kE (λh=> ?_) r h
  obtain⟨h0,h4,_,h5,h6,h7⟩:=a6 h
  obtain⟨h1,h2,h3⟩:=xbz h0
  exact x8 go.toGo h1 h2 h3 h4 h6 h7
 | .app i e,st,h=>by
  refine xdZ (λc p h=> ?_) st h
  refine zi (λf x l q h=> ?_) c h
  refine kE (λh=> ?_) l h
  refine kC (λv r h=> ?_) x h
  refine kE (λh=> ?_) r h
  obtain⟨h1,h2,h3⟩:=a3 h
  exact ja4 go.toGo h1 h2 h3
 | .ext i e,st,h=>by
  refine xdZ (λc p h=> ?_) st h
  refine zi (λf x l q h=> ?_) c h
  refine kE (λh=> ?_) l h
  refine kC (λv r h=> ?_) x h
  refine kE (λh=> ?_) r h
  obtain⟨h1,h2,h3⟩:=a3 h
  exact xbg go.toGo h1 h2 h3
 | .appR i e,st,h=>by
  refine xdZ (λc p h=> ?_) st h
  refine zi (λf x l q h=> ?_) c h
  refine kE (λh=> ?_) l h
  refine kC (λv r h=> ?_) x h
  refine kE (λh=> ?_) r h
  obtain⟨h1,h2,h3⟩:=a3 h
  exact qad go.toGo h1 h2 h3
 | .popR i j,st,h=>by
  refine jaQ (λts v p h=> ?_) st h
  refine kC (λt r h=> ?_) ts h
  refine xr (λx p1 h=> ?_) t h
  refine kE (λh=> ?_) r h
  refine zi (λf x l q h=> ?_) v h
  refine kE (λh=> ?_) l h
  refine kE (λh=> ?_) x h
  exact qaJ go.toGo (a2 h).1 (a2 h).2
 | .popU i is,st,h=>by
  refine jaQ (λts v p h=> ?_) st h
  refine kC (λt r h=> ?_) ts h
  refine qcI (λx n p1 h=> ?_) t h
  refine kE (λh=> ?_) r h
  refine zi (λf y l q h=> ?_) v h
  refine kE (λh=> ?_) l h
  refine kE (λh=> ?_) y h
  exact jaB go.toGo (a2 h).1 (a2 h).2
 | .mv i j,st,h=>by
  refine jaQ (λts v p h=> ?_) st h
  refine kC (λt r h=> ?_) ts h
  refine xr (λx p1 h=> ?_) t h
  refine kE (λh=> ?_) r h
  refine xr (λy p2 h=> ?_) v h
  obtain⟨h1,h2,h3⟩:=xbz (a2 h).2
  exact jb2 go.toGo (a2 h).1 h1 h2 h3
 | .nope,st,h=>λk8 s U H D I ⟨B,G,Y,h,s',p⟩=>p.elim
 | .freeze _,st,h=>xdF h
 | .ex e,st,h=>by
  refine xdZ (λv p h=> ?_) st h
  exact zbS go.toGo (a2 h).1 (a2 h).2
 | .ret e,st,h=>by
  refine jdd (λv p h=> ?_) st h
  refine kS (λv h=> ?_) v h
  exact xa3 go.toGo h
 | .iff c a b,st,h=>by
  refine qdg (λx y z p h=> ?_) st h
  obtain⟨h0,h1,h2,h3⟩:=a4 h
  exact xa8 ((zc c go.toGo h1).2 h0) (sndSs go a h2) (sndSs go b h3)
 | .whl n c b,st,h=>by
  refine xdd (λx y z p h=> ?_) st h
  refine kE (λh=> ?_) z h
  obtain⟨h0,h1,h2⟩:=a3 h
  exact xa0 go ((zc c go.toGo h1).2 h0) (sndSs go b h2)
 | .for tg one it b,st,h=>by
  refine jdm (λt i y z p h=> ?_) st h
  refine kE (λh=> ?_) z h
  obtain⟨h1,h2,h3,h4⟩:=a4 h
  exact zaT go h1 h2 h3 (sndSs go b h4)
 | .raisf c f e,st,h=>by
  refine zc6 (λx y p h=> ?_) st h
  refine kS (λx h=> ?_) x h
  refine zi (λg x l q h=> ?_) x h
  refine kE (λh=> ?_) l h
  refine kC (λx r h=> ?_) x h
  refine kE (λh=> ?_) r h
  obtain⟨h0,h1,h2,h3⟩:=a4 h
  cases nn h0
  exact Z6 go h1 h2 h3
 | .raise c es,st,h=>by
  refine zc6 (λx y p h=> ?_) st h
  refine kS (λx h=> ?_) x h
  refine zi (λg x l q h=> ?_) x h
  refine kE (λh=> ?_) l h
  refine kC (λx r h=> ?_) x h
  obtain⟨h0,h1,h2,h3,h4⟩:=a5 h
  cases nn h0
  exact J9 go h1 h2 (of_decide_eq_true h3) h4
 | .tryc f es k nm iv,st,h=>by
  refine zdj (λb hs p h=> ?_) st h
  refine kC (λa r h=> ?_) b h
  refine kE (λh=> ?_) r h
  obtain⟨h0,h1⟩:=a2 h
  exact zaX go h0 h1
theorem sndSs (go:jdS Γ F X E k cf): ∀(m:M.Ss){sts:List Stmt},chkSs cf m sts=k9->PSs X sts (qdZ Γ E (M.execs F m))
 | .nil,sts,h=>by
  cases Af6.mp h
  exact xag
 | .cons s ss,sts,h=>by
  cases q:zb3 s with
  | true=>
   cases s with
   | freeze i=>exact JM (sndSs go ss h)
   | _=>cases q
  | false=>
   have h:(bif zb3 s then chkSs cf ss sts else lC sts λst sts=>zcO cf s st&&chkSs cf ss sts)=true:=h
   rw [q]at h
   refine kC (λst r h=> ?_) sts h
   exact q9 (jdj go s (a2 h).1) (sndSs go ss (a2 h).2)
end
end
section
variable {P:Program}{w:World}{K:Aa6}{mg:Str->Option Value}{base:Heap}{N:List Str}{y8:Str}{scope:Scope}{f:Addr}{cd:Value}{A:Around}{outer:List Env}{s:Shared}{H:Hp}{E:XK}
def X8:XM (qdL P w) (zM (qdL P w) P w K mg base N y8 scope f cd A outer s H E) E:=by
 intro k8 U H1 s1 ev s' I hq
 obtain⟨x,C,t,B,H',od,rfl,os,bare,fl,un,hok,comp,new,hd,hE⟩:=hq
 have I':=QT I os bare un hok comp fl λb o z _=>⟨o.slots,z⟩
 have ff:=fl.2.2.1
 refine wpAny_mono (zL (ZF _ _) (wpAny_leaves_onW (Q:=λ_ s2=> ∃h2,s2= { s' with heap:=h2 }/\Al3 B outer x (.ref C) (.ref t) h2/\s'.heap.UpToSlots h2) (E:=λ_ _=>False) I.ok.frames rfl fl λh2 x1 x4=>⟨h2,rfl,x1,x4⟩)) (λ_ s2 z=> ?_) λ_ _ z=>z.1.elim
 obtain⟨⟨h2,rfl,x1,x4⟩,dk⟩:=z
 have free:=I'.stkFree
 have slotH: ∀b o,b∈qdG (envOfC y8 scope s.heap.objs.size f cd::outer)->s'.heap.get? b=y0 o-> ∃sl,h2.get? b=y0 { o with slots:=sl }:=λb o hb z=>by
  obtain⟨_,o',z',nf⟩:=ff.mem hb
  rw [z]at z'
  cases z'
  exact x4 b o z nf
 have toH:=λb o z c n=>x1.1 b o (comp b o z c n)
 have cut: ∀b,b∉qdG outer->b≠s.heap.objs.size->b∉qdG (envOfC y8 scope s.heap.objs.size f cd::outer):=λb n1 n2 hb=>by
  rcases Ab4.mp (hb)with z | z
  ·exact n2 z
  ·exact n1 z
 have old: ∀b o,s.heap.get? b=y0 o->b≠s.heap.objs.size:=λb o z=>Ac3 (Ab5 z)
 have qd0: ∀b u,H' b=y0 u->b∉qdG (envOfC y8 scope s.heap.objs.size f cd::outer):=λb u z hb=>by rw [free b hb]at z;cases z
 have in1:=λb o z=>I.base.there b o z (by show b∉ [];simp)
 refine⟨x,C,t,B,H',od,rfl,os.trans I.os,bare,x1,⟨λb o z n hb hx=> ?_,λb o z n hb hx=> ?_,I'.base.free,λb o z hx=> ?_,I'.base.tups,I'.base.frzs,I'.base.tbls⟩,λb u z=> ?_,λb o z hc hb=> ?_,?_,λdx z=> ?_,hE⟩
 ·exact toH b o (I'.base.keep b o z n hb hx) (.inr (in1 b o z)) (cut b hb (old b o z))
 ·obtain⟨sl,z1⟩:=I'.base.slot b o z n hb hx
  obtain⟨sl2,z2⟩:=slotH b _ (Aa2 _ hb) z1
  exact⟨sl2,z2⟩
 ·obtain⟨o',z1⟩:=I'.base.there b o z hx
  by_cases hb:b∈qdG (envOfC y8 scope s.heap.objs.size f cd::outer)
  ·obtain⟨sl,z2⟩:=slotH b o' hb z1
   exact⟨_,z2⟩
  ·exact⟨o',toH b o' z1 (.inr (in1 b o z)) hb⟩
 ·refine(hok b u z).stay (λc v hc z1=> ?_) (λ_ z1=>z1) λ_ _ z1=>z1
  rcases hc with rfl | hc
  ·exact toH c v z1 (.inl ⟨u,z⟩) (qd0 c u z)
  ·exact toH c v z1 (.inl ⟨_,hc⟩) (qd0 c _ hc)
 ·have two: ∃o2,s'.heap.get? b=y0 o2/\((∃ u,H' b=y0 u)\/ ∃u,s1.heap.get? b=y0 u)/\b∉qdG (envOfC y8 scope s.heap.objs.size f cd::outer):=by
   rcases hc with⟨u,hu⟩ | ⟨u,hu⟩
   ·obtain⟨o2,z2⟩:=(hok b u hu).there
    exact⟨o2,z2,.inl ⟨u,hu⟩,qd0 b u hu⟩
   ·obtain⟨o2,z2⟩:=I'.base.there b u hu (by show b∉ [];simp)
    exact⟨o2,z2,.inr (in1 b u hu),cut b hb (old b u hu)⟩
  obtain⟨o2,z2,c2,nb⟩:=two
  have z3:=toH b o2 z2 c2 nb
  rw [show h2.get? b=y0 o from z]at z3
  cases z3
  exact comp b _ z2 c2 nb
 ·cases z:s.heap.get? x with
  | none=>rfl
  | some u=>
   obtain⟨o2,z2⟩:=in1 x u z
   rw [new]at z2
   cases z2
 ·obtain⟨o,e1,e2⟩:=hd dx z
  obtain⟨o',e3,e4⟩:=dk x o e1
  exact⟨o',e3,e4.trans e2⟩
end
section
variable {Γ:Ge}{G G0:Gh}{H H0:Hp}{h:M.AH}
def Gh.cut (G:Gh) (n:Nat):Gh:= { G with n:=n }
mutual
theorem RelD.cut (n:Nat): ∀ {d:M.D}{v:V},M.Gc d=k9->RelD Γ G H d v->RelD Γ (G.cut n) H d v
 | .non,_,_,z=>z
 | .bl _,_,_,z=>z
 | .int _,_,_,z=>z
 | .str _,_,_,z=>z
 | .tup _,_,q,⟨a,vs,z1,z2,z3⟩=>⟨a,vs,z1,z2,RelDs.cutR n (by simpa [M.Gc]using q) z3⟩
 | .lst _,_,q,⟨a,vs,z1,z2,z3⟩=>⟨a,vs,z1,z2,RelDs.cutR n (by simpa [M.Gc]using q) z3⟩
 | .ref r,_,q,_=>by simp [M.Gc]at q
 | .exc c fs,_,q,z=>by simp [M.Gc]at q
 | .err c f d,_,q,z=>by simp [M.Gc]at q
theorem RelDs.cutR (n:Nat): ∀ {ds:List M.D}{vs:List V},M.Gd ds=k9->RelDs Γ G H ds vs->RelDs Γ (G.cut n) H ds vs
 | [],_,_,z=>z
 | d::ds,_,q,⟨v,r,z1,z2,z3⟩=>by
  have q':M.Gc d=k9/\M.Gd ds=true:=by simpa [M.Gd]using q
  exact⟨v,r,z1,RelD.cut n q'.1 z2,RelDs.cutR n q'.2 z3⟩
end
theorem ZK: ∀l:List Int,M.Gd (l.map M.D.int)=k9
 | []=>rfl
 | _::l=>ZK l
def zbR (k):M.Gc (qdE k)=true:=by
 show(k9&&(M.Gd (k.2.1.map M.D.int)&&(M.Gd (k.2.2.map M.D.int)&&k9)))=k9
 rw [ZK,ZK];rfl
theorem HRel.cut (r:HRel Γ G h H)(g:n<=G.n):HRel Γ (G.cut n) (h.take n) H where
 len:=by rw [Ag3,r.len];exact Al g
 any:=λi c e=>by
  have t:i<n:=by
   have:=(Ac1.mp e).1
   rw [Ag3]at this
   omega
  rw [List.getElem?_take_of_lt t]at e
  obtain⟨o,f⟩:=r.any i c e
  refine⟨o,?_⟩
  cases c with
  | lst k=>obtain⟨b,s,d,a⟩:=f;exact⟨b,s,d,RelDs.cutR n b a⟩
  | dic m=>obtain⟨k,d,a,w⟩:=f;exact⟨k,d,a,λx v=>RelD.cut n (zbR x.1) (w x v)⟩
  | dii m=>exact f
  | obj c fs=>obtain⟨b,q,p,d,a⟩:=f;exact⟨b,q,p,d,RelDs.cutR n b a⟩
 inj:=λi j u l e=>r.inj i j (Ab0 u g) (Ab0 l g) e
 live:=r.live
theorem Ext.cut (e:Ext G0 H0 G H):Ext G0 H0 (G.cut G0.n) H:=⟨e.keep,Aa5 _,e.rho,λr a b=>absurd a (Ao2.mpr b),e.fz,e.old,e.cells⟩
theorem RelW.cut (n) (k:n<=G.n)(q:w.keep=k9) (j: ∀xs,w≠ .bor xs) (z:RelW Γ G H w v):RelW Γ (G.cut n) H w v:=by
 cases w with
 | v d=>exact RelD.cut n q z
 | own xs=>
  obtain⟨a,e,f,b,h,c,g⟩:=z
  exact⟨a,e,f,b,λr i=>h r (Ab0 i k),c,RelDs.cutR n q g⟩
 | bor xs=>exact absurd rfl (j xs)
end
structure jdG (K:Aa6) (mg:Str->Option Value) (f:String) where
 st:Stmt
 fa:Addr
 fd:FuncData
 N:List Str
 ps:List Str
structure xaM {K:Aa6}{mg:Str->Option Value}{f:String}(t:jdG K mg f) (d:M.Fn) (fns own rai hnd:List String) (ob:qdv):Prop where
 fn: ∃x y8,Fun K x y8 t.st t.fa t.fd
 bd:Binds K t.fd t.ps []
 sc:Qp t.N t.ps (Qb t.st)
 n:t.N.length=d.n
 p:t.ps.length=d.ps
 le:d.ps<=d.n
 chk:chkSs ⟨Qb t.st,t.N,fns,own,rai,hnd,ob⟩ d.body (Je t.st)=k9
structure qcQ (Γ:Ge) (p:M.Prog) (mg:Str->Option Value) (own rai hnd:List String) (ob:qdv):Prop where
 cl:p.cl=Γ.cl
 ow:own=Γ.own
 blt: ∀x,x∈bltN->mg (qf x)=u0
 con: ∀x d,p.con.lookup x=y0 d-> ∃u v,mg (qf x)=y0 u/\RelV v u/\ ∀G H,RelD Γ G H d v
 cls: ∀c,own.contains c=k9->mg (qf c)=y0 (.ref (Γ.ca c))
 rai: ∀c,rai.contains c=true->zdZ Γ c/\PySem.W.excIn Γ.K (Γ.ca c) wu "ValueError.__new__" =true/\mg (qf c)=some (.ref (Γ.ca c))
 rfi: ∀c f,ob.er.contains (c,f)=true->zdZ Γ c/\qcC Γ.K (Γ.ca c) (qf f)/\jcI Γ.K (Γ.ca c) (qf f)/\mg (qf c)=some (.ref (Γ.ca c))/\ ∃fI fd ps,PySem.W.findIn Γ.K (.ref (Γ.ca c)) "__init__" =some (some (.ref fI))/\W4 Γ.K (qf f) fI fd ps
 hnd: ∀c,hnd.contains c=true->PySem.W.mroIn Γ.K (Γ.ca c) (.type "BaseException")=some true/\own.contains c=true
 fld: ∀c f,ob.fl.contains (c,f)=k9->Cls Γ.K (Γ.ca c)/\xbr Γ.K (Γ.ca c) (qf f)
 mth: ∀c m q,ob.mt.contains (c,m,q)=k9->Cls Γ.K (Γ.ca c)/\ob.ms.contains q=k9/\zc4 Γ.K (Γ.ca c) (qf m) (Γ.ma q)
 mks: ∀c q,ob.mks.contains (c,q)=k9->mg (qf c)=y0 (.ref (Γ.ca c))/\ob.ms.contains q=k9/\Mk Γ.K (Γ.ca c) (Γ.ma q)
section
variable {P:Program}{w:World}{Γ:Ge}{mg:Str->Option Value}{base:Heap}{p:M.Prog}{own rai hnd fns:List String}{ob:qdv}
def qak (m:HRel Γ G h H) (r:RelWs Γ G H ws c) (B: ∀w∈ws,zaY w=k9) (z:N.length=n):StS Γ ⟨G,H,h⟩ G (ws.map y0++Ab (n-ws.length) u0) h (start N c) H:=by
 have y:=r.length
 have get: ∀ {i}{w},M.Gj (ws.map y0++Ab (n-ws.length) u0) i=y0 w->ws[i]? =y0 w:=λ{i w} e=>by
  rw [Jy]at e
  by_cases g:i<ws.length
  ·rw [Ag0 (by simpa using g),Ad]at e
   cases q:ws[i]? with
   | none=>rw [q]at e;cases e
   | some D=>rw [q]at e;exact e
  ·rw [Af7 (by simpa using g),Am2]at e
   split at e<;>cases e
 have l: ∀ {ws}{c}{i:Nat}{w},RelWs Γ G H ws c->ws[i]? =y0 w-> ∃v,c[i]? =y0 v/\RelW Γ G H w v:=by
  intro ws
  induction ws with
  | nil=>intro c i w _ e;simp at e
  | cons a r A=>
   intro c i w ⟨v,E,d,t,p⟩ e
   subst d
   cases i with
   | zero=>simp at e;subst e;exact⟨v,rfl,t⟩
   | succ i=>
    obtain⟨u,C,s⟩:=A p (by simpa using e)
    exact⟨u,by simpa using C,s⟩
 have b: ∀ {i}{f},M.Gj (ws.map y0++Ab (n-ws.length) u0) i≠y0 (.own f):=λ{i f} e=>by
  have:=B _ (Ak3 (get e))
  cases this
 refine⟨⟨?_,λi w e=> ?_,λi j f w a x d=>absurd d b,m⟩,Ext.refl,m,λi f a d=>absurd d b⟩
 ·unfold start
  rw [Ab1,Ab1,Aa,Aa,Ae8,Ae8,z,y]
 ·obtain⟨v,o,k⟩:=l r (get e)
  refine⟨v,?_,k⟩
  unfold start
  have g:=(Ac1.mp o).1
  rw [Ag0 (by simpa using g),Ad,o]
  rfl
def ja1 (k:HRel Γ G h H) (p:PostW Γ E G H (M.Ka h.length o) Q):PostO Γ E ⟨G,H,h⟩ o { nx:=λ_ H'=>Q .non H',rt:=Q }:=by
 have g: ∀ {w}{c}{b}{H'}{v},(∀ i,w≠ .bor i)->PostW Γ E G H (M.fin h.length w c) Q->Ext G H b H'->HRel Γ b c H'->RelW Γ b H' w v->FreshW [] [] H w v->Q v H':=λ{w c b H' v} l p e a r f=>by
  unfold M.fin at p
  split at p
  ·exact p b H' e a v r f
  ·split at p
   ·rename_i m
    have n:=e.cut
    rw [k.len]at p
    exact p (b.cut G.n) H' n (a.cut e.le) v (r.cut G.n e.le m l) f
   ·exact p b H' e a v r f
 cases o with
 | next Y c=>exact λb q H' j=>g (λi z=>by cases z) p j.ext j.st.heap rfl trivial
 | ret w c=>
  cases w with
  | bor i=>exact p.elim
  | v d=>exact λb v H' e a r f=>g (λi z=>by cases z) p e a r f
  | own i=>exact λb v H' e a r f=>g (λi z=>by cases z) p e a r f
 | exc d c=>exact p
 | brk Y c=>exact p.elim
 | cont Y c=>exact p.elim
 | fail=>exact p.elim
end
section
variable {P:Program}{w:World}{Γ:Ge}{mg:Str->Option Value}{base:Heap}{p:M.Prog}{own rai hnd fns:List String}{ob:qdv}
noncomputable def zcu (P:Program) (w:World) (a:Ge) (mg:Str->Option Value) (base:Heap) (p:M.Prog) (k:Nat) (f:String):Prop:=
 ∃ps b fd,FnOk P w a.K mg base (qdL P w) (2*k+1) b fd ps (jdV a (M.call p k f))/\Binds a.K fd ps []/\Ae0 a.K (.ref b)=k9/\mg (qf f)=y0 (.ref b)
noncomputable def qc5 (P:Program) (w:World) (a:Ge) (mg:Str->Option Value) (base:Heap) (p:M.Prog) (k:Nat) (q:String):Prop:=
 ∃ps fd,FnOk P w a.K mg base (qdL P w) (2*k+1) (a.ma q) fd ps (jdV a (M.call p k q))/\Binds a.K fd ps []
def zbT (pr:qcQ Γ p mg own rai hnd ob){t:jdG Γ.K mg f}(ok:xaM t d fns own rai hnd ob) (hf:p.fns.lookup f=y0 d) (k) (ih: ∀g,fns.contains g=k9->zcu P w Γ mg base p k g) (im: ∀q,ob.ms.contains q=k9->qc5 P w Γ mg base p k q):
 FnOk P w Γ.K mg base (qdL P w) (2*(k+1)+1) t.fa t.fd t.ps (jdV Γ (M.call p (k+1) f)):=by
 have a: ∀ {i}{h},i.length≠d.ps->M.call p (k+1) f i h= .fail:=λ{i h} hn=>by
  rw [M.call,hf]
  simp [M.run,hn]
 have j:=λ{i h} hn=>M.Ga hf k i h hn
 obtain⟨x,Y,F⟩:=ok.fn
 refine Fun.okX F ok.sc (λvs H Q E ⟨G,h,i,D,U,no,q⟩=> ?_) λcdv A T s H vs Q E b ⟨G,h,i,D,U,no,q⟩=> ?_
 ·by_cases o:i.length=d.ps
  ·rw [← U.length,o,ok.p]
  ·rw [a o]at q;exact q.elim
 ·by_cases o:i.length=d.ps
  rotate_left
  ·rw [a o]at q;exact q.elim
  rw [j o]at q
  refine⟨qdZ Γ E (M.execs ⟨M.call p k,p.cl,p.con⟩ d.body),sndSs (k:=2*k+1) ?_ d.body ok.chk,?_⟩
  ·refine { N:=rfl,K:=rfl,cl:=pr.cl,ow:=pr.ow,nd:=ok.sc.nd,vis:=λx l=>JY l,lcl:=λx l=>l,sto:=λx l=>⟨WY l,.inl rfl⟩,cel:=λx l=>l,gl:=λx l=>wL l,calm:=rfl,room:=b.mono (by omega),room1:=b,pass:=X8,blt:=pr.blt,con:=pr.con,fn:=λg z=> ?_,cls:=pr.cls,fld:=pr.fld,mth:=λc m q W=> ?_,mks:=λc q W=> ?_,pown:=jcZ,stk:=rfl,frm:=rfl,ex:=rfl,rai:=λc X z S=> ?_,rfi:=λc f X z S=> ?_,hnd:=pr.hnd }
   ·obtain⟨n,fa,r,y,v,h3,h4⟩:=ih g z
    exact⟨n,⟨fa,r,y,v,h3,h4⟩⟩
   ·obtain⟨R,C,V⟩:=pr.mth c m q W
    obtain⟨n,r,y,v⟩:=im q C
    exact⟨R,_,r,n,V,y,v⟩
   ·obtain⟨R,C,V⟩:=pr.mks c q W
    obtain⟨n,r,y,v⟩:=im q C
    exact⟨R,_,r,n,V,y,v⟩
   ·obtain⟨J,ei,O⟩:=pr.rai c X
    refine⟨J,λnp u L e es t I B=> ?_⟩
    exact xaW ei O (wL z) I (ja (B _ Aa3)) (xu λe he=>B e (Aa2 _ he)) S
   ·obtain⟨J,xg,xe,O,fI,r,n,hi,Z⟩:=pr.rfi c f X
    exact⟨J,xg,λnp u L e t I B=>zah xe hi Z O (wL z) (b.mono (by omega)) I (ja B) S⟩
  ·refine⟨⟨G,H,h⟩,G,i.map y0++Ab (d.n-d.ps) u0,h,?_,ja1 D q⟩
   have:=qak D U no ok.n
   rw [o]at this
   exact this
def zau (f) (fa) (fd) (ps):FnOk P w Γ.K mg base (qdL P w) (2*0+1) fa fd ps (jdV Γ (M.call p 0 f)):=
 ⟨λg H Q E ⟨G,h,i,e,d,c,q⟩=>q.elim,λA a s H b j g Q E _ _ _ _ ⟨G,h,i,e,d,c,q⟩=>q.elim⟩
def qcr (pr:qcQ Γ p mg own rai hnd ob) (all: ∀f,fns.contains f=k9-> ∃d,p.fns.lookup f=y0 d/\ ∃t:jdG Γ.K mg f,xaM t d fns own rai hnd ob/\Ae0 Γ.K (.ref t.fa)=k9/\mg (qf f)=y0 (.ref t.fa))
 (a: ∀q,ob.ms.contains q=k9-> ∃d,p.fns.lookup q=y0 d/\ ∃t:jdG Γ.K mg q,xaM t d fns own rai hnd ob/\t.fa=Γ.ma q): ∀k,(∀ f,fns.contains f=k9->zcu P w Γ mg base p k f)/\ ∀q,ob.ms.contains q=k9->qc5 P w Γ mg base p k q:=by
 intro k
 induction k with
 | zero=>
  refine⟨λf e=> ?_,λq h=> ?_⟩
  ·obtain⟨d,b,t,ok,i,g⟩:=all f e
   exact⟨t.ps,t.fa,t.fd,zau f _ _ _,ok.bd,i,g⟩
  ·obtain⟨d,b,t,ok,j⟩:=a q h
   exact⟨t.ps,t.fd,zau q _ _ _,ok.bd⟩
 | succ k c=>
  refine⟨λf e=> ?_,λq h=> ?_⟩
  ·obtain⟨d,b,t,ok,i,g⟩:=all f e
   exact⟨t.ps,t.fa,t.fd,zbT pr ok b k c.1 c.2,ok.bd,i,g⟩
  ·obtain⟨d,b,t,ok,j⟩:=a q h
   exact⟨t.ps,t.fd,j▸zbT pr ok b k c.1 c.2,ok.bd⟩
def Qy {K:Aa6}(h:Aj9 K C=y0 ci):(Aj9 K C).isSome=true:=by rw [h];rfl
def Xy {K:PySem.W.Frag}(h1:PySem.W.clsIn K C=some ci) (h2:PySem.W.typeIn K (.ref C)=some (.type "type")) (a:PySem.W.subIn K (.ref C) (.ref C)=some true):PySem.W.kitCls K (.ref C) (.ref C)=some true:=by
 show(if _ then _ else _)=_
 rw [h1,h2,if_pos (by first | rfl | simp | decide),a]
noncomputable def jb4 (K:Aa6):Sp:=λc H Q _=> ∃(a:Addr) (b:List Int),c= [.ref a]/\SqL K H a (b.map V.int)/\b.length<=63/\ ∀H',Q (.bl k9) H'
theorem zX : ∀(a:List Int),RelDs Γ G H (a.map M.D.int) (a.map V.int)
 | []=>rfl
 | n::a=>⟨_,_,rfl,rfl,zX a⟩
def xce (F:FnOk P w Γ.K mg base (qdL P w) n fa fd ps (jdV Γ (M.call p k "law"))) (hlaw: ∀d:List Int,d.length<=63-> ∃h',M.call p k "law" [.v (.lst (d.map .int))] []= .ok (.v (.bl true)) h'):
 FnOk P w Γ.K mg base jdZ n fa fd ps (jb4 Γ.K):=by
 refine FnOk.calm F ?_
 rintro y H Q E ⟨a,d,t,f,hn,q⟩
 subst t
 obtain⟨h',u⟩:=hlaw d hn
 have fin: ∀G:Gh,HRel Γ G [] H->StL Γ G H a (d.map V.int)->jdV Γ (M.call p k "law") [.ref a] H Q (fun _ _ _=>False):=fun G j i=>by
  refine⟨G,[],[.v (.lst (d.map .int))],j,⟨.ref a,[],rfl,⟨a,d.map V.int,rfl,i,zX d⟩,rfl⟩,λw m=> ?_,?_⟩
  ·cases Af1.mp m;rfl
  ·rw [u]
   intro x l _ _ v r _
   cases (r)
   exact q l
 rcases f with f | f
 ·refine fin ⟨λb=>b=a,λ_=>0,0⟩ ⟨rfl,λr c e=>by simp at e,λr s h=>absurd h (Aj1 _),λb g=> ?_⟩ (.inl ⟨rfl,f⟩)
  subst g
  rcases f with z | ⟨o,z⟩
  ·exact⟨_,z⟩
  ·exact⟨_,z⟩
 ·exact fin ⟨λ_=>False,λ_=>0,0⟩ ⟨rfl,λr c e=>by simp at e,λr s h=>absurd h (Aj1 _),λb g=>g.elim⟩ (.inr f)
def walk {l:PySem.W.OpenLaw}{K:Params->Aa6}(k) (j:Room k callerA) (o:l.most=y0 63) (b:d.params.defaults= [])
 (g: ∀ w h,YP w h->(K w.params).In h)
 (F: ∀ w mg c h,(K w.params).In h->h.Ns mainGlobals mg->mg d.name=y0 (.ref c) →
   ∃fd:FuncData,(∀ s u,BindsTo s fd ⟨[u],[]⟩ [(x,u)])/\ ∀base:Heap,(K w.params).In base->base.Ns mainGlobals mg->FnOk l.prog w (K w.params) mg base jdZ k c fd [x] (jb4 (K w.params))):
 PySem.W.WalkO q loose XP YP l.row.toRowW d [] (λf n=>PySem.call f n):=
 L2.walk_of o (by decide) b j g F (λ_ _ a i m _ e=>⟨a,i,rfl,e,m,λ_=>rfl⟩) λ_ _ _ _ _ z=>z
end
end L2.MS
namespace Wf
def bitsB (t n:Nat):List Bool:=(Aa0 n).map t.testBit
def bitsB_length (t n):(bitsB t n).length=n:=by simp [bitsB]
def bitsB_get (h:k<n):(bitsB t n)[k]? =y0 (t.testBit k):=by
 unfold bitsB;rw [Ad,List.getElem?_range h];rfl
def bit_nat (t k):t / 2 ^ k % 2=(t.testBit k).toNat:=(Nat.toNat_testBit t k).symm
theorem zG: ∀(n a b:Nat),a<=n->(a ||| b)+(a &&& b)=a+b
 | 0,a,b,h=>by
  have:a=0:=by omega
  subst this;simp
 | n+1,a,b,h=>by
  by_cases c:a=0
  ·subst c;simp
  have j:=zG n (a / 2) (b / 2) (by omega)
  have i:=Al0 (a ||| b) 2
  have g:=Al0 (a &&& b) 2
  rw [Nat.or_div_two]at i
  rw [Nat.and_div_two]at g
  have d:(a ||| b) % 2=1↔a % 2=1\/b % 2=1:=Nat.or_mod_two_eq_one
  have e:(a &&& b) % 2=1↔a % 2=1/\b % 2=1:=Nat.and_mod_two_eq_one
  have k:=Al0 a 2
  have o:=Al0 b 2
  have m:(a ||| b) % 2<2:=Ao3 _ (by decide)
  have l:(a &&& b) % 2<2:=Ao3 _ (by decide)
  generalize (a ||| b) % 2=p at*
  generalize (a &&& b) % 2=q at*
  by_cases c:a % 2=1<;>by_cases f:b % 2=1
  ·have:p=1:=d.mpr (.inl c)
   have:q=1:=e.mpr ⟨c,f⟩
   omega
  ·have:p=1:=d.mpr (.inl c)
   have: ¬q=1:=λh=>f (e.mp h).2
   omega
  ·have:p=1:=d.mpr (.inr f)
   have: ¬q=1:=λh=>c (e.mp h).1
   omega
  ·have: ¬p=1:=λh=>(d.mp h).elim c f
   have: ¬q=1:=λh=>c (e.mp h).1
   omega
def zbL (a b:Nat):a-(a &&& b)=a ^^^ (a &&& b):=by
 have h:=zG _ (a ^^^ (a &&& b)) (a &&& b) (Aa5 _)
 have d:(a ^^^ (a &&& b)) ||| (a &&& b)=a:=Af5 λk=>by
  simp only [Ag4,Nat.testBit_xor,Ak8]
  cases a.testBit k<;>cases b.testBit k<;>rfl
 have c:(a ^^^ (a &&& b)) &&& (a &&& b)=0:=Af5 λk=>by
  simp only [Nat.testBit_xor,Ak8,Am4]
  cases a.testBit k<;>cases b.testBit k<;>rfl
 omega
def sub_and_bit (a b k:Nat):(a-(a &&& b)).testBit k=(a.testBit k&& !b.testBit k):=by
 rw [zbL]
 simp only [Nat.testBit_xor,Ak8]
 cases a.testBit k<;>cases b.testBit k<;>rfl
def pairsM (n t:Nat):List (Nat×Nat):=((Aa0 (n*n)).filter t.testBit).map λk=>(k / n,k % n)
def tieM (n:Nat) (a:List (Nat×Nat)):Nat:=a.foldl (λt p=>t ||| 2 ^ (p.1*n+p.2)) 0
def inB (n:Nat) (a:List (Nat×Nat)):Prop:= ∀p∈a,p.1<n/\p.2<n
def place_lt {n a b:Nat}(c:a<n) (d:b<n):a*n+b<n*n:=by
 have:a*n+n<=n*n:=by
  have:=An0 n (Nat.succ_le_of_lt c)
  rwa [Al5]at this
 omega
def place_div {n a b:Nat}(c:b<n):(a*n+b) / n=a:=by
 rw [Ai,Nat.mul_add_div (by omega),Nat.div_eq_of_lt c,Nat.add_zero]
def place_mod {n a b:Nat}(c:b<n):(a*n+b) % n=b:=by
 rw [Ai,Nat.mul_add_mod,Nat.mod_eq_of_lt c]
def div_lt_n {n k:Nat}(h:k<n*n):k / n<n:=Nat.div_lt_of_lt_mul h
def mod_lt_n {n k:Nat}(h:k<n*n):k % n<n:=Ao3 _ (by
 cases n with
 | zero=>simp at h
 | succ m=>omega)
def place_eq (n k:Nat):k / n*n+k % n=k:=by rw [Ai];exact Al0 k n
theorem zaz (n): ∀(a:List (Nat×Nat)) (t k:Nat),(a.foldl (λt p=>t ||| 2 ^ (p.1*n+p.2)) t).testBit k=(t.testBit k||a.any λp=>v9 (p.1*n+p.2=k))
 | [],t,k=>by simp
 | p::r,t,k=>by
  rw [Ah8,zaz n r,Ag4,Ak7,Af3,Bool.or_assoc]
def tieM_bit (n) (ps) (k):(tieM n ps).testBit k=ps.any λp=>v9 (p.1*n+p.2=k):=by
 unfold tieM;rw [zaz];simp
def tieM_lt (h:inB n ps):tieM n ps<2 ^ (n*n):=by
 refine Ai4 _ λi b=> ?_
 rw [tieM_bit,Ag5]
 intro p a
 have:=h p a
 have:=place_lt this.1 this.2
 simp;omega
def mem_pairsM :p∈pairsM n t↔ ∃k,k<n*n/\t.testBit k=k9/\p=(k / n,k % n):=by
 unfold pairsM
 simp only [Ac,Ae1,Ab3]
 constructor
 ·rintro ⟨k,⟨b,a⟩,rfl⟩;exact⟨k,b,a,rfl⟩
 ·rintro ⟨k,b,a,rfl⟩;exact⟨k,⟨b,a⟩,rfl⟩
def inB_pairsM (n t):inB n (pairsM n t):=λp b=>by
 obtain⟨k,a,c,rfl⟩:=mem_pairsM.mp b
 exact⟨div_lt_n a,mod_lt_n a⟩
def swp (a:List (Nat×Nat)):List (Nat×Nat):=a.map λp=>(p.2,p.1)
def inB_swp (h:inB n ps):inB n (swp ps):=λp b=>by
 obtain⟨q,a,rfl⟩:=Ac.mp b
 exact⟨(h q a).2,(h q a).1⟩
def turnM (n t:Nat):Nat:=tieM n (swp (pairsM n t))
def turnM_lt (n t):turnM n t<2 ^ (n*n):=tieM_lt (inB_swp (inB_pairsM n t))
def turnM_bit (f:k<n*n):(turnM n t).testBit k=t.testBit (k % n*n+k / n):=by
 unfold turnM
 rw [tieM_bit]
 have d:=div_lt_n f
 have l:=mod_lt_n f
 by_cases h:t.testBit (k % n*n+k / n)=k9
 ·rw [h,Ae4]
  refine⟨(k / n,k % n),?_,?_⟩
  ·refine Ac.mpr ⟨(k % n,k / n),mem_pairsM.mpr ⟨k % n*n+k / n,place_lt l d,h,?_⟩,rfl⟩
   rw [place_div d,place_mod d]
  ·simp only [decide_eq_true_eq];exact place_eq n k
 ·have c:=by simpa using h
  rw [c,Ag5]
  intro p i
  obtain⟨q,m,rfl⟩:=Ac.mp i
  obtain⟨j,a,b,rfl⟩:=mem_pairsM.mp m
  simp only [decide_eq_true_eq]
  intro e
  subst e
  have g:=div_lt_n a
  have a2:=mod_lt_n a
  rw [place_div g,place_mod g,place_eq]at c
  rw [c]at b
  cases b
def sameM (n:Nat):Nat:=tieM n ((Aa0 n).map λa=>(a,a))
def inB_same (n):inB n ((Aa0 n).map λa=>(a,a)):=λp c=>by
 obtain⟨a,b,rfl⟩:=Ac.mp c
 exact⟨Ab3.mp b,Ab3.mp b⟩
def qaq (c:k<n*n):(sameM n).testBit k=v9 (k / n=k % n):=by
 unfold sameM
 rw [tieM_bit]
 have f:=div_lt_n c
 have g:=mod_lt_n c
 by_cases h:k / n=k % n
 ·rw [decide_eq_true h,Ae4]
  refine⟨(k / n,k / n),Ac.mpr ⟨k / n,Ab3.mpr f,rfl⟩,?_⟩
  simp only [decide_eq_true_eq]
  have:=place_eq n k
  rw [← h]at this
  exact this
 ·rw [decide_eq_false h,Ag5]
  intro p d
  obtain⟨a,b,rfl⟩:=Ac.mp d
  simp only [decide_eq_true_eq]
  intro e
  subst e
  have b:=Ab3.mp b
  exact h (by rw [place_div b,place_mod b])
def rowM (n p b:Nat):Nat:=p / 2 ^ (b*n) % 2 ^ n
def joinM (n o p:Nat):Nat:=(pairsM n o).foldl (λt q=>t ||| rowM n p q.2*2 ^ (q.1*n)) 0
def rowM_lt (n p b):rowM n p b<2 ^ n:=Ao3 _ (Ai8 (by decide))
def J0 (a:c<n):(rowM n p b).testBit c=p.testBit (b*n+c):=by
 unfold rowM
 rw [Nat.testBit_mod_two_pow,decide_eq_true a,Aj,Nat.testBit_div_two_pow,Am9]
def zbE (d:x<2 ^ n) (c:0<n):(x*2 ^ (a*n)).testBit k=(v9 (k / n=a)&&x.testBit (k % n)):=by
 rw [Nat.testBit_mul_two_pow]
 have e:=place_eq n k
 by_cases h:k / n=a
 ·subst h
  rw [decide_eq_true rfl,Aj]
  have:k / n*n<=k:=by omega
  rw [decide_eq_true (this),Aj]
  rw [show k-k / n*n=k % n by omega]
 ·rw [decide_eq_false h,Al8]
  by_cases b:k>=a*n
  ·rw [decide_eq_true b,Aj]
   refine Ae6 (Ab0 d (Ad0 (by decide) ?_))
   have f:a<k / n:=by
    have:a<=k / n:=(Nat.le_div_iff_mul_le c).mpr b
    omega
   have g:=An0 n f
   rw [Al5]at g
   omega
  ·rw [decide_eq_false b,Al8]
theorem Z0 (n p) (b:0<n): ∀(a:List (Nat×Nat)) t k,(a.foldl (λt q=>t ||| rowM n p q.2*2 ^ (q.1*n)) t).testBit k=(t.testBit k||a.any λq=>v9 (k / n=q.1)&&(rowM n p q.2).testBit (k % n))
 | [],t,k=>by simp
 | q::r,t,k=>by
  rw [Ah8,Z0 n p b r,Ag4,zbE (rowM_lt n p q.2) b,Af3,Bool.or_assoc]
def pos_of_lt (h:k<n*n):0<n:=by
 cases n with
 | zero=>simp at h
 | succ m=>omega
def JB (n o p k:Nat):Bool:=(Aa0 n).any λb=>o.testBit (k / n*n+b)&&p.testBit (b*n+k % n)
def joinM_bit (c:k<n*n):(joinM n o p).testBit k=JB n o p k:=by
 have hn:=pos_of_lt c
 have i:=div_lt_n c
 have h:=mod_lt_n c
 unfold joinM JB
 rw [Z0 n p hn]
 simp only [Am4,Bool.false_or]
 rw [Ad8,Ae4,Ae4]
 constructor
 ·rintro ⟨q,l,a⟩
  obtain⟨j,d,f,rfl⟩:=mem_pairsM.mp l
  rw [Aa7,decide_eq_true_eq]at a
  obtain⟨e,a⟩:=a
  refine⟨j % n,Ab3.mpr (mod_lt_n d),?_⟩
  rw [J0 h]at a
  have e:=e
  rw [e,place_eq,f,a];rfl
 ·rintro ⟨b,a,g⟩
  have a:=Ab3.mp a
  rw [Aa7]at g
  refine⟨(k / n,b),mem_pairsM.mpr ⟨k / n*n+b,place_lt i a,g.1,by rw [place_div a,place_mod a]⟩,?_⟩
  rw [J0 h,g.2]
  simp
def joinM_lt (n o p):joinM n o p<2 ^ (n*n):=by
 have b: ∀(a:List (Nat×Nat)) t,(∀ q∈a,q.1<n)->t<2 ^ (n*n)->a.foldl (λt q=>t ||| rowM n p q.2*2 ^ (q.1*n)) t<2 ^ (n*n):=by
  intro a
  induction a with
  | nil=>intro t _ h;exact h
  | cons q r f=>
   intro t d g
   refine f _ (λz i=>d z (Aa2 _ i)) (Ao1 g ?_)
   have c:=d q Aa3
   have:=rowM_lt n p q.2
   have e:2 ^ n*2 ^ (q.1*n)<=2 ^ (n*n):=by
    rw [← Ak9]
    refine Ad0 (by decide) ?_
    have:=An0 n (Nat.succ_le_of_lt c)
    rw [Al5]at this
    omega
   exact Ab0 (Nat.mul_lt_mul_of_pos_right this (Ai8 (by decide))) e
 exact b _ _ (λq c=>(inB_pairsM n o q c).1) (Ai8 (by decide))
def eq_of_bits (a:s<2 ^ n) (b:t<2 ^ n) (h: ∀k,k<n->s.testBit k=t.testBit k):s=t:=
 Af5 λk=>by
  by_cases c:k<n
  ·exact h k c
  ·rw [Ae6 (Ab0 a (Ad0 (by decide) (by omega))),Ae6 (Ab0 b (Ad0 (by decide) (by omega)))]
def same_place (d:a<n) (c:b<n):(sameM n).testBit (a*n+b)=v9 (a=b):=by
 rw [qaq (place_lt d c),place_div c,place_mod c]
def sameM_lt (n):sameM n<2 ^ (n*n):=tieM_lt (inB_same n)
inductive TC (n t a:Nat):Nat->Prop
 | step {b:Nat}:a<n->b<n->t.testBit (a*n+b)=k9->TC n t a b
 | more {b c:Nat}:TC n t a b->b<n->c<n->t.testBit (b*n+c)=k9->TC n t a c
def TC.trans (h1:TC n t a b) (h2:TC n t b c):TC n t a c:=by
 induction h2 with
 | step x y z=>exact .more h1 x y z
 | more _ x y z d=>exact .more d x y z
structure IsTC (n t r:Nat):Prop where
 lt:r<2 ^ (n*n)
 bit: ∀a b,a<n->b<n->(r.testBit (a*n+b)=k9↔TC n t a b)
structure Clo (n t r:Nat):Prop where
 lt:r<2 ^ (n*n)
 sub: ∀a b,a<n->b<n->r.testBit (a*n+b)=k9->TC n t a b
 sup: ∀k,t.testBit k=k9->r.testBit k=k9
def Clo.start (h:t<2 ^ (n*n)):Clo n t t:=⟨h,λ_ _ a b h=> .step a b h,λ_ h=>h⟩
def JB_place (d:c<n):JB n o p (a*n+c)=(Aa0 n).any λb=>o.testBit (a*n+b)&&p.testBit (b*n+c):=by
 unfold JB
 rw [place_div d,place_mod d]
def Clo.next (h:Clo n t r):Clo n t (r ||| joinM n r r):=by
 refine⟨Ao1 h.lt (joinM_lt _ _ _),λa b g f d=> ?_,λk i=> ?_⟩
 ·rw [Ag4,Am8]at d
  rcases d with d | d
  ·exact h.sub a b g f d
  ·rw [joinM_bit (place_lt g f),JB_place f,Ae4]at d
   obtain⟨c,e,d⟩:=d
   have e:=Ab3.mp e
   rw [Aa7]at d
   exact(h.sub a c g e d.1).trans (h.sub c b e f d.2)
 ·rw [Ag4,h.sup k i,Bool.true_or]
def jcg {a b:Nat}(h:a ||| b=a) (k) (c:b.testBit k=k9):a.testBit k=true:=by
 rw [← h,Ag4,c,Bool.or_true]
def Clo.done (h:Clo n t r) (e:r ||| joinM n r r=r):IsTC n t r:=by
 refine⟨h.lt,λa b j k=>⟨h.sub a b j k,λi=> ?_⟩⟩
 induction i with
 | step g f c=>exact h.sup _ c
 | more i g f c d=>
  have d:=d g
  refine jcg e _ ?_
  rw [joinM_bit (place_lt j f),JB_place f,Ae4]
  exact⟨_,Ab3.mpr g,by rw [d,h.sup _ c];rfl⟩
def Clo.grow (h:Clo n t r) (ne:r ||| joinM n r r≠r):r<r ||| joinM n r r:=by
 have:= @Nat.left_le_or r (joinM n r r)
 omega
structure jdp (n t a:Nat) (re wa:List Nat):Prop where
 an:a<n
 nd:re.Nodup
 tc: ∀x∈re,TC n t a x
 wl: ∀x∈wa,x<n/\(x=a\/x∈re)
 cl: ∀x,(x=a\/x∈re)->x∉wa-> ∀b,b<n->t.testBit (x*n+b)=k9->b∈re
structure Lk (n t a:Nat) (re wa:List Nat) (h b:Nat):Prop where
 an:a<n
 nd:re.Nodup
 tc: ∀x∈re,TC n t a x
 wl: ∀x∈wa,x<n/\(x=a\/x∈re)
 cl: ∀x,(x=a\/x∈re)->x∉wa->x≠h-> ∀b,b<n->t.testBit (x*n+b)=k9->b∈re
 hn:h<n
 hr:h=a\/h∈re
 hb: ∀b',b'<b->t.testBit (h*n+b')=k9->b'∈re
end Wf
namespace M
def Ky:Fn:=⟨1,1,.cons (.ret (.and (.isT (.var 0) .int) (.not (.isT (.var 0) .bool)))) .nil⟩
noncomputable def GT:Fn:=⟨2,2,.cons (.ret (.and (.call "is_whole" (.cons (.var 0) .nil)) (.chain .le .lt (.int 0) (.var 0) (.var 1)))) .nil⟩
noncomputable def jx:E:= .comp [0] k9 1 [1,0] (.range1 (.bin .mul (.var 0) (.var 0))) k9 (.bin .band (.bin .shr (.var 1) (.var 0)) (.int 1)) (.bi .divmod (.cons (.var 0) (.cons (.var 2) .nil)))
def Kf:Fn:=⟨2,2,.cons (.ret jx) .nil⟩
noncomputable def xh:Ss:= .cons (.setf 2 (.bin .bor (.var 2) (.bin .shl (.int 1) (.bin .add (.bin .mul (.var 3) (.var 0)) (.var 4))))) .nil
def Kh:Fn:=⟨2,5,.cons (.setf 2 (.int 0)) (.cons (.for [3,4] y9 (.seq (.var 1)) xh) (.cons (.ret (.var 2)) .nil))⟩
def KB:Fn:=⟨2,2,.cons (.ret (.bin .band (.var 0) (.var 1))) .nil⟩
def KI:Fn:=⟨2,2,.cons (.ret (.bin .bor (.var 0) (.var 1))) .nil⟩
def Kn:Fn:=⟨2,2,.cons (.ret (.bin .band (.var 0) (.inv (.var 1)))) .nil⟩
noncomputable def Jw:E:= .comp [0,1] false 2 [] (.seq (.call "pairs_of" (.cons (.var 0) (.cons (.var 1) .nil)))) false (.bl true) (.tup (.cons (.var 1) (.cons (.var 0) .nil)))
def KC:Fn:=⟨2,2,.cons (.ret (.call "gathered" (.cons (.var 0) (.cons Jw .nil)))) .nil⟩
noncomputable def Xq:Ss:= .cons (.setf 7 (.bin .band (.bin .shr (.var 2) (.bin .mul (.var 6) (.var 0))) (.var 3))) (.cons (.setf 4 (.bin .bor (.var 4) (.bin .shl (.var 7) (.bin .mul (.var 5) (.var 0))))) .nil)
noncomputable def KJ:Fn:=⟨3,8,.cons (.setf 3 (.bin .sub (.bin .shl (.int 1) (.var 0)) (.int 1))) (.cons (.setf 4 (.int 0)) (.cons (.for [5,6] y9 (.seq (.call "pairs_of" (.cons (.var 0) (.cons (.var 1) .nil)))) Xq) (.cons (.ret (.var 4)) .nil)))⟩
def Xp:E:= .cmp .ne (.var 3) (.var 2)
noncomputable def zq:Ss:= .cons (.setf 2 (.var 3)) (.cons (.setf 3 (.call "either" (.cons (.var 2) (.cons (.call "joined" (.cons (.var 0) (.cons (.var 2) (.cons (.var 2) .nil)))) .nil)))) .nil)
noncomputable def KH:Fn:=⟨2,4,.cons (.setf 2 (.var 1)) (.cons (.setf 3 (.call "either" (.cons (.var 2) (.cons (.call "joined" (.cons (.var 0) (.cons (.var 2) (.cons (.var 2) .nil)))) .nil)))) (.cons (.whl 100000 Xp zq) (.cons (.ret (.var 2)) .nil)))⟩
def XI:E:= .comp [0] k9 1 [] (.range1 (.var 0)) y9 (.bl k9) (.tup (.cons (.var 0) (.cons (.var 0) .nil)))
def K0:Fn:=⟨1,1,.cons (.ret (.call "gathered" (.cons (.var 0) (.cons XI .nil)))) .nil⟩
def KR:Fn:=⟨1,1,.cons (.ret (.bin .sub (.bin .shl (.int 1) (.bin .mul (.var 0) (.var 0))) (.int 1))) .nil⟩
noncomputable def Kq:Fn:=⟨1,1,.cons (.ret (.call "is_below" (.cons (.var 0) (.cons (.bin .add (.con "GREATEST_SIZE") (.int 1)) .nil)))) .nil⟩
noncomputable def KL:Fn:=⟨2,2,.cons (.ret (.bin .add (.bin .mul (.lst (.cons (.var 1) .nil)) (.bi .len (.cons (.ix (.var 0) (.int 0)) .nil))) (.bin .mul (.lst (.cons (.bin .mul (.var 1) (.var 1)) .nil)) (.bi .len (.cons (.ix (.var 0) (.int 1)) .nil))))) .nil⟩
def K6:Fn:=⟨2,2,.cons (.ret (.bi .sum (.cons (.call "widths" (.cons (.var 0) (.cons (.var 1) .nil))) .nil))) .nil⟩
noncomputable def GF:Fn:=⟨1,1,.cons (.iff (.not (.call "is_size" (.cons (.var 0) .nil))) (.cons (.raise "NoSize" (.cons (.str [97,32,115,105,122,101,32,105,115,32,97,32,119,104,111,108,101,32,110,117,109,98,101,114,32,102,114,111,109,32,48,32,116,111,32,52]) .nil)) .nil) .nil) .nil⟩
noncomputable def GG:Fn:=⟨3,4,.cons (.ex (.call "check_size" (.cons (.var 1) .nil))) (.cons (.setf 3 (.call "bits" (.cons (.var 0) (.cons (.var 1) .nil)))) (.cons (.iff (.cmp .gt (.var 3) (.var 2)) (.cons (.raisf "TooBig" "bits" (.var 3)) .nil) .nil) .nil))⟩
noncomputable def wH:Ss:= .cons (.setf 2 (.bin .bor (.var 2) (.bin .shl (.var 5) (.var 3)))) (.cons (.setf 3 (.bin .add (.var 3) (.var 4))) .nil)
noncomputable def KZ:Fn:=⟨2,6,.cons (.setf 2 (.int 0)) (.cons (.setf 3 (.int 0)) (.cons (.for [4,5] y9 (.zip (.call "widths" (.cons (.var 0) (.cons (.ix (.var 1) (.int 0)) .nil))) (.bin .add (.ix (.var 1) (.int 1)) (.ix (.var 1) (.int 2)))) wH) (.cons (.ret (.var 2)) .nil)))⟩
noncomputable def Zo:Ss:= .cons (.app 3 (.bin .band (.var 4) (.bin .sub (.bin .shl (.int 1) (.var 5)) (.int 1)))) (.cons (.setf 4 (.bin .shr (.var 4) (.var 5))) .nil)
noncomputable def Ki:Fn:=⟨3,7,.cons (.ex (.call "check_size" (.cons (.var 1) .nil))) (.cons (.iff (.not (.call "is_below" (.cons (.var 2) (.cons (.bin .shl (.int 1) (.call "bits" (.cons (.var 0) (.cons (.var 1) .nil)))) .nil)))) (.cons (.raise "NoCode" (.cons (.str [97,32,99,111,100,101,32,105,115,32,97,32,119,104,111,108,101,32,110,117,109,98,101,114,32,102,114,111,109,32,48,32,116,111,32,50,32,116,111,32,116,104,101,32,98,105,116,115,32,108,101,115,115,32,49]) .nil)) .nil) .nil) (.cons (.set 3 (.lst .nil)) (.cons (.setf 4 (.var 2)) (.cons (.for [5] true (.seq (.call "widths" (.cons (.var 0) (.cons (.var 1) .nil)))) Zo) (.cons (.setf 6 (.bi .len (.cons (.ix (.var 0) (.int 0)) .nil))) (.cons (.ret (.tup (.cons (.var 1) (.cons (.bi .tuple (.cons (.slH (.var 3) (.var 6)) .nil)) (.cons (.bi .tuple (.cons (.slL (.var 3) (.var 6)) .nil)) .nil))))) .nil))))))⟩
noncomputable def jg:E:= .comp [0] k9 1 [3] (.range1 (.var 1)) k9 (.cmp .nmem (.var 0) (.var 1)) (.bin .add (.var 1) (.tup (.cons (.var 0) .nil)))
def qg:Ss:= .cons (.ext 2 jg) .nil
def GQ:Fn:=⟨2,4,.cons (.set 2 (.lst .nil)) (.cons (.for [3] k9 (.seq (.var 0)) qg) (.cons (.ret (.var 2)) .nil))⟩
def wn:Ss:= .cons (.set 1 (.call "longer_by_one" (.cons (.var 1) (.cons (.var 0) .nil)))) .nil
noncomputable def Ko:Fn:=⟨1,3,.cons (.ex (.call "check_size" (.cons (.var 0) .nil))) (.cons (.set 1 (.lst (.cons (.tup .nil) .nil))) (.cons (.for [2] true (.range1 (.var 0)) wn) (.cons (.ret (.var 1)) .nil)))⟩
def jf:E:= .comp [0] k9 1 [1] (.seq (.var 0)) y9 (.bl k9) (.call "is_below" (.cons (.var 0) (.cons (.var 1) .nil)))
noncomputable def GK:Fn:=⟨2,2,.cons (.iff (.or (.not (.isT (.var 0) .tuple)) (.cmp .ne (.bi .len (.cons (.var 0) .nil)) (.var 1))) (.cons (.ret (.bl y9)) .nil) .nil) (.cons (.ret (.and (.bi .all (.cons jf .nil)) (.cmp .eq (.lenset (.var 0)) (.var 1)))) .nil)⟩
noncomputable def Qh:Ss:= .cons (.iff (.bin .band (.bin .shr (.var 0) (.var 3)) (.int 1)) (.cons (.setf 2 (.bin .bor (.var 2) (.bin .shl (.int 1) (.var 4)))) .nil) .nil) .nil
def GZ:Fn:=⟨2,5,.cons (.setf 2 (.int 0)) (.cons (.for [3,4] y9 (.enum (.var 1)) Qh) (.cons (.ret (.var 2)) .nil))⟩
noncomputable def Qi:E:= .comp [0,1] false 2 [1] (.seq (.call "pairs_of" (.cons (.var 2) (.cons (.var 0) .nil)))) false (.bl true) (.tup (.cons (.ix (.var 2) (.var 0)) (.cons (.ix (.var 2) (.var 1)) .nil)))
noncomputable def GN:Fn:=⟨2,3,.cons (.setf 2 (.bi .len (.cons (.var 1) .nil))) (.cons (.ret (.call "gathered" (.cons (.var 2) (.cons Qi .nil)))) .nil)⟩
def Qt:E:= .comp [0] k9 1 [2] (.seq (.var 5)) y9 (.bl k9) (.call "renamed_tie" (.cons (.var 0) (.cons (.var 1) .nil)))
def wt:E:= .comp [0] k9 1 [2] (.seq (.var 4)) y9 (.bl k9) (.call "renamed_kind" (.cons (.var 0) (.cons (.var 1) .nil)))
noncomputable def Kw:Fn:=⟨3,8,.cons (.unp [3,4,5] (.var 1)) (.cons (.iff (.not (.call "is_renaming" (.cons (.var 2) (.cons (.var 3) .nil)))) (.cons (.raise "NoRenaming" (.cons (.str [97,32,114,101,110,97,109,105,110,103,32,105,115,32,97,32,116,117,112,108,101,32,111,102,32,97,108,108,32,116,104,105,110,103,115,32,111,102,32,116,104,101,32,115,105,122,101,44,32,101,97,99,104,32,111,110,99,101]) .nil)) .nil) .nil) (.cons (.setf 6 (.bi .tuple (.cons wt .nil))) (.cons (.setf 7 (.bi .tuple (.cons Qt .nil))) (.cons (.ret (.tup (.cons (.var 3) (.cons (.var 6) (.cons (.var 7) .nil))))) .nil))))⟩
noncomputable def jp:E:= .comp [0] true 1 [0,1] (.seq (.call "renamings" (.cons (.ix (.var 1) (.int 0)) .nil))) false (.bl true) (.call "code" (.cons (.var 1) (.cons (.call "renamed" (.cons (.var 1) (.cons (.var 2) (.cons (.var 0) .nil)))) .nil)))
def GJ:Fn:=⟨2,2,.cons (.ret jp) .nil⟩
noncomputable def wg:E:= .comp [0] k9 1 [4] (.range1 (.var 3)) k9 (.bin .band (.bin .shr (.var 1) (.var 0)) (.int 1)) (.tup (.cons (.var 0) (.cons (.var 0) .nil)))
noncomputable def GC:Fn:=⟨3,5,.cons (.iff (.cmp .mem (.var 2) (.ix (.var 0) (.int 1))) (.cons (.ret (.ix (.ix (.var 1) (.int 2)) (.meth .index (.ix (.var 0) (.int 1)) (.cons (.var 2) .nil)))) .nil) .nil) (.cons (.setf 3 (.ix (.var 1) (.int 0))) (.cons (.setf 4 (.ix (.ix (.var 1) (.int 1)) (.meth .index (.ix (.var 0) (.int 0)) (.cons (.var 2) .nil)))) (.cons (.ret (.call "gathered" (.cons (.var 3) (.cons wg .nil)))) .nil)))⟩
noncomputable def GP:Fn:=⟨3,3,.cons (.iff (.cmp .eq (.var 1) (.str [115,97,109,101])) (.cons (.ret (.call "same" (.cons (.var 0) .nil))) .nil) .nil) (.cons (.iff (.cmp .eq (.var 1) (.str [97,108,108])) (.cons (.ret (.call "every" (.cons (.var 0) .nil))) .nil) .nil) (.cons (.iff (.cmp .eq (.var 1) (.str [110,111,110,101])) (.cons (.ret (.int 0)) .nil) .nil) (.cons (.iff (.cmp .eq (.var 1) (.str [112,108,117,115])) (.cons (.ret (.call "either" (.cons (.ix (.var 2) (.int 0)) (.cons (.ix (.var 2) (.int 1)) .nil)))) .nil) .nil) (.cons (.iff (.cmp .eq (.var 1) (.str [108,101,115,115])) (.cons (.ret (.call "without" (.cons (.ix (.var 2) (.int 0)) (.cons (.ix (.var 2) (.int 1)) .nil)))) .nil) .nil) (.cons (.iff (.cmp .eq (.var 1) (.str [98,111,116,104])) (.cons (.ret (.call "common" (.cons (.ix (.var 2) (.int 0)) (.cons (.ix (.var 2) (.int 1)) .nil)))) .nil) .nil) (.cons (.iff (.cmp .eq (.var 1) (.str [106,111,105,110,101,100])) (.cons (.ret (.call "joined" (.cons (.var 0) (.cons (.ix (.var 2) (.int 0)) (.cons (.ix (.var 2) (.int 1)) .nil))))) .nil) .nil) (.cons (.iff (.cmp .eq (.var 1) (.str [116,117,114,110,101,100])) (.cons (.ret (.call "turned" (.cons (.var 0) (.cons (.ix (.var 2) (.int 0)) .nil)))) .nil) .nil) (.cons (.ret (.call "closed" (.cons (.var 0) (.cons (.ix (.var 2) (.int 0)) .nil)))) .nil))))))))⟩
noncomputable def ZR:E:= .comp [0] k9 1 [0,1] (.seq (.slL (.var 2) (.int 1))) y9 (.bl k9) (.call "value" (.cons (.var 1) (.cons (.var 2) (.cons (.var 0) .nil))))
noncomputable def Kl:Fn:=⟨3,4,.cons (.iff (.cmp .eq (.ix (.var 2) (.int 0)) (.str [110,97,109,101])) (.cons (.ret (.call "value_of_name" (.cons (.var 0) (.cons (.var 1) (.cons (.ix (.var 2) (.int 1)) .nil))))) .nil) .nil) (.cons (.setf 3 ZR) (.cons (.ret (.call "made" (.cons (.ix (.var 1) (.int 0)) (.cons (.ix (.var 2) (.int 0)) (.cons (.var 3) .nil))))) .nil))⟩
def Xw:E:= .comp [0] k9 1 [4] (.range1 (.var 0)) y9 (.bl k9) (.meth .count (.var 1) (.cons (.var 0) .nil))
def zx:E:= .comp [0,1] y9 2 [] (.seq (.var 3)) y9 (.bl k9) (.var 0)
noncomputable def KK:Fn:=⟨3,5,.cons (.setf 3 (.call "pairs_of" (.cons (.var 0) (.cons (.var 2) .nil)))) (.cons (.iff (.cmp .mem (.var 1) (.tup (.cons (.str [108,101,97,115,116]) (.cons (.str [109,111,115,116]) .nil)))) (.cons (.ret (.lst (.cons (.bi .len (.cons (.var 3) .nil)) .nil))) .nil) .nil) (.cons (.setf 4 zx) (.cons (.ret Xw) .nil)))⟩
def xi:E:= .comp [0] k9 1 [3] (.seq (.var 4)) y9 (.bl k9) (.cmp .le (.var 0) (.var 1))
def wj:E:= .comp [0] k9 1 [3] (.seq (.var 4)) y9 (.bl k9) (.cmp .ge (.var 0) (.var 1))
noncomputable def GL:Fn:=⟨3,5,.cons (.setf 3 (.ix (.var 2) (.int 1))) (.cons (.setf 4 (.call "counts" (.cons (.ix (.var 1) (.int 0)) (.cons (.ix (.var 2) (.int 0)) (.cons (.call "value" (.cons (.var 0) (.cons (.var 1) (.cons (.ix (.var 2) (.int 2)) .nil)))) .nil))))) (.cons (.iff (.cmp .mem (.ix (.var 2) (.int 0)) (.tup (.cons (.str [108,101,97,115,116]) (.cons (.str [101,97,99,104,108,101,97,115,116]) .nil)))) (.cons (.ret (.bi .all (.cons wj .nil))) .nil) .nil) (.cons (.ret (.bi .all (.cons xi .nil))) .nil)))⟩
noncomputable def d_keeps:Fn:=⟨3,4,.cons (.setf 3 (.ix (.var 2) (.int 0))) (.cons (.iff (.cmp .eq (.var 3) (.str [110,111,116])) (.cons (.ret (.not (.call "keeps" (.cons (.var 0) (.cons (.var 1) (.cons (.ix (.var 2) (.int 1)) .nil)))))) .nil) .nil) (.cons (.iff (.cmp .eq (.var 3) (.str [97,110,100])) (.cons (.ret (.and (.call "keeps" (.cons (.var 0) (.cons (.var 1) (.cons (.ix (.var 2) (.int 1)) .nil)))) (.call "keeps" (.cons (.var 0) (.cons (.var 1) (.cons (.ix (.var 2) (.int 2)) .nil)))))) .nil) .nil) (.cons (.iff (.cmp .eq (.var 3) (.str [111,114])) (.cons (.ret (.or (.call "keeps" (.cons (.var 0) (.cons (.var 1) (.cons (.ix (.var 2) (.int 1)) .nil)))) (.call "keeps" (.cons (.var 0) (.cons (.var 1) (.cons (.ix (.var 2) (.int 2)) .nil)))))) .nil) .nil) (.cons (.iff (.cmp .eq (.var 3) (.str [105,110])) (.cons (.ret (.cmp .eq (.call "without" (.cons (.call "value" (.cons (.var 0) (.cons (.var 1) (.cons (.ix (.var 2) (.int 1)) .nil)))) (.cons (.call "value" (.cons (.var 0) (.cons (.var 1) (.cons (.ix (.var 2) (.int 2)) .nil)))) .nil))) (.int 0))) .nil) .nil) (.cons (.iff (.cmp .eq (.var 3) (.str [101,113,117,97,108])) (.cons (.ret (.cmp .eq (.call "value" (.cons (.var 0) (.cons (.var 1) (.cons (.ix (.var 2) (.int 1)) .nil)))) (.call "value" (.cons (.var 0) (.cons (.var 1) (.cons (.ix (.var 2) (.int 2)) .nil)))))) .nil) .nil) (.cons (.iff (.cmp .eq (.var 3) (.str [115,111,109,101])) (.cons (.ret (.cmp .ne (.call "value" (.cons (.var 0) (.cons (.var 1) (.cons (.ix (.var 2) (.int 1)) .nil)))) (.int 0))) .nil) .nil) (.cons (.iff (.cmp .eq (.var 3) (.str [110,111])) (.cons (.ret (.cmp .eq (.call "value" (.cons (.var 0) (.cons (.var 1) (.cons (.ix (.var 2) (.int 1)) .nil)))) (.int 0))) .nil) .nil) (.cons (.ret (.call "keeps_count" (.cons (.var 0) (.cons (.var 1) (.cons (.var 2) .nil))))) .nil))))))))⟩
noncomputable def Wb:Ss:= .cons (.iff (.not (.call "keeps" (.cons (.var 0) (.cons (.var 1) (.cons (.var 4) .nil))))) (.cons (.ret (.var 3)) .nil) .nil) .nil
def GH:Fn:=⟨3,5,.cons (.for [3,4] y9 (.enum (.var 2)) Wb) (.cons (.ret .non) .nil)⟩
def qm:Ss:= .cons (.dputI 2 (.var 6)) .nil
noncomputable def Jh:Ss:= .cons (.iff (.dinI true (.var 4) 2) (.cons (.setf 5 (.call "world_of" (.cons (.var 0) (.cons (.var 1) (.cons (.var 4) .nil))))) (.cons (.app 3 (.var 5)) (.cons (.for [6] true (.seq (.call "codes_alike" (.cons (.var 0) (.cons (.var 5) .nil)))) qm) .nil))) .nil) .nil
noncomputable def G9:Fn:=⟨2,7,.cons (.set 2 .dnewI) (.cons (.set 3 (.lst .nil)) (.cons (.for [4] k9 (.range1 (.bin .shl (.int 1) (.call "bits" (.cons (.var 0) (.cons (.var 1) .nil))))) Jh) (.cons (.ret (.var 3)) .nil)))⟩
noncomputable def XE:E:= .comp [0] true 1 [2,3] (.seq (.call "all_forms" (.cons (.var 2) (.cons (.var 1) .nil)))) true (.isn false (.call "first_broken" (.cons (.var 1) (.cons (.var 0) (.cons (.var 2) .nil))))) (.var 0)
noncomputable def Kk:Fn:=⟨2,4,.cons (.unp [2,3] (.var 0)) (.cons (.ex (.call "check_bits" (.cons (.var 2) (.cons (.var 1) (.cons (.con "MOST_LISTED_BITS") .nil))))) (.cons (.ret XE) .nil))⟩
noncomputable def Kv:Fn:=⟨2,2,.cons (.iff (.cmp .lt (.var 1) (.bi .len (.cons (.var 0) .nil))) (.cons (.ret (.ix (.var 0) (.var 1))) .nil) .nil) (.cons (.ret (.int 0)) .nil)⟩
def Km:Fn:=⟨1,1,.cons (.ret (.and (.isT (.var 0) .int) (.not (.isT (.var 0) .bool)))) .nil⟩
def zn:Ss:= .cons (.unp [0,4] (.bi .divmod (.cons (.var 0) (.cons (.int 2) .nil)))) (.cons (.app 2 (.var 4)) .nil)
def Kc:Fn:=⟨2,5,.cons (.set 2 (.lst .nil)) (.cons (.for [3] k9 (.range1 (.var 1)) zn) (.cons (.ret (.var 2)) .nil))⟩
noncomputable def Qg:Ss:= .cons (.iff (.cmp .nmem (.var 5) (.var 4)) (.cons (.app 3 (.bin .add (.var 4) (.tup (.cons (.var 5) .nil)))) .nil) .nil) .nil
def Qk:Ss:= .cons (.for [5] k9 (.range1 (.var 0)) Qg) .nil
noncomputable def Wr:Ss:= .cons (.set 3 (.lst .nil)) (.cons (.freeze 1) (.cons (.for [4] k9 (.seq (.var 1)) Qk) (.cons (.mv 1 3) .nil)))
noncomputable def Kj:Fn:=⟨1,6,.cons (.set 1 (.lst (.cons (.tup .nil) .nil))) (.cons (.for [2] k9 (.range1 (.var 0)) Wr) (.cons (.ret (.var 1)) .nil))⟩
noncomputable def wm:Ss:= .cons (.unp [4,8] (.bi .divmod (.cons (.var 4) (.cons (.bin .shl (.int 1) (.bin .mul (.var 0) (.var 0))) .nil)))) (.cons (.app 6 (.var 8)) .nil)
noncomputable def jm:Ss:= .cons (.unp [4,8] (.bi .divmod (.cons (.var 4) (.cons (.bin .shl (.int 1) (.var 0)) .nil)))) (.cons (.app 5 (.var 8)) .nil)
noncomputable def GO:Fn:=⟨4,9,.cons (.setf 4 (.bin .mod (.var 3) (.bin .shl (.int 1) (.bin .add (.bin .mul (.var 1) (.var 0)) (.bin .mul (.bin .mul (.var 2) (.var 0)) (.var 0)))))) (.cons (.set 5 (.lst .nil)) (.cons (.set 6 (.lst .nil)) (.cons (.for [7] k9 (.range1 (.var 1)) jm) (.cons (.for [7] k9 (.range1 (.var 2)) wm) (.cons (.ret (.tup (.cons (.var 0) (.cons (.bi .tuple (.cons (.var 5) .nil)) (.cons (.bi .tuple (.cons (.var 6) .nil)) .nil))))) .nil)))))⟩
noncomputable def Qm:E:= .comp [0,1] y9 2 [1,2] (.seq (.var 10)) y9 (.bl k9) (.bin .shl (.int 1) (.bin .add (.bin .mul (.ix (.var 2) (.var 0)) (.var 3)) (.ix (.var 2) (.var 1))))
noncomputable def Ws:E:= .comp [0] k9 1 [7,2] (.range1 (.bin .mul (.var 2) (.var 2))) k9 (.cmp .eq (.ix (.var 1) (.var 0)) (.int 1)) (.bi .divmod (.cons (.var 0) (.cons (.var 2) .nil)))
noncomputable def qt:Ss:= .cons (.setf 7 (.call "_law_marks" (.cons (.var 9) (.cons (.bin .mul (.var 2) (.var 2)) .nil)))) (.cons (.setf 10 Ws) (.cons (.app 8 (.bi .sum (.cons Qm .nil))) .nil))
noncomputable def jt:E:= .comp [0] k9 1 [7,1] (.range1 (.var 2)) k9 (.cmp .eq (.ix (.var 1) (.var 0)) (.int 1)) (.bin .shl (.int 1) (.ix (.var 2) (.var 0)))
noncomputable def Js:Ss:= .cons (.setf 7 (.call "_law_marks" (.cons (.var 6) (.cons (.var 2) .nil)))) (.cons (.app 5 (.bi .sum (.cons jt .nil))) .nil)
noncomputable def Kr:Fn:=⟨2,11,.cons (.unp [2,3,4] (.var 0)) (.cons (.set 5 (.lst .nil)) (.cons (.for [6] k9 (.seq (.var 3)) Js) (.cons (.set 8 (.lst .nil)) (.cons (.for [9] k9 (.seq (.var 4)) qt) (.cons (.ret (.tup (.cons (.var 2) (.cons (.bi .tuple (.cons (.var 5) .nil)) (.cons (.bi .tuple (.cons (.var 8) .nil)) .nil))))) .nil)))))⟩
def Wh:E:= .comp [0] k9 1 [] (.seq (.ix (.var 0) (.var 2))) y9 (.bl k9) (.call "_law_whole" (.cons (.var 0) .nil))
noncomputable def Jl:Ss:= .cons (.iff (.or (.not (.isT (.ix (.var 0) (.var 2)) .tuple)) (.cmp .ne (.bi .len (.cons (.ix (.var 0) (.var 2)) .nil)) (.bi .len (.cons (.ix (.var 1) (.var 2)) .nil)))) (.cons (.ret (.bl y9)) .nil) .nil) (.cons (.iff (.or (.not (.bi .all (.cons Wh .nil))) (.cmp .ne (.ix (.var 0) (.var 2)) (.ix (.var 1) (.var 2)))) (.cons (.ret (.bl y9)) .nil) .nil) .nil)
noncomputable def G6:Fn:=⟨2,3,.cons (.iff (.or (.not (.isT (.var 0) .tuple)) (.or (.cmp .ne (.bi .len (.cons (.var 0) .nil)) (.int 3)) (.or (.not (.call "_law_whole" (.cons (.ix (.var 0) (.int 0)) .nil))) (.cmp .ne (.ix (.var 0) (.int 0)) (.ix (.var 1) (.int 0)))))) (.cons (.ret (.bl false)) .nil) .nil) (.cons (.for [2] true (.seq (.lst (.cons (.int 1) (.cons (.int 2) .nil)))) Jl) (.cons (.ret (.bl true)) .nil))⟩
noncomputable def Kb:Fn:=⟨2,2,.cons (.ret (.tup (.cons (.slH (.tup (.cons (.str [97,103,101]) (.cons (.str [98,101,101]) (.cons (.str [99,97,112]) (.cons (.str [100,111,116]) .nil))))) (.var 0)) (.cons (.slH (.tup (.cons (.str [101,97,116]) (.cons (.str [102,101,100]) (.cons (.str [103,111]) (.cons (.str [104,117,116]) .nil))))) (.var 1)) .nil)))) .nil⟩
noncomputable def GA:Fn:=⟨2,4,.cons (.setf 2 (.bin .add (.ix (.var 0) (.int 0)) (.ix (.var 0) (.int 1)))) (.cons (.setf 3 (.bin .mod (.var 1) (.bin .add (.bi .len (.cons (.var 2) .nil)) (.int 3)))) (.cons (.iff (.cmp .lt (.var 3) (.int 3)) (.cons (.ret (.tup (.cons (.ix (.lst (.cons (.str [115,97,109,101]) (.cons (.str [97,108,108]) (.cons (.str [110,111,110,101]) .nil)))) (.var 3)) .nil))) .nil) .nil) (.cons (.ret (.tup (.cons (.str [110,97,109,101]) (.cons (.ix (.var 2) (.bin .sub (.var 3) (.int 3))) .nil)))) .nil)))⟩
noncomputable def GU:Fn:=⟨2,5,.cons (.setf 2 (.ix (.ix (.var 0) (.neg (.int 1))) (.int 0))) (.cons (.setf 3 (.ix (.ix (.var 0) (.bin .mod (.bin .fdiv (.var 1) (.int 8)) (.bi .len (.cons (.var 0) .nil)))) (.int 0))) (.cons (.setf 4 (.ix (.lst (.cons (.str [105,110]) (.cons (.str [101,113,117,97,108]) (.cons (.str [115,111,109,101]) (.cons (.str [110,111]) (.cons (.str [108,101,97,115,116]) (.cons (.str [109,111,115,116]) (.cons (.str [101,97,99,104,108,101,97,115,116]) (.cons (.str [101,97,99,104,109,111,115,116]) .nil))))))))) (.bin .mod (.var 1) (.int 8)))) (.cons (.iff (.cmp .lt (.bin .mod (.var 1) (.int 8)) (.int 2)) (.cons (.ret (.tup (.cons (.var 4) (.cons (.var 2) (.cons (.var 3) .nil))))) .nil) .nil) (.cons (.iff (.cmp .lt (.bin .mod (.var 1) (.int 8)) (.int 4)) (.cons (.ret (.tup (.cons (.var 4) (.cons (.var 2) .nil)))) .nil) .nil) (.cons (.ret (.tup (.cons (.var 4) (.cons (.ix (.lst (.cons (.bin .mod (.bin .fdiv (.var 1) (.int 8)) (.int 5)) (.cons (.bin .mod (.bin .fdiv (.var 1) (.int 8)) (.int 100)) .nil))) (.bin .mod (.bin .fdiv (.var 1) (.int 800)) (.int 2))) (.cons (.var 2) .nil))))) .nil)))))⟩
noncomputable def Kp:Fn:=⟨2,5,.cons (.popR 0 2) (.cons (.popR 0 3) (.cons (.setf 4 (.bin .add (.int 1) (.bi .max (.cons (.ix (.var 3) (.int 1)) (.cons (.ix (.var 2) (.int 1)) .nil))))) (.cons (.iff (.cmp .gt (.var 4) (.int 13)) (.cons (.appR 0 (.var 3)) .nil) (.cons (.appR 0 (.tup (.cons (.tup (.cons (.var 1) (.cons (.ix (.var 3) (.int 0)) (.cons (.ix (.var 2) (.int 0)) .nil)))) (.cons (.var 4) .nil)))) .nil)) .nil)))⟩
noncomputable def Gs:Fn:=⟨5,8,.cons (.iff (.or (.cmp .lt (.var 3) (.int 5)) (.cmp .eq (.var 1) (.lst .nil))) (.cons (.appR 1 (.tup (.cons (.call "_law_atom" (.cons (.var 0) (.cons (.var 4) .nil))) (.cons (.int 1) .nil)))) .nil) (.cons (.iff (.cmp .lt (.var 3) (.int 7)) (.cons (.popU 1 [5,6]) (.cons (.iff (.cmp .lt (.var 6) (.int 13)) (.cons (.setf 5 (.tup (.cons (.ix (.lst (.cons (.str [116,117,114,110,101,100]) (.cons (.str [99,108,111,115,101,100]) .nil))) (.bin .sub (.var 3) (.int 5))) (.cons (.var 5) .nil)))) .nil) .nil) (.cons (.appR 1 (.tup (.cons (.var 5) (.cons (.bi .min (.cons (.int 13) (.cons (.bin .add (.var 6) (.int 1)) .nil))) .nil)))) .nil))) (.cons (.iff (.cmp .lt (.var 3) (.int 11)) (.cons (.iff (.cmp .gt (.bi .len (.cons (.var 1) .nil)) (.int 1)) (.cons (.ex (.call "_law_put" (.cons (.var 1) (.cons (.ix (.lst (.cons (.str [112,108,117,115]) (.cons (.str [108,101,115,115]) (.cons (.str [98,111,116,104]) (.cons (.str [106,111,105,110,101,100]) .nil))))) (.bin .sub (.var 3) (.int 7))) .nil)))) .nil) .nil) .nil) (.cons (.iff (.or (.cmp .lt (.var 3) (.int 14)) (.cmp .eq (.var 2) (.lst .nil))) (.cons (.appR 2 (.tup (.cons (.call "_law_fact" (.cons (.var 1) (.cons (.var 4) .nil))) (.cons (.int 1) .nil)))) .nil) (.cons (.iff (.cmp .eq (.var 3) (.int 14)) (.cons (.popU 2 [7,6]) (.cons (.iff (.cmp .lt (.var 6) (.int 13)) (.cons (.setf 7 (.tup (.cons (.str [110,111,116]) (.cons (.var 7) .nil)))) .nil) .nil) (.cons (.appR 2 (.tup (.cons (.var 7) (.cons (.bi .min (.cons (.int 13) (.cons (.bin .add (.var 6) (.int 1)) .nil))) .nil)))) .nil))) (.cons (.iff (.cmp .gt (.bi .len (.cons (.var 2) .nil)) (.int 1)) (.cons (.ex (.call "_law_put" (.cons (.var 2) (.cons (.ix (.lst (.cons (.str [97,110,100]) (.cons (.str [111,114]) .nil))) (.bin .mod (.var 4) (.int 2))) .nil)))) .nil) .nil) .nil)) .nil)) .nil)) .nil)) .nil)) .nil⟩
noncomputable def GR:Fn:=⟨1,2,.cons (.setf 1 (.bin .add (.bin .mod (.var 0) (.int 1000003)) (.int 29))) (.cons (.ret (.bin .fdiv (.bin .add (.bin .pow (.var 1) (.int 11)) (.bin .mul (.int 31) (.bin .pow (.var 1) (.int 7)))) (.int 13))) .nil)⟩
def Xg:Ss:= .cons (.setf 7 (.tup (.cons (.str [97,110,100]) (.cons (.var 7) (.cons (.var 8) .nil))))) .nil
noncomputable def Jg:Ss:= .cons (.unp [1,5] (.bi .divmod (.cons (.var 1) (.cons (.int 16) .nil)))) (.cons (.unp [1,6] (.bi .divmod (.cons (.var 1) (.cons (.int 1600) .nil)))) (.cons (.ex (.call "_law_op" (.cons (.var 0) (.cons (.var 2) (.cons (.var 3) (.cons (.var 5) (.cons (.var 6) .nil))))))) .nil))
noncomputable def GE:Fn:=⟨2,10,.cons (.set 2 (.share (.lst .nil))) (.cons (.set 3 (.share (.lst .nil))) (.cons (.for [4] true (.range1 (.int 7)) Jg) (.cons (.iff (.cmp .eq (.var 3) (.lst .nil)) (.cons (.unp [1,6] (.bi .divmod (.cons (.var 1) (.cons (.int 1600) .nil)))) (.cons (.appR 3 (.tup (.cons (.call "_law_fact" (.cons (.var 2) (.cons (.var 6) .nil))) (.cons (.int 1) .nil)))) .nil)) .nil) (.cons (.setf 7 (.ix (.ix (.var 3) (.int 0)) (.int 0))) (.cons (.for [8,9] false (.seq (.slL (.var 3) (.int 1))) Xg) (.cons (.ret (.var 7)) .nil))))))⟩
def Qf:E:= .comp [0] k9 1 [1] (.seq (.var 4)) y9 (.bl k9) (.call "_law_saying" (.cons (.var 1) (.cons (.var 0) .nil)))
def zj:E:= .comp [0] k9 1 [] (.seq (.var 4)) y9 (.bl k9) (.call "_law_spread" (.cons (.var 0) .nil))
noncomputable def Gx:Fn:=⟨4,5,.cons (.setf 4 (.sl (.var 0) (.var 2) (.bin .add (.var 2) (.var 3)))) (.cons (.iff (.cmp .eq (.bin .mod (.call "_law_nth" (.cons (.var 0) (.cons (.int 0) .nil))) (.int 2)) (.int 1)) (.cons (.setf 4 zj) .nil) .nil) (.cons (.ret (.bi .tuple (.cons Qf .nil))) .nil))⟩
noncomputable def G7:Fn:=⟨1,2,.cons (.setf 1 (.lst (.cons (.tup (.cons (.int 1) (.cons (.int 1) (.cons (.int 2) .nil)))) (.cons (.tup (.cons (.int 0) (.cons (.int 1) (.cons (.int 2) .nil)))) (.cons (.tup (.cons (.int 2) (.cons (.int 1) (.cons (.int 2) .nil)))) (.cons (.tup (.cons (.int 0) (.cons (.int 2) (.cons (.int 2) .nil)))) (.cons (.tup (.cons (.int 2) (.cons (.int 0) (.cons (.int 3) .nil)))) (.cons (.tup (.cons (.int 1) (.cons (.int 0) (.cons (.int 3) .nil)))) (.cons (.tup (.cons (.int 3) (.cons (.int 0) (.cons (.int 2) .nil)))) (.cons (.tup (.cons (.int 1) (.cons (.int 0) (.cons (.int 4) .nil)))) (.cons (.tup (.cons (.int 0) (.cons (.int 0) (.cons (.int 3) .nil)))) .nil))))))))))) (.cons (.setf 1 (.bin .add (.var 1) (.lst (.cons (.tup (.cons (.int 4) (.cons (.int 4) (.cons (.int 1) .nil)))) (.cons (.tup (.cons (.int 1) (.cons (.int 1) (.cons (.int 1) .nil)))) (.cons (.tup (.cons (.int 2) (.cons (.int 3) (.cons (.int 1) .nil)))) (.cons (.tup (.cons (.int 4) (.cons (.int 4) (.cons (.int 0) .nil)))) (.cons (.tup (.cons (.int 0) (.cons (.int 1) (.cons (.int 1) .nil)))) (.cons (.tup (.cons (.int 2) (.cons (.int 0) (.cons (.int 2) .nil)))) (.cons (.tup (.cons (.int 1) (.cons (.int 1) (.cons (.int 2) .nil)))) .nil)))))))))) (.cons (.iff (.cmp .eq (.bin .mod (.bin .fdiv (.var 0) (.int 16)) (.int 24)) (.int 11)) (.cons (.ret (.ix (.lst (.cons (.tup (.cons (.int 0) (.cons (.int 1) (.cons (.int 3) .nil)))) (.cons (.tup (.cons (.int 2) (.cons (.int 0) (.cons (.int 4) .nil)))) .nil))) (.bin .mod (.bin .fdiv (.var 0) (.int 384)) (.int 2)))) .nil) .nil) (.cons (.ret (.ix (.var 1) (.bin .mod (.var 0) (.int 16)))) .nil)))⟩
noncomputable def ZO:E:= .comp [0] k9 1 [0,1] (.seq (.var 2)) y9 (.bl k9) (.call "keeps" (.cons (.var 1) (.cons (.var 2) (.cons (.var 0) .nil))))
def Ke:Fn:=⟨3,3,.cons (.ret (.bi .all (.cons ZO .nil))) .nil⟩
noncomputable def Wd:Ss:= .cons (.setf 6 (.call "_law_led" (.cons (.var 0) (.cons (.var 5) .nil)))) (.cons (.setf 7 (.bin .add (.rev (.bi .list (.cons (.ix (.var 6) (.int 2)) .nil))) (.rev (.bi .list (.cons (.ix (.var 6) (.int 1)) .nil))))) (.cons (.iff (.or (.isn false (.var 4)) (.ltL (.var 7) (.ix (.var 4) (.int 0)))) (.cons (.setf 4 (.tup (.cons (.var 7) (.cons (.var 6) .nil)))) .nil) .nil) .nil))
noncomputable def G8:Fn:=⟨1,8,.cons (.unp [1,2,3] (.var 0)) (.cons (.setf 4 .non) (.cons (.for [5] k9 (.seq (.call "_law_orders" (.cons (.var 1) .nil))) Wd) (.cons (.ret (.ix (.var 4) (.int 1))) .nil)))⟩
noncomputable def xj:Ss:= .cons (.setf 7 (.call "_law_world" (.cons (.var 1) (.cons (.var 3) (.cons (.var 4) (.cons (.var 6) .nil)))))) (.cons (.iff (.call "_law_keep" (.cons (.var 0) (.cons (.var 7) (.cons (.var 2) .nil)))) (.cons (.app 5 (.var 7)) .nil) .nil) .nil)
noncomputable def GM:Fn:=⟨3,8,.cons (.setf 3 (.bi .len (.cons (.ix (.var 0) (.int 0)) .nil))) (.cons (.setf 4 (.bi .len (.cons (.ix (.var 0) (.int 1)) .nil))) (.cons (.set 5 (.lst .nil)) (.cons (.for [6] k9 (.range1 (.bin .shl (.int 1) (.bin .add (.bin .mul (.var 3) (.var 1)) (.bin .mul (.bin .mul (.var 4) (.var 1)) (.var 1))))) xj) (.cons (.ret (.var 5)) .nil))))⟩
noncomputable def Gz:Fn:=⟨2,4,.cons (.setf 2 .non) (.cons (.tryc "unlike" (.cons (.var 0) (.cons (.var 1) .nil)) "WorldError" 3 2) (.cons (.iff (.and (.isX (.var 2) true ["TooBig"]) (.and (.not (.isX (.var 2) false ["NoCode", "NoNumber", "NoSize"])) (.call "_law_whole" (.cons (.xf 2 "bits") .nil)))) (.cons (.ret (.lst (.cons (.str [98,105,103]) (.cons (.xf 2 "bits") .nil)))) .nil) .nil) (.cons (.iff (.and (.isX (.var 2) true ["NoSize"]) (.not (.isX (.var 2) false ["NoCode", "NoNumber", "TooBig"]))) (.cons (.ret (.lst (.cons (.str [115,105,122,101]) .nil))) .nil) .nil) (.cons (.ret (.lst .nil)) .nil))))⟩
noncomputable def Jk:E:= .comp [0] k9 1 [0,1] (.range1 (.bi .len (.cons (.var 1) .nil))) y9 (.bl k9) (.call "_law_alike" (.cons (.ix (.var 1) (.var 0)) (.cons (.ix (.var 2) (.var 0)) .nil)))
noncomputable def GS:Fn:=⟨2,2,.cons (.iff (.or (.not (.isT (.var 0) .list)) (.cmp .ne (.bi .len (.cons (.var 0) .nil)) (.bi .len (.cons (.var 1) .nil)))) (.cons (.ret (.bl y9)) .nil) .nil) (.cons (.ret (.bi .all (.cons Jk .nil))) .nil)⟩
noncomputable def JJ:E:= .comp [0] k9 1 [8] (.seq (.var 7)) y9 (.bl k9) (.cmp .mem (.call "_law_least" (.cons (.var 0) .nil)) (.var 1))
def qU:E:= .comp [0] k9 1 [] (.seq (.var 7)) k9 (.cmp .eq (.call "_law_least" (.cons (.var 0) .nil)) (.var 0)) (.var 0)
noncomputable def d_law:Fn:=⟨1,14,.cons (.unp [1,2,3] (.call "_law_shape" (.cons (.bin .fdiv (.call "_law_nth" (.cons (.var 0) (.cons (.int 0) .nil))) (.int 2)) .nil))) (.cons (.setf 4 (.call "_law_names" (.cons (.var 1) (.cons (.var 2) .nil)))) (.cons (.setf 5 (.bin .mod (.bin .fdiv (.call "_law_nth" (.cons (.var 0) (.cons (.int 0) .nil))) (.int 1536)) (.int 5))) (.cons (.iff (.cmp .gt (.bin .add (.bin .mul (.var 1) (.var 3)) (.bin .mul (.bin .mul (.var 2) (.var 3)) (.var 3))) (.int 6)) (.cons (.setf 5 (.bi .min (.cons (.var 5) (.cons (.int 2) .nil)))) .nil) .nil) (.cons (.iff (.or (.cmp .eq (.var 3) (.int 4)) (.cmp .gt (.bin .add (.bin .mul (.var 1) (.var 3)) (.bin .mul (.bin .mul (.var 2) (.var 3)) (.var 3))) (.int 8))) (.cons (.setf 5 (.bi .min (.cons (.var 5) (.cons (.int 1) .nil)))) .nil) .nil) (.cons (.setf 6 (.call "_law_sayings" (.cons (.var 0) (.cons (.var 4) (.cons (.int 2) (.cons (.var 5) .nil)))))) (.cons (.setf 7 (.call "_law_keepers" (.cons (.var 4) (.cons (.var 3) (.cons (.var 6) .nil))))) (.cons (.setf 8 qU) (.cons (.iff (.not (.bi .all (.cons JJ .nil))) (.cons (.ret (.bl false)) .nil) .nil) (.cons (.set 9 (.call "unlike" (.cons (.tup (.cons (.var 4) (.cons (.var 6) .nil))) (.cons (.var 3) .nil)))) (.cons (.iff (.not (.call "_law_listed" (.cons (.var 9) (.cons (.var 8) .nil)))) (.cons (.ret (.bl false)) .nil) .nil) (.cons (.app 9 .non) (.cons (.unp [1,2,10] (.ix (.lst (.cons (.tup (.cons (.int 1) (.cons (.int 2) (.cons (.int 2) .nil)))) (.cons (.tup (.cons (.int 3) (.cons (.int 1) (.cons (.int 2) .nil)))) (.cons (.tup (.cons (.int 1) (.cons (.int 1) (.cons (.int 3) .nil)))) (.cons (.tup (.cons (.int 0) (.cons (.int 1) (.cons (.int 4) .nil)))) (.cons (.tup (.cons (.int 4) (.cons (.int 4) (.cons (.int 4) .nil)))) (.cons (.tup (.cons (.int 3) (.cons (.int 0) (.cons (.int 4) .nil)))) .nil))))))) (.bin .mod (.call "_law_nth" (.cons (.var 0) (.cons (.int 1) .nil))) (.int 6)))) (.cons (.setf 11 (.call "_law_names" (.cons (.var 1) (.cons (.var 2) .nil)))) (.cons (.setf 12 (.bin .add (.bin .mul (.var 1) (.var 10)) (.bin .mul (.bin .mul (.var 2) (.var 10)) (.var 10)))) (.cons (.setf 13 (.ix (.lst (.cons (.neg (.int 1)) (.cons (.int 5) (.cons (.bl true) (.cons .non (.cons (.str [50]) (.cons (.bin .add (.int 5) (.bin .mod (.bin .fdiv (.call "_law_nth" (.cons (.var 0) (.cons (.int 1) .nil))) (.int 36)) (.bin .pow (.int 10) (.int 20)))) .nil))))))) (.bin .mod (.bin .fdiv (.call "_law_nth" (.cons (.var 0) (.cons (.int 1) .nil))) (.int 6)) (.int 6)))) (.cons (.iff (.or (.cmp .ne (.call "_law_refused" (.cons (.tup (.cons (.var 11) (.cons (.tup .nil) .nil))) (.cons (.var 10) .nil))) (.lst (.cons (.str [98,105,103]) (.cons (.var 12) .nil)))) (.cmp .ne (.call "_law_refused" (.cons (.tup (.cons (.var 11) (.cons (.tup .nil) .nil))) (.cons (.var 13) .nil))) (.lst (.cons (.str [115,105,122,101]) .nil)))) (.cons (.ret (.bl false)) .nil) .nil) (.cons (.ret (.call "_law_listed" (.cons (.call "unlike" (.cons (.tup (.cons (.var 4) (.cons (.var 6) .nil))) (.cons (.var 3) .nil))) (.cons (.var 8) .nil)))) .nil)))))))))))))))))⟩
noncomputable def prog:Prog:=⟨[("is_whole",Ky),("is_below",GT),("pairs_of",Kf),("gathered",Kh),("common",KB),("either",KI),("without",Kn),("turned",KC),("joined",KJ),("closed",KH),("same",K0),("every",KR),("is_size",Kq),("widths",KL),("bits",K6),("check_size",GF),("check_bits",GG),("code",KZ),("world_of",Ki),("longer_by_one",GQ),("renamings",Ko),("is_renaming",GK),("renamed_kind",GZ),("renamed_tie",GN),("renamed",Kw),("codes_alike",GJ),("value_of_name",GC),("made",GP),("value",Kl),("counts",KK),("keeps_count",GL),("keeps",d_keeps),("first_broken",GH),("all_forms",G9),("unlike",Kk),("_law_nth",Kv),("_law_whole",Km),("_law_marks",Kc),("_law_orders",Kj),("_law_world",GO),("_law_led",Kr),("_law_alike",G6),("_law_names",Kb),("_law_atom",GA),("_law_fact",GU),("_law_put",Kp),("_law_op",Gs),("_law_spread",GR),("_law_saying",GE),("_law_sayings",Gx),("_law_shape",G7),("_law_keep",Ke),("_law_least",G8),("_law_keepers",GM),("_law_refused",Gz),("_law_listed",GS),("law",d_law)],[("WorldError", "ValueError"),("NoSize", "WorldError"),("NoCode", "WorldError"),("TooBig", "WorldError"),("NoRenaming", "WorldError"),("NoNumber", "WorldError")],[("GREATEST_SIZE",.int 4),("MOST_LISTED_BITS",.int 9)]⟩
noncomputable abbrev u9 (m:Nat):Fx:=⟨call prog m,prog.cl,prog.con⟩
theorem ww (f): ∀ ds,(∀ d∈ds,step d h= .ok (f d) h)->Gv step ds h= .ok (ds.filterMap f) h
 | [],_=>rfl
 | d::ds,a=>by
  have b:=ww f ds λd c=>a d (Aa2 _ c)
  rw [Gv,a d Aa3]
  simp only [b]
  cases q:f d<;>simp [q]
def JT (f) (g:Gk F it Y h= .ok ds h) (p:ds.length<=LIM)
 (i: ∀d∈ds,∃a b,Gp tg one d (Ab k u0++cap.map λj=>Gg Y j)=y0 a/\Gr F c a h= .ok b h/\(if b=k9 then ∃w y,eval F elt a h= .ok w h/\w.d=y0 y/\f d=y0 y else f d=u0)):
 eval F (.comp tg one k cap it k9 c elt) Y h= .ok (.own (ds.filterMap f)) h:=by
 rw [eval,g,R.bind_ok,if_pos p,ww f]
 ·rfl
 intro d m
 obtain⟨a,b,o,n,e⟩:=i d m
 rw [o]
 show((Gr F c a h).bind _)=_
 rw [n]
 cases b with
 | true=>
  obtain⟨w,y,r,q,l⟩:=e
  simp [r,q,l]
 | false=>
  rw [if_neg (by simp)]at e
  simp [e]
def Qw (f) (b:Gk F it Y h= .ok ds h) (l:ds.length<=LIM)
 (e: ∀d∈ds,∃a,Gp tg one d (Ab k u0++cap.map λj=>Gg Y j)=y0 a/\ ∃w,eval F elt a h= .ok w h/\w.d=y0 (f d)):
 eval F (.comp tg one k cap it y9 c elt) Y h= .ok (.own (ds.map f)) h:=by
 rw [eval,b,R.bind_ok,if_pos l,ww (λd=>y0 (f d))]
 ·simp [List.filterMap_eq_map']
 intro d g
 obtain⟨a,i,w,n,m⟩:=e d g
 rw [i]
 simp [n,m]
def XG (bnd) (body) (d) (ds) (Y) (h):Gq bnd body (d::ds) Y h=match bnd d Y with
 | none=> .fail
 | some c=>match body c h with
  | .next b a=>Gq bnd body ds b a
  | .cont b a=>Gq bnd body ds b a
  | .brk b a=> .next b a
  | o=>o:=rfl
@[simp] theorem qaG (bnd) (body) (Y) (h):Gq bnd body [] Y h= .next Y h:=rfl
def xa (b:bnd d Y=y0 Y1) (a:body Y1 h= .next Y2 h2):Gq bnd body (d::ds) Y h=Gq bnd body ds Y2 h2:=by
 rw [XG,b];simp only [a]
@[simp] theorem Ku (i) (d) (Y):Gp [i] k9 d Y=y0 (GB Y i (.v d)):=rfl
@[simp] theorem K7 (tg) (ds) (Y):Gp tg y9 (.tup ds) Y=setTup tg ds Y:=rfl
def Xo (a b:Nat):K9 (a:Int) (b:Int)=y0 ((a &&& b:Nat):Int):=by simp [K9]
def Wz (a b:Nat):orI (a:Int) (b:Int)=y0 ((a ||| b:Nat):Int):=by simp [orI]
@[simp] theorem Wm (i j):Gn .band i j=K9 i j:=rfl
@[simp] theorem zB (i j):Gn .bor i j=orI i j:=rfl
def Xc (a b:Nat) (h:a<2 ^ 64):Gn .mul (a:Int) (b:Int)=y0 ((a*b:Nat):Int):=by
 have c:(-xdU< a/\ a<xdU)\/(-xdU< b/\ b<xdU):=by rw [K4];omega
 show(if _ then _ else _)=_
 rw [if_pos c,Int.natCast_mul]
def Z9 (k:Nat) (h:k<=1000000):Gn .shl 1 (k:Int)=y0 ((2 ^ k:Nat):Int):=by
 have a: 0<=(k:Int)/\ k<=BP/\(1:Int).natAbs<qdF:=by rw [KW,GX];exact⟨by omega,by omega,by decide⟩
 show(if _ then _ else _)=_
 rw [if_pos a,Int.one_mul,Ag]
 simp
def Zz (t k:Nat):Gn .shr (t:Int) (k:Int)=y0 ((t / 2 ^ k:Nat):Int):=by
 simp [Gn,Int.natCast_pow]
def WI (t k):(t / 2 ^ k &&& 1)=(t.testBit k).toNat:=by
 have:=Ak (t / 2 ^ k) 1
 rw [this]
 exact Wf.bit_nat t k
def pD (p:Nat×Nat):D:= .tup [.int (p.1:Nat),.int (p.2:Nat)]
def za0 (n t:Nat) (m):(((Aa0 m).map λ(i:Nat)=>D.int (i:Int)).filterMap λd=>match d with
 | .int i=>if t.testBit i.toNat then y0 (.tup [.int (i / (n:Int)),.int (i % (n:Int))])else u0
 | _=>u0)=(((Aa0 m).filter t.testBit).map λk=>(k / n,k % n)).map pD:=by
 induction Aa0 m with
 | nil=>rfl
 | cons x c a=>
  by_cases b:t.testBit x=k9
  ·simp [b,pD,a]
  ·simp [b,a]
def rng (m)(b:d∈(Aa0 m).map λ(i:Nat)=>D.int (i:Int)): ∃i:Nat,i<m/\d= .int (i:Int):=by
 obtain⟨i,a,rfl⟩:=Ac.mp b
 exact⟨i,Ab3.mp a,rfl⟩
def xk (a:n<=20):n*n<=400:=Ac0 (Ad7 a a) (by decide)
def zbx (a:n<=20):n*n<=LIM:=Ac0 (xk a) (by rw [Gi];decide)
def Qd {m:Nat}(e:eval F a Y h= .ok (.v (.int (m:Int))) h) (c:m<=1000000):Gk F (.range1 a) Y h= .ok ((Aa0 m).map λ(i:Nat)=> .int (i:Int)) h:=by
 have b: -jdF<= m/\ m<jdF:=by rw [K3];omega
 rw [Gk,e,R.bind_ok,int?_int,R.of_some,R.bind_ok,if_pos b,Ag]
def qbi {n i j:Nat}(b:n<=20) (e:Gg Y i=y0 (.v (.int (n:Int)))/\Gg Y j=y0 (.v (.int (n:Int)))):Gk F (.range1 (.bin .mul (.var i) (.var j))) Y h= .ok ((Aa0 (n*n)).map λ(i:Nat)=> .int (i:Int)) h:=by
 have c:=xk b
 refine Qd ?_ (by omega)
 have a:=Xc n n (by omega)
 simp [e.1,e.2,a]
def jq (k n t:Nat) (h) (e:n<=20):call prog (k+1) "pairs_of" [.v (.int (n:Int)),.v (.int (t:Int))] h= .ok (.own ((Wf.pairsM n t).map pD)) h:=by
 rw [Ga rfl _ _ _ rfl]
 simp only [Kf,execs,exec,jx,GV]
 rw [JT (λd=>match d with
  | .int i=>if t.testBit i.toNat then y0 (.tup [.int (i / n),.int (i % n)])else u0
  | _=>u0) (qbi e (by simp [Gg])) (by simpa using zbx e)]
 ·rw [za0]
  simp [Wf.pairsM]
 ·intro d g
  obtain⟨i,f,rfl⟩:=rng _ g
  have b:0<n:=by cases n with
   | zero=>simp at f
   | succ m=>omega
  have a:0< n/\ n<jdO:=by rw [GY];omega
  have j:K9 ((t / 2 ^ i:Nat)) 1=y0 (((t.testBit i).toNat:Nat):Int):=by
   rw [show 1=((1:Nat):Int)from rfl,Xo,WI]
  refine⟨_,t.testBit i,rfl,?_,?_⟩
  ·unfold Gr
   simp only [eval,Gg,Ac7,Ai7,Aa9,Ah6,Af0,GB,Gj,R.bind_ok,Gy,Zz,Wm,j,R.of_some,ZT]
   cases t.testBit i<;>rfl
  ·by_cases c:t.testBit i=k9
   ·simp [c,Gg,a,b]
   ·simp [c]
def qaT (i:n<=20){t:Nat}{a b:Nat}(f:a<n) (g:b<n) (h):
 execs F xh [y0 (.v (.int (n:Int))),y0 l,y0 (.v (.int (t:Int))),y0 (.v (.int (a:Int))),y0 (.v (.int (b:Int)))] h=
  .next [y0 (.v (.int (n:Int))),y0 l,y0 (.v (.int ((t ||| 2 ^ (a*n+b):Nat):Int))),y0 (.v (.int (a:Int))),y0 (.v (.int (b:Int)))] h:=by
 have d:=Xc a n (by omega)
 have c:Gn .shl 1 (a*n+b:Nat)=y0 ((2 ^ (a*n+b):Nat):Int):=Z9 _ (by
  have:=Wf.place_lt f g
  have:=xk i
  omega)
 have e:=Wz t (2 ^ (a*n+b))
 rw [Int.natCast_add]at c
 simp only [xh,execs,exec,eval,Gg,Gj,R.bind_ok,R.of_some,R.toO_ok,O.seq_next,Gy,d,wd,c,zB,e,W.d_v,GB]
theorem jbr (d:n<=20)(h): ∀ ps (t:Nat) r x y,Wf.inB n ps-> ∃b a,
 Gq (Gp [3,4] y9) (λY h=>execs F xh Y h) (ps.map pD++r) [y0 (.v (.int (n:Int))),y0 l,y0 (.v (.int (t:Int))),x,y] h=
  Gq (Gp [3,4] y9) (λY h=>execs F xh Y h) r [y0 (.v (.int (n:Int))),y0 l,y0 (.v (.int ((ps.foldl (λt p=>t ||| 2 ^ (p.1*n+p.2)) t:Nat):Int))),b,a] h
 | [],t,r,x,y,_=>⟨x,y,rfl⟩
 | p::ps,t,r,x,y,c=>by
  have f:=c p Aa3
  obtain⟨b,a,e⟩:=jbr d h ps (t ||| 2 ^ (p.1*n+p.2)) r (y0 (.v (.int p.1))) (y0 (.v (.int p.2))) λq g=>c q (Aa2 _ g)
  refine⟨b,a,?_⟩
  rw [Aa9,Ah6,xa rfl (qaT d f.1 f.2 h),e]
  rfl
def qb9 (k n) (ps) (l) (b:lpV l=y0 (ps.map pD)) (h) (c:n<=20) (a:Wf.inB n ps):call prog (k+1) "gathered" [.v (.int (n:Int)),l] h= .ok (.v (.int ((Wf.tieM n ps:Nat):Int))) h:=by
 rw [Ga rfl _ _ _ rfl]
 obtain⟨f,d,e⟩:=jbr c h ps 0 [] u0 u0 a
 rw [Ae7,qaG]at e
 simp only [Kh,execs,exec,GV,eval,R.toO_ok,W.d_v,O.seq_next,Gu,Aa9,Ad1,Ah6,Af0,Ac7,Ai7,Gj,GB,Ah1,b,R.of_some]
 rw [show (0)=((0:Nat):Int)from rfl,e]
 simp [Wf.tieM]
def qA (k n) (ps) (h) (b:n<=20) (a:Wf.inB n ps):call prog (k+3) "gathered" [.v (.int (n:Int)),.bor (ps.map pD)] h= .ok (.v (.int ((Wf.tieM n ps:Nat):Int))) h:=qb9 (k+2) n ps _ rfl h b a
end M
local macro_rules | `(tactic| simp_all [$xs,*]) => `(tactic| simp only [M.exec, M.execs, M.Gr, M.eval, M.Gf, M.Gm, M.Gk, M.Gu, M.GV, M.Gg, M.Gj, M.GB, M.setTup, M.R.bind_ok, M.R.toO_ok, M.R.of_some, M.O.seq_next, M.O.seq_ret, M.O.seq_exc, M.W.d_v, M.W.d_own, M.W.arg_v, M.W.arg_own, M.W.arg_bor, Aa9, Ad1, Ah6, Af0, Nat.reduceSub, Ac7, Ai7, M.GW, Bool.not_true, Bool.not_false, M.Gy, Ah1, M.Ph, M.Pk, M.K1, M.KA, M.Pi, M.Pj, M.int?_int, M.Gb, M.Gw, M.Pd, M.GI, M.Ku, M.K7, $xs,*])
namespace M
def jL (k s t:Nat) (h):call prog (k+1) "either" [.v (.int (s:Int)),.v (.int (t:Int))] h= .ok (.v (.int ((s ||| t:Nat):Int))) h:=by
 rw [Ga rfl _ _ _ rfl]
 simp_all [KI,zB,Wz]
def qbc (k s t:Nat) (h):call prog (k+1) "common" [.v (.int (s:Int)),.v (.int (t:Int))] h= .ok (.v (.int ((s &&& t:Nat):Int))) h:=by
 rw [Ga rfl _ _ _ rfl]
 simp_all [KB,Wm,Xo]
def zbX (s t:Nat):K9 (s:Int) (-(t:Int)-1)=y0 ((s-(s &&& t):Nat):Int):=by
 have b: ¬(0<= -(t:Int)-1):=by omega
 have a: 0<=(s:Int):=by omega
 have c:(-(-(t:Int)-1)-1).toNat=t:=by omega
 rw [K9,if_pos a,if_neg b,c,Ag]
def XR (k s t:Nat) (h):call prog (k+1) "without" [.v (.int (s:Int)),.v (.int (t:Int))] h= .ok (.v (.int ((s-(s &&& t):Nat):Int))) h:=by
 rw [Ga rfl _ _ _ rfl]
 simp_all [Kn,Wm,zbX]
def jZ (q:eval F e Y h= .ok (.own xs) h):Gk F (.seq e) Y h= .ok xs h:=by
 rw [Gk,q];rfl
def xch (q:eval F e Y h= .ok (.v (.lst xs)) h):Gk F (.seq e) Y h= .ok xs h:=by
 rw [Gk,q];rfl
def jb8 (q:eval F e Y h= .ok (.v (.tup xs)) h):Gk F (.seq e) Y h= .ok xs h:=by
 rw [Gk,q];rfl
def ZB (n t) (a:n<=20):((Wf.pairsM n t).map pD).length<=LIM:=by
 refine Ac0 ?_ (zbx a)
 simp only [Wf.pairsM,Aa]
 exact Ac0 (Ad9 _ _) (by simp)
def xa2 (k n t:Nat) (h) (a:n<=20):call prog (k+4) "turned" [.v (.int (n:Int)),.v (.int (t:Int))] h= .ok (.v (.int ((Wf.turnM n t:Nat):Int))) h:=by
 rw [Ga rfl _ _ _ rfl]
 have c: ∀h,eval (u9 (k+3)) Jw [y0 (.v (.int n)),y0 (.v (.int t))] h= .ok (.own ((Wf.swp (Wf.pairsM n t)).map pD)) h:=by
  intro h
  rw [Jw,Qw (λd=>match d with | .tup [x,y]=> .tup [y,x] | d=>d) (jZ ?_) (ZB n t a)]
  ·simp [Wf.swp,pD,Function.comp_def]
  ·intro d b
   obtain⟨p,e,rfl⟩:=Ac.mp b
   exact⟨_,rfl,_,rfl,rfl⟩
  ·simp_all [jq (k+2) n t h a]
 simp_all [KC,c,qA k n _ h a (Wf.inB_swp (Wf.inB_pairsM n t))]
 rfl
def jcf (k n:Nat) (h) (c:n<=20):call prog (k+4) "same" [.v (.int (n:Int))] h= .ok (.v (.int ((Wf.sameM n:Nat):Int))) h:=by
 rw [Ga rfl _ _ _ rfl]
 have b: ∀h,eval (u9 (k+3)) XI [y0 (.v (.int n))] h= .ok (.own (((Aa0 n).map λa=>(a,a)).map pD)) h:=by
  intro h
  rw [XI,Qw (λd=> .tup [d,d]) (Qd (m:=n) (by simp_all []) (by omega)) (by simp;rw [Gi];omega)]
  ·simp [pD,Function.comp_def]
  ·intro d e
   exact⟨_,rfl,_,rfl,rfl⟩
 simp_all [K0,b,qA k n _ h c (Wf.inB_same n)]
 rfl
def qbP (k n:Nat) (h) (d:n<=20):call prog (k+1) "every" [.v (.int (n:Int))] h= .ok (.v (.int ((2 ^ (n*n)-1:Nat):Int))) h:=by
 rw [Ga rfl _ _ _ rfl]
 have b:=Xc n n (by omega)
 have a:=Z9 (n*n) (by have:=xk d;omega)
 have c:((2 ^ (n*n):Nat))-1=((2 ^ (n*n)-1:Nat):Int):=by
  have:=Aj0 (n*n)
  omega
 simp_all [KR,b,a,Qs,c]
def jaC (x k:Nat) (b:x<2 ^ 64) (h:k<=1000000):Gn .shl (x:Int) (k:Int)=y0 ((x*2 ^ k:Nat):Int):=by
 have a: 0<=(k:Int)/\ k<=BP/\(x:Int).natAbs<qdF:=by rw [KW,GX];exact⟨by omega,by omega,by simpa using b⟩
 show(if _ then _ else _)=_
 rw [if_pos a,Ag,Int.natCast_mul,Int.natCast_pow]
 rfl
def qaN {n o p t a b:Nat}(d:n<=20) (j:a<n) (k:b<n)(h):
 execs F Xq [y0 (.v (.int (n:Int))),y0 (.v (.int (o:Int))),y0 (.v (.int (p:Int))),y0 (.v (.int ((2 ^ n-1:Nat):Int))),y0 (.v (.int (t:Int))),y0 (.v (.int (a:Int))),y0 (.v (.int (b:Int))),x7] h=
  .next [y0 (.v (.int (n:Int))),y0 (.v (.int (o:Int))),y0 (.v (.int (p:Int))),y0 (.v (.int ((2 ^ n-1:Nat):Int))),y0 (.v (.int ((t ||| Wf.rowM n p b*2 ^ (a*n):Nat):Int))),y0 (.v (.int (a:Int))),y0 (.v (.int (b:Int))),y0 (.v (.int ((Wf.rowM n p b:Nat):Int)))] h:=by
 have f:=Xc a n (by omega)
 have c:=Xc b n (by omega)
 have i:(p / 2 ^ (b*n) &&& (2 ^ n-1))=Wf.rowM n p b:=by rw [Ak];rfl
 have g:=Ac0 (Ad7 (Ah2 j) (Aa5 n)) (xk d)
 have e:=jaC (Wf.rowM n p b) (a*n) (Ab0 (Wf.rowM_lt n p b) (Ac0 (Ad0 (by decide) d) (by decide))) (by omega)
 simp_all [Xq,f,c,Zz,Wm,Xo,i,e,zB,Wz]
theorem jau {n o p:Nat}(d:n<=20) (h): ∀ ps (t:Nat) x y z,Wf.inB n ps-> ∃a b c,
 Gq (Gp [5,6] y9) (λY h=>execs F Xq Y h) (ps.map pD) [y0 (.v (.int (n:Int))),y0 (.v (.int (o:Int))),y0 (.v (.int (p:Int))),y0 (.v (.int ((2 ^ n-1:Nat):Int))),y0 (.v (.int (t:Int))),x,y,z] h=
  .next [y0 (.v (.int (n:Int))),y0 (.v (.int (o:Int))),y0 (.v (.int (p:Int))),y0 (.v (.int ((2 ^ n-1:Nat):Int))),y0 (.v (.int ((ps.foldl (λt q=>t ||| Wf.rowM n p q.2*2 ^ (q.1*n)) t:Nat):Int))),a,b,c] h
 | [],t,x,y,z,_=>⟨x,y,z,rfl⟩
 | q::ps,t,x,y,z,f=>by
  have g:=f q Aa3
  obtain⟨a,b,c,e⟩:=jau d h ps (t ||| Wf.rowM n p q.2*2 ^ (q.1*n)) (y0 (.v (.int q.1))) (y0 (.v (.int q.2))) (y0 (.v (.int ((Wf.rowM n p q.2:Nat))))) λq i=>f q (Aa2 _ i)
  refine⟨a,b,c,?_⟩
  rw [Aa9,xa rfl (qaN d g.1 g.2 h),e]
  rfl
def WJ (k n o p:Nat) (h) (a:n<=20):call prog (k+2) "joined" [.v (.int (n:Int)),.v (.int (o:Int)),.v (.int (p:Int))] h= .ok (.v (.int ((Wf.joinM n o p:Nat):Int))) h:=by
 rw [Ga rfl _ _ _ rfl]
 have b:=Z9 n (by omega)
 have c:((2 ^ n:Nat))-1=((2 ^ n-1:Nat):Int):=by
  have:=Aj0 n
  omega
 obtain⟨f,d,g,e⟩:=jau a h (Wf.pairsM n o) 0 u0 u0 u0 (Wf.inB_pairsM n o)
 simp_all [KJ,b,Qs,c,jq k n o h a]
 rw [show (0)=((0:Nat):Int)from rfl,e]
 simp_all []
 rfl
theorem qR (g:n<=20) (h): ∀ f r,2 ^ (n*n)-r<f->Wf.Clo n t r-> ∃c,Wf.IsTC n t c ∧
 KN (λY h=>Gr (u9 (k+2)) Xp Y h) (λY h=>execs (u9 (k+2)) zq Y h) f [y0 (.v (.int (n:Int))),y0 (.v (.int (t:Int))),y0 (.v (.int (r:Int))),y0 (.v (.int ((r ||| Wf.joinM n r r:Nat):Int)))] h=
  .next [y0 (.v (.int (n:Int))),y0 (.v (.int (t:Int))),y0 (.v (.int (c:Int))),y0 (.v (.int (c:Int)))] h
 | 0,r,i,_=>absurd i (Aj1 _)
 | f+1,r,i,d=>by
  have l: ∀(a b:Nat),Gr (u9 (k+2)) Xp [y0 (.v (.int n)),y0 (.v (.int t)),y0 (.v (.int a)),y0 (.v (.int b))] h= .ok (!v9 (b=a)) h:=by
   intro a b
   simp [Gr,Xp,Gg,KQ]
   by_cases q:b=a
   ·simp [q]
   ·have: ¬(b=(a:Int)):=by omega
    simp [q,this]
  rw [KN,l,R.toO_ok]
  by_cases e:r ||| Wf.joinM n r r=r
  ·refine⟨r,d.done e,?_⟩
   simp only [e,decide_true,Bool.not_true]
  ·have s:=d.grow e
   have j:=d.next.lt
   obtain⟨c,p,m⟩:=qR g h f (r ||| Wf.joinM n r r) (by omega) d.next
   refine⟨c,p,?_⟩
   simp only [e,decide_false,Bool.not_false]
   have o:execs (u9 (k+2)) zq [y0 (.v (.int n)),y0 (.v (.int t)),y0 (.v (.int r)),y0 (.v (.int ((r ||| Wf.joinM n r r:Nat))))] h=
    .next [y0 (.v (.int n)),y0 (.v (.int t)),y0 (.v (.int ((r ||| Wf.joinM n r r:Nat)))),y0 (.v (.int (((r ||| Wf.joinM n r r) ||| Wf.joinM n (r ||| Wf.joinM n r r) (r ||| Wf.joinM n r r):Nat))))] h:=by
    simp_all [zq,WJ k n _ _ h g,jL (k+1) _ _ h]
   simp only [o]
   exact m
def xa1 (k n t) (h) (b:n<=4) (d:t<2 ^ (n*n)): ∃r,Wf.IsTC n t r/\call prog (k+3) "closed" [.v (.int (n:Int)),.v (.int (t:Int))] h= .ok (.v (.int (r:Int))) h:=by
 rw [Ga rfl _ _ _ rfl]
 have c:2 ^ (n*n)-t<100000:=by
  have:n*n<=16:=Ad7 b b
  have:2 ^ (n*n)<=2 ^ 16:=Ad0 (by decide) this
  omega
 obtain⟨r,e,a⟩:=qR (by omega) h 100000 t c (Wf.Clo.start d)
 refine⟨r,e,?_⟩
 simp only [Gr]at a
 simp_all [KH,WJ k n _ _ h (by omega),jL (k+1) _ _ h]
 rw [a]
 simp_all []
def za (e:exec F s Y h= .next Y1 h1):execs F (.cons s ss) Y h=execs F ss Y1 h1:=by rw [execs,e,O.seq_next]
def fx (e:exec F s Y h= .next Y1 h1) (g:Ka n (execs F ss Y1 h1)=r):Ka n (execs F (.cons s ss) Y h)=r:=by rw [za e];exact g
def Zb (e:exec F s Y h= .ret w h1):execs F (.cons s ss) Y h= .ret w h1:=by rw [execs,e,O.seq_ret]
def qv (e:Gr F c Y h= .ok k9 h1):exec F (.iff c a b) Y h=execs F a Y h1:=by rw [exec,e,R.toO_ok]
def jS (e:Gr F c Y h= .ok y9 h1):exec F (.iff c a b) Y h=execs F b Y h1:=by rw [exec,e,R.toO_ok]
def Wv (a:GV e=u0) (q:eval F e Y h= .ok (.own xs) h1):exec F (.ret e) Y h= .ret (.own xs) h1:=by
 rw [exec,a];simp only [q,R.toO_ok]
def xc (a:GV e=u0) (q:eval F e Y h= .ok (.v d) h1):exec F (.ret e) Y h= .ret (.v d) h1:=by
 rw [exec,a];simp only [q,R.toO_ok]
def Za (e:Gr F c Y h= .ok y9 h):execs F (.cons (.iff c a .nil) ss) Y h=execs F ss Y h:=za (jS e)
def Jj (e:Gr F c Y h= .ok k9 h) (r:exec F s Y h= .ret w h):execs F (.cons (.iff c (.cons s .nil) .nil) ss) Y h= .ret w h:=Zb ((qv e).trans (Zb r))
def zb :execs F (.cons s .nil) Y h=exec F s Y h:=by
 rw [execs]
 cases exec F s Y h<;>rfl
abbrev xdO (l:List Nat):List D:=l.map λ(x:Nat)=> .int (x:Int)
abbrev Wc (n:Nat) (ks ts:List Nat):D:= .tup [.int (n:Int),.tup (xdO ks),.tup (xdO ts)]
structure qds (n K T:Nat) (ks ts:List Nat):Prop where
 n4:n<=4
 lk:ks.length=K
 lt:ts.length=T
 bk: ∀x∈ks,x<2 ^ n
 bt: ∀x∈ts,x<2 ^ (n*n)
def Xk (xs:List α) (i) (h:i<xs.length):atI xs (i:Int)=xs[i]? :=by
 have:(i)< xs.length:=by omega
 simp [atI,ixN,this]
def jbF (l) (i:Nat) (h:i<l.length):atI (xdO l) (i:Int)=y0 (.int ((l.getD i 0:Nat):Int)):=by
 rw [Xk _ _ (by simpa using h),Ad,Aa4 h,Ab7,Aa4 h]
 rfl
def jv (n t):(Wf.pairsM n t).length<=n*n:=by
 unfold Wf.pairsM
 rw [Aa]
 exact Ac0 (Ad9 _ _) (by simp)
def zE (x y:D):atI [x,y] 0=y0 x:=rfl
def Wx (x y:D):atI [x,y] 1=y0 y:=rfl
def jcz (x:D):atI [x] 0=y0 x:=rfl
def Jo (x) (r:List α):atI (x::r) 0=y0 x:=by
 have: 0< (x::r).length:=by simp
 simp [atI,ixN,this]
def xaw (x y z:D):atI [x,y,z] 0=y0 x:=rfl
mutual
theorem ZI: ∀ {d:D},Gc d=k9->eqD d d=k9
 | .non,_=>rfl
 | .bl b,_=>by simp
 | .int i,_=>by simp
 | .str s,_=>by simp
 | .tup xs,h=>by
  rw [eqD];exact Kd (by simpa [Gc]using h)
 | .lst xs,h=>by
  rw [eqD];exact Kd (by simpa [Gc]using h)
 | .ref _,h=>by simp at h
 | .exc _ _,h=>by simp at h
theorem Kd: ∀ {xs:List D},Gd xs=k9->Ks xs xs=k9
 | [],_=>rfl
 | x::xs,h=>by
  have h':Gc x=k9/\Gd xs=true:=by simpa [Gd]using h
  rw [Ks,ZI h'.1,Kd h'.2];rfl
end
mutual
theorem qO {h:AH}: ∀ {d:D},Gc d=k9->res h d=d
 | .non,_=>rfl
 | .bl b,_=>rfl
 | .int i,_=>rfl
 | .str s,_=>rfl
 | .tup xs,q=>by
  rw [res,Kt (by simpa [Gc]using q)]
 | .lst xs,q=>by
  rw [res,Kt (by simpa [Gc]using q)]
 | .ref _,q=>by simp at q
 | .exc _ _,q=>by simp at q
theorem Kt {h:AH}: ∀ {xs:List D},Gd xs=k9->KT h xs=xs
 | [],_=>rfl
 | x::xs,q=>by
  have h':Gc x=k9/\Gd xs=true:=by simpa [Gd]using q
  rw [KT,qO h'.1,Kt h'.2]
end
theorem ql (f) (a: ∀x,Gc (f x)=k9): ∀l:List α,Gd (l.map f)=k9
 | []=>rfl
 | x::l=>by simp [a x,ql f a l]
theorem qJ (f) (k) (a: ∀x,dep (f x)<=k): ∀l:List α,Kz (l.map f)<=k
 | []=>Ah3 _
 | x::l=>by
  have c:=a x
  have b:=qJ f k a l
  exact Nat.max_le.mpr ⟨c,b⟩
theorem zJ: ∀l:List Nat,Pl (xdO l)=y0 ((l.sum:Nat):Int)
 | []=>rfl
 | x::l=>by
  have:=zJ l
  simp only [Aa9,Pl]at this ⊢
  rw [this,Ai0]
  simp
theorem zbz: ∀bs:List Bool,Pg (bs.map .bl)=y0 bs
 | []=>rfl
 | b::bs=>by simp [Pg,zbz bs]
def xn {bs:List Bool}(q:eval F e Y h= .ok (.own (bs.map .bl)) h):eval F (.bi .all (.cons e .nil)) Y h= .ok (.v (.bl (bs.all id))) h:=by
 rw [eval,Gf,q]
 simp only [R.bind_ok,Gf,jbR,zbz,R.of_some]
def J3 (p) (l:List α):(l.map p).all id=l.all p:=by
 rw [Am7];rfl
def zbY (d) (a:Gc d=k9) (b:dep d<150) (h):GD .ne (.v d) (.v d) h=y0 false:=by
 show(if KQ (res h d) (res h d)then y0 (!eqD (res h d) (res h d))else u0)=_
 rw [qO a,if_pos (by rw [KQ,a,decide_eq_true b];rfl),ZI a];rfl
def Qe (g f) (l:List α) (b:Gk F it Y h= .ok (l.map g) h) (n:l.length<=1000) (c: ∀x∈l,∃w,eval F elt (y0 (.v (g x))::cap.map λj=>Gg Y j) h= .ok w h/\w.d=y0 (f x)):eval F (.comp [0] k9 1 cap it y9 (.bl k9) elt) Y h= .ok (.own (l.map f)) h:=by
 rw [eval,b,R.bind_ok,if_pos (by rw [Gi,Aa];omega)]
 have i: ∀ step (l:List α),(∀ x∈l,step (g x) h= .ok (y0 (f x)) h)->Gv step (l.map g) h= .ok (l.map f) h:=λstep l=>by
  induction l with
  | nil=>intro _;rfl
  | cons x l d=>
   intro a
   rw [Aa9,Gv,a x Aa3]
   simp only [d λy e=>a y (Aa2 _ e),Aa9]
 rw [i _ l λx a=> ?_]
 ·rfl
 ·obtain⟨w,m,k⟩:=c x a
  show(eval F elt (y0 (.v (g x))::cap.map λj=>Gg Y j) h).bind _=_
  rw [m]
  simp only [R.bind_ok,k,R.of_some]
def WZ {n:Nat}(f) (l:eval F e Y h= .ok (.v (.int (n:Int))) h) (m:n<=1000)
 (a: ∀i,i<n-> ∃w,eval F elt (y0 (.v (.int (i:Int)))::cap.map λj=>Gg Y j) h= .ok w h/\w.d=y0 (f i)):eval F (.comp [0] k9 1 cap (.range1 e) y9 (.bl k9) elt) Y h= .ok (.own ((Aa0 n).map f)) h:=by
 rw [Qw (λd=>match d with | .int i=>f i.toNat | d=>d) (Qd l (by omega)) (by simp;rw [Gi];omega)]
 ·simp [Function.comp_def]
 ·intro d c
  obtain⟨i,b,rfl⟩:=rng _ c
  obtain⟨w,k,g⟩:=a i b
  exact⟨_,rfl,w,k,by simpa using g⟩
def Jm (i j) (h):GD .eq (.v (.int i)) (.v (.int j)) h=y0 (v9 (i=j)):=by
 rfl
def xz (s t) (h):GD .eq (.v (.str s)) (.v (.str t)) h=y0 (s==t):=by simp [KQ]
def qcf (F) (Y) (h):Gf F .nil Y h= .ok [] h:=rfl
def qao (a:eval F e Y h= .ok w h1) (b:Gf F es Y h1= .ok ws h2):Gf F (.cons e es) Y h= .ok (w::ws) h2:=by
 rw [Gf,a,R.bind_ok,b];rfl
def zbJ (a:Gf F es Y h= .ok ws h1) (b:F.call f (ws.map W.arg) h1= .ok w h2):eval F (.call f es) Y h= .ok w h2:=by
 rw [eval,a,R.bind_ok,b]
def qal (a:eval F e Y h= .ok w h1) (b:w.d=y0 d):exec F (.setf i e) Y h= .next (GB Y i (.v d)) h1:=by
 rw [exec,a,R.toO_ok]
 simp only [b]
def XO (x y z:D):atI [x,y,z] 2=y0 z:=rfl
def pm (o:List Nat) (a:Nat):Nat:=o.getD a 0
structure Od (n:Nat) (o:List Nat):Prop where
 p:o.Perm (Aa0 n)
section
variable {n:Nat}{o:List Nat}
def Od.len (h:Od n o):o.length=n:=by rw [h.p.length_eq,Aj4]
def Qr (h):pm o a=o[a]:=by
 rw [pm,Ab7,Aa4 h];rfl
def Od.lt (h:Od n o)(c:a<n):pm o a<n:=by
 have b:a<o.length:=by rw [h.len];exact c
 rw [Qr b]
 exact Ab3.mp (h.p.mem_iff.mp (Ak1 b))
def Od.inj (h:Od n o)(e:a<n) (f:b<n):pm o a=pm o b↔a=b:=by
 have d:a<o.length:=by rw [h.len];exact e
 have c:b<o.length:=by rw [h.len];exact f
 rw [Qr d,Qr c]
 exact List.getElem_inj (h.p.nodup_iff.mpr Ak0)
def Od.onto (h:Od n o)(c:y<n): ∃a,a<n/\pm o a=y:=by
 obtain⟨a,b,e⟩:=List.getElem_of_mem (h.p.mem_iff.mpr (Ab3.mpr c))
 exact⟨a,by rw [← h.len];exact b,by rw [Qr b];exact e⟩
theorem Od.map (h:Od n o):o=(Aa0 n).map (pm o):=by
 refine Am3 (by simp [h.len]) λi a b=> ?_
 rw [Ai6,Ai9,Qr a]
end
def zbM (h:m.testBit p=y9):m+2 ^ p=m ||| 2 ^ p:=by
 have a:(m ||| 2 ^ p) &&& 2 ^ p=2 ^ p:=Af5 λk=>by
  rw [Ak8,Ag4]
  cases (2 ^ p).testBit k<;>simp
 have b:(m ||| 2 ^ p)-((m ||| 2 ^ p) &&& 2 ^ p)=m:=Af5 λk=>by
  rw [Wf.sub_and_bit,Ag4,Ak7]
  by_cases q:p=k
  ·subst q;simp [h]
  ·simp [q]
 rw [a]at b
 have:2 ^ p<=m ||| 2 ^ p:=by
  have:= @Nat.and_le_left (m ||| 2 ^ p) (2 ^ p)
  rw [a]at this;exact this
 omega
theorem qK (g:Nat->Bool) (q:Nat->Nat): ∀l:List Nat,(∀ a∈l,∀b∈l,q a=q b->a=b)->l.Nodup-> ∀k,(l.map λa=>(g a).toNat*2 ^ q a).sum.testBit k=l.any λa=>g a&&v9 (q a=k)
 | [],_,_,k=>by simp
 | a::l,e,hn,k=>by
  have c:=Ah.mp hn
  have f:=qK g q l (λx m y i=>e x (Aa2 _ m) y (Aa2 _ i)) c.2
  rw [Aa9,Ai0,Af3,←f k]
  cases n:g a
  ·simp
  ·have j:((l.map λa=>(g a).toNat*2 ^ q a).sum).testBit (q a)=false:=by
    rw [f,Ag5]
    intro b d h
    rw [Aa7,decide_eq_true_eq]at h
    have:=e b (Aa2 _ d) a Aa3 h.2
    exact c.1 (this▸d)
   rw [Bool.toNat_true,Nat.one_mul,Am9,zbM j,Ag4,Ak7,Bool.or_comm,Aj]
def kM (n:Nat) (o:List Nat) (x:Nat):Nat:=((Aa0 n).map λa=>(x.testBit a).toNat*2 ^ pm o a).sum
section
variable {n:Nat}{o:List Nat}(h:Od n o)
include h
def xaB (x k):(kM n o x).testBit k=(Aa0 n).any λa=>x.testBit a&&v9 (pm o a=k):=
 qK _ _ _ (λa c b d e=>(h.inj (Ab3.mp c) (Ab3.mp d)).mp e) Ak0 k
def jaP (x)(c:a<n):(kM n o x).testBit (pm o a)=x.testBit a:=by
 rw [xaB h,Ad8,Ae4]
 constructor
 ·rintro ⟨b,d,e⟩
  rw [Aa7,decide_eq_true_eq,h.inj (Ab3.mp d) c]at e
  exact e.2▸e.1
 ·exact λe=>⟨a,Ab3.mpr c,by simp [e]⟩
def jba (x):kM n o x<2 ^ n:=by
 refine Ai4 _ λi c=> ?_
 rw [xaB h,Ag5]
 intro a b e
 rw [Aa7,decide_eq_true_eq]at e
 have:=h.lt (Ab3.mp b)
 omega
end
def tP (n:Nat) (o:List Nat) (p:Nat×Nat):Nat:=pm o p.1*n+pm o p.2
def Xz {n a b c d:Nat}(i:b<n) (h:d<n) (e:a*n+b=c*n+d):a=c/\b=d:=by
 have g:=Wf.place_div (a:=a) i
 have f:=Wf.place_mod (a:=a) i
 rw [e]at g f
 rw [Wf.place_div h]at g
 rw [Wf.place_mod h]at f
 exact⟨g.symm,f.symm⟩
def tK (n:Nat) (o:List Nat) (t:Nat):Nat:=((Aa0 (n*n)).map λk=>(t.testBit k).toNat*2 ^ tP n o (k / n,k % n)).sum
section
variable {n:Nat}{o p:List Nat}(h:Od n o)
include h
def xaP (t k):(tK n o t).testBit k=(Aa0 (n*n)).any λj=>t.testBit j&&v9 (tP n o (j / n,j % n)=k):=
 qK _ _ _ (λa c b d e=>by
  have c:=Ab3.mp c
  have d:=Ab3.mp d
  have m:=Wf.div_lt_n c
  have a2:=Wf.mod_lt_n c
  have l:=Wf.div_lt_n d
  have g:=Wf.mod_lt_n d
  obtain⟨i,f⟩:=Xz (h.lt a2) (h.lt g) e
  rw [h.inj m l]at i
  rw [h.inj a2 g]at f
  rw [← Wf.place_eq (k:=a),←Wf.place_eq (k:=b),i,f]) Ak0 k
def qaw (t)(g:a<n) (d:b<n):(tK n o t).testBit (pm o a*n+pm o b)=t.testBit (a*n+b):=by
 rw [xaP h,Ad8,Ae4]
 constructor
 ·rintro ⟨j,c,e⟩
  have c:=Ab3.mp c
  rw [Aa7,decide_eq_true_eq]at e
  obtain⟨i,f⟩:=Xz (h.lt (Wf.mod_lt_n c)) (h.lt d) e.2
  rw [h.inj (Wf.div_lt_n c) g]at i
  rw [h.inj (Wf.mod_lt_n c) d]at f
  rw [← i,←f,Wf.place_eq];exact e.1
 ·exact λe=>⟨a*n+b,Ab3.mpr (Wf.place_lt g d),by simp [e,tP,Wf.place_div d,Wf.place_mod d]⟩
def jbd (t):tK n o t<2 ^ (n*n):=by
 refine Ai4 _ λi b=> ?_
 rw [xaP h,Ag5]
 intro j a e
 have a:=Ab3.mp a
 rw [Aa7,decide_eq_true_eq]at e
 have:=Wf.place_lt (h.lt (Wf.div_lt_n a)) (h.lt (Wf.mod_lt_n a))
 have c:pm o (j / n)*n+pm o (j % n)=i:=e.2
 omega
def xbI (d:v<2 ^ n) (e: ∀a,a<n->v.testBit (pm o a)=x.testBit a):v=kM n o x:=by
 refine Af5 λk=> ?_
 by_cases b:k<n
 ·obtain⟨a,c,rfl⟩:=h.onto b
  rw [e a c,jaP h x c]
 ·rw [Ae6 (Ab0 d (Ad0 (by decide) (Am0.mp b))),Ae6 (Ab0 (jba h x) (Ad0 (by decide) (Am0.mp b)))]
def xbX (g:v<2 ^ (n*n)) (e: ∀a b,a<n->b<n->v.testBit (pm o a*n+pm o b)=x.testBit (a*n+b)):v=tK n o x:=by
 refine Af5 λk=> ?_
 by_cases c:k<n*n
 ·obtain⟨a,d,j⟩:=h.onto (Wf.div_lt_n c)
  obtain⟨b,f,i⟩:=h.onto (Wf.mod_lt_n c)
  have:=e a b d f
  rw [← qaw h x d f,j,i,Wf.place_eq]at this
  exact this
 ·rw [Ae6 (Ab0 g (Ad0 (by decide) (Am0.mp c))),Ae6 (Ab0 (jbd h x) (Ad0 (by decide) (Am0.mp c)))]
def Od.then (q:Od n p):Od n (p.map (pm o)):=⟨(q.p.map (pm o)).trans (h.map▸h.p)⟩
theorem JS (q:Od n p)(c:a<n):pm (p.map (pm o)) a=pm o (pm p a):=by
 have b:a<p.length:=by rw [q.len];exact c
 rw [Qr (by simpa using b),Ai6,Qr b]
def xcv (q:Od n p) (x):kM n o (kM n p x)=kM n (p.map (pm o)) x:=xbI (h.then q) (jba h _) λa b=>by
 rw [JS h q b,jaP h _ (q.lt b),jaP q x b]
def jcc (q:Od n p) (x):tK n o (tK n p x)=tK n (p.map (pm o)) x:=xbX (h.then q) (jbd h _) λa b c d=>by
 rw [JS h q c,JS h q d,qaw h _ (q.lt c) (q.lt d),qaw q x c d]
def Od.inv (d:p.length=n) (b: ∀a,a<n->pm p (pm o a)=a):Od n p:=⟨by
 have e:p=(Aa0 n).map (pm p):=Am3 (by simp [d]) λi c g=>by rw [Ai6,Ai9,Qr c]
 have j:(Aa0 n).map (pm p)=(Aa0 n).map (pm p):=rfl
 rw [e]
 refine((h.p.symm).map (pm p)).trans ?_
 rw [h.map,Ac6]
 have:(Aa0 n).map (pm p∘pm o)=Aa0 n:=by
  refine(Ae λa f=> ?_).trans (List.map_id _)
  exact b a (Ab3.mp f)
 rw [this]⟩
def jcX (q:Od n p) (d: ∀a,a<n->pm p (pm o a)=a)(e:x<2 ^ n):kM n p (kM n o x)=x:=(xbI q e λb f=>by
 obtain⟨a,c,rfl⟩:=h.onto f
 rw [d a c,jaP h x c]).symm
def xcR (q:Od n p) (e: ∀a,a<n->pm p (pm o a)=a)(i:x<2 ^ (n*n)):tK n p (tK n o x)=x:=(xbX q i λb c k j=>by
 obtain⟨a,f,rfl⟩:=h.onto k
 obtain⟨d,g,rfl⟩:=h.onto j
 rw [e a f,e d g,qaw h x f g]).symm
end
def qaf:D->Bool
 | .int _=>k9
 | _=>y9
def wh (d:D) (e:Int):Bool:=match d with
 | .int i=>v9 (0<=i)&&v9 (i<e)
 | _=>y9
def jaa (k) (d) (h) (a:Gc d=k9):call prog (k+1) "is_whole" [.v d] h= .ok (.v (.bl (qaf d))) h:=by
 cases d<;>first | exact Gb _ _ _ rfl | cases a
def zw (k) (d) (e) (h) (b:Gc d=k9):call prog (k+2) "is_below" [.v d,.v (.int e)] h= .ok (.v (.bl (wh d e))) h:=by
 rw [Ga rfl _ _ _ rfl]
 have a:=jaa k d h b
 cases d with
 | int i=>
  simp [a,GT,qaf,wh,Gg]
  by_cases c:0<=i<;>simp [c]
 | _=>first | (simp [a,GT,qaf,wh,Gg];done) | (simp at b)
def J2 (g f) (l:List α) (c:Gk F it Y h= .ok (l.map g) h) (q:l.length<=1000) (d: ∀x∈l,∃a w,Gp tg one (g x) (Ab k u0++cap.map λj=>Gg Y j)=y0 a/\eval F elt a h= .ok w h/\w.d=y0 (f x)):eval F (.comp tg one k cap it y9 (.bl k9) elt) Y h= .ok (.own (l.map f)) h:=by
 rw [eval,c,R.bind_ok,if_pos (by rw [Gi,Aa];omega)]
 have n: ∀ step (l:List α),(∀ x∈l,step (g x) h= .ok (y0 (f x)) h)->Gv step (l.map g) h= .ok (l.map f) h:=λstep l=>by
  induction l with
  | nil=>intro _;rfl
  | cons x l i=>
   intro b
   rw [Aa9,Gv,b x Aa3]
   simp only [i λy m=>b y (Aa2 _ m),Aa9]
 rw [n _ l λx b=> ?_]
 ·rfl
 ·obtain⟨a,w,e,p,o⟩:=d x b
  simp only [e]
  show((eval F elt a h).bind _)=_
  rw [p]
  simp only [R.bind_ok,o,R.of_some]
def zI {n:Nat}(b) (f) (k:eval F e Y h= .ok (.v (.int (n:Int))) h) (v:n<=1000)
 (m: ∀i,i<n->Gr F c (y0 (.v (.int (i:Int)))::cap.map λj=>Gg Y j) h= .ok (b i) h/\ ∃w,eval F elt (y0 (.v (.int (i:Int)))::cap.map λj=>Gg Y j) h= .ok w h/\w.d=y0 (f i)):eval F (.comp [0] k9 1 cap (.range1 e) k9 c elt) Y h= .ok (.own (((Aa0 n).filter b).map f)) h:=by
 rw [JT (λd=>match d with | .int i=>if b i.toNat then y0 (f i.toNat)else u0 | _=>u0) (Qd k (by omega)) (by simp;rw [Gi];omega)]
 ·congr 2
  have e: ∀l:List Nat,((l.map λ(i:Nat)=>D.int i).filterMap λd=>match d with | .int i=>if b i.toNat then y0 (f i.toNat)else u0 | _=>u0)=(l.filter b).map f:=λl=>by
   induction l with
   | nil=>rfl
   | cons x u s=>by_cases g:b x=k9<;>simp [g,s]
  exact e _
 ·intro d o
  obtain⟨i,r,rfl⟩:=rng _ o
  obtain⟨t,w,a,p⟩:=m i r
  refine⟨_,b i,rfl,t,?_⟩
  by_cases q:b i=k9
  ·rw [if_pos q];exact⟨w,_,a,p,by simp [q]⟩
  ·rw [if_neg q];simp [q]
theorem zbq: ∀(xs a),xs.Nodup->(∀ x∈xs,x∉a)->Pf a xs=xs.length
 | [],_,_,_=>rfl
 | x::xs,a,hn,c=>by
  have hn:=Ah.mp hn
  have d:a.any (· ==x)=false:=by
   rw [Ag5]
   intro y b e
   exact c x Aa3 (eq_of_beq e▸b)
  rw [Pf,d,zbq xs _ hn.2 λy b=> ?_,Ab9]
  ·simp;omega
  ·rw [Af2,Af1]
   rintro (h | h)
   ·exact c y (Aa2 _ b) h
   ·exact hn.1 (h▸b)
theorem JI: ∀l:List Nat,Kg (xdO l)=y0 (l.map λ(x:Nat)=>(x:Int))
 | []=>rfl
 | x::l=>by
  have:=JI l
  simp only [Aa9,Kg]at this ⊢
  rw [this];rfl
def nd_int {l:List Nat}:(l.map λ(x:Nat)=>(x:Int)).Nodup↔l.Nodup:=by
 rw [List.Nodup,List.pairwise_map,List.Nodup]
 exact⟨λh=>h.imp λ{a b} q e=>q (by rw [e]),λh=>h.imp λ{a b} q e=>q (by omega)⟩
theorem jG: ∀ {xs},Gd xs=k9-> ∀x∈xs,Gc x=k9
 | x::xs,h,y,a=>by
  have b:=by simpa [Gd]using h
  rcases Ab4.mp a with rfl | a
  ·exact b.1
  ·exact jG b.2 y a
def xY (l):Gd (xdO l)=true:=ql _ (λ_=>rfl) l
def jap (l):Kz (xdO l)<=0:=qJ _ 0 (λ_=>Aa5 _) l
def ZL (i j) (h):GD .ne (.v (.int i)) (.v (.int j)) h=y0 (!v9 (i=j)):=by
 rfl
def xaj (b:Gd xs=k9) (a:xs.length<=1000) (h):eval (u9 (k+2)) (.bi .all (.cons jf .nil)) [y0 (.v (.tup xs)),y0 (.v (.int (n:Int)))] h= .ok (.v (.bl (xs.all (wh · n)))) h:=by
 rw [← J3]
 refine xn ?_
 rw [Ac6,jf]
 have e:=Qe (F:=(u9 (k+2))) (cap:= [1]) (it:= .seq (.var 0)) (elt:= .call "is_below" (.cons (.var 0) (.cons (.var 1) .nil))) (Y:= [some (.v (.tup xs)),some (.v (.int n))]) (h:=h) id (fun x=> .bl (wh x n)) xs (by rw [List.map_id];exact jb8 rfl) a fun x c=>⟨.v (.bl (wh x n)),by
  have:=zw k x n h (jG b x c)
  simp_all [id,this],rfl⟩
 exact e
def za6 (k)(q:Od n o) (i:n<=4) (h):call prog (k+3) "is_renaming" [.v (.tup (xdO o)),.v (.int (n:Int))] h= .ok (.v (.bl true)) h:=by
 rw [Ga rfl _ _ _ rfl]
 have c:(xdO o).length=n:=by rw [Aa,q.len]
 have g:(xdO o).all (wh · n)=true:=by
  rw [Am7,Ad3]
  intro x f
  have:=Ab3.mp (q.p.mem_iff.mp f)
  simp [wh,this]
 have a:=xaj (k:=k) (n:=n) (xY o) (by omega) h
 rw [g]at a
 have d:Pf [] (o.map λ(x:Nat)=> x)=n:=by
  rw [zbq _ _ (nd_int.mpr (q.p.nodup_iff.mpr Ak0)) (λ_ _=>Ac2),Aa,q.len]
 have b:(o.map λ(x:Nat)=>(x:Int)).length<1000:=by rw [Aa,q.len];omega
 simp only [GK]
 rw [Za (by simp_all [zT,Ty.le_self,Zn,c,ZL,decide_true]),Zb (xc rfl ?_)]
 ·exact Gb _ _ _ rfl
 ·rw [eval]
  have a:eval (u9 (k+2)) (.bi .all (.cons jf .nil)) (List.map y0 [W.v (D.tup (xdO o)),W.v (D.int ↑n)]++Ab (2-2) u0) h=_:=a
  rw [a]
  have e:(W.v (D.tup (xdO o))).tup? =y0 (xdO o):=rfl
  simp_all [e,JI,b,if_true,d,Jm,decide_true]
noncomputable def kF (x:Nat):Nat->List Nat->Nat->Nat
 | _,[],v=>v
 | i,p::ps,v=>kF x (i+1) ps (if x.testBit i then v ||| 2 ^ p else v)
theorem qar (x k): ∀ ps i v,(kF x i ps v).testBit k=k9↔(v.testBit k=k9\/ ∃j,ps[j]? =y0 k/\x.testBit (i+j)=k9)
 | [],i,v=>by simp [kF]
 | p::ps,i,v=>by
  rw [kF,qar x k ps]
  have e:(if x.testBit i=k9 then v ||| 2 ^ p else v).testBit k=k9↔(v.testBit k=k9\/(p=k/\x.testBit i=k9)):=by
   by_cases q:x.testBit i=k9
   ·simp [q,Ak7]
   ·simp [q]
  rw [e,or_assoc]
  refine or_congr Iff.rfl ⟨?_,?_⟩
  ·rintro (⟨b,a⟩ | ⟨j,b,a⟩)
   ·exact⟨0,by simp [b],by simpa using a⟩
   ·exact⟨j+1,by simpa using b,by rw [show i+(j+1)=i+1+j by omega];exact a⟩
  ·rintro ⟨j,b,a⟩
   cases j with
   | zero=>exact .inl ⟨by simpa using b,by simpa using a⟩
   | succ j=>exact .inr ⟨j,by simpa using b,by rw [show i+1+j=i+(j+1)by omega];exact a⟩
def zat (h:a<o.length):o[a]? =y0 (pm o a):=by
 rw [Qr h,Aa4 h]
def qc0 (q:Od n o) (x):kF x 0 o 0=kM n o x:=by
 have d: ∀k,(0:Nat).testBit k=k9↔False:=λk=>by simp
 refine xbI q (Ai4 _ λk h=> ?_) λa g=> ?_
 ·refine eq_false_of_ne_true λe=> ?_
  rw [qar,d,false_or]at e
  obtain⟨j,b,c⟩:=e
  have:=Ab3.mp (q.p.mem_iff.mp (Ak3 b))
  omega
 ·rw [Ad8,qar,d,false_or]
  constructor
  ·rintro ⟨j,b,c⟩
   have f:=(Ac1.mp b).1
   rw [zat f,Ae5.injEq,q.inj (by rw [← q.len];exact f) g]at b
   rw [Ag8,b]at c
   exact c
  ·exact λe=>⟨a,zat (by rw [q.len];exact g),by rw [Ag8];exact e⟩
theorem xas {x:Nat}(h): ∀ c (i v:Nat) a b,(∀ p∈c,p<=1000)-> ∃g f,
 Gq (Gp [3,4] y9) (λY h=>execs F Qh Y h) (KO i (xdO c)) [y0 (.v (.int (x:Int))),y0 w,y0 (.v (.int (v:Int))),a,b] h= .next [y0 (.v (.int (x:Int))),y0 w,y0 (.v (.int ((kF x i c v:Nat):Int))),g,f] h
 | [],i,v,a,b,_=>⟨a,b,rfl⟩
 | p::c,i,v,a,b,j=>by
  obtain⟨g,f,e⟩:=xas h c (i+1) (if x.testBit i then v ||| 2 ^ p else v) (y0 (.v (.int i))) (y0 (.v (.int p))) λq n=>j q (Aa2 _ n)
  refine⟨g,f,?_⟩
  have m:K9 ((x / 2 ^ i:Nat)) 1=y0 (((x.testBit i).toNat:Nat):Int):=by
   rw [show 1=((1:Nat):Int)from rfl,Xo,WI]
  have k:=Z9 p (by have:=j p Aa3;omega)
  have l:=Wz v (2 ^ p)
  have d:Gr F (.bin .band (.bin .shr (.var 0) (.var 3)) (.int 1)) [y0 (.v (.int x)),y0 w,y0 (.v (.int v)),y0 (.v (.int i)),y0 (.v (.int p))] h= .ok (x.testBit i) h:=by
   unfold Gr
   simp only [eval,Gg,Gj,R.bind_ok,Gy,Zz,Wm,m,R.of_some,ZT]
   cases x.testBit i<;>rfl
  rw [show KO i (xdO (p::c))= .tup [.int i,.int p]::KO (i+1) (xdO c)from rfl]
  rw [xa (Y1:= [y0 (.v (.int x)),y0 w,y0 (.v (.int v)),y0 (.v (.int i)),y0 (.v (.int p))]) rfl ?_,e]
  ·rfl
  ·simp only [Qh]
   rw [zb]
   by_cases q:x.testBit i=k9
   ·rw [q]at d
    rw [qv d,if_pos q]
    simp_all [k,zB,l]
   ·rw [eq_false_of_ne_true q]at d
    rw [jS d,if_neg q]
    rfl
def Od.small (q:Od n o) (b:n<=4): ∀p∈o,p<=1000:=λp a=>by
 have:=Ab3.mp (q.p.mem_iff.mp a)
 omega
def xcA (k)(q:Od n o) (a:n<=4) (x:Nat) (h):call prog (k+1) "renamed_kind" [.v (.int (x:Int)),.v (.tup (xdO o))] h= .ok (.v (.int ((kM n o x:Nat):Int))) h:=by
 rw [Ga rfl _ _ _ rfl]
 obtain⟨c,b,e⟩:=xas h o 0 0 u0 u0 (q.small a)
 rw [qc0 q]at e
 refine fx (by simp_all [];rfl) ?_
 rw [za (by
  rw [exec]
  show R.toO (.ok (KO 0 (xdO o)) h) _=_
  rw [R.toO_ok];exact e)]
 simp_all []
def jcx (q:Od n o) (t):Wf.tieM n ((Wf.pairsM n t).map λp=>(pm o p.1,pm o p.2))=tK n o t:=by
 have c:Wf.inB n ((Wf.pairsM n t).map λp=>(pm o p.1,pm o p.2)):=λr f=>by
  obtain⟨p,d,rfl⟩:=Ac.mp f
  have:=Wf.inB_pairsM n t p d
  exact⟨q.lt this.1,q.lt this.2⟩
 refine xbX q (Wf.tieM_lt c) λa b i c=> ?_
 rw [Wf.tieM_bit,Ad8,Ae4]
 constructor
 ·rintro ⟨r,f,e⟩
  obtain⟨p,d,rfl⟩:=Ac.mp f
  have g:=Wf.inB_pairsM n t p d
  obtain⟨j,h⟩:=Xz (q.lt g.2) (q.lt c) (of_decide_eq_true e)
  rw [q.inj g.1 i]at j
  rw [q.inj g.2 c]at h
  obtain⟨k,m,l,rfl⟩:=Wf.mem_pairsM.mp d
  rw [← j,←h,Wf.place_eq];exact l
 ·exact λe=>⟨(pm o a,pm o b),Ac.mpr ⟨(a,b),Wf.mem_pairsM.mpr ⟨a*n+b,Wf.place_lt i c,e,by rw [Wf.place_div c,Wf.place_mod c]⟩,rfl⟩,decide_eq_true rfl⟩
def qav (q:Od n o)(b:a<n):atI (xdO o) (a:Int)=y0 (.int ((pm o a:Nat):Int)):=jbF o a (by rw [q.len];exact b)
def xcJ (k)(q:Od n o) (s:n<=4) (t:Nat) (h):call prog (k+2) "renamed_tie" [.v (.int (t:Int)),.v (.tup (xdO o))] h= .ok (.v (.int ((tK n o t:Nat):Int))) h:=by
 rw [Ga rfl _ _ _ rfl]
 have i:(xdO o).length=n:=by rw [Aa,q.len]
 simp only [GN]
 refine fx (by simp_all [Zn,i];rfl) ?_
 have g:Wf.inB n ((Wf.pairsM n t).map λp=>(pm o p.1,pm o p.2)):=λr f=>by
  obtain⟨p,a,rfl⟩:=Ac.mp f
  have:=Wf.inB_pairsM n t p a
  exact⟨q.lt this.1,q.lt this.2⟩
 have d:eval (u9 (k+1)) Qi [y0 (.v (.int (t:Int))),y0 (.v (.tup (xdO o))),y0 (.v (.int (n:Int)))] h= .ok (.own ((Wf.pairsM n t).map λp=>pD (pm o p.1,pm o p.2))) h:=by
  rw [Qi]
  refine J2 pD _ (Wf.pairsM n t) (jZ (by
   have:=jq k n t h (by omega)
   simp_all [this])) ?_ λp a=> ?_
  ·have c:=jv n t
   have m:=xk (n:=n) (by omega)
   omega
  ·have b:=Wf.inB_pairsM n t p a
   exact⟨[y0 (.v (.int (p.1:Nat))),y0 (.v (.int (p.2:Nat))),y0 (.v (.tup (xdO o)))],.v (pD (pm o p.1,pm o p.2)),rfl,by
    have j:=qav q b.1
    have l:=qav q b.2
    simp_all [ix_tup,j,l]
    rfl,rfl⟩
 rw [Zb (h1:=h) (xc rfl ?_)]
 ·exact Gb _ _ _ rfl
 ·rw [← jcx q t]
  refine zbJ (qao (e:= .var 2) (h1:=h) rfl (qao d (qcf _ _ _))) ?_
  exact qb9 k n _ _ (by rw [Ac6];rfl) h (by omega) g
def Od.mem (q:Od n o){p:Nat}(a:p∈o):p<n:=Ab3.mp (q.p.mem_iff.mp a)
def zaC (k)(q:Od n o) (a:n<=4) (ks ts) (c:ks.length<=1000) (b:ts.length<=1000) (nm) (h):call prog (k+4) "renamed" [.v nm,.v (Wc n ks ts),.v (.tup (xdO o))] h= .ok (.v (Wc n (ks.map (kM n o)) (ts.map (tK n o)))) h:=by
 rw [Ga rfl _ _ _ rfl]
 simp only [Kw]
 have d:=za6 k q a h
 refine fx (by simp_all [];rfl) ?_
 rw [Za (by simp_all [d])]
 have f:eval (u9 (k+3)) wt [y0 (.v nm),y0 (.v (Wc n ks ts)),y0 (.v (.tup (xdO o))),y0 (.v (.int (n:Int))),y0 (.v (.tup (xdO ks))),y0 (.v (.tup (xdO ts))),u0,u0] h= .ok (.own (ks.map λx=> .int ((kM n o x:Nat):Int))) h:=by
  rw [wt]
  refine Qe (λ(x:Nat)=> .int (x:Int)) _ ks (jb8 rfl) c λx _=>⟨.v (.int ((kM n o x:Nat):Int)),?_,rfl⟩
  have:=xcA (k+2) q a x h
  simp_all [this]
 refine fx (by simp_all [f,zA];rfl) ?_
 have e:eval (u9 (k+3)) Qt [y0 (.v nm),y0 (.v (Wc n ks ts)),y0 (.v (.tup (xdO o))),y0 (.v (.int (n:Int))),y0 (.v (.tup (xdO ks))),y0 (.v (.tup (xdO ts))),y0 (.v (.tup (ks.map λx=> .int ((kM n o x:Nat):Int)))),u0] h= .ok (.own (ts.map λx=> .int ((tK n o x:Nat):Int))) h:=by
  rw [Qt]
  refine Qe (λ(x:Nat)=> .int (x:Int)) _ ts (jb8 rfl) b λx _=>⟨.v (.int ((tK n o x:Nat):Int)),?_,rfl⟩
  have:=xcJ (k+1) q a x h
  simp_all [this]
 refine fx (by simp_all [e,zA];rfl) ?_
 rw [Zb (w:= .v (Wc n (ks.map (kM n o)) (ts.map (tK n o)))) (h1:=h) (xc rfl (by
  simp_all []
  simp only [Wc,xdO,Ac6,Function.comp_def]))]
 exact Gb _ _ _ rfl
def bD (b:Bool):D:= .int (b.toNat:Nat)
theorem X5 (h) (w): ∀(m t:Nat) i a x y,a.length+m<=1000000-> ∃z b c,
 Gq (Gp [3] k9) (λY h=>execs F zn Y h) (((Aa0 m).map λj=>D.int ((i+j:Nat):Int))) [y0 (.v (.int (t:Int))),y0 w,y0 (.own a),x,y] h=
  .next [z,y0 w,y0 (.own (a++(Wf.bitsB t m).map bD)),b,c] h
 | 0,t,i,a,x,y,_=>⟨y0 (.v (.int t)),x,y,by simp [Wf.bitsB]⟩
 | m+1,t,i,a,x,y,n=>by
  obtain⟨z,b,c,e⟩:=X5 h w m (t / 2) (i+1) (a++ [bD (t.testBit 0)]) (y0 (.v (.int i))) (y0 (.v (bD (t.testBit 0)))) (by simp;omega)
  refine⟨z,b,c,?_⟩
  have f:((Aa0 (m+1)).map λj=>D.int (i+j:Nat))=D.int i::((Aa0 m).map λj=>D.int (i+1+j:Nat)):=by
   rw [Af8]
   simp [Function.comp_def,Int.add_comm,Int.add_left_comm]
  rw [f,xa rfl ?_,e]
  ·have:(Wf.bitsB t (m+1))=t.testBit 0::Wf.bitsB (t / 2) m:=by
    unfold Wf.bitsB
    rw [Af8]
    simp [Function.comp_def,Nat.testBit_succ]
   rw [this]
   simp
  ·have d:(0:Int)<2/\ 2<jdO:=by rw [GY];decide
   have g:a.length<LIM:=by rw [Gi];omega
   have k: t / 2=((t / 2:Nat):Int):=rfl
   have l:D.int (t % 2)=bD (t.testBit 0):=by
    have:t % 2=(t.testBit 0).toNat:=by have:=Wf.bit_nat t 0;simpa using this
    unfold bD
    rw [← this];rfl
   simp only [zn,execs,exec,eval,Gf,Gg,Gj,R.bind_ok,jj,d,and_self,if_true,R.toO_ok,setTup,GB,O.seq_next,W.d_v,g,k,l]
def WB (k t m:Nat) (h) (a:m<=1000):call prog (k+1) "_law_marks" [.v (.int (t:Int)),.v (.int (m:Int))] h= .ok (.own ((Wf.bitsB t m).map bD)) h:=by
 rw [Ga rfl _ _ _ rfl]
 obtain⟨z,c,b,e⟩:=X5 h (.v (.int m)) m t 0 [] u0 u0 (by simp;omega)
 simp only [Kc,execs,exec,GV,eval,Gm,R.bind_ok,R.toO_ok,O.seq_next,Gu,Aa9,Ad1,Ah6,Af0,Ac7,Ai7,GB]
 rw [Qd (m:=m) (by simp [Gg]) (by omega),R.toO_ok]
 simp only [Ag8]at e
 rw [e]
 simp
def qZ (xs:List α) (a:Nat):cut xs u0 (y0 (a:Int))=xs.take a:=by
 have b: ¬((a:Int)<0):=by omega
 have e:cut xs u0 (y0 a)=xs.take (min a xs.length):=by simp [cut,sIx,b]
 rw [e]
 by_cases h:a<=xs.length
 ·rw [Al h]
 ·rw [Nat.min_eq_right (by omega),Ao4,List.take_of_length_le (by omega)]
def qa3 (xs:List α) (a) (h:a<=xs.length):cut xs (y0 (a:Int)) u0=xs.drop a:=by
 have b: ¬((a:Int)<0):=by omega
 simp [cut,sIx,b,Al h,←Ai5]
def Zk (i) (m) (h:0<m): ∃a:Nat,a<m/\i % (m:Int)=(a:Int):=by
 have d:=Int.emod_nonneg i (b:= m) (by omega)
 have c:=Int.emod_lt_of_pos i (b:= m) (by omega)
 exact⟨(i % m).toNat,by omega,by omega⟩
def Zx (i j) (a:0<j) (h1:j<1000):Gn .fdiv i j=y0 (i / j):=by
 have:0<j/\j<jdO:=by rw [GY];omega
 show(if _ then _ else _)=_
 rw [if_pos this]
def qo (i j) (a:0<j):Gn .mod i j=y0 (i % j):=by
 show(if _ then _ else _)=_
 rw [if_pos a]
def Zt (k) (x) (h):call prog (k+1) "_law_whole" [.v (.int (x:Int))] h= .ok (.v (.bl true)) h:=by
 exact Gb _ _ _ rfl
def xbG (k) (a:List Int) (i:Nat) (h):call prog (k+1) "_law_nth" [.v (.lst (a.map .int)),.v (.int (i:Int))] h= .ok (.v (.int (a.getD i 0))) h:=by
 rw [Ga rfl _ _ _ rfl]
 simp only [Kv]
 by_cases q:i<a.length
 ·have e:=Xk (a.map D.int) i (by simpa using q)
  rw [Ad,Aa4 q]at e
  have b: i<((a.map D.int).length:Int):=by rw [Aa];omega
  have e:atI (a.map D.int) i=y0 (.int a[i]):=e
  rw [Jj (w:= .v (.int a[i])) (by simp_all [XL,zd,decide_eq_true b]) (by simp_all [Zp,e]),Ab7,Aa4 q]
  exact Gb _ _ _ rfl
 ·have b: ¬ i<((a.map D.int).length:Int):=by rw [Aa];omega
  rw [Za (by simp_all [XL,zd,decide_eq_false b]),Ab7,List.getElem?_eq_none (by omega)]
  simp_all []
  rfl
def zm (i m):((Aa0 (m+1)).map λj=>D.int ((i+j:Nat):Int))=D.int (i:Nat)::((Aa0 m).map λj=>D.int ((i+1+j:Nat):Int)):=by
 rw [Af8]
 simp [Function.comp_def,Int.add_comm,Int.add_left_comm]
theorem xw (g) (f): ∀l:List Nat,((l.filter g).map f).sum=(l.map λa=>(g a).toNat*f a).sum
 | []=>rfl
 | a::l=>by
  rw [Ak2,Aa9,Ai0,←xw g f l]
  cases g a<;>simp
def qX (t m i) (a:i<m):atI ((Wf.bitsB t m).map bD) (i:Int)=y0 (bD (t.testBit i)):=by
 rw [Xk _ _ (by simpa [Wf.bitsB_length]using a),Ad,Wf.bitsB_get a];rfl
def xbn (b) (h):GD .eq (.v (bD b)) (.v (.int 1)) h=y0 b:=by
 cases b<;>simp [bD]
noncomputable abbrev zdU (n:Nat) (ks ts:List Nat) (o:List Nat) (c d f b e a:Option W):Sl:= [y0 (.v (Wc n ks ts)),y0 (.v (.tup (xdO o))),y0 (.v (.int (n:Int))),y0 (.v (.tup (xdO ks))),y0 (.v (.tup (xdO ts))),c,d,f,b,e,a]
section
variable {n:Nat}{o:List Nat}(q:Od n o) (hn:n<=4)
include q hn
theorem xcy (h): ∀ l b c d,b.length+l.length<=1000-> ∃m f,
 Gq (Gp [6] k9) (λY h=>execs (u9 (k+1)) Js Y h) (xdO l) (zdU n ks ts o (y0 (.own (xdO b))) c d u0 u0 u0) h= .next (zdU n ks ts o (y0 (.own (xdO (b++l.map (kM n o))))) m f u0 u0 u0) h
 | [],b,c,d,_=>⟨c,d,by simp⟩
 | x::l,b,c,d,w=>by
  rw [Ab9]at w
  obtain⟨m,f,e⟩:=xcy h l (b++ [kM n o x]) (y0 (.v (.int x))) (y0 (.v (.lst ((Wf.bitsB x n).map bD)))) (by simp;omega)
  refine⟨m,f,?_⟩
  have u:=WB k x n h (by omega)
  have v:(xdO b).length<LIM:=by rw [Gi,Aa];omega
  rw [show xdO (x::l)= .int x::xdO l from rfl,xa rfl ?_,e,Ae9]
  ·rfl
  ·simp only [Js]
   refine(za (by simp_all [u];rfl)).trans ?_
   have r:eval (u9 (k+1)) jt (zdU n ks ts o (y0 (.own (xdO b))) (y0 (.v (.int x))) (y0 (.v (.lst ((Wf.bitsB x n).map bD)))) u0 u0 u0) h= .ok (.own (((Aa0 n).filter x.testBit).map λa=> .int ((2 ^ pm o a:Nat)))) h:=by
    rw [jt]
    refine zI x.testBit _ rfl (by omega) λi j=>⟨?_,.v (.int ((2 ^ pm o i:Nat))),?_,rfl⟩
    ·have g:=qX x n i j
     simp_all [Zp,g,xbn]
    ·have g:=qav q j
     have y:=Z9 (pm o i) (by have:=q.lt j;omega)
     simp_all [ix_tup,g,y]
   have eq:(((Aa0 n).filter x.testBit).map λa=>D.int ((2 ^ pm o a:Nat)))=xdO (((Aa0 n).filter x.testBit).map λa=>2 ^ pm o a):=by rw [xdO,Ac6];rfl
   have p:(xdO (((Aa0 n).filter x.testBit).map λa=>2 ^ pm o a)).length<=LIM:=by
    rw [Gi,Aa,Aa]
    exact Ac0 (Ad9 _ _) (by simp;omega)
   rw [eq]at r
   have t:(((Aa0 n).filter x.testBit).map λa=>2 ^ pm o a).sum=kM n o x:=xw _ _ _
   have s:xdO (b++ [kM n o x])=xdO b++ [.int ((kM n o x:Nat))]:=by simp
   rw [s]
   simp_all [r,wW,p,if_true,zJ,t,v]
theorem jcb (h): ∀ l a f j b,a.length+l.length<=1000-> ∃r m c,
 Gq (Gp [9] k9) (λY h=>execs (u9 (k+1)) qt Y h) (xdO l) (zdU n ks ts o x5 x6 f (y0 (.own (xdO a))) j b) h= .next (zdU n ks ts o x5 x6 r (y0 (.own (xdO (a++l.map (tK n o))))) m c) h
 | [],a,f,j,b,_=>⟨f,j,b,by simp⟩
 | t::l,a,f,j,b,H=>by
  rw [Ab9]at H
  obtain⟨r,m,c,e⟩:=jcb h l (a++ [tK n o t]) (y0 (.v (.lst ((Wf.bitsB t (n*n)).map bD)))) (y0 (.v (.int (t:Int)))) (y0 (.v (.lst ((Wf.pairsM n t).map pD)))) (by simp;omega)
  refine⟨r,m,c,?_⟩
  have K:=xk (n:=n) (by omega)
  have E:=WB k t (n*n) h (by omega)
  have w:=Xc n n (by omega)
  have F:(xdO a).length<LIM:=by rw [Gi,Aa];omega
  rw [show xdO (t::l)= .int (t:Int)::xdO l from rfl,xa (Y1:=zdU n ks ts o x5 x6 f (y0 (.own (xdO a))) (y0 (.v (.int (t:Int)))) b) rfl ?_,e,Ae9]
  ·rfl
  ·simp only [qt]
   refine(za (by simp_all [w,E];rfl)).trans ?_
   have v:eval (u9 (k+1)) Ws (zdU n ks ts o x5 x6 (y0 (.v (.lst ((Wf.bitsB t (n*n)).map bD)))) (y0 (.own (xdO a))) (y0 (.v (.int (t:Int)))) b) h= .ok (.own ((Wf.pairsM n t).map pD)) h:=by
    rw [Ws,Wf.pairsM,Ac6]
    refine zI t.testBit _ (by simp_all [w]) (by omega) λi x=>⟨?_,.v (pD (i / n,i % n)),?_,rfl⟩
    ·have s:=qX t (n*n) i x
     simp_all [Zp,s,xbn]
    ·have J:(0:Int)<(n:Int)/\(n:Int)<jdO:=by
      rw [GY]
      have:=Wf.pos_of_lt x
      omega
     simp_all [jj,J,and_self,if_true]
     rfl
   rw [za (qal v rfl)]
   have d:eval (u9 (k+1)) Qm (zdU n ks ts o x5 x6 (y0 (.v (.lst ((Wf.bitsB t (n*n)).map bD)))) (y0 (.own (xdO a))) (y0 (.v (.int (t:Int)))) (y0 (.v (.lst ((Wf.pairsM n t).map pD))))) h= .ok (.own ((Wf.pairsM n t).map λp=> .int ((2 ^ tP n o p:Nat):Int))) h:=by
    rw [Qm]
    refine J2 pD _ (Wf.pairsM n t) (xch rfl) (by have:=jv n t;omega) λp I=> ?_
    have g:=Wf.inB_pairsM n t p I
    refine⟨[y0 (.v (.int (p.1:Nat))),y0 (.v (.int (p.2:Nat))),y0 (.v (.tup (xdO o))),y0 (.v (.int (n:Int)))],.v (.int ((2 ^ tP n o p:Nat):Int)),rfl,?_,rfl⟩
    have s:=qav q g.1
    have v:=qav q g.2
    have y:=q.lt g.1
    have l2:=q.lt g.2
    have z:Gn .mul ((pm o p.1:Nat):Int) (n:Int)=y0 ((pm o p.1*n:Nat):Int):=Xc _ n (by omega)
    have B:((pm o p.1*n:Nat):Int)+((pm o p.2:Nat):Int)=((tP n o p:Nat):Int):=rfl
    have G:=Z9 (tP n o p) (by
     have:=Wf.place_lt y l2
     unfold tP
     omega)
    simp_all [ix_tup,s,v,z,wd,B,G]
   have eq:((Wf.pairsM n t).map λp=>D.int ((2 ^ tP n o p:Nat):Int))=xdO ((Wf.pairsM n t).map λp=>2 ^ tP n o p):=by rw [xdO,Ac6];rfl
   have u:(xdO ((Wf.pairsM n t).map λp=>2 ^ tP n o p)).length<=LIM:=by
    rw [Gi,Aa,Aa]
    have:=jv n t
    omega
   rw [eq]at d
   have C:((Wf.pairsM n t).map λp=>2 ^ tP n o p).sum=tK n o t:=by
    rw [Wf.pairsM,Ac6]
    exact xw _ _ _
   have A:xdO (a++ [tK n o t])=xdO a++ [.int ((tK n o t:Nat):Int)]:=by simp
   rw [A,zb]
   have d:eval (u9 (k+1)) Qm (GB (zdU n ks ts o x5 x6 (y0 (.v (.lst ((Wf.bitsB t (n*n)).map bD)))) (y0 (.own (xdO a))) (y0 (.v (.int (t:Int)))) b) 10 (.v (.lst ((Wf.pairsM n t).map pD)))) h=_:=d
   simp only [GB]at d ⊢
   simp_all [d,wW,u,if_true,zJ,C,F]
def zcv (k) (ks ts) (c:ks.length<=1000) (b:ts.length<=1000) (h):call prog (k+2) "_law_led" [.v (Wc n ks ts),.v (.tup (xdO o))] h= .ok (.v (Wc n (ks.map (kM n o)) (ts.map (tK n o)))) h:=by
 rw [Ga rfl _ _ _ rfl]
 obtain⟨d,g,j⟩:=xcy q hn h ks [] u0 u0 (by simpa using c)
 obtain⟨f,e,a,i⟩:=jcb q hn h ts [] g u0 u0 (by simpa using b)
 simp only [Kr]
 refine fx (by simp_all [];rfl) ?_
 refine fx (by simp_all [];rfl) ?_
 rw [za (by
  simp only [exec,R.toO_ok]
  exact j)]
 refine fx (by simp_all [];rfl) ?_
 rw [za (Y1:=zdU n ks ts o (y0 (.own (xdO ([]++ks.map (kM n o))))) d f (y0 (.own (xdO ([]++ts.map (tK n o))))) e a) (by
  simp only [exec,Gj,Ah1,K1,R.of_some,R.toO_ok]
  exact i)]
 rw [Af0,Af0]
 simp_all [xR]
end
theorem wq: ∀(xs ys),Gd (xs++ys)=(Gd xs&&Gd ys)
 | [],ys=>by simp [Gd]
 | x::xs,ys=>by simp only [Ah6,Gd,wq xs ys,Bool.and_assoc]
abbrev qdN (n:Nat) (ks ts:List Nat) (x:Option W):Sl:= [y0 (.v (Wc n ks ts)),y0 (.v (Wc n ks ts)),x]
def QE {k n:Nat}(j) (b:l.length<=1000) (e:atI [D.int (n:Int),D.tup (xdO ks),D.tup (xdO ts)] j=y0 (.tup (xdO l))) (h):execs (u9 (k+1)) Jl (qdN n ks ts (y0 (.v (.int j)))) h= .next (qdN n ks ts (y0 (.v (.int j)))) h:=by
 simp only [Jl]
 have d:eval (u9 (k+1)) (.bi .all (.cons Wh .nil)) (qdN n ks ts (y0 (.v (.int j)))) h= .ok (.v (.bl k9)) h:=by
  have c:eval (u9 (k+1)) Wh (qdN n ks ts (y0 (.v (.int j)))) h= .ok (.own ((l.map λ_=>k9).map .bl)) h:=by
   rw [Wh,Ac6]
   refine Qe (λ(x:Nat)=> .int x) _ l (jb8 (by simp_all [ix_tup,e])) b λx _=>⟨.v (.bl k9),?_,rfl⟩
   have:=Zt k x h
   simp_all [this]
  rw [xn c]
  simp
 have a:=zbY (.tup (xdO l)) (by simpa using xY l) (by have:=jap l;simp only [dep];omega) h
 rw [Za (by simp_all [ix_tup,e,zT,Ty.le_self,Zn,ZL,decide_true]),Za ?_]
 ·rfl
 ·unfold Gr
  rw [eval,eval,d]
  simp_all [ix_tup,e,a]
def xbL (k n) (ks ts) (c:ks.length<=1000) (b:ts.length<=1000) (h):call prog (k+2) "_law_alike" [.v (Wc n ks ts),.v (Wc n ks ts)] h= .ok (.v (.bl true)) h:=by
 rw [Ga rfl _ _ _ rfl]
 simp only [G6]
 have d:=Zt k n h
 have a:(([D.int (n:Int),D.tup (xdO ks),D.tup (xdO ts)].length:Nat):Int)=3:=rfl
 rw [Za (by simp_all [zT,Ty.le_self,Zn,a,ZL,decide_true,ix_tup,xaw,d])]
 refine fx (by
  simp only [exec,Gu,GV,eval,Gm,R.bind_ok,W.d_v,R.of_some,KA,R.toO_ok]
  rw [xa rfl (QE 1 c rfl h),xa rfl (QE 2 b rfl h)]
  rfl) ?_
 simp_all []
def jbT (xs) (lo hi) (h):slD (.v (.tup xs)) lo hi h=okv (.tup (cut xs lo hi)) h:=rfl
inductive Ex where
 | name (t:Tx)
 | same
 | all
 | none
 | turned (a:Ex)
 | closed (a:Ex)
 | plus (a b:Ex)
 | less (a b:Ex)
 | both (a b:Ex)
 | joined (a b:Ex)
abbrev W5:Tx:= [110,97,109,101]
abbrev xM:Tx:= [115,97,109,101]
abbrev zaM:Tx:= [97,108,108]
abbrev X2:Tx:= [110,111,110,101]
abbrev JF:Tx:= [112,108,117,115]
abbrev wF:Tx:= [108,101,115,115]
abbrev WG:Tx:= [98,111,116,104]
abbrev Jq:Tx:= [106,111,105,110,101,100]
abbrev wy:Tx:= [116,117,114,110,101,100]
abbrev xy:Tx:= [99,108,111,115,101,100]
noncomputable def xdY:Ex->D
 | .name t=> .tup [.str W5,.str t]
 | .same=> .tup [.str xM]
 | .all=> .tup [.str zaM]
 | .none=> .tup [.str X2]
 | .turned a=> .tup [.str wy,xdY a]
 | .closed a=> .tup [.str xy,xdY a]
 | .plus a b=> .tup [.str JF,xdY a,xdY b]
 | .less a b=> .tup [.str wF,xdY a,xdY b]
 | .both a b=> .tup [.str WG,xdY a,xdY b]
 | .joined a b=> .tup [.str Jq,xdY a,xdY b]
noncomputable def Ex.wf (N:List Tx):Ex->Prop
 | .name t=>t∈N
 | .turned a=>a.wf N
 | .closed a=>a.wf N
 | .plus a b=>a.wf N/\b.wf N
 | .less a b=>a.wf N/\b.wf N
 | .both a b=>a.wf N/\b.wf N
 | .joined a b=>a.wf N/\b.wf N
 | _=>True
noncomputable def Ex.dp:Ex->Nat
 | .turned a=>a.dp+1
 | .closed a=>a.dp+1
 | .plus a b=>max a.dp b.dp+1
 | .less a b=>max a.dp b.dp+1
 | .both a b=>max a.dp b.dp+1
 | .joined a b=>max a.dp b.dp+1
 | _=>0
def xcU (x y z:D):atI [x,y,z] 1=y0 y:=rfl
def qcY (x y z:D):atI [x,y,z] 2=y0 z:=rfl
theorem wJ: ∀ts:List Tx,KM (ts.map .str)=y0 ts
 | []=>rfl
 | t::ts=>by simp [KM,wJ ts]
def qan (ts:List Tx):(ts.map D.str).all KP=true:=by simp
theorem qaB (s): ∀ts:List Tx,inD (.str s) (ts.map .str)=v9 (s∈ts)
 | []=>rfl
 | t::ts=>by
  have a:=qaB s ts
  simp only [inD]at a
  by_cases q:t=s
  ·subst q
   simp [inD]
  ·have b: ¬s=t:=λe=>q e.symm
   simp only [inD,Aa9,Af3,a,Ab4,b,false_or]
   simp [q]
def jcs (xs:List α) (n:Nat):cut xs (y0 (n:Int)) u0=xs.drop n:=by
 have a: ¬((n:Int)<0):=by omega
 simp only [cut,sIx,a,if_false,Ag]
 by_cases q:n<=xs.length
 ·rw [Al q,List.take_of_length_le (by simp)]
 ·rw [Nat.min_eq_right (by omega),List.drop_of_length_le (Aa5 _),List.drop_of_length_le (by omega),List.take_nil]
def QJ (i j:Nat) (h):GD .eq (.v (.int (i:Int))) (.v (.int (j:Int))) h=y0 (v9 (i=j)):=by
 rw [Jm]
 congr 1
 exact decide_eq_decide.mpr (by omega)
def zS (s:Tx) (ts:List Tx) (w:W) (h:AH) (a:w.seq? h=y0 (ts.map .str)) (h2:w.str? =u0):Pa (.v (.str s)) w h=y0 (v9 (s∈ts)):=by
 unfold Pa
 simp only [h2,W.str?,W.d_v,a,KP,qan,Aj,if_true,qaB]
structure Nm (ts:List Tx):Prop where
 nd:ts.Nodup
abbrev xdW (ts:List Tx):D:= .tup (ts.map .str)
abbrev wD (K T:List Tx):D:= .tup [xdW K,xdW T]
end M
namespace Wf
def wr (g:Nat->Nat->Bool):Nat->Nat->Nat->Bool
 | 0,a,b=>g a b
 | k+1,a,b=>wr g k a b||(wr g k a k&&wr g k k b)
end Wf
namespace M
def jds (t:Tx) (ts:List Tx):Nat:=(Pc t ts).getD 0
theorem qr : ∀ {ts},t∈ts->Pc t ts=y0 (jds t ts)/\jds t ts<ts.length
 | y::a,h=>by
  unfold jds
  by_cases q:y=t
  ·simp [Pc,q]
  ·have b:t∈a:=by
    rcases Ab4.mp h with e | e
    ·exact absurd e.symm q
    ·exact e
   obtain⟨e,l⟩:=qr b
   simp only [Pc,q,if_false,e,Option.map_some,Option.getD_some,Ab9]at l ⊢
   exact⟨trivial,by omega⟩
structure Wo where
 n:Nat
 K:List Tx
 T:List Tx
 ks:List Nat
 ts:List Nat
structure Wo.Ok (w:Wo):Prop where
 hK:w.K.length<=4
 hT:w.T.length<=4
 nm:Nm (w.K++w.T)
 wl:qds w.n w.K.length w.T.length w.ks w.ts
noncomputable def Wo.at (w:Wo) (t:Tx) (a b:Nat):Prop:=if t∈w.T then(w.ts.getD (jds t w.T) 0).testBit (a*w.n+b)=k9 else a=b/\(w.ks.getD (jds t w.K) 0).testBit a=k9
noncomputable def zdM (w:Wo):Ex->Nat->Nat->Prop
 | .name t,a,b=>w.at t a b
 | .same,a,b=>a=b
 | .all,_,_=>True
 | .none,_,_=>False
 | .turned e,a,b=>zdM w e b a
 | .closed e,a,b=> ∃t,t<2 ^ (w.n*w.n)/\(∀ x y,x<w.n->y<w.n->(t.testBit (x*w.n+y)=k9↔zdM w e x y))/\Wf.TC w.n t a b
 | .plus e f,a,b=>zdM w e a b\/zdM w f a b
 | .less e f,a,b=>zdM w e a b/\ ¬zdM w f a b
 | .both e f,a,b=>zdM w e a b/\zdM w f a b
 | .joined e f,a,b=> ∃c,c<w.n/\zdM w e a c/\zdM w f c b
def Is (w:Wo) (e:Ex) (v:Nat):Prop:=v<2 ^ (w.n*w.n)/\ ∀a b,a<w.n->b<w.n->(v.testBit (a*w.n+b)=k9↔zdM w e a b)
def xU (b:s<2 ^ (n*n)) (c:t<2 ^ (n*n)) (h: ∀x y,x<n->y<n->(s.testBit (x*n+y)=k9↔t.testBit (x*n+y)=k9)):s=t:=by
 refine Wf.eq_of_bits b c λk a=> ?_
 have:=h (k / n) (k % n) (Wf.div_lt_n a) (Wf.mod_lt_n a)
 rw [Wf.place_eq]at this
 exact Ad8.mpr this
def Zw {w:Wo}{e:Ex}{v:Nat}(h:Is w e v){a b:Nat}:zdM w (.closed e) a b↔Wf.TC w.n v a b:=by
 refine⟨λ⟨t,lt,g,c⟩=> ?_,λc=>⟨v,h.1,h.2,c⟩⟩
 have:t=v:=xU lt h.1 λx y f d=>(g x y f d).trans (h.2 x y f d).symm
 exact this▸c
def xcp (a:s<2 ^ n) (b:t<2 ^ n):s ||| t<2 ^ n:=Ao1 a b
theorem Is.plus {w:Wo}{e f:Ex}{s t:Nat}(h:Is w e s) (g:Is w f t):Is w (.plus e f) (s ||| t):=⟨xcp h.1 g.1,λa b c d=>by
 rw [Ag4,Am8,h.2 a b c d,g.2 a b c d];rfl⟩
theorem Is.both {w:Wo}{e f:Ex}{s t:Nat}(h:Is w e s) (g:Is w f t):Is w (.both e f) (s &&& t):=⟨Nat.and_lt_two_pow s g.1,λa b c d=>by
 rw [Ak8,Aa7,h.2 a b c d,g.2 a b c d];rfl⟩
theorem Is.less {w:Wo}{e f:Ex}{s t:Nat}(h:Is w e s) (g:Is w f t):Is w (.less e f) (s-(s &&& t)):=⟨An9 (Nat.sub_le _ _) h.1,λa b c d=>by
 rw [Wf.sub_and_bit,Aa7,h.2 a b c d,Ao,←Bool.not_eq_true,g.2 a b c d];rfl⟩
theorem Is.turned {w:Wo}{e:Ex}{s:Nat}(h:Is w e s):Is w (.turned e) (Wf.turnM w.n s):=⟨Wf.turnM_lt _ _,λa b d c=>by
 rw [Wf.turnM_bit (Wf.place_lt d c),Wf.place_div c,Wf.place_mod c,h.2 b a c d];rfl⟩
theorem Is.joined {w:Wo}{e f:Ex}{s t:Nat}(h:Is w e s) (g:Is w f t):Is w (.joined e f) (Wf.joinM w.n s t):=⟨Wf.joinM_lt _ _ _,λa b j i=>by
 rw [Wf.joinM_bit (Wf.place_lt j i),Wf.JB_place i,Ae4]
 refine⟨λ⟨c,d,q⟩=> ?_,λ⟨c,d,l,k⟩=> ?_⟩
 ·have d:=Ab3.mp d
  rw [Aa7]at q
  exact⟨c,d,(h.2 a c j d).mp q.1,(g.2 c b d i).mp q.2⟩
 ·refine⟨c,Ab3.mpr d,?_⟩
  rw [Aa7]
  exact⟨(h.2 a c j d).mpr l,(g.2 c b d i).mpr k⟩⟩
theorem Is.closed {w:Wo}{e:Ex}{s r:Nat}(h:Is w e s) (g:Wf.IsTC w.n s r):Is w (.closed e) r:=⟨g.lt,λa b c d=>(g.bit a b c d).trans (Zw h).symm⟩
theorem Is.same (w:Wo):Is w .same (Wf.sameM w.n):=⟨Wf.sameM_lt _,λa b c d=>by rw [Wf.same_place c d,decide_eq_true_eq];rfl⟩
theorem Is.all (w:Wo):Is w .all (2 ^ (w.n*w.n)-1):=⟨Nat.sub_lt (Aj0 _) (by decide),λa b c d=>by
 rw [Nat.testBit_two_pow_sub_one,decide_eq_true (Wf.place_lt c d)]
 exact⟨λ_=>trivial,λ_=>rfl⟩⟩
theorem Is.none (w:Wo):Is w .none 0:=⟨Aj0 _,λa b c d=>by
 rw [Am4]
 exact⟨λh=>absurd h (by decide),λh=>h.elim⟩⟩
def Wo.words (w:Wo):D:=wD w.K w.T
def Wo.world (w:Wo):D:=Wc w.n w.ks w.ts
def XN (ts) (t) (h) (a:t∈ts) (b:ts.length<=1000):qbR .index (.v (xdW ts)) [.v (.str t)] h= .ok (.v (.int ((jds t ts:Nat):Int))) h:=by
 show(R.of h ((y0 (ts.map D.str)).bind KM)).bind _=_
 rw [Ah1,wJ,R.of_some,R.bind_ok]
 show(R.of h (y0 t)).bind _=_
 rw [R.of_some,R.bind_ok,(qr a).1,R.of_some,R.bind_ok,if_pos (by rw [Gi];omega)]
def xaf (n x:Nat):List (Nat×Nat):=((Aa0 n).filter x.testBit).map λa=>(a,a)
def J5 (n x):Wf.inB n (xaf n x):=λp b=>by
 obtain⟨a,c,rfl⟩:=Ac.mp b
 have:=Ab3.mp (Ae1.mp c).1
 exact⟨this,this⟩
def za3 (l:a<n) (h:b<n):(Wf.tieM n (xaf n x)).testBit (a*n+b)=k9↔a=b/\x.testBit a=true:=by
 rw [Wf.tieM_bit,Ae4]
 refine⟨λ⟨p,j,e⟩=> ?_,λ⟨e,k⟩=> ?_⟩
 ·obtain⟨c,d,rfl⟩:=Ac.mp j
  have f:=Ae1.mp d
  have d:=Ab3.mp f.1
  have e:=of_decide_eq_true e
  have i:=congrArg (· / n) e
  have g:=congrArg (· % n) e
  simp only [Wf.place_div d,Wf.place_div h,Wf.place_mod d,Wf.place_mod h]at i g
  subst i
  exact⟨g,f.2⟩
 ·subst e
  exact⟨(a,a),Ac.mpr ⟨a,Ae1.mpr ⟨Ab3.mpr l,k⟩,rfl⟩,decide_eq_true rfl⟩
def zcU (n x:Nat) (o:n<=4) (h):eval F wg [a,b,c,y0 (.v (.int (n:Int))),y0 (.v (.int (x:Int)))] h= .ok (.own ((xaf n x).map pD)) h:=by
 rw [wg,JT (λd=>match d with
  | .int i=>if x.testBit i.toNat then y0 (.tup [.int i,.int i])else u0
  | _=>u0) (Qd (m:=n) (by simp_all []) (by omega)) (by simp;rw [Gi];omega)]
 ·congr 2
  rw [List.filterMap_map,xaf,Ac6]
  induction Aa0 n with
  | nil=>rfl
  | cons y l f=>
   by_cases e:x.testBit y=k9
   ·simp [e,pD,f]
   ·simp [e,f]
 ·intro d g
  obtain⟨i,k,rfl⟩:=rng _ g
  have j:K9 ((x / 2 ^ i:Nat)) 1=y0 (((x.testBit i).toNat:Nat):Int):=by
   rw [show 1=((1:Nat):Int)from rfl,Xo,WI]
  refine⟨[y0 (.v (.int i)),y0 (.v (.int x))],x.testBit i,rfl,?_,?_⟩
  ·unfold Gr
   simp only [eval,Gg,Gj,R.bind_ok,Gy,Zz,Wm,j,R.of_some,ZT]
   cases x.testBit i<;>rfl
  ·by_cases e:x.testBit i=k9
   ·simp [e,Gg]
   ·simp [e]
def xaF (t) (ts) (h):GD .mem (.v (.str t)) (.v (xdW ts)) h=y0 (v9 (t∈ts)):=zS t ts (.v (xdW ts)) h rfl rfl
def jD (k)(ok:w.Ok) (t) (g:t∈w.K++w.T) (h): ∃v,Is w (.name t) v/\call prog (k+4) "value_of_name" [.v w.words,.v w.world,.v (.str t)] h= .ok (.v (.int (v:Int))) h:=by
 rw [Ga rfl _ _ _ rfl]
 simp only [GC]
 show ∃v,_/\Ka _ (execs _ _ [y0 (.v (wD w.K w.T)),y0 (.v (Wc w.n w.ks w.ts)),y0 (.v (.str t)),u0,u0] h)=_
 have j:=ok.hK
 have l:=ok.hT
 by_cases q:t∈w.T
 ·have c:=(qr q).2
  refine⟨w.ts.getD (jds t w.T) 0,⟨?_,λa b e f=> ?_⟩,?_⟩
  ·rw [Ab7,Aa4 (by rw [ok.wl.lt];exact c)]
   exact ok.wl.bt _ (Ak1 _)
  ·show _↔w.at t a b
   rw [Wo.at,if_pos q]
  ·rw [Zb,Gb _ _ _ rfl]
   rw [qv (h1:=h) (by simp_all [ix_tup,Wx,xaF,decide_eq_true q])]
   exact Zb (xc rfl (by simp only [eval,Gf,Gg,Gj,R.bind_ok,ix_tup,Wx,qcY,R.of_some,zbl,if_true,XN w.T t h q (by omega)];rw [jbF _ _ (by rw [ok.wl.lt];exact c)];rfl))
 ·have d:=(Af2.mp g).resolve_right q
  have c:=(qr d).2
  have i:=ok.wl.n4
  refine⟨Wf.tieM w.n (xaf w.n (w.ks.getD (jds t w.K) 0)),⟨Wf.tieM_lt (J5 _ _),λa b e f=> ?_⟩,?_⟩
  ·show _↔w.at t a b
   rw [Wo.at,if_neg q]
   exact za3 e f
  ·rw [za (Y1:= [y0 (.v (wD w.K w.T)),y0 (.v (Wc w.n w.ks w.ts)),y0 (.v (.str t)),u0,u0]) (h1:=h) (by simp_all [ix_tup,Wx,xaF,decide_eq_false q])]
   rw [za (Y1:= [y0 (.v (wD w.K w.T)),y0 (.v (Wc w.n w.ks w.ts)),y0 (.v (.str t)),y0 (.v (.int w.n)),u0]) rfl]
   rw [za (Y1:= [y0 (.v (wD w.K w.T)),y0 (.v (Wc w.n w.ks w.ts)),y0 (.v (.str t)),y0 (.v (.int w.n)),y0 (.v (.int ((w.ks.getD (jds t w.K) 0:Nat))))]) (by simp only [exec,eval,Gf,Gg,Gj,R.bind_ok,ix_tup,zE,xcU,R.of_some,zbl,if_true,XN w.K t h d (by omega)];rw [jbF _ _ (by rw [ok.wl.lk];exact c)];rfl)]
   rw [Zb (xc rfl ?_),Gb _ _ _ rfl]
   simp only [eval,Gf,Gg,Gj,R.bind_ok,zcU w.n _ i h,Aa9,Ad1,W.arg_v,W.arg_own,qA k w.n _ h (by omega) (J5 _ _)]
def jb (s X) (h):Gr F (.cmp .eq (.var 1) (.str X)) [a,y0 (.v (.str s)),c] h= .ok (s==X) h:=by
 simp only [Gr,eval,Gg,Gj,R.bind_ok,xz,R.of_some,GW]
abbrev jdU (n:Nat) (s:Tx) (l:List D):Sl:= [y0 (.v (.int (n:Int))),y0 (.v (.str s)),y0 (.v (.lst l))]
def xaK (k n:Nat) (l) (h) (a:n<=4):call prog (k+5) "made" [.v (.int (n:Int)),.v (.str xM),.v (.lst l)] h= .ok (.v (.int ((Wf.sameM n:Nat):Int))) h:=by
 rw [Ga rfl _ _ _ rfl]
 simp only [GP]
 show Ka _ (execs _ _ (jdU n xM l) h)=_
 rw [Jj (jb _ _ _) (xc rfl (by simp only [eval,Gf,Gg,Gj,R.bind_ok,Aa9,Ad1,W.arg_v,jcf k n h (by omega)];rfl)),Gb _ _ _ rfl]
def ja5 (k n:Nat) (l) (h) (a:n<=4):call prog (k+5) "made" [.v (.int (n:Int)),.v (.str zaM),.v (.lst l)] h= .ok (.v (.int ((2 ^ (n*n)-1:Nat):Int))) h:=by
 rw [Ga rfl _ _ _ rfl]
 simp only [GP]
 show Ka _ (execs _ _ (jdU n zaM l) h)=_
 rw [Za (jb _ _ _),Jj (jb _ _ _) (xc rfl (by simp only [eval,Gf,Gg,Gj,R.bind_ok,Aa9,Ad1,W.arg_v,qbP (k+3) n h (by omega)];rfl)),Gb _ _ _ rfl]
def zap (k n:Nat) (l) (h):call prog (k+5) "made" [.v (.int (n:Int)),.v (.str X2),.v (.lst l)] h= .ok (.v (.int ((0:Nat):Int))) h:=by
 rw [Ga rfl _ _ _ rfl]
 simp only [GP]
 rw [Za (jb _ _ _),Za (jb _ _ _),Jj (jb _ _ _) (xc rfl rfl),Gb _ _ _ rfl]
 rfl
abbrev l2 (s t:Nat):List D:= [.int (s:Int),.int (t:Int)]
def jaM (k n s t:Nat) (h):call prog (k+5) "made" [.v (.int (n:Int)),.v (.str JF),.v (.lst (l2 s t))] h= .ok (.v (.int ((s ||| t:Nat):Int))) h:=by
 rw [Ga rfl _ _ _ rfl]
 simp only [GP]
 show Ka _ (execs _ _ (jdU n JF (l2 s t)) h)=_
 rw [Za (jb _ _ _),Za (jb _ _ _),Za (jb _ _ _),Jj (jb _ _ _) (xc rfl (by simp only [eval,Gf,Gg,Gj,R.bind_ok,Zp,zE,Wx,R.of_some,Aa9,Ad1,W.arg_v,jL (k+3) s t h];rfl)),Gb _ _ _ rfl]
def zan (k n s t:Nat) (h):call prog (k+5) "made" [.v (.int (n:Int)),.v (.str wF),.v (.lst (l2 s t))] h= .ok (.v (.int ((s-(s &&& t):Nat):Int))) h:=by
 rw [Ga rfl _ _ _ rfl]
 simp only [GP]
 show Ka _ (execs _ _ (jdU n wF (l2 s t)) h)=_
 rw [Za (jb _ _ _),Za (jb _ _ _),Za (jb _ _ _),Za (jb _ _ _),Jj (jb _ _ _) (xc rfl (by simp only [eval,Gf,Gg,Gj,R.bind_ok,Zp,zE,Wx,R.of_some,Aa9,Ad1,W.arg_v,XR (k+3) s t h];rfl)),Gb _ _ _ rfl]
def xaN (k n s t:Nat) (h):call prog (k+5) "made" [.v (.int (n:Int)),.v (.str WG),.v (.lst (l2 s t))] h= .ok (.v (.int ((s &&& t:Nat):Int))) h:=by
 rw [Ga rfl _ _ _ rfl]
 simp only [GP]
 show Ka _ (execs _ _ (jdU n WG (l2 s t)) h)=_
 rw [Za (jb _ _ _),Za (jb _ _ _),Za (jb _ _ _),Za (jb _ _ _),Za (jb _ _ _),Jj (jb _ _ _) (xc rfl (by simp only [eval,Gf,Gg,Gj,R.bind_ok,Zp,zE,Wx,R.of_some,Aa9,Ad1,W.arg_v,qbc (k+3) s t h];rfl)),Gb _ _ _ rfl]
def WW (k n s t:Nat) (h) (a:n<=4):call prog (k+5) "made" [.v (.int (n:Int)),.v (.str Jq),.v (.lst (l2 s t))] h= .ok (.v (.int ((Wf.joinM n s t:Nat):Int))) h:=by
 rw [Ga rfl _ _ _ rfl]
 simp only [GP]
 show Ka _ (execs _ _ (jdU n Jq (l2 s t)) h)=_
 rw [Za (jb _ _ _),Za (jb _ _ _),Za (jb _ _ _),Za (jb _ _ _),Za (jb _ _ _),Za (jb _ _ _),Jj (jb _ _ _) (xc rfl (by simp only [eval,Gf,Gg,Gj,R.bind_ok,Zp,zE,Wx,R.of_some,Aa9,Ad1,W.arg_v,WJ (k+2) n s t h (by omega)];rfl)),Gb _ _ _ rfl]
def WU (k n s:Nat) (h) (a:n<=4):call prog (k+5) "made" [.v (.int (n:Int)),.v (.str wy),.v (.lst [.int (s:Int)])] h= .ok (.v (.int ((Wf.turnM n s:Nat):Int))) h:=by
 rw [Ga rfl _ _ _ rfl]
 simp only [GP]
 show Ka _ (execs _ _ (jdU n wy [.int s]) h)=_
 rw [Za (jb _ _ _),Za (jb _ _ _),Za (jb _ _ _),Za (jb _ _ _),Za (jb _ _ _),Za (jb _ _ _),Za (jb _ _ _),Jj (jb _ _ _) (xc rfl (by simp only [eval,Gf,Gg,Gj,R.bind_ok,Zp,jcz,R.of_some,Aa9,Ad1,W.arg_v,xa2 k n s h (by omega)];rfl)),Gb _ _ _ rfl]
def XV (k n s) (h) (c:n<=4) (a:s<2 ^ (n*n)): ∃r,Wf.IsTC n s r/\call prog (k+5) "made" [.v (.int (n:Int)),.v (.str xy),.v (.lst [.int (s:Int)])] h= .ok (.v (.int (r:Int))) h:=by
 obtain⟨r,b,e⟩:=xa1 (k+1) n s h c a
 refine⟨r,b,?_⟩
 rw [Ga rfl _ _ _ rfl]
 simp only [GP]
 show Ka _ (execs _ _ (jdU n xy [.int s]) h)=_
 rw [Za (jb _ _ _),Za (jb _ _ _),Za (jb _ _ _),Za (jb _ _ _),Za (jb _ _ _),Za (jb _ _ _),Za (jb _ _ _),Za (jb _ _ _),Zb (xc rfl (by simp only [eval,Gf,Gg,Gj,R.bind_ok,Zp,jcz,R.of_some,Aa9,Ad1,W.arg_v,e];rfl)),Gb _ _ _ rfl]
def jad (a:Gk F it Y h= .ok [] h):eval F (.comp tg one k cap it y9 c elt) Y h= .ok (.own []) h:=by
 rw [eval,a,R.bind_ok,if_pos (show [].length<=LIM from Ah3 _)]
 rfl
def zbn (a:Gk F it Y h= .ok [d] h) (e:eval F elt (GB (Ab k u0++cap.map λj=>Gg Y j) 0 (.v d)) h= .ok (.v y) h):eval F (.comp [0] k9 k cap it y9 c elt) Y h= .ok (.own [y]) h:=by
 have b: [d].length<=LIM:=by rw [Gi];simp
 rw [eval,a,R.bind_ok,if_pos b]
 simp only [Gv,Ku,Af4,if_false,R.bind_ok,e,W.d_v,R.of_some]
def q0 (a:Gk F it Y h= .ok [d1,d2] h) (e:eval F elt (GB (Ab k u0++cap.map λj=>Gg Y j) 0 (.v d1)) h= .ok (.v y1) h) (d:eval F elt (GB (Ab k u0++cap.map λj=>Gg Y j) 0 (.v d2)) h= .ok (.v y2) h):eval F (.comp [0] k9 k cap it y9 c elt) Y h= .ok (.own [y1,y2]) h:=by
 have b: [d1,d2].length<=LIM:=by rw [Gi];simp
 rw [eval,a,R.bind_ok,if_pos b]
 simp only [Gv,Ku,Af4,if_false,R.bind_ok,e,d,W.d_v,R.of_some]
abbrev jdA (w:Wo) (d:D) (x:Option W):Sl:= [y0 (.v w.words),y0 (.v w.world),y0 (.v d),x]
def Wt :Gk F (.seq (.slL (.var 2) (.int 1))) (jdA w (.tup (s::ds)) x) h= .ok ds h:=by
 have e:cut (s::ds) (y0 1) u0=ds:=jcs (s::ds) 1
 refine jb8 ?_
 show(if sIx (s::ds).length 0 (y0 1)=0/\sIx (s::ds).length (s::ds).length u0=(s::ds).length then R.fail else R.ok (W.v (D.tup (cut (s::ds) (y0 1) u0))) h)=_
 rw [if_neg (λc=>by have:=c.1;simp [sIx]at this),e]
def Xl (d:xdY e= .tup (.str s::ds)) (a:(s==W5)=y9)
 (h1:eval (u9 m) ZR (jdA w (.tup (.str s::ds)) u0) h= .ok (.own ys) h) (h2:call prog m "made" [.v (.int (w.n:Int)),.v (.str s),.v (.lst ys)] h= .ok (.v v) h):call prog (m+1) "value" [.v w.words,.v w.world,.v (xdY e)] h= .ok (.v v) h:=by
 rw [Ga rfl _ _ _ rfl,d]
 simp only [Kl]
 show Ka _ (execs _ _ (jdA w (.tup (.str s::ds)) u0) h)=_
 have b:Gr (u9 m) (.cmp .eq (.ix (.var 2) (.int 0)) (.str W5)) (jdA w (.tup (.str s::ds)) u0) h= .ok y9 h:=by
  simp only [Gr,eval,Gg,Gj,R.bind_ok,ix_tup,Jo,R.of_some,xz,a,GW]
 rw [Za b,za (Y1:=jdA w (.tup (.str s::ds)) (y0 (.v (.lst ys)))) (by rw [exec,h1];rfl)]
 have c:ixD (.v w.world) (.v (.int 0)) h=y0 (.int w.n):=rfl
 rw [Zb (xc rfl (by simp only [eval,Gf,Gg,Gj,R.bind_ok,c,ix_tup,Jo,R.of_some,Aa9,Ad1,W.arg_v,h2];rfl)),Gb _ _ _ rfl]
def Wk (q:call prog m "value" [.v w.words,.v w.world,.v d] h= .ok (.v y) h):eval (u9 m) (.call "value" (.cons (.var 1) (.cons (.var 2) (.cons (.var 0) .nil)))) (GB (List.replicate 1 none++ [0,1].map fun j=>Gg (jdA w v none) j) 0 (.v d)) h= .ok (.v y) h:=by simp_all
def wI {w:Wo}(ok:w.Ok) (h:AH): ∀(e:Ex) (m:Nat),e.dp+6<=m->e.wf (w.K++w.T)-> ∃v,Is w e v/\call prog m "value" [.v w.words,.v w.world,.v (xdY e)] h= .ok (.v (.int (v:Int))) h:=by
 have o:=ok.wl.n4
 intro e
 induction e with
 | name t=>
  intro m f wf
  obtain⟨k,rfl⟩: ∃k,m=k+5:=⟨m-5,by omega⟩
  obtain⟨v,u,e⟩:=jD k ok t wf h
  refine⟨v,u,?_⟩
  rw [Ga (d:=Kl) rfl _ _ _ rfl]
  simp only [Kl]
  show Ka _ (execs _ _ (jdA w (xdY (.name t)) u0) h)=_
  have q:Gr (u9 (k+4)) (.cmp .eq (.ix (.var 2) (.int 0)) (.str W5)) (jdA w (xdY (.name t)) u0) h= .ok k9 h:=by
   simp only [Gr,eval,xdY,Gg,Gj,R.bind_ok,ix_tup,Jo,R.of_some,xz,GW]
   rfl
  rw [Jj q (xc rfl (by simp only [eval,Gf,xdY,Gg,Gj,R.bind_ok,ix_tup,Wx,R.of_some,Aa9,Ad1,W.arg_v,e];rfl)),Gb _ _ _ rfl]
 | same=>
  intro m f wf
  obtain⟨k,rfl⟩: ∃k,m=k+5+1:=⟨m-6,by simp [Ex.dp]at f;omega⟩
  exact⟨_,Is.same w,Xl (e:= .same) rfl rfl (jad Wt) (xaK k w.n _ h o)⟩
 | all=>
  intro m f wf
  obtain⟨k,rfl⟩: ∃k,m=k+5+1:=⟨m-6,by simp [Ex.dp]at f;omega⟩
  exact⟨_,Is.all w,Xl (e:= .all) rfl rfl (jad Wt) (ja5 k w.n _ h o)⟩
 | none=>
  intro m f wf
  obtain⟨k,rfl⟩: ∃k,m=k+5+1:=⟨m-6,by simp [Ex.dp]at f;omega⟩
  exact⟨_,Is.none w,Xl (e:= .none) rfl rfl (jad Wt) (zap k w.n _ h)⟩
 | turned a c=>
  intro m f wf
  simp only [Ex.dp]at f
  obtain⟨k,rfl⟩: ∃k,m=k+5+1:=⟨m-6,by omega⟩
  obtain⟨s,i,j⟩:=c (k+5) (by omega) wf
  exact⟨_,i.turned,Xl (e:= .turned a) rfl rfl (zbn Wt (Wk j)) (WU k w.n s h o)⟩
 | closed a c=>
  intro m f wf
  simp only [Ex.dp]at f
  obtain⟨k,rfl⟩: ∃k,m=k+5+1:=⟨m-6,by omega⟩
  obtain⟨s,i,j⟩:=c (k+5) (by omega) wf
  obtain⟨r,p,x⟩:=XV k w.n s h o i.1
  exact⟨_,i.closed p,Xl (e:= .closed a) rfl rfl (zbn Wt (Wk j)) x⟩
 | plus a b c g=>
  intro m f wf
  simp only [Ex.dp]at f
  obtain⟨k,rfl⟩: ∃k,m=k+5+1:=⟨m-6,by omega⟩
  obtain⟨s,i,j⟩:=c (k+5) (by omega) wf.1
  obtain⟨t,l,n⟩:=g (k+5) (by omega) wf.2
  exact⟨_,i.plus l,Xl (e:= .plus a b) rfl rfl (q0 Wt (Wk j) (Wk n)) (jaM k w.n s t h)⟩
 | less a b c g=>
  intro m f wf
  simp only [Ex.dp]at f
  obtain⟨k,rfl⟩: ∃k,m=k+5+1:=⟨m-6,by omega⟩
  obtain⟨s,i,j⟩:=c (k+5) (by omega) wf.1
  obtain⟨t,l,n⟩:=g (k+5) (by omega) wf.2
  exact⟨_,i.less l,Xl (e:= .less a b) rfl rfl (q0 Wt (Wk j) (Wk n)) (zan k w.n s t h)⟩
 | both a b c g=>
  intro m f wf
  simp only [Ex.dp]at f
  obtain⟨k,rfl⟩: ∃k,m=k+5+1:=⟨m-6,by omega⟩
  obtain⟨s,i,j⟩:=c (k+5) (by omega) wf.1
  obtain⟨t,l,n⟩:=g (k+5) (by omega) wf.2
  exact⟨_,i.both l,Xl (e:= .both a b) rfl rfl (q0 Wt (Wk j) (Wk n)) (xaN k w.n s t h)⟩
 | joined a b c g=>
  intro m f wf
  simp only [Ex.dp]at f
  obtain⟨k,rfl⟩: ∃k,m=k+5+1:=⟨m-6,by omega⟩
  obtain⟨s,i,j⟩:=c (k+5) (by omega) wf.1
  obtain⟨t,l,n⟩:=g (k+5) (by omega) wf.2
  exact⟨_,i.joined l,Xl (e:= .joined a b) rfl rfl (q0 Wt (Wk j) (Wk n)) (WW k w.n s t h o)⟩
def wC (x y) (r:List D):atI (x::y::r) 1=y0 y:=by
 have:=Xk (x::y::r) 1 (by simp)
 exact this
def Wo.mv (w:Wo) (o:List Nat):Wo:=⟨w.n,w.K,w.T,w.ks.map (kM w.n o),w.ts.map (tK w.n o)⟩
theorem Wo.Ok.mv {w:Wo}(ok:w.Ok)(h:Od w.n o):(w.mv o).Ok:=⟨ok.hK,ok.hT,ok.nm,⟨ok.wl.n4,by simp [Wo.mv,ok.wl.lk],by simp [Wo.mv,ok.wl.lt],λx a=>by
 obtain⟨y,_,rfl⟩:=Ac.mp a
 exact jba h y,λx a=>by
 obtain⟨y,_,rfl⟩:=Ac.mp a
 exact jbd h y⟩⟩
def ZZ (f) (l:List Nat) (i) (h:i<l.length):(l.map f).getD i 0=f (l.getD i 0):=by
 rw [Ab7,Ab7,Ad,Aa4 h];rfl
def zcV {w:Wo}(ok:w.Ok){o:List Nat}(h:Od w.n o){t:Tx}(e:t∈w.K++w.T){a b:Nat}(c:a<w.n) (d:b<w.n):(w.mv o).at t (pm o a) (pm o b)↔w.at t a b:=by
 unfold Wo.at
 show(if t∈w.T then((w.ts.map (tK w.n o)).getD (jds t w.T) 0).testBit (pm o a*w.n+pm o b)=k9 else pm o a=pm o b/\((w.ks.map (kM w.n o)).getD (jds t w.K) 0).testBit (pm o a)=k9)↔_
 by_cases q:t∈w.T
 ·rw [if_pos q,if_pos q,ZZ _ _ _ (by rw [ok.wl.lt];exact(qr q).2),qaw h _ c d]
 ·have f:t∈w.K:=(Af2.mp e).resolve_right q
  rw [if_neg q,if_neg q,ZZ _ _ _ (by rw [ok.wl.lk];exact(qr f).2),jaP h _ c,h.inj c d]
def qcM {n v p:Nat}{o:List Nat}(h:Od n o) (k: ∀a b,a<n->b<n->(p.testBit (pm o a*n+pm o b)=k9↔v.testBit (a*n+b)=k9)){a b:Nat}(i:a<n) (l:b<n):Wf.TC n p (pm o a) (pm o b)↔Wf.TC n v a b:=by
 constructor
 ·have: ∀x y,Wf.TC n p x y-> ∀a b,a<n->b<n->pm o a=x->pm o b=y->Wf.TC n v a b:=by
   intro x y g
   induction g with
   | step d e f=>
    intro a b i j q m
    subst q m
    exact .step i j ((k a b i j).mp f)
   | more g d e f r=>
    intro a b i j q m
    subst q m
    obtain⟨c,s,rfl⟩:=h.onto d
    exact .more (r a c i s rfl rfl) s j ((k c b s j).mp f)
  exact λg=>this _ _ g a b i l rfl rfl
 ·intro g
  induction g with
  | step d e f=>exact .step (h.lt d) (h.lt e) ((k _ _ d e).mpr f)
  | more g d e f r=>exact .more (r d) (h.lt d) (h.lt e) ((k _ _ d e).mpr f)
def xcg {w:Wo}(ok:w.Ok){o:List Nat}(h:Od w.n o) (r:AH): ∀(e:Ex),e.wf (w.K++w.T)-> ∀a b,a<w.n->b<w.n->(zdM (w.mv o) e (pm o a) (pm o b)↔zdM w e a b):=by
 intro e
 induction e with
 | name t=>intro wf a b f g;exact zcV ok h wf f g
 | same=>intro wf a b f g;exact h.inj f g
 | all=>intro wf a b f g;exact Iff.rfl
 | none=>intro wf a b f g;exact Iff.rfl
 | turned x p=>intro wf a b f g;exact p wf b a g f
 | closed x p=>
  intro wf a b f g
  obtain⟨v,s,_⟩:=wI ok r x (x.dp+6) (Aa5 _) wf
  obtain⟨u,k,_⟩:=wI (ok.mv h) r x (x.dp+6) (Aa5 _) wf
  rw [Zw s,Zw k]
  exact qcM h (λa b f g=>by rw [s.2 a b f g,←p wf a b f g];exact k.2 _ _ (h.lt f) (h.lt g)) f g
 | plus x y j i=>intro wf a b f g;exact or_congr (j wf.1 a b f g) (i wf.2 a b f g)
 | less x y j i=>intro wf a b f g;exact and_congr (j wf.1 a b f g) (not_congr (i wf.2 a b f g))
 | both x y j i=>intro wf a b f g;exact and_congr (j wf.1 a b f g) (i wf.2 a b f g)
 | joined x y j i=>
  intro wf a b f g
  constructor
  ·rintro ⟨c,l,q,m⟩
   obtain⟨d,n,rfl⟩:=h.onto l
   exact⟨d,n,(j wf.1 a d f n).mp q,(i wf.2 d b n g).mp m⟩
  ·rintro ⟨c,l,q,m⟩
   exact⟨pm o c,h.lt l,(j wf.1 a c f l).mpr q,(i wf.2 c b l g).mpr m⟩
noncomputable def Mv (n:Nat) (o:List Nat) (v c:Nat):Prop:=v<2 ^ (n*n)/\c<2 ^ (n*n)/\ ∀a b,a<n->b<n->(c.testBit (pm o a*n+pm o b)=k9↔v.testBit (a*n+b)=k9)
def qcB (ok:w.Ok)(h:Od w.n o) (i:AH) (e) (wf:e.wf (w.K++w.T))(g:Is w e v) (c:Is (w.mv o) e v'):Mv w.n o v v':=⟨g.1,c.1,λa b d f=>by
 rw [g.2 a b d f,←xcg ok h i e wf a b d f];exact c.2 _ _ (h.lt d) (h.lt f)⟩
abbrev tb (n v:Nat) (a b:Nat):Bool:=v.testBit (a*n+b)
def qM (n:Nat) (g:Nat->Nat->Bool) (a:Nat):Nat:=((Aa0 n).map λb=>(g a b).toNat).sum
theorem qx (g): ∀l:List Nat,(l.filter g).length=(l.map λb=>(g b).toNat).sum
 | []=>rfl
 | x::l=>by
  have a:=qx g l
  by_cases q:g x=k9
  ·rw [List.filter_cons_of_pos q,Ab9,Aa9,Ai0,a,q];simp;omega
  ·have c:=by simpa using q
   rw [List.filter_cons_of_neg q,Aa9,Ai0,a,c];simp
def xG (m n):Aa0 ((m+1)*n)=Aa0 (m*n)++(Aa0 n).map (m*n+ ·):=by
 rw [Al5,List.range_add]
def qbZ {b:Nat}(a:b<n):(m*n+b) / n=m:=Wf.place_div a
theorem jX (n v) (a): ∀m,((((Aa0 (m*n)).filter v.testBit).map (· / n)).count a)=if a<m then qM n (tb n v) a else 0
 | 0=>by simp
 | m+1=>by
  have d:=jX n v a m
  rw [xG,An8,Ac8,List.count_append,d,List.filter_map,Ac6]
  have e:((Aa0 n).filter (v.testBit∘(m*n+ ·))).map ((· / n)∘(m*n+ ·))=Ab ((Aa0 n).filter (v.testBit∘(m*n+ ·))).length m:=by
   rw [List.eq_replicate_iff]
   refine⟨by simp,λx f=> ?_⟩
   obtain⟨b,g,rfl⟩:=Ac.mp f
   exact qbZ (Ab3.mp (Ae1.mp g).1)
  rw [e,List.count_replicate,qx]
  by_cases q:a=m
  ·subst q
   simp [qM,tb]
  ·have h: ¬(m==a)=true:=by simp;exact λe=>q e.symm
   rw [if_neg h]
   by_cases c:a<m
   ·rw [if_pos c,if_pos (by omega)];omega
   ·rw [if_neg c,if_neg (by omega)]
def jat (b:a<n):((Wf.pairsM n v).map (·.1)).count a=qM n (tb n v) a:=by
 have:=jX n v a n
 rw [if_pos b]at this
 rw [← this,Wf.pairsM,Ac6]
 rfl
theorem Q0 (n v): ∀m,((Aa0 (m*n)).filter v.testBit).length=((Aa0 m).map (qM n (tb n v))).sum
 | 0=>by simp
 | m+1=>by
  have a:=Q0 n v m
  rw [xG,An8,Ab1,a,List.filter_map,Aa,qx,List.range_succ,Ac8,List.sum_append]
  simp [qM,tb]
def zas (n v):(Wf.pairsM n v).length=((Aa0 n).map (qM n (tb n v))).sum:=by
 rw [Wf.pairsM,Aa,Q0]
abbrev ze:Tx:= [108,101,97,115,116]
abbrev jk:Tx:= [109,111,115,116]
abbrev qd:Tx:= [101,97,99,104,108,101,97,115,116]
abbrev Zh:Tx:= [101,97,99,104,109,111,115,116]
abbrev jaE:Tx:= [105,110]
abbrev Wi:Tx:= [101,113,117,97,108]
abbrev jo:Tx:= [115,111,109,101]
abbrev xax:Tx:= [110,111]
def XH (s a b) (h):GD .mem (.v (.str s)) (.v (.tup [.str a,.str b])) h=y0 (v9 (s∈ [a,b])):=zS s [a,b] (.v (.tup [.str a,.str b])) h rfl rfl
def rows (n v:Nat):List Nat:=(Aa0 n).map (qM n (tb n v))
def Q5 (n v:Nat) (s:Tx):List Nat:=if s∈ [ze,jk]then [(rows n v).sum]else rows n v
def W6 (l:List Nat) (a:Nat):(l.map λ(x:Nat)=>(x:Int)).count (a:Int)=l.count a:=by
 induction l with
 | nil=>rfl
 | cons x l b=>
  rw [Aa9,List.count_cons,List.count_cons,b]
  by_cases q:x=a
  ·simp [q]
  ·have: ¬(x=(a:Int)):=by omega
   simp [q,this]
def ja6 (k n v:Nat) (s) (l:n<=4) (h):call prog (k+2) "counts" [.v (.int (n:Int)),.v (.str s),.v (.int (v:Int))] h= .ok (.own (xdO (Q5 n v s))) h:=by
 rw [Ga rfl _ _ _ rfl]
 simp only [KK]
 show Ka _ (execs _ _ [y0 (.v (.int (n:Int))),y0 (.v (.str s)),y0 (.v (.int (v:Int))),u0,u0] h)=_
 refine fx (by simp_all [jq k n v h (by omega)];rfl) ?_
 by_cases q:s∈ [ze,jk]
 ·rw [Zb,Gw _ _ _ rfl]
  rw [qv (h1:=h) (by simp_all [XH,decide_eq_true q])]
  refine Zb (Wv rfl ?_)
  simp only [eval,Gm,Gf,Gg,Gj,R.bind_ok,XL,W.d_v,R.of_some,Aa,zas]
  rw [Q5,if_pos q]
  rfl
 ·refine fx (by simp_all [XH,decide_eq_false q];rfl) ?_
  have f:eval (u9 (k+1)) zx [y0 (.v (.int (n:Int))),y0 (.v (.str s)),y0 (.v (.int (v:Int))),y0 (.v (.lst ((Wf.pairsM n v).map pD))),u0] h= .ok (.own (xdO ((Wf.pairsM n v).map (·.1)))) h:=by
   rw [zx,Qw (λd=>match d with | .tup [x,_]=>x | d=>d) (by simp_all []) (ZB n v (by omega))]
   ·simp [pD,xdO,Function.comp_def]
   ·intro d e
    obtain⟨p,_,rfl⟩:=Ac.mp e
    exact⟨_,rfl,_,rfl,rfl⟩
  have j:eval (u9 (k+1)) Xw [y0 (.v (.int (n:Int))),y0 (.v (.str s)),y0 (.v (.int (v:Int))),y0 (.v (.lst ((Wf.pairsM n v).map pD))),y0 (.v (.lst (xdO ((Wf.pairsM n v).map (·.1)))))] h= .ok (.own (xdO (rows n v))) h:=by
   rw [Xw,WZ (λa=> .int ((qM n (tb n v) a:Nat):Int)) rfl (by omega) λa i=>⟨.v (.int ((qM n (tb n v) a:Nat):Int)),?_,rfl⟩]
   ·rw [xdO,rows,Ac6];rfl
   ·have g:((((Wf.pairsM n v).map (·.1)).map λ(x:Nat)=>(x:Int))).length<=LIM:=by
     have:=ZB n v (show n<=20 by omega)
     simpa using this
    have b:qbR .count (.v (.lst (xdO ((Wf.pairsM n v).map (·.1))))) [.v (.int (a:Int))] h= .ok (.v (.int ((qM n (tb n v) a:Nat):Int))) h:=by
     show(R.of h ((y0 (xdO ((Wf.pairsM n v).map (·.1)))).bind Kg)).bind _=_
     rw [Ah1,JI,R.of_some,R.bind_ok]
     show(R.of h (y0 (a:Int))).bind _=_
     rw [R.of_some,R.bind_ok,if_pos g,W6,jat i]
    have c:xcT .count (.v (.lst (xdO ((Wf.pairsM n v).map (·.1))))) h=true:=rfl
    simp only [eval,Gf,Gg,Gj,Aa9,Ad1,R.bind_ok,c,if_true,b]
  rw [za (Y1:= [y0 (.v (.int (n:Int))),y0 (.v (.str s)),y0 (.v (.int (v:Int))),y0 (.v (.lst ((Wf.pairsM n v).map pD))),y0 (.v (.lst (xdO ((Wf.pairsM n v).map (·.1)))))]) (h1:=h) (by rw [exec,f];rfl)]
  rw [Zb (Wv rfl j),Gw _ _ _ rfl,Q5,if_neg q]
inductive Fc where
 | inn (a b:Ex)
 | equ (a b:Ex)
 | som (a:Ex)
 | non (a:Ex)
 | cnt (s:Tx) (k:Nat) (a:Ex)
noncomputable def jdY:Fc->D
 | .inn a b=> .tup [.str jaE,xdY a,xdY b]
 | .equ a b=> .tup [.str Wi,xdY a,xdY b]
 | .som a=> .tup [.str jo,xdY a]
 | .non a=> .tup [.str xax,xdY a]
 | .cnt s k a=> .tup [.str s,.int (k:Int),xdY a]
noncomputable def Fc.wf (N:List Tx):Fc->Prop
 | .inn a b=>a.wf N/\b.wf N
 | .equ a b=>a.wf N/\b.wf N
 | .som a=>a.wf N
 | .non a=>a.wf N
 | .cnt s _ a=>s∈ [ze,jk,qd,Zh]/\a.wf N
noncomputable def Fc.dp:Fc->Nat
 | .inn a b=>max a.dp b.dp
 | .equ a b=>max a.dp b.dp
 | .som a=>a.dp
 | .non a=>a.dp
 | .cnt _ _ a=>a.dp
def Wp {p:Nat->Nat->Bool}:((Aa0 n).all λa=>(Aa0 n).all λb=>p a b)=k9↔ ∀a b,a<n->b<n->p a b=true:=by
 simp only [Ad3,Ab3]
 exact⟨λh a b c d=>h a c b d,λh a c b d=>h a b c d⟩
def Q4 (c:s<2 ^ (n*n)):v9 (s-(s &&& t)=0)=(Aa0 n).all λa=>(Aa0 n).all λb=>(tb n s a b&&tb n t a b)==tb n s a b:=by
 rw [Ad8,decide_eq_true_eq,Wp]
 constructor
 ·intro e a b d f
  have:=Wf.sub_and_bit s t (a*n+b)
  cases q:s.testBit (a*n+b)<;>cases r:t.testBit (a*n+b)<;>simp_all
 ·intro e
  refine Af5 λk=> ?_
  rw [Wf.sub_and_bit,Am4]
  by_cases q:k<n*n
  ·have:=e (k / n) (k % n) (Wf.div_lt_n q) (Wf.mod_lt_n q)
   simp only [tb,Wf.place_eq]at this
   cases a:s.testBit k<;>cases b:t.testBit k<;>simp_all
  ·have:s.testBit k=false:=Ae6 (Ab0 c (Ad0 (by decide) (by omega)))
   rw [this];rfl
def w4 (c:s<2 ^ (n*n)) (d:t<2 ^ (n*n)):v9 (s=t)=(Aa0 n).all λa=>(Aa0 n).all λb=>tb n s a b==tb n t a b:=by
 rw [Ad8,decide_eq_true_eq,Wp]
 constructor
 ·rintro rfl a b _ _
  simp
 ·intro e
  exact xU c d λx y g f=>by
   have:=e x y g f
   rw [beq_iff_eq]at this
   exact Ad8.mp this
def Wa (s X) (h):Gr F (.cmp .eq (.var 3) (.str X)) [a,b,c,y0 (.v (.str s))] h= .ok (s==X) h:=by
 simp only [Gr,eval,Gg,Gj,R.bind_ok,xz,R.of_some,GW]
abbrev qdR (w:Wo) (d:D) (s:Tx):Sl:= [y0 (.v w.words),y0 (.v w.world),y0 (.v d),y0 (.v (.str s))]
def qk 
 (q:execs (u9 m) (match d_keeps.body with | .cons _ r=>r | r=>r) (qdR w (.tup (.str s::ds)) s) h= .ret (.v (.bl b)) h):call prog (m+1) "keeps" [.v w.words,.v w.world,.v (.tup (.str s::ds))] h= .ok (.v (.bl b)) h:=by
 rw [Ga rfl _ _ _ rfl]
 simp only [d_keeps]at q ⊢
 show Ka _ (execs _ _ [y0 (.v w.words),y0 (.v w.world),y0 (.v (.tup (.str s::ds))),u0] h)=_
 rw [za (Y1:=qdR w (.tup (.str s::ds)) s) (h1:=h) (by simp_all [ix_tup,Jo]),q,Gb _ _ _ rfl]
section
variable {m:Nat}{w:Wo}{h:AH}
def jcj {s t:Nat}(e:call prog (m+1) "value" [.v w.words,.v w.world,.v (xdY a)] h= .ok (.v (.int (s:Int))) h) (d:call prog (m+1) "value" [.v w.words,.v w.world,.v (xdY b)] h= .ok (.v (.int (t:Int))) h):
 call prog (m+2) "keeps" [.v w.words,.v w.world,.v (jdY (.inn a b))] h= .ok (.v (.bl (decide (s-(s &&& t)=0)))) h:=by
 refine qk ?_
 simp only [d_keeps]
 have c:GD .eq (.v (.int ((s-(s &&& t):Nat)))) (.v (.int 0)) h=y0 (v9 (s-(s &&& t)=0)):=QJ _ 0 h
 rw [Za (Wa _ _ _),Za (Wa _ _ _),Za (Wa _ _ _),Jj (Wa _ _ _) (xc rfl (by simp only [eval,Gf,Gg,Gj,R.bind_ok,ix_tup,wC,XO,R.of_some,Aa9,Ad1,W.arg_v,e,d,XR m s t h,c];rfl))]
def zbp {s t:Nat}(d:call prog (m+1) "value" [.v w.words,.v w.world,.v (xdY a)] h= .ok (.v (.int (s:Int))) h) (c:call prog (m+1) "value" [.v w.words,.v w.world,.v (xdY b)] h= .ok (.v (.int (t:Int))) h):
 call prog (m+2) "keeps" [.v w.words,.v w.world,.v (jdY (.equ a b))] h= .ok (.v (.bl (decide (s=t)))) h:=by
 refine qk ?_
 simp only [d_keeps]
 rw [Za (Wa _ _ _),Za (Wa _ _ _),Za (Wa _ _ _),Za (Wa _ _ _),Jj (Wa _ _ _) (xc rfl (by simp only [eval,Gf,Gg,Gj,R.bind_ok,ix_tup,wC,XO,R.of_some,Aa9,Ad1,W.arg_v,d,c,QJ];rfl))]
def jbu {s:Nat}(d:call prog (m+1) "value" [.v w.words,.v w.world,.v (xdY a)] h= .ok (.v (.int (s:Int))) h):
 call prog (m+2) "keeps" [.v w.words,.v w.world,.v (jdY (.som a))] h= .ok (.v (.bl (!decide (s=0)))) h:=by
 refine qk ?_
 simp only [d_keeps]
 have b:GD .ne (.v (.int s)) (.v (.int 0)) h=y0 (!v9 (s=0)):=by
  have this:GD .eq (.v (.int s)) (.v (.int 0)) h=y0 (v9 (s=0)):=QJ s 0 h
  rw [zak]at this
  rw [jbj]
  split at this
  ·rename_i c
   rw [if_pos c]
   have:=Ae5.inj this
   rw [← this]
  ·cases this
 rw [Za (Wa _ _ _),Za (Wa _ _ _),Za (Wa _ _ _),Za (Wa _ _ _),Za (Wa _ _ _),Jj (Wa _ _ _) (xc rfl (by simp only [eval,Gf,Gg,Gj,R.bind_ok,ix_tup,wC,R.of_some,Aa9,Ad1,W.arg_v,d,b];rfl))]
def qbr {s:Nat}(c:call prog (m+1) "value" [.v w.words,.v w.world,.v (xdY a)] h= .ok (.v (.int (s:Int))) h):
 call prog (m+2) "keeps" [.v w.words,.v w.world,.v (jdY (.non a))] h= .ok (.v (.bl (decide (s=0)))) h:=by
 refine qk ?_
 simp only [d_keeps]
 have b:GD .eq (.v (.int s)) (.v (.int 0)) h=y0 (v9 (s=0)):=QJ s 0 h
 rw [Za (Wa _ _ _),Za (Wa _ _ _),Za (Wa _ _ _),Za (Wa _ _ _),Za (Wa _ _ _),Za (Wa _ _ _),Jj (Wa _ _ _) (xc rfl (by simp only [eval,Gf,Gg,Gj,R.bind_ok,ix_tup,wC,R.of_some,Aa9,Ad1,W.arg_v,c,b];rfl))]
end
def jaO (s:Tx) (k:Nat) (l:List Nat):Bool:=if s∈ [ze,qd]then l.all λx=>v9 (k<=x)else l.all λx=>v9 (x<=k)
def zbN (n v) (s) (a:n<=4):(xdO (Q5 n v s)).length<=LIM:=by
 rw [Gi,xdO,Aa,Q5]
 split
 ·simp
 ·simp [rows];omega
noncomputable abbrev qdI (w:Wo) (d:D) (k:Nat) (l:List Nat):Sl:= [y0 (.v w.words),y0 (.v w.world),y0 (.v d),y0 (.v (.int (k:Int))),y0 (.v (.lst (xdO l)))]
def zdc (b:(xdO l).length<=LIM):eval F wj (qdI w d k l) h= .ok (.own ((l.map λx=>v9 (k<=x)).map .bl)) h:=by
 rw [wj,Qw (λd=>match d with | .int x=> .bl (v9 (k<=x)) | d=>d) (by simp_all []) b]
 ·simp [Function.comp_def]
 ·intro d a
  obtain⟨x,_,rfl⟩:=Ac.mp a
  refine⟨[y0 (.v (.int x)),y0 (.v (.int k))],rfl,.v (.bl (v9 ((k:Int)<=x))),?_,rfl⟩
  simp_all [xcG]
def jde (b:(xdO l).length<=LIM):eval F xi (qdI w d k l) h= .ok (.own ((l.map λx=>v9 (x<=k)).map .bl)) h:=by
 rw [xi,Qw (λd=>match d with | .int x=> .bl (v9 (x<= k)) | d=>d) (by simp_all []) b]
 ·simp [Function.comp_def]
 ·intro d a
  obtain⟨x,_,rfl⟩:=Ac.mp a
  refine⟨[y0 (.v (.int x)),y0 (.v (.int k))],rfl,.v (.bl (v9 ((x:Int)<=k))),?_,rfl⟩
  simp_all [zci]
def QL {w:Wo}(b:w.n<=4){k v:Nat}(e:call prog (m+2) "value" [.v w.words,.v w.world,.v (xdY a)] h= .ok (.v (.int (v:Int))) h):
 call prog (m+3) "keeps_count" [.v w.words,.v w.world,.v (jdY (.cnt s k a))] h= .ok (.v (.bl (jaO s k (Q5 w.n v s)))) h:=by
 rw [Ga rfl _ _ _ rfl]
 simp only [GL,jdY]
 show Ka _ (execs _ _ [y0 (.v w.words),y0 (.v w.world),y0 (.v (.tup [.str s,.int (k:Int),xdY a])),u0,u0] h)=_
 have d:ixD (.v w.world) (.v (.int 0)) h=y0 (.int (w.n:Int)):=rfl
 have c:=zbN w.n v s b
 rw [za (Y1:= [y0 (.v w.words),y0 (.v w.world),y0 (.v (.tup [.str s,.int (k:Int),xdY a])),y0 (.v (.int (k:Int))),u0]) (h1:=h) rfl]
 refine fx (by simp_all [d,ix_tup,Jo,XO,e,ja6 m w.n v s b h];rfl) ?_
 by_cases q:s∈ [ze,qd]
 ·rw [Zb (w:= .v (.bl (jaO s k (Q5 w.n v s)))) (h1:=h),Gb _ _ _ rfl]
  rw [qv (h1:=h) (by simp_all [ix_tup,Jo,XH,decide_eq_true q])]
  refine Zb (xc rfl ?_)
  rw [xn (zdc c),J3,jaO,if_pos q]
 ·refine fx (by simp_all [ix_tup,Jo,XH,decide_eq_false q];rfl) ?_
  rw [Zb (w:= .v (.bl (jaO s k (Q5 w.n v s)))) (h1:=h) (xc rfl ?_),Gb _ _ _ rfl]
  rw [xn (jde c),J3,jaO,if_neg q]
def qbx {m:Nat}{w:Wo}(e:w.n<=4){h:AH}{s:Tx}(c:s∈ [ze,jk,qd,Zh]){k v:Nat}{a:Ex}(f:call prog (m+2) "value" [.v w.words,.v w.world,.v (xdY a)] h= .ok (.v (.int (v:Int))) h):
 call prog (m+4) "keeps" [.v w.words,.v w.world,.v (jdY (.cnt s k a))] h= .ok (.v (.bl (jaO s k (Q5 w.n v s)))) h:=by
 refine qk (m:=m+3) ?_
 have b:=QL (m:=m) e (s:=s) (k:=k) f
 simp only [jdY]at b
 have ne: ∀X,X∈ [[110,111,116],[97,110,100],[111,114],jaE,Wi,jo,xax]->(s==X)=false:=by
  intro X d
  have: ∀s,s∈ [ze,jk,qd,Zh]-> ∀X,X∈ [([110,111,116]:Tx),[97,110,100],[111,114],jaE,Wi,jo,xax]->(s==X)=false:=by decide
  exact this s c X d
 simp only [d_keeps]
 rw [Za ((Wa _ _ _).trans (by rw [ne _ (by decide)])),Za ((Wa _ _ _).trans (by rw [ne _ (by decide)])),Za ((Wa _ _ _).trans (by rw [ne _ (by decide)])),Za ((Wa _ _ _).trans (by rw [ne _ (by decide)])),Za ((Wa _ _ _).trans (by rw [ne _ (by decide)])),Za ((Wa _ _ _).trans (by rw [ne _ (by decide)])),Za ((Wa _ _ _).trans (by rw [ne _ (by decide)])),Zb (xc rfl (by simp only [eval,Gf,Gg,Gj,R.bind_ok,Aa9,Ad1,W.arg_v,b];rfl))]
abbrev jbV:Tx:= [110,111,116]
abbrev zaU:Tx:= [97,110,100]
abbrev jcH:Tx:= [111,114]
inductive Sy where
 | fact (f:Fc)
 | neg (a:Sy)
 | conj (a b:Sy)
 | disj (a b:Sy)
noncomputable def zdG:Sy->D
 | .fact f=>jdY f
 | .neg a=> .tup [.str jbV,zdG a]
 | .conj a b=> .tup [.str zaU,zdG a,zdG b]
 | .disj a b=> .tup [.str jcH,zdG a,zdG b]
noncomputable def Sy.wf (N:List Tx):Sy->Prop
 | .fact f=>f.wf N
 | .neg a=>a.wf N
 | .conj a b=>a.wf N/\b.wf N
 | .disj a b=>a.wf N/\b.wf N
def Sy.dp:Sy->Nat
 | .fact f=>f.dp
 | .neg a=>a.dp+1
 | .conj a b=>max a.dp b.dp+1
 | .disj a b=>max a.dp b.dp+1
section
variable {m:Nat}{w:Wo}{h:AH}{d e:D}{a b:Bool}
def jbn (b:call prog m "keeps" [.v w.words,.v w.world,.v d] h= .ok (.v (.bl a)) h):call prog (m+1) "keeps" [.v w.words,.v w.world,.v (.tup [.str jbV,d])] h= .ok (.v (.bl (!a))) h:=by
 refine qk ?_
 simp only [d_keeps]
 rw [Jj (Wa _ _ _) (xc rfl (by simp only [eval,Gf,Gg,Gj,R.bind_ok,ix_tup,wC,R.of_some,Aa9,Ad1,W.arg_v,b,GW];rfl))]
def xaq (f:call prog m "keeps" [.v w.words,.v w.world,.v d] h= .ok (.v (.bl a)) h) (c:call prog m "keeps" [.v w.words,.v w.world,.v e] h= .ok (.v (.bl b)) h):call prog (m+1) "keeps" [.v w.words,.v w.world,.v (.tup [.str zaU,d,e])] h= .ok (.v (.bl (a&&b))) h:=by
 refine qk ?_
 simp only [d_keeps]
 rw [Za (Wa _ _ _),Jj (Wa _ _ _) (xc rfl ?_)]
 cases a<;>simp only [eval,Gf,Gg,Gj,R.bind_ok,ix_tup,wC,XO,R.of_some,Aa9,Ad1,W.arg_v,f,c,GW,Al8]<;>rfl
def qay (f:call prog m "keeps" [.v w.words,.v w.world,.v d] h= .ok (.v (.bl a)) h) (c:call prog m "keeps" [.v w.words,.v w.world,.v e] h= .ok (.v (.bl b)) h):call prog (m+1) "keeps" [.v w.words,.v w.world,.v (.tup [.str jcH,d,e])] h= .ok (.v (.bl (a||b))) h:=by
 refine qk ?_
 simp only [d_keeps]
 rw [Za (Wa _ _ _),Za (Wa _ _ _),Jj (Wa _ _ _) (xc rfl ?_)]
 cases a<;>simp only [eval,Gf,Gg,Gj,R.bind_ok,ix_tup,wC,XO,R.of_some,Aa9,Ad1,W.arg_v,f,c,GW,Bool.false_or]<;>rfl
end
def xaL (h:Od n o) (p:Nat->Nat->Bool):((Aa0 n).all λa=>(Aa0 n).all λb=>p a b)=(Aa0 n).all λa=>(Aa0 n).all λb=>p (pm o a) (pm o b):=by
 rw [Ad8,Wp,Wp]
 constructor
 ·exact λk a b c d=>k _ _ (h.lt c) (h.lt d)
 ·intro k x y f e
  obtain⟨a,c,rfl⟩:=h.onto f
  obtain⟨b,d,rfl⟩:=h.onto e
  exact k a b c d
theorem Mv.tb (m:Mv n o v v')(c:a<n) (d:b<n):tb n v' (pm o a) (pm o b)=tb n v a b:=Ad8.mpr (m.2.2 a b c d)
def Q2 {p q:Nat->Nat->Bool}(h: ∀a b,a<n->b<n->p a b=q a b):((Aa0 n).all λa=>(Aa0 n).all λb=>p a b)=(Aa0 n).all λa=>(Aa0 n).all λb=>q a b:=by
 rw [Ad8,Wp,Wp]
 exact⟨λk a b c d=>(h a b c d)▸k a b c d,λk a b c d=>(h a b c d).symm▸k a b c d⟩
def jcN (h:Od n o)(m:Mv n o v v') (k:Mv n o u u'):v9 (v'-(v' &&& u')=0)=v9 (v-(v &&& u)=0):=by
 rw [Q4 m.2.1,Q4 m.1,xaL h]
 exact Q2 λa b c d=>by rw [m.tb c d,k.tb c d]
def jbp (h:Od n o)(m:Mv n o v v') (k:Mv n o u u'):v9 (v'=u')=v9 (v=u):=by
 rw [w4 m.2.1 k.2.1,w4 m.1 k.1,xaL h]
 exact Q2 λa b c d=>by rw [m.tb c d,k.tb c d]
def jaN (h:Od n o)(m:Mv n o v v'):v9 (v'=0)=v9 (v=0):=by
 have z:Mv n o 0 0:=⟨Aj0 _,Aj0 _,λa b _ _=>by simp⟩
 exact jbp h m z
def Od.mapf (h:Od n o)(f:Nat->α):o.map f=(Aa0 n).map λb=>f (pm o b):=by
 have:=congrArg (List.map f) h.map
 rw [Ac6]at this
 exact this
def qbF (h:Od n o)(m:Mv n o v v')(c:a<n):qM n (tb n v') (pm o a)=qM n (tb n v) a:=by
 rw [qM,qM]
 have p:((Aa0 n).map λb=>(tb n v' (pm o a) b).toNat).Perm (o.map λb=>(tb n v' (pm o a) b).toNat):=(h.p.map _).symm
 rw [p.sum_nat,h.mapf]
 congr 1
 refine Ae λb d=> ?_
 rw [m.tb c (Ab3.mp d)]
def zbQ (h:Od n o)(m:Mv n o v v'):(rows n v').Perm (rows n v):=by
 rw [rows,rows]
 have p:((Aa0 n).map (qM n (tb n v'))).Perm (o.map (qM n (tb n v'))):=(h.p.map _).symm
 refine p.trans ?_
 have e:o.map (qM n (tb n v'))=(Aa0 n).map (qM n (tb n v)):=by
  rw [h.mapf]
  exact Ae λa b=>qbF h m (Ab3.mp b)
 rw [e]
def xcD (h:Od n o)(m:Mv n o v v') (s) (j):jaO s j (Q5 n v' s)=jaO s j (Q5 n v s):=by
 have p:=zbQ h m
 rw [Q5,Q5]
 split
 ·rw [p.sum_nat]
 ·rw [jaO,jaO]
  split
  ·exact p.all_eq
  ·exact p.all_eq
def Z3 (ok:w.Ok) (h) (e) (wf:e.wf (w.K++w.T)): ∃v,Is w e v/\ ∀m,e.dp+6<=m->call prog m "value" [.v w.words,.v w.world,.v (xdY e)] h= .ok (.v (.int (v:Int))) h:=by
 obtain⟨v,c,_⟩:=wI ok h e (e.dp+6) (Aa5 _) wf
 refine⟨v,c,λm j=> ?_⟩
 obtain⟨u,d,i⟩:=wI ok h e m j wf
 rw [i,xU d.1 c.1 λa b f g=>by rw [d.2 a b f g,c.2 a b f g]]
def xaz {w:Wo}(ok:w.Ok)(i:Od w.n o) (h) (f) (wf:f.wf (w.K++w.T)): ∃b,∀m,f.dp+6<=m->call prog (m+2) "keeps" [.v w.words,.v w.world,.v (jdY f)] h= .ok (.v (.bl b)) h/\call prog (m+2) "keeps" [.v (w.mv o).words,.v (w.mv o).world,.v (jdY f)] h= .ok (.v (.bl b)) h:=by
 have z:=ok.wl.n4
 have q:=ok.mv i
 have both: ∀e:Ex,e.wf (w.K++w.T)-> ∃v g,Mv w.n o v g/\(∀ m,e.dp+6<=m->call prog m "value" [.v w.words,.v w.world,.v (xdY e)] h= .ok (.v (.int (v:Int))) h)/\(∀ m,e.dp+6<=m->call prog m "value" [.v (w.mv o).words,.v (w.mv o).world,.v (xdY e)] h= .ok (.v (.int (g:Int))) h):=by
  intro e t
  obtain⟨v,B,c⟩:=Z3 ok h e t
  obtain⟨g,p,n⟩:=Z3 q h e t
  exact⟨v,g,qcB ok i h e t B p,c,n⟩
 cases f with
 | inn x y=>
  obtain⟨v,g,mv,c,a⟩:=both x wf.1
  obtain⟨u,A,r,n,l⟩:=both y wf.2
  refine⟨v9 (v-(v &&& u)=0),λm d=> ?_⟩
  simp only [Fc.dp]at d
  refine⟨jcj (c _ (by omega)) (n _ (by omega)),?_⟩
  rw [← jcN i mv r]
  exact jcj (a _ (by omega)) (l _ (by omega))
 | equ x y=>
  obtain⟨v,g,mv,c,a⟩:=both x wf.1
  obtain⟨u,A,r,n,l⟩:=both y wf.2
  refine⟨v9 (v=u),λm d=> ?_⟩
  simp only [Fc.dp]at d
  refine⟨zbp (c _ (by omega)) (n _ (by omega)),?_⟩
  rw [← jbp i mv r]
  exact zbp (a _ (by omega)) (l _ (by omega))
 | som x=>
  obtain⟨v,g,mv,c,a⟩:=both x wf
  refine⟨!v9 (v=0),λm d=> ?_⟩
  simp only [Fc.dp]at d
  refine⟨jbu (c _ (by omega)),?_⟩
  rw [← jaN i mv]
  exact jbu (a _ (by omega))
 | non x=>
  obtain⟨v,g,mv,c,a⟩:=both x wf
  refine⟨v9 (v=0),λm d=> ?_⟩
  simp only [Fc.dp]at d
  refine⟨qbr (c _ (by omega)),?_⟩
  rw [← jaN i mv]
  exact qbr (a _ (by omega))
 | cnt s j x=>
  obtain⟨v,g,mv,c,a⟩:=both x wf.2
  refine⟨jaO s j (Q5 w.n v s),λm d=> ?_⟩
  simp only [Fc.dp]at d
  obtain⟨k,rfl⟩: ∃k,m=k+2:=⟨m-2,by omega⟩
  refine⟨qbx z wf.1 (c _ (by omega)),?_⟩
  rw [← xcD i mv]
  exact qbx (w:=w.mv o) z wf.1 (a _ (by omega))
def j9 {w:Wo}(ok:w.Ok){o:List Nat}(t:Od w.n o) (h:AH): ∀(s:Sy),s.wf (w.K++w.T)-> ∃b,∀m,s.dp+6<=m->call prog (m+2) "keeps" [.v w.words,.v w.world,.v (zdG s)] h= .ok (.v (.bl b)) h/\call prog (m+2) "keeps" [.v (w.mv o).words,.v (w.mv o).world,.v (zdG s)] h= .ok (.v (.bl b)) h:=by
 intro s
 induction s with
 | fact f=>intro wf;exact xaz ok t h f wf
 | neg a u=>
  intro wf
  obtain⟨b,e⟩:=u wf
  refine⟨!b,λm l=> ?_⟩
  simp only [Sy.dp]at l
  obtain⟨k,rfl⟩: ∃k,m=k+1:=⟨m-1,by omega⟩
  have⟨n,p⟩:=e k (by omega)
  exact⟨jbn n,jbn p⟩
 | conj a c i d=>
  intro wf
  obtain⟨b,e⟩:=i wf.1
  obtain⟨r,q⟩:=d wf.2
  refine⟨b&&r,λm l=> ?_⟩
  simp only [Sy.dp]at l
  obtain⟨k,rfl⟩: ∃k,m=k+1:=⟨m-1,by omega⟩
  have⟨n,p⟩:=e k (by omega)
  have⟨g,j⟩:=q k (by omega)
  exact⟨xaq n g,xaq p j⟩
 | disj a c i d=>
  intro wf
  obtain⟨b,e⟩:=i wf.1
  obtain⟨r,q⟩:=d wf.2
  refine⟨b||r,λm l=> ?_⟩
  simp only [Sy.dp]at l
  obtain⟨k,rfl⟩: ∃k,m=k+1:=⟨m-1,by omega⟩
  have⟨n,p⟩:=e k (by omega)
  have⟨g,j⟩:=q k (by omega)
  exact⟨qay n g,qay p j⟩
def Xx (n:Nat) (rows:List (List Nat)):List (List Nat):=rows.flatMap λr=>((Aa0 n).filter λx=> !v9 (x∈r)).map λx=>r++ [x]
def Zl (n:Nat):Nat->List (List Nat)
 | 0=> [[]]
 | j+1=>Xx n (Zl n j)
abbrev zdK (rows:List (List Nat)):List D:=rows.map λr=> .tup (xdO r)
def wc (r:List Nat):List Int:=r.map λ(x:Nat)=>(x:Int)
noncomputable def zc2 (n:Nat):Bool:=v9 ((Zl n n).length= [1,1,2,6,24].getD n 0)&&((Zl n n).all λr=>v9 (zbH (wc r)=wc (Aa0 n))&&v9 (r.length=n))&&((Aa0 ((Zl n n).length-1)).all λk=>KU (wc ((Zl n n).getD k [])) (wc ((Zl n n).getD (k+1) [])))&&((Aa0 (n+1)).all λj=>v9 ((Zl n j).length<=24)&&(Zl n j).all λr=>v9 (r.length<=4))
def xbW: ∀n,n<5->zc2 n=true:=by decide +kernel
structure zdS (n:Nat):Prop where
 len:(Zl n n).length= [1,1,2,6,24].getD n 0
 srt: ∀r∈Zl n n,zbH (wc r)=wc (Aa0 n)
 ln: ∀r∈Zl n n,r.length=n
 lex: ∀k,k+1<(Zl n n).length->KU (wc ((Zl n n).getD k [])) (wc ((Zl n n).getD (k+1) []))=k9
 few: ∀j,j<=n->(Zl n j).length<=24
 sml: ∀j,j<=n-> ∀r∈Zl n j,r.length<=4
def jdI (n) (i:n<=4):zdS n:=by
 have h:=xbW n (by omega)
 unfold zc2 at h
 simp only [Aa7,decide_eq_true_eq,Ad3]at h
 obtain⟨⟨⟨d,c⟩,e⟩,b⟩:=h
 exact⟨d,λr a=>(c r a).1,λr a=>(c r a).2,λk g=>e k (Ab3.mpr (by omega)),λj f=>(b j (Ab3.mpr (by omega))).1,λj f r a=>(b j (Ab3.mpr (by omega))).2 r a⟩
def zbw (k) (d) (h) (e:Gc d=k9):call prog (k+3) "is_size" [.v d] h= .ok (.v (.bl (wh d 5))) h:=by
 rw [Ga rfl _ _ _ rfl]
 have a:=zw k d 5 h e
 have c:prog.con.lookup "GREATEST_SIZE" =some (.int 4):=rfl
 have b:(4:Int)+1=5:=rfl
 simp only [Kq]
 simp_all [c,wd,b,a]
def qT (k) (d) (h) (c:Gc d=k9) (b:wh d 5=k9):call prog (k+4) "check_size" [.v d] h= .ok (.v .non) h:=by
 rw [Ga rfl _ _ _ rfl]
 have a:=zbw k d h c
 rw [b]at a
 simp only [GF]
 rw [Za (by simp_all [a])]
 simp_all []
def Q6 (k) (d) (h) (c:Gc d=k9) (b:wh d 5=y9):call prog (k+4) "check_size" [.v d] h= .exc (.exc "NoSize" []) h:=by
 rw [Ga rfl _ _ _ rfl]
 have a:=zbw k d h c
 rw [b]at a
 simp only [GF]
 rw [execs,qv (h1:=h) (by simp_all [a]),zb]
 simp_all []
theorem xcj (b:Nat): ∀l:List Nat,inD (.int (b:Int)) (xdO l)=v9 (b∈l)
 | []=>rfl
 | x::l=>by
  have:=xcj b l
  simp only [inD,Aa9,Af3,eqD,Ab4]at this ⊢
  rw [this,Ad8]
  simp only [Am8,beq_iff_eq,decide_eq_true_eq]
  constructor
  ·rintro (h | h)
   ·exact .inl (by omega)
   ·exact .inr h
  ·rintro (h | h)
   ·exact .inl (by omega)
   ·exact .inr h
def xbU (l):(xdO l).all KP=true:=by
 rw [Am7,Ad3];exact λ_ _=>rfl
def jca (b:Nat) (l) (h):GD .nmem (.v (.int (b:Int))) (.v (.tup (xdO l))) h=y0 (!v9 (b∈l)):=by
 show(Pa _ _ h).map _=_
 have:Pa (.v (.int b)) (.v (.tup (xdO l))) h=y0 (v9 (b∈l)):=by
  show(if KP (.int b)&&(xdO l).all KP then y0 (inD (.int b) (xdO l))else Pm _ _ h)=_
  rw [xbU,xcj];rfl
 rw [this];rfl
def QF (F) (a) (Y) (h):Gu F (.range1 a) Y h=Gk F (.range1 a) Y h:=rfl
theorem xao {n:Nat}(g:n<=4) (h): ∀ rows a x,(∀ r∈rows,r.length<=4)->a.length+rows.length*4<=1000-> ∃c,
 Gq (Gp [3] k9) (λY h=>execs F qg Y h) (zdK rows) [y0 w,y0 (.v (.int (n:Int))),y0 (.own (zdK a)),x] h= .next [y0 w,y0 (.v (.int (n:Int))),y0 (.own (zdK (a++Xx n rows))),c] h
 | [],a,x,_,_=>⟨x,by simp [Xx]⟩
 | r::rows,a,x,f,l=>by
  have p:((Aa0 n).filter λx=> !v9 (x∈r)).length<=4:=Ac0 (Ad9 _ _) (by simp;exact g)
  rw [Ab9]at l
  obtain⟨c,e⟩:=xao g h rows (a++((Aa0 n).filter λx=> !v9 (x∈r)).map λx=>r++ [x]) (y0 (.v (.tup (xdO r)))) (λq o=>f q (Aa2 _ o)) (by rw [Ab1,Aa];omega)
  refine⟨c,?_⟩
  have d:eval F jg [y0 w,y0 (.v (.int n)),y0 (.own (zdK a)),y0 (.v (.tup (xdO r)))] h= .ok (.own (((Aa0 n).filter λx=> !v9 (x∈r)).map λx=> .tup (xdO (r++ [x])))) h:=by
   rw [jg]
   refine zI _ _ rfl (by omega) λi s=>⟨?_,.v (.tup (xdO (r++ [i]))),?_,rfl⟩
   ·have:=jca i r h
    simp_all [this]
   ·have b:(xdO r).length+ [D.int i].length<=LIM:=by
     have:=f r Aa3
     rw [Gi,Aa,Ag2];omega
    have j:xdO (r++ [i])=xdO r++ [.int i]:=by simp
    rw [j]
    simp_all [wz,b,if_true]
  have eq:(((Aa0 n).filter λx=> !v9 (x∈r)).map λx=>D.tup (xdO (r++ [x])))=zdK (((Aa0 n).filter λx=> !v9 (x∈r)).map λx=>r++ [x]):=by rw [zdK,Ac6];rfl
  rw [eq]at d
  have b:(zdK a).length+(zdK (((Aa0 n).filter λx=> !v9 (x∈r)).map λx=>r++ [x])).length<LIM:=by
   rw [Gi,Aa,Aa,Aa];omega
  have m:zdK (a++((Aa0 n).filter λx=> !v9 (x∈r)).map λx=>r++ [x])=zdK a++zdK (((Aa0 n).filter λx=> !v9 (x∈r)).map λx=>r++ [x]):=Ac8 ..
  have k:Xx n (r::rows)=(((Aa0 n).filter λx=> !v9 (x∈r)).map λx=>r++ [x])++Xx n rows:=rfl
  rw [show zdK (r::rows)= .tup (xdO r)::zdK rows from rfl,xa rfl ?_,e,k,Ae9]
  rw [m]
  simp_all [qg,d,b,if_true]
def qa4 (k n:Nat) (rows) (h) (a:n<=4) (h1: ∀r∈rows,r.length<=4) (h2:rows.length<=24):call prog (k+1) "longer_by_one" [.bor (zdK rows),.v (.int (n:Int))] h= .ok (.own (zdK (Xx n rows))) h:=by
 rw [Ga rfl _ _ _ rfl]
 obtain⟨b,e⟩:=xao a h rows [] u0 h1 (by simp;omega)
 refine fx (by simp_all [];rfl) ?_
 rw [za (by
  exact e)]
 simp_all []
theorem jbq (hn:n<=4) (h): ∀(m j:Nat) x,j+m=n-> ∃x',
 Gq (Gp [2] k9) (λY h=>execs (u9 (k+1)) wn Y h) ((Aa0 m).map λi=>D.int ((j+i:Nat):Int)) [y0 (.v (.int (n:Int))),y0 (.own (zdK (Zl n j))),x] h= .next [y0 (.v (.int (n:Int))),y0 (.own (zdK (Zl n n))),x'] h
 | 0,j,x,e=>⟨x,by obtain rfl:j=n:=by omega
                  rfl⟩
 | m+1,j,x,e=>by
  have Rn:=jdI n hn
  have ec:=qa4 k n (Zl n j) h hn (Rn.sml j (by omega)) (Rn.few j (by omega))
  obtain⟨x',q⟩:=jbq hn h m (j+1) (y0 (.v (.int j))) (by omega)
  refine⟨x',?_⟩
  rw [zm,xa rfl ?_,q]
  simp_all [wn,ec]
  rfl
def QW (k n:Nat) (h) (b:n<=4):call prog (k+5) "renamings" [.v (.int (n:Int))] h= .ok (.own (zdK (Zl n n))) h:=by
 rw [Ga rfl _ _ _ rfl]
 have a:=qT k (.int n) h rfl (by simp [wh];omega)
 obtain⟨c,e⟩:=jbq b h n 0 u0 (by omega)
 refine fx (by simp_all [a];rfl) ?_
 refine fx (by simp_all [];rfl) ?_
 rw [za (by
  rw [exec,QF,Qd rfl (by omega),R.toO_ok]
  simp only [Ag8]at e
  exact e)]
 simp_all []
def cd:List (Nat×Nat)->Nat
 | []=>0
 | q::r=>q.2+2 ^ q.1*cd r
def xdV (a:List (Nat×Nat)):Prop:= ∀q∈a,q.2<2 ^ q.1/\q.1<=16
def wS (a:List (Nat×Nat)):Nat:=(a.map (·.1)).sum
theorem xbT: ∀ {ps},xdV ps->cd ps<2 ^ wS ps
 | [],_=>by simp [cd,wS]
 | q::r,h=>by
  have c:=(h q Aa3).1
  have a:=xbT λx b=>h x (Aa2 _ b)
  show q.2+2 ^ q.1*cd r<2 ^ (q.1+wS r)
  rw [Ak9]
  have:2 ^ q.1*(cd r+1)<=2 ^ q.1*2 ^ wS r:=Ad7 (Aa5 _) a
  rw [An6,Nat.mul_one]at this
  omega
def xdy:Nat->Nat->List (Nat×Nat)->Nat
 | t,_,[]=>t
 | t,pl,q::r=>xdy (t ||| q.2*2 ^ pl) (pl+q.1) r
def jci (h:t<2 ^ pl):t ||| p*2 ^ pl=t+p*2 ^ pl:=by
 have:=Nat.two_pow_add_eq_or_of_lt h p
 rw [Ai]at this
 rw [Nat.or_comm,←this,Am9]
theorem jbB: ∀(ps) (t pl),xdV ps->t<2 ^ pl->xdy t pl ps=t+2 ^ pl*cd ps
 | [],t,pl,_,_=>by simp [xdy,cd]
 | q::r,t,pl,h,b=>by
  have c:=(h q Aa3).1
  have a:t+q.2*2 ^ pl<2 ^ (pl+q.1):=by
   rw [Ak9]
   have:2 ^ pl*(q.2+1)<=2 ^ pl*2 ^ q.1:=Ad7 (Aa5 _) c
   rw [An6,Nat.mul_one,Ai (2 ^ pl) q.2]at this
   omega
  rw [xdy,jci b,jbB r _ _ (λx d=>h x (Aa2 _ d)) a,cd,Ak9,An6,Nat.mul_assoc,Ai q.2]
  omega
def dg:List Nat->Nat->List Nat
 | [],_=> []
 | w::a,c=>c % 2 ^ w::dg a (c / 2 ^ w)
theorem ja8: ∀(ws ps),ws.length=ps.length->xdV (ws.zip ps)->dg ws (cd (ws.zip ps))=ps
 | [],[],_,_=>rfl
 | w::ws,p::ps,b,h=>by
  have a:=(h (w,p) Aa3).1
  have e:(p+2 ^ w*cd (ws.zip ps)) % 2 ^ w=p:=by rw [Nat.add_mul_mod_self_left,Nat.mod_eq_of_lt a]
  have d:(p+2 ^ w*cd (ws.zip ps)) / 2 ^ w=cd (ws.zip ps):=by
   rw [Nat.add_mul_div_left _ _ (Ai8 (by decide)),Nat.div_eq_of_lt a,Ag8]
  show(p+2 ^ w*cd (ws.zip ps)) % 2 ^ w::dg ws ((p+2 ^ w*cd (ws.zip ps)) / 2 ^ w)=p::ps
  rw [e,d,ja8 ws ps (by simpa using b) λx c=>h x (Aa2 _ c)]
def zbs {ws a b:List Nat}(h1:ws.length=a.length) (h2:ws.length=b.length) (k1:xdV (ws.zip a)) (k2:xdV (ws.zip b)) (e:cd (ws.zip a)=cd (ws.zip b)):a=b:=by
 rw [← ja8 ws a h1 k1,e,ja8 ws b h2 k2]
theorem jY (x y): ∀ a b,a.length=b.length->KU (a++ [x]) (b++ [y])=if a=b then v9 (x<y)else KU a b
 | [],[],_=>by
  show(if x=y then y9 else v9 (x<y))=_
  rw [if_pos rfl]
  by_cases q:x=y
  ·rw [if_pos q,q];simp
  ·rw [if_neg q]
 | c::a,d::b,h=>by
  have f:=jY x y a b (by simpa using h)
  show(if c=d then KU (a++ [x]) (b++ [y])else v9 (c<d))=_
  rw [f]
  by_cases q:c=d
  ·subst q
   by_cases e:a=b
   ·rw [if_pos rfl,if_pos e,if_pos (by rw [e])]
   ·rw [if_pos rfl,if_neg e,if_neg (λz=>e (List.cons.inj z).2)]
    show _=(if c=c then KU a b else _)
    rw [if_pos rfl]
  ·rw [if_neg q,if_neg (λz=>q (List.cons.inj z).1)]
   show _=(if c=d then KU a b else _)
   rw [if_neg q]
def int_inj :wc a=wc b↔a=b:=by
 constructor
 ·intro h
  refine List.map_inj_right (λx y e=>by have e:=e;omega) |>.mp h
 ·rintro rfl;rfl
theorem xby: ∀(ws c b:List Nat),ws.length=c.length->ws.length=b.length->xdV (ws.zip c)->xdV (ws.zip b)->KU (wc c.reverse) (wc b.reverse)=v9 (cd (ws.zip c)<cd (ws.zip b))
 | [],[],[],_,_,_,_=>by simp [wc,KU,cd]
 | w::ws,p::c,q::b,n,k,j,h=>by
  have r:p<2 ^ w:=(j (w,p) Aa3).1
  have s:q<2 ^ w:=(h (w,q) Aa3).1
  have f:=by simpa using n
  have l2:=by simpa using k
  have g:=λx d=>j x (Aa2 _ d)
  have i:=λx d=>h x (Aa2 _ d)
  have m:=xby ws c b f l2 g i
  have l:wc (p::c).reverse=wc c.reverse++ [(p:Int)]:=by simp [wc]
  have o:wc (q::b).reverse=wc b.reverse++ [(q:Int)]:=by simp [wc]
  rw [l,o,jY _ _ _ _ (by simp [wc];omega),m]
  show _=v9 (p+2 ^ w*cd (ws.zip c)<q+2 ^ w*cd (ws.zip b))
  by_cases e:wc c.reverse=wc b.reverse
  ·rw [if_pos e]
   have:c=b:=List.reverse_inj.mp (int_inj.mp e)
   rw [this]
   exact decide_eq_decide.mpr (by omega)
  ·rw [if_neg e]
   have ne:=λz=>e (by rw [zbs f l2 g i z])
   refine decide_eq_decide.mpr ⟨λz=> ?_,λz=> ?_⟩
   ·have:2 ^ w*(cd (ws.zip c)+1)<=2 ^ w*cd (ws.zip b):=Ad7 (Aa5 _) z
    rw [An6,Nat.mul_one]at this
    omega
   ·rcases Nat.lt_or_gt_of_ne ne with a | a
    ·exact a
    ·have:2 ^ w*(cd (ws.zip b)+1)<=2 ^ w*cd (ws.zip c):=Ad7 (Aa5 _) a
     rw [An6,Nat.mul_one]at this
     omega
def qdM (n K T:Nat):List Nat:=Ab K n++Ab T (n*n)
def Cw (n:Nat) (ks ts:List Nat):Nat:=cd ((qdM n ks.length ts.length).zip (ks++ts))
structure Wl (n:Nat) (ks ts:List Nat):Prop where
 n4:n<=4
 k4:ks.length<=4
 t4:ts.length<=4
 bk: ∀x∈ks,x<2 ^ n
 bt: ∀x∈ts,x<2 ^ (n*n)
def zo (n K T):(qdM n K T).length=K+T:=by simp [qdM]
def zbv (n) (ks ts:List Nat):(qdM n ks.length ts.length).zip (ks++ts)=ks.map (λx=>(n,x))++ts.map (λx=>(n*n,x)):=by
 have h: ∀(w:Nat) (l:List Nat),(Ab l.length w).zip l=l.map λx=>(w,x):=λw l=>by
  induction l with
  | nil=>rfl
  | cons x l a=>simp [Ac7,a]
 rw [qdM,List.zip_append (by simp),h,h]
def Wl.ok (g:Wl n ks ts):xdV ((qdM n ks.length ts.length).zip (ks++ts)):=by
 rw [zbv]
 have hn:=g.n4
 have b:=Ad7 hn hn
 intro q a
 rcases Af2.mp a with a | a
 ·obtain⟨x,c,rfl⟩:=Ac.mp a
  exact⟨g.bk x c,by show n<=16;omega⟩
 ·obtain⟨x,c,rfl⟩:=Ac.mp a
  exact⟨g.bt x c,b⟩
def Wl.mv (g:Wl n ks ts) (q:Od n o):Wl n (ks.map (kM n o)) (ts.map (tK n o)):=
 ⟨g.n4,by rw [Aa];exact g.k4,by rw [Aa];exact g.t4,λx a=>by
   obtain⟨y,_,rfl⟩:=Ac.mp a
   exact jba q y,λx a=>by
   obtain⟨y,_,rfl⟩:=Ac.mp a
   exact jbd q y⟩
def qbs (g:Wl n ks ts) (c:Wl n ks' ts') (h1:ks.length=ks'.length) (h2:ts.length=ts'.length) (e:Cw n ks ts=Cw n ks' ts'):ks=ks'/\ts=ts':=by
 unfold Cw at e
 have b:=g.ok
 have a:=c.ok
 rw [← h1,←h2]at e a
 have:=zbs (by rw [zo];simp) (by rw [zo];simp;omega) b a e
 exact List.append_inj this h1
theorem qat (n): ∀ j l,l.length=j->l.Nodup->(∀ x∈l,x<n)->l∈Zl n j
 | 0,l,a,_,_=>by
  rw [Ah5 a];simp [Zl]
 | j+1,l,a,hn,c=>by
  rcases List.eq_nil_or_concat l with rfl | ⟨r,x,rfl⟩
  ·simp at a
  ·rw [List.concat_eq_append]at*
   have b:=List.nodup_append.mp hn
   have e:=qat n j r (by simpa using a) b.1 λy d=>c y (Ac9 _ d)
   show r++ [x]∈Xx n (Zl n j)
   unfold Xx
   rw [List.mem_flatMap]
   refine⟨r,e,Ac.mpr ⟨x,Ae1.mpr ⟨Ab3.mpr (c x (by simp)),?_⟩,rfl⟩⟩
   have:x∉r:=λz=>b.2.2 x z x (by simp) rfl
   simpa using this
def xa4: ∀n,n<5->((Zl n n).all λr=>r.isPerm (Aa0 n))=true:=by decide +kernel
def Qj (b:n<=4) (r):r∈Zl n n↔Od n r:=by
 constructor
 ·intro h
  exact⟨List.isPerm_iff.mp (Ad3.mp (xa4 n (by omega)) r h)⟩
 ·intro q
  exact qat n n r q.len (q.p.nodup_iff.mpr Ak0) λx a=>q.mem a
structure Ls (n:Nat) (ks ts ks' ts':List Nat):Prop where
 o: ∃r,Od n r/\ks'=ks.map (kM n r)/\ts'=ts.map (tK n r)
 le: ∀r,Od n r->Cw n ks' ts'<=Cw n (ks.map (kM n r)) (ts.map (tK n r))
def Ls.wl (h:Ls n ks ts ks' ts') (g:Wl n ks ts):Wl n ks' ts':=by
 obtain⟨r,q,rfl,rfl⟩:=h.o
 exact g.mv q
def Ls.uniq (g:Wl n ks ts) (h:Ls n ks ts a b) (h':Ls n ks ts a' b'):a=a'/\b=b':=by
 obtain⟨r,q,i,f⟩:=h.o
 obtain⟨k,j,c,d⟩:=h'.o
 have e:=h.le k j
 have l2:=h'.le r q
 rw [← c,←d]at e
 rw [← i,←f]at l2
 refine qbs (h.wl g) (h'.wl g) ?_ ?_ (Nat.le_antisymm e l2)
 ·rw [i,c,Aa,Aa]
 ·rw [f,d,Aa,Aa]
def jaU {ks ts r o:List Nat}(q:Od n r) (p:Od n o):(ks.map (kM n o)).map (kM n r)=ks.map (kM n (o.map (pm r)))/\(ts.map (tK n o)).map (tK n r)=ts.map (tK n (o.map (pm r))):=
 ⟨by rw [Ac6];exact Ae λx _=>xcv q p x,by rw [Ac6];exact Ae λx _=>jcc q p x⟩
def Od.rev (q:Od n o): ∃p,Od n p/\ ∀a,a<n->pm p (pm o a)=a:=by
 have g: ∀b,∃a,b<n->a<n/\pm o a=b:=λb=>by
  by_cases c:b<n
  ·obtain⟨a,h⟩:=q.onto c
   exact⟨a,λ_=>h⟩
  ·exact⟨0,λz=>absurd z c⟩
 let f:=λb=>Ah0 (g b)
 have e:=λb c=>Af9 (g b) c
 have j:((Aa0 n).map f).length=n:=by simp
 have c: ∀a,a<n->pm ((Aa0 n).map f) (pm o a)=a:=λa i=>by
  have d:=q.lt i
  rw [Qr (by rw [j];exact d),Ai6,Ai9]
  exact(q.inj (e _ d).1 i).mp (e _ d).2
 exact⟨_,Od.inv q j c,c⟩
def wK (g:Wl n ks ts) (q:Od n o) (r:Od n p) (h: ∀a,a<n->pm p (pm o a)=a):(ks.map (kM n o)).map (kM n p)=ks/\(ts.map (tK n o)).map (tK n p)=ts:=by
 constructor
 ·rw [Ac6]
  exact(Ae λx b=>jcX q r h (g.bk x b)).trans (List.map_id _)
 ·rw [Ac6]
  exact(Ae λx b=>xcR q r h (g.bt x b)).trans (List.map_id _)
def Ls.mv {ks ts a b o:List Nat}(g:Wl n ks ts) (q:Od n o) (h:Ls n ks ts a b):Ls n (ks.map (kM n o)) (ts.map (tK n o)) a b:=by
 obtain⟨p,c,l⟩:=q.rev
 obtain⟨r,d,rfl,rfl⟩:=h.o
 obtain⟨i,k⟩:=wK g q c l
 refine⟨⟨p.map (pm r),Od.then d c,?_,?_⟩,λs e=> ?_⟩
 ·rw [← (jaU (ts:= []) d c).1,i]
 ·rw [← (jaU (ks:= []) d c).2,k]
 ·obtain⟨f,j⟩:=jaU e q
  rw [f,j]
  exact h.le _ (Od.then e q)
def Ls.self (g:Wl n ks ts) (h:Ls n ks ts a b):Ls n a b a b:=by
 obtain⟨r,q,rfl,rfl⟩:=h.o
 exact h.mv g q
abbrev xdu (A B:List D):D:= .tup [.tup A,.tup B]
def qdf (x:D) (m):(Ab m [x]).flatten=Ab m x:=by
 induction m with
 | zero=>rfl
 | succ m a=>rw [Ac7,Aj5,a];rfl
def zam (x) (m:Nat) (a:m<=1000) (h):Pb .mul (.own [x]) (.v (.int (m:Int))) h= .ok (.own (Ab m x)) h:=by
 show Pp [x] m h=_
 have c: -1000<=(m:Int)/\(m:Int)<=1000/\ [x].length*(m:Int).toNat<=LIM:=by rw [Gi,Ag];simp;omega
 rw [Pp,if_pos c,Ag,qdf]
def xcV (n K T):xdO (qdM n K T)=Ab K (.int (n:Int))++Ab T (.int ((n*n:Nat):Int)):=by simp [qdM]
def JL (k n:Nat) (A B) (h) (g:n<=4) (f:A.length<=4) (e:B.length<=4):call prog (k+1) "widths" [.v (xdu A B),.v (.int (n:Int))] h= .ok (.own (xdO (qdM n A.length B.length))) h:=by
 rw [Ga rfl _ _ _ rfl]
 have b:=Xc n n (by omega)
 have a:=zam (.int n) A.length (by omega) h
 have c:=zam (.int (n*n:Nat)) B.length (by omega) h
 have d:(Ab A.length (D.int n)).length+(Ab B.length (D.int (n*n:Nat))).length<=LIM:=by rw [Gi];simp;omega
 rw [xcV]
 simp only [KL]
 simp_all [ix_tup,zE,Wx,Zn,a,b,c,qaP,d,if_true]
theorem XW (x): ∀m,(Ab m x).sum=m*x
 | 0=>by simp
 | m+1=>by rw [Ac7,Ai0,XW x m,Al5,Am9]
def xbx (n K T):(qdM n K T).sum=K*n+T*(n*n):=by rw [qdM,List.sum_append,XW,XW]
def jaK (k n:Nat) (A B) (h) (e:n<=4) (b:A.length<=4) (a:B.length<=4):call prog (k+2) "bits" [.v (xdu A B),.v (.int (n:Int))] h= .ok (.v (.int (((qdM n A.length B.length).sum:Nat):Int))) h:=by
 rw [Ga rfl _ _ _ rfl]
 have d:=JL k n A B h e b a
 have c:(xdO (qdM n A.length B.length)).length<=LIM:=by rw [Gi,Aa,zo];omega
 simp only [K6]
 simp_all [d,wW,c,if_true,zJ]
abbrev xdT (a:List (Nat×Nat)):List D:=a.map λq=> .tup [.int (q.1:Nat),.int (q.2:Nat)]
theorem xak (h): ∀ c (t pl:Nat) b d,xdV c->pl+c.length*16<=1000-> ∃a g f,
 Gq (Gp [4,5] y9) (λY h=>execs F wH Y h) (xdT c) [x0,x1,y0 (.v (.int (t:Int))),y0 (.v (.int (pl:Int))),b,d] h= .next [x0,x1,y0 (.v (.int ((xdy t pl c:Nat):Int))),a,g,f] h
 | [],t,pl,b,d,_,_=>⟨_,b,d,rfl⟩
 | q::r,t,pl,b,d,ok,n=>by
  obtain⟨o,p⟩:=ok q Aa3
  rw [Ab9]at n
  obtain⟨a,g,f,e⟩:=xak h r (t ||| q.2*2 ^ pl) (pl+q.1) (y0 (.v (.int q.1))) (y0 (.v (.int q.2))) (λx j=>ok x (Aa2 _ j)) (by omega)
  refine⟨a,g,f,?_⟩
  have m:q.2<2 ^ 64:=Ab0 o (Ad0 (by decide) (by omega))
  have l:=jaC q.2 pl m (by omega)
  have k:=Wz t (q.2*2 ^ pl)
  have i: pl+ (q.1:Nat)=((pl+q.1:Nat):Int):=rfl
  rw [show xdT (q::r)= .tup [.int q.1,.int q.2]::xdT r from rfl,xa rfl ?_,e]
  ·rfl
  ·simp_all [wH,l,zB,k,wd,i]
def jcY (ws ps):((xdO ws).zip (xdO ps)).map (λp=>D.tup [p.1,p.2])=xdT (ws.zip ps):=by
 rw [xdO,xdO,List.zip_map,Ac6,xdT]
 rfl
def qcd (k n) (A B) (ks ts) (h) (g:Wl n ks ts) (d:A.length=ks.length) (c:B.length=ts.length):call prog (k+2) "code" [.v (xdu A B),.v (Wc n ks ts)] h= .ok (.v (.int ((Cw n ks ts:Nat):Int))) h:=by
 rw [Ga rfl _ _ _ rfl]
 have t:=g.k4
 have q:=g.t4
 have l:=JL k n A B h g.n4 (by omega) (by omega)
 have i:(xdO ks).length+(xdO ts).length<=LIM:=by rw [Gi,Aa,Aa];omega
 have a:Pb .add (.v (.tup (xdO ks))) (.v (.tup (xdO ts))) h= .ok (.v (.tup (xdO (ks++ts)))) h:=by rw [wz,if_pos i,←Ac8]
 obtain⟨o,s,r,e⟩:=xak h ((qdM n ks.length ts.length).zip (ks++ts)) 0 0 u0 u0 g.ok (by
  rw [Ak5,zo]
  have:min (ks.length+ts.length) (ks++ts).length<=8:=by simp;omega
  omega)
 rw [jbB _ _ _ g.ok (by decide)]at e
 have m:0+2 ^ 0*cd ((qdM n ks.length ts.length).zip (ks++ts))=Cw n ks ts:=by unfold Cw;omega
 rw [m]at e
 simp only [KZ]
 refine fx (by simp_all [];rfl) ?_
 refine fx (by simp_all [];rfl) ?_
 have p:Gu (u9 (k+1)) (.zip (.call "widths" (.cons (.var 0) (.cons (.ix (.var 1) (.int 0)) .nil))) (.bin .add (.ix (.var 1) (.int 1)) (.ix (.var 1) (.int 2)))) [some (.v (xdu A B)),some (.v (Wc n ks ts)),some (.v (.int 0)),some (.v (.int 0)),none,none] h= .ok (xdT ((qdM n ks.length ts.length).zip (ks++ts))) h:=by
  have f:eval (u9 (k+1)) (.call "widths" (.cons (.var 0) (.cons (.ix (.var 1) (.int 0)) .nil))) [some (.v (xdu A B)),some (.v (Wc n ks ts)),some (.v (.int 0)),some (.v (.int 0)),none,none] h= .ok (.own (xdO (qdM n ks.length ts.length))) h:=by
   rw [← d,←c]
   simp_all [ix_tup,xaw,l]
  have a2:eval (u9 (k+1)) (.bin .add (.ix (.var 1) (.int 1)) (.ix (.var 1) (.int 2))) [y0 (.v (xdu A B)),y0 (.v (Wc n ks ts)),y0 (.v (.int 0)),y0 (.v (.int 0)),u0,u0] h= .ok (.v (.tup (xdO (ks++ts)))) h:=by
   have b:atI [D.int (n:Int),D.tup (xdO ks),D.tup (xdO ts)] 1=y0 (.tup (xdO ks)):=rfl
   have j:atI [D.int (n:Int),D.tup (xdO ks),D.tup (xdO ts)] 2=y0 (.tup (xdO ts)):=rfl
   simp_all [ix_tup,b,j,a]
  rw [← jcY]
  show(eval _ _ _ h).bind _=_
  rw [f,R.bind_ok,a2]
  rfl
 rw [za (by
  rw [exec,p,R.toO_ok]
  exact e)]
 simp_all []
theorem jcd (h): ∀ ws (c:Nat) a b,(∀ w∈ws,w<=16)->a.length+ws.length<=1000-> ∃f d,
 Gq (Gp [5] k9) (λY h=>execs F Zo Y h) (xdO ws) [x0,x1,x2,y0 (.own (xdO a)),y0 (.v (.int (c:Int))),b,x6] h= .next [x0,x1,x2,y0 (.own (xdO (a++dg ws c))),f,d,x6] h
 | [],c,a,b,_,_=>⟨y0 (.v (.int c)),b,by simp [dg]⟩
 | w::ws,c,a,b,g,p=>by
  rw [Ab9]at p
  have n:=g w Aa3
  obtain⟨f,d,e⟩:=jcd h ws (c / 2 ^ w) (a++ [c % 2 ^ w]) (y0 (.v (.int w))) (λx q=>g x (Aa2 _ q)) (by simp;omega)
  refine⟨f,d,?_⟩
  have l:=Z9 w (by omega)
  have r:0<2 ^ w:=Ai8 (by decide)
  have k:((2 ^ w:Nat))-1=((2 ^ w-1:Nat):Int):=by omega
  have i:=Xo c (2 ^ w-1)
  rw [Ak]at i
  have o:=Zz c w
  have m:(xdO a).length<LIM:=by rw [Gi,Aa];omega
  have j:xdO (a++ [c % 2 ^ w])=xdO a++ [.int ((c % 2 ^ w:Nat))]:=by simp
  rw [show xdO (w::ws)= .int w::xdO ws from rfl,xa rfl ?_,e,Ae9]
  ·rfl
  ·rw [j]
   simp_all [Zo,l,Qs,k,Wm,i,m,if_true,o]
def X6 (k n) (A B) (ks ts) (h) (g:Wl n ks ts) (c:A.length=ks.length) (m:B.length=ts.length):call prog (k+5) "world_of" [.v (xdu A B),.v (.int (n:Int)),.v (.int ((Cw n ks ts:Nat):Int))] h= .ok (.v (Wc n ks ts)) h:=by
 rw [Ga rfl _ _ _ rfl]
 have hn:=g.n4
 have j:=g.k4
 have o:=g.t4
 have b:n*n<=16:=Ad7 hn hn
 have t:=qT k (.int (n:Int)) h rfl (by simp [wh];omega)
 have d:=jaK (k+2) n A B h hn (by omega) (by omega)
 have a:=JL (k+3) n A B h hn (by omega) (by omega)
 rw [c,m]at d a
 have v:(qdM n ks.length ts.length).sum<=100:=by
  rw [xbx]
  have x:ks.length*n<=4*4:=Ad7 j hn
  have a2:ts.length*(n*n)<=4*16:=Ad7 o b
  omega
 have p:=Z9 (qdM n ks.length ts.length).sum (by omega)
 have lt:Cw n ks ts<2 ^ (qdM n ks.length ts.length).sum:=by
  have:=xbT g.ok
  have e:wS ((qdM n ks.length ts.length).zip (ks++ts))=(qdM n ks.length ts.length).sum:=by
   rw [wS,←List.unzip_fst,List.unzip_zip_left (by rw [zo];simp)]
  rw [e]at this
  exact this
 have i:=zw (k+2) (.int ((Cw n ks ts:Nat):Int)) ((2 ^ (qdM n ks.length ts.length).sum:Nat):Int) h rfl
 have u:wh (.int ((Cw n ks ts:Nat):Int)) ((2 ^ (qdM n ks.length ts.length).sum:Nat):Int)=true:=by
  simp only [wh,Aa7,decide_eq_true_eq];omega
 rw [u]at i
 obtain⟨z,y,e⟩:=jcd h (qdM n ks.length ts.length) (Cw n ks ts) [] u0 (λw a=>by
  rcases Af2.mp a with a | a
  ·rw [(Al1.mp a).2];omega
  ·rw [(Al1.mp a).2];exact b) (by rw [zo];simp;omega)
 rw [Af0,show dg (qdM n ks.length ts.length) (Cw n ks ts)=ks++ts from ja8 _ _ (by rw [zo];simp) g.ok]at e
 simp only [Ki]
 refine fx (by simp_all [t];rfl) ?_
 rw [Za (by simp_all [d,p,i])]
 refine fx (by simp_all [];rfl) ?_
 refine fx (by simp_all [];rfl) ?_
 have q:eval (u9 (k+4)) (.call "widths" (.cons (.var 0) (.cons (.var 1) .nil))) [some (.v (xdu A B)),some (.v (.int (n:Int))),some (.v (.int ((Cw n ks ts:Nat):Int))),some (.own []),some (.v (.int ((Cw n ks ts:Nat):Int))),none,none] h= .ok (.own (xdO (qdM n ks.length ts.length))) h:=by
  simp_all [a]
 rw [za (by
  simp only [exec,Gu,GV,q,R.bind_ok,KA,R.of_some,R.toO_ok]
  exact e)]
 have l:=qZ (xdO (ks++ts)) A.length
 have f:=qa3 (xdO (ks++ts)) A.length (by simp;omega)
 have r:(xdO (ks++ts)).take A.length=xdO ks:=by rw [c,xdO,Ac8,List.take_left' (by simp)]
 have s:(xdO (ks++ts)).drop A.length=xdO ts:=by rw [c,xdO,Ac8,List.drop_left' (by simp)]
 rw [r]at l
 rw [s]at f
 refine fx (by simp_all [ix_tup,zE,Zn];rfl) ?_
 rw [Zb (w:= .v (Wc n ks ts)) (h1:=h) (xc rfl (by simp_all [xb9,l,f,zA]))]
 exact Gb _ _ _ rfl
section
variable {n:Nat}{ks ts:List Nat}{A B:List D}(g:Wl n ks ts) (hA:A.length=ks.length) (hB:B.length=ts.length)
include g
def qcF:Zl n n≠ []:=λz=>by
 have hn:=g.n4
 have:Aa0 n∈Zl n n:=(Qj hn _).mpr ⟨List.Perm.refl _⟩
 rw [z]at this
 cases this
include hA hB
def xbZ (k) (h):call prog (k+6) "codes_alike" [.v (xdu A B),.v (Wc n ks ts)] h= .ok (.own (xdO ((Zl n n).map fun r=>Cw n (ks.map (kM n r)) (ts.map (tK n r))))) h:=by
 rw [Ga rfl _ _ _ rfl]
 have hn:=g.n4
 have i:=g.k4
 have f:=g.t4
 have c:=QW k n h hn
 have d:=(jdI n hn).few n (Aa5 _)
 have e:eval (u9 (k+5)) jp [y0 (.v (xdu A B)),y0 (.v (Wc n ks ts))] h= .ok (.own ((Zl n n).map λr=> .int ((Cw n (ks.map (kM n r)) (ts.map (tK n r)):Nat)))) h:=by
  refine Qe (λr=> .tup (xdO r)) _ (Zl n n) (jZ (by simp_all [ix_tup,xaw,c])) (by omega) λr a=>⟨.v (.int ((Cw n (ks.map (kM n r)) (ts.map (tK n r)):Nat))),?_,rfl⟩
  have q:=(Qj hn r).mp a
  have b:=zaC (k+1) q hn ks ts (by omega) (by omega) (xdu A B) h
  have a2:=qcd (k+3) n A B _ _ h (g.mv q) (by rw [Aa];exact hA) (by rw [Aa];exact hB)
  simp_all [b,a2]
 simp only [GJ]
 rw [Zb (w:= .own (xdO ((Zl n n).map λr=>Cw n (ks.map (kM n r)) (ts.map (tK n r))))) (Wv rfl (by rw [xdO,Ac6];exact e))]
 exact Gw _ _ _ rfl
end
theorem zb2: ∀a b:List Nat,Ks (xdO a) (xdO b)=v9 (a=b)
 | [],[]=>rfl
 | [],_::_=>rfl
 | _::_,[]=>rfl
 | x::a,y::b=>by
  show((x==(y:Int))&&Ks (xdO a) (xdO b))=_
  rw [zb2 a b,Ad8]
  simp only [Aa7,beq_iff_eq,decide_eq_true_eq,List.cons.injEq]
  exact and_congr (by omega) Iff.rfl
def xm (n) (ks ts):Gc (Wc n ks ts)=true:=by
 show(k9&&(Gd (xdO ks)&&(Gd (xdO ts)&&k9)))=k9
 rw [xY,xY];rfl
def jaA (n) (ks ts):dep (Wc n ks ts)<=2:=by
 have b:=jap ks
 have a:=jap ts
 show max 0 (max (Kz (xdO ks)+1) (max (Kz (xdO ts)+1) 0))+1<=2
 omega
def xcm (n a) (ks ts ks' ts') (h):GD .eq (.v (Wc n ks ts)) (.v (Wc a ks' ts')) h=y0 (v9 (n=a/\ks=ks'/\ts=ts')):=by
 have d:=jaA n ks ts
 rw [zak,W.dd_v,W.dd_v,qO (xm ..),qO (xm ..),if_pos (by rw [KQ,xm,xm,decide_eq_true (by omega)];rfl)]
 congr 1
 show((n==(a:Int))&&(Ks (xdO ks) (xdO ks')&&(Ks (xdO ts) (xdO ts')&&k9)))=_
 rw [zb2,zb2,Bool.and_true,Ad8]
 simp only [Aa7,beq_iff_eq,decide_eq_true_eq]
 exact and_congr (by omega) Iff.rfl
noncomputable abbrev xdw (n:Nat) (x1:Option W) (x2:Option W) (a:List (List Nat)) (c b:Option W):Sl:= [y0 (.v (.int (n:Int))),x1,x2,y0 (.own (zdK a)),c,b]
theorem zaF (g:r.length<=4) (h): ∀ m i a d,i+m=n->a.length+m<=1000-> ∃b,
 Gq (Gp [5] k9) (λY h=>execs F Qg Y h) ((Aa0 m).map λj=>D.int ((i+j:Nat):Int)) (xdw n x1 x2 a (y0 (.v (.tup (xdO r)))) d) h= .next (xdw n x1 x2 (a++(((Aa0 m).map (i+ ·)).filter λx=> !v9 (x∈r)).map λx=>r++ [x]) (y0 (.v (.tup (xdO r)))) b) h
 | 0,i,a,d,_,_=>⟨d,by simp⟩
 | m+1,i,a,d,e,s=>by
  have p:=jca i r h
  have k:(Aa0 (m+1)).map (i+ ·)=i::(Aa0 m).map (i+1+ ·):=by
   rw [Af8,Aa9,Ac6]
   congr 1
   exact Ae λx _=>by show i+(x+1)=i+1+x;omega
  have c:Gr F (.cmp .nmem (.var 5) (.var 4)) (xdw n x1 x2 a (y0 (.v (.tup (xdO r)))) (y0 (.v (.int (i:Int))))) h= .ok (!v9 (i∈r)) h:=by
   simp_all [p]
  by_cases q:i∈r
  ·obtain⟨b,z⟩:=zaF (n:=n) g h m (i+1) a (y0 (.v (.int (i:Int)))) (by omega) (by omega)
   refine⟨b,?_⟩
   rw [decide_eq_true q]at c
   rw [k,List.filter_cons_of_neg (by simpa using q),zm,xa (Y1:=xdw n x1 x2 a (y0 (.v (.tup (xdO r)))) (y0 (.v (.int (i:Int))))) rfl ?_,z]
   simp only [Qg]
   rw [Za c]
   rfl
  ·obtain⟨b,z⟩:=zaF (n:=n) (x1:=x1) (x2:=x2) g h m (i+1) (a++ [r++ [i]]) (y0 (.v (.int (i:Int)))) (by omega) (by simp;omega)
   refine⟨b,?_⟩
   rw [decide_eq_false q]at c
   have o:(xdO r).length+ [D.int (i:Int)].length<=LIM:=by rw [Gi,Aa,Ag2];omega
   have f:(zdK a).length<LIM:=by rw [Gi,Aa];omega
   have l:zdK (a++ [r++ [i]])=zdK a++ [.tup (xdO r++ [.int (i:Int)])]:=by simp
   rw [k,List.filter_cons_of_pos (by simpa using q),Aa9,zm,xa (Y1:=xdw n x1 x2 a (y0 (.v (.tup (xdO r)))) (y0 (.v (.int (i:Int))))) (Y2:=xdw n x1 x2 (a++ [r++ [i]]) (y0 (.v (.tup (xdO r)))) (y0 (.v (.int (i:Int))))) (h2:=h) rfl ?_,z,Ae9]
   ·rfl
   ·simp only [Qg,zb]
    rw [qv c]
    simp only [xdw,l]
    simp_all [wz,o,if_true,f]
theorem zab (g:n<=4) (h): ∀ rows a c b,(∀ r∈rows,r.length<=4)->a.length+rows.length*4<=1000-> ∃o d,
 Gq (Gp [4] k9) (λY h=>execs F Qk Y h) (zdK rows) (xdw n x1 x2 a c b) h= .next (xdw n x1 x2 (a++Xx n rows) o d) h
 | [],a,c,b,_,_=>⟨c,b,by simp [Xx]⟩
 | r::rows,a,c,b,f,m=>by
  rw [Ab9]at m
  have t:((Aa0 n).filter λx=> !v9 (x∈r)).length<=4:=Ac0 (Ad9 _ _) (by simp;exact g)
  obtain⟨d,e⟩:=zaF (n:=n) (f r Aa3) h n 0 a b (by omega) (by omega)
  have l:(Aa0 n).map (0+ ·)=Aa0 n:=(Ae λx _=>Ag8 x).trans (List.map_id _)
  rw [l]at e
  obtain⟨i,p,q⟩:=zab g h rows (a++((Aa0 n).filter λx=> !v9 (x∈r)).map λx=>r++ [x]) (y0 (.v (.tup (xdO r)))) d (λs j=>f s (Aa2 _ j)) (by rw [Ab1,Aa];omega)
  refine⟨i,p,?_⟩
  have k:Xx n (r::rows)=(((Aa0 n).filter λx=> !v9 (x∈r)).map λx=>r++ [x])++Xx n rows:=rfl
  rw [show zdK (r::rows)= .tup (xdO r)::zdK rows from rfl,xa rfl (by
   simp only [Qk,zb]
   rw [exec,QF,Qd rfl (by omega),R.toO_ok]
   simp only [Ag8]at e
   exact e),q,k,Ae9]
theorem qbz (hn:n<=4) (h): ∀(m j:Nat) x2 x3 x4 x5,j+m=n-> ∃y2 y3 y4 y5,
 Gq (Gp [2] k9) (λY h=>execs (u9 k) Wr Y h) ((Aa0 m).map λi=>D.int ((j+i:Nat):Int)) [y0 (.v (.int (n:Int))),y0 (.own (zdK (Zl n j))),x2,x3,x4,x5] h= .next [y0 (.v (.int (n:Int))),y0 (.own (zdK (Zl n n))),y2,y3,y4,y5] h
 | 0,j,x2,x3,x4,x5,e=>⟨x2,x3,x4,x5,by obtain rfl:j=n:=by omega
                                      rfl⟩
 | m+1,j,x2,x3,x4,x5,e=>by
  have Rn:=jdI n hn
  obtain⟨y4,y5,q⟩:=zab hn h (Zl n j) [] x4 x5 (Rn.sml j (by omega)) (by have:=Rn.few j (by omega);simp;omega)
  obtain⟨z2,z3,z4,z5,q2⟩:=qbz hn h m (j+1) (y0 (.v (.int j))) u0 y4 y5 (by omega)
  refine⟨z2,z3,z4,z5,?_⟩
  rw [zm,xa rfl ?_,q2]
  refine(za (by simp_all [];rfl)).trans ?_
  refine(za (by simp_all [];rfl)).trans ?_
  rw [za (by
   exact q)]
  rfl
def qaX (k n:Nat) (h) (a:n<=4):call prog (k+1) "_law_orders" [.v (.int (n:Int))] h= .ok (.own (zdK (Zl n n))) h:=by
 rw [Ga rfl _ _ _ rfl]
 obtain⟨f,d,b,c,e⟩:=qbz a h n 0 u0 u0 u0 u0 (by omega)
 refine fx (by simp_all [];rfl) ?_
 rw [za (by
  rw [exec,QF,Qd rfl (by omega),R.toO_ok]
  simp only [Ag8]at e
  exact e)]
 simp_all []
section
variable {n:Nat}{ks ts:List Nat}(g:Wl n ks ts){n2:Nat}{ks2 ts2:List Nat}
include g
def xE (ks ts:List Nat):List D:=xdO (ks++ts).reverse
omit g in
theorem xbu (a b:List Nat):(xdO b).reverse++(xdO a).reverse=xE a b:=by
 unfold xE
 rw [List.reverse_append,xdO,xdO,xdO,Ac8,List.map_reverse,List.map_reverse]
theorem WH (h): ∀ rows d l j i,(∀ r∈rows,Od n r)->Od n d-> ∃r v w u,Od n r/\Cw n (ks.map (kM n r)) (ts.map (tK n r))<=Cw n (ks.map (kM n d)) (ts.map (tK n d))/\(∀ s∈rows,Cw n (ks.map (kM n r)) (ts.map (tK n r))<=Cw n (ks.map (kM n s)) (ts.map (tK n s))) ∧
 Gq (Gp [5] k9) (λY h=>execs (u9 (k+2)) Wd Y h) (zdK rows) [y0 (.v (Wc n ks ts)),x1,x2,x3,y0 (.v (.tup [.lst (xE (ks.map (kM n d)) (ts.map (tK n d))),Wc n (ks.map (kM n d)) (ts.map (tK n d))])),l,j,i] h= .next [y0 (.v (Wc n ks ts)),x1,x2,x3,y0 (.v (.tup [.lst (xE (ks.map (kM n r)) (ts.map (tK n r))),Wc n (ks.map (kM n r)) (ts.map (tK n r))])),v,w,u] h
 | [],d,l,j,i,_,y=>⟨d,l,j,i,y,Aa5 _,(λ_ h=>by cases h),rfl⟩
 | s::rows,d,l,j,i,A,y=>by
  have B:=g.k4
  have O:=g.t4
  have z:=A s Aa3
  have I:=zcv z g.n4 k ks ts (by omega) (by omega) h
  have G:atI [D.int (n:Int),D.tup (xdO (ks.map (kM n s))),D.tup (xdO (ts.map (tK n s)))] 1=y0 (.tup (xdO (ks.map (kM n s)))):=rfl
  have K:atI [D.int (n:Int),D.tup (xdO (ks.map (kM n s))),D.tup (xdO (ts.map (tK n s)))] 2=y0 (.tup (xdO (ts.map (tK n s)))):=rfl
  have J:(xdO (ts.map (tK n s))).reverse.length+(xdO (ks.map (kM n s))).reverse.length<=LIM:=by rw [Gi];simp;omega
  have C:=xby (qdM n ks.length ts.length) (ks.map (kM n s)++ts.map (tK n s)) (ks.map (kM n d)++ts.map (tK n d)) (by rw [zo];simp) (by rw [zo];simp) (by have:=(g.mv z).ok;rw [Aa,Aa]at this;exact this) (by have:=(g.mv y).ok;rw [Aa,Aa]at this;exact this)
  have F:cd ((qdM n ks.length ts.length).zip (ks.map (kM n s)++ts.map (tK n s)))=Cw n (ks.map (kM n s)) (ts.map (tK n s)):=by unfold Cw;rw [Aa,Aa]
  have H:cd ((qdM n ks.length ts.length).zip (ks.map (kM n d)++ts.map (tK n d)))=Cw n (ks.map (kM n d)) (ts.map (tK n d)):=by unfold Cw;rw [Aa,Aa]
  rw [F,H]at C
  have step: ∀l j i:Option W,execs (u9 (k+2)) Wd [y0 (.v (Wc n ks ts)),x1,x2,x3,y0 (.v (.tup [.lst (xE (ks.map (kM n d)) (ts.map (tK n d))),Wc n (ks.map (kM n d)) (ts.map (tK n d))])),y0 (.v (.tup (xdO s))),j,i] h= .next [y0 (.v (Wc n ks ts)),x1,x2,x3,y0 (.v (if Cw n (ks.map (kM n s)) (ts.map (tK n s))<Cw n (ks.map (kM n d)) (ts.map (tK n d))then .tup [.lst (xE (ks.map (kM n s)) (ts.map (tK n s))),Wc n (ks.map (kM n s)) (ts.map (tK n s))]else .tup [.lst (xE (ks.map (kM n d)) (ts.map (tK n d))),Wc n (ks.map (kM n d)) (ts.map (tK n d))])),y0 (.v (.tup (xdO s))),y0 (.v (Wc n (ks.map (kM n s)) (ts.map (tK n s)))),y0 (.v (.lst (xE (ks.map (kM n s)) (ts.map (tK n s)))))] h:=λl j i=>by
   simp only [Wd]
   rw [za (Y1:= [y0 (.v (Wc n ks ts)),x1,x2,x3,y0 (.v (.tup [.lst (xE (ks.map (kM n d)) (ts.map (tK n d))),Wc n (ks.map (kM n d)) (ts.map (tK n d))])),y0 (.v (.tup (xdO s))),y0 (.v (Wc n (ks.map (kM n s)) (ts.map (tK n s)))),i]) (h1:=h) (by simp_all [I])]
   rw [za (Y1:= [y0 (.v (Wc n ks ts)),x1,x2,x3,y0 (.v (.tup [.lst (xE (ks.map (kM n d)) (ts.map (tK n d))),Wc n (ks.map (kM n d)) (ts.map (tK n d))])),y0 (.v (.tup (xdO s))),y0 (.v (Wc n (ks.map (kM n s)) (ts.map (tK n s)))),y0 (.v (.lst (xE (ks.map (kM n s)) (ts.map (tK n s)))))]) (h1:=h) (by
    rw [← xbu (ks.map (kM n s)) (ts.map (tK n s))]
    have E: ∀p,(W.own p).lst? h=y0 p:=λ_=>rfl
    simp_all [ix_tup,G,K,zY,E,qaP,J,if_true])]
   have N: ∀p,(W.v (D.lst p)).lst? h=y0 p:=λ_=>rfl
   have L:(wc (ks.map (kM n s)++ts.map (tK n s)).reverse).length=(wc (ks.map (kM n d)++ts.map (tK n d)).reverse).length:=by simp [wc]
   have M: ∀a b:List Nat,Kg (xE a b)=y0 (wc (a++b).reverse):=λa b=>JI _
   have x:Gr (u9 (k+2)) (.or (.isn y9 (.var 4)) (.ltL (.var 7) (.ix (.var 4) (.int 0)))) [y0 (.v (Wc n ks ts)),x1,x2,x3,y0 (.v (.tup [.lst (xE (ks.map (kM n d)) (ts.map (tK n d))),Wc n (ks.map (kM n d)) (ts.map (tK n d))])),y0 (.v (.tup (xdO s))),y0 (.v (Wc n (ks.map (kM n s)) (ts.map (tK n s)))),y0 (.v (.lst (xE (ks.map (kM n s)) (ts.map (tK n s)))))] h= .ok (v9 (Cw n (ks.map (kM n s)) (ts.map (tK n s))<Cw n (ks.map (kM n d)) (ts.map (tK n d)))) h:=by
    simp_all [ix_tup,zE,N,M,L,if_true,C]
   rw [zb]
   by_cases c:Cw n (ks.map (kM n s)) (ts.map (tK n s))<Cw n (ks.map (kM n d)) (ts.map (tK n d))
   ·rw [decide_eq_true c]at x
    rw [qv x,if_pos c]
    simp_all []
   ·rw [decide_eq_false c]at x
    rw [jS x,if_neg c]
    rfl
  rw [show zdK (s::rows)= .tup (xdO s)::zdK rows from rfl]
  by_cases c:Cw n (ks.map (kM n s)) (ts.map (tK n s))<Cw n (ks.map (kM n d)) (ts.map (tK n d))
  ·obtain⟨r,v,w,u,q,m,le,e⟩:=WH h rows s (y0 (.v (.tup (xdO s)))) (y0 (.v (Wc n (ks.map (kM n s)) (ts.map (tK n s))))) (y0 (.v (.lst (xE (ks.map (kM n s)) (ts.map (tK n s)))))) (λt f=>A t (Aa2 _ f)) z
   have o:=step l j i
   rw [if_pos c]at o
   refine⟨r,v,w,u,q,by omega,λt f=> ?_,by rw [xa rfl o,e]⟩
   rcases Ab4.mp f with rfl | f
   ·exact m
   ·exact le t f
  ·obtain⟨r,v,w,u,q,m,le,e⟩:=WH h rows d (y0 (.v (.tup (xdO s)))) (y0 (.v (Wc n (ks.map (kM n s)) (ts.map (tK n s))))) (y0 (.v (.lst (xE (ks.map (kM n s)) (ts.map (tK n s)))))) (λt f=>A t (Aa2 _ f)) y
   have o:=step l j i
   rw [if_neg c]at o
   refine⟨r,v,w,u,q,m,λt f=> ?_,by rw [xa rfl o,e]⟩
   rcases Ab4.mp f with rfl | f
   ·omega
   ·exact le t f
end
section
variable {n:Nat}{ks ts:List Nat}(g:Wl n ks ts)
include g
def zaw (k) (h): ∃a b,Ls n ks ts a b/\call prog (k+3) "_law_least" [.v (Wc n ks ts)] h= .ok (.v (Wc n a b)) h:=by
 have hn:=g.n4
 have j:=g.k4
 have z:=g.t4
 have p:=qaX (k+1) n h hn
 have all: ∀r∈Zl n n,Od n r:=λr c=>(Qj hn r).mp c
 have f:=qcF g
 cases d:Zl n n with
 | nil=>exact absurd d f
 | cons s rows=>
  rw [d]at all p
  have l:=all s Aa3
  obtain⟨r,G,H,F,q,i,le,e⟩:=WH g h rows s (y0 (.v (.tup (xdO s)))) (y0 (.v (Wc n (ks.map (kM n s)) (ts.map (tK n s))))) (y0 (.v (.lst (xE (ks.map (kM n s)) (ts.map (tK n s)))))) (λt v=>all t (Aa2 _ v)) l
  refine⟨_,_,⟨⟨r,q,rfl,rfl⟩,λo y=> ?_⟩,?_⟩
  ·have c:=(Qj hn o).mpr y
   rw [d]at c
   rcases Ab4.mp c with rfl | c
   ·exact i
   ·exact le o c
  ·rw [Ga rfl _ _ _ rfl]
   have A:=zcv l g.n4 k ks ts (by omega) (by omega) h
   have x:atI [D.int (n:Int),D.tup (xdO (ks.map (kM n s))),D.tup (xdO (ts.map (tK n s)))] 1=y0 (.tup (xdO (ks.map (kM n s)))):=rfl
   have C:atI [D.int (n:Int),D.tup (xdO (ks.map (kM n s))),D.tup (xdO (ts.map (tK n s)))] 2=y0 (.tup (xdO (ts.map (tK n s)))):=rfl
   have B:(xdO (ts.map (tK n s))).reverse.length+(xdO (ks.map (kM n s))).reverse.length<=LIM:=by rw [Gi];simp;omega
   have step:execs (u9 (k+2)) Wd [y0 (.v (Wc n ks ts)),y0 (.v (.int (n:Int))),y0 (.v (.tup (xdO ks))),y0 (.v (.tup (xdO ts))),y0 (.v .non),y0 (.v (.tup (xdO s))),u0,u0] h= .next [y0 (.v (Wc n ks ts)),y0 (.v (.int (n:Int))),y0 (.v (.tup (xdO ks))),y0 (.v (.tup (xdO ts))),y0 (.v (.tup [.lst (xE (ks.map (kM n s)) (ts.map (tK n s))),Wc n (ks.map (kM n s)) (ts.map (tK n s))])),y0 (.v (.tup (xdO s))),y0 (.v (Wc n (ks.map (kM n s)) (ts.map (tK n s)))),y0 (.v (.lst (xE (ks.map (kM n s)) (ts.map (tK n s)))))] h:=by
    simp only [Wd]
    refine(za (by simp_all [A];rfl)).trans ?_
    rw [za (Y1:= [y0 (.v (Wc n ks ts)),y0 (.v (.int (n:Int))),y0 (.v (.tup (xdO ks))),y0 (.v (.tup (xdO ts))),y0 (.v .non),y0 (.v (.tup (xdO s))),y0 (.v (Wc n (ks.map (kM n s)) (ts.map (tK n s)))),y0 (.v (.lst (xE (ks.map (kM n s)) (ts.map (tK n s)))))]) (h1:=h) (by
     rw [← xbu (ks.map (kM n s)) (ts.map (tK n s))]
     have u: ∀m,(W.own m).lst? h=y0 m:=λ_=>rfl
     simp_all [ix_tup,x,C,zY,u,qaP,B,if_true])]
    rw [zb,qv (h1:=h) (by simp_all [])]
    simp_all []
   have E:eval (u9 (k+2)) (.call "_law_orders" (.cons (.var 1) .nil)) [some (.v (Wc n ks ts)),some (.v (.int (n:Int))),some (.v (.tup (xdO ks))),some (.v (.tup (xdO ts))),some (.v .non),none,none,none] h= .ok (.own (zdK (s::rows))) h:=by simp_all [p]
   simp only [G8]
   refine fx (by simp_all [];rfl) ?_
   refine fx (by simp_all [];rfl) ?_
   rw [za (by
    simp only [exec,Gu,GV,E,R.bind_ok,KA,R.of_some,R.toO_ok]
    rw [show zdK (s::rows)= .tup (xdO s)::zdK rows from rfl,xa (Y1:= [y0 (.v (Wc n ks ts)),y0 (.v (.int (n:Int))),y0 (.v (.tup (xdO ks))),y0 (.v (.tup (xdO ts))),y0 (.v .non),y0 (.v (.tup (xdO s))),u0,u0]) (h2:=h) rfl step]
    exact e)]
   rw [Zb (w:= .v (Wc n (ks.map (kM n r)) (ts.map (tK n r)))) (h1:=h) (xc rfl (by simp_all [ix_tup,Wx]))]
   exact Gb _ _ _ rfl
end
theorem zf: ∀e:Ex,Gc (xdY e)=k9
 | .name _=>rfl
 | .same=>rfl
 | .all=>rfl
 | .none=>rfl
 | .turned a=>by show(k9&&(Gc (xdY a)&&k9))=k9;rw [zf a];rfl
 | .closed a=>by show(k9&&(Gc (xdY a)&&k9))=k9;rw [zf a];rfl
 | .plus a b=>by show(k9&&(Gc (xdY a)&&(Gc (xdY b)&&k9)))=k9;rw [zf a,zf b];rfl
 | .less a b=>by show(k9&&(Gc (xdY a)&&(Gc (xdY b)&&k9)))=k9;rw [zf a,zf b];rfl
 | .both a b=>by show(k9&&(Gc (xdY a)&&(Gc (xdY b)&&k9)))=k9;rw [zf a,zf b];rfl
 | .joined a b=>by show(k9&&(Gc (xdY a)&&(Gc (xdY b)&&k9)))=k9;rw [zf a,zf b];rfl
theorem Xf: ∀e:Ex,dep (xdY e)<=e.dp+1
 | .name _=>Aa5 _
 | .same=>Aa5 _
 | .all=>Aa5 _
 | .none=>Aa5 _
 | .turned a=>by
  have:=Xf a
  show max 0 (max (dep (xdY a)) 0)+1<=a.dp+1+1
  omega
 | .closed a=>by
  have:=Xf a
  show max 0 (max (dep (xdY a)) 0)+1<=a.dp+1+1
  omega
 | .plus a b=>by
  have:=Xf a;have:=Xf b
  show max 0 (max (dep (xdY a)) (max (dep (xdY b)) 0))+1<=max a.dp b.dp+1+1
  omega
 | .less a b=>by
  have:=Xf a;have:=Xf b
  show max 0 (max (dep (xdY a)) (max (dep (xdY b)) 0))+1<=max a.dp b.dp+1+1
  omega
 | .both a b=>by
  have:=Xf a;have:=Xf b
  show max 0 (max (dep (xdY a)) (max (dep (xdY b)) 0))+1<=max a.dp b.dp+1+1
  omega
 | .joined a b=>by
  have:=Xf a;have:=Xf b
  show max 0 (max (dep (xdY a)) (max (dep (xdY b)) 0))+1<=max a.dp b.dp+1+1
  omega
def xci (f):Gc (jdY f)=true:=by
 cases f with
 | inn a b=>show(k9&&(Gc (xdY a)&&(Gc (xdY b)&&k9)))=k9;rw [zf a,zf b];rfl
 | equ a b=>show(k9&&(Gc (xdY a)&&(Gc (xdY b)&&k9)))=k9;rw [zf a,zf b];rfl
 | som a=>show(k9&&(Gc (xdY a)&&k9))=k9;rw [zf a];rfl
 | non a=>show(k9&&(Gc (xdY a)&&k9))=k9;rw [zf a];rfl
 | cnt s k a=>show(k9&&(k9&&(Gc (xdY a)&&k9)))=k9;rw [zf a];rfl
def jcl (f):dep (jdY f)<=f.dp+2:=by
 cases f with
 | inn a b=>
  have:=Xf a;have:=Xf b
  show max 0 (max (dep (xdY a)) (max (dep (xdY b)) 0))+1<=max a.dp b.dp+2
  omega
 | equ a b=>
  have:=Xf a;have:=Xf b
  show max 0 (max (dep (xdY a)) (max (dep (xdY b)) 0))+1<=max a.dp b.dp+2
  omega
 | som a=>
  have:=Xf a
  show max 0 (max (dep (xdY a)) 0)+1<=a.dp+2
  omega
 | non a=>
  have:=Xf a
  show max 0 (max (dep (xdY a)) 0)+1<=a.dp+2
  omega
 | cnt s k a=>
  have:=Xf a
  show max 0 (max 0 (max (dep (xdY a)) 0))+1<=a.dp+2
  omega
theorem Jt: ∀s:Sy,Gc (zdG s)=k9
 | .fact f=>xci f
 | .neg a=>by show(k9&&(Gc (zdG a)&&k9))=k9;rw [Jt a];rfl
 | .conj a b=>by show(k9&&(Gc (zdG a)&&(Gc (zdG b)&&k9)))=k9;rw [Jt a,Jt b];rfl
 | .disj a b=>by show(k9&&(Gc (zdG a)&&(Gc (zdG b)&&k9)))=k9;rw [Jt a,Jt b];rfl
theorem jF: ∀s:Sy,dep (zdG s)<=s.dp+2
 | .fact f=>jcl f
 | .neg a=>by
  have:=jF a
  show max 0 (max (dep (zdG a)) 0)+1<=a.dp+1+2
  omega
 | .conj a b=>by
  have:=jF a;have:=jF b
  show max 0 (max (dep (zdG a)) (max (dep (zdG b)) 0))+1<=max a.dp b.dp+1+2
  omega
 | .disj a b=>by
  have:=jF a;have:=jF b
  show max 0 (max (dep (zdG a)) (max (dep (zdG b)) 0))+1<=max a.dp b.dp+1+2
  omega
abbrev pr (d:D) (n:Nat):D:= .tup [d,.int (n:Int)]
def pP (p:Ex×Nat):D:=pr (xdY p.1) p.2
def pS (p:Sy×Nat):D:=pr (zdG p.1) p.2
structure xdJ (N:List Tx) (p:Ex×Nat):Prop where
 wf:p.1.wf N
 dp:p.1.dp+1<=p.2
 le:p.2<=13
structure zdq (N:List Tx) (p:Sy×Nat):Prop where
 wf:p.1.wf N
 dp:p.1.dp<=p.2+11
 po:1<=p.2
 le:p.2<=13
def jbo (p):Gc (pP p)=true:=by show(Gc (xdY p.1)&&(k9&&k9))=k9;rw [zf];rfl
def J1 (p):Gc (pS p)=true:=by show(Gc (zdG p.1)&&(k9&&k9))=k9;rw [Jt];rfl
theorem qL (f) (k): ∀l:List α,(∀ x∈l,dep (f x)<=k)->Kz (l.map f)<=k
 | [],_=>Ah3 _
 | x::l,h=>by
  exact Nat.max_le.mpr ⟨h x Aa3,qL f k l λy a=>h y (Aa2 _ a)⟩
def zcD (h:xdJ N p):dep (pP p)<=20:=by
 have:=Xf p.1;have:=h.dp;have:=h.le
 show max (dep (xdY p.1)) (max 0 0)+1<=20
 omega
def jbw (h:zdq N p):dep (pS p)<=40:=by
 have:=jF p.1;have:=h.dp;have:=h.le
 show max (dep (zdG p.1)) (max 0 0)+1<=40
 omega
def ZH (a:h[r]? =y0 (.lst xs)) (h1:Gd xs=k9) (h2:Kz xs<=100) (d:xs≠ []):GD .eq (.v (.ref r)) (.own []) h=y0 false:=by
 have c:(W.v (D.ref r)).dd h= .lst xs:=by
  show(match h[r]? with | some (.lst xs)=>D.lst xs | _=> .ref r)=_
  rw [a]
 have b:(W.own []).dd h= .lst []:=rfl
 rw [zak,c,b,if_pos (by
  unfold KQ
  rw [show Gc (.lst xs)=k9 from h1,decide_eq_true (show dep (.lst xs)<150 by show Kz xs+1<150;omega)];rfl)]
 cases xs with
 | nil=>exact absurd rfl d
 | cons x xs=>rfl
def xcE (k) (K T) (u:(K++T).length<=100) (x) (h): ∃e:Ex,e.wf (K++T)/\e.dp=0/\call prog (k+1) "_law_atom" [.v (wD K T),.v (.int x)] h= .ok (.v (xdY e)) h:=by
 obtain⟨p,z,y⟩:=Zk x ((K++T).length+3) (by omega)
 have t:Pb .add (.v (xdW K)) (.v (xdW T)) h= .ok (.v (xdW (K++T))) h:=by
  rw [wz,if_pos (by rw [Gi,Aa,Aa];rw [Ab1]at u;omega),←Ac8]
 have q:biD .len [.v (xdW (K++T))] h=okv (.int ((K++T).length:Int)) h:=by rw [Zn,Aa]
 have v:Gn .mod x (((K++T).length:Int)+3)=y0 (p:Int):=by rw [qo _ _ (by omega)];exact congrArg y0 y
 have l: ∀ f,execs (u9 k) (.cons (.setf 2 (.bin .add (.ix (.var 0) (.int 0)) (.ix (.var 0) (.int 1)))) (.cons (.setf 3 (.bin .mod (.var 1) (.bin .add (.bi .len (.cons (.var 2) .nil)) (.int 3)))) f)) (List.map y0 [W.v (wD K T),.v (.int x)]++Ab (4-2) u0) h=execs (u9 k) f [y0 (.v (wD K T)),y0 (.v (.int x)),y0 (.v (xdW (K++T))),y0 (.v (.int (p:Int)))] h:=λf=>by
  rw [za (h1:=h) (Y1:= [y0 (.v (wD K T)),y0 (.v (.int x)),y0 (.v (xdW (K++T))),u0]) (by simp only [exec,eval,Gg,Gj,R.bind_ok,ix_tup,zE,Wx,R.of_some,t,R.toO_ok,W.d_v,GB,Aa9,Ad1,Ah6,Af0,Ac7,Ai7,Nat.reduceSub])]
  rw [za (h1:=h) (Y1:= [y0 (.v (wD K T)),y0 (.v (.int x)),y0 (.v (xdW (K++T))),y0 (.v (.int (p:Int)))]) (by simp only [exec,eval,Gf,Gg,Gj,R.bind_ok,q,Gy,wd,R.of_some,v,R.toO_ok,W.d_v,GB])]
 have a: ∀ {d},Ka h.length (.ret (.v d) h)= .ok (.v d) h:=λ{d}=>Gb _ _ _ rfl
 by_cases c:p<3
 ·have i:v9 ((p:Int)<(3:Int))=true:=decide_eq_true (by omega)
  have g: ∀ e s,xdY e= .tup [.str s]->atI [D.str xM,.str zaM,.str X2] (p:Int)=y0 (.str s)->call prog (k+1) "_law_atom" [.v (wD K T),.v (.int x)] h= .ok (.v (xdY e)) h:=fun e s n m=>by
   rw [Ga (d:=GA) rfl _ _ _ rfl]
   simp only [GA]
   rw [l,Jj (w:= .v (xdY e)) (by simp_all [zd,i]) (xc rfl (by rw [n];simp only [eval,Gm,Gg,Gj,R.bind_ok,W.d_v,R.of_some,xp,m]))]
   exact a
  have b:p=0\/p=1\/p=2:=by omega
  rcases b with rfl | rfl | rfl
  ·exact⟨.same,trivial,rfl,g .same xM rfl rfl⟩
  ·exact⟨.all,trivial,rfl,g .all zaM rfl rfl⟩
  ·exact⟨.none,trivial,rfl,g .none X2 rfl rfl⟩
 ·have i:v9 ((p:Int)<(3:Int))=false:=decide_eq_false (by omega)
  have j:p-3<(K++T).length:=by omega
  have r:(p:Int)-3=((p-3:Nat):Int):=by omega
  have o:ixD (.v (xdW (K++T))) (.v (.int ((p-3:Nat):Int))) h=y0 (.str (K++T)[p-3]):=by
   show atI ((K++T).map D.str) _=_
   rw [Xk _ _ (by rw [Aa];exact j),Ad,Aa4 j];rfl
  refine⟨.name (K++T)[p-3],Ak1 j,rfl,?_⟩
  rw [Ga (d:=GA) rfl _ _ _ rfl]
  simp only [GA]
  rw [l,Za (by simp_all [zd,i])]
  rw [Zb (w:= .v (xdY (.name (K++T)[p-3]))) (h1:=h) (xc rfl (by simp only [eval,Gm,Gg,Gj,R.bind_ok,W.d_v,R.of_some,Gy,Qs,r,o];rfl))]
  exact a
def jbM {x:D}(h) (e:xs.getLast h=x):atI xs (-1)=y0 x:=by
 have a:=An2.mpr h
 have:ixN xs.length (-1)=y0 (xs.length-1):=by
  unfold ixN
  rw [if_neg (by decide),if_pos (by omega)]
  exact congrArg y0 (by omega)
 unfold atI
 rw [this,Ah1,Aa4 (by omega),←e,List.getLast_eq_getElem]
def xB {xs:List D}(x) (c:0<xs.length): ∃d∈xs,atI xs (x % ((xs.length:Nat):Int))=y0 d:=by
 obtain⟨a,b,e⟩:=Zk x xs.length c
 exact⟨xs[a],Ak1 b,by rw [e,Xk _ _ b,Aa4 b]⟩
def jaG (a:h[r]? =y0 (.lst xs)) (i):ixD (.v (.ref r)) (.v (.int i)) h=atI xs i:=by
 show((match h[r]? with | some (.lst xs)=>y0 xs | _=>u0).bind λxs=>atI xs i)=_
 rw [a];rfl
def ZW (a:h[r]? =y0 (.lst xs)):biD .len [.v (.ref r)] h=okv (.int (xs.length:Int)) h:=by
 show(R.of h (match h[r]? with | some (.lst xs)=>y0 xs | _=>u0)).bind _=_
 rw [a];rfl
noncomputable def xdk (j m:Nat) (a b:Ex):Fc:=match j with
 | 0=> .inn a b
 | 1=> .equ a b
 | 2=> .som a
 | 3=> .non a
 | 4=> .cnt ze m a
 | 5=> .cnt jk m a
 | 6=> .cnt qd m a
 | _=> .cnt Zh m a
def qbl (k) (N) (ps) (P: ∀p∈ps,xdJ N p) (F:ps≠ []) (x) (h:AH) (t:h[0]? =y0 (.lst (ps.map pP))): ∃f:Fc,f.wf N/\f.dp<=12/\call prog (k+1) "_law_fact" [.v (.ref 0),.v (.int x)] h= .ok (.v (jdY f)) h:=by
 have y:ps.map pP≠ []:=λz=>F (Ak4.mp z)
 obtain⟨a,ma,ea⟩: ∃p∈ps,atI (ps.map pP) (-1)=y0 (pP p):=⟨ps.getLast F,List.getLast_mem F,jbM y (by rw [List.getLast_map])⟩
 obtain⟨d,md,Q⟩:=xB (xs:=ps.map pP) (x / 8) (An2.mpr y)
 obtain⟨b,Z,rfl⟩:=Ac.mp md
 have C:=Zx x 8 (by decide) (by decide)
 have ml:=qo (x / 8) (((ps.map pP).length:Nat):Int) (by have:=An2.mpr y;omega)
 obtain⟨j,n,J⟩:=Zk x 8 (by decide)
 have J:x % 8=(j:Int):=J
 have o:=qo x 8 (by decide)
 rw [J]at o
 have g:=P a ma
 have q:=P b Z
 have O:=jaG t (-1)
 rw [ea]at O
 have M:=jaG t (x / 8 % (((ps.map pP).length:Nat):Int))
 rw [Q]at M
 have Y:ixD (.v (pP a)) (.v (.int 0)) h=y0 (xdY a.1):=rfl
 have b0:ixD (.v (pP b)) (.v (.int 0)) h=y0 (xdY b.1):=rfl
 have S:=ZW t
 obtain⟨m,X⟩: ∃m:Nat,eval (u9 k) (.ix (.lst (.cons (.bin .mod (.bin .fdiv (.var 1) (.int 8)) (.int 5)) (.cons (.bin .mod (.bin .fdiv (.var 1) (.int 8)) (.int 100)) .nil))) (.bin .mod (.bin .fdiv (.var 1) (.int 800)) (.int 2))) [y0 (.v (.ref 0)),y0 (.v (.int x)),y0 (.v (xdY a.1)),y0 (.v (xdY b.1)),y0 (.v (.str ([jaE,Wi,jo,xax,ze,jk,qd,Zh].getD j [])))] h= .ok (.v (.int (m:Int))) h:=by
  have s:=qo (x / 8) 5 (by decide)
  have c:=qo (x / 8) 100 (by decide)
  have i:=Zx x 800 (by decide) (by decide)
  have r:=qo (x / 800) 2 (by decide)
  obtain⟨u,hu,G⟩:=Zk (x / 8) 5 (by decide)
  obtain⟨v,hv,I⟩:=Zk (x / 8) 100 (by decide)
  obtain⟨z,hz,K⟩:=Zk (x / 800) 2 (by decide)
  have G:x / 8 % 5=(u:Int):=G
  have I:x / 8 % 100=(v:Int):=I
  have K:x / 800 % 2=(z:Int):=K
  rw [G]at s
  rw [I]at c
  rw [K]at r
  have A:z=0\/z=1:=by omega
  rcases A with rfl | rfl
  ·exact⟨u,by simp only [eval,Gm,Gg,Gj,R.bind_ok,Gy,C,R.of_some,s,c,i,r,W.d_v,xp];rfl⟩
  ·exact⟨v,by simp only [eval,Gm,Gg,Gj,R.bind_ok,Gy,C,R.of_some,s,c,i,r,W.d_v,xp];rfl⟩
 have V:atI [D.str jaE,.str Wi,.str jo,.str xax,.str ze,.str jk,.str qd,.str Zh] (j:Int)=y0 (.str ([jaE,Wi,jo,xax,ze,jk,qd,Zh].getD j [])):=by
  rw [Xk _ _ (by show j<8;exact n)]
  have: ∀j,j<8-> [D.str jaE,.str Wi,.str jo,.str xax,.str ze,.str jk,.str qd,.str Zh][j]? =y0 (.str ([jaE,Wi,jo,xax,ze,jk,qd,Zh].getD j [])):=λj n=>by
   match j,n with
   | 0,_=>rfl
   | 1,_=>rfl
   | 2,_=>rfl
   | 3,_=>rfl
   | 4,_=>rfl
   | 5,_=>rfl
   | 6,_=>rfl
   | 7,_=>rfl
  exact this j n
 have l:a.1.dp<=12:=by have:=g.dp;have:=g.le;omega
 have L:b.1.dp<=12:=by have:=q.dp;have:=q.le;omega
 refine⟨xdk j m a.1 b.1,?_,?_,?_⟩
 ·match j,n with
  | 0,_=>exact⟨g.wf,q.wf⟩
  | 1,_=>exact⟨g.wf,q.wf⟩
  | 2,_=>exact g.wf
  | 3,_=>exact g.wf
  | 4,_=>exact⟨by simp,g.wf⟩
  | 5,_=>exact⟨by simp,g.wf⟩
  | 6,_=>exact⟨by simp,g.wf⟩
  | 7,_=>exact⟨by simp,g.wf⟩
 ·match j,n with
  | 0,_=>exact Nat.max_le.mpr ⟨l,L⟩
  | 1,_=>exact Nat.max_le.mpr ⟨l,L⟩
  | 2,_=>exact l
  | 3,_=>exact l
  | 4,_=>exact l
  | 5,_=>exact l
  | 6,_=>exact l
  | 7,_=>exact l
 ·have e: ∀ {d:D},Ka h.length (.ret (.v d) h)= .ok (.v d) h:=λ{d}=>Gb _ _ _ rfl
  rw [Ga (d:=GU) rfl _ _ _ rfl]
  simp only [GU]
  have n1:Gn .mul (-1) 1=Gn .mul (-1) 1:=rfl
  refine fx (by simp_all [O,Y];rfl) ?_
  refine fx (by simp_all [C,S,ml,M,b0];rfl) ?_
  refine fx (by simp_all [o,xp,V];rfl) ?_
  by_cases U:j<2
  ·have E:v9 ((j:Int)<(2:Int))=true:=decide_eq_true (by omega)
   rw [Jj (w:= .v (.tup [.str ([jaE,Wi,jo,xax,ze,jk,qd,Zh].getD j []),xdY a.1,xdY b.1])) (by simp_all [o,zd,E]) (xc rfl (by simp_all [])),e]
   match j,U with
   | 0,_=>rfl
   | 1,_=>rfl
  have E:v9 ((j:Int)<(2:Int))=false:=decide_eq_false (by omega)
  rw [Za (by simp_all [o,zd,E])]
  by_cases c4:j<4
  ·have H:v9 ((j:Int)<(4:Int))=true:=decide_eq_true (by omega)
   rw [Jj (w:= .v (.tup [.str ([jaE,Wi,jo,xax,ze,jk,qd,Zh].getD j []),xdY a.1])) (by simp_all [o,zd,H]) (xc rfl (by simp_all [])),e]
   have B:j=2\/j=3:=by omega
   rcases B with rfl | rfl<;>rfl
  have H:v9 ((j:Int)<(4:Int))=false:=decide_eq_false (by omega)
  rw [Za (by simp_all [o,zd,H])]
  rw [Zb (w:= .v (.tup [.str ([jaE,Wi,jo,xax,ze,jk,qd,Zh].getD j []),.int (m:Int),xdY a.1])) (h1:=h) (xc rfl (by rw [eval,Gm,eval];simp only [Gg,Gj,R.bind_ok,W.d_v,R.of_some];rw [Gm,X];simp only [R.bind_ok,W.d_v,R.of_some,Gm,eval,Gg,Gj])),e]
  have T:j=4\/j=5\/j=6\/j=7:=by omega
  rcases T with rfl | rfl | rfl | rfl<;>rfl
def Zg (a:h[r]? =y0 (.lst xs)):cellD h (y0 (.v (.ref r)))=y0 (r,xs):=by
 show(match h[r]? with | some (.lst xs)=>y0 (r,xs) | _=>u0)=_
 rw [a]
def xaH {h:AH}(a:h[r]? =y0 c):(h.set r c')[r]? =y0 c':=Ad6 (Ac1.mp a).1
def jz (xs) (x:D):(xs++ [x])[(xs++ [x]).length-1]? =y0 x:=by simp
def Wu (xs) (x:D):(xs++ [x]).take ((xs++ [x]).length-1)=xs:=by
 rw [Ab1,Ag2,Nat.add_sub_cancel,List.take_left'];rfl
def qai (c:Gc a=k9) (d:Gc b=k9) (t) (n):Gc (pr (.tup [.str t,a,b]) n)=true:=by
 show((k9&&(Gc a&&(Gc b&&k9)))&&(k9&&k9))=k9
 rw [c,d];rfl
def xbS (a b:Nat) (h):biD .max [.v (.int (a:Int)),.v (.int (b:Int))] h=okv (.int ((max a b:Nat):Int)) h:=by
 rw [qaZ]
 by_cases c: b>(a:Int)
 ·rw [if_pos c,show max a b=b by omega]
 ·rw [if_neg c,show max a b=a by omega]
def xb8 (t:Tx) (a b:D) (m n:Nat):D:=if 13<1+max m n then pr a m else pr (.tup [.str t,a,b]) (1+max m n)
def xcn (k r) (h) (xs) (a b) (m n) (t) (e:h[r]? =y0 (.lst (xs++ [pr a m]++ [pr b n]))) (i:Gc a=k9) (q:Gc b=k9) (y:xs.length<=1000):
 call prog (k+1) "_law_put" [.v (.ref r),.v (.str t)] h= .ok (.v .non) (h.set r (.lst (xs++ [xb8 t a b m n]))):=by
 rw [Ga rfl _ _ _ rfl]
 simp only [Kp]
 have j:xs.length<LIM:=by rw [Gi];omega
 have s:(h.set r (.lst (xs++ [pr a m])))[r]? =y0 (.lst (xs++ [pr a m])):=xaH e
 have l:(h.set r (.lst xs))[r]? =y0 (.lst xs):=xaH e
 have d:h.length=(h.set r (.lst (xs++ [xb8 t a b m n]))).length:=by rw [Ae3]
 refine fx (by
  simp_all [Zg e,jz,Wu]
  rfl) ?_
 refine fx (by
  simp_all [Zg s,jz,Wu,List.set_set]
  rfl) ?_
 have o: ∀h,ixD (.v (pr a m)) (.v (.int 1)) h=y0 (.int (m:Int)):=λ_=>rfl
 have w: ∀h,ixD (.v (pr b n)) (.v (.int 1)) h=y0 (.int (n:Int)):=λ_=>rfl
 have p: ∀h,ixD (.v (pr a m)) (.v (.int 0)) h=y0 a:=λ_=>rfl
 have u: ∀h,ixD (.v (pr b n)) (.v (.int 0)) h=y0 b:=λ_=>rfl
 have v:(1:Int)+((max m n:Nat):Int)=((1+max m n:Nat):Int):=by omega
 refine fx (by
  simp_all [o,w,xbS,wd,v]
  rfl) ?_
 rw [zb]
 have x:Gc (pr a m)=true:=by show(Gc a&&(k9&&k9))=k9;rw [i];rfl
 by_cases c:13<1+max m n
 ·have f:v9 ((13:Int)<((1+max m n:Nat):Int))=true:=decide_eq_true (by omega)
  have g:xb8 t a b m n=pr a m:=if_pos c
  rw [qv (h1:=h.set r (.lst xs)) (by simp_all [Jr,f]),zb]
  rw [g]at d ⊢
  rw [show exec (u9 k) (.appR 0 (.var 3)) [y0 (.v (.ref r)),y0 (.v (.str t)),y0 (.v (pr b n)),y0 (.v (pr a m)),y0 (.v (.int ((1+max m n:Nat):Int)))] (h.set r (.lst xs))= .next [y0 (.v (.ref r)),y0 (.v (.str t)),y0 (.v (pr b n)),y0 (.v (pr a m)),y0 (.v (.int ((1+max m n:Nat):Int)))] (h.set r (.lst (xs++ [pr a m])))by
   simp_all [Zg l]
   rw [if_pos ⟨j,x⟩,List.set_set]]
  exact GI _ _ _ d.symm
 ·have f:v9 ((13:Int)<((1+max m n:Nat):Int))=false:=decide_eq_false (by omega)
  have g:xb8 t a b m n=pr (.tup [.str t,a,b]) (1+max m n):=if_neg c
  rw [jS (h1:=h.set r (.lst xs)) (by simp_all [Jr,f]),zb]
  rw [g]at d ⊢
  rw [show exec (u9 k) (.appR 0 (.tup (.cons (.tup (.cons (.var 1) (.cons (.ix (.var 3) (.int 0)) (.cons (.ix (.var 2) (.int 0)) .nil)))) (.cons (.var 4) .nil)))) [y0 (.v (.ref r)),y0 (.v (.str t)),y0 (.v (pr b n)),y0 (.v (pr a m)),y0 (.v (.int ((1+max m n:Nat):Int)))] (h.set r (.lst xs))= .next [y0 (.v (.ref r)),y0 (.v (.str t)),y0 (.v (pr b n)),y0 (.v (pr a m)),y0 (.v (.int ((1+max m n:Nat):Int)))] (h.set r (.lst (xs++ [pr (.tup [.str t,a,b]) (1+max m n)])))by
   simp_all [Zg l,p,u]
   rw [if_pos ⟨j,qai i q t _⟩,List.set_set]]
  exact GI _ _ _ d.symm
abbrev hP (a:List (Ex×Nat)) (b:List (Sy×Nat)):AH:= [.lst (a.map pP),.lst (b.map pS)]
def Wy (h:l≠ []): ∃i x,l=i++ [x]:=⟨l.dropLast,l.getLast h,(List.dropLast_concat_getLast h).symm⟩
def ZM (h:1<l.length): ∃i x y,l=i++ [x]++ [y]:=by
 obtain⟨i,y,rfl⟩:=Wy (l:=l) (λz=>by rw [z]at h;exact absurd h (Aj1 _))
 obtain⟨a,x,rfl⟩:=Wy (l:=i) (λz=>by rw [z]at h;exact absurd h (Ag9 _))
 exact⟨a,x,y,rfl⟩
def jH {b:Type}(f) (a: ∀x,Gc (f x)=k9) (l:List b):Gd (l.map f)=true:=ql f a l
def xck (d) (h):biD .min [.v (.int 13),.v (.int ((d+1:Nat):Int))] h=okv (.int ((min 13 (d+1):Nat):Int)) h:=by
 rw [qa7]
 by_cases c:((d+1:Nat):Int)<13
 ·rw [if_pos c,show min 13 (d+1)=d+1 by omega]
 ·rw [if_neg c,show min 13 (d+1)=13 by omega];rfl
structure zdu (N:List Tx) (ps:List (Ex×Nat)) (ss:List (Sy×Nat)) (m:Nat):Prop where
 p: ∀p∈ps,xdJ N p
 s: ∀s∈ss,zdq N s
 lp:ps.length<=m
 ls:ss.length<=m
def jb7 (i:Nat) (a b:Ex):Ex:=match i with
 | 0=> .plus a b
 | 1=> .less a b
 | 2=> .both a b
 | _=> .joined a b
def qb7 (i:Nat):Tx:= [JF,wF,WG,Jq].getD i []
def zcc (i) (c:i<4) (a b):xdY (jb7 i a b)= .tup [.str (qb7 i),xdY a,xdY b]:=by
 match i,c with
 | 0,_=>rfl
 | 1,_=>rfl
 | 2,_=>rfl
 | 3,_=>rfl
def qbU (N) (i) (e:i<4) (a b) (c:a.wf N) (d:b.wf N):(jb7 i a b).wf N:=by
 match i,e with
 | 0,_=>exact⟨c,d⟩
 | 1,_=>exact⟨c,d⟩
 | 2,_=>exact⟨c,d⟩
 | 3,_=>exact⟨c,d⟩
def zbU (i) (c:i<4) (a b):(jb7 i a b).dp=max a.dp b.dp+1:=by
 match i,c with
 | 0,_=>rfl
 | 1,_=>rfl
 | 2,_=>rfl
 | 3,_=>rfl
def Wq {P:α->Prop}(h: ∀x∈l,P x) (a:P y): ∀x∈l++ [y],P x:=λx b=>(Af2.mp b).elim (h x) λz=>Af1.mp z▸a
noncomputable abbrev xdE (K T:List Tx) (w:Nat) (x:Int) (a b c:Option W):Sl:= [y0 (.v (wD K T)),y0 (.v (.ref 0)),y0 (.v (.ref 1)),y0 (.v (.int (w:Int))),y0 (.v (.int x)),a,b,c]
def XF (e:o= .next Y (hP ps ss)):Ka 2 o= .ok (.v .non) (hP ps ss):=by rw [e];rfl
def jc4 (a:eval F e Y (hP ps ss)= .ok (.v (pP q)) (hP ps ss)) (h1:Gj Y 1=y0 (.v (.ref 0))) (b:ps.length<=1000):exec F (.appR 1 e) Y (hP ps ss)= .next Y (hP (ps++ [q]) ss):=by
 simp_all [a,h1,Zg (h:=hP ps ss) (r:=0) rfl]
 rw [if_pos ⟨by rw [Gi,Aa];omega,jbo q⟩]
 unfold hP
 rw [Ac8];rfl
def xc9 (a:eval F e Y (hP ps ss)= .ok (.v (pS q)) (hP ps ss)) (h1:Gj Y 2=y0 (.v (.ref 1))) (b:ss.length<=1000):exec F (.appR 2 e) Y (hP ps ss)= .next Y (hP ps (ss++ [q])):=by
 simp_all [a,h1,Zg (h:=hP ps ss) (r:=1) rfl]
 rw [if_pos ⟨by rw [Gi,Aa];omega,J1 q⟩]
 unfold hP
 rw [Ac8];rfl
def jda (k:Nat) (K T:List Tx) (hl:(K++T).length<=100) (g:List (Ex×Nat)) (l:List (Sy×Nat)) (m:Nat) (b:zdu (K++T) g l m) (hm:m<=100) (w:Nat) (hw:w<16) (x:Int):
 ∃I Z,zdu (K++T) I Z (m+1)/\I≠ []/\call prog (k+2) "_law_op" [.v (wD K T),.v (.ref 0),.v (.ref 1),.v (.int (w:Int)),.v (.int x)] (hP g l)= .ok (.v .non) (hP I Z):=by
 have F: ∀(i:Int),(w:Int)<i->v9 ((w:Int)<i)=true:=λi h=>decide_eq_true h
 have u: ∀(i:Int), ¬(w:Int)<i->v9 ((w:Int)<i)=false:=λi h=>decide_eq_false h
 have eP:g≠ []->GD .eq (.v (.ref 0)) (.own []) (hP g l)=y0 false:=λB=>ZH (xs:=g.map pP) rfl (jH pP jbo g) (Ac0 (qL pP 20 g λx hx=>zcD (b.p x hx)) (by decide)) λz=>B (Ak4.mp z)
 have eS:l≠ []->GD .eq (.v (.ref 1)) (.own []) (hP g l)=y0 false:=λns=>ZH (xs:=l.map pS) rfl (jH pS J1 l) (Ac0 (qL pS 40 l λx hx=>jbw (b.s x hx)) (by decide)) λz=>ns (Ak4.mp z)
 have lm:=b.lp
 have ls:=b.ls
 by_cases c5:w<5\/g= []
 ·obtain⟨e,we,de,ee⟩:=xcE k K T hl x (hP g l)
  have t5:Gr (u9 (k+1)) (.or (.cmp .lt (.var 3) (.int 5)) (.cmp .eq (.var 1) (.lst .nil))) (List.map y0 [W.v (wD K T),.v (.ref 0),.v (.ref 1),.v (.int (w:Int)),.v (.int x)]++Ab (8-5) u0) (hP g l)= .ok k9 (hP g l):=by
   by_cases c:w<5
   ·have C:=F 5 (by omega)
    simp_all [zd,C]
   ·have C:=u 5 (by omega)
    obtain rfl:g= []:=c5.elim (λz=>absurd z c) id
    have e0:GD .eq (.v (.ref 0)) (.own []) (hP [] l)=y0 true:=by simp [GD,hP,W.dd,KQ,res]
    simp_all [zd,C,e0]
  refine⟨g++ [(e,1)],l,⟨Wq b.p ⟨we,by show e.dp+1<=1;omega,by show 1<=13;decide⟩,b.s,by rw [Ab1];simp;omega,by omega⟩,by simp,?_⟩
  rw [Ga (d:=Gs) rfl _ _ _ rfl]
  simp only [Gs]
  rw [zb,qv (h1:=hP g l) t5,zb]
  exact XF (jc4 (q:=(e,1)) (by simp_all [ee];rfl) rfl (by omega))
 have B:g≠ []:=λz=>c5 (.inr z)
 have d5:=u 5 (by have:=λz=>c5 (.inl z);omega)
 have start: ∀(a c:Ss),execs (u9 (k+1)) (.cons (.iff (.or (.cmp .lt (.var 3) (.int 5)) (.cmp .eq (.var 1) (.lst .nil))) a c) .nil) (List.map y0 [W.v (wD K T),.v (.ref 0),.v (.ref 1),.v (.int (w:Int)),.v (.int x)]++Ab (8-5) u0) (hP g l)=execs (u9 (k+1)) c (xdE K T w x u0 u0 u0) (hP g l):=λa c=>by
  rw [zb,jS (h1:=hP g l) (by simp_all [zd,d5,eP B])]
  rfl
 by_cases c7:w<7
 ·have d7:=F 7 (by omega)
  obtain⟨i,⟨e,d⟩,rfl⟩:=Wy B
  have X:=b.p (e,d) (Ab2 _ Aa3)
  have bi: ∀p∈i,xdJ (K++T) p:=λp N=>b.p p (Ac9 _ N)
  have li:i.length+1<=m:=by have:=lm;rw [Ab1]at this;exact this
  have w56:w=5\/w=6:=by omega
  have M:(d:Int)+1=((d+1:Nat):Int):=rfl
  have mn:=xck d
  obtain⟨V,we,de,ee⟩: ∃V:Ex,V.wf (K++T)/\V.dp+1<=min 13 (d+1)/\ ∀h,exec (u9 (k+1)) (.iff (.cmp .lt (.var 6) (.int 13)) (.cons (.setf 5 (.tup (.cons (.ix (.lst (.cons (.str wy) (.cons (.str xy) .nil))) (.bin .sub (.var 3) (.int 5))) (.cons (.var 5) .nil)))) .nil) .nil) (xdE K T w x (y0 (.v (xdY e))) (y0 (.v (.int (d:Int)))) u0) h= .next (xdE K T w x (y0 (.v (xdY V))) (y0 (.v (.int (d:Int)))) u0) h:=by
   have q1:e.dp+1<=d:=X.dp
   have q2:d<=13:=X.le
   by_cases c:d<13
   ·have dd:v9 ((d:Int)<(13:Int))=true:=decide_eq_true (by omega)
    rcases w56 with rfl | rfl
    ·refine⟨.turned e,X.wf,by show e.dp+1+1<=_;omega,λh=> ?_⟩
     rw [qv (h1:=h) (by simp_all [zd,dd]),zb]
     simp_all [Qs,xp]
     rfl
    ·refine⟨.closed e,X.wf,by show e.dp+1+1<=_;omega,λh=> ?_⟩
     rw [qv (h1:=h) (by simp_all [zd,dd]),zb]
     simp_all [Qs,xp]
     rfl
   ·have dd:v9 ((d:Int)<(13:Int))=false:=decide_eq_false (by omega)
    refine⟨e,X.wf,by omega,λh=> ?_⟩
    rw [jS (h1:=h) (by simp_all [zd,dd])]
    rfl
  refine⟨i++ [(V,min 13 (d+1))],l,⟨Wq bi ⟨we,de,Nat.min_le_left _ _⟩,b.s,by rw [Ab1];simp;omega,by omega⟩,by simp,?_⟩
  rw [Ga (d:=Gs) rfl _ _ _ rfl]
  simp only [Gs]
  rw [start,zb,qv (h1:=hP (i++ [(e,d)]) l) (by simp_all [zd,d7])]
  have cd:cellD (hP (i++ [(e,d)]) l) (y0 (.v (.ref 0)))=y0 (0,i.map pP++ [pr (xdY e) d]):=by
   show y0 (0,(i++ [(e,d)]).map pP)=_
   rw [Ac8];rfl
  refine fx (by
   simp_all [cd,jz,Wu]
   rfl) ?_
  rw [za (ee _),zb]
  exact XF (jc4 (q:=(V,min 13 (d+1))) (by simp_all [wd,M,mn];rfl) rfl (by omega))
 have d7:=u 7 (by omega)
 by_cases c11:w<11
 ·have J:=F 11 (by omega)
  have P:=ZW (h:=hP g l) (r:=0) (xs:=g.map pP) rfl
  rw [Aa]at P
  rw [Ga (d:=Gs) rfl _ _ _ rfl]
  simp only [Gs]
  rw [start,zb,jS (h1:=hP g l) (by simp_all [zd,d7]),zb,qv (h1:=hP g l) (by simp_all [zd,J]),zb]
  by_cases c1:1<g.length
  ·have Q:v9 ((1:Int)<(g.length:Int))=true:=decide_eq_true (by omega)
   rw [qv (h1:=hP g l) (by simp_all [P,Jr,Q]),zb]
   obtain⟨i,⟨e,d⟩,⟨v,n⟩,rfl⟩:=ZM c1
   have S:=b.p (e,d) (Ac9 _ (Ab2 _ Aa3))
   have Y:=b.p (v,n) (Ab2 _ Aa3)
   have bi: ∀p∈i,xdJ (K++T) p:=λp N=>b.p p (Ac9 _ (Ac9 _ N))
   have li:i.length+2<=m:=by have:=lm;rw [Ab1,Ab1]at this;exact this
   have O:w-7<4:=by omega
   have ej:(w:Int)-7=((w-7:Nat):Int):=by omega
   have aj:atI [D.str JF,.str wF,.str WG,.str Jq] ((w-7:Nat):Int)=y0 (.str (qb7 (w-7))):=by
    rw [Xk _ _ (by show w-7<4;exact O)]
    have: ∀j,j<4-> [D.str JF,.str wF,.str WG,.str Jq][j]? =y0 (.str (qb7 j)):=λj O=>by
     match j,O with
     | 0,_=>rfl
     | 1,_=>rfl
     | 2,_=>rfl
     | 3,_=>rfl
    exact this _ O
   have E:=xcn k 0 (hP (i++ [(e,d)]++ [(v,n)]) l) (i.map pP) (xdY e) (xdY v) d n (qb7 (w-7)) (by show y0 (Cell.lst ((i++ [(e,d)]++ [(v,n)]).map pP))=_;rw [Ac8,Ac8];rfl) (zf e) (zf v) (by rw [Aa];omega)
   obtain⟨q,oq,eq⟩: ∃q:Ex×Nat,xdJ (K++T) q/\xb8 (qb7 (w-7)) (xdY e) (xdY v) d n=pP q:=by
    by_cases c:13<1+max d n
    ·exact⟨(e,d),S,if_pos c⟩
    ·refine⟨(jb7 (w-7) e v,1+max d n),⟨qbU _ _ O _ _ S.wf Y.wf,?_,by show 1+max d n<=13;omega⟩,?_⟩
     ·show(jb7 (w-7) e v).dp+1<=1+max d n
      rw [zbU _ O]
      have q1:e.dp+1<=d:=S.dp
      have q2:v.dp+1<=n:=Y.dp
      omega
     ·show(if 13<1+max d n then _ else _)=pr (xdY (jb7 (w-7) e v)) (1+max d n)
      rw [if_neg c,zcc _ O]
   rw [eq]at E
   have E:call prog (k+1) "_law_put" [.v (.ref 0),.v (.str (qb7 (w-7)))] (hP (i++ [(e,d)]++ [(v,n)]) l)= .ok (.v .non) (hP (i++ [q]) l):=by
    rw [E]
    show R.ok (W.v .non) [.lst (i.map pP++ [pP q]),.lst (l.map pS)]= .ok (.v .non) [.lst ((i++ [q]).map pP),.lst (l.map pS)]
    rw [Ac8];rfl
   refine⟨i++ [q],l,⟨Wq bi oq,b.s,by rw [Ab1];simp;omega,by omega⟩,by simp,?_⟩
   exact XF (by simp_all [Qs,ej,xp,aj,E];rfl)
  ·have Q:v9 ((1:Int)<(g.length:Int))=false:=decide_eq_false (by omega)
   refine⟨g,l,⟨b.p,b.s,by omega,by omega⟩,B,?_⟩
   rw [jS (h1:=hP g l) (by simp_all [P,Jr,Q])]
   exact GI _ _ _ rfl
 have J:=u 11 (by omega)
 have L: ∀(a c e:Ss),execs (u9 (k+1)) (.cons (.iff (.cmp .lt (.var 3) (.int 7)) a (.cons (.iff (.cmp .lt (.var 3) (.int 11)) c e) .nil)) .nil) (xdE K T w x u0 u0 u0) (hP g l)=execs (u9 (k+1)) e (xdE K T w x u0 u0 u0) (hP g l):=λa c e=>by
  rw [zb,jS (h1:=hP g l) (by simp_all [zd,d7]),zb,jS (h1:=hP g l) (by simp_all [zd,J])]
 by_cases G:w<14\/l= []
 ·obtain⟨f,wf,df,ef⟩:=qbl k (K++T) g b.p B x (hP g l) rfl
  have t14:Gr (u9 (k+1)) (.or (.cmp .lt (.var 3) (.int 14)) (.cmp .eq (.var 2) (.lst .nil))) (xdE K T w x u0 u0 u0) (hP g l)= .ok k9 (hP g l):=by
   by_cases c:w<14
   ·have C:=F 14 (by omega)
    simp_all [zd,C]
   ·have C:=u 14 (by omega)
    obtain rfl:l= []:=G.elim (λz=>absurd z c) id
    have e0:GD .eq (.v (.ref 1)) (.own []) (hP g [])=y0 true:=by simp [GD,hP,W.dd,KQ,res]
    simp_all [zd,C,e0]
  refine⟨g,l++ [(.fact f,1)],⟨b.p,Wq (y:=(Sy.fact f,1)) b.s ⟨wf,by show f.dp<=1+11;omega,Aa5 1,by show 1<=13;decide⟩,by omega,by rw [Ab1];simp;omega⟩,B,?_⟩
  rw [Ga (d:=Gs) rfl _ _ _ rfl]
  simp only [Gs]
  rw [start,L,zb,qv (h1:=hP g l) t14,zb]
  exact XF (xc9 (q:=(.fact f,1)) (by simp_all [ef];rfl) rfl (by omega))
 have ns:l≠ []:=λz=>G (.inr z)
 have d14:=u 14 (by have:=λz=>G (.inl z);omega)
 have H: ∀(a e:Ss),execs (u9 (k+1)) (.cons (.iff (.or (.cmp .lt (.var 3) (.int 14)) (.cmp .eq (.var 2) (.lst .nil))) a e) .nil) (xdE K T w x u0 u0 u0) (hP g l)=execs (u9 (k+1)) e (xdE K T w x u0 u0 u0) (hP g l):=λa e=>by
  rw [zb,jS (h1:=hP g l) (by simp_all [zd,d14,eS ns])]
 have w14: ¬w<14:=λz=>G (.inl z)
 by_cases c15:w=14
 ·have C:GD .eq (.v (.int (w:Int))) (.v (.int 14)) (hP g l)=y0 true:=by rw [Jm,decide_eq_true (by omega)]
  obtain⟨i,⟨s,d⟩,rfl⟩:=Wy ns
  have os:=b.s (s,d) (Ab2 _ Aa3)
  have bi: ∀p∈i,zdq (K++T) p:=λp N=>b.s p (Ac9 _ N)
  have li:i.length+1<=m:=by have:=ls;rw [Ab1]at this;exact this
  have M:(d:Int)+1=((d+1:Nat):Int):=rfl
  have mn:=xck d
  obtain⟨U,ws,ds,es⟩: ∃U:Sy,U.wf (K++T)/\U.dp<=min 13 (d+1)+11/\ ∀h,exec (u9 (k+1)) (.iff (.cmp .lt (.var 6) (.int 13)) (.cons (.setf 7 (.tup (.cons (.str jbV) (.cons (.var 7) .nil)))) .nil) .nil) (xdE K T w x u0 (y0 (.v (.int (d:Int)))) (y0 (.v (zdG s)))) h= .next (xdE K T w x u0 (y0 (.v (.int (d:Int)))) (y0 (.v (zdG U)))) h:=by
   have q1:s.dp<=d+11:=os.dp
   have q2:d<=13:=os.le
   by_cases c:d<13
   ·have dd:v9 ((d:Int)<(13:Int))=true:=decide_eq_true (by omega)
    refine⟨.neg s,os.wf,by show s.dp+1<=_;omega,λh=> ?_⟩
    rw [qv (h1:=h) (by simp_all [zd,dd]),zb]
    simp_all []
    rfl
   ·have dd:v9 ((d:Int)<(13:Int))=false:=decide_eq_false (by omega)
    refine⟨s,os.wf,by omega,λh=> ?_⟩
    rw [jS (h1:=h) (by simp_all [zd,dd])]
    rfl
  refine⟨g,i++ [(U,min 13 (d+1))],⟨b.p,Wq bi ⟨ws,ds,by show 1<=min 13 (d+1);omega,Nat.min_le_left _ _⟩,by omega,by rw [Ab1];simp;omega⟩,B,?_⟩
  rw [Ga (d:=Gs) rfl _ _ _ rfl]
  simp only [Gs]
  rw [start,L,H,zb,qv (h1:=hP g (i++ [(s,d)])) (by simp_all [C])]
  have cd:cellD (hP g (i++ [(s,d)])) (y0 (.v (.ref 1)))=y0 (1,i.map pS++ [pr (zdG s) d]):=by
   show y0 (1,(i++ [(s,d)]).map pS)=_
   rw [Ac8];rfl
  refine fx (by
   simp_all [cd,jz,Wu]
   rfl) ?_
  rw [za (es _),zb]
  exact XF (xc9 (q:=(U,min 13 (d+1))) (by simp_all [wd,M,mn];rfl) rfl (by omega))
 have d15:GD .eq (.v (.int (w:Int))) (.v (.int 14)) (hP g l)=y0 false:=by rw [Jm,decide_eq_false (by omega)]
 have P:=ZW (h:=hP g l) (r:=1) (xs:=l.map pS) rfl
 rw [Aa]at P
 rw [Ga (d:=Gs) rfl _ _ _ rfl]
 simp only [Gs]
 rw [start,L,H,zb,jS (h1:=hP g l) (by simp_all [d15]),zb]
 by_cases c1:1<l.length
 ·have Q:v9 ((1:Int)<(l.length:Int))=true:=decide_eq_true (by omega)
  rw [qv (h1:=hP g l) (by simp_all [P,Jr,Q]),zb]
  obtain⟨i,⟨s,d⟩,⟨A,n⟩,rfl⟩:=ZM c1
  have S:=b.s (s,d) (Ac9 _ (Ab2 _ Aa3))
  have Y:=b.s (A,n) (Ab2 _ Aa3)
  have bi: ∀p∈i,zdq (K++T) p:=λp N=>b.s p (Ac9 _ (Ac9 _ N))
  have li:i.length+2<=m:=by have:=ls;rw [Ab1,Ab1]at this;exact this
  have m2:=qo x 2 (by decide)
  obtain⟨z,hz,ez⟩:=Zk x 2 (by decide)
  have ez:x % 2=(z:Int):=ez
  rw [ez]at m2
  obtain⟨t,f,ft,at2,fw,fd⟩: ∃(t:Tx) (f:Sy->Sy->Sy),(∀ a b,zdG (f a b)= .tup [.str t,zdG a,zdG b])/\atI [D.str zaU,.str jcH] (z:Int)=y0 (.str t)/\(∀ a b,a.wf (K++T)->b.wf (K++T)->(f a b).wf (K++T))/\ ∀a b,(f a b).dp=max a.dp b.dp+1:=by
   have z01:z=0\/z=1:=by omega
   rcases z01 with rfl | rfl
   ·exact⟨zaU,.conj,λ_ _=>rfl,rfl,λ_ _ o h2=>⟨o,h2⟩,λ_ _=>rfl⟩
   ·exact⟨jcH,.disj,λ_ _=>rfl,rfl,λ_ _ o h2=>⟨o,h2⟩,λ_ _=>rfl⟩
  have E:=xcn k 1 (hP g (i++ [(s,d)]++ [(A,n)])) (i.map pS) (zdG s) (zdG A) d n t (by show y0 (Cell.lst ((i++ [(s,d)]++ [(A,n)]).map pS))=_;rw [Ac8,Ac8];rfl) (Jt s) (Jt A) (by rw [Aa];omega)
  obtain⟨q,oq,eq⟩: ∃q:Sy×Nat,zdq (K++T) q/\xb8 t (zdG s) (zdG A) d n=pS q:=by
   by_cases c:13<1+max d n
   ·exact⟨(s,d),S,if_pos c⟩
   ·refine⟨(f s A,1+max d n),⟨fw _ _ S.wf Y.wf,?_,by show 1<=1+max d n;omega,by show 1+max d n<=13;omega⟩,?_⟩
    ·show(f s A).dp<=1+max d n+11
     rw [fd]
     have q1:s.dp<=d+11:=S.dp
     have q2:A.dp<=n+11:=Y.dp
     omega
    ·show(if 13<1+max d n then _ else _)=pr (zdG (f s A)) (1+max d n)
     rw [if_neg c,ft]
  rw [eq]at E
  have E:call prog (k+1) "_law_put" [.v (.ref 1),.v (.str t)] (hP g (i++ [(s,d)]++ [(A,n)]))= .ok (.v .non) (hP g (i++ [q])):=by
   rw [E]
   show R.ok (W.v .non) [.lst (g.map pP),.lst (i.map pS++ [pS q])]= .ok (.v .non) [.lst (g.map pP),.lst ((i++ [q]).map pS)]
   rw [Ac8];rfl
  refine⟨g,i++ [q],⟨b.p,Wq bi oq,by omega,by rw [Ab1];simp;omega⟩,B,?_⟩
  exact XF (by simp_all [m2,xp,at2,E];rfl)
 ·have Q:v9 ((1:Int)<(l.length:Int))=false:=decide_eq_false (by omega)
  refine⟨g,l,⟨b.p,b.s,by omega,by omega⟩,B,?_⟩
  rw [jS (h1:=hP g l) (by simp_all [P,Jr,Q])]
  exact GI _ _ _ rfl
def xds (i j:Int) (a:0<j) (h1:j<2000) (h:AH):biD .divmod [.v (.int i),.v (.int j)] h=okv (.tup [.int (i / j),.int (i % j)]) h:=by
 rw [jj,if_pos (by rw [GY];omega)]
noncomputable abbrev zdE (K T:List Tx) (x:Int) (e b c f a d:Option W):Sl:= [y0 (.v (wD K T)),y0 (.v (.int x)),y0 (.v (.ref 0)),y0 (.v (.ref 1)),e,b,c,f,a,d]
def qbX (k:Nat) (K T:List Tx) (p:(K++T).length<=100) (d:List (Ex×Nat)) (e:List (Sy×Nat)) (m:Nat) (b:zdu (K++T) d e m) (j:m<=100) (x:Int) (g q i:Option W):
 ∃a c y o s,zdu (K++T) a c (m+1)/\a≠ []/\execs (u9 (k+2)) Jg (zdE K T x g q i u0 u0 u0) (hP d e)= .next (zdE K T y g o s u0 u0 u0) (hP a c):=by
 obtain⟨w,n,f⟩:=Zk x 16 (by decide)
 have f:x % 16=(w:Int):=f
 have h:=xds x 16 (by decide) (by decide) (hP d e)
 rw [f]at h
 have r:=xds (x / 16) 1600 (by decide) (by decide) (hP d e)
 obtain⟨a,c,u,l,t⟩:=jda k K T p d e m b j w n (x / 16 % 1600)
 refine⟨a,c,x / 16 / 1600,y0 (.v (.int (w:Int))),y0 (.v (.int (x / 16 % 1600))),u,l,?_⟩
 simp only [Jg]
 refine(za (by simp_all [h];rfl)).trans ?_
 refine(za (by simp_all [r];rfl)).trans ?_
 rw [zb]
 simp_all [t]
theorem zcg (k:Nat) (K T:List Tx) (A:(K++T).length<=100): ∀(l:List Nat) (c:List (Ex×Nat)) (e:List (Sy×Nat)) (m:Nat) (x:Int) (j f d:Option W),zdu (K++T) c e m->(l= []->c≠ [])->m+l.length<=100 →
 ∃a g y G r t,zdu (K++T) a g (m+l.length)/\a≠ []/\Gq (Gp [4] k9) (λY h=>execs (u9 (k+2)) Jg Y h) (l.map λ(i:Nat)=> .int (i:Int)) (zdE K T x j f d u0 u0 u0) (hP c e)= .next (zdE K T y G r t u0 u0 u0) (hP a g)
 | [],c,e,m,x,j,f,d,b,w,v=>⟨c,e,x,j,f,d,b,w rfl,rfl⟩
 | i::l,c,e,m,x,j,f,d,b,w,v=>by
  rw [Ab9]at v
  obtain⟨s,n,y,r,t,C,o,F⟩:=qbX k K T A c e m b (by omega) x (y0 (.v (.int (i:Int)))) f d
  obtain⟨q,p,z,B,I,E,D,u,H⟩:=zcg k K T A l s n (m+1) y (y0 (.v (.int (i:Int)))) r t C (λ_=>o) (by omega)
  refine⟨q,p,z,B,I,E,by rw [Ab9,show m+(l.length+1)=m+1+l.length by omega];exact D,u,?_⟩
  rw [Aa9,xa (Y1:=zdE K T x (y0 (.v (.int (i:Int)))) f d u0 u0 u0) rfl F,H]
theorem jcE {F:Fx}(K T:List Tx){N:List Tx}(x:Int) (b d a:Option W) (h:AH): ∀(l:List (Sy×Nat)) (s:Sy) (f g:Option W) (c:Nat),(∀ p∈l,zdq N p)->s.wf N->s.dp<=c->24<=c →
 ∃s' m i,s'.wf N/\s'.dp<=c+l.length/\Gq (Gp [8,9] y9) (λY h=>execs F Xg Y h) (l.map pS) (zdE K T x b d a (y0 (.v (zdG s))) f g) h= .next (zdE K T x b d a (y0 (.v (zdG s'))) m i) h
 | [],s,f,g,c,_,j,n,_=>⟨s,f,g,j,n,rfl⟩
 | p::l,s,f,g,c,o,j,n,y=>by
  have k:=o p Aa3
  have w:=k.dp
  have z:=k.le
  have r:(Sy.conj s p.1).dp<=c+1:=by
   show max s.dp p.1.dp+1<=c+1
   omega
  obtain⟨s',m,i,t,v,e⟩:=jcE (F:=F) K T x b d a h l (.conj s p.1) (y0 (.v (zdG p.1))) (y0 (.v (.int (p.2:Int)))) (c+1) (λq u=>o q (Aa2 _ u)) ⟨j,k.wf⟩ r (by omega)
  refine⟨s',m,i,t,by rw [Ab9];omega,?_⟩
  rw [Aa9,xa (Y1:=zdE K T x b d a (y0 (.v (zdG s))) (y0 (.v (zdG p.1))) (y0 (.v (.int (p.2:Int))))) (Y2:=zdE K T x b d a (y0 (.v (zdG (.conj s p.1)))) (y0 (.v (zdG p.1))) (y0 (.v (.int (p.2:Int))))) rfl (by
   simp only [Xg]
   rw [zb]
   simp_all []
   rfl),e]
def jbO {h:AH}{r:Nat}{x:D}{xs:List D}(c:h[r]? =y0 (.lst (x::xs))):slD (.v (.ref r)) (y0 1) u0 h= .ok (.own xs) h:=by
 have e:(W.v (.ref r)).lst? h=y0 (x::xs):=by simp [W.lst?,c]
 show(match (W.v (.ref r)).lst? h with
  | some xs=>R.ok (W.own (cut xs (y0 1) u0)) h
  | none=> .fail)=_
 rw [e]
 show R.ok (W.own (cut (x::xs) (y0 1) u0)) h=_
 rw [show cut (x::xs) (y0 1) u0=xs from by
  have b:sIx (x::xs).length 0 (y0 1)=1:=by simp [sIx]
  have a:sIx (x::xs).length (x::xs).length u0=(x::xs).length:=rfl
  unfold cut
  rw [b,a]
  simp]
def Q3 (k) (K T) (D:(K++T).length<=100) (x): ∃s:Sy,s.wf (K++T)/\s.dp<=40/\call prog (k+3) "_law_saying" [.v (wD K T),.v (.int x)] []= .ok (.v (zdG s)) []:=by
 obtain⟨a,c,y,n,j,i,b,J,e⟩:=zcg k K T D (Aa0 7) [] [] 0 x u0 u0 u0 ⟨λ_ h=>absurd h Ac2,λ_ h=>absurd h Ac2,Ah3 _,Ah3 _⟩ (λh=>by cases h) (by decide)
 have u: ∀ c y i,(∀ p∈c,zdq (K++T) p)->c≠ []->c.length<=10-> ∃s:Sy,s.wf (K++T)/\s.dp<=40/\Ka 0 (execs (u9 (k+2)) (.cons (.setf 7 (.ix (.ix (.var 3) (.int 0)) (.int 0))) (.cons (.for [8,9] y9 (.seq (.slL (.var 3) (.int 1))) Xg) (.cons (.ret (.var 7)) .nil))) (zdE K T y n j i u0 u0 u0) (hP a c))= .ok (.v (zdG s)) []:=by
  intro c y i t L D
  cases c with
  | nil=>exact absurd rfl L
  | cons p l=>
   have E:=t p Aa3
   have V:=E.dp
   have X:=E.le
   obtain⟨o,P,G,g,v,e⟩:=jcE K T y n j i (hP a (p::l)) l p.1 u0 u0 24 (λq S=>t q (Aa2 _ S)) E.wf (by omega) (Aa5 _)
   rw [Ab9]at D
   refine⟨o,g,by omega,?_⟩
   have F:=jaG (h:=hP a (p::l)) (r:=1) (xs:=(p::l).map pS) rfl 0
   have H: ∀h,ixD (.v (pS p)) (.v (.int 0)) h=y0 (zdG p.1):=λ_=>rfl
   have Q:atI ((p::l).map pS) 0=y0 (pS p):=by rw [Aa9,Jo]
   rw [Q]at F
   refine fx (by simp_all [F,H];rfl) ?_
   have sl:=jbO (h:=hP a (p::l)) (r:=1) (x:=pS p) (xs:=l.map pS) rfl
   rw [za (h1:=hP a (p::l)) (Y1:=zdE K T y n j i (y0 (.v (zdG o))) P G) (by
    rw [exec,show Gu (u9 (k+2)) (.seq (.slL (.var 3) (.int 1))) (zdE K T y n j i (y0 (.v (zdG p.1))) u0 u0) (hP a (p::l))= .ok (l.map pS) (hP a (p::l))by simp_all [sl],R.toO_ok]
    exact e)]
   rw [Zb (w:= .v (zdG o)) (h1:=hP a (p::l)) rfl]
   show fin 0 (.v (zdG o)) (hP a (p::l))=_
   unfold fin
   rw [if_neg (by show ¬(2:Nat)=0;decide),if_pos (show (W.v (zdG o)).keep=k9 from Jt o)]
   rfl
 rw [Ga (d:=GE) rfl _ _ _ rfl]
 simp only [GE]
 rw [za (h1:= [.lst []]) (Y1:= [y0 (.v (wD K T)),y0 (.v (.int x)),y0 (.v (.ref 0)),u0,u0,u0,u0,u0,u0,u0]) (by simp_all [Gd,if_true];rfl)]
 rw [za (h1:=hP [] []) (Y1:=zdE K T x u0 u0 u0 u0 u0 u0) (by simp_all [Gd,if_true];rfl)]
 rw [za (h1:=hP a c) (Y1:=zdE K T y n j i u0 u0 u0) (by
  rw [exec,QF,Qd (m:=7) (by rw [eval];rfl) (by decide),R.toO_ok]
  exact e)]
 by_cases t:c= []
 ·subst t
  have O:=xds y 1600 (by decide) (by decide) (hP a [])
  obtain⟨f,wf,U,A⟩:=qbl (k+1) (K++T) a b.p J (y % 1600) (hP a []) rfl
  have A:call prog (k+2) "_law_fact" [.v (.ref 0),.v (.int (y % 1600))] (hP a [])= .ok (.v (jdY f)) (hP a []):=A
  have M:Gc (pr (zdG (.fact f)) 1)=true:=J1 (.fact f,1)
  have C:GD .eq (.v (.ref 1)) (.own []) (hP a [])=y0 true:=by simp [GD,hP,W.dd,KQ,res]
  obtain⟨s,g,v,B⟩:=u [(.fact f,1)] (y / 1600) (y0 (.v (.int (y % 1600)))) (λp N=>by
   obtain rfl:=Af1.mp N
   exact⟨wf,by show f.dp<=1+11;omega,Aa5 1,by show 1<=13;decide⟩) (by simp) (show 1<=10 by decide)
  refine⟨s,g,v,?_⟩
  rw [za (h1:=hP a [(.fact f,1)]) (Y1:=zdE K T (y / 1600) n j (y0 (.v (.int (y % 1600)))) u0 u0 u0) (by
   rw [qv (h1:=hP a []) (by simp_all [C])]
   rw [za (h1:=hP a []) (Y1:=zdE K T (y / 1600) n j (y0 (.v (.int (y % 1600)))) u0 u0 u0) (by simp_all [O])]
   rw [zb]
   simp_all [Zg (h:=hP a []) (r:=1) rfl,A]
   rw [if_pos ⟨by rw [Gi];decide,M⟩]
   rfl)]
  exact B
 ·have C:GD .eq (.v (.ref 1)) (.own []) (hP a c)=y0 false:=ZH (xs:=c.map pS) rfl (jH pS J1 c) (Ac0 (qL pS 40 c λx I=>jbw (b.s x I)) (by decide)) λz=>t (Ak4.mp z)
  have bl:=b.ls
  rw [Aj4]at bl
  obtain⟨s,g,v,B⟩:=u c y i b.s t (by omega)
  refine⟨s,g,v,?_⟩
  refine fx (by
   rw [jS (h1:=hP a c) (by simp_all [C])]
   rfl) ?_
  exact B
def zca (i:Nat) (j:Nat) (h:i<2000000) (a:j<100):Gn .pow (i:Int) (j:Int)=y0 ((i:Int) ^ j):=by
 have: 0<=(j:Int)/\ j<=BP/\((i:Int)).natAbs<qdF:=by rw [KW,GX];refine⟨by omega,by omega,?_⟩;rw [Int.natAbs_natCast];omega
 show(if _ then _ else _)=_
 rw [if_pos this];rfl
def X4 (k) (x) (h): ∃y:Int,call prog (k+1) "_law_spread" [.v (.int x)] h= .ok (.v (.int y)) h:=by
 have c:=qo x 1000003 (by decide)
 obtain⟨u,i,a⟩:=Zk x 1000003 (by decide)
 have a:x % 1000003= u:=a
 rw [a]at c
 have b: u+29=((u+29:Nat):Int):=rfl
 have d:Gn .pow ((u+29:Nat):Int) 11=y0 (((u+29:Nat):Int) ^ 11):=zca (u+29) 11 (by omega) (by decide)
 have e:Gn .pow ((u+29:Nat):Int) 7=y0 (((u+29:Nat):Int) ^ 7):=zca (u+29) 7 (by omega) (by decide)
 have f:Gn .mul 31 (((u+29:Nat):Int) ^ 7)=y0 (31*((u+29:Nat):Int) ^ 7):=by
  show(if _ then _ else _)=_
  rw [if_pos (.inl (by rw [K4];decide))]
 have g:=Zx (((u+29:Nat):Int) ^ 11+31*((u+29:Nat):Int) ^ 7) 13 (by decide) (by decide)
 refine⟨(((u+29:Nat):Int) ^ 11+31*((u+29:Nat):Int) ^ 7) / 13,?_⟩
 rw [Ga rfl _ _ _ rfl]
 simp only [GR]
 refine fx (by simp_all [c,wd,b];rfl) ?_
 rw [Zb (w:= .v (.int ((((u+29:Nat):Int) ^ 11+31*((u+29:Nat):Int) ^ 7) / 13))) (h1:=h) (xc rfl (by simp_all [d,e,f,wd,g]))]
 exact Gb _ _ _ rfl
def zbO (f:α->β) (xs) (lo hi):cut (xs.map f) lo hi=(cut xs lo hi).map f:=by
 unfold cut
 rw [Aa,List.map_take,List.map_drop]
def zbV (xs:List α) (lo hi):(cut xs lo hi).length<=xs.length:=by
 unfold cut
 rw [Ag3,Ai5]
 omega
def qam (k) (a:List Int) (t:a.length<=63) (K T) (p:(K++T).length<=100) (u:Nat): ∃ss:List Sy,ss.length<=63/\(∀ s∈ss,s.wf (K++T)/\s.dp<=40)/\call prog (k+4) "_law_sayings" [.v (.lst (a.map .int)),.v (wD K T),.v (.int 2),.v (.int (u:Int))] []= .ok (.v (.tup (ss.map zdG))) []:=by
 have fin: ∀b:List Int,b.length<=63-> ∃ss:List Sy,ss.length<=63/\(∀ s∈ss,s.wf (K++T)/\s.dp<=40)/\exec (u9 (k+3)) (.ret (.bi .tuple (.cons Qf .nil))) [y0 (.v (.lst (a.map .int))),y0 (.v (wD K T)),y0 (.v (.int 2)),y0 (.v (.int (u:Int))),y0 (.v (.lst (b.map .int)))] []= .ret (.v (.tup (ss.map zdG))) []:=λb h=>by
  obtain⟨g,i⟩: ∃g:Int->Sy,∀x,(g x).wf (K++T)/\(g x).dp<=40/\call prog (k+3) "_law_saying" [.v (wD K T),.v (.int x)] []= .ok (.v (zdG (g x))) []:=⟨fun x=>Classical.choose (Q3 k K T p x),fun x=>Classical.choose_spec (Q3 k K T p x)⟩
  refine⟨b.map g,by rw [Aa];exact h,λs r=> ?_,?_⟩
  ·obtain⟨x,_,rfl⟩:=Ac.mp r
   exact⟨(i x).1,(i x).2.1⟩
  ·refine xc rfl ?_
   have e:eval (u9 (k+3)) Qf [y0 (.v (.lst (a.map .int))),y0 (.v (wD K T)),y0 (.v (.int 2)),y0 (.v (.int (u:Int))),y0 (.v (.lst (b.map .int)))] []= .ok (.own (b.map λx=>zdG (g x))) []:=by
    unfold Qf
    refine Qe D.int (λx=>zdG (g x)) b (xch (by simp_all [])) (by omega) λx q=>⟨.v (zdG (g x)),?_,rfl⟩
    have l:=(i x).2.2
    simp_all [l]
   rw [Ac6]
   simp_all [e]
   rfl
 have j:=xbG (k+2) a 0 []
 have o:=qo (a.getD 0 0) 2 (by decide)
 have w:(2:Int)+(u:Int)=((2+u:Nat):Int):=rfl
 rw [Ga (d:=Gx) rfl _ _ _ rfl]
 simp only [Gx]
 have h:(cut a (y0 2) (y0 ((2+u:Nat):Int))).length<=63:=Ac0 (zbV _ _ _) t
 rw [za (h1:= []) (Y1:= [y0 (.v (.lst (a.map .int))),y0 (.v (wD K T)),y0 (.v (.int 2)),y0 (.v (.int (u:Int))),y0 (.v (.lst ((cut a (y0 2) (y0 ((2+u:Nat):Int))).map .int)))]) (by
  simp_all [wd,int?_int,qcx,zbO,w])]
 generalize cut a (y0 2) (y0 ((2+u:Nat):Int))=b at h
 have j:call prog (k+3) "_law_nth" [.v (.lst (a.map .int)),.v (.int 0)] []= .ok (.v (.int (a.getD 0 0))) []:=j
 obtain⟨g,i⟩: ∃g:Int->Int,∀x,call prog (k+3) "_law_spread" [.v (.int x)] []= .ok (.v (.int (g x))) []:=⟨fun x=>Classical.choose (X4 (k+2) x []),fun x=>Classical.choose_spec (X4 (k+2) x [])⟩
 by_cases c:a.getD 0 0 % 2=1
 ·have v:eval (u9 (k+3)) zj [y0 (.v (.lst (a.map .int))),y0 (.v (wD K T)),y0 (.v (.int 2)),y0 (.v (.int (u:Int))),y0 (.v (.lst (b.map .int)))] []= .ok (.own ((b.map g).map .int)) []:=by
   rw [Ac6]
   unfold zj
   refine Qe D.int (λx=> .int (g x)) b (xch (by simp_all [])) (by omega) λx q=>⟨.v (.int (g x)),?_,rfl⟩
   have l:=i x
   simp_all [l]
  obtain⟨ss,f,m,n⟩:=fin (b.map g) (by rw [Aa];exact h)
  refine⟨ss,f,m,?_⟩
  refine fx (by
   rw [qv (h1:= []) (by simp_all [j,o,Jm,c,decide_true])]
   rw [zb]
   simp_all [v]
   rfl) ?_
  rw [Zb n]
  exact Gb _ _ _ rfl
 ·obtain⟨ss,f,m,n⟩:=fin b h
  refine⟨ss,f,m,?_⟩
  rw [Za (by simp_all [j,o,Jm,c,decide_false])]
  rw [Zb n]
  exact Gb _ _ _ rfl
theorem zbk: ∀(ws) (c),(dg ws c).length=ws.length
 | [],_=>rfl
 | w::ws,c=>by rw [dg,Ab9,zbk ws,Ab9]
theorem qcc: ∀(ws:List Nat) (c),(∀ w∈ws,w<=16)->xdV (ws.zip (dg ws c))
 | [],_,_=>λq h=>by cases h
 | w::ws,c,a=>λq h=>by
  rcases Ab4.mp (show q∈(w,c % 2 ^ w)::ws.zip (dg ws (c / 2 ^ w))from h)with rfl | h
  ·exact⟨Ao3 _ (Ai8 (by decide)),a w Aa3⟩
  ·exact qcc ws _ (λx b=>a x (Aa2 _ b)) q h
theorem jcu: ∀(ws:List Nat) (c),c<2 ^ ws.sum->cd (ws.zip (dg ws c))=c
 | [],c,h=>by
  have:c=0:=by simpa using h
  rw [this];rfl
 | w::ws,c,h=>by
  show c % 2 ^ w+2 ^ w*cd (ws.zip (dg ws (c / 2 ^ w)))=c
  rw [jcu ws (c / 2 ^ w) ?_,Nat.mod_add_div]
  rw [Ai0,Ak9,Ai]at h
  exact Nat.div_lt_of_lt_mul (by rw [Ai];exact h)
def ja2 (h:n<=4) (i:K<=4) (j:T<=4) (l:c<2 ^ (qdM n K T).sum): ∃ks ts,ks.length=K/\ts.length=T/\Wl n ks ts/\Cw n ks ts=c/\ks++ts=dg (qdM n K T) c:=by
 have d:=Ad7 h h
 have k:=zbk (qdM n K T) c
 rw [zo]at k
 have ok:=qcc (qdM n K T) c λw a=>by
  rcases Af2.mp a with a | a
  ·rw [(Al1.mp a).2];omega
  ·rw [(Al1.mp a).2];exact d
 have e:=jcu (qdM n K T) c l
 have b:((dg (qdM n K T) c).take K).length=K:=by rw [Ag3];omega
 have l2:((dg (qdM n K T) c).drop K).length=T:=by rw [Ai5];omega
 have f:=List.take_append_drop K (dg (qdM n K T) c)
 have z:=zbv n ((dg (qdM n K T) c).take K) ((dg (qdM n K T) c).drop K)
 rw [b,l2,f]at z
 rw [z]at ok
 refine⟨_,_,b,l2,⟨h,by rw [b];exact i,by rw [l2];exact j,λx g=> ?_,λx g=> ?_⟩,?_,f⟩
 ·exact(ok (n,x) (Ac9 _ (Ac.mpr ⟨x,g,rfl⟩))).1
 ·exact(ok (n*n,x) (Ab2 _ (Ac.mpr ⟨x,g,rfl⟩))).1
 ·unfold Cw
  rw [b,l2,f]
  exact e
theorem jby: ∀(a b) (c),dg (a++b) c=dg a c++dg b (c / 2 ^ a.sum)
 | [],b,c=>by simp [dg]
 | w::a,b,c=>by
  show c % 2 ^ w::dg (a++b) (c / 2 ^ w)=c % 2 ^ w::(dg a (c / 2 ^ w)++dg b (c / 2 ^ (w+a.sum)))
  rw [jby a b,Nat.div_div_eq_div_mul,Ak9]
def xdL (B:Nat):Nat->Nat->List Nat
 | 0,_=> []
 | m+1,y=>y % B::xdL B m (y / B)
def zdC (B:Nat):Nat->Nat->Nat
 | 0,y=>y
 | m+1,y=>zdC B m (y / B)
theorem qap (B): ∀m y,(xdL B m y).length=m
 | 0,_=>rfl
 | m+1,y=>by rw [xdL,Ab9,qap B m]
def jdz (n K T x:Nat):List Nat:=xdL (2 ^ n) K (x % 2 ^ (K*n+T*n*n))
def zdB (n K T x:Nat):List Nat:=xdL (2 ^ (n*n)) T (zdC (2 ^ n) K (x % 2 ^ (K*n+T*n*n)))
theorem zW (B) (mk:Nat->List D->Option W->Option W->Sl) (body) (h)
 (g: ∀ y c a b i,c.length<1000-> ∃Y1,Gp [7] k9 (.int (i:Int)) (mk y (xdO c) a b)=y0 Y1/\execs F body Y1 h= .next (mk (y / B) (xdO (c++ [y % B])) (y0 (.v (.int (i:Int)))) (y0 (.v (.int ((y % B:Nat):Int))))) h):
 ∀ m i y c a b,c.length+m<=1000-> ∃f d,
 Gq (Gp [7] k9) (λY h=>execs F body Y h) ((Aa0 m).map λj=>D.int ((i+j:Nat):Int)) (mk y (xdO c) a b) h= .next (mk (zdC B m y) (xdO (c++xdL B m y)) f d) h
 | 0,i,y,c,a,b,_=>⟨a,b,by rw [xdL,Ae7];rfl⟩
 | m+1,i,y,c,a,b,n=>by
  obtain⟨Y1,k,l⟩:=g y c a b i (by omega)
  obtain⟨f,d,e⟩:=zW B mk body h g m (i+1) (y / B) (c++ [y % B]) (y0 (.v (.int i))) (y0 (.v (.int ((y % B:Nat))))) (by simp;omega)
  refine⟨f,d,?_⟩
  rw [zm,xa k l,e,Ae9]
  rfl
def zbb (k n K T x:Nat) (h) (f:n<=4) (u:K<=4) (w:T<=4):call prog (k+1) "_law_world" [.v (.int (n:Int)),.v (.int (K:Int)),.v (.int (T:Int)),.v (.int (x:Int))] h= .ok (.v (Wc n (jdz n K T x) (zdB n K T x))) h:=by
 have Q:=xk (n:=n) (by omega)
 have U:2 ^ n<=2 ^ 4:=Ad0 (by decide) f
 have W:2 ^ (n*n)<=2 ^ 16:=Ad0 (by decide) (Ad7 f f)
 have Z:0<2 ^ n:=Ai8 (by decide)
 have p2:0<2 ^ (n*n):=Ai8 (by decide)
 have E:=Z9 n (by omega)
 have L:=Z9 (n*n) (by omega)
 have C:Gn .mul (n:Int) (n:Int)=y0 ((n*n:Nat):Int):=Xc n n (by omega)
 have D:Gn .mul (K:Int) (n:Int)=y0 ((K*n:Nat):Int):=Xc K n (by omega)
 have S:Gn .mul (T:Int) (n:Int)=y0 ((T*n:Nat):Int):=Xc T n (by omega)
 have X:K*n<=4*4:=Ad7 u f
 have J:T*n<=4*4:=Ad7 w f
 have t3:T*n*n<=4*4*4:=Ad7 J f
 have P:Gn .mul ((T*n:Nat):Int) (n:Int)=y0 ((T*n*n:Nat):Int):=Xc (T*n) n (by omega)
 have N:=Z9 (K*n+T*n*n) (by omega)
 have p3:0<2 ^ (K*n+T*n*n):=Ai8 (by decide)
 have O:((K*n:Nat):Int)+((T*n*n:Nat):Int)=((K*n+T*n*n:Nat):Int):=rfl
 have q:=qo (x:Int) ((2 ^ (K*n+T*n*n):Nat):Int) (by omega)
 generalize s:x % 2 ^ (K*n+T*n*n)=y
 have q:Gn .mod (x:Int) ((2 ^ (K*n+T*n*n):Nat):Int)=y0 (y:Int):=by rw [q,←Int.natCast_emod,s]
 have B:(0:Int)<((2 ^ n:Nat):Int)/\((2 ^ n:Nat):Int)<jdO:=by rw [GY];omega
 have H:(0:Int)<((2 ^ (n*n):Nat):Int)/\((2 ^ (n*n):Nat):Int)<jdO:=by rw [GY];omega
 obtain⟨G,o,v⟩:=zW (F:=(u9 k)) (2 ^ n) (λy l a b=> [y0 (.v (.int (n:Int))),y0 (.v (.int (K:Int))),y0 (.v (.int (T:Int))),y0 (.v (.int (x:Int))),y0 (.v (.int (y:Int))),y0 (.own l),y0 (.own []),a,b]) jm h (λy c a b i M=>⟨_,rfl,by
  have j:(xdO c).length<LIM:=by rw [Gi,Aa];omega
  have g:xdO (c++ [y % 2 ^ n])=xdO c++ [.int ((y % 2 ^ n:Nat):Int)]:=by rw [xdO,Ac8];rfl
  have p:(y:Int) / ((2 ^ n:Nat):Int)=((y / 2 ^ n:Nat):Int):=rfl
  have r:(y:Int) % ((2 ^ n:Nat):Int)=((y % 2 ^ n:Nat):Int):=rfl
  rw [g]
  simp_all [jm,E,jj,B,and_self,if_true,j,p,r]⟩) K 0 y [] u0 u0 (by simp;omega)
 obtain⟨a2,I,A⟩:=zW (F:=(u9 k)) (2 ^ (n*n)) (λz l a b=> [y0 (.v (.int (n:Int))),y0 (.v (.int (K:Int))),y0 (.v (.int (T:Int))),y0 (.v (.int (x:Int))),y0 (.v (.int (z:Int))),y0 (.own (xdO (xdL (2 ^ n) K y))),y0 (.own l),a,b]) wm h (λy c a b i M=>⟨_,rfl,by
  have j:(xdO c).length<LIM:=by rw [Gi,Aa];omega
  have g:xdO (c++ [y % 2 ^ (n*n)])=xdO c++ [.int ((y % 2 ^ (n*n):Nat):Int)]:=by rw [xdO,Ac8];rfl
  have p:(y:Int) / ((2 ^ (n*n):Nat):Int)=((y / 2 ^ (n*n):Nat):Int):=rfl
  have r:(y:Int) % ((2 ^ (n*n):Nat):Int)=((y % 2 ^ (n*n):Nat):Int):=rfl
  rw [g]
  simp_all [wm,C,L,jj,H,and_self,if_true,j,p,r]⟩) T 0 (zdC (2 ^ n) K y) [] G o (by simp;omega)
 rw [Ga (d:=GO) rfl _ _ _ rfl]
 simp only [GO]
 simp only [Ag8,Af0]at v A
 refine fx (by simp_all [D,S,P,wd,O,N,q];rfl) ?_
 refine fx (by simp_all [];rfl) ?_
 refine fx (by simp_all [];rfl) ?_
 have t: ∀(i:Nat) (m:Nat) (Y:Sl),m<=4->Gg Y i=y0 (.v (.int (m:Int)))->Gu (u9 k) (.range1 (.var i)) Y h= .ok ((Aa0 m).map λ(i:Nat)=> .int (i:Int)) h:=λi m Y V e=>Qd (m:=m) (by rw [eval,e]) (by omega)
 rw [za (by
  rw [exec,t 1 K _ u rfl,R.toO_ok]
  exact v)]
 rw [za (by
  rw [exec,t 2 T _ w rfl,R.toO_ok]
  exact A)]
 unfold jdz zdB
 rw [s]
 simp_all [xR]
theorem jal (w): ∀m c,dg (Ab m w) c=xdL (2 ^ w) m c
 | 0,_=>rfl
 | m+1,c=>by rw [Ac7,dg,xdL,jal w m]
theorem xbo (w): ∀m c,c / 2 ^ (Ab m w).sum=zdC (2 ^ w) m c
 | 0,c=>by show c / 2 ^ 0=c;rw [Nat.pow_zero,Nat.div_one]
 | m+1,c=>by rw [Ac7,Ai0,Ak9,←Nat.div_div_eq_div_mul,xbo w m,zdC]
def QI (n K T):(qdM n K T).sum=K*n+T*n*n:=by rw [xbx,Nat.mul_assoc]
structure At (n K T c:Nat) (ks ts:List Nat):Prop where
 lk:ks.length=K
 lt:ts.length=T
 wl:Wl n ks ts
 cd:Cw n ks ts=c
def jdl (m:n<=4) (d:K<=4) (g:T<=4) (b:c<2 ^ (K*n+T*n*n)):At n K T c (jdz n K T c) (zdB n K T c):=by
 obtain⟨p,o,a,h,i,f,j⟩:=ja2 m d g (by rw [QI];exact b)
 have e:jdz n K T c++zdB n K T c=dg (qdM n K T) c:=by
  unfold jdz zdB qdM
  rw [Nat.mod_eq_of_lt b,jby,jal,jal,xbo]
 rw [← j]at e
 obtain⟨l,k⟩:=List.append_inj e (by rw [a];exact qap _ _ _)
 rw [l,k]
 exact⟨a,h,i,f⟩
def At.lt_c (a:At n K T c ks ts):c<2 ^ (K*n+T*n*n):=by
 have h:=xbT a.wl.ok
 rw [← a.cd,←QI]
 have e:wS ((qdM n ks.length ts.length).zip (ks++ts))=(qdM n K T).sum:=by
  unfold wS
  rw [List.map_fst_zip (by rw [zo,Ab1];omega),a.lk,a.lt]
 rw [e]at h
 exact h
def At.uniq (a:At n K T c ks ts) (b:At n K T c ks' ts'):ks=ks'/\ts=ts':=qbs a.wl b.wl (a.lk.trans b.lk.symm) (a.lt.trans b.lt.symm) (a.cd.trans b.cd.symm)
theorem At.mv (a:At n K T c ks ts) (q:Od n o):At n K T (Cw n (ks.map (kM n o)) (ts.map (tK n o))) (ks.map (kM n o)) (ts.map (tK n o)):=⟨by rw [Aa];exact a.lk,by rw [Aa];exact a.lt,a.wl.mv q,rfl⟩
structure Ct (n:Nat) (K T:List Tx) (ss:List Sy):Prop where
 hn:n<=4
 hK:K.length<=4
 hT:T.length<=4
 nd:(K++T).Nodup
 hs: ∀s∈ss,s.wf (K++T)/\s.dp<=40
 hl:ss.length<=63
 hb:K.length*n+T.length*n*n<=9
abbrev nB (n:Nat) (K T:List Tx):Nat:=2 ^ (K.length*n+T.length*n*n)
noncomputable def zdR (n:Nat) (K T:List Tx) (ks ts:List Nat) (s:Sy):Bool:=open Classical in v9 (call prog 56 "keeps" [.v (wD K T),.v (Wc n ks ts),.v (zdG s)] []= .ok (.v (.bl true)) [])
noncomputable def xdr (n:Nat) (K T:List Tx) (a:List Sy) (ks ts:List Nat):Bool:=a.all (zdR n K T ks ts)
def Od.one (n):Od n (Aa0 n):=⟨List.Perm.refl _⟩
section
variable {n:Nat}{K T:List Tx}{ss:List Sy}(C:Ct n K T ss)
include C
def Ct.n5:nB n K T<=512:=by
 have h:nB n K T<=2 ^ 9:=Ad0 (by decide) C.hb
 exact h
def Ct.wo (a:At n K.length T.length c ks ts):(Wo.mk n K T ks ts).Ok:=⟨C.hK,C.hT,⟨C.nd⟩,⟨C.hn,a.lk,a.lt,a.wl.bk,a.wl.bt⟩⟩
def zy (a:At n K.length T.length c ks ts) (l:Od n o)(g:s∈ss):zdR n K T (ks.map (kM n o)) (ts.map (tK n o)) s=zdR n K T ks ts s/\ ∀m,48<=m->call prog m "keeps" [.v (wD K T),.v (Wc n ks ts),.v (zdG s)] []= .ok (.v (.bl (zdR n K T ks ts s))) []:=by
 obtain⟨j,q⟩:=C.hs s g
 obtain⟨b,d⟩:=j9 (C.wo a) l [] s j
 have k:call prog 56 "keeps" [.v (wD K T),.v (Wc n ks ts),.v (zdG s)] []= .ok (.v (.bl b)) []:=(d 54 (by omega)).1
 have i:call prog 56 "keeps" [.v (wD K T),.v (Wc n (ks.map (kM n o)) (ts.map (tK n o))),.v (zdG s)] []= .ok (.v (.bl b)) []:=(d 54 (by omega)).2
 have f:zdR n K T ks ts s=b:=by
  unfold zdR
  rw [k]
  cases b<;>simp
 have h:zdR n K T (ks.map (kM n o)) (ts.map (tK n o)) s=b:=by
  unfold zdR
  rw [i]
  cases b<;>simp
 refine⟨h.trans f.symm,λm p=> ?_⟩
 rw [f]
 have e:=(d (m-2) (by omega)).1
 rw [show m-2+2=m by omega]at e
 exact e
def zcH (a:At n K.length T.length c ks ts) (d:Od n o):xdr n K T ss (ks.map (kM n o)) (ts.map (tK n o))=xdr n K T ss ks ts:=by
 unfold xdr
 rw [Ad8,Ad3,Ad3]
 exact⟨λh s b=>(zy C a d b).1▸h s b,λh s b=>((zy C a d b).1).symm▸h s b⟩
def zcd (a:At n K.length T.length c ks ts) (m) (d:48<=m):call prog (m+1) "_law_keep" [.v (wD K T),.v (Wc n ks ts),.v (.tup (ss.map zdG))] []= .ok (.v (.bl (xdr n K T ss ks ts))) []:=by
 rw [Ga rfl _ _ _ rfl]
 simp only [Ke]
 rw [Zb (w:= .v (.bl (xdr n K T ss ks ts))) (xc rfl (by
  unfold xdr
  rw [← J3]
  refine xn ?_
  rw [Ac6]
  refine Qe zdG (λs=> .bl (zdR n K T ks ts s)) ss (jb8 (by simp_all [])) (by have:=C.hl;omega) λs b=>⟨.v (.bl (zdR n K T ks ts s)),?_,rfl⟩
  have e:=(zy C a (Od.one n) b).2 m d
  simp_all [e]))]
 exact Gb _ _ _ rfl
omit C in
theorem xba (i:Nat) (d:D) (a:List D):KO i (d::a)= .tup [.int (i:Int),d]::KO (i+1) a:=rfl
noncomputable abbrev zdx (n:Nat) (K T:List Tx) (ks ts:List Nat) (b:List Sy) (a c:Option W):Sl:= [y0 (.v (wD K T)),y0 (.v (Wc n ks ts)),y0 (.v (.tup (b.map zdG))),a,c]
theorem qcs (a:At n K.length T.length c ks ts) (m) (g:48<=m): ∀(l:List Sy) i d b,(∀ s∈l,s∈ss) →
 (∃ p r,l.all (zdR n K T ks ts)=k9/\Gq (Gp [3,4] y9) (λY h=>execs (u9 m) Wb Y h) (KO i (l.map zdG)) (zdx n K T ks ts ss d b) []= .next (zdx n K T ks ts ss p r) []) ∨
 ∃j:Nat,l.all (zdR n K T ks ts)=y9/\Gq (Gp [3,4] y9) (λY h=>execs (u9 m) Wb Y h) (KO i (l.map zdG)) (zdx n K T ks ts ss d b) []= .ret (.v (.int (j:Int))) []
 | [],i,d,b,_=> .inl ⟨d,b,rfl,rfl⟩
 | s::l,i,d,b,f=>by
  have e:=(zy C a (Od.one n) (f s Aa3)).2 m g
  rw [Aa9,xba,Ai1]
  cases q:zdR n K T ks ts s with
  | true=>
   rw [q]at e
   rw [xa (Y1:=zdx n K T ks ts ss (y0 (.v (.int i))) (y0 (.v (zdG s)))) rfl (by
    simp only [Wb]
    rw [Za (by simp_all [e])]
    rfl),Aj]
   exact qcs a m g l (i+1) _ _ λt k=>f t (Aa2 _ k)
  | false=>
   rw [q]at e
   refine .inr ⟨i,rfl,?_⟩
   rw [XG,show Gp [3,4] y9 (.tup [.int i,zdG s]) (zdx n K T ks ts ss d b)=y0 (zdx n K T ks ts ss (y0 (.v (.int i))) (y0 (.v (zdG s))))from rfl]
   have o:execs (u9 m) Wb (zdx n K T ks ts ss (y0 (.v (.int i))) (y0 (.v (zdG s)))) []= .ret (.v (.int i)) []:=by
    simp only [Wb]
    rw [Jj (by simp_all [e]) rfl]
   simp only [o]
def xbb (a:At n K.length T.length c ks ts) (m) (g:48<=m): ∃d,call prog (m+1) "first_broken" [.v (wD K T),.v (Wc n ks ts),.v (.tup (ss.map zdG))] []= .ok (.v d) []/\d=(if xdr n K T ss ks ts then .non else d)/\(xdr n K T ss ks ts=false-> ∃i,d= .int i):=by
 have l:Gu (u9 m) (.enum (.var 2)) (zdx n K T ks ts ss u0 u0) []= .ok (KO 0 (ss.map zdG)) []:=by
  simp_all []
 rw [Ga rfl _ _ _ rfl]
 simp only [GH]
 rcases qcs C a m g ss 0 u0 u0 (λs f=>f)with⟨k,h,b,e⟩ | ⟨j,b,e⟩
 ·refine⟨.non,?_,?_,?_⟩
  ·rw [za (by
    exact e)]
   exact Gb _ _ _ rfl
  ·rw [show xdr n K T ss ks ts=k9 from b];rfl
  ·intro z
   rw [show xdr n K T ss ks ts=k9 from b]at z
   cases z
 ·refine⟨.int j,?_,?_,λ_=>⟨_,rfl⟩⟩
  ·rw [Zb (by
    exact e)]
   exact Gb _ _ _ rfl
  ·rw [show xdr n K T ss ks ts=y9 from b];rfl
abbrev wX (n:Nat) (K T:List Tx) (c:Nat):D:=Wc n (jdz n K.length T.length c) (zdB n K.length T.length c)
noncomputable def kc (n:Nat) (K T:List Tx) (a:List Sy) (c:Nat):Bool:=xdr n K T a (jdz n K.length T.length c) (zdB n K.length T.length c)
omit C in
theorem Ct.at (C:Ct n K T ss){c:Nat}(a:c<nB n K T):At n K.length T.length c (jdz n K.length T.length c) (zdB n K.length T.length c):=jdl C.hn C.hK C.hT a
noncomputable abbrev zb9 (n:Nat) (K T:List Tx) (c:List Sy) (a:List Nat) (b d:Option W):Sl:= [y0 (.v (wD K T)),y0 (.v (.int (n:Int))),y0 (.v (.tup (c.map zdG))),y0 (.v (.int ((K.length:Nat):Int))),y0 (.v (.int ((T.length:Nat):Int))),y0 (.own (a.map (wX n K T))),b,d]
theorem zcl (m) (o:49<=m): ∀ j i a f d,i+j=nB n K T->a.length<=i-> ∃k g,
 Gq (Gp [6] k9) (λY h=>execs (u9 m) xj Y h) ((Aa0 j).map λx=>D.int ((i+x:Nat):Int)) (zb9 n K T ss a f d) []= .next (zb9 n K T ss (a++((Aa0 j).map (i+ ·)).filter (kc n K T ss)) k g) []
 | 0,i,a,f,d,_,_=>⟨f,d,by simp [Gq]⟩
 | j+1,i,a,f,d,h,s=>by
  have n5:=C.n5
  have l:=zbb (m-1) n K.length T.length i [] C.hn C.hK C.hT
  rw [show m-1+1=m by omega]at l
  have b:=zcd C (C.at (c:=i) (by omega)) (m-1) (by omega)
  rw [show m-1+1=m by omega]at b
  have r:((Aa0 (j+1)).map (i+ ·))=i::(Aa0 j).map (i+1+ ·):=by
   rw [Af8,Aa9,Ac6]
   exact congrArg (i:: ·) (Ae λx _=>by show i+(x+1)=i+1+x;omega)
  rw [r,zm]
  obtain⟨k,g,e⟩:=zcl m o j (i+1) (a++ [i].filter (kc n K T ss)) (y0 (.v (.int i))) (y0 (.v (wX n K T i))) (by omega) (by
   rw [Ab1]
   have:=Ad9 (kc n K T ss) [i]
   simp only [Ag2]at this
   omega)
  refine⟨k,g,?_⟩
  rw [xa (Y1:=zb9 n K T ss a (y0 (.v (.int i))) d) (Y2:=zb9 n K T ss (a++ [i].filter (kc n K T ss)) (y0 (.v (.int i))) (y0 (.v (wX n K T i)))) (h2:= []) rfl (by
   simp only [xj]
   refine(za (by simp_all [l];rfl)).trans ?_
   cases q:kc n K T ss i with
   | true=>
    rw [show xdr n K T ss (jdz n K.length T.length i) (zdB n K.length T.length i)=k9 from q]at b
    have p:(a.map (wX n K T)).length<LIM:=by rw [Gi,Aa];omega
    rw [zb,qv (h1:= []) (by simp_all [b]),zb]
    simp_all [p,if_true]
    simp [q]
   | false=>
    rw [show xdr n K T ss (jdz n K.length T.length i) (zdB n K.length T.length i)=y9 from q]at b
    rw [Za (by simp_all [b])]
    simp [q,execs]),e,Ae9,Ak2,Ak2]
  simp only [List.filter_nil]
  split<;>simp
def xap (m) (c:49<=m):call prog (m+1) "_law_keepers" [.v (wD K T),.v (.int (n:Int)),.v (.tup (ss.map zdG))] []= .ok (.own (((List.range (nB n K T)).filter (kc n K T ss)).map (wX n K T))) []:=by
 have hn:=C.hn
 have o:=C.hK
 have i:=C.hT
 have d:Gn .mul (K.length:Int) (n:Int)=y0 ((K.length*n:Nat):Int):=Xc K.length n (by omega)
 have j:Gn .mul (T.length:Int) (n:Int)=y0 ((T.length*n:Nat):Int):=Xc T.length n (by omega)
 have p:T.length*n<=4*4:=Ad7 i hn
 have f:Gn .mul ((T.length*n:Nat):Int) (n:Int)=y0 ((T.length*n*n:Nat):Int):=Xc (T.length*n) n (by omega)
 have a:((K.length*n:Nat):Int)+((T.length*n*n:Nat):Int)=((K.length*n+T.length*n*n:Nat):Int):=rfl
 have g:=Z9 (K.length*n+T.length*n*n) (by have:=C.hb;omega)
 have n5:=C.n5
 have l: ∀h,biD .len [.v (xdW K)] h=okv (.int ((K.length:Nat):Int)) h:=λh=>by rw [Zn,Aa]
 have lt: ∀h,biD .len [.v (xdW T)] h=okv (.int ((T.length:Nat):Int)) h:=λh=>by rw [Zn,Aa]
 obtain⟨b,k,e⟩:=zcl C m c (nB n K T) 0 [] u0 u0 (by omega) (Aa5 _)
 rw [Ga rfl _ _ _ rfl]
 simp only [GM]
 refine fx (by simp_all [ix_tup,zE,l];rfl) ?_
 refine fx (by simp_all [ix_tup,Wx,lt];rfl) ?_
 rw [za (Y1:=zb9 n K T ss [] u0 u0) (by simp_all [];rfl)]
 rw [za (Y1:=zb9 n K T ss ((Aa0 (nB n K T)).filter (kc n K T ss)) b k) (by
  rw [exec,QF,Qd (m:=nB n K T) (by simp_all [d,j,f,wd,a,g]) (by omega),R.toO_ok]
  simpa using e)]
 rw [Zb (w:= .own (((Aa0 (nB n K T)).filter (kc n K T ss)).map (wX n K T))) (h1:= []) rfl]
 exact Gw _ _ _ rfl
end
def jdx (n K T c:Nat):Bool:=(Zl n n).all λr=>v9 (c<=Cw n ((jdz n K T c).map (kM n r)) ((zdB n K T c).map (tK n r)))
def jdK (g:Wl n ks ts): ∃r,Od n r/\ks.map (kM n r)=ks/\ts.map (tK n r)=ts:=by
 have q:=Od.one n
 obtain⟨p,a,f⟩:=q.rev
 obtain⟨c,e⟩:=wK g q a f
 obtain⟨b,d⟩:=jaU a q
 exact⟨(Aa0 n).map (pm p),a.then q,b.symm.trans c,d.symm.trans e⟩
def jav {b:Type}(g) (p) (l:List b) (d:Gk F it Y h= .ok (l.map g) h) (o:l.length<=1000)
 (e: ∀x∈l,Gr F c (y0 (.v (g x))::cap.map λj=>Gg Y j) h= .ok (p x) h/\eval F elt (y0 (.v (g x))::cap.map λj=>Gg Y j) h= .ok (.v (g x)) h):eval F (.comp [0] k9 1 cap it k9 c elt) Y h= .ok (.own ((l.filter p).map g)) h:=by
 rw [eval,d,R.bind_ok,if_pos (by rw [Gi,Aa];omega)]
 have k: ∀ step (l:List b),(∀ x∈l,step (g x) h= .ok (if p x then y0 (g x)else u0) h)->Gv step (l.map g) h= .ok ((l.filter p).map g) h:=λstep l=>by
  induction l with
  | nil=>intro _;rfl
  | cons x l f=>
   intro a
   rw [Aa9,Gv,a x Aa3,Ak2]
   simp only [f λy i=>a y (Aa2 _ i)]
   cases p x<;>rfl
 rw [k _ l λx a=> ?_]
 ·rfl
 ·obtain⟨n,m⟩:=e x a
  show(R.bind (Gr F c (y0 (.v (g x))::cap.map λj=>Gg Y j) h) _)=_
  rw [n]
  cases p x with
  | true=>
   show(eval F elt (y0 (.v (g x))::cap.map λj=>Gg Y j) h).bind _=_
   rw [m]
   rfl
  | false=>rfl
section
variable {n:Nat}{K T:List Tx}{ss:List Sy}(C:Ct n K T ss)
include C
def qcb (H:c<nB n K T): ∃e,e<nB n K T/\e<=c/\kc n K T ss e=kc n K T ss c/\jdx n K.length T.length e=k9/\(jdx n K.length T.length c=k9↔e=c)/\(∃ r,Od n r/\c=Cw n ((jdz n K.length T.length e).map (kM n r)) ((zdB n K.length T.length e).map (tK n r))) ∧
 ∀ a b,Ls n (jdz n K.length T.length c) (zdB n K.length T.length c) a b->Wc n a b=wX n K T e:=by
 have d:=C.at H
 obtain⟨a,b,l,_⟩:=zaw d.wl 0 []
 obtain⟨r,g,m,k⟩:=l.o
 have f:=d.mv g
 rw [← m,←k]at f
 have j:Cw n a b<nB n K T:=f.lt_c
 obtain⟨o,q⟩:=f.uniq (C.at j)
 obtain⟨i,F,y,G⟩:=jdK d.wl
 have t:=by
  have:=l.le i F
  rw [y,G,d.cd]at this
  exact this
 have u:jdx n K.length T.length (Cw n a b)=true:=by
  unfold jdx
  rw [Ad3]
  intro s A
  have:=(l.self d.wl).le s ((Qj C.hn s).mp A)
  rw [← o,←q]
  exact decide_eq_true this
 refine⟨Cw n a b,j,t,?_,u,⟨λh=> ?_,λh=> ?_⟩,?_,λJ I w=> ?_⟩
 ·unfold kc
  rw [← o,←q,m,k]
  exact zcH C d g
 ·unfold jdx at h
  rw [Ad3]at h
  have:=of_decide_eq_true (h r ((Qj C.hn r).mpr g))
  rw [← m,←k]at this
  omega
 ·rw [← h];exact u
 ·obtain⟨p,v,z⟩:=g.rev
  obtain⟨x,E⟩:=wK d.wl g v z
  refine⟨p,v,?_⟩
  rw [← o,←q,m,k,x,E,d.cd]
 ·obtain⟨D,B⟩:=Ls.uniq d.wl w l
  rw [D,B]
  show Wc n a b=Wc n _ _
  rw [← o,←q]
def QY (f:c<nB n K T) (k) (h): ∃d,d<nB n K T/\kc n K T ss d=kc n K T ss c/\jdx n K.length T.length d=k9/\(jdx n K.length T.length c=k9↔d=c)/\call prog (k+3) "_law_least" [.v (wX n K T c)] h= .ok (.v (wX n K T d)) h:=by
 obtain⟨d,i,_,g,m,o,_,j⟩:=qcb C f
 obtain⟨a,b,l,e⟩:=zaw (C.at f).wl k h
 refine⟨d,i,g,m,o,?_⟩
 rw [e,j a b l]
def jct (f:c<nB n K T) (a:d<nB n K T):(jdz n K.length T.length c=jdz n K.length T.length d/\zdB n K.length T.length c=zdB n K.length T.length d)↔c=d:=by
 refine⟨λ⟨e,b⟩=> ?_,λh=>by rw [h];exact⟨rfl,rfl⟩⟩
 rw [← (C.at f).cd,←(C.at a).cd,e,b]
def qcR (a:c<nB n K T) (b:d<nB n K T) (h):GD .eq (.v (wX n K T c)) (.v (wX n K T d)) h=y0 (v9 (c=d)):=by
 rw [xcm]
 congr 1
 rw [decide_eq_decide,←jct C a b]
 simp
theorem xcz {l:List Nat}(d:c∈l) (h):GD .mem (.v (wX n K T c)) (.v (.lst (l.map (wX n K T)))) h=y0 true:=by
 have e:Pm (.v (wX n K T c)) (.v (.lst (l.map (wX n K T)))) h=y0 true:=by
  unfold Pm
  have a:Gd (l.map (wX n K T))=true:=ql _ (λ_=>xm ..) l
  have b:(W.v (wX n K T c)).dd h=wX n K T c:=qO (xm ..)
  have a2:(W.v (.lst (l.map (wX n K T)))).dd h= .lst (l.map (wX n K T)):=congrArg D.lst (Kt a)
  rw [a2,b]
  have dp:Kz (l.map (wX n K T))<=2:=qJ _ 2 (λ_=>jaA ..) l
  show(if Gc (wX n K T c)&&Gd (l.map (wX n K T))&&v9 (Kz (l.map (wX n K T))<140)then y0 (inD (wX n K T c) (l.map (wX n K T)))else u0)=_
  rw [show Gc (wX n K T c)=k9 from xm ..,a,decide_eq_true (by omega)]
  show y0 _=y0 k9
  congr 1
  unfold inD
  rw [Ae4]
  exact⟨_,Ac.mpr ⟨c,d,rfl⟩,ZI (xm ..)⟩
 exact e
noncomputable abbrev kL (n:Nat) (K T:List Tx) (a:List Sy):List Nat:=(Aa0 (nB n K T)).filter (kc n K T a)
noncomputable abbrev dL (n:Nat) (K T:List Tx) (a:List Sy):List Nat:=(kL n K T a).filter (jdx n K.length T.length)
theorem zb6 (h:c∈kL n K T ss):c<nB n K T/\kc n K T ss c=true:=⟨Ab3.mp (Ae1.mp h).1,(Ae1.mp h).2⟩
def qcq:(kL n K T ss).length<=512:=Ac0 (Ad9 _ _) (by rw [Aj4];exact C.n5)
abbrev qdT (n K T c:Nat):List Nat:=(Zl n n).map λr=>Cw n ((jdz n K T c).map (kM n r)) ((zdB n K T c).map (tK n r))
def xbY (S:List Int) (l:List Nat):List Int:=l.foldl (λS (x:Nat)=>KY S (x:Int)) S
omit C in
theorem xbP (S:List Int) (k x:Int):x∈KY S k↔x∈S\/x=k:=by
 unfold KY
 split
 ·rename_i h
  exact⟨.inl,λz=>z.elim id λe=>by rw [e];simpa using h⟩
 ·rw [Af2,Af1]
omit C in
theorem X1 (S:List Int) (k:Int):(KY S k).length<=S.length+1:=by
 unfold KY
 split
 ·omega
 ·rw [Ab1];exact Aa5 _
omit C in
theorem W1: ∀(l:List Nat) (S:List Int) (x:Int),x∈xbY S l↔x∈S\/ ∃y∈l,x=(y:Int)
 | [],S,x=>⟨.inl,λz=>z.elim id λ⟨y,h,_⟩=>absurd h Ac2⟩
 | y::l,S,x=>by
  show x∈xbY (KY S (y:Int)) l↔_
  rw [W1 l,xbP]
  constructor
  ·rintro ((h | h) | ⟨z,a,e⟩)
   ·exact .inl h
   ·exact .inr ⟨y,Aa3,h⟩
   ·exact .inr ⟨z,Aa2 _ a,e⟩
  ·rintro (h | ⟨z,a,e⟩)
   ·exact .inl (.inl h)
   ·rcases Ab4.mp a with rfl | a
    ·exact .inl (.inr e)
    ·exact .inr ⟨z,a,e⟩
omit C in
theorem xX: ∀(l:List Nat) (S:List Int),(xbY S l).length<=S.length+l.length
 | [],S=>Aa5 _
 | y::l,S=>by
  have b:=xX l (KY S (y:Int))
  have a:=X1 S (y:Int)
  show(xbY (KY S (y:Int)) l).length<=_
  rw [Ab9]
  omega
noncomputable abbrev jdX (n:Nat) (K T:List Tx) (a:List Nat) (d b c:Option W):Sl:= [y0 (.v (wD K T)),y0 (.v (.int (n:Int))),y0 (.v (.ref 0)),y0 (.own (a.map (wX n K T))),d,b,c]
omit C in
theorem jce {F:Fx}(a:List Nat) (c b:Option W): ∀(l:List Nat) (S:List Int) (d:Option W),S.length+l.length<=20000-> ∃f,
 Gq (Gp [6] k9) (λY h=>execs F qm Y h) (xdO l) (jdX n K T a c b d) [.dii S]= .next (jdX n K T a c b f) [.dii (xbY S l)]
 | [],S,d,_=>⟨d,rfl⟩
 | y::l,S,d,i=>by
  rw [Ab9]at i
  have g:=X1 S (y:Int)
  obtain⟨f,e⟩:=jce a c b l (KY S (y:Int)) (y0 (.v (.int (y:Int)))) (by omega)
  refine⟨f,?_⟩
  have dd:Pe [.dii S] (y0 (.v (.ref 0)))=y0 (0,S):=rfl
  have j:S.length<LIM:=by rw [Gi];omega
  show Gq _ _ (D.int (y:Int)::xdO l) _ _=_
  rw [xa (Y1:=jdX n K T a c b (y0 (.v (.int (y:Int))))) (Y2:=jdX n K T a c b (y0 (.v (.int (y:Int))))) (h2:= [.dii (KY S (y:Int))]) rfl (by
   simp only [qm]
   rw [zb]
   simp_all [dd,j,if_true]
   rfl),e]
  rfl
noncomputable def zde (n:Nat) (K T:List Tx) (i:Nat) (S:List Int):Prop:= ∀x:Nat,(x:Int)∈S↔ ∃c,c<i/\jdx n K.length T.length c=k9/\x∈qdT n K.length T.length c
theorem xb1 (k): ∀ j i S G g d,i+j=nB n K T->S.length<=i*24->zde n K T i S-> ∃s w v E,
 Gq (Gp [4] k9) (λY h=>execs (u9 (k+6)) Jh Y h) ((Aa0 j).map λx=>D.int ((i+x:Nat):Int)) (jdX n K T ((Aa0 i).filter (jdx n K.length T.length)) G g d) [.dii S]= .next (jdX n K T ((Aa0 (nB n K T)).filter (jdx n K.length T.length)) w v E) [.dii s]
 | 0,i,S,G,g,d,h,_,_=>⟨S,G,g,d,by rw [← show i=nB n K T by omega];simp [Gq]⟩
 | j+1,i,S,G,g,d,h,hS,J=>by
  have n5:=C.n5
  have U:i<nB n K T:=by omega
  have a:=C.at U
  have rl:(Zl n n).length<=24:=by
   have:=(jdI n C.hn).len
   have L:=C.hn
   rw [this]
   match n,L with
   | 0,_=>decide
   | 1,_=>decide
   | 2,_=>decide
   | 3,_=>decide
   | 4,_=>decide
  have f:S.contains (i:Int)= !jdx n K.length T.length i:=by
   have:(S.contains (i:Int)=k9)↔jdx n K.length T.length i=false:=by
    rw [Aj7,J i]
    constructor
    ·rintro ⟨c,o,b,m⟩
     obtain⟨r,u,e⟩:=Ac.mp m
     have l:=C.at (c:=c) (by omega)
     have t:=l.mv ((Qj C.hn r).mp u)
     have e:Cw n ((jdz n K.length T.length c).map (kM n r)) ((zdB n K.length T.length c).map (tK n r))=i:=e
     rw [e]at t
     obtain⟨u1,u2⟩:=a.uniq t
     cases q:jdx n K.length T.length i with
     | false=>rfl
     | true=>
      obtain⟨p,Q,he⟩:=((Qj C.hn r).mp u).rev
      obtain⟨W,b2⟩:=wK l.wl ((Qj C.hn r).mp u) Q he
      unfold jdx at q
      rw [Ad3]at q
      have:=of_decide_eq_true (q p ((Qj C.hn p).mpr Q))
      rw [u1,u2,W,b2,l.cd]at this
      omega
    ·intro q
     obtain⟨P,o,b,m,L,Z,⟨r,u,e⟩,_⟩:=qcb C U
     have hne:P≠i:=λz=>by
      have:=Z.mpr z
      rw [q]at this
      cases this
     exact⟨P,by omega,L,Ac.mpr ⟨r,(Qj C.hn r).mpr u,e.symm⟩⟩
   cases q:jdx n K.length T.length i with
   | false=>rw [this.mpr q];rfl
   | true=>
    cases q2:S.contains (i:Int)with
    | false=>rfl
    | true=>rw [this.mp q2]at q;cases q
  have dd:Pe [.dii S] (y0 (.v (.ref 0)))=y0 (0,S):=rfl
  have N:dinI k9 (.v (.int (i:Int))) (y0 (0,S)) [.dii S]=okv (.bl (!S.contains (i:Int))) [.dii S]:=rfl
  have V:(Aa0 (i+1)).filter (jdx n K.length T.length)=(Aa0 i).filter (jdx n K.length T.length)++ [i].filter (jdx n K.length T.length):=by rw [List.range_succ,An8]
  have fl:=Ad9 (jdx n K.length T.length) (Aa0 i)
  rw [Aj4]at fl
  rw [zm]
  cases q:jdx n K.length T.length i with
  | false=>
   rw [q]at f
   obtain⟨s,w,v,E,e⟩:=xb1 k j (i+1) S (y0 (.v (.int (i:Int)))) g d (by omega) (by omega) (λx=>by
    rw [J x]
    constructor
    ·rintro ⟨c,o,b⟩
     exact⟨c,by omega,b⟩
    ·rintro ⟨c,o,b,m⟩
     refine⟨c,?_,b,m⟩
     have:c≠i:=λz=>by rw [z,q]at b;cases b
     omega)
   refine⟨s,w,v,E,?_⟩
   rw [xa (Y1:=jdX n K T ((Aa0 i).filter (jdx n K.length T.length)) (y0 (.v (.int (i:Int)))) g d) (Y2:=jdX n K T ((Aa0 i).filter (jdx n K.length T.length)) (y0 (.v (.int (i:Int)))) g d) (h2:= [.dii S]) rfl (by
    simp only [Jh]
    rw [Za (by simp_all [dd,N,f])]
    rfl)]
   rw [V]at e
   simp only [Ak2,q,List.filter_nil,Ae7,Af4,if_false]at e
   exact e
  | true=>
   rw [q]at f
   have H:=X6 (k+1) n (K.map D.str) (T.map D.str) (jdz n K.length T.length i) (zdB n K.length T.length i) [.dii S] a.wl (by rw [Aa,a.lk]) (by rw [Aa,a.lt])
   rw [a.cd]at H
   have H:call prog (k+6) "world_of" [.v (wD K T),.v (.int (n:Int)),.v (.int (i:Int))] [.dii S]= .ok (.v (wX n K T i)) [.dii S]:=H
   have I:=xbZ a.wl (A:=K.map D.str) (B:=T.map D.str) (by rw [Aa,a.lk]) (by rw [Aa,a.lt]) k [.dii S]
   have I:call prog (k+6) "codes_alike" [.v (wD K T),.v (wX n K T i)] [.dii S]= .ok (.own (xdO (qdT n K.length T.length i))) [.dii S]:=I
   have ol:(qdT n K.length T.length i).length<=24:=by rw [Aa];exact rl
   obtain⟨O,ez⟩:=jce (F:=(u9 (k+6))) (n:=n) (K:=K) (T:=T) ((Aa0 (i+1)).filter (jdx n K.length T.length)) (y0 (.v (.int (i:Int)))) (y0 (.v (wX n K T i))) (qdT n K.length T.length i) S d (by omega)
   have pl:=xX (qdT n K.length T.length i) S
   obtain⟨s,w,v,E,e⟩:=xb1 k j (i+1) (xbY S (qdT n K.length T.length i)) (y0 (.v (.int (i:Int)))) (y0 (.v (wX n K T i))) O (by omega) (by omega) (λx=>by
    rw [W1,J x]
    constructor
    ·rintro (⟨c,o,b⟩ | ⟨y,X,e⟩)
     ·exact⟨c,by omega,b⟩
     ·obtain rfl:x=y:=Int.ofNat.inj e
      exact⟨i,by omega,q,X⟩
    ·rintro ⟨c,o,b,m⟩
     by_cases M:c=i
     ·exact .inr ⟨x,M▸m,rfl⟩
     ·exact .inl ⟨c,by omega,b,m⟩)
   refine⟨s,w,v,E,?_⟩
   have hL:(((Aa0 i).filter (jdx n K.length T.length)).map (wX n K T)).length<LIM:=by rw [Gi,Aa];omega
   rw [xa (Y1:=jdX n K T ((Aa0 i).filter (jdx n K.length T.length)) (y0 (.v (.int (i:Int)))) g d) (Y2:=jdX n K T ((Aa0 (i+1)).filter (jdx n K.length T.length)) (y0 (.v (.int (i:Int)))) (y0 (.v (wX n K T i))) O) (h2:= [.dii (xbY S (qdT n K.length T.length i))]) rfl (by
    simp only [Jh]
    rw [zb,qv (h1:= [.dii S]) (by simp_all [dd,N,f])]
    refine(za (by simp_all [H];rfl)).trans ?_
    rw [za (h1:= [.dii S]) (Y1:=jdX n K T ((Aa0 (i+1)).filter (jdx n K.length T.length)) (y0 (.v (.int (i:Int)))) (y0 (.v (wX n K T i))) d) (by
     simp_all [hL,if_true]
     rw [V]
     simp [q])]
    rw [zb,exec,show Gu (u9 (k+6)) (.seq (.call "codes_alike" (.cons (.var 0) (.cons (.var 5) .nil)))) (jdX n K T ((List.range (i+1)).filter (jdx n K.length T.length)) (some (.v (.int (i:Int)))) (some (.v (wX n K T i))) d) [.dii S]= .ok (xdO (qdT n K.length T.length i)) [.dii S]by simp_all [I],R.toO_ok]
    exact ez),e]
def xbF (k):call prog (k+7) "all_forms" [.v (wD K T),.v (.int (n:Int))] []= .ok (.own (((List.range (nB n K T)).filter (jdx n K.length T.length)).map (wX n K T))) []:=by
 have n5:=C.n5
 have a:=jaK (k+4) n (K.map D.str) (T.map D.str) [.dii []] C.hn (by rw [Aa];exact C.hK) (by rw [Aa];exact C.hT)
 rw [Aa,Aa,QI]at a
 have a:=a
 have b:=Z9 (K.length*n+T.length*n*n) (by have:=C.hb;omega)
 obtain⟨g,d,f,i,e⟩:=xb1 C k (nB n K T) 0 [] u0 u0 u0 (by omega) (Aa5 _) (λx=>⟨λh=>absurd h Ac2,λ⟨c,h,_⟩=>absurd h (Aj1 _)⟩)
 rw [Ga rfl _ _ _ rfl]
 simp only [G9]
 refine fx (by simp_all [];rfl) ?_
 rw [za (Y1:=jdX n K T [] u0 u0 u0) (by simp_all [];rfl)]
 rw [za (by
  rw [exec,QF,Qd (m:=nB n K T) (by simp_all [a,b]) (by omega),R.toO_ok]
  simpa using e)]
 rw [Zb rfl]
 show fin 0 _ _=_
 unfold fin
 rw [if_neg (by show ¬ 1=0;decide),if_pos (show (W.own (((Aa0 (nB n K T)).filter (jdx n K.length T.length)).map (wX n K T))).keep=k9 from ql _ (λ_=>xm ..) _)]
 rfl
end
def qc7 (k K T) (b:K<=4) (c:T<=4) (h): ∃A B:List Tx,A.length=K/\B.length=T/\(A++B).Nodup/\call prog (k+1) "_law_names" [.v (.int (K:Int)),.v (.int (T:Int))] h= .ok (.v (wD A B)) h:=by
 have a: ∀K,K<5-> ∀T,T<5->(([[97,103,101],[98,101,101],[99,97,112],[100,111,116]].take K)++([[101,97,116],[102,101,100],[103,111],[104,117,116]].take T)).Nodup:=by decide +kernel
 refine⟨[[97,103,101],[98,101,101],[99,97,112],[100,111,116]].take K,[[101,97,116],[102,101,100],[103,111],[104,117,116]].take T,by rw [Ag3];simp;omega,by rw [Ag3];simp;omega,a K (by omega) T (by omega),?_⟩
 rw [Ga rfl _ _ _ rfl]
 simp only [Kb]
 simp_all [jbT,qZ]
 rw [wD,xdW,xdW,List.map_take,List.map_take]
 rfl
def qc1 (k n:Nat) (A B) (h) (i:n<=4) (f:A.length<=4) (e:B.length<=4):call prog (k+5) "check_bits" [.v (wD A B),.v (.int (n:Int)),.v (.int 9)] h=if A.length*n+B.length*n*n<=9 then .ok (.v .non) h else .exc (.err "TooBig" "bits" (.int ((A.length*n+B.length*n*n:Nat):Int))) h:=by
 have g:=qT k (.int (n:Int)) h rfl (by show(v9 ((0:Int)<=(n:Int))&&v9 ((n:Int)<5))=k9;rw [decide_eq_true (by omega),decide_eq_true (by omega)];rfl)
 have a:=jaK (k+2) n (A.map D.str) (B.map D.str) h i (by rw [Aa];exact f) (by rw [Aa];exact e)
 rw [Aa,Aa,QI]at a
 have a:=a
 generalize A.length*n+B.length*n*n=b at a
 rw [Ga rfl _ _ _ rfl]
 simp only [GG]
 refine fx (by simp_all [g];rfl) ?_
 refine fx (by simp_all [a];rfl) ?_
 by_cases c:b<=9
 ·have d:v9 ((9:Int)<(b:Int))=false:=decide_eq_false (by omega)
  rw [if_pos c,Za (by simp_all [Jr,d])]
  exact GI _ _ _ rfl
 ·have d:v9 ((9:Int)<(b:Int))=true:=decide_eq_true (by omega)
  rw [if_neg c,zb,qv (h1:=h) (by simp_all [Jr,d]),zb]
  simp_all []
def zb5 (k) (nm d) (h) (c:Gc d=k9) (a:wh d 5=y9):call prog (k+5) "check_bits" [.v nm,.v d,.v (.int 9)] h= .exc (.exc "NoSize" []) h:=by
 have b:=Q6 k d h c a
 rw [Ga rfl _ _ _ rfl]
 simp only [GG]
 rw [execs,show exec (u9 (k+4)) (.ex (.call "check_size" (.cons (.var 1) .nil))) (List.map some [W.v nm,.v d,.v (.int 9)]++List.replicate (4-3) none) h= .exc (.exc "NoSize" []) h by simp_all [b];rfl]
 rfl
def qc4:prog.con.lookup "MOST_LISTED_BITS" =some (.int 9):=rfl
def xbw (k) (nm sy d e) (h) (a:call prog k "check_bits" [.v nm,.v d,.v (.int 9)] h= .exc e h):call prog (k+1) "unlike" [.v (.tup [nm,sy]),.v d] h= .exc e h:=by
 rw [Ga rfl _ _ _ rfl]
 simp only [Kk]
 refine fx (by simp_all [];rfl) ?_
 rw [execs,show exec (u9 k) (.ex (.call "check_bits" (.cons (.var 2) (.cons (.var 1) (.cons (.con "MOST_LISTED_BITS") .nil))))) [some (.v (.tup [nm,sy])),some (.v d),some (.v nm),some (.v sy)] h= .exc e h by simp_all [qc4,a];rfl]
 rfl
section
variable {n:Nat}{K T:List Tx}{ss:List Sy}(C:Ct n K T ss)
include C
def za2 (m) (l:55<=m):call prog (m+1) "unlike" [.v (.tup [wD K T,.tup (ss.map zdG)]),.v (.int (n:Int))] []= .ok (.own ((dL n K T ss).map (wX n K T))) []:=by
 have g:=qc1 (m-5) n K T [] C.hn C.hK C.hT
 rw [if_pos C.hb,show m-5+5=m by omega]at g
 have f:=xbF C (m-7)
 rw [show m-7+7=m by omega]at f
 have n5:=C.n5
 rw [Ga rfl _ _ _ rfl]
 simp only [Kk]
 refine fx (by simp_all [];rfl) ?_
 refine fx (by simp_all [qc4,g];rfl) ?_
 have j:dL n K T ss=((Aa0 (nB n K T)).filter (jdx n K.length T.length)).filter (kc n K T ss):=by
  unfold dL kL
  rw [List.filter_filter,List.filter_filter]
  exact List.filter_congr λx _=>Bool.and_comm _ _
 rw [Zb (w:= .own ((dL n K T ss).map (wX n K T))) (Wv rfl (by
  rw [j]
  unfold XE
  refine jav (wX n K T) (kc n K T ss) _ (jZ (by simp_all [f])) (Ac0 (Ad9 _ _) (by rw [Aj4];omega)) λc k=> ?_
  have a:=Ab3.mp (Ae1.mp k).1
  obtain⟨d,b,e,h⟩:=xbb C (C.at a) (m-1) (by omega)
  rw [show m-1+1=m by omega]at b
  refine⟨?_,by simp_all []⟩
  cases q:kc n K T ss c with
  | true=>
   rw [show xdr n K T ss (jdz n K.length T.length c) (zdB n K.length T.length c)=k9 from q]at e
   rw [if_pos rfl]at e
   subst e
   simp_all [b]
  | false=>
   obtain⟨i,rfl⟩:=h q
   simp_all [b]))]
 exact Gw _ _ _ rfl
def xaS {l:List Nat}(r: ∀c∈l,c<nB n K T) (t:l.length<=512) (k):call prog (k+3) "_law_listed" [.bor (l.map (wX n K T)),.v (.lst (l.map (wX n K T)))] []= .ok (.v (.bl true)) []:=by
 have u:(l.map (wX n K T)).length<=LIM:=by rw [Gi,Aa];omega
 have j: ∀h,biD .len [.bor (l.map (wX n K T))] h=okv (.int ((l.length:Nat):Int)) h:=λh=>by rw [zbP,Aa]
 have l2: ∀h,biD .len [.v (.lst (l.map (wX n K T)))] h=okv (.int ((l.length:Nat):Int)) h:=λh=>by rw [XL,Aa]
 rw [Ga rfl _ _ _ rfl]
 simp only [GS]
 rw [Za (by simp_all [qb6,Ty.le_self,j,l2,ZL,decide_true])]
 rw [Zb (xc rfl (by
  have e:=xn (F:=(u9 (k+2))) (e:=Jk) (Y:= [y0 (.bor (l.map (wX n K T))),y0 (.v (.lst (l.map (wX n K T))))]) (h:= []) (bs:=(Aa0 l.length).map λ_=>k9) (by
   rw [Ac6]
   unfold Jk
   refine WZ (n:=l.length) (λ_=> .bl k9) (by simp_all [l2]) (by omega) λi d=>⟨.v (.bl k9),?_,rfl⟩
   have g:atI (l.map (wX n K T)) (i:Int)=y0 (wX n K T (l.getD i 0)):=by
    rw [Xk _ _ (by rw [Aa];exact d),Ad,Ab7,Aa4 d];rfl
   have m: ∀h,ixD (.bor (l.map (wX n K T))) (.v (.int (i:Int))) h=y0 (wX n K T (l.getD i 0)):=λh=>by rw [qcn,g]
   have p: ∀h,ixD (.v (.lst (l.map (wX n K T)))) (.v (.int (i:Int))) h=y0 (wX n K T (l.getD i 0)):=λh=>by rw [Zp,g]
   have s:l.getD i 0<nB n K T:=r _ (by rw [Ab7,Aa4 d];exact Ak1 d)
   have a:=C.at s
   have v:=a.wl.k4
   have o:=a.wl.t4
   have f:=xbL k n (jdz n K.length T.length (l.getD i 0)) (zdB n K.length T.length (l.getD i 0)) (by omega) (by omega) []
   have f:call prog (k+2) "_law_alike" [.v (wX n K T (l.getD i 0)),.v (wX n K T (l.getD i 0))] []= .ok (.v (.bl true)) []:=f
   simp_all [m,p,f])
  rw [show (((Aa0 l.length).map λ_=>k9).all id)=k9 by rw [Ad3];intro b q;obtain⟨_,_,rfl⟩:=Ac.mp q;rfl]at e
  exact e))]
 exact Gb _ _ _ rfl
end
def zdm: ["WorldError"].any (Kx prog.cl 8 "TooBig").contains=true:=by decide +kernel
def xdb: ["TooBig"].any (Kx prog.cl 8 "TooBig").contains=true:=by decide +kernel
def jdb: ["NoCode", "NoNumber", "NoSize"].any (Kx prog.cl 8 "TooBig").contains=false:=by decide +kernel
def qdb: ["WorldError"].any (Kx prog.cl 8 "NoSize").contains=true:=by decide +kernel
def qdm: ["TooBig"].any (Kx prog.cl 8 "NoSize").contains=false:=by decide +kernel
def xdf: ["NoSize"].any (Kx prog.cl 8 "NoSize").contains=true:=by decide +kernel
def qda: ["NoCode", "NoNumber", "TooBig"].any (Kx prog.cl 8 "NoSize").contains=false:=by decide +kernel
abbrev zbh:Tx:= [98,105,103]
abbrev wY:Tx:= [115,105,122,101]
def zcf (k) (nm d) (b:Nat) (c:call prog (k+1) "unlike" [.v (.tup [nm,.tup []]),.v d] []= .exc (.err "TooBig" "bits" (.int (b:Int))) []):call prog (k+2) "_law_refused" [.v (.tup [nm,.tup []]),.v d] []= .ok (.own [.str zbh,.int (b:Int)]) []:=by
 have a:=Zt k b []
 rw [Ga rfl _ _ _ rfl]
 simp only [Gz]
 refine fx (by simp_all [];rfl) ?_
 rw [za (Y1:= [some (.v (.tup [nm,.tup []])),some (.v d),some (.v (.err "TooBig" "bits" (.int (b:Int)))),none]) (by simp_all [Pn,c,jam,zdm];rfl)]
 rw [Zb (by
  rw [qv (h1:= []) (by simp_all [jam,xdb,jdb,if_true,a])]
  rw [Zb (w:= .own [.str zbh,.int (b:Int)]) (h1:= []) (Wv rfl (by simp_all [if_true]))])]
 exact Gw _ _ _ rfl
def xbE (k) (nm d) (a:call prog (k+1) "unlike" [.v (.tup [nm,.tup []]),.v d] []= .exc (.exc "NoSize" []) []):call prog (k+2) "_law_refused" [.v (.tup [nm,.tup []]),.v d] []= .ok (.own [.str wY]) []:=by
 rw [Ga rfl _ _ _ rfl]
 simp only [Gz]
 refine fx (by simp_all [];rfl) ?_
 rw [za (Y1:= [some (.v (.tup [nm,.tup []])),some (.v d),some (.v (.exc "NoSize" [])),none]) (by simp_all [Pn,a,XS,qdb];rfl)]
 rw [Za (by simp_all [XS,qdm])]
 rw [Zb (by
  rw [qv (h1:= []) (by simp_all [XS,xdf,qda])]
  rw [Zb (w:= .own [.str wY]) (h1:= []) (Wv rfl (by simp_all []))])]
 exact Gw _ _ _ rfl
noncomputable def shL:List (Nat×Nat×Nat):= [(1,1,2),(0,1,2),(2,1,2),(0,2,2),(2,0,3),(1,0,3),(3,0,2),(1,0,4),(0,0,3),(4,4,1),(1,1,1),(2,3,1),(4,4,0),(0,1,1),(2,0,2),(1,1,2)]
def sh2:List (Nat×Nat×Nat):= [(0,1,3),(2,0,4)]
abbrev jdP (p:Nat×Nat×Nat):D:= .tup [.int (p.1:Int),.int (p.2.1:Int),.int (p.2.2:Int)]
def xcH (p:Nat×Nat×Nat):Bool:=v9 (p.1<=4)&&v9 (p.2.1<=4)&&v9 (p.2.2<=4)&&v9 (p.1*p.2.2+p.2.1*p.2.2*p.2.2<=9)
def jbx:shL.all xcH=k9/\sh2.all xcH=true:=by decide +kernel
def xb3 (k) (x) (h): ∃p:Nat×Nat×Nat,xcH p=k9/\call prog (k+1) "_law_shape" [.v (.int x)] h= .ok (.v (jdP p)) h:=by
 have m:=Zx x 16 (by decide) (by decide)
 have l:=qo (x / 16) 24 (by decide)
 have o:=Zx x 384 (by decide) (by decide)
 have n:=qo (x / 384) 2 (by decide)
 have r:=qo x 16 (by decide)
 obtain⟨t,i,j⟩:=xB (xs:=sh2.map jdP) (x / 384) (by decide)
 obtain⟨b,d,rfl⟩:=Ac.mp i
 obtain⟨s,g,e⟩:=xB (xs:=shL.map jdP) x (by decide)
 obtain⟨a,f,rfl⟩:=Ac.mp g
 have j:atI [.tup [.int 0,.int 1,.int 3],.tup [.int 2,.int 0,.int 4]] (x / 384 % 2)=y0 (jdP b):=j
 have q:Pb .add (.v (.lst ((shL.take 9).map jdP))) (.own [.tup [.int 4,.int 4,.int 1],.tup [.int 1,.int 1,.int 1],.tup [.int 2,.int 3,.int 1],.tup [.int 4,.int 4,.int 0],.tup [.int 0,.int 1,.int 1],.tup [.int 2,.int 0,.int 2],.tup [.int 1,.int 1,.int 2]]) h= .ok (.own (shL.map jdP)) h:=by
  show(if _ then _ else _)=_
  rw [if_pos (by rw [Gi];decide)]
  rfl
 have e:atI (shL.map jdP) (x % 16)=y0 (jdP a):=e
 rw [Ga rfl _ _ _ rfl]
 simp only [G7]
 rw [za (Y1:= [y0 (.v (.int x)),y0 (.v (.lst ((shL.take 9).map jdP)))]) (by simp_all [];rfl)]
 rw [za (h1:=h) (Y1:= [y0 (.v (.int x)),y0 (.v (.lst (shL.map jdP)))]) (by
  simp_all [q])]
 by_cases c:x / 16 % 24=11
 ·refine⟨b,Ad3.mp jbx.2 b d,?_⟩
  rw [Jj (w:= .v (jdP b)) (by simp_all [m,l,Jm,c,decide_true]) (xc rfl (by simp_all [o,n,xp,j]))]
  exact Gb _ _ _ rfl
 ·refine⟨a,Ad3.mp jbx.1 a f,?_⟩
  rw [Za (by simp_all [m,l,Jm,c,decide_false])]
  rw [Zb (w:= .v (jdP a)) (h1:=h) (xc rfl (by simp_all [r,Zp,e]))]
  exact Gb _ _ _ rfl
def qbK (a b:Nat) (h):biD .min [.v (.int (a:Int)),.v (.int (b:Int))] h=okv (.int ((min a b:Nat):Int)) h:=by
 show okv (.int (if b<(a:Int)then(b:Int)else a)) h=_
 by_cases c:b<a
 ·rw [if_pos (by omega),show min a b=b by omega]
 ·rw [if_neg (by omega),show min a b=a by omega]
def qbA (xs) (a:Gd xs=k9) (b:Kz xs<100) (h):GD .ne (.own xs) (.own xs) h=y0 false:=by
 have a2:(W.own xs).dd h= .lst xs:=congrArg D.lst (Kt a)
 rw [jbj,a2,if_pos (by rw [KQ,show Gc (.lst xs)=k9 from a,decide_eq_true (show Kz xs+1<150 by omega)];rfl),show eqD (.lst xs) (.lst xs)=k9 from Kd a]
 rfl
def bgL:List (Nat×Nat×Nat):= [(1,2,2),(3,1,2),(1,1,3),(0,1,4),(4,4,4),(3,0,4)]
def zc5 (p:Nat×Nat×Nat):Bool:=v9 (p.1<=4)&&v9 (p.2.1<=4)&&v9 (p.2.2<=4)&&v9 (9<p.1*p.2.2+p.2.1*p.2.2*p.2.2)
def zcm:bgL.all zc5=true:=by decide +kernel
def jc0:Gn .pow 10 20=y0 (10 ^ 20):=by
 have:(0:Int)<=20/\ 20<=BP/\(10:Int).natAbs<qdF:=by rw [KW,GX];decide
 show(if _ then _ else _)=_
 rw [if_pos this];rfl
def qbt {K T n:Nat}(c:K<=4) (a:T<=4) (b:n<=4):Gn .mul (K:Int) (n:Int)=y0 ((K*n:Nat):Int)/\Gn .mul (T:Int) (n:Int)=y0 ((T*n:Nat):Int)/\Gn .mul ((T*n:Nat):Int) (n:Int)=y0 ((T*n*n:Nat):Int)/\((K*n:Nat):Int)+((T*n*n:Nat):Int)=((K*n+T*n*n:Nat):Int):=by
 have d:=Ad7 a b
 exact⟨Xc K n (by omega),Xc T n (by omega),Xc (T*n) n (by omega),rfl⟩
theorem ZP: ∀(Y) (i){w},Gj Y i=y0 w->GB Y i w=Y
 | [],_,_,e=>by cases e
 | x::r,0,w,e=>by cases (e);rfl
 | x::r,i+1,w,e=>congrArg (x:: ·) (ZP r i e)
def qbu (j u:Nat)(d:Gr F c Y h= .ok b h) (a:Gj Y 5=y0 (.v (.int (u:Int)))): ∃e:Nat,exec F (.iff c (.cons (.setf 5 (.bi .min (.cons (.var 5) (.cons (.int (j:Int)) .nil)))) .nil) .nil) Y h= .next (GB Y 5 (.v (.int (e:Int)))) h:=by
 cases b with
 | true=>
  refine⟨min u j,?_⟩
  rw [qv d,zb]
  simp only [exec,eval,Gf,KG a,R.bind_ok,R.toO_ok]
  rw [qbK]
  rfl
 | false=>
  refine⟨u,?_⟩
  rw [jS d,ZP Y 5 a]
  rfl
noncomputable abbrev q5 (a:List Int) (K T n:Nat) (w:D) (u:Nat):Sl:= [y0 (.v (.lst (a.map .int))),y0 (.v (.int (K:Int))),y0 (.v (.int (T:Int))),y0 (.v (.int (n:Int))),y0 (.v w),y0 (.v (.int (u:Int))),u0,u0,u0,u0,u0,u0,u0,u0]
abbrev jdR:E:= .bin .add (.bin .mul (.var 1) (.var 3)) (.bin .mul (.bin .mul (.var 2) (.var 3)) (.var 3))
def hlaw (g:List Int) (hl:g.length<=63): ∃h',call prog 60 "law" [.v (.lst (g.map .int))] []= .ok (.v (.bl true)) h':=by
 refine⟨[],?_⟩
 have x:call prog 59 "_law_nth" [.v (.lst (g.map .int)),.v (.int 0)] []= .ok (.v (.int (g.getD 0 0))) []:=xbG 58 g 0 []
 have N:call prog 59 "_law_nth" [.v (.lst (g.map .int)),.v (.int 1)] []= .ok (.v (.int (g.getD 1 0))) []:=xbG 58 g 1 []
 generalize g.getD 0 0=v at x
 generalize g.getD 1 0=y at N
 have f2:=Zx v 2 (by decide) (by decide)
 obtain⟨⟨K,T,n⟩,ok,E⟩:=xb3 58 (v / 2) []
 simp only [xcH,Aa7,decide_eq_true_eq]at ok
 obtain⟨⟨⟨X,hT⟩,hn⟩,I⟩:=ok
 have E:call prog 59 "_law_shape" [.v (.int (v / 2))] []= .ok (.v (.tup [.int (K:Int),.int (T:Int),.int (n:Int)])) []:=E
 obtain⟨a,f,lK,lT,nd,en⟩:=qc7 58 K T X hT []
 have ff:Gn .fdiv v 1536=y0 (v / 1536):=by
  show(if _ then _ else _)=_
  rw [if_pos (by rw [GY];decide)]
 have S:=qo (v / 1536) 5 (by decide)
 obtain⟨u,hu,m⟩:=Zk (v / 1536) 5 (by decide)
 have m:v / 1536 % 5=(u:Int):=m
 rw [m]at S
 obtain⟨k1,k2,k3,k4⟩:=qbt X hT hn
 rw [Ga rfl _ _ _ rfl]
 refine Eq.trans (congrArg (Ka 0) (?_:_=O.ret (.v (.bl k9)) [])) (Gb _ [] [] rfl)
 simp only [d_law]
 refine Eq.trans (za (by simp_all [x,f2,E];rfl)) ?_
 refine Eq.trans (za (by simp_all [en];rfl)) ?_
 refine Eq.trans (za (by simp_all [x,ff,S];rfl)) ?_
 obtain⟨U,e1⟩:=qbu (Y:=q5 g K T n (wD a f) u) (c:= .cmp .gt jdR (.int 6)) 2 u (by simp_all [k1,k2,k3,wd,k4,Jr];rfl) rfl
 refine Eq.trans (za e1) ?_
 obtain⟨u2,e2⟩:=qbu (F:=(u9 59)) (h:= []) (Y:=q5 g K T n (wD a f) U) (c:= .or (.cmp .eq (.var 3) (.int 4)) (.cmp .gt jdR (.int 8))) (b:=v9 ((n:Int)=4)||v9 ((8:Int)<((K*n+T*n*n:Nat):Int))) 1 U (by
  have q:=Jm (n:Int) 4 []
  cases z:v9 ((n:Int)=4)<;>(rw [z]at q;simp_all [q,k1,k2,k3,wd,k4,Jr];try rfl)) rfl
 refine Eq.trans (za e2) ?_
 obtain⟨i,sl,sw,ey⟩:=qam 55 g hl a f (by rw [Ab1];omega) u2
 have C:Ct n a f i:=⟨hn,by omega,by omega,nd,sw,sl,by rw [lK,lT];exact I⟩
 have ek:=xap C 58 (by decide)
 have m:=za2 C 58 (by decide)
 have kl:=qcq C
 have dl:(dL n a f i).length<=512:=Ac0 (Ad9 _ _) kl
 have ed: ∀Y:Sl,Gj Y 7=y0 (.v (.lst ((kL n a f i).map (wX n a f))))->eval (u9 59) qU Y []= .ok (.own ((dL n a f i).map (wX n a f))) []:=λY J=>by
  unfold qU
  refine jav (wX n a f) (jdx n a.length f.length) _ (xch (by rw [eval,KG J])) (by omega) λc o=> ?_
  obtain⟨s,_⟩:=zb6 C o
  obtain⟨M,w,q2,Z,P,q5⟩:=QY C s 56 []
  have r:=qcR C w s []
  rw [show v9 (M=c)=jdx n a.length f.length c by
   cases z:jdx n a.length f.length c with
   | true=>exact decide_eq_true (P.mp z)
   | false=>exact decide_eq_false λe=>by rw [P.mpr e]at z;cases z]at r
  exact⟨by simp_all [q5,r],by simp_all []⟩
 have ea: ∀Y:Sl,Gj Y 7=y0 (.v (.lst ((kL n a f i).map (wX n a f))))->Gj Y 8=y0 (.v (.lst ((dL n a f i).map (wX n a f))))->eval (u9 59) (.bi .all (.cons JJ .nil)) Y []= .ok (.v (.bl k9)) []:=λY J h8=>by
  have e:=xn (F:=(u9 59)) (e:=JJ) (Y:=Y) (h:= []) (bs:=(kL n a f i).map λ_=>k9) (by
   rw [Ac6]
   unfold JJ
   refine Qe (wX n a f) (λ_=> .bl k9) _ (xch (by rw [eval,KG J])) (by omega) λc o=>⟨.v (.bl k9),?_,rfl⟩
   obtain⟨s,h2⟩:=zb6 C o
   obtain⟨M,w,q2,Z,P,q5⟩:=QY C s 56 []
   have r:=xcz C (c:=M) (l:=dL n a f i) (Ae1.mpr ⟨Ae1.mpr ⟨Ab3.mpr w,by rw [q2];exact h2⟩,Z⟩) []
   simp_all [h8,q5,r])
  rw [show (((kL n a f i).map λ_=>k9).all id)=k9 by rw [Ad3];intro b I;obtain⟨_,_,rfl⟩:=Ac.mp I;rfl]at e
  exact e
 refine Eq.trans (za (by simp_all [ey];rfl)) ?_
 refine Eq.trans (za (by simp_all [ek];rfl)) ?_
 refine' Eq.trans (za (qal (ed _ rfl) rfl)) ?_
 rw [Za (by
  unfold Gr
  rw [eval,ea _ rfl rfl]
  rfl)]
 have eL:=xaS C (l:=dL n a f i) (λc o=>(zb6 C (Ae1.mp o).1).1) dl 56
 have hL:((dL n a f i).map (wX n a f)).length<LIM:=by rw [Gi,Aa];omega
 refine Eq.trans (za (by simp_all [m];rfl)) ?_
 rw [Za (by simp_all [eL])]
 refine Eq.trans (za (by simp_all [hL,if_true];rfl)) ?_
 have m6:=qo y 6 (by decide)
 obtain⟨d2,Q,H⟩:=xB (xs:=bgL.map jdP) y (by decide)
 obtain⟨⟨K2,p,j⟩,G,rfl⟩:=Ac.mp Q
 have bo:=Ad3.mp zcm _ G
 simp only [zc5,Aa7,decide_eq_true_eq]at bo
 obtain⟨⟨⟨bK,W⟩,bn⟩,bb⟩:=bo
 have H:atI [D.tup [.int 1,.int 2,.int 2],.tup [.int 3,.int 1,.int 2],.tup [.int 1,.int 1,.int 3],.tup [.int 0,.int 1,.int 4],.tup [.int 4,.int 4,.int 4],.tup [.int 3,.int 0,.int 4]] (y % 6)=y0 (.tup [.int (K2:Int),.int (p:Int),.int (j:Int)]):=H
 obtain⟨A,B,lA,lB,_,eb⟩:=qc7 58 K2 p bK W []
 obtain⟨j1,j2,j3,j4⟩:=qbt bK W bn
 refine Eq.trans (za (by simp_all [N,m6,xp,H];rfl)) ?_
 refine Eq.trans (za (by simp_all [eb];rfl)) ?_
 refine Eq.trans (za (by simp_all [j1,j2,j3,wd,j4];rfl)) ?_
 have t:=Zx y 36 (by decide) (by decide)
 have R:=qo (y / 36) (10 ^ 20) (by decide)
 have f6:=Zx y 6 (by decide) (by decide)
 have L:=qo (y / 6) 6 (by decide)
 have nn:(0:Int)<=y / 36 % 10 ^ 20:=Int.emod_nonneg _ (by decide)
 obtain⟨d,hd,k⟩:=xB (xs:= [D.int (-1),.int 5,.bl k9,.non,.str [50],.int (5+y / 36 % 10 ^ 20)]) (y / 6) (by simp)
 have k:atI [D.int (-1),.int 5,.bl k9,.non,.str [50],.int (5+y / 36 % 10 ^ 20)] (y / 6 % 6)=y0 d:=k
 have V:Gc d=k9/\wh d 5=false:=by
  simp only [Ab4,Ac2,or_false]at hd
  rcases hd with rfl | rfl | rfl | rfl | rfl | rfl
  ·exact⟨rfl,rfl⟩
  ·exact⟨rfl,rfl⟩
  ·exact⟨rfl,rfl⟩
  ·exact⟨rfl,rfl⟩
  ·exact⟨rfl,rfl⟩
  ·refine⟨rfl,?_⟩
   show(v9 ((0:Int)<=5+y / 36 % 10 ^ 20)&&v9 (5+y / 36 % 10 ^ 20<5))=y9
   rw [decide_eq_false (show ¬(5+y / 36 % 10 ^ 20<5)by omega),Bool.and_false]
 refine Eq.trans (za (by simp_all [N,t,jc0,R,wd,f6,L,int?_int,xp,k];rfl)) ?_
 have r1:call prog 59 "_law_refused" [.v (.tup [wD A B,.tup []]),.v (.int (j:Int))] []= .ok (.own [.str zbh,.int ((K2*j+p*j*j:Nat):Int)]) []:=by
  refine zcf 57 (wD A B) (.int (j:Int)) _ (xbw 57 _ _ _ _ [] ?_)
  have z:=qc1 52 j A B [] bn (by omega) (by omega)
  rw [lA,lB,if_neg (by omega)]at z
  exact z
 have r2:call prog 59 "_law_refused" [.v (.tup [wD A B,.tup []]),.v d] []= .ok (.own [.str wY]) []:=xbE 57 (wD A B) d (xbw 57 _ _ _ _ [] (zb5 52 (wD A B) d [] V.1 V.2))
 have z1:=qbA [.str zbh,.int ((K2*j+p*j*j:Nat):Int)] rfl (by simp) []
 have z2:=qbA [.str wY] rfl (by simp) []
 rw [Za (by simp_all [r1,r2,z1,z2])]
 exact Zb (xc rfl (by simp_all [m,eL]))
end M
namespace L2.MS
open PySem PyProof.Rows
def qdY (i:Nat):Stmt:=PySem.Challenge.pw_worldfind_k51_unlike_ones.main.body.getD i (.Pass ⟨0,0,0,0⟩)
noncomputable def fnsL:List String:= ["is_whole", "is_below", "pairs_of", "gathered", "common", "either", "without", "turned", "joined", "closed", "same", "every", "is_size", "widths", "bits", "check_size", "check_bits", "code", "world_of", "longer_by_one", "renamings", "is_renaming", "renamed_kind", "renamed_tie", "renamed", "codes_alike", "value_of_name", "made", "value", "counts", "keeps_count", "keeps", "first_broken", "all_forms", "unlike", "_law_nth", "_law_whole", "_law_marks", "_law_orders", "_law_world", "_law_led", "_law_alike", "_law_names", "_law_atom", "_law_fact", "_law_put", "_law_op", "_law_spread", "_law_saying", "_law_sayings", "_law_shape", "_law_keep", "_law_least", "_law_keepers", "_law_refused", "_law_listed", "law"]
def qaQ:List String:= ["WorldError", "NoSize", "NoCode", "TooBig", "NoRenaming", "NoNumber"]
def zck:List String:= ["NoSize", "NoCode", "NoRenaming"]
def qcm:List String:= ["WorldError"]
def zdW:qdv:=⟨[],[],[],[],[("TooBig", "bits")]⟩
abbrev CF (s:Stmt) (N:List Str):Cf:=⟨Qb s,N,fnsL,qaQ,zck,qcm,zdW⟩
abbrev JH:Stmt:=qdY 75
noncomputable abbrev xca:List Str:= ["_law_script", "_law_kinds", "_law_ties", "_law_size", "_law_words", "_law_upto", "_law_sayings_here", "_law_worlds", "_law_due", "_law_got", "_law_wide", "_law_big", "_law_many", "_law_odd"]
def jcr:Qp xca ["_law_script"] (Qb JH):=by constructor<;>first | rfl | decide +kernel
def qcS:chkSs (CF JH xca) M.d_law.body (Je JH)=true:=by decide +kernel
structure FP (K:Aa6) (n:Str) (s:Stmt) (f:Addr) (oc:Value) (od an:Option Addr) (sl:Array (Option Value)) (kV dc pm cd ct:Value):Prop where
 a:PySem.W.nsIn K mainGlobals n=y0 (y0 (.ref f))
 l:K.lookup f=y0 ⟨oc,od,.func (Ah7 n n (Ql s) (Je s) (Qb s) .none kV dc pm an cd ct),sl⟩
 c:Ak6 K cd n=k9
 k:Ae0 K (.ref f)=k9
def FQ (K:Aa6) (n:Str) (s:Stmt) (f:Addr):Prop:= ∃d e c sl kV a pm cd b,FP K n s f d e c sl kV a pm cd b
structure MP (K:Aa6) (C:Addr) (m n:Str) (s:Stmt) (f:Addr) (oc:Value) (od an:Option Addr) (sl:Array (Option Value)) (kV dc pm cd ct:Value):Prop where
 a:Am5 K (.ref C) m=y0 (y0 (.ref f))
 i:PySem.W.isFn K (.ref f)=k9
 l:K.lookup f=y0 ⟨oc,od,.func (Ah7 m n (Ql s) (Je s) (Qb s) .none kV dc pm an cd ct),sl⟩
 c:Ak6 K cd n=k9
 k:Ae0 K (.ref f)=k9
def xdI {a:List Value}(h:a.length=1): ∃b,a= [b]:=by
 rcases a with _ | ⟨_,_ | ⟨_,_⟩⟩<;>first | exact⟨_,rfl⟩ | (simp at h)
def zdF {a:List Value}(h:a.length=2): ∃c b,a= [c,b]:=by
 rcases a with _ | ⟨_,_ | ⟨_,_ | ⟨_,_⟩⟩⟩<;>first | exact⟨_,_,rfl⟩ | (simp at h)
def zdO {a:List Value}(h:a.length=3): ∃c b a2,a= [c,b,a2]:=by
 rcases a with _ | ⟨_,_ | ⟨_,_ | ⟨_,_ | ⟨_,_⟩⟩⟩⟩<;>first | exact⟨_,_,_,rfl⟩ | (simp at h)
def zdP {a:List Value}(h:a.length=4): ∃c b a2 a3,a= [c,b,a2,a3]:=by
 rcases a with _ | ⟨_,_ | ⟨_,_ | ⟨_,_ | ⟨_,_ | ⟨_,_⟩⟩⟩⟩⟩<;>first | exact⟨_,_,_,_,rfl⟩ | (simp at h)
def zdQ {a:List Value}(h:a.length=5): ∃c b a2 a3 a4,a= [c,b,a2,a3,a4]:=by
 rcases a with _ | ⟨_,_ | ⟨_,_ | ⟨_,_ | ⟨_,_ | ⟨_,_ | ⟨_,_⟩⟩⟩⟩⟩⟩<;>first | exact⟨_,_,_,_,_,rfl⟩ | (simp at h)
def qdB {K:Aa6}(X:K.In h) (G:h.Ns mainGlobals mg){st:Stmt}(p:FQ K (qf f) st fa) (N ps) (d) (g:M.prog.fns.lookup f=y0 d) (k:Qp N ps (Qb st):=by constructor<;>first | rfl | decide +kernel) (l:chkSs (CF st N) d.body (Je st)=true:=by decide +kernel) (n:N.length=d.n:=by rfl) (q:ps.length=d.ps:=by rfl) (le:d.ps<=d.n:=by decide) (i: ∀(kV e pm:Value) (m:Option Addr) (c j:Value) (b:List Value),b.length=ps.length->bindArgs (Ah7 (qf f) (qf f) (Ql st) (Je st) (Qb st) .none kV e pm m c j) ⟨b,[]⟩=pure (ps.zip b):=by intro _ _ _ _ _ _ b a;first | (obtain ⟨_,rfl⟩:=xdI a;rfl) | (obtain ⟨_,_,rfl⟩:=zdF a;rfl) | (obtain ⟨_,_,_,rfl⟩:=zdO a;rfl) | (obtain ⟨_,_,_,_,rfl⟩:=zdP a;rfl) | (obtain ⟨_,_,_,_,_,rfl⟩:=zdQ a;rfl)): ∃d,M.prog.fns.lookup f=y0 d/\ ∃t:jdG K mg f,xaM t d fnsL qaQ zck qcm zdW/\Ae0 K (.ref t.fa)=k9/\mg (qf f)=y0 (.ref t.fa):=
 have⟨_,_,_,_,_,_,_,_,_,p⟩:=p
 have F:=zaG (st:=st) p.l p.c p.k
 ⟨d,g,⟨st,fa,_,N,ps⟩,⟨⟨_,_,F⟩,F.binds i,k,n,q,le,l⟩,p.k,Af X G p.a⟩
noncomputable def xc7 (f n m:Str) (b:List Stmt):Bool:=lC b λst r=>kZ r (qau st λts v=>lC ts λt r=>kZ r (zax t λx g _=>Zr x λa=>Zr v λc=>v9 (a=n)&&v9 (g=f)&&v9 (c=m)))
def jb9 (h:xc7 f n m b=k9): ∃e p2 d q,b= [.Assign [.Attribute (.Name n e) f p2] (.Name m d) q]:=by
 refine kC (λj r h=> ?_) b h
 refine kE (λh=> ?_) r h
 refine jaQ (λi v p h=> ?_) j h
 refine kC (λt r h=> ?_) i h
 refine kE (λh=> ?_) r h
 refine zbd (λx g p h=> ?_) t h
 refine xr (λa p h=> ?_) x h
 refine xr (λc p h=> ?_) v h
 obtain⟨l,k,o⟩:=a3 h
 cases of_decide_eq_true l
 cases of_decide_eq_true k
 cases of_decide_eq_true o
 exact⟨_,_,_,_,rfl⟩
def jdy {K:PySem.W.Frag}{st:Stmt}{kV k pm cd d:Value}(p:MP K C "__init__" n st fa oc od j sl kV k pm cd d) (a b) (t:Qp [a,b] [a,b] (Qb st):=by constructor<;>first | rfl | decide +kernel) (m:xc7 (qf f) a b (Je st)=true:=by decide +kernel) (h1:(a==("__debug__" :Str))=false:=by decide) (h2:(b==("__debug__" :Str))=false:=by decide) (l:(a==("__classdict__" :Str))=false:=by decide) (o:(b==("__classdict__" :Str))=false:=by decide) (i: ∀ kV h pm j g d c,c.length= [a,b].length->bindArgs (PySem.W.fnOf "__init__" n (Ql st) (Je st) (Qb st) .none kV h pm j g d) ⟨c,[]⟩=pure ([a,b].zip c):=by intro _ _ _ _ _ _ c s;(obtain ⟨_,_,rfl⟩:=zdF s;rfl)): ∃fI fd ps,PySem.W.findIn K (.ref C) "__init__" =some (some (.ref fI))/\W4 K (qf f) fI fd ps:=by
 have F:=zaG p.l p.c p.k
 obtain⟨q,u,r,v,e⟩:=jb9 m
 exact⟨_,_,_,p.a,⟨⟨_,_,st,_,a,b,q,u,r,v,F,rfl,rfl,t,e,h1,h2,l,o⟩,F.binds i,beq_iff_eq.mp p.i⟩⟩
theorem jbv : ∀ {l:List (String×α)}{x}{d},l.lookup x=y0 d->(x,d)∈l
 | (k,v)::l,x,d,h=>by
  rw [Ad2]at h
  by_cases q:(x==k)=k9
  ·rw [q]at h;cases h;rw [eq_of_beq q];exact Aa3
  ·rw [eq_false_of_ne_true q]at h;exact Aa2 _ (jbv h)
def all_mk {l:PySem.W.OpenLaw}{w:World}{K:PySem.W.Frag}{h:Heap}{mg:Str->Option Value}{fa:Addr}(X:K.In h) (G:h.Ns mainGlobals mg) (hfa:mg "law" =some (.ref fa))
 {f0 f1 f2 f3 f4 f5 f6 f7 f8 f9 f10 f11 f12 f13 f14 f15 f16 f17 f18 f19 f20 f21 f22 f23 f24 f25 f26 f27 f28 f29 f30 f31 f32 f33 f34 f35 f36 f37 f38 f39 f40 f41 f42 f43 f44 f45 f46 f47 f48 f49 f50 f51 f52 f53 f54 f55 f56 O b g a i C5 gi0:Addr}
 (p0:FQ K "is_whole" (qdY 8) f0)
 (p1:FQ K "is_below" (qdY 9) f1)
 (p2:FQ K "pairs_of" (qdY 11) f2)
 (p3:FQ K "gathered" (qdY 12) f3)
 (p4:FQ K "common" (qdY 13) f4)
 (p5:FQ K "either" (qdY 14) f5)
 (p6:FQ K "without" (qdY 15) f6)
 (p7:FQ K "turned" (qdY 16) f7)
 (p8:FQ K "joined" (qdY 17) f8)
 (p9:FQ K "closed" (qdY 18) f9)
 (p10:FQ K "same" (qdY 19) f10)
 (p11:FQ K "every" (qdY 20) f11)
 (p12:FQ K "is_size" (qdY 23) f12)
 (p13:FQ K "widths" (qdY 24) f13)
 (p14:FQ K "bits" (qdY 25) f14)
 (p15:FQ K "check_size" (qdY 26) f15)
 (p16:FQ K "check_bits" (qdY 27) f16)
 (p17:FQ K "code" (qdY 28) f17)
 (p18:FQ K "world_of" (qdY 29) f18)
 (p19:FQ K "longer_by_one" (qdY 31) f19)
 (p20:FQ K "renamings" (qdY 32) f20)
 (p21:FQ K "is_renaming" (qdY 33) f21)
 (p22:FQ K "renamed_kind" (qdY 34) f22)
 (p23:FQ K "renamed_tie" (qdY 35) f23)
 (p24:FQ K "renamed" (qdY 36) f24)
 (p25:FQ K "codes_alike" (qdY 37) f25)
 (p26:FQ K "value_of_name" (qdY 39) f26)
 (p27:FQ K "made" (qdY 40) f27)
 (p28:FQ K "value" (qdY 41) f28)
 (p29:FQ K "counts" (qdY 42) f29)
 (p30:FQ K "keeps_count" (qdY 43) f30)
 (p31:FQ K "keeps" (qdY 44) f31)
 (p32:FQ K "first_broken" (qdY 45) f32)
 (p33:FQ K "all_forms" (qdY 48) f33)
 (p34:FQ K "unlike" (qdY 49) f34)
 (p35:FQ K "_law_nth" (qdY 51) f35)
 (p36:FQ K "_law_whole" (qdY 52) f36)
 (p37:FQ K "_law_marks" (qdY 53) f37)
 (p38:FQ K "_law_orders" (qdY 55) f38)
 (p39:FQ K "_law_world" (qdY 57) f39)
 (p40:FQ K "_law_led" (qdY 58) f40)
 (p41:FQ K "_law_alike" (qdY 59) f41)
 (p42:FQ K "_law_names" (qdY 61) f42)
 (p43:FQ K "_law_atom" (qdY 62) f43)
 (p44:FQ K "_law_fact" (qdY 63) f44)
 (p45:FQ K "_law_put" (qdY 64) f45)
 (p46:FQ K "_law_op" (qdY 65) f46)
 (p47:FQ K "_law_spread" (qdY 66) f47)
 (p48:FQ K "_law_saying" (qdY 67) f48)
 (p49:FQ K "_law_sayings" (qdY 68) f49)
 (p50:FQ K "_law_shape" (qdY 69) f50)
 (p51:FQ K "_law_keep" (qdY 70) f51)
 (p52:FQ K "_law_least" (qdY 71) f52)
 (p53:FQ K "_law_keepers" (qdY 72) f53)
 (p54:FQ K "_law_refused" (qdY 73) f54)
 (p55:FQ K "_law_listed" (qdY 74) f55)
 (j:FP K "law" JH f56 oc56 od56 an56 sl56 kV56 dc56 pm56 cd56 ct56)
 (z0:PySem.W.nsIn K mainGlobals "len" =some none)
 (z1:PySem.W.nsIn K mainGlobals "int" =some none)
 (z2:PySem.W.nsIn K mainGlobals "list" =some none)
 (z3:PySem.W.nsIn K mainGlobals "tuple" =some none)
 (z4:PySem.W.nsIn K mainGlobals "sum" =some none)
 (z5:PySem.W.nsIn K mainGlobals "all" =some none)
 (z6:PySem.W.nsIn K mainGlobals "any" =some none)
 (z7:PySem.W.nsIn K mainGlobals "sorted" =some none)
 (z8:PySem.W.nsIn K mainGlobals "divmod" =some none)
 (z9:PySem.W.nsIn K mainGlobals "str" =some none)
 (z10:PySem.W.nsIn K mainGlobals "min" =some none)
 (z11:PySem.W.nsIn K mainGlobals "max" =some none)
 (z12:PySem.W.nsIn K mainGlobals "abs" =some none)
 (z13:PySem.W.nsIn K mainGlobals "isinstance" =some none)
 (z14:PySem.W.nsIn K mainGlobals "bool" =some none)
 (z15:PySem.W.nsIn K mainGlobals "range" =some none)
 (z16:PySem.W.nsIn K mainGlobals "reversed" =some none)
 (z17:PySem.W.nsIn K mainGlobals "zip" =some none)
 (z18:PySem.W.nsIn K mainGlobals "enumerate" =some none)
 (z19:PySem.W.nsIn K mainGlobals "set" =some none)
 (z20:PySem.W.nsIn K mainGlobals "ValueError" =some none)
 (o0:PySem.W.nsIn K mainGlobals "WorldError" =some (some (.ref O)))
 (o1:PySem.W.nsIn K mainGlobals "NoSize" =some (some (.ref b)))
 (o2:PySem.W.nsIn K mainGlobals "NoCode" =some (some (.ref g)))
 (o3:PySem.W.nsIn K mainGlobals "TooBig" =some (some (.ref a)))
 (o4:PySem.W.nsIn K mainGlobals "NoRenaming" =some (some (.ref i)))
 (o5:PySem.W.nsIn K mainGlobals "NoNumber" =some (some (.ref C5)))
 {ck0:Tok}(cn0:PySem.W.nsIn K mainGlobals "GREATEST_SIZE" =some (some (.int 4 ck0)))
 {ck1:Tok}(cn1:PySem.W.nsIn K mainGlobals "MOST_LISTED_BITS" =some (some (.int 9 ck1)))
 {cI1:ClassData}
 (xe1:PySem.W.excIn K b wu "ValueError.__new__" =true)
 (xga1:PySem.W.findIn K (.ref b) "__getattribute__" =some (some (.builtin "BaseException.__getattribute__")))
 (xgn1:PySem.W.findIn K (.ref b) "__getattr__" =some none)
 (xcl1:PySem.W.findIn K (.ref b) "__class__" =some (some (.builtin "object.__class__")))
 (xge1:PySem.W.specialIn K (.builtin "object.__class__") "__get__" =some (some (.builtin "getset_descriptor.__get__")))
 (xse1:PySem.W.takesIn K (.builtin "object.__class__")=some true)
 (xob1:PySem.W.mroIn K b (.type "object")=some true)
 (xba1:PySem.W.mroIn K b (.type "BaseException")=some true)
 (xsu1:An K (.ref b) (.ref b)=y0 k9)
 (xty1:PySem.W.typeIn K (.ref b)=y0 (.type "type"))
 (o:Aj9 K b=y0 cI1)
 (I:Ac5 K (.ref b) (.ref O)=y0 k9)
 (W:Ac5 K (.ref b) (.ref b)=y0 k9)
 (E:Ac5 K (.ref b) (.ref g)=y0 y9)
 (R:Ac5 K (.ref b) (.ref a)=y0 y9)
 (B:Ac5 K (.ref b) (.ref i)=y0 y9)
 (Z:Ac5 K (.ref b) (.ref C5)=y0 y9)
 (xtv1:PySem.W.kitOne K (.ref b) (.type "ValueError")=some true)
 {cI2:ClassData}
 (xe2:PySem.W.excIn K g wu "ValueError.__new__" =true)
 (xga2:PySem.W.findIn K (.ref g) "__getattribute__" =some (some (.builtin "BaseException.__getattribute__")))
 (xgn2:PySem.W.findIn K (.ref g) "__getattr__" =some none)
 (xcl2:PySem.W.findIn K (.ref g) "__class__" =some (some (.builtin "object.__class__")))
 (xge2:PySem.W.specialIn K (.builtin "object.__class__") "__get__" =some (some (.builtin "getset_descriptor.__get__")))
 (xse2:PySem.W.takesIn K (.builtin "object.__class__")=some true)
 (xob2:PySem.W.mroIn K g (.type "object")=some true)
 (xba2:PySem.W.mroIn K g (.type "BaseException")=some true)
 (xsu2:An K (.ref g) (.ref g)=y0 k9)
 (xty2:PySem.W.typeIn K (.ref g)=y0 (.type "type"))
 (r:Aj9 K g=y0 cI2)
 (Y:Ac5 K (.ref g) (.ref O)=y0 k9)
 (N:Ac5 K (.ref g) (.ref b)=y0 y9)
 (T:Ac5 K (.ref g) (.ref g)=y0 k9)
 (xt3_2:Ac5 K (.ref g) (.ref a)=y0 y9)
 (L:Ac5 K (.ref g) (.ref i)=y0 y9)
 (H:Ac5 K (.ref g) (.ref C5)=y0 y9)
 (xtv2:PySem.W.kitOne K (.ref g) (.type "ValueError")=some true)
 {cI4:ClassData}
 (xe4:PySem.W.excIn K i wu "ValueError.__new__" =true)
 (xga4:PySem.W.findIn K (.ref i) "__getattribute__" =some (some (.builtin "BaseException.__getattribute__")))
 (xgn4:PySem.W.findIn K (.ref i) "__getattr__" =some none)
 (xcl4:PySem.W.findIn K (.ref i) "__class__" =some (some (.builtin "object.__class__")))
 (xge4:PySem.W.specialIn K (.builtin "object.__class__") "__get__" =some (some (.builtin "getset_descriptor.__get__")))
 (xse4:PySem.W.takesIn K (.builtin "object.__class__")=some true)
 (xob4:PySem.W.mroIn K i (.type "object")=some true)
 (xba4:PySem.W.mroIn K i (.type "BaseException")=some true)
 (xsu4:An K (.ref i) (.ref i)=y0 k9)
 (xty4:PySem.W.typeIn K (.ref i)=y0 (.type "type"))
 (u:Aj9 K i=y0 cI4)
 (xt0_4:Ac5 K (.ref i) (.ref O)=y0 k9)
 (A:Ac5 K (.ref i) (.ref b)=y0 y9)
 (S:Ac5 K (.ref i) (.ref g)=y0 y9)
 (V:Ac5 K (.ref i) (.ref a)=y0 y9)
 (C:Ac5 K (.ref i) (.ref i)=y0 k9)
 (U:Ac5 K (.ref i) (.ref C5)=y0 y9)
 (xtv4:PySem.W.kitOne K (.ref i) (.type "ValueError")=some true)
 {cI3:ClassData}
 (y:PySem.W.findIn K (.ref a) "__getattribute__" =some (some (.builtin "BaseException.__getattribute__")))
 (q:PySem.W.findIn K (.ref a) "__getattr__" =some none)
 (xcl3:PySem.W.findIn K (.ref a) "__class__" =some (some (.builtin "object.__class__")))
 (xge3:PySem.W.specialIn K (.builtin "object.__class__") "__get__" =some (some (.builtin "getset_descriptor.__get__")))
 (xse3:PySem.W.takesIn K (.builtin "object.__class__")=some true)
 (xob3:PySem.W.mroIn K a (.type "object")=some true)
 (xba3:PySem.W.mroIn K a (.type "BaseException")=some true)
 (xsu3:An K (.ref a) (.ref a)=y0 k9)
 (xty3:PySem.W.typeIn K (.ref a)=y0 (.type "type"))
 (p:Aj9 K a=y0 cI3)
 (Q:Ac5 K (.ref a) (.ref O)=y0 k9)
 (D:Ac5 K (.ref a) (.ref b)=y0 y9)
 (xt2_3:Ac5 K (.ref a) (.ref g)=y0 y9)
 (J:Ac5 K (.ref a) (.ref a)=y0 k9)
 (xt4_3:Ac5 K (.ref a) (.ref i)=y0 y9)
 (xt5_3:Ac5 K (.ref a) (.ref C5)=y0 y9)
 (xtv3:PySem.W.kitOne K (.ref a) (.type "ValueError")=some true)
 (jc3:ZE K a=k9)
 (jo3:qb8 K a=k9)
 (js3:PySem.W.findIn K (.ref a) "__setattr__" =some (some (.builtin "object.__setattr__")))
 (jn3:PySem.W.findIn K (.ref a) "bits" =some none)
 (jk3:Ae0 K (.ref a)=k9)
 (qi0:MP K a "__init__" "TooBig.__init__" (jbY (qdY 4) 0) gi0 ioc0 iod0 ian0 isl0 ikV0 idc0 ipm0 icd0 ict0)
 (hb0:PySem.W.mroIn K O (.type "BaseException")=some true)
 : ∃fd:FuncData,(∀ (s:Shared) (v:Value),BindsTo s fd ⟨[v],[]⟩ [("_law_script",v)])/\ ∀base:Heap,K.In base->base.Ns mainGlobals mg->FnOk l.prog w K mg base jdZ (2*60+1) fa fd ["_law_script"] (jb4 K):=by
 have e:=hfa.symm.trans (Af X G j.a)
 cases e
 let n:Ge:=⟨K,fun c=>([("WorldError",O),("NoSize",b),("NoCode",g),("TooBig",a),("NoRenaming",i),("NoNumber",C5)].lookup c).getD 0,M.prog.cl,qaQ,fun _=>0⟩
 have pr:qcQ n M.prog mg qaQ zck qcm zdW:=by
  refine⟨rfl,rfl,?_,?_,?_,?_,?_,?_,λ_ _ h=>(nomatch h),λ_ _ _ h=>(nomatch h),λ_ _ h=>(nomatch h)⟩
  ·intro x hx
   simp only [bltN,Ab4,Ac2,or_false]at hx
   rcases hx with rfl | rfl | rfl | rfl | rfl | rfl | rfl | rfl | rfl | rfl | rfl | rfl | rfl | rfl | rfl | rfl | rfl | rfl | rfl | rfl | rfl
   ·exact Ac4 X G z0
   ·exact Ac4 X G z1
   ·exact Ac4 X G z2
   ·exact Ac4 X G z3
   ·exact Ac4 X G z4
   ·exact Ac4 X G z5
   ·exact Ac4 X G z6
   ·exact Ac4 X G z7
   ·exact Ac4 X G z8
   ·exact Ac4 X G z9
   ·exact Ac4 X G z10
   ·exact Ac4 X G z11
   ·exact Ac4 X G z12
   ·exact Ac4 X G z13
   ·exact Ac4 X G z14
   ·exact Ac4 X G z15
   ·exact Ac4 X G z16
   ·exact Ac4 X G z17
   ·exact Ac4 X G z18
   ·exact Ac4 X G z19
   ·exact Ac4 X G z20
  ·intro x d hd
   have hm:=jbv hd
   simp only [M.prog,Ab4,Ac2,or_false,Prod.mk.injEq]at hm
   rcases hm with⟨rfl,rfl⟩ | ⟨rfl,rfl⟩
   ·exact⟨_,.int 4,Af X G cn0,⟨_,rfl⟩,λ_ _=>rfl⟩
   ·exact⟨_,.int 9,Af X G cn1,⟨_,rfl⟩,λ_ _=>rfl⟩
  ·intro c m
   simp only [qaQ,Ai2,Ab4,Ac2,or_false,decide_eq_true_eq]at m
   rcases m with rfl | rfl | rfl | rfl | rfl | rfl
   ·exact Af X G o0
   ·exact Af X G o1
   ·exact Af X G o2
   ·exact Af X G o3
   ·exact Af X G o4
   ·exact Af X G o5
  ·intro c m
   simp only [zck,Ai2,Ab4,Ac2,or_false,decide_eq_true_eq]at m
   rcases m with rfl | rfl | rfl
   ·refine⟨⟨⟨xga1,xgn1,xcl1,xge1,xse1,xob1,xba1,Xy o xty1 xsu1,Qy o⟩,?_,xtv1⟩,xe1,Af X G o1⟩
    intro t k
    simp only [n,qaQ,Ab4,Ac2,or_false]at k
    rcases k with rfl | rfl | rfl | rfl | rfl | rfl
    ·exact I
    ·exact W
    ·exact E
    ·exact R
    ·exact B
    ·exact Z
   ·refine⟨⟨⟨xga2,xgn2,xcl2,xge2,xse2,xob2,xba2,Xy r xty2 xsu2,Qy r⟩,?_,xtv2⟩,xe2,Af X G o2⟩
    intro t k
    simp only [n,qaQ,Ab4,Ac2,or_false]at k
    rcases k with rfl | rfl | rfl | rfl | rfl | rfl
    ·exact Y
    ·exact N
    ·exact T
    ·exact xt3_2
    ·exact L
    ·exact H
   ·refine⟨⟨⟨xga4,xgn4,xcl4,xge4,xse4,xob4,xba4,Xy u xty4 xsu4,Qy u⟩,?_,xtv4⟩,xe4,Af X G o4⟩
    intro t k
    simp only [n,qaQ,Ab4,Ac2,or_false]at k
    rcases k with rfl | rfl | rfl | rfl | rfl | rfl
    ·exact xt0_4
    ·exact A
    ·exact S
    ·exact V
    ·exact C
    ·exact U
  ·intro c f m
   simp only [zdW,Ai2,Ab4,Ac2,or_false,decide_eq_true_eq,Prod.mk.injEq]at m
   rcases m with⟨rfl,rfl⟩
   ·refine⟨⟨⟨y,q,xcl3,xge3,xse3,xob3,xba3,Xy p xty3 xsu3,Qy p⟩,?_,xtv3⟩,⟨jo3,jn3,y,q⟩,⟨jc3,jo3,js3,jn3,jk3⟩,PySem.W.mg_of X G o3,jdy qi0 "self" "bits"⟩
    intro t k
    simp only [n,qaQ,Ab4,Ac2,or_false]at k
    rcases k with rfl | rfl | rfl | rfl | rfl | rfl
    ·exact Q
    ·exact D
    ·exact xt2_3
    ·exact J
    ·exact xt4_3
    ·exact xt5_3
  ·intro c m
   simp only [qcm,Ai2,Ab4,Ac2,or_false,decide_eq_true_eq]at m
   rcases m with rfl
   ·exact⟨hb0,rfl⟩
 have all: ∀f,fnsL.contains f=k9-> ∃d,M.prog.fns.lookup f=y0 d/\ ∃t:jdG n.K mg f,xaM t d fnsL qaQ zck qcm zdW/\Ae0 n.K (.ref t.fa)=k9/\mg (qf f)=y0 (.ref t.fa):=by
  intro f hf
  simp only [fnsL,Ai2,Ab4,Ac2,or_false,decide_eq_true_eq]at hf
  rcases hf with rfl | rfl | rfl | rfl | rfl | rfl | rfl | rfl | rfl | rfl | rfl | rfl | rfl | rfl | rfl | rfl | rfl | rfl | rfl | rfl | rfl | rfl | rfl | rfl | rfl | rfl | rfl | rfl | rfl | rfl | rfl | rfl | rfl | rfl | rfl | rfl | rfl | rfl | rfl | rfl | rfl | rfl | rfl | rfl | rfl | rfl | rfl | rfl | rfl | rfl | rfl | rfl | rfl | rfl | rfl | rfl | rfl
  ·exact qdB X G p0 ["thing"] ["thing"] M.Ky rfl
  ·exact qdB X G p1 ["thing", "end"] ["thing", "end"] M.GT rfl
  ·exact qdB X G p2 ["size", "tie"] ["size", "tie"] M.Kf rfl
  ·exact qdB X G p3 ["size", "pairs", "tie", "a", "b"] ["size", "pairs"] M.Kh rfl
  ·exact qdB X G p4 ["one", "other"] ["one", "other"] M.KB rfl
  ·exact qdB X G p5 ["one", "other"] ["one", "other"] M.KI rfl
  ·exact qdB X G p6 ["one", "other"] ["one", "other"] M.Kn rfl
  ·exact qdB X G p7 ["size", "tie"] ["size", "tie"] M.KC rfl
  ·exact qdB X G p8 ["size", "one", "other", "row", "tie", "a", "b", "from_b"] ["size", "one", "other"] M.KJ rfl
  ·exact qdB X G p9 ["size", "tie", "reached", "longer"] ["size", "tie"] M.KH rfl
  ·exact qdB X G p10 ["size"] ["size"] M.K0 rfl
  ·exact qdB X G p11 ["size"] ["size"] M.KR rfl
  ·exact qdB X G p12 ["thing"] ["thing"] M.Kq rfl
  ·exact qdB X G p13 ["words", "size"] ["words", "size"] M.KL rfl
  ·exact qdB X G p14 ["words", "size"] ["words", "size"] M.K6 rfl
  ·exact qdB X G p15 ["size"] ["size"] M.GF rfl
  ·exact qdB X G p16 ["words", "size", "most", "number"] ["words", "size", "most"] M.GG rfl
  ·exact qdB X G p17 ["words", "world", "total", "place", "width", "part"] ["words", "world"] M.KZ rfl
  ·exact qdB X G p18 ["words", "size", "code", "parts", "rest", "width", "first_tie"] ["words", "size", "code"] M.Ki rfl
  ·exact qdB X G p19 ["rows", "size", "longer", "row"] ["rows", "size"] M.GQ rfl
  ·exact qdB X G p20 ["size", "rows", "place"] ["size"] M.Ko rfl
  ·exact qdB X G p21 ["thing", "size"] ["thing", "size"] M.GK rfl
  ·exact qdB X G p22 ["kind", "renaming", "answer", "a", "thing"] ["kind", "renaming"] M.GZ rfl
  ·exact qdB X G p23 ["tie", "renaming", "size"] ["tie", "renaming"] M.GN rfl
  ·exact qdB X G p24 ["words", "world", "renaming", "size", "kinds", "ties", "new_kinds", "new_ties"] ["words", "world", "renaming"] M.Kw rfl
  ·exact qdB X G p25 ["words", "world"] ["words", "world"] M.GJ rfl
  ·exact qdB X G p26 ["words", "world", "name", "size", "kind"] ["words", "world", "name"] M.GC rfl
  ·exact qdB X G p27 ["size", "sort", "ties"] ["size", "sort", "ties"] M.GP rfl
  ·exact qdB X G p28 ["words", "world", "expression", "ties"] ["words", "world", "expression"] M.Kl rfl
  ·exact qdB X G p29 ["size", "sort", "tie", "pairs", "firsts"] ["size", "sort", "tie"] M.KK rfl
  ·exact qdB X G p30 ["words", "world", "saying", "limit", "numbers"] ["words", "world", "saying"] M.GL rfl
  ·exact qdB X G p31 ["words", "world", "saying", "sort"] ["words", "world", "saying"] M.d_keeps rfl
  ·exact qdB X G p32 ["words", "world", "sayings", "number", "saying"] ["words", "world", "sayings"] M.GH rfl
  ·exact qdB X G p33 ["words", "size", "seen", "forms", "number", "world", "one"] ["words", "size"] M.G9 rfl
  ·exact qdB X G p34 ["theory", "size", "words", "sayings"] ["theory", "size"] M.Kk rfl
  ·exact qdB X G p35 ["_law_script", "_law_k"] ["_law_script", "_law_k"] M.Kv rfl
  ·exact qdB X G p36 ["_law_thing"] ["_law_thing"] M.Km rfl
  ·exact qdB X G p37 ["_law_number_here", "_law_many", "_law_marks_here", "_law_k", "_law_mark"] ["_law_number_here", "_law_many"] M.Kc rfl
  ·exact qdB X G p38 ["_law_size", "_law_rows", "_law_step", "_law_longer", "_law_row", "_law_a"] ["_law_size"] M.Kj rfl
  ·exact qdB X G p39 ["_law_size", "_law_kinds", "_law_ties", "_law_cell", "_law_number_here", "_law_first", "_law_second", "_law_k", "_law_part"] ["_law_size", "_law_kinds", "_law_ties", "_law_cell"] M.GO rfl
  ·exact qdB X G p40 ["_law_world_here", "_law_order_here", "_law_size", "_law_kinds", "_law_ties", "_law_first", "_law_kind", "_law_marks_here", "_law_second", "_law_tie", "_law_places"] ["_law_world_here", "_law_order_here"] M.Kr rfl
  ·exact qdB X G p41 ["_law_got", "_law_due", "_law_k"] ["_law_got", "_law_due"] M.G6 rfl
  ·exact qdB X G p42 ["_law_kinds", "_law_ties"] ["_law_kinds", "_law_ties"] M.Kb rfl
  ·exact qdB X G p43 ["_law_words", "_law_cell", "_law_names_here", "_law_pick"] ["_law_words", "_law_cell"] M.GA rfl
  ·exact qdB X G p44 ["_law_parts", "_law_pick", "_law_one", "_law_other", "_law_word"] ["_law_parts", "_law_pick"] M.GU rfl
  ·exact qdB X G p45 ["_law_some", "_law_word", "_law_other", "_law_one", "_law_deep"] ["_law_some", "_law_word"] M.Kp rfl
  ·exact qdB X G p46 ["_law_words", "_law_parts", "_law_sayings_here", "_law_way", "_law_pick", "_law_expression", "_law_deep", "_law_saying_here"] ["_law_words", "_law_parts", "_law_sayings_here", "_law_way", "_law_pick"] M.Gs rfl
  ·exact qdB X G p47 ["_law_cell", "_law_number_here"] ["_law_cell"] M.GR rfl
  ·exact qdB X G p48 ["_law_words", "_law_cell", "_law_parts", "_law_sayings_here", "_law_k", "_law_way", "_law_pick", "_law_whole_here", "_law_saying_here", "_law_deep"] ["_law_words", "_law_cell"] M.GE rfl
  ·exact qdB X G p49 ["_law_script", "_law_words", "_law_start", "_law_most_of", "_law_cells"] ["_law_script", "_law_words", "_law_start", "_law_most_of"] M.Gx rfl
  ·exact qdB X G p50 ["_law_cell", "_law_some"] ["_law_cell"] M.G7 rfl
  ·exact qdB X G p51 ["_law_words", "_law_world_here", "_law_sayings_here"] ["_law_words", "_law_world_here", "_law_sayings_here"] M.Ke rfl
  ·exact qdB X G p52 ["_law_world_here", "_law_size", "_law_kinds", "_law_ties", "_law_best", "_law_order_here", "_law_other", "_law_key"] ["_law_world_here"] M.G8 rfl
  ·exact qdB X G p53 ["_law_words", "_law_size", "_law_sayings_here", "_law_kinds", "_law_ties", "_law_worlds", "_law_number_here", "_law_world_here"] ["_law_words", "_law_size", "_law_sayings_here"] M.GM rfl
  ·exact qdB X G p54 ["_law_theory", "_law_size", "_law_caught", "e"] ["_law_theory", "_law_size"] M.Gz rfl
  ·exact qdB X G p55 ["_law_got", "_law_due"] ["_law_got", "_law_due"] M.GS rfl
  ·exact qdB X G ⟨_,_,_,_,_,_,_,_,_,j⟩ ["_law_script", "_law_kinds", "_law_ties", "_law_size", "_law_words", "_law_upto", "_law_sayings_here", "_law_worlds", "_law_due", "_law_got", "_law_wide", "_law_big", "_law_many", "_law_odd"] ["_law_script"] M.d_law rfl
 refine⟨PySem.W.fnOf "law" "law" (Ql JH) (Je JH) (Qb JH) .none kV56 dc56 pm56 an56 cd56 ct56,fun s v=> .of_eq rfl,fun base _ _=> ?_⟩
 have F:=zaG (st:=JH) j.l j.c j.k
 have ao:=qcr (P:=l.prog) (w:=w) (base:=base) pr all (λ_ h=>(nomatch h)) 59
 have z:FnOk l.prog w K mg base (qdL l.prog w) (2*60+1) fa _ ["_law_script"] (jdV n (M.call M.prog 60 "law")):=zbT (t:=⟨JH,fa,_,["_law_script", "_law_kinds", "_law_ties", "_law_size", "_law_words", "_law_upto", "_law_sayings_here", "_law_worlds", "_law_due", "_law_got", "_law_wide", "_law_big", "_law_many", "_law_odd"],["_law_script"]⟩) pr ⟨⟨_,_,F⟩,F.binds (fun _ _ _ _ _ _ us hl=>by obtain⟨_,rfl⟩:=xdI hl;rfl),jcr,rfl,rfl,by decide,qcS⟩ rfl 59 ao.1 ao.2
 exact xce (Γ:=n) z M.hlaw
end L2.MS
namespace PySem.W.Fast
def tw17106512883461146481:=0
def tw13956807663877150983:=0
def tw9534270686093375953:=0
def tw4598611944504099355:=0
def tw3569296556028486278:=0
def tw6971517805183324477:=0
def tw9776628528751558622:=0
def tw12141246748825747882:=0
def tw14245343942740960603:=0
def tw17502209968064737821:=0
def tw3863230050073564714:=0
def tw14182373522332573737:=0
def tw16391798329073656676:=0
def tw10859631652983453864:=0
def tw15220142498950434319:=0
def tw15636330867805360268:=0
def tw570705792601460432:=0
def tw14035606673083303721:=0
def tw2200194724792465999:=0
def tw1390993794707437490:=0
def tw5192168644302329683:=0
def tw4811904131301142829:=0
def tw530580341542685380:=0
def tw17810853786137383709:=0
def tw8238415342610338091:=0
def tw5375686181927236764:=0
def tw12025192451487192998:=0
def tw18402168153428370524:=0
def tw9856789693131809770:=0
def tw14563664361780255674:=0
def tw6608568049874457866:=0
def tw9007547298260607374:=0
def tw8334067827183715076:=0
def tw13681015253426244307:=0
def tw17298461796908996549:=0
def tw525875738823335491:=0
def tw4261996517183927982:=0
def tw12727864741234868410:=0
def tw6873846191110260438:=0
def tw7759741318099767722:=0
def tw17147449336504577983:=0
def tw15023033328520515549:=0
def tw15953311760172124848:=0
def tw6356212434068356669:=0
def tw16264793785648262354:=0
def tw4519925542742186190:=0
def tw18005700774415053802:=0
def tw5153650032997144291:=0
def tw15753193059850592183:=0
def tw3940292446640800111:=0
def tw1893856964223222326:=0
def tw7008481468392161661:=0
def tw7950010955081423749:=0
def tw5751822111895891812:=0
def tw5201028813952661348:=0
def tw209209733116667496:=0
def tw12776149487126146259:=0
def tw11033159004852827834:=0
def tw15562941628497425071:=0
def tw2450082602936622646:=0
def tw11567054346284802506:=0
def tw8002539174334538104:=0
def tw7800719333505812006:=0
def tw118203537940113823:=0
def tw17668658270764084473:=0
def tw17027602098121260877:=0
def tw9625053100373704622:=0
def tw350096023285641017:=0
def tw3099243074232079312:=0
def tw12690015803910384411:=0
def tw10031032798037532181:=0
def tw4690750442795005093:=0
def tw5219840229411884949:=0
def tw18399226155390516166:=0
def tw18384289695159109114:=0
def tw3932822945539567623:=0
def tw14009362937507151981:=0
def tw1161337218223543890:=0
def tw7031888089819487525:=0
def tw16777321028500869990:=0
def tw16079845157105412661:=0
def tw6869227850049251654:=0
def tw79908960762570860:=0
def tw5087007476557576327:=0
def tw132105840501945438:=0
def tw6180641848841625900:=0
def tw1321278691074471083:=0
def tw14038071103747979215:=0
def tw14570918516576509238:=0
def tw9220616036346389894:=0
def tw15633649149143361525:=0
def tw7340951751103630790:=0
def tw6063197668087230978:=0
def tw3847708056426663323:=0
def tw16580101766218482452:=0
def tw8943785879366238329:=0
def tw4760904356337231860:=0
def tw17173295743861273472:=0
def tw2748035628080297877:=0
def tw17668578112367775129:=0
def tw16042183963099298505:=0
def tw1450195732715803569:=0
def tw14711756975953639252:=0
def tw13430153967716730756:=0
def tw12941139404656376383:=0
def tw15964023599333878633:=0
def tw18157117188691993281:=0
def tw11651036016088480892:=0
def tw13354945204934761230:=0
def tw6525924215250964113:=0
def tw13940438794895123350:=0
def tw3077535419199105830:=0
def tw3408207704331769238:=0
def tw11533403344541255092:=0
def tw7998444827936865690:=0
def tw13015080605844911594:=0
def tw9114756197403995279:=0
def tw4944047169076399800:=0
def tw5409959800749222322:=0
def tw4824339984453890364:=0
def tw6346044254200653837:=0
def tw6111822036577229968:=0
def tw918167939995015688:=0
def tw12425224629972521093:=0
def tw2876129643965045939:=0
def tw15002380646205536180:=0
def tw10625224574571718101:=0
def tw9850145226259760297:=0
def tw2778566043831689910:=0
def tw17370374792105944820:=0
def tw17504582186576358507:=0
def tw17101423910312763129:=0
def tw12299585773117307690:=0
def tw11413066245742180168:=0
def tw3805997923156798407:=0
def tw16935836906755615371:=0
def tw16286581709313725828:=0
def tw14242005577526768097:=0
end PySem.W.Fast
open PySem PySem.W PyProof.Rows
set_option maxRecDepth 100000 in
set_option maxHeartbeats 0 in
theorem PySem.Challenge.cw_worldfind_k51_unlike_ones_holds : PySem.Challenge.rw_worldfind_k51_unlike_ones.Holds := by
 w_on;o_law;k_head;(case hw=>w_witness2)
 k_fill
 refine L2.MS.walk (l:=PySem.Challenge.rw_worldfind_k51_unlike_ones) (x:= "_law_script") (2*60+1) ⟨rfl,by decide,by decide⟩ rfl rfl (fun w h Y=>PySem.W.kIn_of Y) ?F
 case F=>
  intro w mg fa h KX G hmg
  refine' L2.MS.all_mk KX G hmg ?p0 ?p1 ?p2 ?p3 ?p4 ?p5 ?p6 ?p7 ?p8 ?p9 ?p10 ?p11 ?p12 ?p13 ?p14 ?p15 ?p16 ?p17 ?p18 ?p19 ?p20 ?p21 ?p22 ?p23 ?p24 ?p25 ?p26 ?p27 ?p28 ?p29 ?p30 ?p31 ?p32 ?p33 ?p34 ?p35 ?p36 ?p37 ?p38 ?p39 ?p40 ?p41 ?p42 ?p43 ?p44 ?p45 ?p46 ?p47 ?p48 ?p49 ?p50 ?p51 ?p52 ?p53 ?p54 ?p55 ?p56 ?z0 ?z1 ?z2 ?z3 ?z4 ?z5 ?z6 ?z7 ?z8 ?z9 ?z10 ?z11 ?z12 ?z13 ?z14 ?z15 ?z16 ?z17 ?z18 ?z19 ?z20 ?o0 ?o1 ?o2 ?o3 ?o4 ?o5 ?cn0 ?cn1 ?xe1 ?xga1 ?xgn1 ?xcl1 ?xge1 ?xse1 ?xob1 ?xba1 ?xsu1 ?xty1 ?xcs1 ?xt0_1 ?xt1_1 ?xt2_1 ?xt3_1 ?xt4_1 ?xt5_1 ?xtv1 ?xe2 ?xga2 ?xgn2 ?xcl2 ?xge2 ?xse2 ?xob2 ?xba2 ?xsu2 ?xty2 ?xcs2 ?xt0_2 ?xt1_2 ?xt2_2 ?xt3_2 ?xt4_2 ?xt5_2 ?xtv2 ?xe4 ?xga4 ?xgn4 ?xcl4 ?xge4 ?xse4 ?xob4 ?xba4 ?xsu4 ?xty4 ?xcs4 ?xt0_4 ?xt1_4 ?xt2_4 ?xt3_4 ?xt4_4 ?xt5_4 ?xtv4 ?xga3 ?xgn3 ?xcl3 ?xge3 ?xse3 ?xob3 ?xba3 ?xsu3 ?xty3 ?xcs3 ?xt0_3 ?xt1_3 ?xt2_3 ?xt3_3 ?xt4_3 ?xt5_3 ?xtv3 ?jc3 ?jo3 ?js3 ?jn3 ?jk3 ?qi0 ?hb0
  (case p0 | p1 | p2 | p3 | p4 | p5 | p6 | p7 | p8 | p9 | p10 | p11 | p12 | p13 | p14 | p15 | p16 | p17 | p18 | p19 | p20 | p21 | p22 | p23 | p24 | p25 | p26 | p27 | p28 | p29 | p30 | p31 | p32 | p33 | p34 | p35 | p36 | p37 | p38 | p39 | p40 | p41 | p42 | p43 | p44 | p45 | p46 | p47 | p48 | p49 | p50 | p51 | p52 | p53 | p54 | p55=>exact⟨_,_,_,_,_,_,_,_,_,by constructor<;>k_is⟩)
  (case p56=>constructor<;>k_is)
  (case z0 | z1 | z2 | z3 | z4 | z5 | z6 | z7 | z8 | z9 | z10 | z11 | z12 | z13 | z14 | z15 | z16 | z17 | z18 | z19 | z20 | o0 | o1 | o2 | o3 | o4 | o5 | cn0 | cn1=>k_is)
  (case xe1=>k_exc)
  (case xga1 | xgn1 | xcl1 | xge1 | xse1 | xob1 | xba1 | xsu1 | xty1 | xcs1=>k_is)
  (case xt0_1 | xt1_1 | xt2_1 | xt3_1 | xt4_1 | xt5_1 | xtv1=>kit_is)
  (case xe2=>k_exc)
  (case xga2 | xgn2 | xcl2 | xge2 | xse2 | xob2 | xba2 | xsu2 | xty2 | xcs2=>k_is)
  (case xt0_2 | xt1_2 | xt2_2 | xt3_2 | xt4_2 | xt5_2 | xtv2=>kit_is)
  (case xe4=>k_exc)
  (case xga4 | xgn4 | xcl4 | xge4 | xse4 | xob4 | xba4 | xsu4 | xty4 | xcs4=>k_is)
  (case xt0_4 | xt1_4 | xt2_4 | xt3_4 | xt4_4 | xt5_4 | xtv4=>kit_is)
  (case xga3 | xgn3 | xcl3 | xge3 | xse3 | xob3 | xba3 | xsu3 | xty3 | xcs3=>k_is)
  (case xt0_3 | xt1_3 | xt2_3 | xt3_3 | xt4_3 | xt5_3 | xtv3=>kit_is)
  (case jc3 | jo3=>kernel_rfl)
  (case js3 | jn3 | jk3=>k_is)
  (case qi0=>constructor<;>k_is)
  (case hb0=>k_is)
