import PyProof.Rows.All
import Wide.All
import OpenK.AllK
import Wide.FinOn
import Lean
import PyProof.EqAt
import PyProof.EqKinds
import PyProof.TupleCall
import PyProof.NeKinds
import PyProof.NsDelKeeps
import KE.KRevSl
import PyProof.StrWalks
import PyProof.ConsumeWalk
import PyProof.SumWalk
import PyProof.Rows.SortStr
import PyProof.SumWalkG
import PyProof.StrCalls2
import PyProof.StrLawsIdx
import PyProof.WalkInts
import PyProof.StrOps2
import PyProof.SliceStr2
import PyProof.Draws
import PyProof.EnumMake
import PyProof.Rows.SetFrom
import PyProof.SetRoads
import PyProof.WalksMore
import PyProof.ListRange
import PyProof.TupleOfSeq
import PyProof.TupleOfGen
import PyProof.Rows.SortShell
import PyProof.ZipIter
import PyProof.DictStraight
import PyProof.TupleKey
import PyProof.DictRoadsH
import PyProof.DictTruth
import PyProof.Rows.TupTab
import KE.KTabLook
import PyProof.FString
import PyProof.CallStr
import KE.KIntText
import PyProof.Rows.Range3
import PySem.Challenge.RW_worldfind_k15_texts_read
set_option Elab.async false
set_option linter.all false
set_option maxRecDepth 100000
set_option compiler.extract_closed false
local macro_rules | `(tactic| omega) => `(tactic| lia)
set_option bootstrap.genMatcherCode false
noncomputable section
open List renaming mem_cons → Aa, replicate → Aa0, length_append → Aa1, not_mem_nil → Aa2, getElem?_eq_some_iff → Aa3, length_cons → Aa4, mem_cons_of_mem → Aa7, mem_cons_self → Aa8, getElem?_eq_getElem → Aa9, size_toArray → Ab, mem_append_right → Ab1, mem_singleton → Ab5, lookup_cons → Ab7, map_cons → Ac, range → Ac0, getElem?_append_left → Ac1, getElem?_set_self → Ac2, length_map → Ac4, getElem?_append_right → Ac5, replicate_succ → Ac8, getElem?_set_ne → Ac9, length_set → Ad1, mem_append → Ad2, getD_eq_getElem?_getD → Ad3, getElem?_map → Ad4, length_take → Ad7, length_replicate → Ae1, mem_map → Ae3, nil_append → Ae4, map_append → Ae5, foldl_cons → Ae8, append_nil → Ae9, contains_eq_mem → Af, isEmpty_iff → Af0, flatten_cons → Af2, append_assoc → Af3, cons_append → Af5, map_nil → Af6, mem_append_left → Ag0, getElem?_take_of_lt → Ag2, length_drop → Ag4, eq_nil_of_length_eq_zero → Ag5, nodup_cons → Ag7, length_nil → Ag8, all_eq_true → Ah0, pairwise_cons → Ah4, any_cons → Ah5, all_cons → Ah6, lookup → Ah8, mem_range → Ai0, length_singleton → Ai1, take_length → Ai2, cons_ne_nil → Ai3, mem_of_mem_take → Ai4, mem_of_getElem? → Ai5, mem_replicate → Aj, drop_eq_getElem_cons → Aj4, reverse_cons → Aj6, length → Ak0, getElem?_replicate → Ak1, take_of_length_le → Ak2, map_map → Ak5, replicate_zero → Al, filterMap_cons → Al0, mem_filterMap → Al5, Pairwise → Al6, pairwise_map → Al7, getElem_mem → Am0, drop_length → Am1
open PySem.W renaming Frag → Aa5, mg_none_of → Ab9, keepIn → Ad8, mg_of → Ad9, kia_one → Ae0, emptyDict → Af9, fnOf → Ag1, findIn → Ah, instObj → Ah2, plainGet → Ah9, codeIn → Ai7, cellsFrom_some → Aj8, lookIn → Ak4, plainGet_of → Ak6, callWith_K → Ak7, kitx_list → Al1, hasDictIn → Al2, isFn → Al4, makesIn → Al8
open Nat renaming le_refl → Aa6, lt_of_lt_of_le → Ab3, pow_le_pow_right → Ab8, le_trans → Ac7, ne_of_lt → Ad, one_le_two_pow → Ad5, le_succ → Ae, pow_succ → Ae2, zero_le → Ae7, lt_succ_self → Af1, lt_irrefl → Af8, mul_le_mul_left → Ah3, mod_lt → Ai, not_lt_zero → Ai8, sub_self → Aj1, lt_trans → Aj2, le_of_lt → Aj3, not_lt → Aj9, le_succ_of_le → Ak, not_le → Al9, le_of_eq → Am
open PySem.Heap renaming get?_push_of_some → Ab0, lt_size → Ab6, get?_push_size → Ac6, get?_update_other → Ak3, size_push → Ak8
open Bool renaming false_ne_true → Ab2, and_eq_true → Ab4, false_eq_true → Af7, eq_false_iff → Aj7, not_false → Ak9, noConfusion → Am3
open Option renaming bind_eq_some_iff → Ac3, map_eq_some_iff → Ad0, bind_some → Ad6, isSome_iff_exists → Ae6, map_some → Ag, some → Ag6, isNone_iff_eq_none → Ai9
open Classical renaming choose_spec → Af4, choose → Ag9, byContradiction → Ai6, propDecidable → Aj0
open Int renaming toNat_natCast → Ag3, emod_nonneg → Ah7, emod_lt_of_pos → Aj5, toNat_of_nonneg → Al3, ne_of_gt → Am2
open Array renaming length_toList → Ah1
open Decidable renaming decide → k8
open Option renaming some → y0, none → k9
open Bool renaming true → v9, false → u9
namespace L2
open PySem PySem.Spec PyProof.Rows
abbrev Key:=Sum Int Str
def qbR:Key->Value->Bool
 | .inl k,v=>Value.isInt k v
 | .inr x,v=>Value.isStrOf x v
def qcD (w:World):Key->Int
 | .inl k=>hashInt k
 | .inr x=>hashStr w x
theorem Jc: ∀ {k}{v},qbR k v=v9->(∃ i t,k=Sum.inl i/\v=Value.int i t)\/(∃ x t,k=Sum.inr x/\v=Value.str x t)
 | .inl i,v,h=>by
  obtain⟨t,e⟩:=Value.isInt_shape h
  exact .inl ⟨i,t,rfl,e⟩
 | .inr x,v,h=>by
  obtain⟨t,e⟩:=Value.isStrOf_shape h
  exact .inr ⟨x,t,rfl,e⟩
theorem zbF (a b):k8 ((Sum.inl a:Key)=Sum.inl b)=(a==b):=by grind
theorem jbG (a b):k8 ((Sum.inr a:Key)=Sum.inr b)=k8 (a=b):=by simp
theorem xbZ (a) (b):k8 ((Sum.inl a:Key)=Sum.inr b)=false:=decide_eq_false (λq=>nomatch q)
theorem zbH (a) (b):k8 ((Sum.inr a:Key)=Sum.inl b)=false:=decide_eq_false (λq=>nomatch q)
noncomputable def ZO (prog:Program) (w:World):PySem.KeyKind prog w Key where
 is:=qbR
 hash:=qcD w
 inj:=λv a b ha hb=>by
  rcases Jc ha with⟨i,t,rfl,rfl⟩ | ⟨x,t,rfl,rfl⟩
  ·rcases Jc hb with⟨j,u,rfl,e⟩ | ⟨y,u,rfl,e⟩
   ·injection e with e1 _;rw [e1]
   ·exact nomatch e
  ·rcases Jc hb with⟨j,u,rfl,e⟩ | ⟨y,u,rfl,e⟩
   ·exact nomatch e
   ·injection e with e1 _;rw [e1]
 byValue:=λk v h=>by
  rcases Jc h with⟨i,t,rfl,rfl⟩ | ⟨x,t,rfl,rfl⟩<;>rfl
 pyHash:=λhv h=>by
  rcases Jc hv with⟨i,t,rfl,rfl⟩ | ⟨x,t,rfl,rfl⟩
  ·exact wpAny_pyHash_int h
  ·exact wpAny_pyHash_str h
 eqBool:=λhu hv h=>by
  rcases Jc hu with⟨i,t,rfl,rfl⟩ | ⟨x,t,rfl,rfl⟩
  ·rcases Jc hv with⟨j,u,rfl,rfl⟩ | ⟨y,u,rfl,rfl⟩
   ·rw [zbF]at h;exact wpAny_eqBool_int h
   ·rw [xbZ]at h;exact SeqAt.EqAt.int_str i t y u _ _ _ _ h
  ·rcases Jc hv with⟨j,u,rfl,rfl⟩ | ⟨y,u,rfl,rfl⟩
   ·rw [zbH]at h;exact SeqAt.EqAt.str_int x t j u _ _ _ _ h
   ·rw [jbG]at h;exact wpAny_eqBool_str h
 «strs» :=λk x t v h=>by
  rcases Jc h with⟨i,u,rfl,e⟩ | ⟨y,u,rfl,e⟩
  ·exact nomatch e
  ·injection e with e1 _
   subst e1
   cases v<;>rfl
inductive V where
 | non | bl (b:Bool) | int (i:Int) | str (x:Str) | byt (b:Array UInt8) | flt (b:UInt64) | ref (a:Addr) | ty (n:String)
 deriving DecidableEq
noncomputable def RelV:V->Value->Prop
 | .non,u=>u=Value.none
 | .bl b,u=>u=Value.bool b
 | .int i,u=> ∃t,u=Value.int i t
 | .str x,u=> ∃t,u=Value.str x t
 | .byt b,u=> ∃t,u=Value.bytes b t
 | .flt b,u=> ∃t,u=Value.float b t
 | .ref a,u=>u=Value.ref a
 | .ty n,u=>u=Value.type n
abbrev Vals:List V->List Value->Prop:=Paired RelV
theorem Vals.length (r:Vals xs us):xs.length=us.length:=Paired.length r
theorem Vals.get: ∀ {xs}{us}{i:Nat}{x},Vals xs us->xs[i]? =y0 x-> ∃u,us[i]? =y0 u/\RelV x u
 | _,_,_,_,.nil,e=>by simp at e
 | _,_,0,_,.cons r _,e=>by simp at e;subst e;exact⟨_,rfl,r⟩
 | _,_,i+1,x,.cons _ t,e=>by
  obtain⟨u,h1,h2⟩:=Vals.get t (by simpa using e)
  exact⟨u,by simpa using h1,h2⟩
theorem Vals.set {x:V}{u:Value}(r:RelV x u): ∀ {xs:List V}{us:List Value}(i:Nat),Vals xs us->Vals (xs.set i x) (us.set i u)
 | _,_,_,.nil=> .nil
 | _,_,0,.cons _ t=> .cons r t
 | _,_,i+1,.cons q t=> .cons q (Vals.set r i t)
theorem Vals.append: ∀ {xs ys}{us ws},Vals xs us->Vals ys ws->Vals (xs++ys) (us++ws)
 | _,_,_,_,.nil,s=>s
 | _,_,_,_,.cons r t,s=> .cons r (Vals.append t s)
theorem Vals.take: ∀ {xs}{us}(n),Vals xs us->Vals (xs.take n) (us.take n)
 | _,_,0,_=> .nil
 | _,_,_+1,.nil=> .nil
 | _,_,n+1,.cons r t=> .cons r (Vals.take n t)
theorem Vals.drop: ∀ {xs}{us}(n),Vals xs us->Vals (xs.drop n) (us.drop n)
 | _,_,0,r=>r
 | _,_,_+1,.nil=> .nil
 | _,_,n+1,.cons _ t=>Vals.drop n t
def RelO:Option V->Option Value->Prop
 | some v,y0 u=>RelV v u
 | none,none=>True
 | _,_=>False
def KV {κ:Type}:List (κ×V)->List (κ×Value)->Prop:=Paired λ(p:κ×V) (q:κ×Value)=>p.1=q.1/\RelV p.2 q.2
def kV:Key->V
 | .inl i=> .int i
 | .inr x=> .str x
inductive HO where
 | lst (xs:List V)
 | tup (xs:List V)
 | dK (kvs:List (Key×V)) | dT (kvs:List (List Key×V))
 | set (S:Int->Bool) (n:Nat)
 | ins (C dx:Addr) (fs:List (Str×V))
 | own (x:Addr)
 | xd (fs:List (Str×V))
 | met (f x:Addr)
 | rng (lo hi:Int)
 | frz (o:Obj) (u:HO)
 | tbl (ps:Array Value)
 | ext (φ:Heap->Prop)
abbrev Hp:=Addr->Option HO
def upd (H:Hp) (a:Addr) (o:HO):Hp:=λb=>if b=a then y0 o else H b
theorem jd :upd H a o a=y0 o:=by unfold upd;rw [if_pos rfl]
theorem ja (h:b≠a):upd H a o b=H b:=by unfold upd;rw [if_neg h]
theorem Za {H:Hp}(h:H a=y0 o) (h':H b=k9):a≠b:=by
 intro e;subst e;rw [h]at h';cases h'
noncomputable def PTup (h:Heap) (a:Addr) (k7:Array Value):Prop:= ∃o,h.get? a=some o/\o.cls= .type "tuple" /\o.dict=none/\ ∃n,o.data= .seq k7 n
theorem PTup.is (p:PTup h a k7):IsTup h a k7:=let ⟨o,e,c,_,n,d⟩:=p; ⟨o,e,c,n,d⟩
theorem PTup.lt (p:PTup h a k7):a<h.objs.size:=p.is.lt
theorem PTup.new (h:Heap) (k7):PTup (h.push { cls:= .type "tuple",data:= .seq k7 }) h.objs.size k7:=⟨_,Heap.get?_push_size _ rfl,rfl,rfl,_,rfl⟩
section
variable (P:Program) (w:World)
noncomputable def ObjOk (H:Hp) (h:Heap) (a:Addr):HO->Prop
 | .lst xs=>xs.length<=sizeLine/\ ∃(its:List Value) (n:Nat),Vals xs its/\h.get? a=y0 { cls:= .type "list",data:= .seq its.toArray n }
 | .tup xs=>xs.length<=sizeLine/\ ∃its:List Value,Vals xs its/\PTup h a its.toArray
 | .dK kvs=>kvs.length<=sizeLine/\(a==sysModules)=u9/\ ∃vs,KV kvs vs/\h.DictOf (ZO P w) a vs
 | .dT kvs=>kvs.length<=sizeLine/\(a==sysModules)=u9/\ ∃xs:List (List Key×Addr×Value),
  Paired (λ(p:List Key×V) (q:List Key×Addr×Value)=>p.1=q.1/\H q.2.1=y0 (.tup (p.1.map kV))/\RelV p.2 q.2.2) kvs xs ∧
  ∃o es ep,h.get? a=y0 o/\o.ExactDict/\o.data= .dict es ep/\es.toList=xs.map (entryOfKey (tupleKind (ZO P w)))/\(xs.map (·.1)).Nodup
 | .set S n=>h.SetOf (intKind P w) a S n
 | .ins C dx fs=>H dx=y0 (.own a)/\fs.length<=1000/\dx≠a/\h.get? a=y0 (Ah2 C dx) ∧
  ∃mA,h.Ns1 dx mA/\(∀ f,RelO (fs.lookup f) (mA f))/\PySem.Within mA (fs.map (·.1))
 | .own _=> ∃o,h.get? a=y0 o
 | .xd fs=> ∃mA,h.Ns1 a mA/\ ∀f,RelO (fs.lookup f) (mA f)
 | .rng lo hi=> ∃t u v,h.get? a=y0 { cls:= .type "range",data:= .fields #[.int lo t,.int hi u,.int 1 v] }
 | .frz o u=>h.get? a=y0 o/\ObjOk H h a u
 | .tbl ps=>h.get? a=y0 { cls:= .none,data:= .fields ps }
 | .met f x=>h.get? a=y0 (PySem.W.methodObj (.ref f) (.ref x))
 | .ext φ=>φ h/\(∃ o,h.get? a=y0 o)/\ ∀h1 h2:Heap,φ h1->(∀ o,h1.get? a=y0 o->h2.get? a=y0 o)->φ h2
def HOk (H:Hp) (h:Heap):Prop:= ∀a o,H a=y0 o->ObjOk P w H h a o
end
section
variable {P:Program}{w:World}{H H':Hp}{h h':Heap}{a:Addr}{o:HO}
theorem ObjOk.lt (x:ObjOk P w H h a o):a<h.objs.size:=by
 cases o with
 | lst xs=>obtain⟨_,_,_,_,e⟩:=x;exact Ab6 e
 | tup xs=>obtain⟨_,_,_,p⟩:=x;exact p.lt
 | dK kvs=>obtain⟨_,_,_,_,o,_,_,e,_⟩:=x;exact Ab6 e
 | dT kvs=>obtain⟨_,_,_,_,o,_,_,e,_⟩:=x;exact Ab6 e
 | set S n=>obtain⟨o,_,_,_,e,_⟩:=x;exact Ab6 e
 | ins C dx fs=>obtain⟨_,_,_,e,_⟩:=x;exact Ab6 e
 | own y=>obtain⟨_,e⟩:=x;exact Ab6 e
 | xd fs=>obtain⟨_,⟨_,_,_,e,_⟩,_⟩:=x;exact Ab6 e
 | rng lo hi=>obtain⟨_,_,_,e⟩:=x;exact Ab6 e
 | frz ob u=>obtain⟨e,_⟩:=x;exact Ab6 e
 | tbl ps=>exact Ab6 (show h.get? a=y0 _ from x)
 | met f y=>exact Ab6 (show h.get? a=y0 _ from x)
 | ext φ=>obtain⟨_,⟨_,e⟩,_⟩:=x;exact Ab6 e
theorem Paired.mapP : ∀ {l₁}{l₂},Paired F l₁ l₂->(∀ a b,F a b->G a b)->Paired G l₁ l₂
 | _,_,.nil,_=> .nil
 | _,_,.cons r t,f=> .cons (f _ _ r) (Paired.mapP t f)
theorem ObjOk.stay (x:ObjOk P w H h a o) (k: ∀b u,(b=a\/H b=y0 (.own a))->h.get? b=y0 u->h'.get? b=y0 u)
 (ho: ∀b,H b=y0 (.own a)->H' b=y0 (.own a)) (ht: ∀b xs,H b=y0 (.tup xs)->H' b=y0 (.tup xs)):ObjOk P w H' h' a o:=by
 induction o with
 | lst xs=>obtain⟨z,its,n,r,e⟩:=x;exact⟨z,its,n,r,k _ _ (.inl rfl) e⟩
 | tup xs=>obtain⟨z,its,r,ob,e,c⟩:=x;exact⟨z,its,r,ob,k _ _ (.inl rfl) e,c⟩
 | dK kvs=>obtain⟨z,y,vs,r,ob,es,ep,e,c⟩:=x;exact⟨z,y,vs,r,ob,es,ep,k _ _ (.inl rfl) e,c⟩
 | dT kvs=>
  obtain⟨z,y,xs,r,ob,es,ep,e,c⟩:=x
  exact⟨z,y,xs,Paired.mapP r λp q z=>⟨z.1,ht _ _ z.2.1,z.2.2⟩,ob,es,ep,k _ _ (.inl rfl) e,c⟩
 | set S n=>obtain⟨ob,es,ep,t,e,c⟩:=x;exact⟨ob,es,ep,t,k _ _ (.inl rfl) e,c⟩
 | ins C dx fs=>
  obtain⟨d,z,ne,e,mA,⟨od,es,ep,e2,c⟩,r⟩:=x
  exact⟨ho _ d,z,ne,k _ _ (.inl rfl) e,mA,⟨od,es,ep,k _ _ (.inr d) e2,c⟩,r⟩
 | own y=>obtain⟨ob,e⟩:=x;exact⟨ob,k _ _ (.inl rfl) e⟩
 | xd fs=>obtain⟨mA,⟨od,es,ep,e,c⟩,r⟩:=x;exact⟨mA,⟨od,es,ep,k _ _ (.inl rfl) e,c⟩,r⟩
 | rng lo hi=>obtain⟨t,u,v,e⟩:=x;exact⟨t,u,v,k _ _ (.inl rfl) e⟩
 | frz ob u ih=>obtain⟨e,q⟩:=x;exact⟨k _ _ (.inl rfl) e,ih q⟩
 | tbl ps=>
  have e:=x
  exact k a _ (.inl rfl) e
 | met f y=>
  have e:=x
  exact k a _ (.inl rfl) e
 | ext φ=>obtain⟨p,⟨o,e⟩,st⟩:=x;exact⟨st _ _ p λo q=>k _ _ (.inl rfl) q,⟨o,k _ _ (.inl rfl) e⟩,st⟩
theorem HOk.lt (x:HOk P w H h) (e:H a=y0 o):a<h.objs.size:=(x a o e).lt
theorem HOk.fresh (x:HOk P w H h) (e:h.objs.size<=a):H a=none:=by
 cases q:H a with
 | none=>rfl
 | some u=>exact absurd (Ab3 (x.lt q) e) (Af8 _)
theorem HOk.kept (x:HOk P w H h) (k: ∀b u,h.get? b=y0 u->h'.get? b=y0 u):HOk P w H h':=λa o e=>
 (x a o e).stay (λb u _ q=>k b u q) (λ_ q=>q) λ_ _ q=>q
theorem HOk.laid (x:HOk P w H h) (k: ∀b u,h.get? b=y0 u->h'.get? b=y0 u) (hp:h.objs.size<=a) (new:ObjOk P w (upd H a o) h' a o):HOk P w (upd H a o) h':=λb u e=>by
 have hn:=x.fresh hp
 by_cases hb:b=a
 ·subst hb;rw [jd]at e;cases e;exact new
 ·rw [ja hb]at e
  exact(x b u e).stay (λc v _ q=>k c v q) (λc q=>by rw [ja (Za q hn)];exact q) λc xs q=>by rw [ja (Za q hn)];exact q
end
def Rd (H:Hp) (a:Addr) (u:HO):Prop:=H a=y0 u\/ ∃o,H a=y0 (.frz o u)
theorem Rd.ok (r:Rd H a u) (x:HOk P w H h):ObjOk P w H h a u:=by
 rcases r with r | ⟨o,r⟩
 ·exact x a u r
 ·obtain⟨_,q⟩:=x a _ r
  exact q
noncomputable def Mut:Option HO->Prop
 | some (.lst _)=>True
 | some (.dK _)=>True
 | some (.dT _)=>True
 | some (.set _ _)=>True
 | some (.ins _ _ _)=>True
 | some (.ext _)=>True
 | _=>False
section
variable {P:Program}{w:World}{H:Hp}{h h':Heap}{x e:Addr}{o':HO}
theorem HOk.write (ok:HOk P w H h) (mu:Mut (H x)) (he:e=x\/H e=y0 (.own x)) (k: ∀b u,b≠e->h.get? b=y0 u->h'.get? b=y0 u) (heo: ∃u,h'.get? e=y0 u)
 (new:ObjOk P w (upd H x o') h' x o'):HOk P w (upd H x o') h':=λb u q=>by
 have nown: ∀c y,H c=y0 (.own y)->c≠x:=λc y r z=>by subst z;rw [r]at mu;exact mu
 have ntup: ∀c xs,H c=y0 (.tup xs)->c≠x:=λc xs r z=>by subst z;rw [r]at mu;exact mu
 by_cases hb:b=x
 ·subst hb;rw [jd]at q;cases q;exact new
 ·rw [ja hb]at q
  by_cases hbe:b=e
  ·have q':H b=y0 (.own x):=by
    rcases he with z | z
    ·exact absurd (hbe.trans z) hb
    ·rw [hbe];exact z
   rw [q]at q';cases q'
   obtain⟨v,hv⟩:=heo
   exact⟨v,by rw [hbe];exact hv⟩
  ·refine(ok b u q).stay (λc v hc r=>k c v ?_ r) (λc r=>by rw [ja (nown c b r)];exact r) λc xs r=>by rw [ja (ntup c xs r)];exact r
   rcases hc with rfl | hc
   ·exact hbe
   ·rintro rfl
    rcases he with z | z
    ·exact nown c b hc z
    ·rw [hc]at z;cases z;exact hb rfl
end
structure Un (fs ex:List Addr) (H H':Hp) (h h':Heap):Prop where
 keep: ∀b o,h.get? b=y0 o->H b=k9->b∉fs->b∉ex->h'.get? b=y0 o
 slot: ∀b o,h.get? b=y0 o->H b=k9->b∈fs->b∉ex-> ∃sl,h'.get? b=y0 { o with slots:=sl }
 free: ∀b o,h.get? b=y0 o->H b=k9->b∉ex->H' b=k9
 there: ∀b o,h.get? b=y0 o->b∉ex-> ∃o',h'.get? b=y0 o'
 tups: ∀b xs,H b=y0 (.tup xs)->H' b=y0 (.tup xs)
 frzs: ∀b o u,H b=y0 (.frz o u)->H' b=y0 (.frz o u)
 tbls: ∀b ps,H b=y0 (.tbl ps)-> ∃more,H' b=y0 (.tbl (ps++more))
section
variable {fs fs' ex ex':List Addr}{H H1 H2:Hp}{h h1 h2 h':Heap}{a x e:Addr}{o:HO}
theorem Un.any (u:Un fs ex H H1 h h1)(q:h.get? b=y0 ob) (n:H b=k9) (hx:b∉ex): ∃sl,h1.get? b=y0 { ob with slots:=sl }:=by
 by_cases hb:b∈fs
 ·exact u.slot b ob q n hb hx
 ·exact⟨ob.slots,u.keep b ob q n hb hx⟩
theorem Un.kept (k: ∀b u,h.get? b=y0 u->h'.get? b=y0 u):Un fs ex H H h h':=
 ⟨λb ob q _ _ _=>k b ob q,λb ob q _ _ _=>⟨ob.slots,k b ob q⟩,λ_ _ _ n _=>n,λb ob q _=>⟨ob,k b ob q⟩,λ_ _ q=>q,λ_ _ _ q=>q,λ_ ps q=>⟨#[],by rw [q];simp⟩⟩
theorem Un.refl:Un fs ex H H h h:=Un.kept λ_ _ q=>q
theorem Un.laid (k: ∀b u,h.get? b=y0 u->h'.get? b=y0 u) (hp:h.objs.size<=a) (hn:H a=k9):Un fs ex H (upd H a o) h h' where
 keep:=λb u q _ _ _=>k b u q
 slot:=λb u q _ _ _=>⟨u.slots,k b u q⟩
 free:=λb u q n _=>by rw [ja (Ad (Ab3 (Ab6 q) hp))];exact n
 there:=λb u q _=>⟨u,k b u q⟩
 tups:=λb xs q=>by rw [ja (Za q hn)];exact q
 frzs:=λb u xs q=>by rw [ja (Za q hn)];exact q
 tbls:=λb ps q=>⟨#[],by rw [ja (Za q hn),q];simp⟩
theorem Un.write (mu:Mut (H x)) (he:e=x\/H e=y0 (.own x)) (k: ∀b u,b≠e->h.get? b=y0 u->h'.get? b=y0 u) (heo: ∃u,h'.get? e=y0 u):Un fs ex H (upd H x o) h h':=by
 have hx: ∀b,H b=k9->b≠x:=λb n z=>by subst z;rw [n]at mu;exact mu
 have hb: ∀b,H b=k9->b≠e:=λb n z=>by
  subst z
  rcases he with r | r
  ·exact hx b n r
  ·rw [n]at r;cases r
 have hm: ∀b u,H b=y0 u-> ¬Mut (y0 u)->b≠x:=λb u q nm z=>by subst z;rw [q]at mu;exact nm mu
 refine⟨λb u q n _ _=>k b u (hb b n) q,λb u q n _ _=>⟨u.slots,k b u (hb b n) q⟩,λb u q n _=>by rw [ja (hx b n)];exact n,λb u q _=> ?_,
  λb xs q=>by rw [ja (hm b _ q λz=>z)];exact q,λb u xs q=>by rw [ja (hm b _ q λz=>z)];exact q,λb ps q=>⟨#[],by rw [ja (hm b _ q λz=>z),q];simp⟩⟩
 by_cases hbe:b=e
 ·subst hbe;exact heo
 ·exact⟨u,k b u hbe q⟩
end
def trk (h:Heap) (H:Hp):List Addr:=(Ac0 h.objs.size).filter λa=>(H a).isSome
def xaw (h:Heap) (H:Hp):Heap:=PySem.W.hideAll h (trk h H)
theorem X5 (h) (H):(xaw h H).objs.size=h.objs.size:=PySem.W.hideAll_size _ _
theorem zay (e:h.get? b=y0 o) (n:H b=k9):(xaw h H).get? b=y0 o:=
 PySem.W.hideAll_get _ e λhm=>by
  have q:=(List.mem_filter.mp hm).2
  rw [n]at q;simp at q
theorem qbu (e:(xaw h H).get? b=y0 o):h.get? b=y0 o/\H b=none:=by
 have e':=PySem.W.of_hideAll (trk h H) e
 refine⟨e',?_⟩
 cases q:H b with
 | none=>rfl
 | some x=>
  have hm:b∈trk h H:=List.mem_filter.mpr ⟨Ai0.mpr (Ab6 e'),by simp [q]⟩
  have z:(xaw h H).get? b=none:=PySem.W.hideAll_none (trk h H) hm
  rw [z]at e;cases e
noncomputable def zbb (g h:Heap) (L:Addr):List (Addr×Obj):=(Ac0 h.objs.size).filterMap λa=>if a=L\/(g.get? a).isSome=v9 then k9 else(h.get? a).map λo=>(a,o)
def Xo (g h:Heap) (L d:Addr):List (Addr×Obj):=(zbb g h L).filter λp=>k8 (p.1≠d)
structure Mod (K:Aa5) (mg:Str->Option Value) (base:Heap):Prop where
 kin:K.In base
 glob:base.Ns mainGlobals mg
 blt: ∃mb,base.Ns builtinsNs mb/\ ∀x:Str,x≠ "__name__" ->mb x=bootBuiltins x
 nolimit:base.NoLimit
structure Cx where
 prog:Program
 w:World
 K:Aa5
 mg:Str->Option Value
 base:Heap
 A:Around
 N:List Str
 s₀:Shared
 H₀:Hp
 env:Env
 outer:List Env
 stack:List Env
 ex:List Addr
 fn:Str->Bool
 calm:Bool
 pn:List (Addr×Obj)
 xe:Value->Shared->Prop
def frs (l:List Env):List Addr:=l.filterMap (·.frame)
abbrev Cx.fs (X:Cx):List Addr:=frs X.outer
def Vis (sc:Scope) (x:Str):Prop:=sc.names.lookup x=y0 .local\/sc.names.lookup x=y0 .cell\/sc.names.lookup x=y0 .free
def Loc (sc:Scope) (x:Str):Prop:=sc.names.lookup x=y0 .local\/sc.names.lookup x=y0 .cell
noncomputable def qcz (env:Env) (h:Heap) (m:Str->Option Value) (x:Str) (u:Value):Prop:=
 (env.kindOf x=y0 .local/\m x=y0 u)\/((env.kindOf x=y0 .cell\/env.kindOf x=y0 .free)/\ ∃c,env.cells.lookup x=y0 c/\h.IsCell c (y0 u))
structure Cx.Ok (X:Cx):Prop where
 mod:Mod X.K X.mg X.base
 kind:X.env.scope.kind= .function
 glob:X.env.globals=mainGlobals
 blt:X.env.builtins=builtinsNs
 above:X.s₀.heap.objs.size<=X.env.locals
 inj: ∀x y c,X.env.cells.lookup x=y0 c->X.env.cells.lookup y=y0 c->x=y
 has: ∀x,(X.env.kindOf x=y0 .cell\/X.env.kindOf x=y0 .free)-> ∃c,X.env.cells.lookup x=y0 c
 cab: ∀x c,X.fn x=v9->X.env.cells.lookup x=y0 c->X.s₀.heap.objs.size<=c
 hd:X.calm=v9->X.A.handled=k9
 frames:X.A.frames=y0 X.stack
 stk:X.stack=X.outer\/(X.stack=X.env::X.outer/\X.env.frame=y0 X.env.locals)
 exf: ∀b∈X.ex,b≠X.env.locals/\ ∀x c,X.env.cells.lookup x=y0 c->c≠b
 bs: ∀b o,X.base.get? b=y0 o->X.s₀.heap.get? b=y0 o/\X.H₀ b=k9
 bsz:X.base.objs.size<=X.s₀.heap.objs.size
 noex: ∀b o,X.base.get? b=y0 o->b∉X.ex
 exfs: ∀b∈X.ex,b∉X.fs
 funs:X.s₀.heap.FunFrames X.base X.outer
 frf: ∀b∈X.fs,X.H₀ b=k9
structure Inv (X:Cx) (u8:List (Addr×Obj)) (σ:List (Option V)) (H:Hp) (s:Shared):Prop where
 ok:X.Ok
 os:s.os=X.s₀.os
 bare:AllBare s.gens
 base:Un X.fs X.ex X.H₀ H X.s₀.heap s.heap
 loc: ∃m,s.heap.Ns X.env.locals m/\ ∀(i:Nat) (x:Str) (v:V),X.N[i]? =y0 x->σ[i]? =y0 (y0 v)->Vis X.env.scope x-> ∃u,RelV v u/\qcz X.env s.heap m x u
 cell: ∀x c,X.env.cells.lookup x=y0 c-> ∃v,s.heap.IsCell c v
 free:H X.env.locals=k9
 freeC: ∀x c,X.env.cells.lookup x=y0 c->H c=k9
 pin: ∀p∈X.pn++u8,s.heap.get? p.1=y0 p.2/\H p.1=k9/\p.1≠X.env.locals/\p.1∉X.fs/\ ∀v,p.2.data≠ .cell v
 hok:HOk X.prog X.w H s.heap
 len:σ.length=X.N.length
section
variable {X:Cx}{u8:List (Addr×Obj)}{σ:List (Option V)}{H H':Hp}{s:Shared}{h':Heap}
theorem Cx.Ok.nofr (ok:X.Ok)(e:X.base.get? b=y0 o):b∉X.fs:=λhb=>by
 have:=(ok.funs.mem hb).1
 rw [e]at this;cases this
theorem Inv.bs (I:Inv X u8 σ H s): ∀b o,X.base.get? b=y0 o->s.heap.get? b=y0 o/\H b=none:=λb o e=>
 ⟨I.base.keep b o (I.ok.bs b o e).1 (I.ok.bs b o e).2 (I.ok.nofr e) (I.ok.noex b o e),I.base.free b o (I.ok.bs b o e).1 (I.ok.bs b o e).2 (I.ok.noex b o e)⟩
theorem Inv.bk (I:Inv X u8 σ H s): ∀b o,X.base.get? b=y0 o->s.heap.get? b=y0 o:=λb o e=>(I.bs b o e).1
theorem Inv.mod (I:Inv X u8 σ H s):Mod X.K X.mg X.base:=I.ok.mod
theorem Inv.kIn (I:Inv X u8 σ H s):X.K.In s.heap:=I.ok.mod.kin.keeps I.bk
theorem Inv.lt (I:Inv X u8 σ H s):X.env.locals<s.heap.objs.size:=let ⟨_,hn,_⟩:=I.loc;hn.lt
theorem Inv.sz (I:Inv X u8 σ H s):X.s₀.heap.objs.size<=s.heap.objs.size:=Ac7 I.ok.above (Aj3 I.lt)
theorem Inv.nofs (I:Inv X u8 σ H s)(h:s.heap.objs.size<=a):a∉X.fs:=λhb=>by
 obtain⟨_,o,ho,_⟩:=I.ok.funs.mem hb
 exact absurd (Ab3 (Ab6 ho) (Ac7 I.sz h)) (Af8 _)
theorem Inv.cne (I:Inv X u8 σ H s): ∀x c,X.env.cells.lookup x=y0 c->c≠X.env.locals:=λx c e z=>by
 obtain⟨v,o,ho,hd⟩:=I.cell x c e
 obtain⟨m,⟨o',es,ep,ho',hd',_⟩,_⟩:=I.loc
 rw [z,ho']at ho;cases ho;rw [hd']at hd;cases hd
theorem Inv.funs (I:Inv X u8 σ H s):s.heap.FunFrames X.base X.outer:=by
 have all: ∀ l,(∀ b∈frs l,b∈X.fs)->X.s₀.heap.FunFrames X.base l->s.heap.FunFrames X.base l:=by
  intro l
  induction l with
  | nil=>intro _ _;trivial
  | cons env r ih=>
   intro hs hl
   obtain⟨hk,⟨L,o,hf,hn,ho,hd⟩,hr⟩:=hl
   have hL:=hs L (by unfold frs;rw [Al0,hf];exact Aa8)
   obtain⟨sl,e⟩:=I.base.slot L o ho (I.ok.frf L hL) hL λz=>I.ok.exfs L z hL
   exact⟨hk,⟨L,_,hf,hn,e,hd⟩,ih (λb hb=>hs b (by unfold frs;rw [Al0,hf];exact Aa7 _ hb)) hr⟩
 exact all X.outer (λ_ hb=>hb) I.ok.funs
theorem Inv.stack (I:Inv X u8 σ H s):s.heap.FunFrames X.base X.stack:=by
 rcases I.ok.stk with e | ⟨e,hf⟩
 ·rw [e];exact I.funs
 ·rw [e]
  obtain⟨m,hn,_⟩:=I.loc
  refine .cons (by rw [I.ok.kind];decide) hf hn ?_ I.funs
  exact Heap.get?_none_of_le (Ac7 I.ok.bsz I.ok.above)
theorem Inv.stkSub (I:Inv X u8 σ H s): ∀b∈frs X.stack,b∈X.env.locals::X.fs:=λb hb=>by
 rcases I.ok.stk with e | ⟨e,hf⟩
 ·rw [e]at hb;exact Aa7 _ hb
 ·rw [e]at hb
  unfold frs at hb
  rw [Al0,hf]at hb
  exact hb
theorem Inv.stkFree (I:Inv X u8 σ H s): ∀b∈frs X.stack,H b=none:=λb hb=>by
 rcases Aa.mp (I.stkSub b hb)with e | hb
 ·rw [e];exact I.free
 ·obtain⟨_,o,ho,_⟩:=I.ok.funs.mem hb
  exact I.base.free b o ho (I.ok.frf b hb) λz=>I.ok.exfs b z hb
theorem Inv.step {ch:List Addr}(I:Inv X u8 σ H s)
 (hch: ∀b∈ch,(b∈X.ex\/X.s₀.heap.objs.size<=b)/\b≠X.env.locals/\(∀ x c,X.env.cells.lookup x=y0 c->c≠b)/\ ∀p∈X.pn++u8,p.1≠b)
 (keep: ∀b o,b≠X.env.locals->b∉X.fs->b∉ch->s.heap.get? b=y0 o->H b=k9->h'.get? b=y0 o)
 (slot: ∀b o,b≠X.env.locals->b∈X.fs->b∉ch->s.heap.get? b=y0 o->H b=k9-> ∃sl,h'.get? b=y0 { o with slots:=sl }) (free: ∀b o,b∉ch->s.heap.get? b=y0 o->H b=k9->H' b=k9)
 (there: ∀b o,b∉ch->s.heap.get? b=y0 o-> ∃o',h'.get? b=y0 o')
 (tups: ∀b xs,H b=y0 (.tup xs)->H' b=y0 (.tup xs)) (frzs: ∀b o u,H b=y0 (.frz o u)->H' b=y0 (.frz o u)) (tbls: ∀b ps,H b=y0 (.tbl ps)-> ∃more,H' b=y0 (.tbl (ps++more)))
 (ns: ∀m,s.heap.Ns X.env.locals m->h'.Ns X.env.locals m) (hok:HOk X.prog X.w H' h') (hg:AllBare g'):
 Inv X u8 σ H' { s with heap:=h',gens:=g',drawn:=d',toks:=t' }:=by
 have neL: ∀b o,X.s₀.heap.get? b=y0 o->b≠X.env.locals:=λb o e=>Ad (Ab3 (Ab6 e) I.ok.above)
 have neC: ∀b o,X.s₀.heap.get? b=y0 o->b∉X.ex->b∉ch:=λb o e hx hb=>by
  rcases (hch b hb).1 with z | z
  ·exact hx z
  ·exact absurd (Ab3 (Ab6 e) z) (Af8 _)
 have cellK: ∀x c,X.env.cells.lookup x=y0 c-> ∀v,s.heap.IsCell c v->h'.IsCell c v:=λx c e v ⟨o,ho,hd⟩=>by
  have nch:c∉ch:=λz=>(hch c z).2.2.1 x c e rfl
  by_cases hc:c∈X.fs
  ·obtain⟨sl,q⟩:=slot c o (I.cne x c e) hc nch ho (I.freeC x c e)
   exact⟨_,q,hd⟩
  ·exact⟨o,keep c o (I.cne x c e) hc nch ho (I.freeC x c e),hd⟩
 refine⟨I.ok,I.os,hg,⟨λb o e n hb hx=> ?_,λb o e n hb hx=> ?_,λb o e n hx=> ?_,λb o e hx=> ?_,λb xs e=>tups b xs (I.base.tups b xs e),λb o xs e=>frzs b o xs (I.base.frzs b o xs e),λb ps e=> ?_⟩,?_,λx c e=> ?_,?_,λx c e=> ?_,λp hp=> ?_,hok,I.len⟩
 ·exact keep b o (neL b o e) hb (neC b o e hx) (I.base.keep b o e n hb hx) (I.base.free b o e n hx)
 ·obtain⟨sl,e1⟩:=I.base.slot b o e n hb hx
  obtain⟨sl',e2⟩:=slot b _ (neL b o e) hb (neC b o e hx) e1 (I.base.free b o e n hx)
  exact⟨sl',e2⟩
 ·obtain⟨o',e1⟩:=I.base.there b o e hx
  exact free b o' (neC b o e hx) e1 (I.base.free b o e n hx)
 ·obtain⟨o',e1⟩:=I.base.there b o e hx
  exact there b o' (neC b o e hx) e1
 ·obtain⟨m1,e1⟩:=I.base.tbls b ps e
  obtain⟨m2,e2⟩:=tbls b _ e1
  exact⟨m1++m2,by rw [e2,Array.append_assoc]⟩
 ·obtain⟨m,hn,hl⟩:=I.loc
  refine⟨m,ns m hn,λi x v e1 e2 e3=> ?_⟩
  obtain⟨u,r,l⟩:=hl i x v e1 e2 e3
  refine⟨u,r,?_⟩
  rcases l with l | ⟨k,c,e,z⟩
  ·exact .inl l
  ·exact .inr ⟨k,c,e,cellK x c e _ z⟩
 ·obtain⟨v,z⟩:=I.cell x c e
  exact⟨v,cellK x c e v z⟩
 ·obtain⟨m,⟨o,_,_,ho,_⟩,_⟩:=I.loc
  exact free _ o (λz=>(hch _ z).2.1 rfl) ho I.free
 ·obtain⟨v,o,ho,hd⟩:=I.cell x c e
  exact free c o (λz=>(hch c z).2.2.1 x c e rfl) ho (I.freeC x c e)
 ·obtain⟨e,n,ne,nf,d⟩:=I.pin p hp
  have nch:p.1∉ch:=λz=>(hch p.1 z).2.2.2 p hp rfl
  exact⟨keep p.1 p.2 ne nf nch e n,free p.1 p.2 nch e n,ne,nf,d⟩
theorem Inv.un (I:Inv X u8 σ H s) (u:Un X.fs [] H H' s.heap h') (hok:HOk X.prog X.w H' h'):Inv X u8 σ H' { s with heap:=h',toks:=t' }:=by
 obtain⟨m,⟨o,es,ep,ho,r⟩,_⟩:=id I.loc
 obtain⟨sl,hL⟩:=u.any ho I.free (by simp)
 exact I.step (ch:= []) (λ_ z=>nomatch z) (λb o _ hb _ e n=>u.keep b o e n hb (by simp)) (λb o _ hb _ e n=>u.slot b o e n hb (by simp)) (λb o _ e n=>u.free b o e n (by simp)) (λb o _ e=>u.there b o e (by simp)) u.tups u.frzs u.tbls (λm' hm=>by
  obtain⟨o',es',ep',ho',r'⟩:=hm
  rw [ho]at ho';cases ho'
  exact⟨_,es',ep',hL,r'⟩) hok I.bare
theorem Inv.call (I:Inv X u8 σ H s) (u:Un (frs X.stack) ch H H' s.heap h') (hok:HOk X.prog X.w H' h') (hg:AllBare g')
 (hch: ∀b∈ch,(b∈X.ex\/X.s₀.heap.objs.size<=b)/\b≠X.env.locals/\(∀ x c,X.env.cells.lookup x=y0 c->c≠b)/\ ∀p∈X.pn++u8,p.1≠b):
 Inv X u8 σ H' { s with heap:=h',gens:=g',drawn:=d',toks:=t' }:=by
 obtain⟨m,⟨o,es,ep,ho,r⟩,_⟩:=id I.loc
 obtain⟨sl,hL⟩:=u.any ho I.free λz=>(hch _ z).2.1 rfl
 exact I.step hch (λb o hL hb hc e n=>u.keep b o e n (λz=>(Aa.mp (I.stkSub b z)).elim hL hb) hc) (λb o _ _ hc e n=>u.any e n hc) (λb o hc e n=>u.free b o e n hc) (λb o hc e=>u.there b o e hc) u.tups u.frzs u.tbls (λm' hm=>by
  obtain⟨o',es',ep',ho',r'⟩:=hm
  rw [ho]at ho';cases ho'
  exact⟨_,es',ep',hL,r'⟩) hok hg
theorem Inv.turned (I:Inv X u8 σ H s) (k: ∀b o,b≠it->s.heap.get? b=y0 o->h'.get? b=y0 o) (hn:H it=k9) (hL:it≠X.env.locals)
 (h1:it∈X.ex\/X.s₀.heap.objs.size<=it) (h2: ∀x c,X.env.cells.lookup x=y0 c->c≠it) (h3: ∀p∈X.pn++u8,p.1≠it):Inv X u8 σ H { s with heap:=h',toks:=t' }:=by
 have nit: ∀b u,H b=y0 u->b≠it:=λb u e z=>by rw [z,hn]at e;cases e
 refine I.step (ch:= [it]) (λb hb=> ?_) (λb o _ _ hc e _=>k b o (λz=>hc (by simp [z])) e) (λb o _ _ hc e _=>⟨o.slots,k b o (λz=>hc (by simp [z])) e⟩) (λ_ _ _ _ n=>n)
  (λb o hc e=>⟨o,k b o (λz=>hc (by simp [z])) e⟩) (λ_ _ e=>e) (λ_ _ _ e=>e) (λb ps e=>⟨#[],by rw [e];simp⟩) (λm hm=> ?_) (λb u e=> ?_) I.bare
 ·have e:=by simpa using hb
  subst e
  exact⟨h1,hL,h2,h3⟩
 ·obtain⟨o,es,ep,ho,r⟩:=hm
  exact⟨o,es,ep,k _ o (Ne.symm hL) ho,r⟩
 ·refine(I.hok b u e).stay (λc v hc q=>k c v ?_ q) (λ_ q=>q) λ_ _ q=>q
  rcases hc with z | z
  ·rw [z];exact nit b u e
  ·exact nit c _ z
theorem Inv.tok (I:Inv X u8 σ H s) (t):Inv X u8 σ H { s with toks:=t }:=I.un Un.refl I.hok
theorem Inv.kept (I:Inv X u8 σ H s) (k: ∀b u,s.heap.get? b=y0 u->h'.get? b=y0 u):Inv X u8 σ H { s with heap:=h',toks:=t' }:=I.un (Un.kept k) (I.hok.kept k)
theorem Inv.laid (I:Inv X u8 σ H s) (k: ∀b u,s.heap.get? b=y0 u->h'.get? b=y0 u) (hp:s.heap.objs.size<=a) (new:ObjOk X.prog X.w (upd H a o) h' a o):
 Inv X u8 σ (upd H a o) { s with heap:=h',toks:=t' }:=I.un (Un.laid k hp (I.hok.fresh hp)) (I.hok.laid k hp new)
theorem Inv.write (I:Inv X u8 σ H s) (mu:Mut (H x)) (he:e=x\/H e=y0 (.own x)) (k: ∀b u,b≠e->s.heap.get? b=y0 u->h'.get? b=y0 u) (heo: ∃u,h'.get? e=y0 u)
 (new:ObjOk X.prog X.w (upd H x o) h' x o):Inv X u8 σ (upd H x o) { s with heap:=h',toks:=t' }:=I.un (Un.write mu he k heo) (I.hok.write mu he k heo new)
theorem Inv.pins_of (I:Inv X u8 σ H s) (h: ∀p∈pins',s.heap.get? p.1=y0 p.2/\H p.1=k9/\p.1≠X.env.locals/\p.1∉X.fs/\ ∀v,p.2.data≠ .cell v):Inv X pins' σ H s:=
 ⟨I.ok,I.os,I.bare,I.base,I.loc,I.cell,I.free,I.freeC,λp hp=>(Ad2.mp hp).elim (λz=>I.pin p (Ag0 _ z)) (h p),I.hok,I.len⟩
theorem wV {N:List Str}(hN:N.Nodup){i j:Nat}(a:N[i]? =y0 x) (b:N[j]? =y0 x):i=j:=by
 obtain⟨h1,e1⟩:=Aa3.mp a
 obtain⟨h2,e2⟩:=Aa3.mp b
 exact(List.getElem_inj hN).mp (e1.trans e2.symm)
theorem w6 (I:Inv X u8 σ H s) (hN:X.N.Nodup) (hi:X.N[i]? =y0 x) (hx:Loc X.env.scope x) (r:RelV v u)
 (h: ∀s',Inv X u8 (σ.set i (y0 v)) H s'->(∃ a,Heap.SameBut a s.heap s'.heap/\(a=X.env.locals\/X.env.cells.lookup x=y0 a))->Q () s') (hf:X.fn x=v9\/X.env.scope.names.lookup x=y0 .local:=by first | exact .inl rfl | exact .inr rfl | assumption):wpAny M A (storeName X.env x u) Q E s:=by
 obtain⟨m,hn,hl⟩:=id I.loc
 have hcls:(X.env.scope.kind== .class||(X.env.scope.kind== .module&&X.env.locals != X.env.globals))=false:=by rw [I.ok.kind];rfl
 have hiσ:i<σ.length:=by rw [I.len];exact(Aa3.mp hi).1
 have cne:=I.cne
 have tracked: ∀ {a}{h'},(∃ o,s.heap.get? a=y0 o/\H a=k9)->Heap.SameBut a s.heap h'->HOk X.prog X.w H h':=λ{a h'} ha hs b ob e=>by
  obtain⟨_,_,hfree⟩:=ha
  refine(I.hok b ob e).stay (λc w' hc q=>(hs.2 c ?_).trans q) (λ_ q=>q) λ_ _ q=>q
  rintro rfl
  rcases hc with rfl | hc
  ·rw [hfree]at e;cases e
  ·rw [hfree]at hc;cases hc
 rcases hx with hk | hk
 ·refine wpAny_storeName_local hk hn (λh' hn' hs=> ?_) hcls
  obtain⟨oL,_,_,hoL,_⟩:=id hn
  refine h _ ⟨I.ok,I.os,I.bare,⟨λb o e n hb hx=> ?_,λb o e n hb hx=> ?_,I.base.free,λb o e hx=> ?_,I.base.tups,I.base.frzs,I.base.tbls⟩,⟨_,hn',λj y v' e1 e2 e3=> ?_⟩,λy c e=> ?_,I.free,I.freeC,λp hp=> ?_,tracked ⟨oL,hoL,I.free⟩ hs,by simpa using I.len⟩ ⟨_,hs,.inl rfl⟩
  ·exact(hs.2 b (Ad (Ab3 (Ab6 e) I.ok.above))).trans (I.base.keep b o e n hb hx)
  ·obtain⟨sl,e1⟩:=I.base.slot b o e n hb hx
   exact⟨sl,(hs.2 b (Ad (Ab3 (Ab6 e) I.ok.above))).trans e1⟩
  ·obtain⟨o',e1⟩:=I.base.there b o e hx
   exact⟨o',(hs.2 b (Ad (Ab3 (Ab6 e) I.ok.above))).trans e1⟩
  ·by_cases hj:j=i
   ·subst hj
    rw [hi]at e1;cases e1
    rw [Ac2 hiσ]at e2
    cases e2
    exact⟨u,r,.inl ⟨hk,by simp⟩⟩
   ·rw [Ac9 (Ne.symm hj)]at e2
    obtain⟨u',r',q⟩:=hl j y v' e1 e2 e3
    refine⟨u',r',?_⟩
    rcases q with⟨k,e⟩ | ⟨k,c,e,z⟩
    ·refine .inl ⟨k,?_⟩
     have:y≠x:=λe=>hj (wV hN e1 (e▸hi))
     simp [this,e]
    ·exact .inr ⟨k,c,e,z.sameBut hs (cne y c e)⟩
  ·obtain⟨w',z⟩:=I.cell y c e
   exact⟨w',z.sameBut hs (cne y c e)⟩
  ·obtain⟨e,n,ne,nf,d⟩:=I.pin p hp
   exact⟨(hs.2 p.1 ne).trans e,n,ne,nf,d⟩
 ·have hfn:X.fn x=true:=by
   rcases hf with z | z
   ·exact z
   ·rw [z]at hk;cases hk
  obtain⟨c,hc⟩:=I.ok.has x (.inl hk)
  obtain⟨w',z⟩:=I.cell x c hc
  refine wpAny_storeName_cell I.ok.kind hk hc z (λh' hc' hs=> ?_)
  obtain⟨oc,hoc,hocd⟩:=id z
  refine h { s with heap:=h' } ⟨I.ok,I.os,I.bare,⟨λb o e n hb hx=> ?_,λb o e n hb hx=> ?_,I.base.free,λb o e hx=> ?_,I.base.tups,I.base.frzs,I.base.tbls⟩,⟨m,hn.sameBut hs (Ne.symm (cne x c hc)),λj y v' e1 e2 e3=> ?_⟩,λy c' e=> ?_,I.free,I.freeC,λp hp=> ?_,tracked ⟨oc,hoc,I.freeC x c hc⟩ hs,by simpa using I.len⟩ ⟨c,hs,.inr hc⟩
  ·exact(hs.2 b (Ad (Ab3 (Ab6 e) (I.ok.cab x c hfn hc)))).trans (I.base.keep b o e n hb hx)
  ·obtain⟨sl,e1⟩:=I.base.slot b o e n hb hx
   exact⟨sl,(hs.2 b (Ad (Ab3 (Ab6 e) (I.ok.cab x c hfn hc)))).trans e1⟩
  ·obtain⟨o',e1⟩:=I.base.there b o e hx
   exact⟨o',(hs.2 b (Ad (Ab3 (Ab6 e) (I.ok.cab x c hfn hc)))).trans e1⟩
  ·by_cases hj:j=i
   ·subst hj
    rw [hi]at e1;cases e1
    rw [Ac2 hiσ]at e2
    cases e2
    exact⟨u,r,.inr ⟨.inl hk,c,hc,hc'⟩⟩
   ·rw [Ac9 (Ne.symm hj)]at e2
    obtain⟨u',r',q⟩:=hl j y v' e1 e2 e3
    refine⟨u',r',?_⟩
    rcases q with q | ⟨k,c',e,z'⟩
    ·exact .inl q
    ·refine .inr ⟨k,c',e,z'.sameBut hs ?_⟩
     rintro rfl
     exact hj (wV hN e1 (I.ok.inj _ _ _ e hc▸hi))
  ·by_cases hcc:c'=c
   ·subst hcc;exact⟨_,hc'⟩
   ·obtain⟨w2,z2⟩:=I.cell y c' e
    exact⟨w2,z2.sameBut hs hcc⟩
  ·obtain⟨e,n,ne,nf,d⟩:=I.pin p hp
   refine⟨(hs.2 p.1 ?_).trans e,n,ne,nf,d⟩
   intro q
   rw [q,hoc]at e
   have q':=Ag6.inj e
   exact d w' (by rw [← q'];exact hocd)
theorem ZH (I:Inv X u8 σ H s) (hN:X.N.Nodup) (hi:X.N[i]? =y0 x) (hx:Loc X.env.scope x) (r:RelV v u)
 (h: ∀s',Inv X u8 (σ.set i (y0 v)) H s'->Q () s') (hf:X.fn x=v9\/X.env.scope.names.lookup x=y0 .local:=by first | exact .inl rfl | exact .inr rfl | assumption):wpAny M A (storeName X.env x u) Q E s:=
 w6 I hN hi hx r (λs' I' _=>h s' I') hf
theorem Inv.call' (I:Inv X u8 σ H s) (ho:s'.os=s.os) (u:Un (frs X.stack) ch H H' s.heap s'.heap) (hok:HOk X.prog X.w H' s'.heap) (hg:AllBare s'.gens)
 (hch: ∀b∈ch,(b∈X.ex\/X.s₀.heap.objs.size<=b)/\b≠X.env.locals/\(∀ x c,X.env.cells.lookup x=y0 c->c≠b)/\ ∀p∈X.pn++u8,p.1≠b):Inv X u8 σ H' s':=by
 obtain⟨h',g',d',t',o'⟩:=s'
 have e:=ho
 subst e
 exact I.call u hok hg hch
end
abbrev XK:=Value->Option Addr->Hp->Prop
abbrev St:=List (Option V)
abbrev VK:=V->Hp->Prop
abbrev TE:=St->Hp->VK->Prop
abbrev TT:=St->Hp->(Bool->Hp->Prop)->Prop
abbrev TA:=St->Hp->(List V->Hp->Prop)->Prop
structure qba where
 nx:St->Hp->Prop
 rt:VK
 bk:St->Hp->Prop:=λ_ _=>False
 ct:St->Hp->Prop:=λ_ _=>False
abbrev TS:=qba->St->Hp->Prop
def EP (X:Cx) (u8:List (Addr×Obj)) (σ:St) (Q:VK) (u:Value) (s':Shared):Prop:= ∃v H',Inv X u8 σ H' s'/\RelV v u/\Q v H'
def TP (X:Cx) (u8:List (Addr×Obj)) (σ:St) (Q:Bool->Hp->Prop) (b:Bool) (s':Shared):Prop:= ∃H',Inv X u8 σ H' s'/\Q b H'
noncomputable def AP (X:Cx) (u8:List (Addr×Obj)) (σ:St) (Q:List V->Hp->Prop) (us:List Value) (s':Shared):Prop:= ∃vs H',Inv X u8 σ H' s'/\Vals vs us/\Q vs H'
noncomputable def SP (X:Cx) (u8:List (Addr×Obj)) (D:qba) (f:Flow) (s':Shared):Prop:=
 match f with
 | .next=> ∃σ' H',Inv X u8 σ' H' s'/\D.nx σ' H'
 | .brk=> ∃σ' H',Inv X u8 σ' H' s'/\D.bk σ' H'
 | .cont=> ∃σ' H',Inv X u8 σ' H' s'/\D.ct σ' H'
 | .ret u=> ∃v σ' H',Inv X u8 σ' H' s'/\RelV v u/\D.rt v H'
noncomputable def PE (X:Cx) (e:Expr) (t:TE):Prop:=
 ∀(u8:List (Addr×Obj)) (s:Shared) (σ:St) (H:Hp) (Q:VK),Inv X u8 σ H s->t σ H Q->wpAny (model X.prog X.w) X.A (eval e X.env) (EP X u8 σ Q) X.xe s
noncomputable def PT (X:Cx) (e:Expr) (t:TT):Prop:=
 ∀(u8:List (Addr×Obj)) (s:Shared) (σ:St) (H:Hp) (Q:Bool->Hp->Prop),Inv X u8 σ H s->t σ H Q->wpAny (model X.prog X.w) X.A (isTrue e X.env (eval e X.env)) (TP X u8 σ Q) X.xe s
noncomputable def PW (X:Cx) (e:Expr) (t:TT):Prop:=
 ∀(whole:Sem Value) (u8:List (Addr×Obj)) (s:Shared) (σ:St) (H:Hp) (Q:Bool->Hp->Prop),Inv X u8 σ H s->t σ H Q->wpAny (model X.prog X.w) X.A (isTrue e X.env whole) (TP X u8 σ Q) X.xe s
theorem PW.pt (h:PW X e t):PT X e t:=h _
noncomputable def PA (X:Cx) (es:List Expr) (t:TA):Prop:=
 ∀(pos:Pos) (u8:List (Addr×Obj)) (s:Shared) (σ:St) (H:Hp) (Q:List V->Hp->Prop),Inv X u8 σ H s->t σ H Q->wpAny (model X.prog X.w) X.A (spliced (backTo pos (starEach es X.env))) (AP X u8 σ Q) X.xe s
noncomputable def PS (X:Cx) (st:Stmt) (t:TS):Prop:=
 ∀(u8:List (Addr×Obj)) (s:Shared) (σ:St) (H:Hp) (D:qba),Inv X u8 σ H s->t D σ H->wpAny (model X.prog X.w) X.A (exec st X.env) (SP X u8 D) X.xe s
noncomputable def PSs (X:Cx) (st:List Stmt) (t:TS):Prop:=
 ∀(u8:List (Addr×Obj)) (s:Shared) (σ:St) (H:Hp) (D:qba),Inv X u8 σ H s->t D σ H->wpAny (model X.prog X.w) X.A (execs st X.env) (SP X u8 D) X.xe s
theorem thn (h:wpAny M A t Q E s) (hQ: ∀a s,Q a s->Q' a s):wpAny M A t Q' E s:=wpAny_mono h hQ λ_ _ x=>x
section
variable {X:Cx}
theorem bin (ha:PE X a ta) (hb:PE X b tb){R:V->V->Hp->Prop}(I:Inv X u8 σ H s) (h:ta σ H λx H1=>tb σ H1 λy H2=>R x y H2)
 {f:Value->Value->Sem α}
 (hf: ∀v u s2 x y H2,Inv X u8 σ H2 s2->RelV x v->RelV y u->R x y H2->wpAny (model X.prog X.w) X.A (f v u) Q X.xe s2):
 wpAny (model X.prog X.w) X.A (eval a X.env) (λv s₁=>wpAny (model X.prog X.w) X.A (eval b X.env) (λu s₂=>wpAny (model X.prog X.w) X.A (f v u) Q X.xe s₂) X.xe s₁) X.xe s:=by
 refine thn (ha u8 s σ H _ I h) λv s1 ⟨x,H1,I1,r1,q1⟩=> ?_
 refine thn (hb u8 s1 σ H1 _ I1 q1) λu s2 ⟨y,H2,I2,r2,q2⟩=> ?_
 exact hf v u s2 x y H2 I2 r1 r2 q2
def xb5 (i:Nat):TE:=λσ H Q=> ∃v,σ[i]? =y0 (y0 v)/\Q v H
def tC (v:V):TE:=λ_ H Q=>Q v H
theorem zA (hN:X.N[i]? =some x) (hv:Vis X.env.scope x) (hd:(x==("__debug__" :Str))=false:=by decide) (hcd:(x==("__classdict__" :Str))=false:=by decide):PE X (.Name x pos) (xb5 i):=by
 intro u8 s σ H Q I h
 obtain⟨v,e,h⟩:=h
 obtain⟨m,hn,hl⟩:=I.loc
 obtain⟨u,r,l⟩:=hl i x v hN e hv
 have fin:EP X u8 σ Q u s:=⟨v,H,I,r,h⟩
 rcases l with⟨hk,hm⟩ | ⟨hk,c,hc,hcell⟩
 ·exact wpAny_Name (wpAny_loadName_local I.ok.kind hk hn hm fin) hd
 ·rcases hk with hk | hk
  ·exact wpAny_Name (wpAny_loadName_cell I.ok.kind hk hc hcell fin) hd
  ·exact wpAny_Name (wpAny_loadName_free I.ok.kind hk hc hcell fin hcd) hd
theorem W8 {i j pos}:PE X (.Constant (.int i) j pos) (tC (.int i)):=λ_ _ _ H _ I h=>wpAny_Constant_int ⟨.int i,H,I.tok _,⟨_,rfl⟩,h⟩
theorem jcb {b j pos}:PE X (.Constant (.bool b) j pos) (tC (.bl b)):=λ_ _ _ H _ I h=>Constant_bool ⟨.bl b,H,I,rfl,h⟩
theorem jbJ {x j pos}:PE X (.Constant (.str x) j pos) (tC (.str x)):=λ_ _ _ H _ I h=>Calls.Constant_str ⟨.str x,H,I.tok _,⟨_,rfl⟩,h⟩
def Gl (X:Cx) (x:Str):Prop:=X.env.kindOf x=y0 .globalImplicit
theorem xy (I:Inv X u8 σ H s) (hg:Gl X x) (hm:X.mg x=y0 u) (h:Q u s)
 (hd:(x==("__debug__" :Str))=false:=by decide):wpAny (model X.prog X.w) X.A (eval (.Name x pos) X.env) Q E s:=
 Calls.Name_function_global I.ok.kind hg (Calls.loadGlobal_global (by rw [I.ok.glob];exact I.mod.glob.keeps I.bk) hm h) hd
theorem xv (I:Inv X u8 σ H s) (hg:Gl X x) (hm:X.mg x=k9) (hv:bootBuiltins x=y0 u) (h:Q u s)
 (hn:x≠ "__name__" :=by decide) (hd:(x==("__debug__" :Str))=false:=by decide):wpAny (model X.prog X.w) X.A (eval (.Name x pos) X.env) Q E s:=by
 obtain⟨mb,h1,h2⟩:=I.mod.blt
 exact Calls.Name_function_global I.ok.kind hg (Calls.loadGlobal_builtin (by rw [I.ok.glob];exact I.mod.glob.keeps I.bk) hm (by rw [I.ok.blt];exact h1.keeps I.bk) ((h2 x hn).trans hv) h) hd
theorem XO (hg:Gl X x) (hm:X.mg x=some u) (r:RelV v u) (hd:(x==("__debug__" :Str))=false:=by decide):PE X (.Name x pos) (tC v):=
 λ_ _ _ H _ I h=>xy I hg hm ⟨v,H,I,r,h⟩ hd
theorem qbi (hg:Gl X x) (hm:X.mg x=none) (hv:bootBuiltins x=some u) (r:RelV v u) (hn:x≠ "__name__" :=by decide) (hd:(x==("__debug__" :Str))=false:=by decide):PE X (.Name x pos) (tC v):=
 λ_ _ _ H _ I h=>xv I hg hm hv ⟨v,H,I,r,h⟩ hn hd
variable {a b:Expr}{ta tb:TE}{pos:Pos}
variable {tA tB':TT}{Xo:List Expr}
def jcz (t u:TT):TT:=λσ H Q=>t σ H λc H1=>if c=v9 then u σ H1 Q else Q u9 H1
def tOr (t u:TT):TT:=λσ H Q=>t σ H λc H1=>if c=v9 then Q v9 H1 else u σ H1 Q
def xcw (t:TT):TT:=λσ H Q=>t σ H λc H1=>Q (!c) H1
theorem zbr (ha:PT X a tA):PW X (.BoolOp .And [a] pos) tA:=by
 intro wh u8 s σ H Q I h
 refine isTrue_and (thn (ha u8 s σ H Q I h) λc s1 e=> ?_)
 cases c with
 | true=>exact isTrue_and_nil e
 | false=>exact e
theorem zbI (ha:PT X a tA):PW X (.BoolOp .Or [a] pos) tA:=by
 intro wh u8 s σ H Q I h
 refine isTrue_or (thn (ha u8 s σ H Q I h) λc s1 e=> ?_)
 cases c with
 | false=>exact isTrue_or_nil e
 | true=>exact e
theorem jbW (ha:PT X a tA) (hb:PW X (.BoolOp .And (b::Xo) pos) tB'):PW X (.BoolOp .And (a::b::Xo) pos) (jcz tA tB'):=by
 intro wh u8 s σ H Q I h
 refine isTrue_and (thn (ha u8 s σ H _ I h) λc s1 ⟨H1,I1,q1⟩=> ?_)
 cases c with
 | true=>exact hb wh u8 s1 σ H1 Q I1 q1
 | false=>exact⟨H1,I1,q1⟩
theorem xcb (ha:PT X a tA) (hb:PW X (.BoolOp .Or (b::Xo) pos) tB'):PW X (.BoolOp .Or (a::b::Xo) pos) (tOr tA tB'):=by
 intro wh u8 s σ H Q I h
 refine isTrue_or (thn (ha u8 s σ H _ I h) λc s1 ⟨H1,I1,q1⟩=> ?_)
 cases c with
 | true=>exact⟨H1,I1,q1⟩
 | false=>exact hb wh u8 s1 σ H1 Q I1 q1
theorem jbT (ha:PT X a tA):PT X (.UnaryOp .Not a pos) (xcw tA):=by
 intro u8 s σ H Q I h
 exact isTrue_not (ha u8 s σ H (λc H1=>Q (!c) H1) I h)
theorem ja1 {op}(h:PE X a t):PE X (.BoolOp op [a] pos) t:=λu8 s σ H Q I hw=>BoolOp_one (h u8 s σ H Q I hw)
end
noncomputable def SqL (K:Aa5) (H:Hp) (a:Addr) (xs:List V):Prop:=
 Rd H a (.lst xs) ∨
  ∃(o:Obj) (its:Array Value) (n:Nat),K.lookup a=some o/\o.cls= .type "list" /\o.dict=none/\o.data= .seq its n/\its.size<=sizeLine/\Vals xs its.toList
noncomputable def SqT (K:Aa5) (H:Hp) (a:Addr) (xs:List V):Prop:=
 Rd H a (.tup xs) ∨
  ∃(o:Obj) (its:Array Value) (n:Nat),K.lookup a=y0 o/\o.cls= .type "tuple" /\o.data= .seq its n/\its.size<=sizeLine/\Vals xs its.toList
noncomputable def jcB:Value->Option V
 | .none=>y0 .non
 | .bool b=>y0 (.bl b)
 | .int i _=>y0 (.int i)
 | .str x _=>y0 (.str x)
 | .bytes b _=>y0 (.byt b)
 | .float b _=>y0 (.flt b)
 | .ref a=>y0 (.ref a)
 | .type n=>y0 (.ty n)
 | _=>k9
theorem RelV.abs (r:RelV x u):jcB u=y0 x:=by
 cases x with
 | non=>cases r;rfl
 | bl _=>cases r;rfl
 | int _=>obtain⟨t,rfl⟩:=r;rfl
 | str _=>obtain⟨t,rfl⟩:=r;rfl
 | byt _=>obtain⟨t,rfl⟩:=r;rfl
 | flt _=>obtain⟨t,rfl⟩:=r;rfl
 | ref _=>cases r;rfl
 | ty _=>cases r;rfl
theorem RelV.inj (r:RelV x u) (q:RelV y u):x=y:=Ag6.inj (r.abs.symm.trans q.abs)
theorem Vals.inj: ∀ {xs ys}{us},Vals xs us->Vals ys us->xs=ys
 | _,_,_,.nil,.nil=>rfl
 | _,_,_,.cons r t,.cons r' t'=>by rw [r.inj r',Vals.inj t t']
section
variable {X:Cx}{u8:List (Addr×Obj)}{σ:St}{H:Hp}{s:Shared}{a:Addr}{xs ys:List V}
theorem SqL.of {K:Aa5}(h:H a=y0 (.lst xs)):SqL K H a xs:= .inl (.inl h)
theorem Inv.list (I:Inv X u8 σ H s) (h:SqL X.K H a xs): ∃its:List Value,Vals xs its/\PlainL s.heap a its.toArray/\xs.length<=sizeLine:=by
 rcases h with h | ⟨o,its,n,hk,hc,hd,hs,hz,r⟩
 ·obtain⟨z,its,n,r,e⟩:=h.ok I.hok
  exact⟨its,r,⟨_,n,e,rfl,rfl,rfl⟩,z⟩
 ·refine⟨its.toList,r,⟨o,n,I.kIn a o hk,hc,hd,by simpa using hs⟩,?_⟩
  have e:=r.length
  simp only [Ah1]at e
  omega
theorem Inv.tuple (I:Inv X u8 σ H s) (h:SqT X.K H a xs): ∃its:List Value,Vals xs its/\IsTup s.heap a its.toArray/\xs.length<=sizeLine:=by
 rcases h with h | ⟨o,its,n,hk,hc,hs,hz,r⟩
 ·obtain⟨z,its,r,p⟩:=h.ok I.hok
  exact⟨its,r,p.is,z⟩
 ·refine⟨its.toList,r,⟨o,I.kIn a o hk,hc,n,by simpa using hs⟩,?_⟩
  have e:=r.length
  simp only [Ah1]at e
  omega
theorem Inv.list_inj (I:Inv X u8 σ H s) (h:SqL X.K H a xs) (h':SqL X.K H a ys):xs=ys:=by
 obtain⟨its,r,⟨o,n,e,_,_,d⟩,_⟩:=I.list h
 obtain⟨its',r',⟨o',n',e',_,_,d'⟩,_⟩:=I.list h'
 rw [e]at e';cases e'
 rw [d]at d'
 injection d' with d1 _
 have:its=its':=by simpa using congrArg Array.toList d1
 subst this
 exact r.inj r'
theorem Inv.tuple_inj (I:Inv X u8 σ H s) (h:SqT X.K H a xs) (h':SqT X.K H a ys):xs=ys:=by
 obtain⟨its,r,⟨o,e,_,n,d⟩,_⟩:=I.tuple h
 obtain⟨its',r',⟨o',e',_,n',d'⟩,_⟩:=I.tuple h'
 rw [e]at e';cases e'
 rw [d]at d'
 injection d' with d1 _
 have:its=its':=by simpa using congrArg Array.toList d1
 subst this
 exact r.inj r'
end
section
variable {X:Cx}{st:Stmt}{Xo:List Stmt}{t u:TS}{e:Expr}{te:TE}{pos:Pos}
def zch:TS:=λD σ H=>D.nx σ H
def xcC (t u:TS):TS:=λD σ H=>t { D with nx:=u D } σ H
theorem zbo:PSs X [] zch:=λ_ _ σ H _ I h=>wpAny_execs_nil ⟨σ,H,I,h⟩
theorem zaI (h1:PS X st t) (h2:PSs X Xo u):PSs X (st::Xo) (xcC t u):=by
 intro u8 s σ H D I h
 refine wpAny_execs_cons (thn (h1 u8 s σ H { D with nx:=u D } I h) λf s1 q=> ?_)
 cases f with
 | next=>
  obtain⟨σ',H',I',q⟩:=q
  exact h2 u8 s1 σ' H' D I' q
 | ret v=>exact q
 | brk=>exact q
 | cont=>exact q
theorem Inv.quiet (I:Inv X u8 σ H s):interactive X.env=false:=by simp [interactive,I.ok.kind]
def xcf (te:TE):TS:=λD σ H=>te σ H λ_ H1=>D.nx σ H1
theorem jas (he:PE X e te) (hs:swapsWith e k9 pos.line X.env=pure false:=by rfl):PS X (.Expr e pos) (xcf te):=by
 intro u8 s σ H D I h
 exact wpAny_Expr_any (thn (he u8 s σ H _ I h) λv s1 ⟨x,H1,I1,r1,q1⟩=>⟨σ,H1,I1,q1⟩) I.quiet hs
def xcv (te:TE):TS:=λD σ H=>te σ H D.rt
theorem jaZ (he:PE X e te):PS X (.Return (y0 e) pos) (xcv te):=by
 intro u8 s σ H D I h
 exact wpAny_Return_some (thn (he u8 s σ H _ I h) λv s1 ⟨x,H1,I1,r1,q1⟩=>⟨x,σ,H1,I1,r1,q1⟩)
def qcF (c:TT) (t u:TS):TS:=λD σ H=>c σ H λb H1=>if b=v9 then t D σ H1 else u D σ H1
theorem jcd (hc:PT X c tc) (ha:PSs X a t) (hb:PSs X b u):PS X (.If c a b pos) (qcF tc t u):=by
 intro u8 s σ H D I h
 refine wpAny_If (thn (hc u8 s σ H _ I h) λd s1 ⟨H1,I1,q1⟩=> ?_)
 cases d with
 | true=>exact ha u8 s1 σ H1 D I1 q1
 | false=>exact hb u8 s1 σ H1 D I1 q1
end
abbrev TG:=V->St->Hp->(St->Hp->Prop)->Prop
abbrev TGs:=List V->St->Hp->(St->Hp->Prop)->Prop
noncomputable def PG (X:Cx) (target:Expr) (t:TG):Prop:=
 ∀(u8:List (Addr×Obj)) (s:Shared) (σ:St) (H:Hp) (v:V) (u:Value) (Q:St->Hp->Prop),Inv X u8 σ H s->RelV v u->t v σ H Q →
  wpAny (model X.prog X.w) X.A (assign target X.env u) (λ_ s'=> ∃σ' H',Inv X u8 σ' H' s'/\Q σ' H') X.xe s
noncomputable def PGs (X:Cx) (ts:List Expr) (t:TGs):Prop:=
 ∀(u8:List (Addr×Obj)) (s:Shared) (σ:St) (H:Hp) (vs:List V) (us:List Value) (Q:St->Hp->Prop),Inv X u8 σ H s->Vals vs us->t vs σ H Q →
  wpAny (model X.prog X.w) X.A (assignInOrder ((assignEach ts X.env).map (·.2)) us) (λ_ s'=> ∃σ' H',Inv X u8 σ' H' s'/\Q σ' H') X.xe s
abbrev jcq:=V->V->V->Hp->(Hp->Prop)->Prop
noncomputable def jcu (X:Cx) (t:jcq):Prop:=
 ∀(u8:List (Addr×Obj)) (s:Shared) (σ:St) (H:Hp) (o i v:V) (ov iv u:Value) (Q:Hp->Prop),Inv X u8 σ H s->RelV o ov->RelV i iv->RelV v u->t o i v H Q →
  wpAny (model X.prog X.w) X.A (setItem ov iv u) (λ_ s'=> ∃H',Inv X u8 σ H' s'/\Q H') X.xe s
section
variable {X:Cx}{pos:Pos}
def qN (i:Nat):TG:=λv σ H Q=>Q (σ.set i (y0 v)) H
theorem zau (hN:X.N.Nodup) (hi:X.N[i]? =y0 x) (hx:Loc X.env.scope x) (hf:X.fn x=v9\/X.env.scope.names.lookup x=y0 .local:=by first | exact .inl rfl | exact .inr rfl | assumption):PG X (.Name x pos) (qN i):=by
 intro u8 s σ H v u Q I r h
 exact wpAny_assign_Name (ZH I hN hi hx r (λs' I'=>⟨_,H,I',h⟩) hf)
def qcw:TGs:=λvs σ H Q=>vs= []/\Q σ H
def zcm (t:TG) (u:TGs):TGs:=λvs σ H Q=> ∃v r,vs=v::r/\t v σ H λσ' H'=>u r σ' H' Q
theorem xbu:PGs X [] qcw:=by
 intro u8 s σ H vs us Q I r h
 obtain⟨e,h⟩:=h
 subst e
 cases r
 exact assignInOrder_nil ⟨σ,H,I,h⟩
theorem xaP (h1:PG X e t) (h2:PGs X es u)
 (hs:(assignEach (e::es) X.env).map (·.2)=assign e X.env::(assignEach es X.env).map (·.2):=by rfl):PGs X (e::es) (zcm t u):=by
 intro u8 s σ H vs us Q I r h
 obtain⟨v,vr,e1,h⟩:=h
 subst e1
 cases r with
 | cons r rr=>
  rw [hs]
  refine assignInOrder_cons (thn (h1 u8 s σ H _ _ _ I r h) λ_ s1 ⟨σ1,H1,I1,q1⟩=> ?_)
  exact h2 u8 s1 σ1 H1 _ _ Q I1 rr q1
def jcC (K:Aa5) (n:Nat) (t:TGs):TG:=λv σ H Q=> ∃a xs,v= .ref a/\SqT K H a xs/\xs.length=n/\t xs σ H Q
theorem qbZ (hc:X.calm=v9) (h:PGs X es t)
 (hn:(assignEach es X.env).length=n:=by rfl) (hst:(assignEach es X.env).findIdx? (·.1)=none:=by rfl):PG X (.Tuple es k pos) (jcC X.K n t):=by
 intro u8 s σ H v u Q I r hw
 obtain⟨a,xs,e1,hq,hl,hw⟩:=hw
 subst e1
 cases r
 obtain⟨its,rv,ht,hz⟩:=I.tuple hq
 refine assign_Tuple_tuple (I.ok.hd hc) ht (by simp [hn,←hl,rv.length]) hst λh' hx=> ?_
 have I1:Inv X u8 σ H { s with heap:=h' }:=I.kept λb o e=>hx b o (Ad (Ab6 e)) e
 exact h u8 _ σ H xs _ Q I1 (by simpa using rv) hw
def zcG (to ti:TE) (t:jcq):TG:=λv σ H Q=>to σ H λo H1=>ti σ H1 λi H2=>t o i v H2 λH3=>Q σ H3
theorem qa3 (ho:PE X o to) (hi:PE X i ti) (hs:jcu X t)
 (ha: ∀v,assign (.Subscript o i pos) X.env v=(do
   let ov ←holding [v] (eval o X.env)
   let iv ←holding [v,ov] (eval i X.env)
   standAt pos
   holding [v,ov,iv] (setItem ov iv v)
   release [v,ov,iv] []):=by intro _;rfl):PG X (.Subscript o i pos) (zcG to ti t):=by
 intro u8 s σ H v u Q I r h
 rw [ha]
 refine wpAny_bind (wpAny_holding (thn (ho u8 s σ H _ I h) λov s1 ⟨x,H1,I1,r1,q1⟩=> ?_))
 refine wpAny_bind (wpAny_holding (thn (hi u8 s1 σ H1 _ I1 q1) λiv s2 ⟨y,H2,I2,r2,q2⟩=> ?_))
 refine wpAny_bind (wpAny_standAt (wpAny_bind (wpAny_holding (thn (hs u8 s2 σ H2 x y v ov iv u _ I2 r1 r2 r q2) λ_ s3 ⟨H3,I3,q3⟩=> ?_))))
 exact wpAny_release ⟨σ,H3,I3,q3⟩
def zaY (te:TE) (g:TG):TS:=λD σ H=>te σ H λx H1=>g x σ H1 D.nx
theorem za5 (he:PE X e te) (hg:PG X tg g) (hs:swapsWithSole [tg] e pos.line X.env=pure false:=by rfl) (hw:swappedStores [tg] e X.env=pure none:=by rfl)
 (h1:(assignEach [tg] X.env).map (·.2)= [assign tg X.env]:=by rfl):PS X (.Assign [tg] e pos) (zaY te g):=by
 intro u8 s σ H D I h
 refine wpAny_Assign_stores (thn (he u8 s σ H _ I h) λv s1 ⟨x,H1,I1,r1,q1⟩=> ?_) hs hw
 rw [h1]
 exact thn (hg u8 s1 σ H1 x v _ I1 r1 q1) λ_ s2 q=>q
theorem qb5 (hN:X.N.Nodup) (hi:X.N[i]? =y0 x) (hx:Loc X.env.scope x) (he:PE X e te) (hs:swapsWith e (y0 (.Name x pos')) pos.line X.env=pure false:=by rfl) (hf:X.fn x=v9\/X.env.scope.names.lookup x=y0 .local:=by first | exact .inl rfl | exact .inr rfl | assumption):
 PS X (.Assign [.Name x pos'] e pos) (zaY te (qN i)):=by
 intro u8 s σ H D I h
 refine wpAny_Assign_Name (thn (he u8 s σ H _ I h) λv s1 ⟨y,H1,I1,r1,q1⟩=> ?_) hs
 exact ZH I1 hN hi hx r1 (λs2 I2=>⟨_,H1,I2,q1⟩) hf
end
section
variable {X:Cx}{pos:Pos}
noncomputable def jb1 (c:TT) (tb:TS):TS:=λD σ H=> ∃W:Nat->St->Hp->Prop,(∃ m,W m σ H)/\ ∀m σ H,W m σ H →
 c σ H λb H1=>if b=v9 then ∃N:St->Hp->Prop,(∀ σ' H',N σ' H'-> ∃m',m'<m/\W m' σ' H')/\tb { D with nx:=N,ct:=N,bk:=D.nx } σ H1 else D.nx σ H1
theorem zaD (hp:PassesOwn (model X.prog X.w) X.A X.env X.xe) (hc:PT X c tc) (hb:PSs X body tb):PS X (.While c body [] pos) (jb1 tc tb):=by
 intro u8 s σ H D I h
 obtain⟨W,⟨m0,w0⟩,turn⟩:=h
 refine wpAny_While (codeAny_whileLoop (λn s'=> ∃σ' H',Inv X u8 σ' H' s'/\W n σ' H') ?_ m0 ⟨σ,H,I,w0⟩)
 rintro n s1 ⟨σ1,H1,I1,w1⟩
 refine wpAny_passesOwn hp (thn (hc u8 s1 σ1 H1 _ I1 (turn n σ1 H1 w1)) λb s2 ⟨H2,I2,q2⟩=> ?_)
 cases b with
 | true=>
  obtain⟨N,hN,q2⟩:=q2
  refine wpAny_passesOwn hp (thn (hb u8 s2 σ1 H2 _ I2 q2) λf s3 q3=> ?_)
  cases f with
  | next=>
   obtain⟨σ3,H3,I3,n3⟩:=q3
   obtain⟨m',hm,w3⟩:=hN σ3 H3 n3
   exact⟨m',hm,σ3,H3,I3,w3⟩
  | cont=>
   obtain⟨σ3,H3,I3,n3⟩:=q3
   obtain⟨m',hm,w3⟩:=hN σ3 H3 n3
   exact⟨m',hm,σ3,H3,I3,w3⟩
  | brk=>exact q3
  | ret v=>exact q3
 | false=>
  exact wpAny_execs_nil ⟨σ1,H2,I2,q2⟩
end
structure It where
 go:Nat->Hp->Prop
 yld:Nat->Hp->V->Hp->Prop
 stop:Nat->Hp->Prop
noncomputable def WY (X:Cx) (u8:List (Addr×Obj)) (H:Hp) (b:Addr):Prop:=
 H b=k9/\b≠X.env.locals/\b∉X.fs/\(b∈X.ex\/X.s₀.heap.objs.size<=b)/\(∀ x c,X.env.cells.lookup x=y0 c->c≠b)/\ ∀p∈X.pn++u8,p.1≠b
theorem Inv.fpOk (I:Inv X u8 σ H s) (hb:s.heap.objs.size<=b) (hn:H' b=k9):WY X u8 H' b:=by
 refine⟨hn,Nat.ne_of_gt (Ab3 I.lt hb),I.nofs hb,.inr (Ac7 I.sz hb),λx c e z=> ?_,λp hp z=> ?_⟩
 ·obtain⟨v,q⟩:=I.cell x c e
  exact absurd (Ab3 q.lt (by rw [z];exact hb)) (Af8 _)
 ·exact absurd (Ab3 (Ab6 (I.pin p hp).1) (by rw [z];exact hb)) (Af8 _)
structure qaR (P:Program) (w:World) (K:Aa5) (tg:Expr) (J:It) (fp:List Addr) (it:Addr) (tn:Nat->Heap->Prop):Prop where
 mem:it∈fp
 obj: ∀i h,tn i h-> ∀b∈fp,∃o,h.get? b=y0 o/\ ∀v,o.data≠ .cell v
 keep: ∀i h h',tn i h->(∀ b∈fp,∀o,h.get? b=y0 o->h'.get? b=y0 o)->tn i h'
 item: ∀(X:Cx),X.prog=P->X.w=w->X.K=K->X.calm=v9-> ∀(i:Nat) (u8:List (Addr×Obj)) (s:Shared) (σ:St) (H:Hp) (E:Value->Shared->Prop),Inv X u8 σ H s->(∀ b∈fp,WY X u8 H b)->tn i s.heap->J.go i H →
  wpAny (model P w) X.A (pyNext (.ref it)) (λr s1=> ∃u,r=y0 u ∧
   wpAny (model P w) X.A (letOwnedTupleGo tg (.ref it) u) (λ_ s2=> ∃x H',Inv X u8 σ H' s2/\RelV x u/\J.yld i H x H'/\tn (i+1) s2.heap/\ ∀b∈fp,H' b=k9) E s1) E s
 done: ∀(X:Cx),X.prog=P->X.w=w->X.K=K->X.calm=v9-> ∀(i:Nat) (u8:List (Addr×Obj)) (s:Shared) (σ:St) (H:Hp) (E:Value->Shared->Prop),Inv X u8 σ H s->(∀ b∈fp,WY X u8 H b)->tn i s.heap->J.stop i H →
  wpAny (model P w) X.A (pyNext (.ref it)) (λr s1=>r=k9/\Inv X u8 σ H s1) E s
 self: ∀(A:Around) (i:Nat) (s:Shared) (Q:Value->Shared->Prop) (E:Value->Shared->Prop),tn i s.heap->Q (.ref it) s->wpAny (model P w) A (pyIter (.ref it)) Q E s
abbrev TI:=St->Hp->(It->Hp->Prop)->Prop
noncomputable def PIE (X:Cx) (u8:List (Addr×Obj)) (σ:St) (tg:Expr) (R:It->Hp->Prop) (itv:Value) (s2:Shared):Prop:=
 ∃(it:Addr) (fp:List Addr) (tn:Nat->Heap->Prop) (J:It) (H':Hp),itv= .ref it/\Inv X u8 σ H' s2/\qaR X.prog X.w X.K tg J fp it tn/\tn 0 s2.heap/\(∀ b∈fp,WY X u8 H' b)/\R J H'
noncomputable def PI (X:Cx) (tg iter:Expr) (wi:TI):Prop:=
 ∀(u8:List (Addr×Obj)) (s:Shared) (σ:St) (H:Hp) (R:It->Hp->Prop),Inv X u8 σ H s->wi σ H R →
  wpAny (model X.prog X.w) X.A (eval iter X.env) (λv s1=>wpAny (model X.prog X.w) X.A (pyIter v) (PIE X u8 σ tg R) X.xe s1) X.xe s
theorem qR (ho:s.heap.get? it=y0 o) (hc:o.cls= .type n) (hd:o.data= .fields vs)
 (hn: ["enumerate", "zip", "dict_itemiterator", "dict_reverseitemiterator", "odict_iterator", "itertools.zip_longest", "itertools.pairwise"].contains n=false) (hQ:Q () s):wpAny M A (letOwnedTupleGo tg (.ref it) u) Q E s:=by
 unfold letOwnedTupleGo
 cases tg<;>first
  | exact wpAny_pure hQ
  | (cases u<;>first
      | exact wpAny_pure hQ
      | (refine wpAny_bind (wpAny_load ho ?_)
         rw [hc,hd]
         show wpAny M A (if (["enumerate", "zip", "dict_itemiterator", "dict_reverseitemiterator", "odict_iterator", "itertools.zip_longest", "itertools.pairwise"].contains n&&vs[0]? ==some (rawInt _))=true then _ else _) Q E s
         rw [if_neg (by intro h;rw [hn,Bool.false_and]at h;cases h)]
         exact wpAny_pure hQ))
noncomputable def Itl (K:Aa5) (a:Addr):It:=
 ⟨λi H=> ∃xs x,SqL K H a xs/\xs[i]? =y0 x,λi H x H'=>H'=H/\ ∀xs,SqL K H a xs->xs[i]? =y0 x,λi H=> ∃xs,SqL K H a xs/\xs.length<=i⟩
noncomputable def Itt (K:Aa5) (a:Addr):It:=
 ⟨λi H=> ∃xs x,SqT K H a xs/\xs[i]? =y0 x,λi H x H'=>H'=H/\ ∀xs,SqT K H a xs->xs[i]? =y0 x,λi H=> ∃xs,SqT K H a xs/\xs.length<=i⟩
def Itr (lo:Int) (n:Nat):It:=⟨λi _=>i<n,λi H x H'=>H'=H/\x= .int (lo+i),λi _=>n<=i⟩
theorem J6 {K:Aa5}(a it):qaR P w K tg (Itl K a) [it] it (λi h=>h.IsListIter it a i) where
 mem:=by simp
 obj:=λi h st b hb=>by
  have e:=by simpa using hb
  subst e
  obtain⟨o,e,c,d⟩:=st
  exact⟨o,e,λv z=>by rw [d]at z;cases z⟩
 keep:=λi h h' st k=>st.at λo e=>k it (by simp) o e
 item:=by
  intro X hP hw hK hc i u8 s σ H E I hf st hg
  subst hP hw hK
  obtain⟨xs,x,hq,hx⟩:=hg
  obtain⟨its,rv,p,hz⟩:=I.list hq
  obtain⟨u,hu,ru⟩:=rv.get hx
  obtain⟨f0,f1,f2,f3,f4,f5⟩:=hf it (by simp)
  refine wpAny_pyNext_list_item st p.isList (by simpa using hu) λh' st' sb=> ?_
  have I1:Inv X u8 σ H { s with heap:=h' }:=I.turned (λb o hb e=>(sb.2 b hb).trans e) f0 f1 f3 f4 f5
  obtain⟨o,e,c,d⟩:=id st'
  exact⟨u,rfl,qR e c d (by decide) ⟨x,H,I1,ru,⟨rfl,λys hy=>by rw [I.list_inj hy hq];exact hx⟩,st',λb hb=>(hf b hb).1⟩⟩
 done:=by
  intro X hP hw hK hc i u8 s σ H E I hf st hg
  subst hP hw hK
  obtain⟨xs,hq,hx⟩:=hg
  obtain⟨its,rv,p,hz⟩:=I.list hq
  obtain⟨f0,f1,f2,f3,f4,f5⟩:=hf it (by simp)
  have hl:=rv.length
  exact wpAny_pyNext_list_end (I.ok.hd hc) st p.isList (by simp;omega) λh' eb=>⟨rfl,I.turned (λb o hb e=>eb b o hb e) f0 f1 f3 f4 f5⟩
 self:=λ_ _ _ _ _ st h=>wpAny_pyIter_listiter st h
theorem JV {K:Aa5}(a it):qaR P w K tg (Itt K a) [it] it (λi h=>h.IsTupleIter it a i) where
 mem:=by simp
 obj:=λi h st b hb=>by
  have e:=by simpa using hb
  subst e
  obtain⟨o,e,c,d⟩:=st
  exact⟨o,e,λv z=>by rw [d]at z;cases z⟩
 keep:=λi h h' st k=>st.at λo e=>k it (by simp) o e
 item:=by
  intro X hP hw hK hc i u8 s σ H E I hf st hg
  subst hP hw hK
  obtain⟨xs,x,hq,hx⟩:=hg
  obtain⟨its,rv,p,hz⟩:=I.tuple hq
  obtain⟨u,hu,ru⟩:=rv.get hx
  obtain⟨f0,f1,f2,f3,f4,f5⟩:=hf it (by simp)
  refine wpAny_pyNext_tuple_item st (p) (by simpa using hu) λh' st' sb=> ?_
  have I1:Inv X u8 σ H { s with heap:=h' }:=I.turned (λb o hb e=>(sb.2 b hb).trans e) f0 f1 f3 f4 f5
  obtain⟨o,e,c,d⟩:=id st'
  exact⟨u,rfl,qR e c d (by decide) ⟨x,H,I1,ru,⟨rfl,λys hy=>by rw [I.tuple_inj hy hq];exact hx⟩,st',λb hb=>(hf b hb).1⟩⟩
 done:=by
  intro X hP hw hK hc i u8 s σ H E I hf st hg
  subst hP hw hK
  obtain⟨xs,hq,hx⟩:=hg
  obtain⟨its,rv,p,hz⟩:=I.tuple hq
  obtain⟨f0,f1,f2,f3,f4,f5⟩:=hf it (by simp)
  have hl:=rv.length
  exact wpAny_pyNext_tuple_end (I.ok.hd hc) st (p) (by simp;omega) λh' eb=>⟨rfl,I.turned (λb o hb e=>eb b o hb e) f0 f1 f3 f4 f5⟩
 self:=λ_ _ _ _ _ st h=>wpAny_pyIter_tupleiter st h
theorem zW {K:Aa5}(it) (lo) (n):qaR P w K tg (Itr lo n) [it] it (λi h=>IsRangeIter h it (lo+(i:Nat)*1) ((n:Int)-(i:Nat)) 1) where
 mem:=by simp
 obj:=λi h st b hb=>by
  have e:=by simpa using hb
  subst e
  exact⟨_,st,λv z=>by
   have z':=z
   cases z'⟩
 keep:=λi h h' st k=>k it (by simp) _ st
 item:=by
  intro X hP hw hK hc i u8 s σ H E I hf st hg
  subst hP hw hK
  obtain⟨f0,f1,f2,f3,f4,f5⟩:=hf it (by simp)
  have W:=Walks.range (prog:=X.prog) (w:=X.w) (I.ok.hd hc) it lo 1 n
  refine W.item i s _ _ hg st λv h' tk hv st' kk=> ?_
  obtain⟨t,rfl⟩:=hv
  have I1:Inv X u8 σ H { s with heap:=h',toks:=tk }:=I.turned (λb o hb e=>kk b o (by simpa using hb) e) f0 f1 f3 f4 f5
  refine⟨_,rfl,qR st' rfl rfl (by decide) ⟨.int (lo+i),H,I1,⟨t,?_⟩,⟨rfl,rfl⟩,st',λb hb=>(hf b hb).1⟩⟩
  rw [Int.mul_one]
 done:=by
  intro X hP hw hK hc i u8 s σ H E I hf st hg
  obtain⟨f0,f1,f2,f3,f4,f5⟩:=hf it (by simp)
  exact wpAny_pyNext_range_end (I.ok.hd hc) st (by have:n<=i:=hg;omega) λh' eb=>⟨rfl,I.turned (λb o hb e=>eb b o hb e) f0 f1 f3 f4 f5⟩
 self:=λ_ _ _ _ _ st h=>wpAny_pyIter_rangeiter st h
section
variable {X:Cx}{tg:Expr}
theorem QR {lo hi:Int}(I:Inv X u8 σ H s) (h1: -(2 ^ 62)<=lo) (h2:lo<2 ^ 62) (h3: -(2 ^ 62)<=hi) (h4:hi<2 ^ 62)
 (q:R (Itr lo (hi-lo).toNat) H):wpAny (model X.prog X.w) X.A (pyIter (.ref s.heap.objs.size)) (PIE X u8 σ tg R) E { s with heap:=s.heap.push { cls:= .type "range",data:= .fields #[.int lo t,.int hi u,.int 1 v] },toks:=tk }:=by
 refine wpAny_pyIter_range (IsRange.new ..) (small_one h1 h2 h3 h4) ?_
 have I1:Inv X u8 σ H { s with heap:=s.heap.push { cls:= .type "range",data:= .fields #[.int lo t,.int hi u,.int 1 v] },toks:=tk }:=I.kept fun b o e=>Heap.get?_push_of_some _ e
 refine⟨(s.heap.push { cls:= .type "range",data:= .fields #[.int lo t,.int hi u,.int 1 v] }).objs.size,[(s.heap.push { cls:= .type "range",data:= .fields #[.int lo t,.int hi u,.int 1 v] }).objs.size],_,_,H,rfl,
  I1.kept λb o e=>Ab0 _ e,zW _ lo (hi-lo).toNat,?_,λb hb=> ?_,q⟩
 ·have e1:lo+ (0:Nat)*1=lo:=by simp
  have e2: ((hi-lo).toNat:Nat)- (0:Nat)=Builtin.Range.rangeSize lo hi 1:=by rw [rangeSize_one];split<;>omega
  rw [e1,e2]
  exact Ac6 _ rfl
 ·have e:b=(s.heap.push { cls:= .type "range",data:= .fields #[.int lo t,.int hi u,.int 1 v] }).objs.size:=by simpa using hb
  subst e
  exact I1.fpOk (Aa6 _) (I1.hok.fresh (Aa6 _))
def qca (ta:TA):TI:=λσ H R=>ta σ H λvs H1=> ∃j:Int,vs= [.int j]/\ -(2 ^ 62)<=j/\j<2 ^ 62/\R (Itr 0 j.toNat) H1
noncomputable def jcg (ta:TA):TI:=λσ H R=>ta σ H λvs H1=> ∃i j:Int,vs= [.int i,.int j]/\(-(2 ^ 62)<=i/\i<2 ^ 62/\ -(2 ^ 62)<=j/\j<2 ^ 62)/\R (Itr i (j-i).toNat) H1
theorem xad (hg:Gl X "range") (hm:X.mg "range" =none) (ha:PA X [a] ta) (hs:starEach [a] X.env= [(false,eval a X.env)]:=by rfl):PI X tg (.Call (.Name "range" p) [a] [] pos) (qca ta):=by
 intro u8 s σ H R I h
 refine Call_ (xv I hg hm boot_range (PyProof.Rows.callWith_type1 (thn (ha pos u8 s σ H _ I h) λus s1 ⟨vs,H1,I1,r1,q1⟩=> ?_) hs rfl))
 obtain⟨j,e,q1,q2,q⟩:=q1
 subst e
 cases r1 with
 | cons r rr=>
  cases rr
  obtain⟨t,rfl⟩:=r
  exact call_range_1 (QR I1 (by omega) (by omega) q1 q2 (by simpa using q))
theorem W9 (hg:Gl X "range") (hm:X.mg "range" =none) (ha:PA X [a,b] ta) (hs:starEach [a,b] X.env= [(false,eval a X.env),(false,eval b X.env)]:=by rfl) (hs2:starEach [b] X.env= [(false,eval b X.env)]:=by rfl):
 PI X tg (.Call (.Name "range" p) [a,b] [] pos) (jcg ta):=by
 intro u8 s σ H R I h
 refine Call_ (xv I hg hm boot_range (PyProof.Rows.callWith_type1 (thn (ha pos u8 s σ H _ I h) λus s1 ⟨vs,H1,I1,r1,q1⟩=> ?_) (by rw [hs,hs2]) (by rw [hs2];rfl)))
 obtain⟨i,j,e,⟨q1,q2,q3,q4⟩,q⟩:=q1
 subst e
 cases r1 with
 | cons r rr=>
  cases rr with
  | cons r' rr=>
   cases rr
   obtain⟨t,rfl⟩:=r
   obtain⟨t',rfl⟩:=r'
   exact call_range_2 (QR I1 q1 q2 q3 q4 q)
noncomputable def xcB (wi:TI) (g:TG) (tb:TS):TS:=λD σ H=>wi σ H λJ H1=> ∃W:Nat->Nat->St->Hp->Prop,(∃ m,W 0 m σ H1)/\ ∀i m σ H,W i m σ H →
 (J.stop i H/\D.nx σ H)\/(J.go i H/\ ∃N:St->Hp->Prop,(∀ σ' H',N σ' H'-> ∃m',m'<m/\W (i+1) m' σ' H')/\ ∀x H',J.yld i H x H'->g x σ H' λσ2 H2=>tb { D with nx:=N,ct:=N,bk:=D.nx } σ2 H2)
def zB (fp:List Addr) (h:Heap):List (Addr×Obj):=fp.filterMap λb=>(h.get? b).map λo=>(b,o)
theorem ji (hb:b∈fp) (e:h.get? b=y0 o):(b,o)∈zB fp h:=Al5.mpr ⟨b,hb,by rw [e];rfl⟩
theorem XM (hp:p∈zB fp h):p.1∈fp/\h.get? p.1=y0 p.2:=by
 obtain⟨b,hb,e⟩:=Al5.mp hp
 cases q:h.get? b with
 | none=>rw [q]at e;cases e
 | some o=>
  rw [q]at e
  have e':=Ag6.inj e
  subst e'
  exact⟨hb,q⟩
theorem Inv.pinned (I:Inv X u8 σ H s) (hf: ∀b∈fp,WY X u8 H b) (ho: ∀b∈fp,∃o,s.heap.get? b=y0 o/\ ∀v,o.data≠ .cell v):Inv X (u8++zB fp s.heap) σ H s:=
 I.pins_of λp hp=>(Ad2.mp hp).elim (λz=>I.pin p (Ab1 _ z)) λz=>by
  obtain⟨hb,e⟩:=XM z
  obtain⟨f0,f1,f2,_⟩:=hf p.1 hb
  obtain⟨o,e',d⟩:=ho p.1 hb
  rw [e]at e';cases e'
  exact⟨e,f0,f1,f2,d⟩
theorem Inv.unpinned (I:Inv X (u8++pl) σ H s):Inv X u8 σ H s:=I.pins_of λp hp=>I.pin p (Ab1 _ (Ag0 _ hp))
theorem xbK (hp:PassesOwn (model X.prog X.w) X.A X.env X.xe) (hc:X.calm=v9) (hi:PI X tg iter wi) (hg:PG X tg g) (hb:PSs X body tb)
 (hs: ∀x,foldedSetIterable iter X.env x=pure x:=by intro _;rfl):PS X (.For tg iter body [] pos) (xcB wi g tb):=by
 intro u8 s σ H D I h
 refine wpAny_For (thn (hi u8 s σ H _ I h) λv s1 h1=>thn h1 λitv s2 h2=> ?_) hs
 obtain⟨it,fp,tn,J,H2,e,I2,T,st2,f2,W,⟨m0,w0⟩,turn⟩:=h2
 subst e
 have stat: ∀ {H'},(∀ b∈fp,H' b=k9)-> ∀b∈fp,WY X u8 H' b:=λhn b hb=>⟨hn b hb,(f2 b hb).2⟩
 refine codeAny_forLoop_any (λn s'=> ∃i σ' H',Inv X u8 σ' H' s'/\tn i s'.heap/\(∀ b∈fp,H' b=k9)/\W i n σ' H') ?_ m0 ⟨0,σ,H2,I2,st2,λb hb=>(f2 b hb).1,w0⟩
 rintro n s3 ⟨i,σ3,H3,I3,st3,fr3,w3⟩
 rcases turn i n σ3 H3 w3 with⟨stop,qn⟩ | ⟨go,N,hN,step⟩
 ·refine wpAny_passesOwn hp (thn (T.done X rfl rfl rfl hc i u8 s3 σ3 H3 X.xe I3 (stat fr3) st3 stop) λr s4 ⟨hr,I4⟩=> ?_)
  subst hr
  exact wpAny_execs_nil ⟨σ3,H3,I4,qn⟩
 ·refine wpAny_passesOwn hp (thn (T.item X rfl rfl rfl hc i u8 s3 σ3 H3 X.xe I3 (stat fr3) st3 go) λr s4 ⟨u,hr,h4⟩=> ?_)
  subst hr
  refine wpAny_passesOwn hp (thn h4 λ_ s5 ⟨x,H5,I5,r5,y5,st5,fr5⟩=> ?_)
  have I5':=I5.pinned (stat fr5) (T.obj _ _ st5)
  refine wpAny_passesOwn hp (thn (hg _ s5 σ3 H5 x u _ I5' r5 (step x H5 y5)) λ_ s6 ⟨σ6,H6,I6,q6⟩=> ?_)
  refine wpAny_passesOwn hp (thn (hb _ s6 σ6 H6 _ I6 q6) λf s7 q7=> ?_)
  have again: ∀ {σ7}{H7},Inv X (u8++zB fp s5.heap) σ7 H7 s7->N σ7 H7-> ∃m,m<n/\ ∃i σ' H',Inv X u8 σ' H' s7/\tn i s7.heap/\(∀ b∈fp,H' b=k9)/\W i m σ' H':=λ{σ7 H7} I7 n7=>by
   obtain⟨m',hm,w7⟩:=hN σ7 H7 n7
   refine⟨m',hm,i+1,σ7,H7,I7.unpinned,T.keep _ _ _ st5 λb hb o e=>(I7.pin (b,o) (Ab1 _ (Ab1 _ (ji hb e)))).1,λb hb=> ?_,w7⟩
   obtain⟨o,e,d⟩:=T.obj _ _ st5 b hb
   exact(I7.pin (b,o) (Ab1 _ (Ab1 _ (ji hb e)))).2.1
  cases f with
  | next=>obtain⟨σ7,H7,I7,n7⟩:=q7;exact again I7 n7
  | cont=>obtain⟨σ7,H7,I7,n7⟩:=q7;exact again I7 n7
  | brk=>obtain⟨σ7,H7,I7,q7⟩:=q7;exact⟨σ7,H7,I7.unpinned,q7⟩
  | ret v=>obtain⟨x7,σ7,H7,I7,r7,q7⟩:=q7;exact⟨x7,σ7,H7,I7.unpinned,r7,q7⟩
end
abbrev R2:=V->V->Hp->VK->Prop
noncomputable def OpR (X:Cx) (f:Value->Value->Sem Value) (r:R2):Prop:=
 ∀(u8:List (Addr×Obj)) (s:Shared) (σ:St) (H:Hp) (x y:V) (v u:Value) (Q:VK),Inv X u8 σ H s->RelV x v->RelV y u->r x y H Q →
  wpAny (model X.prog X.w) X.A (f v u) (EP X u8 σ Q) X.xe s
noncomputable def UnR (X:Cx) (f:Value->Sem Value) (r:V->Hp->VK->Prop):Prop:=
 ∀(u8:List (Addr×Obj)) (s:Shared) (σ:St) (H:Hp) (x:V) (v:Value) (Q:VK),Inv X u8 σ H s->RelV x v->r x H Q →
  wpAny (model X.prog X.w) X.A (f v) (EP X u8 σ Q) X.xe s
noncomputable def xn (X:Cx) (f:Value) (r:List V->Hp->VK->Prop):Prop:=
 ∀(u8:List (Addr×Obj)) (s:Shared) (σ:St) (H:Hp) (xs:List V) (us:List Value) (Q:VK),Inv X u8 σ H s->Vals xs us->r xs H Q →
  wpAny (model X.prog X.w) X.A (call f us) (EP X u8 σ Q) X.xe s
noncomputable def zcy (X:Cx) (r:V->Hp->(Bool->Hp->Prop)->Prop):Prop:=
 ∀(u8:List (Addr×Obj)) (s:Shared) (σ:St) (H:Hp) (x:V) (v:Value) (Q:Bool->Hp->Prop),Inv X u8 σ H s->RelV x v->r x H Q →
  wpAny (model X.prog X.w) X.A (truthy v) (TP X u8 σ Q) X.xe s
def tOp (r:R2) (ta tb:TE):TE:=λσ H Q=>ta σ H λx H1=>tb σ H1 λy H2=>r x y H2 Q
def tUn (r:V->Hp->VK->Prop) (ta:TE):TE:=λσ H Q=>ta σ H λx H1=>r x H1 Q
def rI (C:Int->Int->Prop) (g:Int->Int->V):R2:=λx y H Q=> ∃i j,x= .int i/\y= .int j/\C i j/\Q (g i j) H
def rI0 (g:Int->Int->V):R2:=λx y H Q=> ∃i j,x= .int i/\y= .int j/\Q (g i j) H
def rU (g:Int->V):V->Hp->VK->Prop:=λx H Q=> ∃i,x= .int i/\Q (g i) H
section
variable {X:Cx}{a b c:Expr}{ta tb tc:TE}{pos:Pos}
theorem qch (ha:PE X a ta) (hb:PE X b tb){R:V->V->Hp->Prop}(I:Inv X u8 σ H s)
 (h:ta σ H λx H1=>tb σ H1 λy H2=>R x y H2){f:Value->Value->Sem Value}
 (hf: ∀v u s2 x y H2,Inv X u8 σ H2 s2->RelV x v->RelV y u->R x y H2->wpAny (model X.prog X.w) X.A (f v u) Q X.xe s2):
 wpAny (model X.prog X.w) X.A (eval a X.env) (λv s₁=>wpAny (model X.prog X.w) X.A (eval b X.env) (λu s₂=>wpAny (model X.prog X.w) X.A (f v u) Q X.xe s₂) X.xe s₁) X.xe s:=by
 refine thn (ha u8 s σ H _ I h) λv s1 ⟨x,H1,I1,r1,q1⟩=> ?_
 refine thn (hb u8 s1 σ H1 _ I1 q1) λu s2 ⟨y,H2,I2,r2,q2⟩=> ?_
 exact hf v u s2 x y H2 I2 r1 r2 q2
theorem jce (ho:OpR X (binaryOp op) r) (ha:PE X a ta) (hb:PE X b tb):PE X (.BinOp a op b pos) (tOp r ta tb):=by
 intro u8 s σ H Q I h
 exact wpAny_BinOp (qch ha hb I h λv u s2 x y H2 I2 rx ry q=>ho u8 s2 σ H2 x y v u Q I2 rx ry q)
theorem jbU (ho:UnR X (unaryOp op) r) (ha:PE X a ta):PE X (.UnaryOp op a pos) (tUn r ta):=by
 intro u8 s σ H Q I h
 exact UnaryOp_ (thn (ha u8 s σ H _ I h) λv s1 ⟨x,H1,I1,r1,q1⟩=>ho u8 s1 σ H1 x v Q I1 r1 q1)
theorem opI {g:Int->Int->Int}
 (rule: ∀ i j t u s Q E,C i j->Q (.int (g i j) s.toks) { s with toks:=s.toks+1 }->wpAny (model X.prog X.w) X.A (f (.int i t) (.int j u)) Q E s):
 OpR X f (rI C λi j=> .int (g i j)):=by
 intro u8 s σ H x y v u Q I rx ry h
 obtain⟨i,j,rfl,rfl,hc,q⟩:=h
 obtain⟨t,rfl⟩:=rx
 obtain⟨t',rfl⟩:=ry
 exact rule i j t t' s _ _ hc ⟨.int (g i j),H,I.tok _,⟨_,rfl⟩,q⟩
theorem jcn {g:Int->Int->Int}
 (rule: ∀ i j t u s Q E,Q (.int (g i j) s.toks) { s with toks:=s.toks+1 }->wpAny (model X.prog X.w) X.A (f (.int i t) (.int j u)) Q E s):
 OpR X f (rI0 λi j=> .int (g i j)):=by
 intro u8 s σ H x y v u Q I rx ry h
 obtain⟨i,j,rfl,rfl,q⟩:=h
 obtain⟨t,rfl⟩:=rx
 obtain⟨t',rfl⟩:=ry
 exact rule i j t t' s _ _ ⟨.int (g i j),H,I.tok _,⟨_,rfl⟩,q⟩
theorem xb6 {g:Int->Int->Bool}
 (rule: ∀ i j t u s Q E,Q (.bool (g i j)) s->wpAny (model X.prog X.w) X.A (f (.int i t) (.int j u)) Q E s):
 OpR X f (rI0 λi j=> .bl (g i j)):=by
 intro u8 s σ H x y v u Q I rx ry h
 obtain⟨i,j,rfl,rfl,q⟩:=h
 obtain⟨t,rfl⟩:=rx
 obtain⟨t',rfl⟩:=ry
 exact rule i j t t' s _ _ ⟨.bl (g i j),H,I,rfl,q⟩
def qcC (i j:Int):Prop:=0<j/\j<1073741824
def xcy (i j:Int):Prop:=0<=j/\j<=1000000/\i.natAbs<2 ^ 64
def CMul (i j:Int):Prop:=(-(2 ^ 64)<i/\i<2 ^ 64)\/(-(2 ^ 64)<j/\j<2 ^ 64)
theorem CMul.ok (h:CMul i j):IntMulOk i j:=by
 rcases h with⟨h1,h2⟩ | ⟨h1,h2⟩
 ·exact .of_left (intBits_le_64 h1 h2)
 ·exact .of_right (intBits_le_64 h1 h2)
theorem xbY:OpR X (binaryOp .Add) (rI0 λi j=> .int (i+j)):=jcn λ_ _ _ _ _ _ _ q=>add_int q
theorem xbR:OpR X (binaryOp .Sub) (rI0 λi j=> .int (i-j)):=jcn λ_ _ _ _ _ _ _ q=>sub_int q
theorem xbU:OpR X (binaryOp .Mult) (rI CMul λi j=> .int (i*j)):=opI λ_ _ _ _ _ _ _ hc q=>mul_int q hc.ok
theorem qbl:OpR X (binaryOp .FloorDiv) (rI qcC λi j=> .int (i / j)):=opI λi j _ _ _ _ _ hc q=>by
 have h1:=hc.1
 have h2:=hc.2
 exact floordiv_int (by omega) (by rw [Int.fdiv_eq_ediv_of_nonneg i (by omega)];exact q) (.inl (PyProof.noPylong_small (by omega)))
theorem jbH:OpR X (binaryOp .Mod) (rI (λ_ j=>0<j) λi j=> .int (i % j)):=opI λi j _ _ _ _ _ hc q=>by
 have h1:=hc
 exact mod_int' (by omega) (by rw [Int.fmod_eq_emod_of_nonneg i (by omega)];exact q)
theorem zbV:OpR X (binaryOp .Pow) (rI xcy λi j=> .int (i ^ j.toNat)):=opI λ_ _ _ _ _ _ _ hc q=>pow_int_small hc.1 hc.2.1 hc.2.2 q
theorem unI {g:Int->Int}
 (rule: ∀ i t s Q E,Q (.int (g i) s.toks) { s with toks:=s.toks+1 }->wpAny (model X.prog X.w) X.A (f (.int i t)) Q E s):
 UnR X f (rU λi=> .int (g i)):=by
 intro u8 s σ H x v Q I rx h
 obtain⟨i,rfl,q⟩:=h
 obtain⟨t,rfl⟩:=rx
 exact rule i t s _ _ ⟨.int (g i),H,I.tok _,⟨_,rfl⟩,q⟩
theorem xaW:UnR X (unaryOp .USub) (rU λi=> .int (-i)):=unI λ_ _ _ _ _ q=>neg_int q
end
section
variable {X:Cx}{a b c:Expr}{ta tb tc:TE}{pos:Pos}
theorem JK (I:Inv X u8 σ H s) (q:Q (.bl k) H) (e:k=k'):EP X u8 σ Q (.bool k') s:=by
 subst e
 exact⟨.bl k,H,I,rfl,q⟩
theorem zck:OpR X (compareOp .Lt) (rI0 λi j=> .bl (k8 (i<j))):=xb6 λ_ _ _ _ _ _ _ q=>lt_int q
theorem jcc:OpR X (compareOp .LtE) (rI0 λi j=> .bl (k8 (i<=j))):=xb6 λ_ _ _ _ _ _ _ q=>le_int q
theorem qcj:OpR X (compareOp .Gt) (rI0 λi j=> .bl (k8 (j<i))):=xb6 λ_ _ _ _ _ _ _ q=>gt_int q
theorem zcc:OpR X (compareOp .GtE) (rI0 λi j=> .bl (k8 (j<=i))):=xb6 λ_ _ _ _ _ _ _ q=>ge_int q
theorem xan:OpR X (compareOp .Lt) (λx y H Q=> ∃i j,x= .str i/\y= .str j/\Q (.bl (k8 (i.cps.toList<j.cps.toList))) H):=by
 intro u8 s σ H x y v u Q I rx ry h
 obtain⟨i,j,rfl,rfl,q⟩:=h
 obtain⟨t,rfl⟩:=rx
 obtain⟨t',rfl⟩:=ry
 exact lt_str (JK I q rfl)
theorem Z3:OpR X (compareOp .In) (λx y H Q=> ∃i j,x= .str i/\y= .str j/\Q (.bl (!(Builtin.Str.occurrences j i 0 j.length 1).isEmpty)) H):=by
 intro u8 s σ H x y v u Q I rx ry h
 obtain⟨i,j,rfl,rfl,q⟩:=h
 obtain⟨t,rfl⟩:=rx
 obtain⟨t',rfl⟩:=ry
 exact in_str (JK I q rfl)
theorem jbA (ho:OpR X (compareOp op) r) (ha:PE X a ta) (hb:PE X b tb) (hm:behindInMarks op b=u9):PE X (.Compare a [op] [b] pos) (tOp r ta tb):=by
 intro u8 s σ H Q I h
 exact wpAny_Compare1 (qch ha hb I h λv u s2 x y H2 I2 rx ry q=>ho u8 s2 σ H2 x y v u Q I2 rx ry q) hm
def qb0 (t:TE):TT:=λσ H Q=>t σ H λx H'=> ∃k,x= .bl k/\Q k H'
theorem xbx (ho:OpR X (compareOp op) r) (ha:PE X a ta) (hb:PE X b tb) (hm:behindInMarks op b=u9):PT X (.Compare a [op] [b] pos) (qb0 (tOp r ta tb)):=by
 intro u8 s σ H Q I h
 refine wpAny_isTrue_Compare1 (thn (ha u8 s σ H _ I h) λv s1 ⟨x,H1,I1,r1,q1⟩=>thn (hb u8 s1 σ H1 _ I1 q1) λu s2 ⟨y,H2,I2,r2,q2⟩=>
  thn (ho u8 s2 σ H2 x y v u _ I2 r1 r2 q2) λc s3 ⟨z,H3,I3,r3,k,e,q3⟩=> ?_) hm
 subst e
 cases r3
 exact wpAny_truthy_bool ⟨H3,I3,q3⟩
noncomputable def qaa (r r':R2) (ta tb tc:TE):TE:=λσ H Q=>ta σ H λx H1=>tb σ H1 λy H2=>r x y H2 λz H3=> ∃k,z= .bl k ∧
 (if k=v9 then tc σ H3 λw' H4=>r' y w' H4 Q else Q (.bl u9) H3)
theorem xaE (ho:OpR X (compareOp op) r) (ho':OpR X (compareOp op') r') (ha:PE X a ta) (hb:PE X b tb) (hc:PE X c tc)
 (hm:lastMarks [op,op'] [b,c]=false:=by with_unfolding_all rfl):PE X (.Compare a [op,op'] [b,c] pos) (qaa r r' ta tb tc):=by
 intro u8 s σ H Q I h
 refine Compare_chain (thn (ha u8 s σ H _ I h) λv s1 ⟨x,H1,I1,r1,q1⟩=>chain_link (thn (hb u8 s1 σ H1 _ I1 q1) λu s2 ⟨y,H2,I2,r2,q2⟩=>
  thn (ho u8 s2 σ H2 x y v u _ I2 r1 r2 q2) λd s3 ⟨z,H3,I3,r3,k,e,q3⟩=> ?_)) hm
 subst e
 cases r3
 refine wpAny_truthy_bool ?_
 cases k with
 | false=>exact ite_ff ⟨.bl u9,H3,I3,rfl,q3⟩
 | true=>exact ite_tt (chain_last (thn (hc u8 s3 σ H3 _ I3 q3) λw' s4 ⟨z',H4,I4,r4,q4⟩=>ho' u8 s4 σ H4 y z' u w' Q I4 r2 r4 q4))
theorem xaH (ho:OpR X (compareOp op) r) (ho':OpR X (compareOp op') r') (ha:PE X a ta) (hb:PE X b tb) (hc:PE X c tc)
 (hm:lastMarks [op,op'] [b,c]=false:=by with_unfolding_all rfl):PT X (.Compare a [op,op'] [b,c] pos) (qb0 (qaa r r' ta tb tc)):=by
 intro u8 s σ H Q I h
 refine isTrue_chain (thn (ha u8 s σ H _ I h) λv s1 ⟨x,H1,I1,r1,q1⟩=>test_link (thn (hb u8 s1 σ H1 _ I1 q1) λu s2 ⟨y,H2,I2,r2,q2⟩=>
  thn (ho u8 s2 σ H2 x y v u _ I2 r1 r2 q2) λd s3 ⟨z,H3,I3,r3,k,e,q3⟩=> ?_)) hm
 subst e
 cases r3
 refine wpAny_truthy_bool ?_
 cases k with
 | false=>
  obtain⟨k',e',q'⟩:=q3
  cases e'
  exact ite_ff ⟨H3,I3,q'⟩
 | true=>
  refine ite_tt (test_last (thn (hc u8 s3 σ H3 _ I3 q3) λw' s4 ⟨z',H4,I4,r4,q4⟩=>thn (ho' u8 s4 σ H4 y z' u w' _ I4 r2 r4 q4) λd' s5 ⟨z2,H5,I5,r5,k2,e2,q5⟩=> ?_))
  subst e2
  cases r5
  exact wpAny_truthy_bool ⟨H5,I5,q5⟩
noncomputable def xbl (K:Aa5) (x:V) (H:Hp) (k:Bool):Prop:=
 match x with
 | .non=>k=u9
 | .bl b=>k=b
 | .int i=>k=(i != 0)
 | .str y=>y.length<=sizeLine/\k=((y.length:Int) != 0)
 | .byt y=>y.size<=sizeLine/\k=((y.size:Int) != 0)
 | .ref p=>(∃ xs,SqL K H p xs/\k= !xs.isEmpty)\/(∃ xs,SqT K H p xs/\k= !xs.isEmpty)\/ ∃kvs,H p=y0 (.dK kvs)/\k= !kvs.isEmpty
 | _=>False
theorem xW {κ:Type}{kvs:List (κ×V)}{vs:List (κ×Value)}(r:KV kvs vs):(!vs.isEmpty)= !kvs.isEmpty:=by
 cases r<;>rfl
theorem XD {xs:List V}{its:List Value}(r:Vals xs its):(!its.toArray.isEmpty)= !xs.isEmpty:=by
 cases r<;>simp
theorem Zy:(sizeLine:Nat)<2 ^ 63:=by rw [sizeLine_eq];decide
theorem ZT:zcy X (λx H Q=> ∃k,xbl X.K x H k/\Q k H):=by
 intro u8 s σ H x v Q I rx h
 obtain⟨k,e,q⟩:=h
 have hl:=Zy
 have hs:sizeLine=16777216:=sizeLine_eq
 cases x with
 | non=>
  cases rx
  have e':k=false:=e
  subst e'
  exact truthy_none ⟨H,I,q⟩
 | bl b=>
  cases rx
  have e':k=b:=e
  subst e'
  exact wpAny_truthy_bool ⟨H,I,q⟩
 | int i=>
  obtain⟨t,rfl⟩:=rx
  have e':k=(i != 0):=e
  subst e'
  exact PySem.P.truthy_int ⟨H,I,q⟩
 | str y=>
  obtain⟨t,rfl⟩:=rx
  obtain⟨hy,e'⟩:y.length<=sizeLine/\k=((y.length:Int) != 0):=e
  subst e'
  exact PySem.P.truthy_str (by omega) ⟨H,I.tok _,q⟩
 | byt y=>
  obtain⟨t,rfl⟩:=rx
  obtain⟨hy,e'⟩:y.size<=sizeLine/\k=((y.size:Int) != 0):=e
  subst e'
  exact PySem.W.truthy_bytes (by omega) ⟨H,I.tok _,q⟩
 | ref p=>
  cases rx
  have e':(∃ xs,SqL X.K H p xs/\k= !xs.isEmpty)\/(∃ xs,SqT X.K H p xs/\k= !xs.isEmpty)\/ ∃kvs,H p=y0 (.dK kvs)/\k= !kvs.isEmpty:=e
  rcases e' with⟨xs,hx,e'⟩ | ⟨xs,hx,e'⟩ | ⟨kvs,hx,e'⟩
  ·subst e'
   obtain⟨its,r,pl,hz⟩:=I.list hx
   have u7:=r.length
   exact wpAny_truthy_list pl.isList (by simp only [Ab];omega) ⟨H,I.tok _,by rw [XD r];exact q⟩
  ·subst e'
   obtain⟨its,r,pl,hz⟩:=I.tuple hx
   have u7:=r.length
   exact truthy_tuple pl (by simp only [Ab];omega) ⟨H,I.tok _,by rw [XD r];exact q⟩
  ·subst e'
   obtain⟨hz,hS,vs,r,m⟩:kvs.length<=sizeLine/\(p==sysModules)=u9/\ ∃vs,KV kvs vs/\s.heap.DictOf (ZO X.prog X.w) p vs:=I.hok p _ hx
   have u7:kvs.length=vs.length:=Paired.length r
   exact wpAny_truthy_dict hS m (by omega) ⟨H,I.tok _,by rw [xW r];exact q⟩
 | _=>exact(show False from e).elim
theorem qaz (ha:PE X a ta) (he: ∀whole,isTrue a X.env whole=(do let v ←whole;standAt a.pos;holding [v] (truthy v))):
 PT X a (λσ H Q=>ta σ H λx H'=> ∃k,xbl X.K x H' k/\Q k H'):=by
 intro u8 s σ H Q I h
 exact isTrue_plain (thn (ha u8 s σ H _ I h) λv s1 ⟨x,H1,I1,r1,q1⟩=>ZT u8 s1 σ H1 x v Q I1 r1 q1) (he _)
theorem xY:OpR X (binaryOp .Add) (λx y H Q=> ∃i j,x= .str i/\y= .str j/\i.length+j.length<=sizeLine/\Q (.str (i++j)) H):=by
 intro u8 s σ H x y v u Q I rx ry h
 obtain⟨i,j,rfl,rfl,hz,q⟩:=h
 obtain⟨t,rfl⟩:=rx
 obtain⟨t',rfl⟩:=ry
 exact add_str (λt' tk=>⟨.str (i++j),H,I.tok _,⟨_,rfl⟩,q⟩) hz
theorem WC (r:Vals [x] us): ∃u,us= [u]/\RelV x u:=by
 cases r with
 | cons r1 r2=>cases r2;exact⟨_,rfl,r1⟩
theorem zaF (r:Vals [x,y] us): ∃u w',us= [u,w']/\RelV x u/\RelV y w':=by
 cases r with
 | cons r1 r2=>
  cases r2 with
  | cons r3 r4=>cases r4;exact⟨_,_,rfl,r1,r3⟩
theorem qaj (hc:X.calm=v9):xn X (.builtin "max") (fun xs H Q=> ∃i j,xs= [.int i,.int j]/\Q (.int (if j>i then j else i)) H):=by
 intro u8 s σ H xs us Q I r h
 obtain⟨i,j,rfl,q⟩:=h
 obtain⟨u,w',rfl,⟨t,rfl⟩,⟨t',rfl⟩⟩:=zaF r
 refine max_two_ints (I.ok.hd hc) λh' tk k=>⟨_,H,I.kept k,?_,q⟩
 by_cases hj:j>i
 ·rw [if_pos hj,if_pos hj];exact⟨_,rfl⟩
 ·rw [if_neg hj,if_neg hj];exact⟨_,rfl⟩
theorem xaf (hc:X.calm=v9):xn X (.builtin "min") (fun xs H Q=> ∃i j,xs= [.int i,.int j]/\Q (.int (if j<i then j else i)) H):=by
 intro u8 s σ H xs us Q I r h
 obtain⟨i,j,rfl,q⟩:=h
 obtain⟨u,w',rfl,⟨t,rfl⟩,⟨t',rfl⟩⟩:=zaF r
 refine min_two_ints (I.ok.hd hc) λh' tk k=>⟨_,H,I.kept k,?_,q⟩
 by_cases hj:j<i
 ·rw [if_pos hj,if_pos hj];exact⟨_,rfl⟩
 ·rw [if_neg hj,if_neg hj];exact⟨_,rfl⟩
theorem jN:xn X (.type "int") (fun xs H Q=>(∃ i,xs= [.int i]/\Q (.int i) H)\/ ∃k,xs= [.bl k]/\Q (.int (if k then 1 else 0)) H):=by
 intro u8 s σ H xs us Q I r h
 rcases h with⟨i,rfl,q⟩ | ⟨k,rfl,q⟩
 ·obtain⟨u,rfl,t,rfl⟩:=WC r
  exact call_int_int ⟨.int i,H,I,⟨_,rfl⟩,q⟩
 ·obtain⟨u,rfl,r1⟩:=WC r
  cases r1
  exact call_int_bool ⟨.int (if k then 1 else 0),H,I.tok _,⟨_,rfl⟩,q⟩
end
structure ObjM (h:Heap) (x dx C:Addr) (mA:Str->Option Value):Prop where
 obj:h.get? x=y0 (Ah2 C dx)
 ns:h.Ns1 dx mA
 ne:dx≠x
theorem qab {h:Heap}(n:h.Ns1 dx mA): ∃od,h.get? dx=y0 od/\ ∀name,Ak4 name od=y0 (mA name):=by
 obtain⟨o,es,ep,ho,hd,hk,_,hm⟩:=n
 refine⟨o,ho,λname=> ?_⟩
 have e:=hm name
 unfold nsFind findBy at e
 rw [← Array.find?_toList]at e
 unfold Ak4
 rw [hd]
 dsimp only
 split
 ·rename_i y q
  rw [q]at e
  exact congrArg y0 e
 ·rename_i q
  rw [q]at e
  have a:es.toList.any (·.refKey)=false:=by
   rw [List.any_eq_false]
   intro y hy
   obtain⟨z,t,hkey⟩:=hk y (Array.mem_toList_iff.mp hy)
   simp [DictEntry.refKey,hkey]
  have a': ¬es.toList.any (·.refKey)=true:=by rw [a];exact Ab2
  rw [if_neg a']
  exact congrArg y0 e
theorem ObjM.look (I:ObjM h x dx C mA): ∃od,PySem.W.InstAt h x (Ah2 C dx) C (y0 od)/\ ∀name,Ak4 name od=y0 (mA name):=
 let ⟨od,ho,hl⟩:=qab I.ns
 ⟨od,⟨I.obj,rfl,rfl,ho⟩,hl⟩
section
variable {prog:Program}{w:World}{A:Around}{E:Value->Shared->Prop}{s:Shared}{K:Aa5}{x dx C f:Addr}{mA:Str->Option Value}{name:Str}{v:Value}
theorem qbB (X:K.In s.heap) (I:ObjM s.heap x dx C mA) (hg:Ah9 K C name=v9) (hh:Al2 K C=v9)
 (ha:Ah K (.ref C) name=y0 k9) (hv:mA name=y0 v) (hv':PySem.W.handedIn v=v9) (h:Q v { s with toks:=s.toks+1 }):
 wpAny (model prog w) A (getAttr (.ref x) name expr) Q E s:=by
 obtain⟨od,J,hl⟩:=I.look
 exact PySem.W.get_value X J (Ak6 hg).1 (PySem.W.findObj_own hh ha rfl (by rw [hl,hv])) hv' h
theorem jaJ (X:K.In s.heap) (I:ObjM s.heap x dx C mA) (hg:Ah9 K C name=v9)
 (hf:Ah K (.ref C) name=y0 (y0 (.ref f))) (ht:Al4 K (.ref f)=v9) (hv:mA name=k9) (h:Q (.ref f,[.ref x]) s):
 wpAny (model prog w) A (getMethod (.ref x) name pl) Q E s:=by
 obtain⟨od,J,hl⟩:=I.look
 exact PySem.W.method_fn X J (Ak6 hg).1 (Ak6 hg).2 hf (beq_iff_eq.mp ht) (by show(Ak4 name od).map (·.isSome)=y0 u9;rw [hl,hv];rfl) h
theorem qbb (X:K.In s.heap) (I:ObjM s.heap x dx C mA)
 (hs:PySem.W.findIn K (.ref C) "__setattr__" =some (some (.builtin "object.__setattr__"))) (hp:PySem.W.plainOver K C=true) (ht:PySem.W.takerIn K C name=some none) (hh:PySem.W.hasDictIn K C=true)
 (hw:PySem.Within mA ns) (hsz:ns.length<=sizeLine)
 (h: ∀h',ObjM h' x dx C (λy=>if y=name then y0 v else mA y)->Heap.SameBut dx s.heap h'->Q () { s with heap:=h',toks:=s.toks+2 }):
 wpAny (model prog w) A (setAttr (.ref x) name v) Q E s:=by
 obtain⟨od,J,hl⟩:=I.look
 refine PySem.W.set_plain X J hs (PySem.W.osa_open X J hp ht λb=> ?_)
 obtain⟨cd,hc,hd'⟩:=PySem.W.any_some hh
 have hx:=I.obj
 refine wpAny_bind (wpAny_pure (wpAny_bind (wpAny_bind (wpAny_loadPart hx (wpAny_bind (PySem.W.Looks.here (PySem.W.looks_clsIn X hc) ?_))))))
 rw [hd']
 refine wpAny_pure (wpAny_bind (wpAny_pure (wpAny_bind ?_)))
 refine wpAny_nsSet1 I.ns λh' hn2 hs2=> ?_
 obtain⟨oD,esD,epD,hoD,hdD,hcD⟩:=hn2.count (PySem.Within.cons name v hw)
 refine wpAny_bind (wpAny_lookBehind hoD (by rw [hdD];exact pastItsLine_dict (Ac7 hcD (by rw [Aa4];omega))) ?_)
 exact wpAny_pure (h _ ⟨(hs2.2 _ (Ne.symm I.ne)).trans I.obj,hn2,I.ne⟩ hs2)
theorem jaF (X:K.In s.heap) (hm:Al8 K C=v9)
 (hi:PySem.W.findIn K (.ref C) "__init__" =some (some (.ref f))) (hf:PySem.W.typeIn K (.ref f)=some (.type "function"))
 (h:codeAny (model prog w) (A.under (.builtin "type.__call__" ⟨.ref C::vs,kw⟩)) (.call (.ref f) ⟨.ref (s.heap.objs.size+1)::vs,kw⟩) (PySem.W.InitBack (s.heap.objs.size+1) R)
   { s with heap:=(s.heap.push Af9).push (Ah2 C s.heap.objs.size) }):
 codeAny (model prog w) A (.call (.ref C) ⟨vs,kw⟩) R s:=by
 obtain⟨hh,g,d,t,os⟩:=s
 exact PySem.W.make_core (PySem.W.makes_of X hm) (PySem.W.looks_findIn X hi) (λself=>PySem.W.bind_fn X self hf) (.inl rfl) h
end
noncomputable def putF (f:Str) (v:V):List (Str×V)->List (Str×V)
 | []=> [(f,v)]
 | (g,x)::r=>if g=f then(g,v)::r else(g,x)::putF f v r
theorem xA (f g) (v): ∀fs:List (Str×V),(putF f v fs).lookup g=if g=f then y0 v else fs.lookup g
 | []=>by
  show Ah8 g [(f,v)]=_
  by_cases h:g=f
  ·have hb:=beq_iff_eq.mpr h
   simp only [Ah8,hb,if_pos h]
  ·have hb:=beq_eq_false_iff_ne.mpr h
   simp only [Ah8,hb,if_neg h]
 | (k,x)::r=>by
  have ih:=xA f g v r
  rw [show putF f v ((k,x)::r)=(if k=f then(k,v)::r else(k,x)::putF f v r)from rfl]
  by_cases hk:k=f
  ·rw [if_pos hk]
   by_cases h:g=k
   ·have hb:=beq_iff_eq.mpr h
    simp only [Ah8,hb,if_pos (h.trans hk)]
   ·have hb:=beq_eq_false_iff_ne.mpr h
    simp only [Ah8,hb,if_neg (λe:g=f=>h (e.trans hk.symm))]
  ·rw [if_neg hk]
   by_cases h:g=k
   ·have hb:=beq_iff_eq.mpr h
    simp only [Ah8,hb,if_neg (λe:g=f=>hk (h.symm.trans e))]
   ·have hb:=beq_eq_false_iff_ne.mpr h
    simp only [Ah8,hb]
    exact ih
theorem wz (f) (v): ∀fs:List (Str×V),f∈(putF f v fs).map (·.1)/\ ∀g,g∈fs.map (·.1)->g∈(putF f v fs).map (·.1)
 | []=>⟨by simp [putF],λg h=>by simp at h⟩
 | (k,x)::r=>by
  obtain⟨i1,i2⟩:=wz f v r
  rw [show putF f v ((k,x)::r)=(if k=f then(k,v)::r else(k,x)::putF f v r)from rfl]
  by_cases hk:k=f
  ·rw [if_pos hk]
   subst hk
   exact⟨by simp,λg h=>by simpa using h⟩
  ·rw [if_neg hk]
   refine⟨?_,λg h=> ?_⟩
   ·rw [Ac]
    exact Aa7 _ i1
   ·rw [Ac]at h ⊢
    rcases Aa.mp h with e | e
    ·exact Aa.mpr (.inl e)
    ·exact Aa7 _ (i2 g e)
theorem Qz (f) (v): ∀fs:List (Str×V),(putF f v fs).length<=fs.length+1
 | []=>by simp [putF]
 | (k,x)::r=>by
  have ih:=Qz f v r
  rw [show putF f v ((k,x)::r)=(if k=f then(k,v)::r else(k,x)::putF f v r)from rfl]
  by_cases hk:k=f
  ·rw [if_pos hk,Aa4,Aa4];omega
  ·rw [if_neg hk,Aa4,Aa4];omega
theorem RelO.some_of (r:RelO (y0 v) o): ∃u,o=y0 u/\RelV v u:=by
 cases o with
 | none=>exact(r).elim
 | some u=>exact⟨u,rfl,r⟩
theorem RelO.none_of (r:RelO k9 o):o=none:=by
 cases o with
 | none=>rfl
 | some u=>exact(r).elim
theorem zat (r:RelV v u):PySem.W.handedIn u=true:=by
 cases v with
 | non=>cases (r);rfl
 | bl b=>cases (r);rfl
 | int i=>obtain⟨t,e⟩:=(r);cases e;rfl
 | str x=>obtain⟨t,e⟩:=(r);cases e;rfl
 | byt b=>obtain⟨t,e⟩:=(r);cases e;rfl
 | flt b=>obtain⟨t,e⟩:=(r);cases e;rfl
 | ref a=>cases (r);rfl
 | ty n=>cases (r);rfl
section
variable {P:Program}{w:World}{H H':Hp}{h h':Heap}{a C dx:Addr}{fs fs':List (Str×V)}
theorem QF (hok:HOk P w H h) (e:H a=y0 (.ins C dx fs)): ∃mA,ObjM h a dx C mA/\(∀ f,RelO (fs.lookup f) (mA f))/\PySem.Within mA (fs.map (·.1))/\fs.length<=1000/\H dx=y0 (.own a):=by
 obtain⟨d,z,ne,ob,mA,n,r,q⟩:=(show ObjOk P w H h a (.ins C dx fs)from hok a _ e)
 exact⟨mA,⟨ob,n,ne⟩,r,q,z,d⟩
end
structure Cls (K:Aa5) (C:Addr):Prop where
 pg:Ah9 K C Str.empty=v9
 hd:Al2 K C=v9
 po:PySem.W.plainOver K C=v9
 sa:PySem.W.findIn K (.ref C) "__setattr__" =some (some (.builtin "object.__setattr__"))
theorem Cls.get {K:Aa5}(c:Cls K C) (f):Ah9 K C f=true:=c.pg
def NoAttr (K:Aa5) (C:Addr) (f:Str):Prop:=Ah K (.ref C) f=y0 k9
theorem NoAttr.taker {K:Aa5}(n:NoAttr K C f):PySem.W.takerIn K C f=y0 none:=by
 unfold PySem.W.takerIn
 rw [show Ah K (.ref C) f=y0 k9 from n]
 rfl
structure Con (K:Aa5) (C:Addr) (f:Str) (v:V) (u:Value):Prop where
 at_:Ah K (.ref C) f=y0 (y0 u)
 rel:RelV v u
 get:PySem.W.specialIn K u "__get__" =some none
 cp:PySem.W.copiedNames.contains f=u9
structure xbE (K:Aa5) (C:Addr) (m:Str) (f:Addr):Prop where
 at_:Ah K (.ref C) m=y0 (y0 (.ref f))
 fn:Al4 K (.ref f)=v9
 kp:Ad8 K (.ref f)=v9
section
variable {X:Cx}{u8:List (Addr×Obj)}{σ:St}{H:Hp}{s:Shared}{a C dx:Addr}{fs:List (Str×V)}{f:Str}{v:V}{A:Around}{E:Value->Shared->Prop}
theorem wW (I:Inv X u8 σ H s) (e:H a=y0 (.ins C dx fs)) (c:Cls X.K C) (n:NoAttr X.K C f) (l:fs.lookup f=y0 v)
 (h: ∀u s',Inv X u8 σ H s'->RelV v u->Q u s'):wpAny (model X.prog X.w) A (getAttr (.ref a) f b) Q E s:=by
 obtain⟨mA,O,r,_,_,_⟩:=QF I.hok e
 obtain⟨u,hu,ru⟩:=RelO.some_of (by rw [← l];exact r f)
 exact qbB I.kIn O (c.get f) c.hd n hu (zat ru) (h u _ (I.tok _) ru)
theorem xD (I:Inv X u8 σ H s) (e:H a=y0 (.ins C dx fs)) (c:Cls X.K C) (k:xbE X.K C m g) (l:fs.lookup m=k9)
 (h:Q (.ref g,[.ref a]) s):wpAny (model X.prog X.w) A (getMethod (.ref a) m pl) Q E s:=by
 obtain⟨mA,O,r,_,_,_⟩:=QF I.hok e
 have hn:=RelO.none_of (by rw [← l];exact r m)
 exact jaJ I.kIn O (c.get m) k.at_ k.fn hn h
theorem xZ (I:Inv X u8 σ H s) (e:H a=y0 (.ins C dx fs)) (c:Cls X.K C) (n:NoAttr X.K C f) (hl:fs.length<1000) (ry:RelV y u)
 (h: ∀s',Inv X u8 σ (upd H a (.ins C dx (putF f y fs))) s'->Q () s'):wpAny (model X.prog X.w) A (setAttr (.ref a) f u) Q E s:=by
 obtain⟨mA,O,r,wi,_,ho⟩:=QF I.hok e
 have hz:(fs.map (·.1)).length<=sizeLine:=by rw [Ac4,sizeLine_eq];omega
 refine qbb I.kIn O c.sa c.po n.taker c.hd wi hz λh' O' sb=>h _ ?_
 have hd: ∃o,h'.get? dx=y0 o:=let ⟨o,_,_,e',_⟩:=O'.ns; ⟨o,e'⟩
 refine I.write (by rw [e];exact True.intro) (.inr ho) (λb q hb z=>(sb.2 b hb).trans z) hd ?_
 refine⟨by rw [ja O.ne];exact ho,?_,O.ne,O'.obj,_,O'.ns,λg=> ?_,λg hg=> ?_⟩
 ·have:=Qz f y fs;omega
 ·show RelO ((putF f y fs).lookup g) (if g=f then y0 u else mA g)
  rw [xA]
  by_cases q:g=f
  ·rw [if_pos q,if_pos q];exact ry
  ·rw [if_neg q,if_neg q];exact r g
 ·by_cases q:g=f
  ·rw [q];exact(wz f y fs).1
  ·refine(wz f y fs).2 g (wi g λz=>hg ?_)
   show(if g=f then y0 u else mA g)=k9
   rw [if_neg q];exact z
theorem Inv.made (I:Inv X u8 σ H s):Inv X u8 σ (upd (upd H s.heap.objs.size (.own (s.heap.objs.size+1))) (s.heap.objs.size+1) (.ins C s.heap.objs.size []))
 { s with heap:=(s.heap.push Af9).push (Ah2 C s.heap.objs.size) }:=by
 have e1:(s.heap.push Af9).get? s.heap.objs.size=y0 Af9:=Ac6 s.heap rfl
 have e2:=by
  have:=Ac6 (s.heap.push Af9) (o:=Ah2 C s.heap.objs.size) rfl
  rwa [Ak8]at this
 have e3:(s.heap.push Af9).Ns s.heap.objs.size (λ_=>k9):=⟨Af9, #[],_,e1,rfl,(λe he=>absurd he (by simp)),λ_=>rfl⟩
 have I1:=I.laid (o:= .own (s.heap.objs.size+1)) (t':=s.toks) (λb u q=>Ab0 _ q) (Aa6 _) ⟨_,e1⟩
 refine I1.laid (λb u q=>Ab0 _ q) (Am (Ak8 _ _)) ?_
 have ne:s.heap.objs.size≠s.heap.objs.size+1:=Ad (Af1 _)
 refine⟨by rw [ja ne,jd],Ae7 _,ne,e2,λ_=>k9,(Heap.Ns1.of_empty e3).at λo q=>Ab0 _ q,λ_=>True.intro,λy hy=>absurd rfl hy⟩
theorem zbA (hb:attributeBase e f env (eval e env)=eval e env)
 (h:wpAny (model prog w) A (eval e env) (λo s₁=>wpAny (model prog w) A (getAttr o f v9) Q E s₁) E s):wpAny (model prog w) A (eval (.Attribute e f pos) env) Q E s:=
 Attribute_any_ h (by rw [arm_eval_Attribute,hb])
end
noncomputable def jcv (K:Aa5) (ta:TE) (f:Str):TE:=λσ H Q=>ta σ H λx H1=> ∃a C dx fs v,x= .ref a/\H1 a=y0 (.ins C dx fs)/\Cls K C/\NoAttr K C f/\fs.lookup f=y0 v/\Q v H1
noncomputable def xcE (K:Aa5) (ta tv:TE) (f:Str):TS:=λD σ H=>tv σ H λy H1=>ta σ H1 λx H2=> ∃a C dx fs,x= .ref a/\H2 a=y0 (.ins C dx fs)/\Cls K C/\NoAttr K C f/\fs.length<1000 ∧
 D.nx σ (upd H2 a (.ins C dx (putF f y fs)))
section
variable {X:Cx}{o e value:Expr}{f:Str}{pos pos' tpos:Pos}{ta tv:TE}
theorem jbK (he:PE X e ta) (hb:attributeBase e f X.env (eval e X.env)=eval e X.env):PE X (.Attribute e f pos) (jcv X.K ta f):=by
 intro u8 s σ H Q I h
 refine zbA hb (thn (he u8 s σ H _ I h) λu s1 ⟨x,H1,I1,rx,a,C,dx,fs,v,ex,ea,c,n,l,q⟩=> ?_)
 subst ex
 obtain rfl:u=Value.ref a:=rx
 exact wW I1 ea c n l λu' s2 I2 ru=>⟨v,H1,I2,ru,q⟩
theorem jb0 (ha:PE X o ta) (hv:PE X value tv) (hs:swapsWith value (y0 (.Attribute o f pos')) pos.line X.env=pure u9):PS X (.Assign [.Attribute o f pos'] value pos) (xcE X.K ta tv f):=by
 intro u8 s σ H D I h
 refine plainObj_wpAny_Assign_Attribute (thn (hv u8 s σ H _ I h) λu s1 ⟨y,H1,I1,ry,q⟩=>thn (ha u8 s1 σ H1 _ I1 q) λov s2 ⟨x,H2,I2,rx,a,C,dx,fs,ex,ea,c,n,l,q2⟩=> ?_) hs
 subst ex
 obtain rfl:ov=Value.ref a:=rx
 exact xZ I2 ea c n l ry λs3 I3=>⟨σ,_,I3,q2⟩
end
section
variable {X:Cx}{u8:List (Addr×Obj)}{σ:St}{H:Hp}{s:Shared}{A:Around}{E:Value->Shared->Prop}{Q:Value->Shared->Prop}{c:Value}{b:Bool}
inductive ZZ (K:Aa5) (H:Hp):V->Value->Prop where
 | non:ZZ K H .non (.type "NoneType")
 | bl (x:Bool):ZZ K H (.bl x) (.type "bool")
 | int (i:Int):ZZ K H (.int i) (.type "int")
 | str (x:Str):ZZ K H (.str x) (.type "str")
 | flt (x:UInt64):ZZ K H (.flt x) (.type "float")
 | lst {a:Addr}{xs:List V}(e:H a=y0 (.lst xs)):ZZ K H (.ref a) (.type "list")
 | frz {a:Addr}{o:Obj}{xs:List V}(e:H a=y0 (.frz o (.lst xs))):ZZ K H (.ref a) (.type "list")
 | tup {a:Addr}{xs:List V}(e:H a=y0 (.tup xs)):ZZ K H (.ref a) (.type "tuple")
 | dK {a:Addr}{kvs:List (Key×V)}(e:H a=y0 (.dK kvs)):ZZ K H (.ref a) (.type "dict")
 | dT {a:Addr}{kvs:List (List Key×V)}(e:H a=y0 (.dT kvs)):ZZ K H (.ref a) (.type "dict")
 | ins {a C dx:Addr}{fs:List (Str×V)}(e:H a=some (.ins C dx fs)) (cl:Cls K C) (ha:PySem.W.findIn K (.ref C) "__class__" =some (some (.builtin "object.__class__")))
  (hn:PySem.W.specialIn K (.builtin "object.__class__") "__get__" =some (some (.builtin "getset_descriptor.__get__"))) (htk:PySem.W.takesIn K (.builtin "object.__class__")=some true)
  (hm:PySem.W.mroIn K C (.type "object")=some true):ZZ K H (.ref a) (.ref C)
theorem Xi (I:Inv X u8 σ H s) (rx:RelV x u) (ty:ZZ X.K H x t) (e:PySem.W.kitOne X.K t c=y0 b) (h: ∀tk,Q (.bool b) { s with toks:=tk }):
 wpAny (model X.prog X.w) A (call (.builtin "isinstance") [u,c]) Q E s:=by
 cases ty with
 | non=>cases (show u=Value.none from rx);exact Ae0 PySem.W.kitx_none I.kIn True.intro e (λz=>nomatch z) h
 | bl y=>cases (show u=Value.bool y from rx);exact Ae0 PySem.W.kitx_bool I.kIn True.intro e (λz=>nomatch z) h
 | int i=>obtain⟨t,q⟩:=(show ∃t,u=Value.int i t from rx);cases q;exact Ae0 PySem.W.kitx_int I.kIn True.intro e (λz=>nomatch z) h
 | str y=>obtain⟨t,q⟩:=(show ∃t,u=Value.str y t from rx);cases q;exact Ae0 PySem.W.kitx_str I.kIn True.intro e (λz=>nomatch z) h
 | flt y=>obtain⟨t,q⟩:=(show ∃t,u=Value.float y t from rx);cases q;exact Ae0 PySem.W.kitx_float I.kIn True.intro e (λz=>nomatch z) h
 | @lst a xs ea=>
  cases (show u=Value.ref a from rx)
  obtain⟨_,_,n,_,h1⟩:=(show ObjOk X.prog X.w H s.heap a (.lst xs)from I.hok a _ ea)
  exact Ae0 Al1 I.kIn ⟨_,h1,rfl⟩ e (λz=>nomatch z) h
 | @frz a ob xs ea=>
  cases (show u=Value.ref a from rx)
  obtain⟨_,_,_,n,_,h1⟩:=(show ObjOk X.prog X.w H s.heap a (.frz ob (.lst xs))from I.hok a _ ea)
  exact Ae0 Al1 I.kIn ⟨_,h1,rfl⟩ e (λz=>nomatch z) h
 | @tup a xs ea=>
  cases (show u=Value.ref a from rx)
  obtain⟨_,_,_,p⟩:=(show ObjOk X.prog X.w H s.heap a (.tup xs)from I.hok a _ ea)
  obtain⟨o,h1,h2,_⟩:=p
  exact Ae0 PySem.W.kitx_tuple I.kIn ⟨o,h1,h2⟩ e (λz=>nomatch z) h
 | @dK a kvs ea=>
  cases (show u=Value.ref a from rx)
  obtain⟨_,_,vs,_,p⟩:=(show ObjOk X.prog X.w H s.heap a (.dK kvs)from I.hok a _ ea)
  obtain⟨o,es,ep,h1,h2,_⟩:=p
  exact Ae0 PySem.W.kitx_dict I.kIn ⟨o,h1,h2.1⟩ e (λz=>nomatch z) h
 | @dT a kvs ea=>
  cases (show u=Value.ref a from rx)
  obtain⟨_,_,xs,_,o,es,ep,h1,h2,_⟩:=(show ObjOk X.prog X.w H s.heap a (.dT kvs)from I.hok a _ ea)
  exact Ae0 PySem.W.kitx_dict I.kIn ⟨o,h1,h2.1⟩ e (λz=>nomatch z) h
 | @ins a C dx fs ea cl ha hn htk hm=>
  cases (show u=Value.ref a from rx)
  obtain⟨mA,O,_⟩:=QF I.hok ea
  obtain⟨od,J,_⟩:=O.look
  exact Ae0 (PySem.W.kitx_own (cl.get _) cl.hd ha hn htk hm) I.kIn J e (λz=>nomatch z) h
end
structure Room (k:Nat) (A:Around):Prop where
 hd:A.handled=k9
 dp:A.depth+3*k+5<recursionLimit
 un:A.units+16*k+200<cLine
theorem Room.mono (r:Room k A) (h:j<=k):Room j A:=⟨r.hd,by have:=r.dp;omega,by have:=r.un;omega⟩
theorem Room.deeper (r:Room (k+1) A) (env):Room k (A.deeper env):=
 ⟨r.hd,by have:=r.dp;show A.depth+1+3*k+5<_;omega,by have:=r.un;show A.units+3+16*k+200<_;omega⟩
theorem XY {A:Around}:(A.under (.builtin "type.__call__" ⟨.ref C::us,kw⟩)).depth=A.depth+1:=by
 first | rfl | simp [guardIds]
theorem jW {A:Around}:(A.under (.builtin "type.__call__" ⟨.ref C::us,kw⟩)).units=A.units+1:=by
 first | rfl | simp [Code.isFrame]
theorem Room.make (r:Room (k+1) A) (C) (us) (kw):Room k (A.under (.builtin "type.__call__" ⟨.ref C::us,kw⟩)):=
 ⟨r.hd,by have:=r.dp;rw [XY];omega,by have:=r.un;rw [jW];omega⟩
theorem Room.depth (r:Room k A):A.depth<recursionLimit:=by have:=r.dp;omega
def zb9:TA:=λ_ H Q=>Q [] H
def qce (ta:TE) (tr:TA):TA:=λσ H Q=>ta σ H λx H1=>tr σ H1 λxs H2=>Q (x::xs) H2
section
variable {X:Cx}{e:Expr}{es:List Expr}{te:TE}{t:TA}{pos:Pos}
theorem Wk:PA X [] zb9:=λ_ _ _ _ H Q I h=>Calls.spliced_nil ⟨[],H,I,.nil,h⟩
theorem Jd (ha:PE X e te) (hr:PA X es t) (hs:starEach (e::es) X.env=(u9,eval e X.env)::starEach es X.env:=by rfl):PA X (e::es) (qce te t):=by
 intro pos u8 s σ H Q I h
 rw [hs]
 refine Calls.spliced_cons (thn (ha u8 s σ H _ I h) λu s1 ⟨x,H1,I1,r1,q1⟩=> ?_)
 exact thn (hr pos u8 s1 σ H1 _ I1 q1) λus s2 ⟨xs,H2,I2,r2,q2⟩=>⟨x::xs,H2,I2,.cons r1 r2,q2⟩
def qcE (t:TA):TE:=λσ H Q=>t σ H λxs H1=>xs.length<=sizeLine/\ ∀p,H1 p=k9->Q (.ref p) (upd H1 p (.tup xs))
def zcv (t:TA):TE:=λσ H Q=>t σ H λxs H1=>xs.length<=sizeLine/\ ∀p,H1 p=k9->Q (.ref p) (upd H1 p (.lst xs))
theorem xb0 {x1}(h:PA X es t):PE X (.Tuple es x1 pos) (qcE t):=by
 intro u8 s σ H Q I hq
 refine wpAny_Tuple_spliced (thn (h pos u8 s σ H _ I hq) λus s1 ⟨xs,H1,I1,r,z,q⟩=>⟨by rw [← r.length];exact z,?_⟩)
 have hf:=I1.hok.fresh (Aa6 _)
 refine⟨.ref s1.heap.objs.size,upd H1 s1.heap.objs.size (.tup xs),I1.laid (λb u e=>Ab0 _ e) (Aa6 _) ?_,rfl,q _ hf⟩
 exact⟨z,us,r,⟨_,Ac6 _ rfl,rfl,rfl,_,rfl⟩⟩
theorem qbI (h:PA X es t):PE X (.List es pos) (zcv t):=by
 intro u8 s σ H Q I hq
 refine wpAny_List_spliced (thn (h pos u8 s σ H _ I hq) λus s1 ⟨xs,H1,I1,r,z,q⟩=>⟨by rw [← r.length];exact z,?_⟩)
 have hf:=I1.hok.fresh (Aa6 _)
 refine⟨.ref s1.heap.objs.size,upd H1 s1.heap.objs.size (.lst xs),I1.laid (λb u e=>Ab0 _ e) (Aa6 _) ?_,rfl,q _ hf⟩
 exact⟨z,us,0,r,Ac6 _ rfl⟩
end
abbrev Sp:=List V->Hp->VK->XK->Prop
abbrev CXT:=List Env->Hp->Shared->XK->Value->Shared->Prop
structure Env0 (P:Program) (w:World) (K:Aa5) (mg:Str->Option Value) (base:Heap) (A:Around) (outer:List Env) (s:Shared) (H:Hp):Prop where
 frames:A.frames=y0 outer
 mod:Mod K mg base
 bs: ∀b o,base.get? b=y0 o->s.heap.get? b=y0 o/\H b=k9
 bsz:base.objs.size<=s.heap.objs.size
 funs:s.heap.FunFrames base outer
 frf: ∀b∈frs outer,H b=k9
 hok:HOk P w H s.heap
 bare:AllBare s.gens
noncomputable def CE (outer:List Env) (P:Program) (w:World) (H:Hp) (s:Shared) (Q:VK) (u:Value) (s':Shared):Prop:=
 ∃v H',s'.os=s.os/\AllBare s'.gens/\Un (frs outer) [] H H' s.heap s'.heap/\HOk P w H' s'.heap/\RelV v u/\Q v H'
noncomputable def CR (CX:CXT) (outer:List Env) (P:Program) (w:World) (H:Hp) (s:Shared) (Q:VK) (E:XK) (r:Result) (s':Shared):Prop:=
 match r with
 | .ok (.ret u)=>CE outer P w H s Q u s'
 | .ok _=>False
 | .error e=>CX outer H s E e s'
structure FnOk (P:Program) (w:World) (K:Aa5) (mg:Str->Option Value) (base:Heap) (CX:CXT) (k:Nat) (f:Addr) (fd:FuncData) (ps:List Str) (sp:Sp):Prop where
 len: ∀vs H Q E,sp vs H Q E->vs.length=ps.length
 run: ∀(A:Around) (outer:List Env) (s:Shared) (H:Hp) (args:Args) (us:List Value) (vs:List V) (Q:VK) (E:XK),Room k A->Env0 P w K mg base A outer s H->BindsTo s fd args (ps.zip us)->Vals vs us->sp vs H Q E →
  codeAny (model P w) A (.call (.ref f) args) (CR CX outer P w H s Q E) s
theorem Env0.make {K:Aa5}(e:Env0 P w K mg base A outer s H) (C) (us) (kw):
 Env0 P w K mg base (A.under (.builtin "type.__call__" ⟨.ref C::us,kw⟩)) outer s H:=⟨by first | exact e.frames | (simpa [pushEnvs]using e.frames),e.mod,e.bs,e.bsz,e.funs,e.frf,e.hok,e.bare⟩
section
variable {X:Cx}{u8:List (Addr×Obj)}{σ:St}{H:Hp}{s s':Shared}
theorem Inv.env0 (I:Inv X u8 σ H s):Env0 X.prog X.w X.K X.mg X.base X.A X.stack s H:=
 ⟨I.ok.frames,I.ok.mod,I.bs,Ac7 I.ok.bsz I.sz,I.stack,I.stkFree,I.hok,I.bare⟩
theorem Inv.after (I:Inv X u8 σ H s) (h:CE X.stack X.prog X.w H s Q u s'):EP X u8 σ Q u s':=by
 obtain⟨v,H',os,bare,un,hok,r,q⟩:=h
 obtain⟨hh,g,d,t,os'⟩:=s'
 obtain rfl:os'=s.os:=os
 exact⟨v,H',I.call un hok bare (λb z=>absurd z (by simp)),r,q⟩
end
def qbL (sp:Sp) (dvs:List V) (E:XK) (t:TA):TE:=λσ H Q=>t σ H λvs H1=>sp (vs++dvs) H1 Q E
noncomputable def xbX (C:Addr) (m:Str) (sp:Sp) (dvs:List V) (E:XK) (ta:TE) (t:TA):TE:=λσ H Q=>ta σ H λx H1=> ∃a dx fs,x= .ref a/\H1 a=y0 (.ins C dx fs)/\fs.lookup m=k9 ∧
 t σ H1 λvs H2=>sp (x::(vs++dvs)) H2 Q E
noncomputable def qcc (C:Addr) (sp:Sp) (dvs:List V) (E:XK) (t:TA):TE:=λσ H Q=>t σ H λvs H1=> ∀x dx,H1 x=k9->H1 dx=k9->dx≠x →
 sp (.ref x::(vs++dvs)) (upd (upd H1 dx (.own x)) x (.ins C dx [])) (λv H2=>v= .non/\Q (.ref x) H2) E
noncomputable def Binds (K:Aa5) (fd:FuncData) (ps:List Str) (ds:List Value):Prop:=
 ∀(s:Shared) (us:List Value),K.In s.heap->(us++ds).length=ps.length->BindsTo s fd ⟨us,[]⟩ (ps.zip (us++ds))
theorem Binds.all {K:Aa5}(h: ∀us:List Value,us.length=ps.length->bindArgs fd ⟨us,[]⟩=pure (ps.zip us)):Binds K fd ps []:=λs us _ hl=>by
 rw [Ae9]at hl ⊢
 exact .of_eq (h us hl)
noncomputable def zr (CX:CXT) (X:Cx) (E:XK):Prop:= ∀(u8:List (Addr×Obj)) (σ:St) (H:Hp) (s:Shared) (e:Value) (s':Shared),Inv X u8 σ H s->CX X.stack H s E e s'->X.xe e s'
section
variable {X:Cx}{CX:CXT}{k:Nat}{f C:Addr}{fd:FuncData}{ps:List Str}{sp:Sp}{dvs:List V}{ds:List Value}{E:XK}{x m:Str}{p pos apos:Pos}{e o:Expr}{es:List Expr}{ta:TE}{t:TA}
theorem QU (F:FnOk X.prog X.w X.K X.mg X.base CX k f fd ps sp) (hr:Room k X.A) (hb:Binds X.K fd ps ds) (hd:Vals dvs ds) (hx:zr CX X E)
 (I:Inv X u8 σ H s) (r:Vals vs us) (h:sp (vs++dvs) H Q E):wpAny (model X.prog X.w) X.A (call (.ref f) us) (EP X u8 σ Q) X.xe s:=by
 have r2:=r.append hd
 have hl:(us++ds).length=ps.length:=by rw [← r2.length];exact F.len _ _ _ _ h
 refine wpAny_call (codeAny_mono (F.run X.A X.stack s H ⟨us,[]⟩ (us++ds) (vs++dvs) Q E hr I.env0 (hb s us I.kIn hl) r2 h) λr s' hq=> ?_)
 cases r with
 | error e=>exact hx u8 σ H s e s' I hq
 | ok fl=>
  cases fl with
  | ret u=>exact I.after hq
  | next=>exact False.elim hq
  | brk=>exact False.elim hq
  | cont=>exact False.elim hq
theorem qbo (F:FnOk X.prog X.w X.K X.mg X.base CX k f fd ps sp) (hr:Room k X.A) (hg:Gl X x) (hm:X.mg x=y0 (.ref f)) (hk:Ad8 X.K (.ref f)=v9) (hb:Binds X.K fd ps ds) (hd:Vals dvs ds) (hx:zr CX X E)
 (ha:PA X (e::es) t) (hdb:(x==("__debug__" :Str))=false:=by decide) (he:starEach (e::es) X.env=(false,eval e X.env)::starEach es X.env:=by rfl) (hpl:(backTo pos (starEach es X.env)).any (·.1)=false:=by rfl):
 PE X (.Call (.Name x p) (e::es) [] pos) (qbL sp dvs E t):=by
 intro u8 s σ H Q I h
 refine wpAny_Call_Name_kw (xy I hg hm ?_ hdb)
 refine Ak7 I.ok.mod.kin hk (thn (ha pos u8 s σ H _ I h) λus s1 ⟨vs,H1,I1,r,q⟩=>⟨I1.kIn,?_⟩) he hpl
 exact QU F hr hb hd hx I1 r q
theorem zaS (F:FnOk X.prog X.w X.K X.mg X.base CX k f fd ps sp) (hr:Room k X.A) (hg:Gl X x) (hm:X.mg x=y0 (.ref f)) (hk:Ad8 X.K (.ref f)=v9) (hb:Binds X.K fd ps ds) (hd:Vals dvs ds) (hx:zr CX X E)
 (hdb:(x==("__debug__" :Str))=false:=by decide):PE X (.Call (.Name x p) [] [] pos) (qbL sp dvs E zb9):=by
 intro u8 s σ H Q I h
 refine wpAny_Call_Name_kw (xy I hg hm ?_ hdb)
 exact PySem.W.callWith_K0 I.kIn hk (QU F hr hb hd hx I .nil h)
theorem ja9 (he:PE X o ta) (c:Cls X.K C) (hm:xbE X.K C m f) (F:FnOk X.prog X.w X.K X.mg X.base CX k f fd ps sp) (hr:Room k X.A) (hb:Binds X.K fd ps ds) (hd:Vals dvs ds) (hx:zr CX X E) (ha:PA X (e::es) t)
 (hst:starEach (e::es) X.env=(u9,eval e X.env)::starEach es X.env:=by rfl) (hpl:(backTo pos (starEach es X.env)).any (·.1)=false:=by rfl)
 (ht:eval (.Call (.Attribute o m apos) (e::es) [] pos) X.env=(do
   let ov ←eval o X.env
   standAt apos.atName
   let (f,first) ←holding [ov] (getMethod ov m pl)
   callWith pos f first (backTo pos (starEach (e::es) X.env)) (backToKw pos (keywordEach [] X.env))):=by rfl):
 PE X (.Call (.Attribute o m apos) (e::es) [] pos) (xbX C m sp dvs E ta t):=by
 intro u8 s σ H Q I h
 refine PySem.W.methodCall_KW (thn (he u8 s σ H _ I h) λu s1 ⟨x,H1,I1,rx,a,dx,fs,ex,ea,l,q⟩=> ?_) ht
 subst ex
 obtain rfl:u=Value.ref a:=rx
 refine xD I1 ea c hm l ?_
 refine Ak7 I.ok.mod.kin hm.kp (thn (ha pos u8 s1 σ H1 _ I1 q) λus s2 ⟨vs,H2,I2,r,q2⟩=>⟨I2.kIn,?_⟩) hst hpl
 exact QU (vs:= .ref a::vs) F hr hb hd hx I2 (.cons rfl r) q2
theorem zaL (he:PE X o ta) (c:Cls X.K C) (hm:xbE X.K C m f) (F:FnOk X.prog X.w X.K X.mg X.base CX k f fd ps sp) (hr:Room k X.A) (hb:Binds X.K fd ps ds) (hd:Vals dvs ds) (hx:zr CX X E)
 (ht:eval (.Call (.Attribute o m apos) [] [] pos) X.env=(do
   let ov ←eval o X.env
   standAt apos.atName
   let (f,first) ←holding [ov] (getMethod ov m pl)
   callWith pos f first (backTo pos (starEach [] X.env)) (backToKw pos (keywordEach [] X.env))):=by rfl):
 PE X (.Call (.Attribute o m apos) [] [] pos) (xbX C m sp dvs E ta zb9):=by
 intro u8 s σ H Q I h
 refine PySem.W.methodCall_KW (thn (he u8 s σ H _ I h) λu s1 ⟨x,H1,I1,rx,a,dx,fs,ex,ea,l,q⟩=> ?_) ht
 subst ex
 obtain rfl:u=Value.ref a:=rx
 refine xD I1 ea c hm l ?_
 exact PySem.W.callWith_K0 I1.kIn hm.kp (QU (vs:= [.ref a]) F hr hb hd hx I1 (.cons rfl .nil) q)
structure Mk (K:Aa5) (C f:Addr):Prop where
 makes:Al8 K C=v9
 init:PySem.W.findIn K (.ref C) "__init__" =some (some (.ref f))
 fn:Al4 K (.ref f)=v9
 kp:Ad8 K (.ref C)=v9
theorem zaK {u8:List (Addr×Obj)}{σ:St}{H:Hp}{s:Shared}{Q:VK}{us:List Value}{vs:List V}(M:Mk X.K C f) (F:FnOk X.prog X.w X.K X.mg X.base CX k f fd ps sp) (hr:Room (k+1) X.A) (hb:Binds X.K fd ps ds) (hd:Vals dvs ds)
 (hx:zr CX X E) (I:Inv X u8 σ H s) (r:Vals vs us)
 (h: ∀x dx,H x=k9->H dx=k9->dx≠x->sp (.ref x::(vs++dvs)) (upd (upd H dx (.own x)) x (.ins C dx [])) (λv H2=>v= .non/\Q (.ref x) H2) E):
 wpAny (model X.prog X.w) X.A (call (.ref C) us) (EP X u8 σ Q) X.xe s:=by
 have hq:=h (s.heap.objs.size+1) s.heap.objs.size (I.hok.fresh (Ae _)) (I.hok.fresh (Aa6 _)) (Ad (Af1 _))
 have I2:=Inv.made (C:=C) I
 have r2:Vals (V.ref (s.heap.objs.size+1)::(vs++dvs)) (Value.ref (s.heap.objs.size+1)::(us++ds)):= .cons rfl (r.append hd)
 have hl:(Value.ref (s.heap.objs.size+1)::us++ds).length=ps.length:=by
  have e:=r2.length
  rw [F.len _ _ _ _ hq]at e
  exact e.symm
 refine wpAny_call (jaF (f:=f) I.kIn M.makes M.init (beq_iff_eq.mp M.fn) (codeAny_mono (F.run _ X.stack _ _ ⟨Value.ref (s.heap.objs.size+1)::us,[]⟩ (Value.ref (s.heap.objs.size+1)::(us++ds)) _ _ E (hr.make C us [])
  (I2.env0.make C us []) (hb _ (Value.ref (s.heap.objs.size+1)::us) I2.kIn hl) r2 hq) λr s' hq'=> ?_))
 cases r with
 | error e=>exact hx u8 σ _ _ e s' I2 hq'
 | ok fl=>
  cases fl with
  | ret u=>
   obtain⟨v,H',I3,rv,ev,q3⟩:=I2.after hq'
   subst ev
   exact⟨rv,⟨V.ref (s.heap.objs.size+1),H',I3,rfl,q3⟩⟩
  | next=>exact False.elim hq'
  | brk=>exact False.elim hq'
  | cont=>exact False.elim hq'
theorem ja8 (M:Mk X.K C f) (F:FnOk X.prog X.w X.K X.mg X.base CX k f fd ps sp) (hr:Room (k+1) X.A) (hg:Gl X x) (hm:X.mg x=y0 (.ref C)) (hb:Binds X.K fd ps ds) (hd:Vals dvs ds) (hx:zr CX X E)
 (ha:PA X (e::es) t) (hdb:(x==("__debug__" :Str))=false:=by decide) (he:starEach (e::es) X.env=(false,eval e X.env)::starEach es X.env:=by rfl) (hpl:(backTo pos (starEach es X.env)).any (·.1)=false:=by rfl):
 PE X (.Call (.Name x p) (e::es) [] pos) (qcc C sp dvs E t):=by
 intro u8 s σ H Q I h
 refine wpAny_Call_Name_kw (xy I hg hm ?_ hdb)
 refine Ak7 (h₀:=X.base) I.ok.mod.kin M.kp (thn (ha pos u8 s σ H _ I h) λus s1 ⟨vs,H1,I1,r,q⟩=>⟨I1.kIn,?_⟩) he hpl
 exact zaK M F hr hb hd hx I1 r q
end
section
variable {X:Cx}{CX:CXT}{k:Nat}{f C:Addr}{fd:FuncData}{ps ks:List Str}{sp:Sp}{E:XK}{x m:Str}{p pos apos kpos:Pos}{e o:Expr}{es:List Expr}{kws:List Keyword}{te ta:TE}{t tk:TA}{nm:Option Str}
structure zco (K:Aa5) (fd:FuncData) (ps ks:List Str) (g:List Value->List Value->List Value) (gV:List V->List V->List V):Prop where
 to: ∀(s:Shared) (us ws:List Value),K.In s.heap->(g us ws).length=ps.length->BindsTo s fd ⟨us,ks.zip ws⟩ (ps.zip (g us ws))
 rel: ∀ {vs:List V}{us:List Value}{zs:List V}{ws:List Value},Vals vs us->Vals zs ws->Vals (gV vs zs) (g us ws)
variable {g:List Value->List Value->List Value}{gV:List V->List V->List V}
end
structure xq (N P:List Str) (sc:Scope):Prop where
 kind:sc.kind= .function
 co:sc.isCoroutine=u9
 gen:sc.isGenerator=u9
 nd:N.Nodup
 pre:N.take P.length=P
 par: ∀x∈P,sc.names.lookup x=y0 .local\/sc.names.lookup x=y0 .cell
 nofree: ∀y∈sc.names,y.2≠ .free
theorem QK {kindOf:Str->Option NameKind}{x:Str}: ∀ {binds:List (Str×Value)}{m:Str->Option Value},(∀ v,(x,v)∉binds)->bindL kindOf binds m x=m x
 | [],_,_=>rfl
 | (n,v)::r,m,h=>by
  unfold bindL
  rw [QK λw hw=>h w (Aa7 _ hw)]
  split
  ·have:x≠n:=by rintro rfl;exact h v Aa8
   simp [this]
  ·rfl
theorem JJ {kindOf:Str->Option NameKind}{x:Str}: ∀ {binds:List (Str×Value)}{m:Str->Option Value},(∀ v,(x,v)∉binds)->bindC kindOf binds m x=m x
 | [],_,_=>rfl
 | (n,v)::r,m,h=>by
  unfold bindC
  rw [JJ λw hw=>h w (Aa7 _ hw)]
  split
  ·rfl
  ·have:x≠n:=by rintro rfl;exact h v Aa8
   simp [this]
theorem zM {kindOf:Str->Option NameKind}{x:Str}{v:Value}: ∀ {P:List Str}{vs:List Value}{i:Nat}{m:Str->Option Value},P.Nodup->P[i]? =y0 x->vs[i]? =y0 v->kindOf x=y0 .local →
 bindL kindOf (P.zip vs) m x=y0 v
 | [],_,_,_,_,h,_,_=>by simp at h
 | _::_,[],_,_,_,_,h,_=>by simp at h
 | p::P,w::vs,0,m,nd,h1,h2,hk=>by
  simp at h1 h2;subst h1;subst h2
  show bindL kindOf ((p,w)::P.zip vs) m p=_
  unfold bindL
  rw [QK λv hv=>(Ag7.mp nd).1 (List.of_mem_zip hv).1,if_pos hk]
  simp
 | p::P,w::vs,i+1,m,nd,h1,h2,hk=>by
  show bindL kindOf ((p,w)::P.zip vs) m x=_
  unfold bindL
  exact zM (i:=i) (Ag7.mp nd).2 (by simpa using h1) (by simpa using h2) hk
theorem WJ {kindOf:Str->Option NameKind}{x:Str}{v:Value}: ∀ {P:List Str}{vs:List Value}{i:Nat}{m:Str->Option Value},P.Nodup->P[i]? =y0 x->vs[i]? =y0 v->kindOf x≠y0 .local →
 bindC kindOf (P.zip vs) m x=y0 v
 | [],_,_,_,_,h,_,_=>by simp at h
 | _::_,[],_,_,_,_,h,_=>by simp at h
 | p::P,w::vs,0,m,nd,h1,h2,hk=>by
  simp at h1 h2;subst h1;subst h2
  show bindC kindOf ((p,w)::P.zip vs) m p=_
  unfold bindC
  rw [JJ λv hv=>(Ag7.mp nd).1 (List.of_mem_zip hv).1,if_neg hk]
  simp
 | p::P,w::vs,i+1,m,nd,h1,h2,hk=>by
  show bindC kindOf ((p,w)::P.zip vs) m x=_
  unfold bindC
  exact WJ (i:=i) (Ag7.mp nd).2 (by simpa using h1) (by simpa using h2) hk
def xB (N:List Str) (vs:List V):St:=vs.map y0++Aa0 (N.length-vs.length) k9
noncomputable def zZ (CX:CXT) (P:Program) (w:World) (K:Aa5) (mg:Str->Option Value) (base:Heap) (N:List Str) (v7:Str) (scope:Scope) (f:Addr) (cd:Value) (A:Around) (outer:List Env) (s:Shared) (H:Hp) (E:XK):Cx where
 prog:=P
 w:=w
 K:=K
 mg:=mg
 base:=base
 A:=A.deeper (envOfC v7 scope s.heap.objs.size f cd)
 N:=N
 s₀:=s
 H₀:=H
 env:=envOfC v7 scope s.heap.objs.size f cd
 outer:=outer
 stack:=envOfC v7 scope s.heap.objs.size f cd::outer
 ex:= []
 calm:=v9
 fn:=λ_=>v9
 pn:= []
 xe:=λe s'=>wpAny (model P w) (A.deeper (envOfC v7 scope s.heap.objs.size f cd)) (leaving (envOfC v7 scope s.heap.objs.size f cd) e) (λ_ s''=>CX outer H s E e s'') (λe' s''=>CX outer H s E e' s'') s'
theorem WU {sc:Scope}{n:Nat}{x:Str}(h:sc.names.lookup x=y0 .cell): ∃c,(cellsFrom n sc.names []).lookup x=y0 c:=by
 have q:=Aj8 sc.names n [] (.inl h)
 exact Ae6.mp q
theorem xat {CX:CXT}{P:Program}{w:World}{K:Aa5}{mg:Str->Option Value}{base:Heap}{N ps:List Str}{v7:Str}{scope:Scope}{f:Addr}{cd:Value}{A:Around}{outer:List Env}{s s1:Shared}{H:Hp}{E:XK}{us:List Value}{vs:List V}
 (S:xq N ps scope) (hd:A.handled=k9) (e0:Env0 P w K mg base A outer s H) (hl:vs.length=ps.length) (r:Vals vs us)
 (x:InCallC s s.heap.objs.size (bindL (envOfC v7 scope s.heap.objs.size f cd).kindOf (ps.zip us) λ_=>k9) (cellsFrom (s.heap.objs.size+1) scope.names []) (bindC (envOfC v7 scope s.heap.objs.size f cd).kindOf (ps.zip us) λ_=>k9) s1):
 Inv (zZ CX P w K mg base N v7 scope f cd A outer s H E) [] (xB N vs) H s1:=by
 have hpl:ps.length<=N.length:=by have:=congrArg Ak0 S.pre;rw [Ad7]at this;omega
 obtain⟨h1,tk,rfl,hk⟩:=x.done
 have noA: ∀b:Addr,b∉(zZ CX P w K mg base N v7 scope f cd A outer s H E).ex:=λb z=>absurd (show b∈([]:List Addr)from z) (by simp)
 refine⟨⟨e0.mod,S.kind,rfl,rfl,Aa6 _,λy z c h1 h2=> ?_,λy hy=> ?_,λy c _ h=> ?_,λ_=>hd,Around.frames_deeper e0.frames,.inr ⟨rfl,rfl⟩,λb z=>absurd z (noA b),e0.bs,e0.bsz,λb _ _=>noA b,λb z=>absurd z (noA b),e0.funs,e0.frf⟩,
  rfl,e0.bare,Un.kept hk,⟨_,x.toInCall.ns,λi y v h1 h2 h3=> ?_⟩,λy c h=>⟨_,x.cell y c h⟩,e0.hok.fresh (Aa6 _),λy c h=> ?_,λp hp=>absurd (show p∈([]:List (Addr×Obj))from hp) (by simp),e0.hok.kept hk,?_⟩
 ·exact name_of_addr x.apart (PySem.mem_of_lookup h1) (PySem.mem_of_lookup h2)
 ·have hy:scope.names.lookup y=y0 .cell\/scope.names.lookup y=y0 .free:=hy
  rcases hy with hy | hy
  ·exact WU hy
  ·exact absurd rfl (S.nofree _ (PySem.mem_of_lookup hy))
 ·exact Aj3 (x.above y c (PySem.mem_of_lookup h))
 ·have hi:i<vs.length:=by
   unfold xB at h2
   by_cases hi:i<vs.length
   ·exact hi
   ·rw [Ac5 (by simpa using hi)]at h2
    rw [Ak1]at h2
    split at h2<;>cases h2
  have ha:vs[i]? =y0 v:=by
   unfold xB at h2
   rw [Ac1 (by simpa using hi),Ad4]at h2
   cases e:vs[i]? with
   | none=>rw [e]at h2;cases h2
   | some a=>rw [e]at h2;cases h2;rfl
  obtain⟨u,hu,rv⟩:=r.get ha
  have hp:ps[i]? =y0 y:=by
   rw [← S.pre,Ag2 (by omega)];exact h1
  have ndP:ps.Nodup:=by rw [← S.pre];exact S.nd.sublist (List.take_sublist _ _)
  refine⟨u,rv,?_⟩
  rcases S.par y (Ai5 hp)with k | k
  ·exact .inl ⟨k,zM ndP hp hu k⟩
  ·obtain⟨c,e⟩:=WU (n:=s.heap.objs.size+1) k
   refine .inr ⟨.inl k,c,e,?_⟩
   have q:=x.cell y c e
   rw [WJ ndP hp hu (by show scope.names.lookup y≠_;rw [k];decide)]at q
   exact q
 ·exact e0.hok.fresh (Aj3 (x.above y c (PySem.mem_of_lookup h)))
 ·unfold xB
  show _=N.length
  rw [Aa1,Ac4,Ae1]
  omega
theorem zcn {CX:CXT}{P:Program}{w:World}{K:Aa5}{mg:Str->Option Value}{base:Heap}{k:Nat}{f:Addr}{name v7:Str}{params:Arguments}{body:List Stmt}{scope:Scope}{dV kV doc pm cdv ct oc:Value}{an od:Option Addr}
 {osl:Array (Option Value)}{N ps:List Str}{sp:Sp}(lk:K.lookup f=y0 ⟨oc,od,.func (Ag1 name v7 params body scope dV kV doc pm an cdv ct),osl⟩) (hcd:Ai7 K cdv v7=v9) (S:xq N ps scope)
 (len: ∀vs H Q E,sp vs H Q E->vs.length=ps.length)
 (hbody: ∀(A:Around) (outer:List Env) (s:Shared) (H:Hp) (vs:List V) (Q:VK) (E:XK),Room k (A.deeper (envOfC v7 scope s.heap.objs.size f cdv))->sp vs H Q E →
   ∃t,PSs (zZ CX P w K mg base N v7 scope f cdv A outer s H E) body t/\t { nx:=λ_ H'=>Q .non H',rt:=Q } (xB N vs) H):
 FnOk P w K mg base CX (k+1) f (Ag1 name v7 params body scope dV kV doc pm an cdv ct) ps sp:=by
 refine⟨len,λA outer s H args us vs Q E hr e0 hb r hsp=> ?_⟩
 have hl:=len _ _ _ _ hsp
 have KX:K.In s.heap:=e0.mod.kin.keeps λb o e=>(e0.bs b o e).1
 have lim:s.heap.NoLimit:=e0.mod.nolimit.keeps λb o e=>(e0.bs b o e).1
 have hkind: ∀y∈ps.zip us,scope.names.lookup y.1=y0 .local\/(scope.names.lookup y.1=y0 .cell/\((cellsFrom (s.heap.objs.size+1) scope.names []).lookup y.1).isSome=v9):=λ⟨n,v⟩ hy=>by
  rcases S.par n (List.of_mem_zip hy).1 with q | q
  ·exact .inl q
  ·exact .inr ⟨q,Aj8 _ _ _ (.inl q)⟩
 refine codeAny_call_function hr.depth (KX _ _ lk) rfl S.co S.gen rfl (PySem.W.codeRec_of KX hcd) (hb _ _ _ _ ?_)
 refine wpAny_newFunctionEnv_cells S.kind hkind λenv he s1 x=> ?_
 subst he
 refine⟨lim.keeps x.toInCall.keep,codeAny_func ?_⟩
 obtain⟨t,ht,hq⟩:=hbody A outer s H vs Q E (hr.deeper _) hsp
 have I:Inv (zZ CX P w K mg base N v7 scope f cdv A outer s H E) [] (xB N vs) H s1:=xat S hr.hd e0 hl r x
 refine wpAny_mono (ht [] s1 (xB N vs) H _ I hq) (λfl s' hs=> ?_) λe s' hs=>hs
 have fin: ∀ {σ':St}{H':Hp}{v:V}{u:Value},Inv (zZ CX P w K mg base N v7 scope f cdv A outer s H E) [] σ' H' s'->RelV v u->Q v H'->CE outer P w H s Q u s':=
  λ{σ' H' v u} J rv q=>⟨v,H',J.os,J.bare,J.base,J.hok,rv,q⟩
 cases fl with
 | ret u=>
  obtain⟨v,σ',H',J,rv,q⟩:=hs
  exact fin J rv q
 | next=>
  obtain⟨σ',H',J,q⟩:=hs
  exact fin (v:=V.non) (u:=Value.none) J rfl q
 | brk=>
  obtain⟨_,_,_,q⟩:=hs
  exact False.elim q
 | cont=>
  obtain⟨_,_,_,q⟩:=hs
  exact False.elim q
section
variable {X:Cx}{x:Str}{p pos:Pos}{e:Expr}{es:List Expr}{t:TA}{id T:String}{r:List V->Hp->VK->Prop}
def tCB (r:List V->Hp->VK->Prop) (t:TA):TE:=λσ H Q=>t σ H λvs H1=>r vs H1 Q
theorem wm (hc:xn X (.builtin id) r) (hg:Gl X x) (hm:X.mg x=none) (hv:bootBuiltins x=some (.builtin id)) (ha:PA X (e::es) t) (hn:x≠ "__name__" :=by decide) (hdb:(x==("__debug__" :Str))=false:=by decide)
 (he:starEach (e::es) X.env=(u9,eval e X.env)::starEach es X.env:=by rfl) (hpl:(backTo pos (starEach es X.env)).any (·.1)=false:=by rfl):PE X (.Call (.Name x p) (e::es) [] pos) (tCB r t):=by
 intro u8 s σ H Q I h
 refine wpAny_Call_Name_kw (xv I hg hm hv ?_ hn hdb)
 exact PyProof.Rows.callWith_builtin1 (thn (ha pos u8 s σ H _ I h) λus s1 ⟨vs,H1,I1,r1,q1⟩=>hc u8 s1 σ H1 vs us Q I1 r1 q1) he hpl
theorem Jq (hc:xn X (.type T) r) (hg:Gl X x) (hm:X.mg x=none) (hv:bootBuiltins x=some (.type T)) (ha:PA X (e::es) t) (hn:x≠ "__name__" :=by decide) (hdb:(x==("__debug__" :Str))=false:=by decide)
 (he:starEach (e::es) X.env=(u9,eval e X.env)::starEach es X.env:=by rfl) (hpl:(backTo pos (starEach es X.env)).any (·.1)=false:=by rfl):PE X (.Call (.Name x p) (e::es) [] pos) (tCB r t):=by
 intro u8 s σ H Q I h
 refine wpAny_Call_Name_kw (xv I hg hm hv ?_ hn hdb)
 exact PyProof.Rows.callWith_type1 (thn (ha pos u8 s σ H _ I h) λus s1 ⟨vs,H1,I1,r1,q1⟩=>hc u8 s1 σ H1 vs us Q I1 r1 q1) he hpl
end
end L2
namespace HT
open PySem PyProof.Rows
section
open PySem.SeqAt
open PySem.AutoSeq1 (wpAny_loadPart')
open PySem.MeetsSeq PySem.MeetsSeq2 PySem.MeetsSeq3
end
section
variable {prog:Program}{w:World}{A:Around}{E:Value->Shared->Prop}{s:Shared}
theorem cat_tup {t b:Addr}{vs ws:List Value}{Q:Value->Shared->Prop}(ht:IsTup s.heap t vs.toArray) (hb:IsTup s.heap b ws.toArray) (hv:vs≠ [])
 (h1:ws= []->Q (.ref t) s) (h2:ws≠ []->Q (.ref s.heap.objs.size) { s with heap:=s.heap.push { cls:= .type "tuple",data:= .seq (vs++ws).toArray } })
 (hsz:vs.length+ws.length<=sizeLine):wpAny (model prog w) A (binaryOp .Add (.ref t) (.ref b)) Q E s:=by
 obtain⟨⟨cls,dd,data,sl⟩,ho,hc,n,hd⟩:=id ht
 obtain⟨⟨cls2,dd2,data2,sl2⟩,ho2,hc2,n2,hd2⟩:=id hb
 simp only at hc hd hc2 hd2
 subst hc hd hc2 hd2
 have e:vs.toArray++ws.toArray=(vs++ws).toArray:=by simp
 by_cases hw:ws= []
 ·exact concat_meets ⟨_,ho,rfl⟩ ⟨_,ho2,rfl⟩ noFill_tuple_add seq_tuple_add PySem.F.slot_tuple_add PySem.F.entry_tuple_add (PySem.F.args_tuple_add_2 _ _)
   (tuple_addW1 t b vs.toArray ws.toArray n n2 dd dd2 sl sl2 (by simpa using hv) (by simp [hw])) ⟨ho,ho2,h1 hw⟩
 ·refine concat_meets ⟨_,ho,rfl⟩ ⟨_,ho2,rfl⟩ noFill_tuple_add seq_tuple_add PySem.F.slot_tuple_add PySem.F.entry_tuple_add (PySem.F.args_tuple_add_2 _ _)
   (tuple_addW2 t b vs.toArray ws.toArray n n2 dd dd2 sl sl2 (by simpa using hv) (by simpa using hw) (by rw [Ab,Ab];exact hsz)) ⟨ho,ho2,?_⟩
  rw [e]
  exact h2 hw
def sIx (n d:Nat):Option Int->Nat
 | none=>d
 | some v=>if v<0 then(v+(n:Int)).toNat else min v.toNat n
theorem zb1 (n d:Nat) (hd:d<=n) (o:Option Int):sIx n d o<=n:=by
 cases o with
 | none=>exact hd
 | some v=>
  show(if v<0 then(v+(n:Int)).toNat else min v.toNat n)<=n
  by_cases hv:v<0
  ·rw [if_pos hv];omega
  ·rw [if_neg hv];exact Nat.min_le_right _ _
theorem qan (v:Int) (n d:Nat):(if v<0 then max (v+(n:Int)) 0 else min v (n:Int))=((sIx n d (y0 v):Nat):Int):=by
 show(if v<0 then max (v+(n:Int)) 0 else min v (n:Int))=(((if v<0 then(v+(n:Int)).toNat else min v.toNat n):Nat):Int)
 by_cases hv:v<0
 ·simp only [if_pos hv];omega
 ·simp only [if_neg hv];omega
theorem JY (lo hi:Option Int) (n:Nat):Builtin.Slice.sliceAdjust lo hi 1 (n:Int)=(((sIx n 0 lo:Nat):Int),((sIx n n hi:Nat):Int)):=by
 have h1: ¬((1:Int)<0):=by omega
 unfold Builtin.Slice.sliceAdjust
 simp only [h1,if_false]
 refine Prod.ext ?_ ?_
 ·cases lo with
  | none=>rfl
  | some v=>exact qan v n 0
 ·cases hi with
  | none=>rfl
  | some v=>exact qan v n n
theorem zX (i j:Nat):Builtin.Slice.slicePlaces (i:Int) (j:Int) 1=j-i:=by
 unfold Builtin.Slice.slicePlaces
 have h1:(1:Int)>0:=by omega
 simp only [h1,if_true,Int.ediv_one]
 split<;>omega
theorem zE {v:Value}{o:Option Int}{Q:Option Int->Shared->Prop}(p:IsPart v o) (h:Q o s):wpAny (model prog w) A (Builtin.Slice.slicePartIndex v) Q E s:=by
 cases p with
 | none=>exact slicePart_none h
 | int i t=>exact slicePart_int h
theorem sliceApplied_gen {sl:Addr}{vl vu:Value}{lo hi:Option Int}{n:Nat}{Q:Int×Int×Nat->Shared->Prop}(hs:s.heap.IsSliceOf sl vl vu .none) (pl:IsPart vl lo) (pu:IsPart vu hi)
 (h:Q (((sIx n 0 lo:Nat):Int),1,sIx n n hi-sIx n 0 lo) s):wpAny (model prog w) A (Builtin.Slice.sliceApplied (.ref sl) (pure (n:Int))) Q E s:=by
 obtain⟨os,hos,hcs,hds⟩:=id hs
 unfold Builtin.Slice.sliceApplied Builtin.Slice.sliceFields
 refine wpAny_bind (wpAny_bind (wpAny_field hos hds (x:=vl) rfl (wpAny_bind (wpAny_field hos hds (x:=vu) rfl (wpAny_bind (wpAny_field hos hds (x:= .none) rfl (wpAny_pure ?_)))))))
 refine wpAny_bind (slicePart_none ?_)
 show wpAny _ _ (if ((1:Int)==0)=v9 then _ else _) _ _ s
 rw [if_neg (by decide)]
 refine wpAny_bind (zE pl (wpAny_bind (zE pu (wpAny_bind (wpAny_pure ?_)))))
 show wpAny _ _ (match Builtin.Slice.sliceAdjust lo hi 1 (n:Int)with | (lo,hi)=>pure (lo,(1:Int),Builtin.Slice.slicePlaces lo hi 1)) _ _ s
 rw [JY lo hi n]
 show wpAny _ _ (pure (((sIx n 0 lo:Nat):Int),(1:Int),Builtin.Slice.slicePlaces ((sIx n 0 lo:Nat):Int) ((sIx n n hi:Nat):Int) 1)) _ _ s
 rw [zX]
 exact wpAny_pure h
theorem xaU (xs:Array Value) (i k:Nat):((Ac0 k).filterMap λ(m:Nat)=>xs[((i:Int)+(m:Int)*1).toNat]?).toArray=((xs.toList.drop i).take k).toArray:=by
 have e:(λ(m:Nat)=>xs[((i:Int)+(m:Int)*1).toNat]?)=λm=>xs[i+m]? :=by
  funext m
  have:((i:Int)+(m:Int)*1).toNat=i+m:=by omega
  rw [this]
 rw [e]
 have:=pick_run xs i k
 rw [List.filterMap_map]at this
 have e2:((λx=>xs[x]?)∘λx=>i+x)=λm=>xs[i+m]? :=rfl
 rw [e2]at this
 rw [this]
theorem getItem_tuple_cut {t sl:Addr}{k7:Array Value}{vl vu:Value}{lo hi:Option Int}{Q:Value->Shared->Prop}(ht:IsTup s.heap t k7) (hs:s.heap.IsSliceOf sl vl vu .none) (pl:IsPart vl lo) (pu:IsPart vu hi)
 (hw: ¬(sIx k7.size 0 lo=0/\sIx k7.size k7.size hi=k7.size))
 (h:Q (.ref s.heap.objs.size) { s with heap:=s.heap.push { cls:= .type "tuple",data:= .seq ((k7.toList.drop (sIx k7.size 0 lo)).take (sIx k7.size k7.size hi-sIx k7.size 0 lo)).toArray } })
 (hsz:k7.size<=sizeLine):wpAny (model prog w) A (getItem (.ref t) (.ref sl)) Q E s:=by
 have htake:sizeOk (.seq ((k7.toList.drop (sIx k7.size 0 lo)).take (sIx k7.size k7.size hi-sIx k7.size 0 lo)).toArray):=by
  show((k7.toList.drop (sIx k7.size 0 lo)).take (sIx k7.size k7.size hi-sIx k7.size 0 lo)).toArray.size<=sizeLine
  rw [Ab,Ad7,Ag4,Ah1]
  omega
 have hj:sIx k7.size k7.size hi<=k7.size:=zb1 _ _ (Aa6 _) hi
 obtain⟨os,hos,hcs,hds⟩:=id hs
 have hTs:s.TypeIs (.ref sl) "slice" :=⟨os,hos,hcs⟩
 unfold getItem
 try with_reducible refine wpAny_holding ?_
 first | refine wpAny_bind (wpAny_pure ?_) | skip
 refine wpAny_bind (wpAny_sequenceKey ht.typeIs (by decide) ?_)
 refine wpAny_bind (wpAny_callSpecial?_slot (name:=Str.ofString "__getitem__") ht.typeIs PyProof.Rows.slot_tuple_getitem
  (wpAny_call_entry PyProof.Rows.slot_tuple_getitem ht.typeIs entry_tuple_getitem ?_ (args_tuple_getitem _ _)))
 show wpAny _ _ (Builtin.Tuple.tupleItemsOf (.ref t) >>= _) _ _ s
 refine wpAny_bind (tupleItemsOf_ ht ?_)
 refine wpAny_bind (wpAny_typeOf hTs ?_)
 rw [if_pos (by decide)]
 refine wpAny_bind (sliceApplied_gen hs pl pu ?_)
 have hno: ¬((((sIx k7.size 0 lo:Nat):Int)==0&&(1:Int)==1&&(sIx k7.size k7.size hi-sIx k7.size 0 lo)==k7.size)=v9):=by
  intro q
  rw [Ab4,Ab4]at q
  have q1:((sIx k7.size 0 lo:Nat):Int)=0:=eq_of_beq q.1.1
  have q2:sIx k7.size k7.size hi-sIx k7.size 0 lo=k7.size:=eq_of_beq q.2
  exact hw ⟨by omega,by omega⟩
 show wpAny _ _ (if (((sIx k7.size 0 lo:Nat):Int)==0&&(1:Int)==1&&(sIx k7.size k7.size hi-sIx k7.size 0 lo)==k7.size)=v9 then _ else _) _ _ s
 rw [if_neg hno,xaU]
 first
  | exact wpAny_bind (m:=Builtin.Tuple.tupleExact _) (wpAny_newObj_type (wpAny_pure ⟨_,rfl,wpAny_pure h⟩) htake)
  | exact wpAny_bind (m:=Builtin.Tuple.tupleExact _) (wpAny_newObj_type (wpAny_bind (wpAny_pure (wpAny_pure ⟨_,rfl,wpAny_pure h⟩))) htake)
  | exact wpAny_bind (wpAny_bind (m:=Builtin.Tuple.tupleExact _) (wpAny_newObj_type (wpAny_pure (wpAny_pure ⟨_,rfl,wpAny_pure h⟩)) htake))
  | exact wpAny_bind (wpAny_bind (m:=Builtin.Tuple.tupleExact _) (wpAny_newObj_type (wpAny_pure ⟨_,rfl,wpAny_pure h⟩) htake))
end
end HT
namespace L2
open PySem PySem.Spec PyProof.Rows
abbrev TO:=St->Hp->(Option Int->Hp->Prop)->Prop
noncomputable def PO (X:Cx) (e:Option Expr) (t:TO):Prop:=
 ∀(u8:List (Addr×Obj)) (s:Shared) (σ:St) (H:Hp) (Q:Option Int->Hp->Prop),Inv X u8 σ H s->t σ H Q →
  wpAny (model X.prog X.w) X.A (evalPart e X.env) (λu s'=> ∃o H',Inv X u8 σ H' s'/\IsPart u o/\Q o H') X.xe s
def qbx:TO:=λ_ H Q=>Q k9 H
def qci (t:TE):TO:=λσ H Q=>t σ H λx H1=> ∃i,x= .int i/\Q (y0 i) H1
section
variable {X:Cx}{e:Expr}{te:TE}{lo hi:Option Expr}{tl th:TO}{pos p2:Pos}
theorem X2:PO X k9 qbx:=by
 intro u8 s σ H Q I h
 rw [evalPart_none]
 exact wpAny_pure ⟨k9,H,I,.none,h⟩
theorem WF (h:PE X e te):PO X (y0 e) (qci te):=by
 intro u8 s σ H Q I hw
 rw [evalPart_some]
 refine thn (h u8 s σ H _ I hw) λu s1 ⟨x,H1,I1,r1,q1⟩=> ?_
 obtain⟨i,rfl,q⟩:=q1
 obtain⟨t,rfl⟩:=r1
 exact⟨y0 i,H1,I1,.int i t,q⟩
noncomputable def SlR (X:Cx) (r:V->Option Int->Option Int->Hp->VK->Prop):Prop:=
 ∀(u8:List (Addr×Obj)) (s:Shared) (σ:St) (H:Hp) (x:V) (v vl vu:Value) (lo hi:Option Int) (sl:Addr) (Q:VK),Inv X u8 σ H s->RelV x v->s.heap.IsSliceOf sl vl vu .none->IsPart vl lo->IsPart vu hi->r x lo hi H Q →
  ∃T id,typeLookup (.type T) "__getitem__" =pure (some (.builtin id))/\s.TypeIs v T/\wpAny (model X.prog X.w) X.A (getItem v (.ref sl)) (EP X u8 σ Q) X.xe s
theorem SlR.or {r r':V->Option Int->Option Int->Hp->VK->Prop}(h:SlR X r) (h':SlR X r'):SlR X (λx lo hi H Q=>r x lo hi H Q\/r' x lo hi H Q):=by
 intro u8 s σ H x v vl vu lo hi sl Q I rx hs pl pu q
 rcases q with q | q
 ·exact h u8 s σ H x v vl vu lo hi sl Q I rx hs pl pu q
 ·exact h' u8 s σ H x v vl vu lo hi sl Q I rx hs pl pu q
noncomputable def tSl (r:V->Option Int->Option Int->Hp->VK->Prop) (te:TE) (tl th:TO):TE:=λσ H Q=>te σ H λx H1=>tl σ H1 λl H2=>th σ H2 λu H3=>r x l u H3 Q
theorem XG {r:V->Option Int->Option Int->Hp->VK->Prop}(hr:SlR X r) (he:PE X e te) (hl:PO X lo tl) (hu:PO X hi th):PE X (.Subscript e (.Slice lo hi k9 p2) pos) (tSl r te tl th):=by
 intro u8 s σ H Q I h
 refine Subscript_ (thn (he u8 s σ H _ I h) λv s1 ⟨x,H1,I1,r1,q1⟩=> ?_)
 refine wpAny_Slice (thn (hl u8 s1 σ H1 _ I1 q1) λvl s2 ⟨l,H2,I2,pl,q2⟩=>thn (hu u8 s2 σ H2 _ I2 q2) λvu s3 ⟨u,H3,I3,pu,q3⟩=> ?_)
 rw [evalPart_none]
 refine wpAny_pure ?_
 have I4:Inv X u8 σ H3 { s3 with heap:=s3.heap.push { cls:= .type "slice",data:= .fields #[vl,vu,.none] } }:=I3.kept (t':=s3.toks) fun b ob q=>Heap.get?_push_of_some _ q
 obtain⟨T,id,hT,ht,hg⟩:=hr u8 { s3 with heap:=s3.heap.push { cls:= .type "slice",data:= .fields #[vl,vu,.none] } } σ H3 x v vl vu l u s3.heap.objs.size Q I4 r1 (Heap.IsSliceOf.new ..) pl pu q3
 show wpAny (model X.prog X.w) X.A (subscriptTail e (.Slice lo hi none p2) v (.ref s3.heap.objs.size)) (EP X u8 σ Q) X.xe { s3 with heap:=s3.heap.push { cls:= .type "slice",data:= .fields #[vl,vu,.none] } }
 exact tail_any (ops:= [.ref s3.heap.objs.size,v]) ht hT hg (by with_unfolding_all rfl)
noncomputable def zby (xs:List V) (lo hi:Option Int):List V:=(xs.drop (HT.sIx xs.length 0 lo)).take (HT.sIx xs.length xs.length hi-HT.sIx xs.length 0 lo)
theorem Zz (xs:List V) (lo hi:Option Int):(zby xs lo hi).length<=xs.length:=by
 unfold zby
 rw [Ad7,Ag4]
 omega
noncomputable def zcg (K:Aa5):V->Option Int->Option Int->Hp->VK->Prop:=λx lo hi H Q=> ∃a xs,x= .ref a/\SqT K H a xs ∧
 ¬(HT.sIx xs.length 0 lo=0/\HT.sIx xs.length xs.length hi=xs.length)/\ ∀p,H p=k9->Q (.ref p) (upd H p (.tup (zby xs lo hi)))
theorem qbS:SlR X (zcg X.K):=by
 intro u8 s σ H x v vl vu lo hi sl Q I rx hs pl pu h
 obtain⟨a,xs,rfl,hx,hw,q⟩:=h
 cases rx
 obtain⟨its,r,ht,hz⟩:=I.tuple hx
 have u7:its.toArray.size=xs.length:=by rw [Ab];exact r.length.symm
 refine⟨"tuple",_,PyProof.Rows.slot_tuple_getitem.lookup,ht.typeIs,?_⟩
 refine HT.getItem_tuple_cut ht hs pl pu (by rw [u7];exact hw) ?_ (by rw [u7];exact hz)
 rw [u7]
 refine⟨.ref s.heap.objs.size,_,I.laid (t':=s.toks) (o:= .tup (zby xs lo hi)) (λb ob q=>Ab0 _ q) (Aa6 _) ?_,rfl,q _ (I.hok.fresh (Aa6 _))⟩
 exact⟨Ac7 (Zz xs lo hi) hz,_,(r.drop (HT.sIx xs.length 0 lo)).take (HT.sIx xs.length xs.length hi-HT.sIx xs.length 0 lo),PTup.new _ _⟩
noncomputable def qcd (K:Aa5):R2:=λx y H Q=> ∃a b xs ys,x= .ref a/\y= .ref b/\SqT K H a xs/\SqT K H b ys/\xs≠ []/\xs.length+ys.length<=sizeLine ∧
 (ys= []->Q (.ref a) H)/\(ys≠ []-> ∀p,H p=k9->Q (.ref p) (upd H p (.tup (xs++ys))))
theorem Vals.nil_iff {xs:List V}{us:List Value}(r:Vals xs us):us= []↔xs= []:=by
 cases r with
 | nil=>simp
 | cons _ _=>simp
theorem qbp:OpR X (binaryOp .Add) (qcd X.K):=by
 intro u8 s σ H x y v u Q I rx ry h
 obtain⟨a,b,xs,ys,rfl,rfl,ha,hb,hx,hz,q1,q2⟩:=h
 cases rx
 cases ry
 obtain⟨its,r1,p1,_⟩:=I.tuple ha
 obtain⟨its2,r2,p2,_⟩:=I.tuple hb
 refine HT.cat_tup p1 p2 (λz=>hx (r1.nil_iff.mp z)) (λz=>⟨.ref a,H,I,rfl,q1 (r2.nil_iff.mp z)⟩) (λz=> ?_) (by rw [← r1.length,←r2.length];exact hz)
 refine⟨.ref s.heap.objs.size,_,I.laid (t':=s.toks) (o:= .tup (xs++ys)) (λb ob q=>Ab0 _ q) (Aa6 _) ?_,rfl,q2 (λw=>z (r2.nil_iff.mpr w)) _ (I.hok.fresh (Aa6 _))⟩
 exact⟨by rw [Aa1];exact hz,_,r1.append r2,PTup.new _ _⟩
end
noncomputable def ixN (n:Nat) (i:Int):Option Nat:=if 0<=i then(if i<n then y0 i.toNat else k9)else if -(n:Int)<=i then y0 (i+n).toNat else k9
def atI {α:Type}(xs:List α) (i:Int):Option α:=(ixN xs.length i).bind λj=>xs[j]?
theorem W7 {n:Nat}{i:Int}{j:Nat}(h:ixN n i=y0 j):seqIndex? i n=y0 j/\j<n/\ -(n:Int)<=i/\i<n:=by
 unfold ixN at h
 by_cases h0:0<=i
 ·rw [if_pos h0]at h
  by_cases h1:i<n
  ·rw [if_pos h1]at h
   have e:i.toNat=j:=Ag6.inj h
   exact⟨by rw [seqIndex_of h0 h1,e],by omega,by omega,h1⟩
  ·rw [if_neg h1]at h;cases h
 ·rw [if_neg h0]at h
  by_cases h1: -(n:Int)<=i
  ·rw [if_pos h1]at h
   have e:(i+n).toNat=j:=Ag6.inj h
   exact⟨by rw [seqIndex_neg (by omega) h1,e],by omega,h1,by omega⟩
  ·rw [if_neg h1]at h;cases h
theorem wO {α:Type}{xs:List α}{i:Int}{v:α}(h:atI xs i=y0 v): ∃j,seqIndex? i xs.length=y0 j/\xs[j]? =y0 v/\j<xs.length/\ -(xs.length:Int)<=i/\i<xs.length:=by
 unfold atI at h
 cases e:ixN xs.length i with
 | none=>rw [e]at h;cases h
 | some j=>
  rw [e]at h
  obtain⟨h1,h2,h3,h4⟩:=W7 e
  exact⟨j,h1,h,h2,h3,h4⟩
theorem zo {α:Type}{xs:List α}{j:Nat}{v:α}(h:xs[j]? =y0 v):atI xs (j:Int)=y0 v:=by
 have hj:j<xs.length:=(Aa3.mp h).1
 have e:ixN xs.length (j:Int)=y0 j:=by
  unfold ixN
  rw [if_pos (by omega),if_pos (by omega)];simp
 unfold atI;rw [e];exact h
def qao (b:Expr):Prop:= ∀o i,subscripted b u9 o i=operate [o,i] (getItem o i)
noncomputable def IxR (X:Cx) (r:R2):Prop:=
 ∀(value slice:Expr) (u8:List (Addr×Obj)) (s:Shared) (σ:St) (H:Hp) (x y:V) (v u:Value) (Q:VK),Inv X u8 σ H s->RelV x v->RelV y u->r x y H Q →
  subscripted slice u9 v u=operate [v,u] (getItem v u)->wpAny (model X.prog X.w) X.A (subscriptTail value slice v u) (EP X u8 σ Q) X.xe s
noncomputable def MtR (X:Cx) (id:String) (r:V->List V->Hp->VK->Prop):Prop:=
 ∀(u8:List (Addr×Obj)) (s:Shared) (σ:St) (H:Hp) (x:V) (xs:List V) (v:Value) (us:List Value) (Q:VK),Inv X u8 σ H s->RelV x v->Vals xs us->r x xs H Q →
  wpAny (model X.prog X.w) X.A (call (.builtin id) (v::us)) (EP X u8 σ Q) X.xe s
section
variable {X:Cx}{a b:Expr}{ta tb:TE}{pos:Pos}
theorem IxR.or {r r':R2}(h:IxR X r) (h':IxR X r'):IxR X (λx y H Q=>r x y H Q\/r' x y H Q):=by
 intro value slice u8 s σ H x y v u Q I rx ry q hs
 rcases q with q | q
 ·exact h value slice u8 s σ H x y v u Q I rx ry q hs
 ·exact h' value slice u8 s σ H x y v u Q I rx ry q hs
theorem jb5 {r:R2}(hr:IxR X r) (ha:PE X a ta) (hb:PE X b tb) (hs:qao b):PE X (.Subscript a b pos) (tOp r ta tb):=by
 intro u8 s σ H Q I h
 exact Subscript_ (qch ha hb I h λv u s2 x y H2 I2 rx ry q=>hr a b u8 s2 σ H2 x y v u Q I2 rx ry q (hs _ _))
def xcn (K:Aa5):R2:=λx y H Q=> ∃p xs i v,x= .ref p/\y= .int i/\SqL K H p xs/\atI xs i=y0 v/\Q v H
def xcs (K:Aa5):R2:=λx y H Q=> ∃p xs i v,x= .ref p/\y= .int i/\SqT K H p xs/\atI xs i=y0 v/\Q v H
def zct:R2:=λx y H Q=> ∃z i c,x= .str z/\y= .int i/\z.length<=sizeLine/\atI z.cps.toList i=y0 c/\Q (.str ⟨#[c]⟩) H
theorem ix_list:IxR X (xcn X.K):=by
 intro value slice u8 s σ H x y v u Q I rx ry h hs
 obtain⟨p,xs,i,z,rfl,rfl,hq,he,q⟩:=h
 cases rx
 obtain⟨t,rfl⟩:=ry
 obtain⟨its,r,pl,hz⟩:=I.list hq
 obtain⟨j,h1,h2,h3,h4,h5⟩:=wO he
 obtain⟨w,ew,rw'⟩:=r.get h2
 have hl:=r.length
 have hn:=Zy
 have fin:EP X u8 σ Q w s:=⟨z,H,I,rw',q⟩
 by_cases h0:0<=i
 ·have hj:i.toNat=j:=by
   rw [seqIndex_of h0 h5]at h1
   exact Ag6.inj h1
  exact item_listR pl.isList h0 (by omega) (by rw [hj];simpa using ew) fin hs
 ·have hj:(i+(its.toArray.size:Int)).toNat=j:=by
   rw [seqIndex_neg (by omega) h4]at h1
   rw [Ab,←hl]
   exact Ag6.inj h1
  exact subscriptTail_builtinR (x:=w) pl.isList.typeIs slot_list_getitem.lookup
   (wpAny_getItem_list_neg (Q:=λr s'=>r=w/\EP X u8 σ Q r s') pl.isList (by omega) (by rw [Ab]<;>omega) (by omega) (by rw [hj];simpa using ew) ⟨rfl,fin⟩) hs
theorem ix_tup:IxR X (xcs X.K):=by
 intro value slice u8 s σ H x y v u Q I rx ry h hs
 obtain⟨p,xs,i,z,rfl,rfl,hq,he,q⟩:=h
 cases rx
 obtain⟨t,rfl⟩:=ry
 obtain⟨its,r,pl,hz⟩:=I.tuple hq
 obtain⟨j,h1,h2,h3,h4,h5⟩:=wO he
 obtain⟨w,ew,rw'⟩:=r.get h2
 have hl:=r.length
 have hn:=Zy
 have fin:EP X u8 σ Q w s:=⟨z,H,I,rw',q⟩
 exact subscriptTail_builtinR (x:=w) pl.typeIs slot_tuple_getitem.lookup
  (getItem_tuple (j:=j) (Q:=λr s'=>r=w/\EP X u8 σ Q r s') pl (by omega) (by omega) (by rw [Ab,←hl];exact h1) (by simpa using ew) ⟨rfl,fin⟩) hs
theorem XE:IxR X zct:=by
 intro value slice u8 s σ H x y v u Q I rx ry h hs
 obtain⟨z,i,c,rfl,rfl,hz,he,q⟩:=h
 obtain⟨t,rfl⟩:=rx
 obtain⟨t',rfl⟩:=ry
 obtain⟨j,h1,h2,h3,h4,h5⟩:=wO he
 have hl:z.cps.toList.length=z.length:=by simp [Str.length]
 rw [hl]at h1 h4 h5
 have hn:=Zy
 exact tail_any (typeIs_str s z t) slot_str_getitem.lookup (getItem_str (c:=c) (by
  have e1:k8 (i< -(2 ^ 63:Int))=false:=decide_eq_false (by omega)
  have e2:k8 (i>=2 ^ 63)=false:=decide_eq_false (by omega)
  rw [e1,e2,Bool.or_false]) (by rw [h1];simpa using h2) ⟨.str ⟨#[c]⟩,H,I.tok _,⟨_,rfl⟩,q⟩) hs
def rIx (K:Aa5):R2:=λx y H Q=>xcn K x y H Q\/xcs K x y H Q\/zct x y H Q
theorem xbH:IxR X (rIx X.K):=ix_list.or (ix_tup.or XE)
theorem zY (its:List Value) (n j:Nat) (u:Value):Obj.mapSeq (·.setIfInBounds j u) { cls:= .type "list",data:= .seq its.toArray n }= { cls:= .type "list",data:= .seq (its.set j u).toArray n }:=by
 simp [Obj.mapSeq]
theorem Inv.lst {u8:List (Addr×Obj)}{σ:St}{H:Hp}{s:Shared}{p:Addr}{xs:List V}(I:Inv X u8 σ H s) (h:H p=y0 (.lst xs)):
 ∃(its:List Value) (n:Nat),Vals xs its/\s.heap.get? p=y0 { cls:= .type "list",data:= .seq its.toArray n }/\xs.length<=sizeLine:=by
 obtain⟨z,its,n,r,e⟩:=I.hok p _ h
 exact⟨its,n,r,e,z⟩
theorem Inv.lstUpd {u8:List (Addr×Obj)}{σ:St}{H:Hp}{s:Shared}{p:Addr}{xs ys:List V}{its its':List Value}{n n':Nat}{f:Obj->Obj}(I:Inv X u8 σ H s) (h:H p=y0 (.lst xs))
 (ho:s.heap.get? p=y0 { cls:= .type "list",data:= .seq its.toArray n }) (hf:f { cls:= .type "list",data:= .seq its.toArray n }= { cls:= .type "list",data:= .seq its'.toArray n' }) (r:Vals ys its') (hz:ys.length<=sizeLine) (t:Nat):
 Inv X u8 σ (upd H p (.lst ys)) { s with heap:=s.heap.update p f,toks:=t }:=by
 have e:(s.heap.update p f).get? p=y0 { cls:= .type "list",data:= .seq its'.toArray n' }:=by
  rw [Heap.get?_update_self f ho (by rw [hf]<;>rfl),hf]
 refine I.write (x:=p) (e:=p) (by rw [h];trivial) (.inl rfl) (λb u hb q=>(Ak3 _ _ (Ne.symm hb)).trans q) ⟨_,e⟩ ?_
 exact⟨hz,its',n',r,e⟩
noncomputable def jcl:V->V->V->Hp->(Hp->Prop)->Prop:=λo i v H Q=> ∃p xs k j,o= .ref p/\i= .int k/\H p=y0 (.lst xs)/\ixN xs.length k=y0 j/\Q (upd H p (.lst (xs.set j v)))
theorem JR:jcu X jcl:=by
 intro u8 s σ H o i v ov iv u Q I ro ri rv h
 obtain⟨p,xs,k,j,rfl,rfl,hp,hj,q⟩:=h
 cases ro
 obtain⟨t,rfl⟩:=ri
 obtain⟨its,n,r,ho,hz⟩:=I.lst hp
 obtain⟨h1,h2,h3,h4⟩:=W7 hj
 have hl:=r.length
 have hn:=Zy
 have I':Inv X u8 σ (upd H p (.lst (xs.set j v))) { s with heap:=s.heap.update p (Obj.mapSeq (·.setIfInBounds j u)) }:=
  I.lstUpd hp ho (zY its n j u) (r.set rv j) (by rw [Ad1];exact hz) s.toks
 by_cases h0:0<=k
 ·have hk:k.toNat=j:=by
   rw [seqIndex_of h0 h4]at h1
   exact Ag6.inj h1
  exact PySem.W.ki_setAt ho h0 (by omega) (by rw [Ab,←hl];exact h4) (by rw [hk];exact⟨_,I',q⟩)
 ·have hk:(k+(its.toArray.size:Int)).toNat=j:=by
   rw [seqIndex_neg (by omega) h3]at h1
   rw [Ab,←hl]
   exact Ag6.inj h1
  exact PySem.W.ki_setBack ho (by omega) (by rw [Ab,←hl];exact h3) (by omega) (by rw [hk];exact⟨_,I',q⟩)
theorem ZN (lo hi:Option Int) (n:Nat):(sliceBounds lo hi k9 n).1=((HT.sIx n 0 lo:Nat):Int)/\(sliceBounds lo hi k9 n).2.1=((HT.sIx n n hi:Nat):Int)/\(sliceBounds lo hi k9 n).2.2=1:=by
 refine⟨?_,?_,rfl⟩
 ·cases lo with
  | none=>simp [sliceBounds,HT.sIx]
  | some i=>
   simp only [sliceBounds,HT.sIx,Option.getD_none,show(1:Int)>0 by decide,if_true]
   by_cases h:i<0
   ·simp only [h,if_true]<;>omega
   ·simp only [h,if_false]<;>omega
 ·cases hi with
  | none=>simp [sliceBounds,HT.sIx]
  | some i=>
   simp only [sliceBounds,HT.sIx,Option.getD_none,show(1:Int)>0 by decide,if_true]
   by_cases h:i<0
   ·simp only [h,if_true]<;>omega
   ·simp only [h,if_false]<;>omega
theorem JH (its:List Value) (lo hi:Option Int):slicePick its.toArray lo hi k9=((its.drop (HT.sIx its.length 0 lo)).take (HT.sIx its.length its.length hi-HT.sIx its.length 0 lo)).toArray:=by
 obtain⟨h1,h2,h3⟩:=ZN lo hi its.toArray.size
 unfold slicePick
 rw [h1,h2,h3]
 simp only [sliceRange_one,pick_run,Ab]<;>rfl
noncomputable def jca (K:Aa5):V->Option Int->Option Int->Hp->VK->Prop:=λx lo hi H Q=> ∃a xs,x= .ref a/\SqL K H a xs/\ ∀p,H p=k9->Q (.ref p) (upd H p (.lst (zby xs lo hi)))
theorem sl_list:SlR X (jca X.K):=by
 intro u8 s σ H x v vl vu lo hi sl Q I rx hs pl pu h
 obtain⟨a,xs,rfl,hx,q⟩:=h
 cases rx
 obtain⟨its,r,ht,hz⟩:=I.list hx
 have u7:=r.length
 refine⟨"list",_,slot_list_getitem.lookup,ht.isList.typeIs,?_⟩
 refine wpAny_getItem_list_slice ht.isList hs pl pu .none (by simp) ?_ (by rw [Ab]<;>omega)
 rw [JH,←u7]
 refine⟨.ref s.heap.objs.size,_,I.laid (t':=s.toks) (o:= .lst (zby xs lo hi)) (λb ob q=>Ab0 _ q) (Aa6 _) ?_,rfl,q _ (I.hok.fresh (Aa6 _))⟩
 exact⟨Ac7 (Zz xs lo hi) hz,_,0,(r.drop (HT.sIx xs.length 0 lo)).take (HT.sIx xs.length xs.length hi-HT.sIx xs.length 0 lo),Ac6 _ rfl⟩
def JC:V->Bool
 | .non=>v9
 | .bl _=>v9
 | .int _=>v9
 | .str _=>v9
 | _=>u9
noncomputable def eqV:V->V->Bool
 | .non,.non=>v9
 | .bl a,.bl b=>a==b
 | .bl a,.int b=>(if a then 1 else 0)==b
 | .int a,.bl b=>a==(if b then 1 else 0)
 | .int a,.int b=>a==b
 | .str a,.str b=>a==b
 | _,_=>u9
theorem zbG {A:Around}{s:Shared}{y x:V}{u v:Value}(ry:RelV y u) (rx:RelV x v) (fy:JC y=v9) (fx:JC x=v9):SeqAt.EqAt A s u v (eqV y x):=by
 cases y with
 | non=>
  cases ry
  cases x with
  | non=>cases rx;exact SeqAt.EqAt.same _
  | bl b=>cases rx;exact SeqAt.EqAt.none_bool b
  | int b=>obtain⟨t,rfl⟩:=rx;exact SeqAt.EqAt.none_int b t
  | str b=>obtain⟨t,rfl⟩:=rx;exact SeqAt.EqAt.none_str b t
  | _=>exact absurd (show u9=v9 from fx) Ab2
 | bl a=>
  cases ry
  cases x with
  | non=>cases rx;exact SeqAt.EqAt.bool_none a
  | bl b=>cases rx;exact SeqAt.EqAt.bool_bool a b
  | int b=>obtain⟨t,rfl⟩:=rx;exact SeqAt.EqAt.bool_int a b t
  | str b=>obtain⟨t,rfl⟩:=rx;exact SeqAt.EqAt.bool_str a b t
  | _=>exact absurd (show u9=v9 from fx) Ab2
 | int a=>
  obtain⟨t',rfl⟩:=ry
  cases x with
  | non=>cases rx;exact SeqAt.EqAt.int_none a t'
  | bl b=>cases rx;exact SeqAt.EqAt.int_bool a t' b
  | int b=>obtain⟨t,rfl⟩:=rx;exact SeqAt.EqAt.int_int a t' b t
  | str b=>obtain⟨t,rfl⟩:=rx;exact SeqAt.EqAt.int_str a t' b t
  | _=>exact absurd (show u9=v9 from fx) Ab2
 | str a=>
  obtain⟨t',rfl⟩:=ry
  cases x with
  | non=>cases rx;exact SeqAt.EqAt.str_none a t'
  | bl b=>cases rx;exact SeqAt.EqAt.str_bool a t' b
  | int b=>obtain⟨t,rfl⟩:=rx;exact SeqAt.EqAt.str_int a t' b t
  | str b=>obtain⟨t,rfl⟩:=rx;exact SeqAt.EqAt.str_str a t' b t
  | _=>exact absurd (show u9=v9 from fx) Ab2
 | _=>exact absurd (show u9=v9 from fy) Ab2
noncomputable def eqU (x:V) (u:Value):Bool:=match u with
 | .none=>eqV .non x
 | .bool b=>eqV (.bl b) x
 | .int i _=>eqV (.int i) x
 | .str z _=>eqV (.str z) x
 | _=>u9
theorem ja0 {x y:V}{u:Value}(r:RelV y u) (f:JC y=v9):eqU x u=eqV y x:=by
 cases y with
 | non=>cases r;rfl
 | bl b=>cases r;rfl
 | int i=>obtain⟨t,rfl⟩:=r;rfl
 | str z=>obtain⟨t,rfl⟩:=r;rfl
 | _=>exact absurd (show u9=v9 from f) Ab2
theorem jA {x:V}: ∀ {xs:List V}{us:List Value},Vals xs us->xs.all JC=v9->us.any (eqU x)=xs.any λy=>eqV y x
 | _,_,.nil,_=>rfl
 | y::xs,u::us,.cons r t,f=>by
  rw [Ah6,Ab4]at f
  rw [Ah5,Ah5,ja0 r f.1,jA t f.2]
theorem jr {A:Around}{s:Shared}{x:V}{v:Value}(rx:RelV x v) (fx:JC x=v9): ∀ {xs:List V}{us:List Value},Vals xs us->xs.all JC=v9-> ∀u∈us,SeqAt.EqAt A s u v (eqU x u)
 | _,_,.nil,_=>λu hu=>by cases hu
 | y::xs,u::us,.cons r t,f=>λu' hu=>by
  rw [Ah6,Ab4]at f
  rcases Aa.mp hu with rfl | hu
  ·rw [ja0 r f.1];exact zbG r rx f.1 fx
  ·exact jr rx fx t f.2 u' hu
def inV (x:V) (xs:List V):Bool:=xs.any λy=>eqV y x
noncomputable def rIn (K:Aa5) (neg:Bool):R2:=λx y H Q=> ∃p xs,y= .ref p/\(SqL K H p xs\/SqT K H p xs)/\JC x=v9/\xs.all JC=v9/\Q (.bl (if neg then !inV x xs else inV x xs)) H
theorem J5:OpR X (compareOp .In) (rIn X.K u9):=by
 intro u8 s σ H x y v u Q I rx ry h
 obtain⟨p,xs,rfl,hq,fx,fs,q⟩:=h
 cases ry
 rcases hq with hq | hq
 ·obtain⟨its,r,pl,hz⟩:=I.list hq
  refine SeqAt.in_listAt (eqU x) pl.isList (λw hw=>jr rx fx r fs w (by simpa using hw)) ⟨.bl _,H,I,rfl,?_⟩
  rw [show its.toArray.any (eqU x)=its.any (eqU x)by simp,jA r fs]
  exact q
 ·obtain⟨its,r,pl,hz⟩:=I.tuple hq
  refine SeqAt.in_tupleAt (eqU x) pl (λw hw=>jr rx fx r fs w (by simpa using hw)) ⟨.bl _,H,I,rfl,?_⟩
  rw [show its.toArray.any (eqU x)=its.any (eqU x)by simp,jA r fs]
  exact q
theorem wL:OpR X (compareOp .NotIn) (rIn X.K v9):=by
 intro u8 s σ H x y v u Q I rx ry h
 obtain⟨p,xs,rfl,hq,fx,fs,q⟩:=h
 cases ry
 rcases hq with hq | hq
 ·obtain⟨its,r,pl,hz⟩:=I.list hq
  refine SeqAt.notIn_listAt (eqU x) pl.isList (λw hw=>jr rx fx r fs w (by simpa using hw)) ⟨.bl _,H,I,rfl,?_⟩
  rw [show its.toArray.any (eqU x)=its.any (eqU x)by simp,jA r fs]
  exact q
 ·obtain⟨its,r,pl,hz⟩:=I.tuple hq
  refine SeqAt.notIn_tupleAt (eqU x) pl (λw hw=>jr rx fx r fs w (by simpa using hw)) ⟨.bl _,H,I,rfl,?_⟩
  rw [show its.toArray.any (eqU x)=its.any (eqU x)by simp,jA r fs]
  exact q
theorem ZI:OpR X (compareOp .NotIn) (λx y H Q=> ∃i j,x= .str i/\y= .str j/\Q (.bl (!(!(Builtin.Str.occurrences j i 0 j.length 1).isEmpty))) H):=by
 intro u8 s σ H x y v u Q I rx ry h
 obtain⟨i,j,rfl,rfl,q⟩:=h
 obtain⟨t,rfl⟩:=rx
 obtain⟨t',rfl⟩:=ry
 exact notIn_str ⟨.bl _,H,I,rfl,q⟩
theorem wI:xn X (.builtin "len") (fun xs H Q=> ∃p ys,xs= [.ref p]/\(SqL X.K H p ys\/SqT X.K H p ys)/\Q (.int ys.length) H):=by
 intro u8 s σ H xs us Q I r h
 obtain⟨p,ys,rfl,hq,q⟩:=h
 obtain⟨u,rfl,rx⟩:=WC r
 cases rx
 have hn:=Zy
 rcases hq with hq | hq
 ·obtain⟨its,r',pl,hz⟩:=I.list hq
  have u7:=r'.length
  exact Calls.call_len_list pl.isList (by simp only [Ab]<;>omega) ⟨.int ys.length,H,I.tok _,⟨s.toks+1,by rw [Ab,u7]⟩,q⟩
 ·obtain⟨its,r',pl,hz⟩:=I.tuple hq
  have u7:=r'.length
  exact len_tuple pl (by simp only [Ab]<;>omega) ⟨.int ys.length,H,I.tok _,⟨s.toks+1,by rw [Ab,u7]⟩,q⟩
theorem qM:xn X (.builtin "len") (fun xs H Q=> ∃z,xs= [.str z]/\z.length<=sizeLine/\Q (.int z.length) H):=by
 intro u8 s σ H xs us Q I r h
 obtain⟨z,rfl,hz,q⟩:=h
 obtain⟨u,rfl,t,rfl⟩:=WC r
 have hn:=Zy
 exact len_str (by omega) ⟨.int z.length,H,I.tok _,⟨_,rfl⟩,q⟩
theorem Xf:xn X (.type "tuple") (fun xs H Q=> ∃p ys,xs= [.ref p]/\((SqL X.K H p ys/\ ∀l,H l=none->Q (.ref l) (upd H l (.tup ys)))\/(SqT X.K H p ys/\Q (.ref p) H))):=by
 intro u8 s σ H xs us Q I r h
 obtain⟨p,ys,rfl,h⟩:=h
 obtain⟨u,rfl,rx⟩:=WC r
 cases rx
 rcases h with⟨hq,q⟩ | ⟨hq,q⟩
 ·obtain⟨its,r',pl,hz⟩:=I.list hq
  have u7:=r'.length
  refine call_tuple_list pl.isList (λh' kp=> ?_) (by simp only [Ab]<;>omega)
  have I1:Inv X u8 σ H { s with heap:=h' }:=I.kept (t':=s.toks) kp
  have I2:Inv X u8 σ (upd H h'.objs.size (.tup ys)) { s with heap:=h'.push { cls:= .type "tuple",data:= .seq its.toArray } }:=
   I1.laid (t':=s.toks) (λb o e=>Ab0 _ e) (Aa6 _) (show ObjOk X.prog X.w _ _ _ (.tup ys)from⟨hz,its,r',PTup.new _ _⟩)
  exact⟨.ref h'.objs.size,_,I2,rfl,q _ (I1.hok.fresh (Aa6 _))⟩
 ·obtain⟨its,r',pl,hz⟩:=I.tuple hq
  exact call_tuple_same pl ⟨.ref p,H,I,rfl,q⟩
noncomputable def tyV (K:Aa5) (T:String) (x:V) (H:Hp):Prop:=match x with
 | .str _=>T= "str"
 | .int _=>T= "int"
 | .ref p=>(T= "list" /\ ∃xs,SqL K H p xs)\/(T= "tuple" /\ ∃o,K.lookup p=some o/\o.cls= .type "tuple" /\o.dict=none) ∨
  (T= "dict" /\((∃ kvs,H p=some (.dK kvs))\/ ∃kvs,H p=some (.dT kvs)))\/(T= "set" /\ ∃S n,H p=some (.set S n))
 | _=>False
theorem jbO {u8:List (Addr×Obj)}{σ:St}{H:Hp}{s:Shared}{T:String}{x:V}{v:Value}(I:Inv X u8 σ H s) (r:RelV x v) (ty:tyV X.K T x H):
 s.TypeIs v T/\ ∀a,v= .ref a-> ∃ob,s.heap.get? a=y0 ob/\ob.dict=none:=by
 cases x with
 | str z=>
  obtain⟨t,rfl⟩:=r
  cases (show T= "str" from ty)
  exact⟨typeIs_str s z t,λ_ e=>nomatch e⟩
 | int i=>
  obtain⟨t,rfl⟩:=r
  cases (show T= "int" from ty)
  exact⟨typeIs_int s i t,λ_ e=>nomatch e⟩
 | ref p=>
  cases r
  rcases ty with⟨rfl,xs,hq⟩ | ⟨rfl,o,hk,hc,hd⟩ | ⟨rfl,hk⟩ | ⟨rfl,S,n,hk⟩
  ·obtain⟨its,_,pl,_⟩:=I.list hq
   refine⟨pl.isList.typeIs,λa e=> ?_⟩
   cases e
   obtain⟨o,n,e,c,hd,_⟩:=pl
   exact⟨o,e,hd⟩
  ·refine⟨⟨o,I.kIn p o hk,hc⟩,λa e=> ?_⟩
   cases e
   exact⟨o,I.kIn _ o hk,hd⟩
  ·have z: ∃o,s.heap.get? p=y0 o/\o.ExactDict:=by
    rcases hk with⟨kvs,hk⟩ | ⟨kvs,hk⟩
    ·obtain⟨_,_,_,_,o,_,_,e,ex,_⟩:=I.hok p _ hk
     exact⟨o,e,ex⟩
    ·obtain⟨_,_,_,_,o,_,_,e,ex,_⟩:=I.hok p _ hk
     exact⟨o,e,ex⟩
   obtain⟨o,e,ex⟩:=z
   refine⟨⟨o,e,ex.1⟩,λa e2=> ?_⟩
   cases e2
   exact⟨o,e,ex.2.1⟩
  ·obtain⟨o,_,_,_,e,ex,_⟩:=I.hok p _ hk
   refine⟨⟨o,e,ex.1⟩,λa e2=> ?_⟩
   cases e2
   exact⟨o,e,ex.2.1⟩
 | _=>exact False.elim ty
noncomputable def tBM (K:Aa5) (T:String) (r:V->List V->Hp->VK->Prop) (to:TE) (t:TA):TE:=λσ H Q=>to σ H λx H1=>tyV K T x H1/\t σ H1 λxs H2=>r x xs H2 Q
variable {o e:Expr}{es:List Expr}{to:TE}{t:TA}{name:Str}{apos k6:Pos}{T id:String}{r:V->List V->Hp->VK->Prop}
theorem xck (pa:PlainAttrs T) (slot:Slot T name id) (hty:typeOf (.builtin id)=pure (.type "method_descriptor")) (hm:MtR X id r) (ho:PE X o to) (ha:PA X (e::es) t)
 (hbase:attributeBase o name X.env (eval o X.env)=eval o X.env:=by rfl)
 (hfew:((backTo k6 (starEach (e::es) X.env)).all (λx=> !x.1)&&(backToKw k6 (keywordEach [] X.env)).all (λx=>x.1.isSome)
   &&k8 ((e::es).length+([]:List Keyword).length+(if ([]:List Keyword).isEmpty then 0 else 1)<30))=true:=by rfl)
 (hline:(apos.endLine==k6.line)=true:=by rfl) (hs:starEach (e::es) X.env=(u9,eval e X.env)::starEach es X.env:=by rfl) (hplain:(backTo k6 (starEach es X.env)).any (·.1)=false:=by rfl):
 PE X (.Call (.Attribute o name apos) (e::es) [] k6) (tBM X.K T r to t):=by
 intro u8 s σ H Q I h
 refine wpAny_Call_method_late hbase hfew hline rfl (thn (ho u8 s σ H _ I h) λv s1 ⟨x,H1,I1,r1,ty,q1⟩=> ?_)
 obtain⟨h1,h2⟩:=jbO I1 r1 ty
 refine⟨T,id,pa,slot,hty,h1,h2,?_⟩
 have hA:=ha k6 u8 s1 σ H1 _ I1 q1
 rw [hs]at hA ⊢
 refine Calls.callWith_builtin (by show(u9||(backTo k6 (starEach es X.env)).any (·.1))=u9;rw [hplain]<;>rfl) (Calls.evalArgs_plain ?_)
 exact thn hA λus s2 ⟨vs,H2,I2,r2,q2⟩=>hm u8 s2 σ H2 x vs v us Q I2 r1 r2 q2
/- xs.append(e),list.index on a module's tuple .. are MtR facts of 06m -/
end
noncomputable def MtM (X:Cx) (id:String) (r:V->List V->Hp->VK->Prop):Prop:=
 ∀(u8:List (Addr×Obj)) (s:Shared) (σ:St) (H:Hp) (x:V) (xs:List V) (v:Value) (us:List Value) (Q:VK),Inv X u8 σ H s->RelV x v->Vals xs us->r x xs H Q →
  wpAny (model X.prog X.w) X.A (call (.builtin id) (v::us)) (EP X u8 σ Q) X.xe s
theorem Vals.one: ∀ {x:V}{us:List Value},Vals [x] us-> ∃u,us= [u]/\RelV x u
 | _,_,.cons r .nil=>⟨_,rfl,r⟩
theorem Vals.rep {xs:List V}{us:List Value}(h:Vals xs us): ∀k:Nat,Vals (Aa0 k xs).flatten (Aa0 k us).flatten
 | 0=> .nil
 | k+1=>by
  rw [Ac8,Ac8,Af2,Af2]
  exact Vals.append h (Vals.rep h k)
theorem jL (its:List Value): ∀(k:Nat) (acc:List Value),
 List.foldl (λx1 x2=>x1++x2) acc.toArray (Aa0 k its.toArray)=(acc++(Aa0 k its).flatten).toArray
 | 0,acc=>by simp
 | k+1,acc=>by
  have e:acc.toArray++its.toArray=(acc++its).toArray:=by simp
  have e2:(acc++its)++(Aa0 k its).flatten=acc++(Aa0 (k+1) its).flatten:=by
   rw [Ac8,Af2,Af3]
  rw [← e2,←jL its k (acc++its),←e,Ac8,Ae8]
section
variable {X:Cx}{u8:List (Addr×Obj)}{σ:St}{H:Hp}{s:Shared}{l b:Addr}{xs ys zs:List V}
theorem Inv.lset {its its':List Value}{n:Nat}{f:Array Value->Array Value}{t':Nat}(I:Inv X u8 σ H s) (hH:H l=y0 (.lst xs))
 (e:s.heap.get? l=y0 { cls:= .type "list",data:= .seq its.toArray n }) (hf:f its.toArray=its'.toArray) (hv:Vals ys its') (hz:ys.length<=sizeLine):
 Inv X u8 σ (upd H l (.lst ys)) { s with heap:=s.heap.update l (Obj.mapSeq f),toks:=t' }:=by
 have q:=PySem.IsL.update e f
 rw [hf]at q
 refine I.write (x:=l) (e:=l) (by rw [hH];exact trivial) (.inl rfl) (λb' u hb hu=>(Ak3 s.heap (Obj.mapSeq f) (Ne.symm hb)).trans hu) ⟨_,q⟩ ?_
 exact⟨hz,its',_,hv,q⟩
theorem Inv.lnew {its:List Value}{t':Nat}(I:Inv X u8 σ H s) (hv:Vals ys its) (hz:ys.length<=sizeLine):
 Inv X u8 σ (upd H s.heap.objs.size (.lst ys)) { s with heap:=s.heap.push { cls:= .type "list",data:= .seq its.toArray },toks:=t' }:=
 I.laid (λ_ _ q=>Ab0 _ q) (Aa6 _) ⟨hz,its,0,hv,Ac6 _ rfl⟩
theorem Inv.fresh (I:Inv X u8 σ H s):H s.heap.objs.size=none:=I.hok.fresh (Aa6 _)
theorem Inv.lstM (I:Inv X u8 σ H s) (hH:H l=y0 (.lst xs)):xs.length<=sizeLine/\ ∃(its:List Value) (n:Nat),Vals xs its/\xs.length=its.length/\s.heap.get? l=y0 { cls:= .type "list",data:= .seq its.toArray n }:=by
 obtain⟨z,its,n,r,e⟩:=I.hok l _ hH
 exact⟨z,its,n,r,r.length,e⟩
theorem zaO {n:Nat}(h:n<=sizeLine):Builtin.List.listTooLong n=false:=by
 unfold Builtin.List.listTooLong
 exact decide_eq_false (by omega)
end
section
variable {X:Cx}
noncomputable def jbx:V->List V->Hp->VK->Prop:=λx vs H Q=> ∃l xs y,x= .ref l/\vs= [y]/\H l=y0 (.lst xs)/\xs.length<sizeLine/\Q .non (upd H l (.lst (xs++ [y])))
theorem X6:MtM X "list.append" jbx:=by
 intro u8 s σ H x vs v us Q I rx rv h
 obtain⟨l,xs,y,rfl,rfl,hH,hz,q⟩:=h
 cases rx
 obtain⟨u,rfl,ru⟩:=rv.one
 obtain⟨z,its,n,r,hl,e⟩:=I.lstM hH
 refine call_meets F.slot_list_append ⟨_,e,rfl⟩ F.entry_list_append (F.args_list_append_2 _ _) (PySem.list_append l its.toArray n u (by rw [Ab];omega)) ⟨e,?_⟩
 refine⟨.non,_,I.lset (its':=its++ [u]) hH e (by simp) (r.append (.cons ru .nil)) ?_,rfl,q⟩
 rw [Aa1,Ai1]
 omega
theorem xbr {α:Type}(xs:List α) (k:Nat):(Aa0 k xs).flatten.length=k*xs.length:=by
 induction k with
 | zero=>simp
 | succ k ih=>rw [Ac8,Af2,Aa1,ih,Nat.succ_mul,Nat.add_comm]
end
end L2
namespace Att
open PySem PySem.W PySem.Calls PyProof.Rows
theorem zy {P:Params}{h:Heap}: ∀(ns:List Int) (vs:List Value),WellAll P h vs (ns.map WData.int)->IntsAre vs ns:=by
 intro ns
 induction ns with
 | nil=>
  intro vs w
  rw [Af6]at w
  cases w
  exact .nil
 | cons n ns ih=>
  intro vs w
  rw [Ac]at w
  cases w with
  | cons a b=>
   cases a
   exact .cons _ _ (ih _ b)
theorem zah {l:OpenLaw}{n:Nat}(hn:l.most=y0 n){P:Params}{h:Heap}{args:List WData}{vals:List Value}
 (hpre:l.row.toRowW.claim.pre args=v9) (hwl:WellAll P h vals args):
 ∃a vs ns,vals= [Value.ref a]/\args= [WData.list (ns.map WData.int)]/\h.get? a=y0 { cls:= .type "list",data:= .seq vs.toArray }/\IntsAre vs ns/\ns.length<=n:=by
 have hsh:WShape.hasAll [] args [.list .int]=true:=(pre_splitW hpre).1
 have hc:l.pre.holds [] { args:=args }=true:=(pre_splitW hpre).2
 obtain⟨d,r,rfl,h1,h2⟩:=hasAllW_cons hsh
 obtain rfl:=hasAllW_nil h2
 obtain⟨xs,rfl,h3⟩:=hasW_list h1
 obtain⟨ns,rfl⟩:=items_int h3
 have u7:ns.length<=n:=by
  unfold OpenLaw.pre at hc
  have h4:(WTm.not (.lt (.lit (.int (n:Int))) (.len (.arg 0)))).holds [] { args:= [.list (ns.map .int)] }=true:=by
   have h4:=(holds_andW hc).1
   rw [hn]at h4
   exact h4
  have h5:=condW_of h4 (w_not (w_lt w_lit (w_len_list (w_arg rfl))))
  rw [Ac4]at h5
  refine Nat.le_of_not_lt λq=> ?_
  have q':(n:Int)<((ns.length:Nat):Int):=by omega
  first
   | (rw [decide_eq_true q']at h5;exact absurd h5 (by decide))
   | (simp at h5;omega)
 cases hwl with
 | cons w1 w2=>
  cases w2
  cases w1 with
  | list ho hall=>exact⟨_,_,ns,rfl,rfl,ho,zy ns _ hall,u7⟩
theorem WZ (l:OpenLaw) (args:List WData):l.row.toRowW.claim.post args (.bool v9) args=true:=
 postW_of (r:=l.row.toRowW) (X:=(v9==v9))
  (show WShape.has [] (.bool v9) .bool=v9 by first | rfl | decide | simp [WShape.has,WShape.arms,WShape.armsAll])
  (show (WTm.eq .res (.lit (.bool v9))).value [] { args:=args,res:=y0 (.bool v9),after:=args }=y0 (.bool (v9==v9))from w_eq_bool (w_res rfl) w_lit) rfl
theorem attach_call {l:OpenLaw}{n:Nat}{q:Program}{loose:List Str}{XP:(Str->Option Value)->Heap->Prop}{YP:World->Heap->Prop}{d:DefRec}
 (hn:l.most=y0 n) (hdf:d.params.defaults= [])
 (call: ∀(w:World) (s₀ s₁:Shared) (mg mb:Str->Option Value) (fa:Addr) (o:Obj) (pm cd doc:Value) (a:Addr) (vs:List Value) (ns:List Int),
   Ground q loose [] XP w s₀ mg mb s₁.heap->YP w s₁.heap →
   s₁.heap.get? fa=y0 o->o.data= .func (docDef d.name d.params d.body d.scope pm cd doc)->s₁.heap.CodeRec cd d.name->mg d.name=y0 (.ref fa) →
   s₁.heap.get? a=y0 { cls:= .type "list",data:= .seq vs.toArray }->IntsAre vs ns->ns.length<=n->s₁.gens= #[] →
   codeAny (model l.prog w) callerA (.call (.ref fa) ⟨[.ref a],[]⟩) (λr s'=>r= .ok (.ret (.bool v9))/\OldK s₁.heap s'.heap/\s'.os=s₁.os/\AllBare s'.gens) s₁):
 WalkO q loose XP YP l.row.toRowW d [] (λf vs=>PySem.call f vs):=by
 intro w s₀ s₁ mg mb G Y fa o pm cd doc dV kV ho hd hcd hD hmg hg args vals as hpre hlay hrd hwl hlo
 obtain rfl:dV= .none:=Dflts.none hD hdf
 obtain rfl:kV= .none:=Dflts.noKw hD
 obtain⟨a,vs,ns,rfl,rfl,hobj,hints,u7⟩:=zah hn hpre hwl
 refine enter_call (codeAny_mono (call w s₀ s₁ mg mb fa o pm cd doc a vs ns G Y ho (fd_plain hd) hcd hmg hobj hints u7 hg) λr s' hq=> ?_)
 obtain⟨rfl,h2,h3,h4⟩:=hq
 exact⟨.inl ⟨.bool v9,.bool v9,[],rfl,λ_=>rfl,.bool v9,WZ l _,λ_=>⟨Al6.nil,λ_ hm=>(nomatch hm)⟩⟩,h2,h3,h4⟩
end Att
namespace L2
open PySem PySem.Spec PyProof.Rows
theorem zJ: ∀ {vs:List Value}{ns:List Int},IntsAre vs ns->Vals (ns.map V.int) vs
 | _,_,.nil=> .nil
 | _,_,.cons n t h=> .cons ⟨t,rfl⟩ (zJ h)
def jcf (H:Hp):Prop:= ∀b,H b=k9\/ ∃o xs,H b=y0 (.frz o (.lst xs))
theorem xaQ {P:Program}{w:World}{K:Aa5}{mg mb:Str->Option Value}{CX:CXT}{k:Nat}{fa a:Addr}{fd:FuncData}{x:Str}{sp:Sp}{s₁:Shared}{vs:List Value}{ns:List Int}
 (KX:K.In s₁.heap) (hns:s₁.heap.Ns mainGlobals mg) (hb:s₁.heap.Ns builtinsNs mb) (hbb: ∀x:Str,x≠ "__name__" ->mb x=bootBuiltins x) (hlim:s₁.heap.NoLimit) (hg:s₁.gens= #[])
 (ha:s₁.heap.get? a=y0 { cls:= .type "list",data:= .seq vs.toArray }) (hi:IntsAre vs ns) (hl:ns.length<=sizeLine) (hr:Room k callerA)
 (F: ∀base:Heap,K.In base->base.Ns mainGlobals mg->FnOk P w K mg base CX k fa fd [x] sp) (hbind: ∀(s:Shared) (u:Value),BindsTo s fd ⟨[u],[]⟩ [(x,u)])
 (hsp: ∀H:Hp,jcf H->SqL K H a (ns.map V.int)->sp [.ref a] H (λv _=>v= .bl v9) λ_ _ _=>False)
 (hCX: ∀H e s',CX [] H s₁ (λ_ _ _=>False) e s'->False):
 codeAny (model P w) callerA (.call (.ref fa) ⟨[.ref a],[]⟩) (λr s'=>r= .ok (.ret (.bool v9))/\OldK s₁.heap s'.heap/\s'.os=s₁.os/\AllBare s'.gens) s₁:=by
 have rv:=zJ hi
 have lenV:=hi.length
 have core: ∀H:Hp,jcf H->SqL K H a (ns.map V.int)->HOk P w H s₁.heap->(∀ b,H b≠k9->b=a)->(H a≠k9->K.lookup a=k9) →
  codeAny (model P w) callerA (.call (.ref fa) ⟨[.ref a],[]⟩) (λr s'=>r= .ok (.ret (.bool v9))/\OldK s₁.heap s'.heap/\s'.os=s₁.os/\AllBare s'.gens) s₁:=by
  intro H hO hS hok hA hK
  have base_of: ∀ {b:Addr}{o:Obj},s₁.heap.get? b=y0 o->H b=k9->(xaw s₁.heap H).get? b=y0 o:=λe n=>zay e n
  have noA: ∀ {b:Addr}{o:Obj}{es:Array DictEntry}{ep:Nat},s₁.heap.get? b=y0 o->o.data= .dict es ep->H b=none:=λ{b o es ep} e d=>by
   cases q:H b with
   | none=>rfl
   | some u=>
    have e':b=a:=hA b (by rw [q];simp)
    subst e'
    rw [ha]at e;cases e
    have d':Data.seq vs.toArray _=Data.dict es ep:=d
    cases d'
  have nsK: ∀ {b:Addr}{m:Str->Option Value},s₁.heap.Ns b m->(xaw s₁.heap H).Ns b m:=λ{b m} ⟨o,es,ep,e,d,r⟩=>⟨o,es,ep,base_of e (noA e d),d,r⟩
  have hKb:K.In (xaw s₁.heap H):=λb o e=>base_of (KX b o e) (by
   cases q:H b with
   | none=>rfl
   | some u=>
    have e':b=a:=hA b (by rw [q];simp)
    subst e'
    rw [hK (by rw [q];simp)]at e;cases e)
  have hM:Mod K mg (xaw s₁.heap H):=⟨hKb,nsK hns,⟨mb,nsK hb,hbb⟩,let ⟨mc,h1,h2⟩:=hlim; ⟨mc,nsK h1,h2⟩⟩
  have e0:Env0 P w K mg (xaw s₁.heap H) callerA [] s₁ H:=⟨rfl,hM,λb o e=>qbu e,Am (X5 _ _),trivial,λb hb=>absurd (show b∈([]:List Addr)from hb) (by simp),hok,.of_eq hg⟩
  refine codeAny_mono ((F _ hKb (nsK hns)).run callerA [] s₁ H ⟨[.ref a],[]⟩ [.ref a] [.ref a] _ _ hr e0 (hbind s₁ (.ref a)) (.cons rfl .nil) (hsp H hO hS)) λr s' h=> ?_
  cases r with
  | error e=>exact(hCX H e s' h).elim
  | ok fl=>
   cases fl with
   | next=>exact False.elim h
   | brk=>exact False.elim h
   | cont=>exact False.elim h
   | ret u=>
    obtain⟨v,H',os,bare,un,hok',r',q⟩:=h
    have q':v= .bl true:=q
    subst q'
    obtain rfl:u=Value.bool true:=r'
    refine⟨rfl,OldK.of_keep λb o e=> ?_,os,bare⟩
    cases q:H b with
    | none=>exact un.keep b o e q (by intro z;exact absurd (show b∈([]:List Addr)from z) (by simp)) (by simp)
    | some u=>
     rcases hO b with z | ⟨ob,xs,z⟩
     ·rw [q]at z;cases z
     ·have z2:=un.frzs b ob _ z
      obtain⟨e1,_⟩:=hok b _ z
      obtain⟨e2,_⟩:=hok' b _ z2
      rw [e]at e1;cases e1
      exact e2
 cases hk:K.lookup a with
 | some o=>
  have e:=KX a o hk
  rw [ha]at e
  cases e
  refine core (λ_=>k9) (λ_=> .inl rfl) (.inr ⟨_,vs.toArray,_,hk,rfl,rfl,rfl,by rw [Ab,lenV];exact hl,by simpa using rv⟩) (λb u z=>by have z':(none:Option HO)=y0 u:=z;cases z') (λb z=>absurd rfl z) λz=>absurd rfl z
 | none=>
  refine core (fun b=>if b=a then some (.frz { cls:= .type "list",data:= .seq vs.toArray } (.lst (ns.map V.int)))else none) (fun b=> ?_) (.inl (.inr ⟨{ cls:= .type "list",data:= .seq vs.toArray },if_pos rfl⟩)) (fun b u z=> ?_) (fun b z=> ?_) fun _=>hk
  ·by_cases hb:b=a
   ·exact .inr ⟨_,_,if_pos hb⟩
   ·exact .inl (if_neg hb)
  ·by_cases hb:b=a
   ·have z':=(if_pos hb).symm.trans z
    cases z'
    subst hb
    exact⟨ha,by rw [Ac4];exact hl,vs,_,rv,ha⟩
   ·have z':=(if_neg hb).symm.trans z
    cases z'
  ·by_cases hb:b=a
   ·exact hb
   ·exact absurd (if_neg hb) z
abbrev KOf {K:Aa5}{h:Heap}(_:K.In h):Aa5:=K
theorem walk_of {l:PySem.W.OpenLaw}{n k:Nat}{q:Program}{loose:List Str}{XP:(Str->Option Value)->Heap->Prop}{YP:World->Heap->Prop}{d:DefRec}{K:Params->Aa5}{CX:World->CXT}{sp:World->Sp}{x:Str}
 (hn:l.most=y0 n) (hn2:n<=sizeLine) (hdf:d.params.defaults= []) (hr:Room k callerA)
 (hY: ∀(w:World) (h:Heap),YP w h->(K w.params).In h)
 (F: ∀(w:World) (mg:Str->Option Value) (fa:Addr) (h:Heap),(K w.params).In h->h.Ns mainGlobals mg->mg d.name=y0 (.ref fa) →
   ∃fd:FuncData,(∀ (s:Shared) (u:Value),BindsTo s fd ⟨[u],[]⟩ [(x,u)]) ∧
    ∀base:Heap,(K w.params).In base->base.Ns mainGlobals mg->FnOk l.prog w (K w.params) mg base (CX w) k fa fd [x] (sp w))
 (hsp: ∀(w:World) (H:Hp) (a:Addr) (ns:List Int),ns.length<=n->jcf H->SqL (K w.params) H a (ns.map V.int)->sp w [.ref a] H (λv _=>v= .bl v9) λ_ _ _=>False)
 (hCX: ∀(w:World) (H:Hp) (s:Shared) (e:Value) (s':Shared),CX w [] H s (λ_ _ _=>False) e s'->False):
 PySem.W.WalkO q loose XP YP l.row.toRowW d [] (λf vs=>PySem.call f vs):=by
 refine Att.attach_call hn hdf λw s₀ s₁ mg mb fa o pm cd doc a vs ns G Y ho hd hcd hmg hobj hints u7 hg=> ?_
 have KX:=hY w _ Y
 obtain⟨fd,hb,hF⟩:=F w mg fa _ KX G.T.g hmg
 exact xaQ KX G.T.g G.T.b G.T.builtins G.T.nolimit hg hobj hints (Ac7 u7 hn2) hr hF hb (λH hO hS=>hsp w H a ns u7 hO hS) λH e s'=>hCX w H s₁ e s'
end L2
/- THE LAST THEOREM (shape;LID,My.* are yours):
 My.Adr: a structure of the addresses that your layer names (classes,functions);My.Txt K t: a structure (Prop) of the equations over K;
 My.txt_mk: {K}{implicit addresses ..}(e1:nsIn K mainGlobals "law" =some (some (.ref f))) (e2:K.lookup f=some ⟨oc,od,.func (fnOf "law" "law" params body scope dV kV doc pm an cdv ct),sl⟩) (e3:codeIn K cdv "law" =true) .. : ∃t,My.Txt K t
set_option maxRecDepth 100000 in
set_option maxHeartbeats 0 in
theorem PySem.Challenge.cw_LID_holds : PySem.Challenge.rw_LID.Holds := by
 w_on;o_law;k_head;(case hw=>w_witness2)
 k_fill
 refine L2.walk_of (l:=PySem.Challenge.rw_LID) (n:=63) (k:=40) (x:= "script") (CX:=fun w=> ..) (sp:=fun _=>My.sp_law) rfl (by decide) rfl ⟨rfl,by decide,by decide⟩ (fun w h Y=>PySem.W.kIn_of Y) ?F ?S ?C
 case F=>
  intro w mg fa h KX G hmg
  have T: ∃t,My.Txt (L2.KOf KX) t:=by
   dsimp only [L2.KOf] -- K must stand as «<heap const> w.params» for k_is
   refine' My.txt_mk ?e1 ?e2 ?e3 ..
   (case e1=>PySem.W.k_is) -- in the order: a name->its address->its object->its parts
   (case e2=>PySem.W.k_is)
   ..
  obtain⟨t,T⟩:=T
  have e0:=hmg.symm.trans (Ad9 KX G T.law)
  cases e0 -- fa is the law's own address
  exact⟨_,λs u=> .of_eq rfl,λbase kb nb=>My.law_fn T kb nb⟩ -- if «.of_eq rfl» comes too early: refine'⟨_,?b,λbase kb nb=>My.law_fn T kb nb⟩;exact λs u=> .of_eq rfl
 case S=>exact λw H a ns hl hO hS=> ..
 case C=>exact ..
(the tactic k_is has no namespace: write k_is) -/
namespace L2
open PySem PySem.Spec PyProof.Rows
noncomputable def jf (s:Stmt) (j:Nat):Stmt:=match s with
 | .ClassDef _ _ _ body _ _ _ _ _ _ _=>body.getD j (.Pass ⟨0,0,0,0⟩)
 | _=> .Pass ⟨0,0,0,0⟩
noncomputable def Xl (s:Stmt):Arguments:=match s with
 | .FunctionDef _ a _ _ _ _ _ _ _ _=>a
 | _=> { posonlyargs:= [],args:= [],vararg:=k9,kwonlyargs:= [],kw_defaults:= [],kwarg:=k9,defaults:= [] }
def Jf (s:Stmt):List Stmt:=match s with
 | .FunctionDef _ _ b _ _ _ _ _ _ _=>b
 | _=> []
noncomputable def Wb (s:Stmt):Scope:=match s with
 | .FunctionDef _ _ _ _ _ _ sc _ _ _=>sc
 | _=> { kind:= .function,names:= [],isGenerator:=u9,isCoroutine:=u9 }
abbrev CX0:CXT:=λ_ _ _ _ _ _=>False
abbrev E0:XK:=λ_ _ _=>False
structure Fun (K:Aa5) (x v7:Str) (st:Stmt) (f:Addr) (fd:FuncData):Prop where
 ex: ∃(oc:Value) (od:Option Addr) (kV doc pm:Value) (an:Option Addr) (cdv ct:Value) (osl:Array (Option Value)),
  fd=Ag1 x v7 (Xl st) (Jf st) (Wb st) .none kV doc pm an cdv ct/\K.lookup f=y0 ⟨oc,od,.func fd,osl⟩/\Ai7 K cdv v7=v9
 kp:Ad8 K (.ref f)=v9
section
variable {P:Program}{w:World}{K:Aa5}{mg:Str->Option Value}{base:Heap}
theorem Fun.binds {st:Stmt}(F:Fun K x v7 st f fd)
 (h: ∀ kV doc pm an cdv ct us,us.length=ps.length->bindArgs (Ag1 x v7 (Xl st) (Jf st) (Wb st) .none kV doc pm an cdv ct) ⟨us,[]⟩=pure (ps.zip us)):Binds K fd ps []:=by
 obtain⟨oc,od,kV,doc,pm,an,cdv,ct,osl,rfl,lk,hcd⟩:=F.ex
 exact .all (h kV doc pm an cdv ct)
theorem qae {st:Stmt}{kV doc pm cdv ct:Value}(l:K.lookup f=y0 ⟨oc,od,.func (Ag1 x v7 (Xl st) (Jf st) (Wb st) .none kV doc pm an cdv ct),osl⟩)
 (c:Ai7 K cdv v7=v9) (k:Ad8 K (.ref f)=v9):Fun K x v7 st f (Ag1 x v7 (Xl st) (Jf st) (Wb st) .none kV doc pm an cdv ct):=⟨⟨oc,od,kV,doc,pm,an,cdv,ct,osl,rfl,l,c⟩,k⟩
end
theorem xI (h:n<=1000):n<sizeLine:=Nat.lt_of_le_of_lt h (by decide)
section
variable {X:Cx}
theorem pv (i)(hN:X.N[i]? =some x:=by rfl) (hv:Vis X.env.scope x:=by first | exact Or.inl rfl | exact Or.inr (Or.inl rfl) | exact Or.inr (Or.inr rfl)) (hd:(x==("__debug__" :Str))=false:=by decide)
 (hcd:(x==("__classdict__" :Str))=false:=by decide):PE X (.Name x pos) (xb5 i):=zA hN hv hd hcd
end
theorem jb9 {A B:Prop}(h:B):if u9=v9 then A else B:=by
 rw [if_neg Ab2]
 exact h
theorem zb7 {A B:Prop}(h:A):if v9=v9 then A else B:=by
 rw [if_pos rfl]
 exact h
end L2
set_option maxHeartbeats 4000000
namespace L2
open PySem PySem.Spec PyProof.Rows
noncomputable def Wd (env:Env) (cs:List (Str×Addr)) (y:Str×NameKind):List (Str×Addr):=
 if y.2== .free then(match env.cells.lookup y.1 with | some c=>(y.1,c)::cs | none=>cs)else cs
def Zu (scope:Scope) (env:Env):List (Str×Addr):=scope.names.foldl (Wd env) []
theorem X0 {env:Env}: ∀(names:List (Str×NameKind)) (cs0:List (Str×Addr)),(∀ y∈names,y.2= .free-> ∃c,env.cells.lookup y.1=y0 c) →
 (do
   let mut cs:=cs0
   for (name,kind) in names do
    if kind== .free then cs:=(name,←cellOf env name)::cs
   return cs:Sem (List (Str×Addr)))=pure (names.foldl (Wd env) cs0)
 | [],cs0,_=>by simp
 | (n,k)::r,cs0,h=>by
  have ih:=λcs=>X0 (env:=env) r cs λy hy=>h y (Aa7 _ hy)
  by_cases hk:k= .free
  ·subst hk
   obtain⟨c,hc⟩:=h (n,.free) Aa8 rfl
   have hc:env.cells.lookup n=y0 c:=hc
   have e:Wd env cs0 (n,.free)=(n,c)::cs0:=by
    show(if (NameKind.free==NameKind.free)=v9 then(match env.cells.lookup n with | some c=>(n,c)::cs0 | none=>cs0)else cs0)=_
    rw [if_pos (show (NameKind.free==NameKind.free)=v9 from rfl),hc]
   rw [Ae8,e,←ih]
   simp [List.forIn_cons,cellOf,hc]
  ·have hb:(k==NameKind.free)=false:=by simpa using hk
   have e:Wd env cs0 (n,k)=cs0:=by
    show(if (k==NameKind.free)=v9 then _ else cs0)=_
    rw [hb,if_neg Ab2]
   rw [Ae8,e,←ih]
   simp [List.forIn_cons,hk]
theorem xG {scope:Scope}{env:Env}(h: ∀y∈scope.names,y.2= .free-> ∃c,env.cells.lookup y.1=y0 c):closureFor scope env=pure (Zu scope env):=
 X0 scope.names [] h
theorem XB {env:Env}: ∀(names:List (Str×NameKind)) (cs:List (Str×Addr)),(∀ x c,cs.lookup x=y0 c->env.cells.lookup x=y0 c)-> ∀x c,(names.foldl (Wd env) cs).lookup x=y0 c->env.cells.lookup x=y0 c
 | [],_,h=>h
 | (n,k)::r,cs,h=>by
  refine XB r (Wd env cs (n,k)) λx c e=> ?_
  unfold Wd at e
  split at e
  ·split at e
   ·rename_i c' hc'
    rw [Ab7]at e
    cases hx:x==n with
    | true=>
     rw [hx]at e
     have:x=n:=by simpa using hx
     subst this
     cases e
     exact hc'
    | false=>rw [hx]at e;exact h x c e
   ·exact h x c e
  ·exact h x c e
theorem jJ {env:Env}{x:Str}{c:Addr}(hc:env.cells.lookup x=y0 c): ∀(names:List (Str×NameKind)) (cs:List (Str×Addr)),((x,.free)∈names\/ ∃c',cs.lookup x=y0 c')-> ∃c',(names.foldl (Wd env) cs).lookup x=y0 c'
 | [],cs,h=>h.elim (λz=>absurd z (by simp)) id
 | (n,k)::r,cs,h=>by
  refine jJ hc r (Wd env cs (n,k)) ?_
  have grow:(∃ c',cs.lookup x=y0 c')-> ∃c',(Wd env cs (n,k)).lookup x=y0 c':=λ⟨c',e⟩=>by
   unfold Wd
   split
   ·split
    ·rw [Ab7]
     cases x==n with
     | true=>exact⟨_,rfl⟩
     | false=>exact⟨c',e⟩
    ·exact⟨c',e⟩
   ·exact⟨c',e⟩
  rcases h with h | h
  ·rcases Aa.mp h with h | h
   ·cases h
    refine .inr ⟨c,?_⟩
    show Ah8 x (if (NameKind.free==NameKind.free)=v9 then(match env.cells.lookup x with | some c=>(x,c)::cs | none=>cs)else cs)=_
    rw [if_pos (show (NameKind.free==NameKind.free)=v9 from rfl),hc]
    simp
   ·exact .inl h
  ·exact .inr (grow h)
theorem QI {prog:Program}{w:World}{A:Around}{elt tg iter:Expr}{ifs:List Expr}{scope:Scope}{pos:Pos}{it acc:Value}{env:Env}{R:Result->Shared->Prop}{s:Shared}(I:Nat->Shared->Prop)
 (turn: ∀n s,I n s->wpAny (model prog w) A (pyNext it) (λr s₁=>match r with
   | none=>R (.ok .next) s₁
   | some v=>wpAny (model prog w) A (letOwnedTupleGo tg it v) (λ_ s₁'=>wpAny (model prog w) A (assign tg env v) (λ_ s₂=>
    wpAny (model prog w) A (forIn ifs v9 λc r=>if r=v9 then do let ok ←isTrue c env (eval c env);pure (ForInStep.yield ok)else pure (ForInStep.yield r)) (λok s₃=>
     if ok=v9 then wpAny (model prog w) A (eval elt env) (λx s₄=>
      wpAny (model prog w) A (call (.builtin "list.append") [acc,x]) (fun _ s₅=> ∃m,m<n/\I m s₅) (notedBy (model prog w) A env fun e s'=>R (.error e) s') s₄) (notedBy (model prog w) A env fun e s'=>R (.error e) s') s₃
     else ∃m,m<n/\I m s₃) (notedBy (model prog w) A env λe s'=>R (.error e) s') s₂) (notedBy (model prog w) A env λe s'=>R (.error e) s') s₁') (notedBy (model prog w) A env λe s'=>R (.error e) s') s₁) (notedBy (model prog w) A env λe s'=>R (.error e) s') s)
 (n:Nat) (h:I n s):codeAny (model prog w) A (.compLoop (.ListComp elt [⟨tg,iter,ifs,0⟩] scope pos) 0 it acc env) R s:=by
 refine codeAny_loop rfl I (λn s hI=> ?_) n h
 show wpAny _ A ((compTurn (.ListComp elt [⟨tg,iter,ifs,0⟩] scope pos) 0 it acc env).onRaise (λx=>do noteFrame x env;theTreesLotGoes x)) _ _ s
 refine wpAny_noted ?_
 rw [compTurn_list]
 refine wpAny_bind (wpAny_standAt (wpAny_bind (wpAny_mono (turn n s hI) (λr s₁ h₁=> ?_) λ_ _ h'=>h')))
 cases r with
 | none=>exact wpAny_pure h₁
 | some v=>
  refine wpAny_bind (wpAny_mono h₁ (λ_ s₁' h₁'=> ?_) λ_ _ h'=>h')
  refine wpAny_bind (wpAny_mono h₁' (λ_ s₂ h₂=>wpAny_bind (wpAny_mono h₂ (λok s₃ h₃=> ?_) λ_ _ h'=>h')) λ_ _ h'=>h')
  cases ok with
  | false=>exact wpAny_pure ⟨rfl,h₃⟩
  | true=>
   exact wpAny_bind (wpAny_bind (wpAny_mono h₃ (λx s₄ h₄=>wpAny_bind (wpAny_mono h₄ (λ_ s₅ h₅=>wpAny_pure (wpAny_pure ⟨rfl,h₅⟩)) λ_ _ h'=>h')) λ_ _ h'=>h'))
theorem zO {x:Str}: ∀(names:List (Str×NameKind)) (n:Nat) (acc:List (Str×Addr)),(x,NameKind.cell)∉names->(cellsFrom n names acc).lookup x=acc.lookup x
 | [],_,_,_=>rfl
 | (y,k)::r,n,acc,h=>by
  unfold cellsFrom
  split
  ·rename_i hk
   have hk:k= .cell:=by simpa using hk
   subst hk
   rw [zO r (n+1) _ λz=>h (Aa7 _ z),Ab7]
   cases hx:x==y with
   | true=>
    have:x=y:=by simpa using hx
    subst this
    exact absurd Aa8 h
   | false=>rfl
  ·exact zO r n acc λz=>h (Aa7 _ z)
theorem zR {x:Str}{c:Addr}: ∀(names:List (Str×NameKind)) (h:Heap) (acc:List (Str×Addr)) (Old:Prop),(acc.lookup x=y0 c->Old\/(h.IsCell c k9/\(x,NameKind.cell)∈names\/h.IsCell c k9/\Old))-> ∀lo,lo<=h.objs.size →
 (cellsFrom h.objs.size names acc).lookup x=y0 c->acc.lookup x=y0 c\/(lo<=c/\(x,NameKind.cell)∈names/\(pushCells h names).IsCell c k9)
 | [],_,_,_,_,_,_,e=> .inl e
 | (y,k)::r,h,acc,Old,ha,lo,hlo,e=>by
  unfold cellsFrom at e
  unfold pushCells
  split at e
  ·rename_i hk
   rw [if_pos hk]
   have hk:k= .cell:=by simpa using hk
   subst hk
   have e:(cellsFrom (h.push { cls:= .type "cell",data:= .cell none }).objs.size r ((y,h.objs.size)::acc)).lookup x=some c:=by rw [Heap.size_push];exact e
   rcases zR r (h.push { cls:= .type "cell",data:= .cell none }) _ True (fun _=> .inl trivial) lo (by rw [Heap.size_push];omega) e with q | ⟨q1,q2,q3⟩
   ·rw [Ab7]at q
    cases hx:x==y with
    | true=>
     rw [hx]at q
     have:x=y:=by simpa using hx
     subst this
     cases q
     exact .inr ⟨hlo,List.mem_cons_self,(show (h.push { cls:= .type "cell",data:= .cell none }).IsCell h.objs.size none from⟨_,Heap.get?_push_size _ rfl,rfl⟩).keeps fun b o e=>pushCells_keeps r _ b o e⟩
    | false=>
     rw [hx]at q
     exact .inl q
   ·exact .inr ⟨q1,Aa7 _ q2,q3⟩
  ·rename_i hk
   rw [if_neg hk]
   rcases zR r h acc True (λ_=> .inl trivial) lo hlo e with q | ⟨q1,q2,q3⟩
   ·exact .inl q
   ·exact .inr ⟨q1,Aa7 _ q2,q3⟩
theorem jae: ∀(names:List (Str×NameKind)) (n:Nat) (acc:List (Str×Addr)),(∀ x c,acc.lookup x=y0 c->c<n)->(∀ x y c,acc.lookup x=y0 c->acc.lookup y=y0 c->x=y) →
 ∀x y c,(cellsFrom n names acc).lookup x=y0 c->(cellsFrom n names acc).lookup y=y0 c->x=y
 | [],_,_,_,hi=>hi
 | (z,k)::r,n,acc,hl,hi=>by
  unfold cellsFrom
  split
  ·have look: ∀x c,((z,n)::acc).lookup x=y0 c->(x=z/\c=n)\/(acc.lookup x=y0 c):=λx c e=>by
    rw [Ab7]at e
    cases hx:x==z with
    | true=>
     rw [hx]at e
     cases e
     exact .inl ⟨by simpa using hx,rfl⟩
    | false=>
     rw [hx]at e
     exact .inr e
   refine jae r (n+1) _ (λx c e=> ?_) λx y c e1 e2=> ?_
   ·rcases look x c e with⟨_,q⟩ | q
    ·exact q▸Af1 n
    ·exact Nat.lt_succ_of_lt (hl x c q)
   ·rcases look x c e1 with⟨p1,p2⟩ | p<;>rcases look y c e2 with⟨q1,q2⟩ | q
    ·rw [p1,q1]
    ·exact absurd (p2▸hl y c q) (Af8 _)
    ·exact absurd (q2▸hl x c p) (Af8 _)
    ·exact hi x y c p q
  ·exact jae r n acc hl hi
theorem jF {env:Env}{x:Str}{c:Addr}: ∀(names:List (Str×NameKind)) (cs:List (Str×Addr)),(names.foldl (Wd env) cs).lookup x=y0 c->cs.lookup x=y0 c\/(x,NameKind.free)∈names
 | [],_,h=> .inl h
 | (y,k)::r,cs,h=>by
  rw [Ae8]at h
  rcases jF r _ h with q | q
  ·unfold Wd at q
   split at q
   ·rename_i hk
    have hk:k= .free:=by simpa using hk
    subst hk
    split at q
    ·rw [Ab7]at q
     cases hx:x==y with
     | true=>
      have:x=y:=by simpa using hx
      subst this
      exact .inr Aa8
     | false=>
      rw [hx]at q
      exact .inl q
    ·exact .inl q
   ·exact .inl q
  ·exact .inr (Aa7 _ q)
theorem JM {env:Env}: ∀ {names:List (Str×NameKind)}{x:Str},
 ((names.map λ(n,k)=>if(k==NameKind.free&&env.scope.kind== .function&&env.kindOf n==y0 .cell)then(n,NameKind.cell)else(n,k)).lookup x=y0 .cell ∨
   (names.map λ(n,k)=>if(k==NameKind.free&&env.scope.kind== .function&&env.kindOf n==y0 .cell)then(n,NameKind.cell)else(n,k)).lookup x=y0 .free)->(x,.free)∈names\/(x,.cell)∈names
 | [],_,h=>by simp at h
 | (n,k)::r,x,h=>by
  have ih:= @JM env r x
  rw [Ac]at h
  by_cases hcond:(k==NameKind.free&&env.scope.kind== .function&&env.kindOf n==y0 .cell)=v9
  ·have hf:k= .free:=by
    rw [Ab4,Ab4]at hcond
    simpa using hcond.1.1
   subst hf
   simp only [hcond,if_true,Ab7]at h
   cases hx:x==n with
   | true=>
    have:x=n:=by simpa using hx
    subst this
    exact .inl Aa8
   | false=>
    rw [hx]at h
    exact(ih h).imp (Aa7 _) (Aa7 _)
  ·have hcf:=Aj7.mpr hcond
   simp only [hcf,Af7,if_false,Ab7]at h
   cases hx:x==n with
   | true=>
    have:x=n:=by simpa using hx
    subst this
    rw [hx]at h
    rcases h with h | h
    ·have:k= .cell:=by simpa using h
     subst this
     exact .inr Aa8
    ·have:k= .free:=by simpa using h
     subst this
     exact .inl Aa8
   | false=>
    rw [hx]at h
    exact(ih (by simpa using h)).imp (Aa7 _) (Aa7 _)
theorem zaf: ∀ {names:List (Str×NameKind)}{x:Str}{k k':NameKind},(names.map Prod.fst).Nodup->(x,k)∈names->(x,k')∈names->k=k'
 | (y,j)::r,x,k,k',nd,h1,h2=>by
  rw [Ac,Ag7]at nd
  rcases Aa.mp h1 with e1 | e1<;>rcases Aa.mp h2 with e2 | e2
  ·cases e1;cases e2;rfl
  ·cases e1;exact absurd (Ae3.mpr ⟨_,e2,rfl⟩) nd.1
  ·cases e2;exact absurd (Ae3.mpr ⟨_,e1,rfl⟩) nd.1
  ·exact zaf nd.2 e1 e2
theorem xO: ∀ {names:List (Str×NameKind)}{x:Str}{k:NameKind},(names.map Prod.fst).Nodup->(x,k)∈names->names.lookup x=y0 k
 | (y,j)::r,x,k,nd,h=>by
  rw [Ac,Ag7]at nd
  rw [Ab7]
  rcases Aa.mp h with e | e
  ·cases e;simp
  ·have:(x==y)=false:=by
    cases hx:x==y with
    | false=>rfl
    | true=>
     have:x=y:=by simpa using hx
     subst this
     exact absurd (Ae3.mpr ⟨_,e,rfl⟩) nd.1
   rw [this]
   exact xO nd.2 e
def ja6 (scope:Scope) (C:Addr) (env:Env):List (Str×Addr):=cellsFrom (C+1) scope.names (Zu scope env)
theorem Js {M:Model}{A:Around}{E:Value->Shared->Prop}{s:Shared}{scope:Scope}{globals:Addr}{cl:List (Str×Addr)}{v7:Str}{env:Env}{Q:Env->Shared->Prop}
 (hQ:Q (newEnv scope s.heap.objs.size globals (cellsFrom (s.heap.objs.size+1) scope.names cl) v7 k9 .none (y0 env) builtinsNs) { s with heap:=pushCells (s.heap.push { cls:= .type "dict",data:= .dict #[] }) scope.names }):
 wpAny M A (newFunctionEnv scope globals cl [] v7 k9 .none (y0 env)) Q E s:=by
 simp only [newFunctionEnv,Option.isSome_some,if_true]
 refine wpAny_bind (wpAny_alloc ?_)
 refine wpAny_bind (wpAny_layCells _ (λname kind cells=>by cases hkc:kind==NameKind.cell<;>simp [hkc]) _ _ _ _ ?_)
 rw [show ({ s with heap:=s.heap.push { cls:= .type "dict",data:= .dict #[] } }:Shared).heap.objs.size=s.heap.objs.size+1 from Heap.size_push ..]
 refine wpAny_bind ?_
 rw [List.forIn_nil]
 exact wpAny_pure (wpAny_pure hQ)
noncomputable def Xc (X:Cx) (N:List Str) (scope:Scope) (C:Addr) (fp:List Addr) (s:Shared) (H:Hp):Cx where
 prog:=X.prog
 w:=X.w
 K:=X.K
 mg:=X.mg
 base:=X.base
 A:=X.A
 N:=N
 s₀:=s
 H₀:=H
 env:=compEnvC scope (ja6 scope C X.env) C X.env
 outer:=X.stack
 stack:=X.stack
 ex:=fp
 fn:=λx=>k8 (scope.names.lookup x=y0 .cell)
 calm:=X.calm
 pn:= []
 xe:=λ_ _=>False
noncomputable def CapOk (X:Cx):List Nat->List Str->Prop
 | [],[]=>True
 | j::js,x::xs=>X.N[j]? =y0 x/\(X.env.kindOf x=y0 .cell\/X.env.kindOf x=y0 .free)/\CapOk X js xs
 | _,_=>False
theorem CapOk.get {X:Cx}{σ:St}: ∀ {cap:List Nat}{xs:List Str}{i:Nat}{x:Str}{v:V},CapOk X cap xs->xs[i]? =y0 x->(cap.map λ(j:Nat)=>(σ[j]?).join)[i]? =y0 (y0 v) →
 ∃j:Nat,X.N[j]? =y0 x/\σ[j]? =y0 (y0 v)/\(X.env.kindOf x=y0 .cell\/X.env.kindOf x=y0 .free)
 | [],[],_,_,_,_,e,_=>by simp at e
 | [],_::_,_,_,_,h,_,_=>h.elim
 | _::_,[],_,_,_,h,_,_=>h.elim
 | j::js,x'::xs,0,x,v,h,e1,e2=>by
  obtain⟨h1,h2,_⟩:=h
  simp at e1
  subst e1
  refine⟨j,h1,?_,h2⟩
  have e2:y0 ((σ[j]?).join)=y0 (y0 v):=by simpa using e2
  have e2:(σ[j]?).join=y0 v:=Ag6.inj e2
  cases q:σ[j]? with
  | none=>rw [q]at e2;cases e2
  | some z=>rw [q]at e2;have:z=y0 v:=e2;rw [this]
 | j::js,x'::xs,i+1,x,v,h,e1,e2=>CapOk.get (i:=i) h.2.2 (by simpa using e1) (by simpa using e2)
theorem CapOk.length {X:Cx}: ∀ {cap:List Nat}{xs:List Str},CapOk X cap xs->cap.length=xs.length
 | [],[],_=>rfl
 | [],_::_,h=>h.elim
 | _::_,[],h=>h.elim
 | _::_,_::_,h=>congrArg (· +1) (CapOk.length h.2.2)
def xab (k:Nat) (cap:List Nat) (σ:St):St:=Aa0 k k9++cap.map λ(j:Nat)=>(σ[j]?).join
noncomputable def PTs (X:Cx) (ifs:List Expr) (t:TT):Prop:=
 ∀(u8:List (Addr×Obj)) (s:Shared) (σ:St) (H:Hp) (Q:Bool->Hp->Prop),Inv X u8 σ H s->t σ H Q →
  wpAny (model X.prog X.w) X.A (forIn ifs v9 λc r=>if r=v9 then do let ok ←isTrue c X.env (eval c X.env);pure (ForInStep.yield ok)else pure (ForInStep.yield r)) (TP X u8 σ Q) X.xe s
def zcx:TT:=λ_ H Q=>Q v9 H
theorem qak {X:Cx}:PTs X [] zcx:=λ_ _ _ H _ I h=>wpAny_tests_nil ⟨H,I,h⟩
theorem jah {X:Cx}{c:Expr}{t:TT}(h:PT X c t):PTs X [c] t:=λu8 s σ H Q I hw=>wpAny_tests_one (h u8 s σ H Q I hw)
noncomputable def jcj (J:It) (g:TG) (tc:TT) (te:TE) (τ0:St) (H1:Hp) (Q:VK):Prop:= ∃W:Nat->Nat->List V->St->Hp->Prop,(∃ m,W 0 m [] τ0 H1)/\ ∀i m ys τ H,W i m ys τ H →
 (J.stop i H/\ys.length<=sizeLine/\ ∀D,H D=k9->Q (.ref D) (upd H D (.lst ys))) ∨
 (J.go i H/\ys.length<sizeLine/\ ∃N:List V->St->Hp->Prop,(∀ ys' τ' H',N ys' τ' H'-> ∃m',m'<m/\W (i+1) m' ys' τ' H') ∧
   ∀x H',J.yld i H x H'->g x τ H' λτ2 H2=>tc τ2 H2 λb H3=>if b=v9 then te τ2 H3 λy H4=>N (ys++ [y]) τ2 H4 else N ys τ2 H3)
abbrev Blk (α:Type):=Addr->List Addr->Shared->Hp->α
noncomputable def jaD (k:Nat) (cap:List Nat) (wi:TI) (g:Blk TG) (tc:Blk TT) (te:Blk TE):TE:=λσ H Q=>wi σ H λJ H1=> ∀C fp s,jcj J (g C fp s H1) (tc C fp s H1) (te C fp s H1) (xab k cap σ) H1 Q
theorem Inv.adopt {X:Cx}{u8:List (Addr×Obj)}{σ:St}{H:Hp}{s:Shared}{D:Addr}{ys:List V}{its:List Value}{n:Nat}(I:Inv X u8 σ H s) (hD:WY X u8 H D) (hs:X.s₀.heap.objs.size<=D)
 (e:s.heap.get? D=y0 { cls:= .type "list",data:= .seq its.toArray n }) (r:Vals ys its) (hz:ys.length<=sizeLine):Inv X u8 σ (upd H D (.lst ys)) s:=by
 obtain⟨h0,h1,h2,h3,h4,h5⟩:=hD
 have up: ∀b o,H b=y0 o->upd H D (.lst ys) b=y0 o:=λb o q=>by rw [ja (Za q h0)];exact q
 have old: ∀b o,X.s₀.heap.get? b=y0 o->b≠D:=λb o q z=>by rw [z]at q;exact absurd (Ab3 (Ab6 q) hs) (Af8 _)
 refine⟨I.ok,I.os,I.bare,⟨I.base.keep,I.base.slot,λb o e' n' hx=> ?_,I.base.there,λb xs q=>up b _ (I.base.tups b xs q),λb o u q=>up b _ (I.base.frzs b o u q),λb ps q=> ?_⟩,I.loc,I.cell,?_,λx c q=> ?_,λp hp=> ?_,λb u q=> ?_,I.len⟩
 ·rw [ja (old b o e')];exact I.base.free b o e' n' hx
 ·obtain⟨more,q'⟩:=I.base.tbls b ps q
  exact⟨more,up b _ q'⟩
 ·rw [ja (Ne.symm h1)];exact I.free
 ·rw [ja (h4 x c q)];exact I.freeC x c q
 ·obtain⟨a1,a2,a3⟩:=I.pin p hp
  exact⟨a1,by rw [ja (h5 p hp)];exact a2,a3⟩
 ·by_cases hb:b=D
  ·subst hb
   rw [jd]at q
   cases q
   exact⟨hz,its,n,r,e⟩
  ·rw [ja hb]at q
   exact(I.hok b u q).stay (λ_ _ _ z=>z) (λc z=>up c _ z) λc xs z=>up c _ z
theorem Xh {env:Env}: ∀ {names:List (Str×NameKind)}{x:Str},names.lookup x=y0 .free →
 ((names.map λ(n,k)=>if(k==NameKind.free&&env.scope.kind== .function&&env.kindOf n==y0 .cell)then(n,NameKind.cell)else(n,k)).lookup x=y0 .cell ∨
   (names.map λ(n,k)=>if(k==NameKind.free&&env.scope.kind== .function&&env.kindOf n==y0 .cell)then(n,NameKind.cell)else(n,k)).lookup x=y0 .free)
 | [],_,h=>by simp at h
 | (n,k)::r,x,h=>by
  have ih:= @Xh env r x
  rw [Ac]
  rw [Ab7]at h
  cases hx:x==n with
  | true=>
   rw [hx]at h
   have hk:k= .free:=by simpa using h
   subst hk
   by_cases hcond:(NameKind.free==NameKind.free&&env.scope.kind== .function&&env.kindOf n==y0 .cell)=v9
   ·simp only [hcond,if_true,Ab7,hx]
    first | exact .inl rfl | exact .inl trivial | simp
   ·have hcf:=Aj7.mpr hcond
    simp only [hcf,Af7,if_false,Ab7,hx]
    first | exact .inr rfl | exact .inr trivial | simp
  | false=>
   rw [hx]at h
   have q:=ih h
   by_cases hcond:(k==NameKind.free&&env.scope.kind== .function&&env.kindOf n==y0 .cell)=v9
   ·simp only [hcond,if_true,Ab7,hx]
    exact q
   ·have hcf:=Aj7.mpr hcond
    simp only [hcf,Af7,if_false,Ab7,hx]
    exact q
structure QM (X:Cx) (scope:Scope) (N:List Str) (k:Nat) (cap:List Nat):Prop where
 kind:scope.kind= .function
 nd:(scope.names.map Prod.fst).Nodup
 names: ∀y∈scope.names,y.2= .local->scope.names.lookup y.1=y0 .local
 free: ∀y∈scope.names,y.2= .free->X.env.kindOf y.1=y0 .cell\/X.env.kindOf y.1=y0 .free
 capf: ∀x∈N.drop k,scope.names.lookup x=y0 .free
 cap:CapOk X cap (N.drop k)
 le:k<=N.length
structure zca (sc scope:Scope) (N:List Str) (k:Nat):Prop where
 kind:scope.kind= .function
 nd:(scope.names.map Prod.fst).Nodup
 names: ∀y∈scope.names,y.2= .local->scope.names.lookup y.1=y0 .local
 free: ∀y∈scope.names,y.2= .free->sc.names.lookup y.1=y0 .cell\/sc.names.lookup y.1=y0 .free
 capf: ∀x∈N.drop k,scope.names.lookup x=y0 .free
 le:k<=N.length
section
variable {X:Cx}{elt tg iter:Expr}{ifs:List Expr}{scope:Scope}{pos p0:Pos}{N:List Str}{k:Nat}{cap:List Nat}{wi:TI}{g:Blk TG}{tc:Blk TT}{te:Blk TE}
theorem WX {u8:List (Addr×Obj)}{s2:Shared}{σ:St}{H2:Hp}{tk:Nat}{fp:List Addr}{C:Addr}{h₁:Heap}{m:Str->Option Value}(ok:QM X scope N k cap) (I2:Inv X u8 σ H2 s2) (f2: ∀b∈fp,WY X u8 H2 b) (fo: ∀b∈fp,b<s2.heap.objs.size)
 (hC:s2.heap.objs.size<=C) (hns:h₁.Ns C m) (old: ∀b o,s2.heap.get? b=y0 o->h₁.get? b=y0 o)
 (hcc: ∀x c,(ja6 scope C X.env).lookup x=y0 c->(Zu scope X.env).lookup x=y0 c\/(C+1<=c/\(x,NameKind.cell)∈scope.names/\h₁.IsCell c k9)):
 Inv (Xc X N scope C fp s2 H2) [] (xab k cap σ) H2 { s2 with heap:=h₁,toks:=tk }:=by
 have sub: ∀x c,(Zu scope X.env).lookup x=y0 c->X.env.cells.lookup x=y0 c:=XB scope.names [] λx c e=>by simp at e
 have has: ∀x,(x,NameKind.free)∈scope.names-> ∃c,(Zu scope X.env).lookup x=y0 c:=λx hm=>by
  obtain⟨c,hc⟩:=I2.ok.has x (ok.free _ hm rfl)
  exact jJ hc scope.names [] (.inl hm)
 have lt: ∀x c,(Zu scope X.env).lookup x=y0 c->c<C+1:=λx c e=>by
  obtain⟨v,o,ho,_⟩:=I2.cell x c (sub x c e)
  exact Nat.lt_succ_of_le (Ac7 (Aj3 (Ab6 ho)) hC)
 have inj:=jae scope.names (C+1) (Zu scope X.env) lt λx y c h1 h2=>I2.ok.inj x y c (sub x c h1) (sub y c h2)
 have keep: ∀x c,(x,NameKind.free)∈scope.names->(Zu scope X.env).lookup x=y0 c->(ja6 scope C X.env).lookup x=y0 c:=λx c hm e=>by
  unfold ja6
  rw [zO scope.names (C+1) _ λz=>by cases zaf ok.nd hm z]
  exact e
 have hasC: ∀x,(x,NameKind.free)∈scope.names\/(x,NameKind.cell)∈scope.names-> ∃c,(ja6 scope C X.env).lookup x=y0 c:=λx hx=>by
  rcases hx with hx | hx
  ·obtain⟨c,hc⟩:=has x hx
   exact⟨c,keep x c hx hc⟩
  ·exact Ae6.mp (Aj8 scope.names (C+1) (Zu scope X.env) (.inl (xO ok.nd hx)))
 refine⟨⟨I2.ok.mod,ok.kind,I2.ok.glob,I2.ok.blt,hC,inj,λx hx=>hasC x (JM hx),λx c hf e=> ?_,I2.ok.hd,I2.ok.frames,.inl rfl,λb hb=>⟨?_,λx c e=> ?_⟩,
  λb o e=>I2.bs b o e,Ac7 I2.ok.bsz I2.sz,λb o e hb=> ?_,λb hb z=>(Aa.mp (I2.stkSub b z)).elim (f2 b hb).2.1 (f2 b hb).2.2.1,I2.stack,I2.stkFree⟩,
  rfl,I2.bare,Un.kept old,⟨m,hns,λi x v e1 e2 e3=> ?_⟩,λx c e=> ?_,I2.hok.fresh hC,λx c e=> ?_,λp hp=>absurd (show p∈([]:List (Addr×Obj))from hp) (by simp),I2.hok.kept old,?_⟩
 ·have hf:=of_decide_eq_true hf
  rcases hcc x c e with q | q
  ·rcases jF scope.names [] q with z | z
   ·simp at z
   ·have:=xO ok.nd z
    rw [hf]at this
    cases this
  ·exact Ac7 hC (Ac7 (Ae C) q.1)
 ·show b≠C
  exact Ad (Ab3 (fo b hb) hC)
 ·rcases hcc x c e with q | q
  ·exact(f2 b hb).2.2.2.2.1 x c (sub x c q)
  ·exact Ne.symm (Ad (Ab3 (fo b hb) (Ac7 hC (Ac7 (Ae C) q.1))))
 ·rcases (f2 b hb).2.2.2.1 with z | z
  ·exact I2.ok.noex b o e z
  ·have h1:=Ab6 e
   have h2:=I2.ok.bsz
   exact absurd (Ab3 h1 (Ac7 h2 z)) (Af8 _)
 ·have hik:k<=i:=by
   by_cases hik:i<k
   ·have e2:(Aa0 k k9++cap.map λ(j:Nat)=>(σ[j]?).join)[i]? =y0 (y0 v):=e2
    rw [Ac1 (by simpa using hik),Ak1,if_pos hik]at e2
    cases e2
   ·omega
  have e1':(N.drop k)[i-k]? =y0 x:=by
   rw [List.getElem?_drop,show k+(i-k)=i by omega];exact e1
  have e2':(cap.map λ(j:Nat)=>(σ[j]?).join)[i-k]? =y0 (y0 v):=by
   have e2:(Aa0 k k9++cap.map λ(j:Nat)=>(σ[j]?).join)[i]? =y0 (y0 v):=e2
   rw [Ac5 (by simpa using hik),Ae1]at e2
   exact e2
  obtain⟨j,j1,j2,j3⟩:=ok.cap.get (σ:=σ) e1' e2'
  obtain⟨m2,hn,hl⟩:=I2.loc
  obtain⟨u,r,l⟩:=hl j x v j1 j2 (.inr (j3.elim (λz=> .inl z) λz=> .inr z))
  refine⟨u,r,.inr ?_⟩
  have hf:=ok.capf x (Ai5 e1')
  refine⟨Xh hf,?_⟩
  obtain⟨c,hc⟩:=has x (PySem.mem_of_lookup hf)
  refine⟨c,keep x c (PySem.mem_of_lookup hf) hc,?_⟩
  rcases l with⟨lk,_⟩ | ⟨_,c',hc',o,ho,hd⟩
  ·rcases j3 with z | z<;>(rw [lk]at z;cases z)
  ·have hcc:=sub x c hc
   rw [hc']at hcc
   cases hcc
   exact⟨o,old _ o ho,hd⟩
 ·rcases hcc x c e with q | q
  ·obtain⟨v,o,ho,hd⟩:=I2.cell x c (sub x c q)
   exact⟨v,o,old c o ho,hd⟩
  ·exact⟨k9,q.2.2⟩
 ·rcases hcc x c e with q | q
  ·exact I2.freeC x c (sub x c q)
  ·exact I2.hok.fresh (Ac7 hC (Ac7 (Ae C) q.1))
 ·show(Aa0 k k9++cap.map λ(j:Nat)=>(σ[j]?).join).length=N.length
  have h1:=ok.cap.length
  have h2:=ok.le
  rw [Aa1,Ae1,Ac4,h1,Ag4]
  omega
theorem zL (use:Option (Value->Sem Unit)) (hc:X.calm=v9) (ok:QM X scope N k cap) (hi:PI X tg iter wi)
 (hg: ∀C fp s H,PG (Xc X N scope C fp s H) tg (g C fp s H)) (ht: ∀C fp s H,PTs (Xc X N scope C fp s H) ifs (tc C fp s H)) (he: ∀C fp s H,PE (Xc X N scope C fp s H) elt (te C fp s H))
 (hs: ∀x,foldedSetIterable iter X.env x=pure x)
 {u8:List (Addr×Obj)}{s:Shared}{σ:St}{H:Hp}{Q:VK}{Q':Value->Shared->Prop}(I:Inv X u8 σ H s) (h:jaD k cap wi g tc te σ H Q)
 (fin: ∀(D C:Addr) (oC:Obj) (m:Str->Option Value) (H4:Hp) (s4:Shared),Inv X (u8++ [(C,oC)]) σ H4 s4->WY X u8 H4 C->Q (.ref D) H4->(∀ h:Heap,h.get? C=y0 oC->h.Ns C m) →
   compPost (model X.prog X.w) X.A X.xe use Q' (.ref D) C (.ok .next) s4):
 wpAny (model X.prog X.w) X.A (comprehension (.ListComp elt [⟨tg,iter,ifs,0⟩] scope pos) scope X.env p0 (newList []) u9 (eval iter X.env) use) Q' X.xe s:=by
 have hcl:closureFor scope X.env=pure (Zu scope X.env):=xG λy hy hf=>I.ok.has y.1 (ok.free y hy hf)
 refine wpAny_comprehension_free (use:=use) rfl hs hcl ok.kind ok.names (thn (hi u8 s σ H _ I h) λv s1 h1=>thn h1 λitv s2 h2=> ?_)
 obtain⟨it,fp,tn,J,H2,e,I2,T,st2,f2,hW⟩:=h2
 subst e
 refine wpAny_newObj_type (Js ?_)
 dsimp only
 generalize hHp:s2.heap.push { cls:= .type "list",dict:=none,data:= .seq ([]:List Value).toArray }=HP
 have hCs:HP.objs.size=s2.heap.objs.size+1:=by rw [← hHp,Ak8]
 generalize hDD:s2.heap.objs.size=D at hCs ⊢
 have hns0:(HP.push { cls:= .type "dict",data:= .dict #[] }).Ns HP.objs.size fun _=>none:=Heap.Ns.new HP (.type "dict")
 have hlk: ∀x c,(ja6 scope HP.objs.size X.env).lookup x=some c->(Zu scope X.env).lookup x=some c\/(HP.objs.size+1<=c/\(x,NameKind.cell)∈scope.names/\(pushCells (HP.push { cls:= .type "dict",data:= .dict #[] }) scope.names).IsCell c none):=fun x c e=>by
  refine zR scope.names (HP.push { cls:= .type "dict",data:= .dict #[] }) (Zu scope X.env) True (fun _=> .inl trivial) (HP.objs.size+1) (by rw [Heap.size_push];exact Nat.le_refl _) ?_
  rw [Ak8]
  exact e
 generalize hh1:pushCells (HP.push { cls:= .type "dict",data:= .dict #[] }) scope.names=h₁ at hlk ⊢
 have hns₁:h₁.Ns HP.objs.size λ_=>none:=by rw [← hh1];exact hns0.keeps (pushCells_keeps _ _)
 have hk1: ∀b o,HP.get? b=y0 o->h₁.get? b=y0 o:=λb o e=>by
  rw [← hh1]
  exact pushCells_keeps _ _ b o (Ab0 _ e)
 generalize hCC:HP.objs.size=C at hCs hns₁ hlk ⊢
 have hDC:D≠C:=by rw [hCs];exact Ad (Af1 _)
 have hle:s2.heap.objs.size<=C:=by rw [hDD,hCs];exact Ae _
 have hleD:s2.heap.objs.size<=D:=Am hDD
 have fo: ∀b∈fp,b<D:=λb hb=>by
  obtain⟨o,eo,_⟩:=T.obj _ _ st2 b hb
  rw [← hDD]
  exact Ab6 eo
 have old: ∀b o,s2.heap.get? b=y0 o->h₁.get? b=y0 o:=λb o e=>by
  exact hk1 b o (hHp▸Ab0 _ e)
 have hacc:h₁.get? D=y0 { cls:= .type "list",data:= .seq ([]:List Value).toArray }:=by
  refine hk1 _ _ ?_
  rw [← hHp,←hDD]
  exact Ac6 _ rfl
 obtain⟨W,⟨m0,w0⟩,turn⟩:=hW C fp s2
 have I3:Inv (Xc X N scope C fp s2 H2) [] (xab k cap σ) H2 { s2 with heap:=h₁,toks:=s2.toks }:=
  WX ok I2 f2 (λb hb=>by rw [hDD];exact fo b hb) hle hns₁ old hlk
 have st3:tn 0 h₁:=T.keep _ _ _ st2 λb _ o e=>old b o e
 have hch: ∀b∈fp,(b∈X.ex\/X.s₀.heap.objs.size<=b)/\b≠X.env.locals/\(∀ x c,X.env.cells.lookup x=y0 c->c≠b)/\ ∀p∈X.pn++u8,p.1≠b:=λb hb=>⟨(f2 b hb).2.2.2.1,(f2 b hb).2.1,(f2 b hb).2.2.2.2.1,(f2 b hb).2.2.2.2.2⟩
 have FD: ∀ {H':Hp},H' D=k9->WY X u8 H' D:=λhn=>I2.fpOk hleD hn
 have FC: ∀ {H':Hp},H' C=k9->WY X u8 H' C:=λhn=>I2.fpOk hle hn
 have sub: ∀x c,(Zu scope X.env).lookup x=y0 c->X.env.cells.lookup x=y0 c:=XB scope.names [] λx c e=>by simp at e
 have hDst:D∉frs X.stack:=λz=>(Aa.mp (I2.stkSub D z)).elim (FD (H':=λ_=>k9) rfl).2.1 (FD (H':=λ_=>k9) rfl).2.2.1
 have hDc: ∀x c,(ja6 scope C X.env).lookup x=y0 c->c≠D:=λx c e=>by
  rcases hlk x c e with q | q
  ·exact(FD (H':=λ_=>k9) rfl).2.2.2.2.1 x c (sub x c q)
  ·exact Ne.symm (Ad (Ab3 (by rw [hCs];exact Nat.lt_succ_of_lt (Af1 _)) q.1))
 have loop: ∀s₃:Shared,s₃= { s2 with heap:=h₁,toks:=s2.toks } →
  codeAny (model X.prog X.w) X.A (.compLoop (.ListComp elt [⟨tg,iter,ifs,0⟩] scope pos) 0 (.ref it) (.ref D) (compEnvC scope (ja6 scope C X.env) C X.env))
   (compPost (model X.prog X.w) X.A X.xe use Q' (.ref D) C) s₃:=by
  rintro s₃ rfl
  refine QI (λn s'=> ∃i ys its kk τ H',Inv (Xc X N scope C fp s2 H2) [] τ H' s'/\tn i s'.heap/\(∀ b∈fp,H' b=k9)/\H' D=k9/\s'.heap.get? D=y0 { cls:= .type "list",data:= .seq (its:List Value).toArray kk }/\Vals ys its/\W i n ys τ H')
   ?_ m0 ⟨0,[],[],0,_,H2,I3,st3,λb hb=>(f2 b hb).1,I2.hok.fresh hleD,hacc,.nil,w0⟩
  rintro n s3 ⟨i,ys,its,kk,τ,H3,I3,st3,fr3,hD3,eD3,rv3,w3⟩
  have IP:Inv (Xc X N scope C fp s2 H2) [(D,{ cls:= .type "list",data:= .seq its.toArray kk })] τ H3 s3:=I3.pins_of fun p hp=>by
   have e:p=(D,{ cls:= .type "list",data:= .seq its.toArray kk }):=by simpa using hp
   subst e
   exact⟨eD3,hD3,hDC,hDst,λv z=>by cases z⟩
  have fpok: ∀ {H':Hp},(∀ b∈fp,H' b=k9)-> ∀b∈fp,WY (Xc X N scope C fp s2 H2) [(D,{ cls:= .type "list",data:= .seq its.toArray kk })] H' b:=fun {H'} hn b hb=>by
   refine⟨hn b hb,I3.ok.exf b hb |>.1,I3.ok.exfs b hb,.inl hb,I3.ok.exf b hb |>.2,λp hp=> ?_⟩
   have e:p=(D,{ cls:= .type "list",data:= .seq its.toArray kk }):=by
    have hp:p∈([]:List (Addr×Obj))++ [(D,{ cls:= .type "list",data:= .seq its.toArray kk })]:=hp
    simpa using hp
   rw [e]
   exact Ne.symm (Ad (fo b hb))
  rcases turn i n ys τ H3 w3 with⟨stop,hz,q⟩ | ⟨go,hz,NN,hN,step⟩
  ·refine thn (T.done (Xc X N scope C fp s2 H2) rfl rfl rfl hc i _ s3 τ H3 _ IP (fpok fr3) st3 stop) λr s4 ⟨hr,I4⟩=> ?_
   subst hr
   have eD4:=(I4.pin _ (Ab1 _ Aa8)).1
   have I5:Inv X u8 σ H3 s4:=I2.call' (ch:=fp) I4.os I4.base I4.hok I4.bare hch
   have I6:=I5.adopt (FD hD3) (Ac7 I2.sz hleD) eD4 rv3 hz
   obtain⟨m,⟨oC,es,ep,hoC,hdC,hr⟩,_⟩:=I4.loc
   have fC:WY X u8 (upd H3 D (.lst ys)) C:=FC (by rw [ja (Ne.symm hDC)];exact I4.free)
   have I7:Inv X (u8++ [(C,oC)]) σ (upd H3 D (.lst ys)) s4:=I6.pins_of λp hp=>(Ad2.mp hp).elim (λz=>I6.pin p (Ab1 _ z)) λz=>by
    have e:p=(C,oC):=by simpa using z
    subst e
    exact⟨hoC,fC.1,fC.2.1,fC.2.2.1,λv z=>by rw [hdC]at z;cases z⟩
   exact fin D C oC m _ s4 I7 fC (q D hD3) λh e=>⟨oC,es,ep,e,hdC,hr⟩
  ·refine thn (T.item (Xc X N scope C fp s2 H2) rfl rfl rfl hc i _ s3 τ H3 _ IP (fpok fr3) st3 go) λr s4 ⟨u,hr,h4⟩=> ?_
   subst hr
   refine thn h4 λ_ s5 ⟨x,H5,I5,r5,y5,st5,fr5⟩=> ?_
   have I5':=I5.pinned (fpok fr5) (T.obj _ _ st5)
   refine wpAny_mono (hg C fp s2 H2 _ s5 τ H5 x u _ I5' r5 (step x H5 y5)) (λ_ s6 ⟨σ6,H6,I6,q6⟩=> ?_) λ_ _ z=>False.elim z
   refine wpAny_mono (ht C fp s2 H2 _ s6 σ6 H6 _ I6 q6) (λb s7 ⟨H7,I7,q7⟩=> ?_) λ_ _ z=>False.elim z
   have hp5: ∀b∈fp,∃o,s5.heap.get? b=y0 o:=λb hb=>let ⟨o,e,_⟩:=T.obj _ _ st5 b hb; ⟨o,e⟩
   cases b with
   | false=>
    rw [if_neg Ab2]at q7 ⊢
    obtain⟨m',hm,w7⟩:=hN _ _ _ q7
    refine⟨m',hm,i+1,ys,its,kk,σ6,H7,I7.pins_of λp hp=>absurd hp (by simp),T.keep _ _ _ st5 λb hb o e=>(I7.pin (b,o) (Ab1 _ (Ab1 _ (ji hb e)))).1,λb hb=> ?_,?_,?_,rv3,w7⟩
    ·obtain⟨o,e⟩:=hp5 b hb
     exact(I7.pin (b,o) (Ab1 _ (Ab1 _ (ji hb e)))).2.1
    ·exact(I7.pin _ (Ab1 _ (Ag0 _ Aa8))).2.1
    ·exact(I7.pin _ (Ab1 _ (Ag0 _ Aa8))).1
   | true=>
    rw [if_pos rfl]at q7 ⊢
    refine wpAny_mono (he C fp s2 H2 _ s7 σ6 H7 _ I7 q7) (λy s8 ⟨yv,H8,I8,r8,q8⟩=> ?_) λ_ _ z=>False.elim z
    have pD:=I8.pin _ (Ab1 _ (Ag0 _ Aa8))
    have eD8:s8.heap.get? D=y0 { cls:= .type "list",data:= .seq its.toArray kk }:=pD.1
    have hD8:H8 D=none:=pD.2.1
    have u7:=rv3.length
    refine call_meets F.slot_list_append ⟨_,eD8,rfl⟩ F.entry_list_append (F.args_list_append_2 _ _) (PySem.list_append D its.toArray kk y (by rw [Ab];omega)) ⟨eD8,?_⟩
    obtain⟨m',hm,w8⟩:=hN _ _ _ q8
    have IQ:Inv (Xc X N scope C fp s2 H2) (zB fp s5.heap) σ6 H8 s8:=I8.pins_of λp hp=>I8.pin p (Ab1 _ (Ab1 _ hp))
    have e9:=PySem.IsL.update eD8 (·.push y)
    rw [show its.toArray.push y=(its++ [y]).toArray by simp]at e9
    have I9:Inv (Xc X N scope C fp s2 H2) (zB fp s5.heap) σ6 H8 { s8 with heap:=s8.heap.update D (Obj.mapSeq (·.push y)),toks:=s8.toks }:=
     IQ.turned (it:=D) (λb o hb e=>(Ak3 s8.heap (Obj.mapSeq (·.push y)) (Ne.symm hb)).trans e) hD8 hDC (.inr hleD) hDc λp hp=>by
      have hp:p∈([]:List (Addr×Obj))++zB fp s5.heap:=hp
      have:=fo p.1 (XM (by simpa using hp)).1
      exact Ad this
    refine⟨m',hm,i+1,ys++ [yv],its++ [y],_,σ6,H8,I9.pins_of λp hp=>absurd hp (by simp),T.keep _ _ _ st5 λb hb o e=>(I9.pin (b,o) (Ab1 _ (ji hb e))).1,λb hb=> ?_,hD8,e9,rv3.append (.cons r8 .nil),w8⟩
    obtain⟨o,e⟩:=hp5 b hb
    exact(I9.pin (b,o) (Ab1 _ (ji hb e))).2.1
 exact codeAny_compStart_list (loop _ rfl) (T.self _ 0 _ _ _ st3 (loop _ rfl))
theorem jbf (ok:QM X scope N k cap) (hi:PI X tg iter wi)
 (hg: ∀C fp s H,PG (Xc X N scope C fp s H) tg (g C fp s H)) (ht: ∀C fp s H,PTs (Xc X N scope C fp s H) ifs (tc C fp s H)) (he: ∀C fp s H,PE (Xc X N scope C fp s H) elt (te C fp s H))
 (hc:X.calm=true:=by rfl) (hs: ∀x,foldedSetIterable iter X.env x=pure x:=by intro _;rfl):PE X (.ListComp elt [⟨tg,iter,ifs,0⟩] scope pos) (jaD k cap wi g tc te):=by
 intro u8 s σ H Q I h
 refine zL k9 hc ok hi hg ht he hs I h λD C oC m H4 s4 I4 fC q hns=> ?_
 have hp:=I4.pin (C,oC) (Ab1 _ (Ab1 _ Aa8))
 refine⟨m,hns _ hp.1,λh' hsb=>⟨.ref D,H4,?_,rfl,q⟩⟩
 exact(I4.unpinned).turned (λb o hb e=>hsb.extBut b o hb e) fC.1 fC.2.1 fC.2.2.2.1 fC.2.2.2.2.1 fC.2.2.2.2.2
theorem ZW (hN:X.N.Nodup) (hi':X.N[i]? =y0 x) (hx:Loc X.env.scope x) (ok:QM X scope N k cap) (hi:PI X tg iter wi)
 (hg: ∀C fp s H,PG (Xc X N scope C fp s H) tg (g C fp s H)) (ht: ∀C fp s H,PTs (Xc X N scope C fp s H) ifs (tc C fp s H)) (he: ∀C fp s H,PE (Xc X N scope C fp s H) elt (te C fp s H))
 (hsw:swapsWith (.ListComp elt [⟨tg,iter,ifs,0⟩] scope p0) (y0 (.Name x pos')) pos.line X.env=pure true:=by rfl)
 (hc:X.calm=true:=by rfl) (hs: ∀x,foldedSetIterable iter X.env x=pure x:=by intro _;rfl) (hf:X.fn x=v9\/X.env.scope.names.lookup x=y0 .local:=by first | exact .inl rfl | exact .inr rfl | assumption):
 PS X (.Assign [.Name x pos'] (.ListComp elt [⟨tg,iter,ifs,0⟩] scope p0) pos) (zaY (jaD k cap wi g tc te) (qN i)):=by
 intro u8 s σ H D I h
 rw [exec_Assign_Name_used _ _ _ _ hsw]
 refine wpAny_bind (wpAny_standAt (wpAny_bind ?_))
 refine wpAny_bind (wpAny_mono (zL (y0 (assign (.Name x pos') X.env)) hc ok hi hg ht he hs I h λD' C oC m H4 s4 I4 fC q hns=> ?_) (λ_ s' hq=>wpAny_pure (wpAny_pure hq)) λ_ _ e=>e)
 refine wpAny_assign_Name (ZH I4 hN hi' hx (v:= .ref D') rfl (λs5 I5=> ?_) hf)
 have hp:=I5.pin (C,oC) (Ab1 _ (Ab1 _ Aa8))
 refine⟨m,hns _ hp.1,λh' hsb=>⟨_,H4,?_,q⟩⟩
 exact(I5.unpinned).turned (λb o hb e=>hsb.extBut b o hb e) fC.1 fC.2.1 fC.2.2.2.1 fC.2.2.2.2.1 fC.2.2.2.2.2
end
noncomputable def Itv (K:Aa5) (a:Addr) (n:Nat):It:=
 ⟨λi H=> ∃xs,SqL K H a xs/\xs.length=n/\i<n,λi H x H'=>H'=H/\ ∀xs,SqL K H a xs->xs[n-1-i]? =y0 x,λi _=>i=n⟩
theorem zaP {K:Aa5}(a it) (n):qaR P w K tg (Itv K a n) [it] it (λi h=>h.IsRevIter it a ((n:Int)-1-((i:Nat):Int))) where
 mem:=by simp
 obj:=λi h st b hb=>by
  have e:=by simpa using hb
  subst e
  obtain⟨o,e,c,d⟩:=st
  exact⟨o,e,λv z=>by rw [d]at z;cases z⟩
 keep:=λi h h' st k=>st.at λo e=>k it (by simp) o e
 item:=by
  intro X hP hw hK hc i u8 s σ H E I hf st hg
  subst hP hw hK
  obtain⟨xs,hq,hl,hi⟩:=hg
  obtain⟨its,rv,p,hz⟩:=I.list hq
  have hx:xs[n-1-i]? =y0 (xs[n-1-i]'(by omega)):=Aa9 (by omega)
  obtain⟨u,hu,ru⟩:=rv.get hx
  obtain⟨f0,f1,f2,f3,f4,f5⟩:=hf it (by simp)
  have e: n-1- (i:Nat)=((n-1-i:Nat):Int):=by omega
  have st:=st
  rw [e]at st
  refine wpAny_pyNext_rev_item st p.isList (by simpa using hu) λh' st' sb=> ?_
  have I1:Inv X u8 σ H { s with heap:=h' }:=I.turned (λb o hb e=>(sb.2 b hb).trans e) f0 f1 f3 f4 f5
  have e2: (n-1-i:Nat)-1= n-1-((i+1:Nat):Int):=by omega
  rw [e2]at st'
  obtain⟨o,e,c,d⟩:=id st'
  exact⟨u,rfl,qR e c d (by decide) ⟨_,H,I1,ru,⟨rfl,λys hy=>by rw [I.list_inj hy hq];exact hx⟩,st',λb hb=>(hf b hb).1⟩⟩
 done:=by
  intro X hP hw hK hc i u8 s σ H E I hf st hg
  subst hP hw hK
  have hg:=hg
  subst hg
  obtain⟨f0,f1,f2,f3,f4,f5⟩:=hf it (by simp)
  have e: i-1-((i:Nat):Int)= -1:=by omega
  have st:=st
  rw [e]at st
  exact wpAny_pyNext_rev_end (I.ok.hd hc) st λh' eb=>⟨rfl,I.turned (λb o hb e=>eb b o hb e) f0 f1 f3 f4 f5⟩
 self:=λ_ _ _ _ _ st h=>wpAny_pyIter_revIter st h
section
variable {X:Cx}{tg:Expr}
def zcF (K:Aa5) (ta:TA):TI:=λσ H R=>ta σ H λvs H1=> ∃a xs,vs= [.ref a]/\SqL K H1 a xs/\R (Itv K a xs.length) H1
theorem j6 (hg:Gl X "reversed") (hm:X.mg "reversed" =none) (ha:PA X [a] ta) (hs:starEach [a] X.env= [(false,eval a X.env)]:=by rfl):PI X tg (.Call (.Name "reversed" p) [a] [] pos) (zcF X.K ta):=by
 intro u8 s σ H R I h
 refine Call_ (xv I hg hm boot_reversed (PyProof.Rows.callWith_type1 (thn (ha pos u8 s σ H _ I h) λus s1 ⟨vs,H1,I1,r1,q1⟩=> ?_) hs rfl))
 obtain⟨b,xs,e,hq,q⟩:=q1
 subst e
 cases r1 with
 | cons r rr=>
  cases rr
  cases r
  obtain⟨its,rv,pl,hz⟩:=I1.list hq
  refine call_reversed_list pl.isList ?_
  have u7:its.toArray.size=xs.length:=by rw [Ab];exact rv.length.symm
  rw [u7]
  have hr:(s1.heap.push (revObj b (xs.length-1))).IsRevIter s1.heap.objs.size b (xs.length-1- (0:Nat)):=by
   refine⟨_,Ac6 _ rfl,rfl,?_⟩
   rw [show xs.length-1- (0:Nat)=(xs.length:Int)-1 by omega]<;>rfl
  refine wpAny_pyIter_revIter hr ?_
  refine⟨s1.heap.objs.size,[s1.heap.objs.size],_,_,H1,rfl,I1.kept λb o e=>Ab0 _ e,zaP b _ xs.length,hr,λc hb=> ?_,q⟩
  have e:=by simpa using hb
  subst e
  exact I1.fpOk (Aa6 _) (I1.hok.fresh (Aa6 _))
end
structure Has (P:Program) (w:World) (K:Aa5) (mg:Str->Option Value) (base:Heap) (k:Nat) (x:Str) (ps:List Str) (sp:Sp):Prop where
 ex: ∃f fd,FnOk P w K mg base CX0 k f fd ps sp/\Binds K fd ps []/\Ad8 K (.ref f)=v9/\mg x=y0 (.ref f)
open PySem PySem.Spec PySem.Calls PySem.W PyProof.Rows
structure jcF (K:Frag) (C:Addr):Prop where
 ga:findIn K (.ref C) "__getattribute__" =some (some (.builtin "BaseException.__getattribute__"))
 gn:findIn K (.ref C) "__getattr__" =some none
 cl:findIn K (.ref C) "__class__" =some (some (.builtin "object.__class__"))
 get:specialIn K (.builtin "object.__class__") "__get__" =some (some (.builtin "getset_descriptor.__get__"))
 set:takesIn K (.builtin "object.__class__")=some true
 obj:mroIn K C (.type "object")=some true
 bas:mroIn K C (.type "BaseException")=some true
 slf:kitCls K (.ref C) (.ref C)=y0 v9
 cls:(clsIn K C).isSome=v9
def qcl (h:Heap) (x C:Addr):Prop:= ∃o,h.get? x=y0 o/\o.cls= .ref C
def jcE (x C:Addr):HO:= .ext λh=>qcl h x C
theorem ObjOk.there (x:ObjOk P w H h a o): ∃u,h.get? a=y0 u:=by
 cases o with
 | lst xs=>exact⟨_,x.2.choose_spec.choose_spec.2⟩
 | tup xs=>obtain⟨_,_,_,u,e,_⟩:=x;exact⟨u,e⟩
 | dK kvs=>obtain⟨_,_,_,_,u,_,_,e,_⟩:=x;exact⟨u,e⟩
 | dT kvs=>obtain⟨_,_,_,_,u,_,_,e,_⟩:=x;exact⟨u,e⟩
 | set S n=>obtain⟨u,_,_,_,e,_⟩:=x;exact⟨u,e⟩
 | ins C dx fs=>obtain⟨_,_,_,e,_⟩:=x;exact⟨_,e⟩
 | own y=>exact x
 | xd fs=>obtain⟨_,⟨u,_,_,e,_⟩,_⟩:=x;exact⟨u,e⟩
 | rng lo hi=>obtain⟨_,_,_,e⟩:=x;exact⟨_,e⟩
 | frz ob u=>exact⟨_,x.1⟩
 | tbl ps=>exact⟨_,show h.get? a=y0 _ from x⟩
 | met f y=>exact⟨_,show h.get? a=y0 _ from x⟩
 | ext φ=>exact x.2.1
noncomputable def CX1 (P:Program) (w:World):CXT:=λouter H s E e s'=> ∃(x C t:Addr) (B:Heap) (H':Hp),e= .ref x/\s'.os=s.os/\AllBare s'.gens ∧
 Heap.FlyingW B outer x (.ref C) (.ref t) s'.heap/\Un (frs outer) [] H H' s.heap s'.heap/\HOk P w H' s'.heap ∧
 (∀ b o,s'.heap.get? b=y0 o->((∃ u,H' b=y0 u)\/ ∃u,s.heap.get? b=y0 u)->b∉frs outer->B.get? b=y0 o)/\s.heap.get? x=k9/\E (.ref C) k9 H'
section
variable {P:Program}{w:World}{K:Frag}{mg:Str->Option Value}{base:Heap}{N:List Str}{v7:Str}{scope:Scope}{f:Addr}{cd:Value}{A:Around}{outer:List Env}{s:Shared}{H:Hp}{E:XK}
theorem qQ (I:Inv (zZ (CX1 P w) P w K mg base N v7 scope f cd A outer s H E) u8 σ H1 s2)
 (hx:Heap.MadeExcOf s2.heap h' e (.ref C) vs) (q:E (.ref C) k9 H1):(zZ (CX1 P w) P w K mg base N v7 scope f cd A outer s H E).xe (.ref e) { s2 with heap:=h' }:=by
 have ff:=I.stack
 have fb:=funFrames_hide ff λenv he a ha=>Al5.mpr ⟨env,he,ha⟩
 have free:=I.stkFree
 refine wpAny_leaves_madeW I.ok.frames rfl (λb o z=>of_hideAll _ z) fb hx λh2 t x1 x2 x3 x4=> ?_
 have inB: ∀b o,s2.heap.get? b=y0 o->b∉frs (envOfC v7 scope s.heap.objs.size f cd::outer)->(hideAll s2.heap (frs (envOfC v7 scope s.heap.objs.size f cd::outer))).get? b=y0 o:=λb o z n=>hideAll_get _ z n
 have toH:=λb o z n=>x1.1 b o (inB b o z n)
 have slotH: ∀b o,b∈frs (envOfC v7 scope s.heap.objs.size f cd::outer)->s2.heap.get? b=y0 o-> ∃sl,h2.get? b=y0 { o with slots:=sl }:=λb o hb z=>by
  obtain⟨_,o',z',nf⟩:=ff.mem hb
  rw [z]at z'
  cases z'
  exact x4 b o (hx.keeps b o z) nf
 have cut: ∀b,b∉frs outer->b≠s.heap.objs.size->b∉frs (envOfC v7 scope s.heap.objs.size f cd::outer):=λb n1 n2 hb=>by
  rcases Aa.mp (hb)with z | z
  ·exact n2 z
  ·exact n1 z
 have old: ∀b o,s.heap.get? b=y0 o->b≠s.heap.objs.size:=λb o z=>Ad (Ab6 z)
 have trk: ∀b u,H1 b=y0 u->b∉frs (envOfC v7 scope s.heap.objs.size f cd::outer):=λb u z hb=>by rw [free b hb]at z;cases z
 refine⟨e,C,t,_,H1,rfl,I.os,I.bare,x1,⟨λb o z n hb hx=> ?_,λb o z n hb hx=> ?_,I.base.free,λb o z hx=> ?_,I.base.tups,I.base.frzs,I.base.tbls⟩,λb u z=> ?_,λb o z hc hb=> ?_,?_,q⟩
 ·exact toH b o (I.base.keep b o z n hb hx) (cut b hb (old b o z))
 ·obtain⟨sl,z1⟩:=I.base.slot b o z n hb hx
  obtain⟨sl2,z2⟩:=slotH b _ (Aa7 _ hb) z1
  exact⟨sl2,z2⟩
 ·obtain⟨o',z1⟩:=I.base.there b o z hx
  by_cases hb:b∈frs (envOfC v7 scope s.heap.objs.size f cd::outer)
  ·obtain⟨sl,z2⟩:=slotH b o' hb z1
   exact⟨_,z2⟩
  ·exact⟨o',toH b o' z1 hb⟩
 ·refine(I.hok b u z).stay (λc v hc z1=>toH c v z1 ?_) (λ_ z1=>z1) λ_ _ z1=>z1
  rcases hc with rfl | hc
  ·exact trk c u z
  ·exact trk c _ hc
 ·have two: ∃o2,s2.heap.get? b=y0 o2/\b∉frs (envOfC v7 scope s.heap.objs.size f cd::outer):=by
   rcases hc with⟨u,hu⟩ | ⟨u,hu⟩
   ·obtain⟨o2,z2⟩:=(I.hok b u hu).there
    exact⟨o2,z2,trk b u hu⟩
   ·obtain⟨o2,z2⟩:=I.base.there b u hu (by show b∉ [];simp)
    exact⟨o2,z2,cut b hb (old b u hu)⟩
  obtain⟨o2,z2,nb⟩:=two
  have z3:=toH b o2 z2 nb
  rw [show h2.get? b=y0 o from z]at z3
  cases z3
  exact inB b _ z2 nb
 ·cases z:s.heap.get? e with
  | none=>rfl
  | some u=>
   obtain⟨o2,z2⟩:=I.base.there e u z (by show e∉ [];simp)
   rw [hx.new]at z2
   cases z2
end
theorem xaO {K:Frag}(X:K.In h) (q:excIn K C bmB newId=v9):
 ∃bm Na nm qn bs hd sn sub ab col dd k0 k1 k2 k3 k5 mN,h.get? C=some (excClassObj nm qn C Na bs bm hd sn sub ab col dd k0 k1 k2 k3 k5 newId)/\h.Ns Na mN/\mN "__init__" =none/\OwnTail h bmB bm:=by
 unfold excIn at q
 split at q
 next dd cd sl hl=>
  split at q
  next C2 tl k0 k1 k2 k3 nn k5 em es=>
   simp only [Ab4,beq_iff_eq,Bool.not_eq_true']at q
   obtain⟨⟨⟨⟨⟨rfl,rfl⟩,e1⟩,e2⟩,e3⟩,e4⟩:=q
   obtain⟨nm,bs,mro,nsA,qn,hd,sn,sub,ab,col,del⟩:=cd
   dsimp only at em e1 e3 e4
   subst em e1
   have es2:sl= #[k0,k1,k2,k3,y0 (.builtin nn),k5]:=by
    cases sl with
    | mk l=>exact congrArg Array.mk es
   subst es2
   exact⟨tl,nsA,nm,qn,bs,hd,sn,sub,ab,col,dd,k0,k1,k2,k3,k5,_,X _ _ hl,.of_isNs (isNs_of_in X e3),nsMap_none_of_in X e3 e4,tail_of_in X e2⟩
  next=>cases q
 next=>cases q
section
variable {P:Program}{w:World}{K:Frag}{mg:Str->Option Value}{base:Heap}{N:List Str}{v7:Str}{scope:Scope}{f:Addr}{cd:Value}{A:Around}{outer:List Env}{s:Shared}{H:Hp}{E:XK}
abbrev xa7:List Value:= [.type "ValueError",.type "Exception",.type "BaseException",.type "object"]
def qaV (C:Addr) (E:XK) (t:TA):TS:=λ_ σ H=>t σ H λvs H1=>vs.length<=sizeLine/\E (.ref C) k9 H1
theorem zaQ (hq:excIn K C xa7 "ValueError.__new__" =true) (hm:mg x=some (.ref C)) (hg:Gl (zZ (CX1 P w) P w K mg base N v7 scope f cd A outer s H E) x)
 (ha:PA (zZ (CX1 P w) P w K mg base N v7 scope f cd A outer s H E) (e::es) t)
 (he:starEach (e::es) (envOfC v7 scope s.heap.objs.size f cd)=(u9,eval e (envOfC v7 scope s.heap.objs.size f cd))::starEach es (envOfC v7 scope s.heap.objs.size f cd):=by rfl)
 (hpl:(backTo k6 (starEach es (envOfC v7 scope s.heap.objs.size f cd))).any (·.1)=false:=by rfl) (hd:(x==("__debug__" :Str))=false:=by decide):
 PS (zZ (CX1 P w) P w K mg base N v7 scope f cd A outer s H E) (.Raise (y0 (.Call (.Name x np) (e::es) [] k6)) k9 pos) (qaV C E t):=by
 intro u8 s1 σ H1 D I h
 obtain⟨bm,Na,nm,qn,bs,hdc,sn,sub,ab,col,dd,k0,k1,k2,k3,k5,mN,hC,hN,hni,T⟩:=xaO I.mod.kin hq
 refine wpAny_Raise_call_subT (nm:=nm) (q:=qn) (N:=Na) (bs:=bs) (hdct:=hdc) (sn:=sn) (sub:=sub) (ab:=ab) (col:=col) (dd:=dd) (k0:=k0) (k1:=k1) (k2:=k2) (k3:=k3) (k5:=k5)
  PySem.F.excBase_ValueError (mN:=mN) (T.hasType PySem.F.excBase_ValueError.hasBase) (I.ok.hd rfl) ?_ hni (xy I hg hm ⟨rfl,?_⟩ hd)
 ·show(backTo k6 (starEach (e::es) (envOfC v7 scope s.heap.objs.size f cd))).any (·.1)=u9
  rw [he]
  show(u9||(backTo k6 (starEach es (envOfC v7 scope s.heap.objs.size f cd))).any (·.1))=u9
  rw [hpl]
  rfl
 ·have hA:=ha k6 u8 s1 σ H1 _ I h
  show wpAny (model P w) _ (evalArgs (.ref C) v9 (backTo k6 (starEach (e::es) (envOfC v7 scope s.heap.objs.size f cd))) []) _ _ s1
  have hA':wpAny (model P w) (A.deeper (envOfC v7 scope s.heap.objs.size f cd)) (spliced (backTo k6 (starEach (e::es) (envOfC v7 scope s.heap.objs.size f cd)))) _ _ s1:=hA
  rw [he]at hA' ⊢
  exact Calls.evalArgs_plain (thn hA' λus s2 ⟨vs,H2,I2,r2,z,q2⟩=>⟨rfl,by show us.length<=sizeLine;rw [← r2.length];exact z,I2.bk _ _ hC,hN.keeps I2.bk,T.keeps I2.bk,λh' a hm'=>qQ I2 hm' q2⟩)
theorem Fun.okX {st:Stmt}(F:Fun K x v7 st f fd) (S:xq N ps (Wb st)) (len: ∀vs H Q E,sp vs H Q E->vs.length=ps.length)
 (hbody: ∀ cdv A outer s H vs Q E,Room k (A.deeper (envOfC v7 (Wb st) s.heap.objs.size f cdv))->sp vs H Q E →
   ∃t,PSs (zZ (CX1 P w) P w K mg base N v7 (Wb st) f cdv A outer s H E) (Jf st) t/\t { nx:=λ_ H'=>Q .non H',rt:=Q } (xB N vs) H):FnOk P w K mg base (CX1 P w) (k+1) f fd ps sp:=by
 obtain⟨oc,od,kV,doc,pm,an,cdv,ct,osl,rfl,lk,hcd⟩:=F.ex
 exact zcn lk hcd S len λA outer s H vs Q E hr hsp=>hbody cdv A outer s H vs Q E hr hsp
theorem zcl:PassesOwn (model P w) (A.deeper (envOfC v7 scope s.heap.objs.size f cd)) (envOfC v7 scope s.heap.objs.size f cd) (zZ (CX1 P w) P w K mg base N v7 scope f cd A outer s H E).xe:=
 PassesOwn.leaving
end
theorem qbf {s1 s':Shared}(I1:Inv X u8 σ H1 s1) (os:s'.os=s1.os) (bare:AllBare s'.gens) (un:Un (frs X.stack) [] H1 H' s1.heap s'.heap) (hok:HOk X.prog X.w H' s'.heap)
 (comp: ∀b o,s'.heap.get? b=y0 o->((∃ u,H' b=y0 u)\/ ∃u,s1.heap.get? b=y0 u)->b∉frs X.stack->B.get? b=y0 o) (fl:Heap.FlyingW B X.stack x (.ref C) (.ref t) h6) (sm:s'.heap.UpToSlots h6):Inv X u8 σ H' { s' with heap:=h6 }:=by
 have trk: ∀c u,H' c=y0 u->c∉frs X.stack:=λc u z hc=>by
  obtain⟨_,o,e,_⟩:=I1.stack.mem hc
  have:=un.free c o e (I1.stkFree c hc) (by simp)
  rw [this]at z
  cases z
 refine I1.call' (s':= { s' with heap:=h6 }) (ch:= []) os ⟨λb o e n hb hx=> ?_,λb o e n hb hx=> ?_,un.free,λb o e hx=> ?_,un.tups,un.frzs,un.tbls⟩ (λb u e=> ?_) bare λb hb=>absurd hb (by simp)
 ·exact fl.1 b o (comp b o (un.keep b o e n hb hx) (.inr ⟨o,e⟩) hb)
 ·obtain⟨sl,e1⟩:=un.slot b o e n hb hx
  obtain⟨_,o',e2,nf⟩:=I1.stack.mem hb
  rw [e]at e2
  cases e2
  obtain⟨sl2,e3⟩:=sm b _ e1 nf
  exact⟨sl2,e3⟩
 ·obtain⟨o',e1⟩:=un.there b o e hx
  by_cases hb:b∈frs X.stack
  ·obtain⟨_,o2,e2,_⟩:=fl.2.2.1.mem hb
   exact⟨o2,e2⟩
  ·exact⟨o',fl.1 b o' (comp b o' e1 (.inr ⟨o,e⟩) hb)⟩
 ·refine(hok b u e).stay (λc v hc z=> ?_) (λ_ z=>z) λ_ _ z=>z
  rcases hc with rfl | hc
  ·exact fl.1 c v (comp c v z (.inl ⟨u,e⟩) (trk c u e))
  ·exact fl.1 c v (comp c v z (.inl ⟨_,hc⟩) (trk c _ hc))
noncomputable def jbN (K:Aa5) (te tk:TE):TE:=λσ H Q=>te σ H λx H1=>tk σ H1 λy H2=>y= .int (-1)/\ ∃a xs,x= .ref a/\SqL K H2 a xs/\ ∀p,H2 p=k9->Q (.ref p) (upd H2 p (.lst xs.reverse))
theorem wR: ∀ {xs}{us},Vals xs us->Vals xs.reverse us.reverse
 | _,_,.nil=> .nil
 | _::_,_::_,.cons r t=>by
  rw [Aj6,Aj6]
  exact(wR t).append (.cons r .nil)
theorem xaI {e st:Expr}(he:PE X e te) (hk:PE X st tk) (hs: ∀l a,subscripted (.Slice k9 k9 (y0 st) p2) u9 l a=operate [l,a] (getItem l a):=by intro l a;with_unfolding_all rfl):PE X (.Subscript e (.Slice k9 k9 (y0 st) p2) pos) (jbN X.K te tk):=by
 intro u8 s σ H Q I h
 refine Subscript_ (thn (he u8 s σ H _ I h) λv s1 ⟨x,H1,I1,r1,q1⟩=> ?_)
 refine wpAny_Slice ?_
 refine wpAny_pure (wpAny_pure ?_)
 refine thn (hk u8 s1 σ H1 _ I1 q1) λvk s3 ⟨y,H3,I3,r3,q3⟩=> ?_
 obtain⟨rfl,a,xs,rfl,hx,q⟩:=q3
 obtain⟨tk',rfl⟩:=r3
 cases r1
 have I4:Inv X u8 σ H3 { s3 with heap:=s3.heap.push { cls:= .type "slice",data:= .fields #[.none,.none,.int (-1) tk'] } }:=I3.kept fun b ob q=>Heap.get?_push_of_some _ q
 obtain⟨its,r,ht,hz⟩:=I4.list hx
 have u7:=r.length
 refine tail_any ht.isList.typeIs slot_list_getitem.lookup ?_ (hs _ _)
 refine wpAny_getItem_list_slice ht.isList (Heap.IsSliceOf.new ..) .none .none (.int (-1) tk') (by decide) ?_ (by rw [Ab]<;>omega)
 rw [krv_pick]
 refine⟨.ref _,_,I4.laid (λb ob q=>Ab0 _ q) (Aa6 _) ?_,rfl,q _ (I4.hok.fresh (Aa6 _))⟩
 exact⟨by rw [List.length_reverse];exact hz,_,0,wR r,Ac6 _ rfl⟩
theorem FnOk.calm {K:Frag}(F:FnOk P w K mg base (CX1 P w) k f fd ps sp)
 (h: ∀vs H Q E,sp0 vs H Q E->sp vs H Q (λ_ _ _=>False)):FnOk P w K mg base CX0 k f fd ps sp0:=by
 refine⟨λvs H Q E q=>F.len vs H Q _ (h _ _ _ _ q),λA outer s H args us vs Q E hr he hb hv hs=>codeAny_mono (F.run A outer s H args us vs Q _ hr he hb hv (h _ _ _ _ hs)) λres s' hq=> ?_⟩
 cases res with
 | ok fl=>
  cases fl with
  | ret u=>exact hq
  | next=>exact hq
  | brk=>exact hq
  | cont=>exact hq
 | error ev=>
  obtain⟨x,C,t,B,H',_,_,_,_,_,_,_,_,hE⟩:=hq
  exact hE
noncomputable def Its (x:Str):It:=⟨λi _=> ∃c,x.cps[i]? =y0 c,λi H y H'=>H'=H/\ ∃c,x.cps[i]? =y0 c/\y= .str ⟨#[c]⟩,λi _=>x.cps[i]? =k9⟩
theorem qX {K:PySem.W.Frag}(it) (x) (t):qaR P w K tg (Its x) [it] it (λi h=>h.IsStrIter it "str_ascii_iterator" x t i) where
 mem:=by simp
 obj:=λi h st b hb=>by
  have e:=by simpa using hb
  subst e
  obtain⟨o,e,c,d⟩:=st
  exact⟨o,e,λv z=>by rw [d]at z;cases z⟩
 keep:=λi h h' st k=>by
  obtain⟨o,e,c,d⟩:=st
  exact⟨o,k it (by simp) o e,c,d⟩
 item:=by
  intro X hP hw hK hc i u8 s σ H E I hf st hg
  obtain⟨c,hx⟩:=hg
  obtain⟨f0,f1,f2,f3,f4,f5⟩:=hf it (by simp)
  refine wpAny_pyNext_ascii_item st hx λh' st' sb=> ?_
  have I1:Inv X u8 σ H { s with heap:=h',toks:=s.toks+1 }:=I.turned (λb o hb e=>(sb.2 b hb).trans e) f0 f1 f3 f4 f5
  obtain⟨o,e,c',d⟩:=id st'
  exact⟨_,rfl,qR e c' d (by decide) ⟨.str ⟨#[c]⟩,H,I1,⟨_,rfl⟩,⟨rfl,c,hx,rfl⟩,st',λb hb=>(hf b hb).1⟩⟩
 done:=by
  intro X hP hw hK hc i u8 s σ H E I hf st hg
  obtain⟨f0,f1,f2,f3,f4,f5⟩:=hf it (by simp)
  exact wpAny_pyNext_ascii_end (I.ok.hd hc) st hg λh' eb=>⟨rfl,I.turned (λb o hb e=>eb b o hb e) f0 f1 f3 f4 f5⟩
 self:=λ_ _ _ _ _ st h=>wpAny_pyIter_striter_ascii st h
theorem Z0 {K:PySem.W.Frag}(it) (x) (t):qaR P w K tg (Its x) [it] it (λi h=>h.IsStrIter it "str_iterator" x t i) where
 mem:=by simp
 obj:=λi h st b hb=>by
  have e:=by simpa using hb
  subst e
  obtain⟨o,e,c,d⟩:=st
  exact⟨o,e,λv z=>by rw [d]at z;cases z⟩
 keep:=λi h h' st k=>by
  obtain⟨o,e,c,d⟩:=st
  exact⟨o,k it (by simp) o e,c,d⟩
 item:=by
  intro X hP hw hK hc i u8 s σ H E I hf st hg
  obtain⟨c,hx⟩:=hg
  obtain⟨f0,f1,f2,f3,f4,f5⟩:=hf it (by simp)
  refine wpAny_pyNext_wide_item st hx λh' st' sb=> ?_
  have I1:Inv X u8 σ H { s with heap:=h',toks:=s.toks+1 }:=I.turned (λb o hb e=>(sb.2 b hb).trans e) f0 f1 f3 f4 f5
  obtain⟨o,e,c',d⟩:=id st'
  exact⟨_,rfl,qR e c' d (by decide) ⟨.str ⟨#[c]⟩,H,I1,⟨_,rfl⟩,⟨rfl,c,hx,rfl⟩,st',λb hb=>(hf b hb).1⟩⟩
 done:=by
  intro X hP hw hK hc i u8 s σ H E I hf st hg
  obtain⟨f0,f1,f2,f3,f4,f5⟩:=hf it (by simp)
  exact wpAny_pyNext_wide_end (I.ok.hd hc) st hg λh' eb=>⟨rfl,I.turned (λb o hb e=>eb b o hb e) f0 f1 f3 f4 f5⟩
 self:=λ_ _ _ _ _ st h=>wpAny_pyIter_striter_wide st h
noncomputable def jcw (K:Aa5) (tl:TE):TI:=λσ H R=>tl σ H λx H1=>(∃ a,x= .ref a/\(∃ xs,SqL K H1 a xs)/\R (Itl K a) H1)\/(∃ a,x= .ref a/\(∃ xs,SqT K H1 a xs)/\R (Itt K a) H1)\/ ∃z,x= .str z/\R (Its z) H1
theorem qai (hl:PE X l tl):PI X tg l (jcw X.K tl):=by
 intro u8 s σ H R I h
 refine thn (hl u8 s σ H _ I h) λv s1 ⟨x,H1,I1,r1,q1⟩=> ?_
 rcases q1 with⟨a,e,⟨xs,hq⟩,q⟩ | ⟨a,e,⟨xs,hq⟩,q⟩ | ⟨z,e,q⟩
 ·subst e
  cases r1
  obtain⟨its,rv,p,hz⟩:=I1.list hq
  refine wpAny_pyIter_list p.isList ?_
  refine⟨s1.heap.objs.size,[s1.heap.objs.size],_,_,H1,rfl,I1.kept λb o e=>Ab0 _ e,J6 a _,⟨_,Ac6 _ rfl,rfl,rfl⟩,λb hb=> ?_,q⟩
  have e:=by simpa using hb
  subst e
  exact I1.fpOk (Aa6 _) (I1.hok.fresh (Aa6 _))
 ·subst e
  cases r1
  obtain⟨its,rv,p,hz⟩:=I1.tuple hq
  refine wpAny_pyIter_tuple (p) ?_
  refine⟨s1.heap.objs.size,[s1.heap.objs.size],_,_,H1,rfl,I1.kept λb o e=>Ab0 _ e,JV a _,⟨_,Ac6 _ rfl,rfl,rfl⟩,λb hb=> ?_,q⟩
  have e:=by simpa using hb
  subst e
  exact I1.fpOk (Aa6 _) (I1.hok.fresh (Aa6 _))
 ·subst e
  obtain⟨t,rfl⟩:=r1
  cases ha:z.cps.all (· <128)with
  | true=>
   refine wpAny_pyIter_ascii ha ?_
   refine⟨s1.heap.objs.size,[s1.heap.objs.size],_,_,H1,rfl,I1.kept λb o e=>Ab0 _ e,qX _ z t,⟨_,Ac6 _ rfl,rfl,rfl⟩,λb hb=> ?_,q⟩
   have e:=by simpa using hb
   subst e
   exact I1.fpOk (Aa6 _) (I1.hok.fresh (Aa6 _))
  | false=>
   refine wpAny_pyIter_wide ha ?_
   refine⟨s1.heap.objs.size,[s1.heap.objs.size],_,_,H1,rfl,I1.kept λb o e=>Ab0 _ e,Z0 _ z t,⟨_,Ac6 _ rfl,rfl,rfl⟩,λb hb=> ?_,q⟩
   have e:=by simpa using hb
   subst e
   exact I1.fpOk (Aa6 _) (I1.hok.fresh (Aa6 _))
section
variable {X:Cx}
theorem Vals.getI (r:Vals xs us){i:Nat}(h:us[i]? =y0 u): ∃x,xs[i]? =y0 x/\RelV x u:=by
 have hl:=r.length
 have hi:=(Aa3.mp h).1
 have hx:i<xs.length:=by omega
 obtain⟨u',h1,h2⟩:=r.get (Aa9 hx)
 rw [h]at h1
 cases h1
 exact⟨_,Aa9 hx,h2⟩
theorem zai (bs:List Bool):(Ac0 bs.length).all (λi=>bs.getD i u9)=bs.all id:=by
 induction bs with
 | nil=>rfl
 | cons b bs ih=>
  rw [Aa4,List.range_succ_eq_map,Ah6,List.all_map,Ah6,←ih]
  rfl
theorem X9 {bs:List Bool}(r:Vals (bs.map V.bl) its):TruthOf P w A (λi v=>its.toArray[i]? =y0 v) (λi=>bs.getD i u9):=by
 intro i v s Q E hP hQ
 obtain⟨x,h1,h2⟩:=r.getI (by simpa using hP)
 rw [Ad4]at h1
 cases hb:bs[i]? with
 | none=>rw [hb]at h1;cases h1
 | some b=>
  rw [hb]at h1
  cases h1
  cases h2
  refine wpAny_truthy_bool ?_
  have e:bs.getD i u9=b:=by rw [Ad3,hb];rfl
  rw [← e]
  exact hQ
theorem X8 (hc:X.calm=v9):xn X (.builtin "all") (fun xs H Q=> ∃p,∃bs:List Bool,xs= [.ref p]/\SqL X.K H p (bs.map V.bl)/\Q (.bl (bs.all id)) H):=by
 intro u8 s σ H xs us Q I r h
 obtain⟨p,bs,rfl,hq,q⟩:=h
 obtain⟨u,rfl,rx⟩:=WC r
 cases rx
 obtain⟨its,rv,pl,hz⟩:=I.list hq
 have u7:=rv.length
 rw [Ac4]at u7
 refine call_all_walk (wpAny_pyIter_list pl.isList ?_)
 have hne:p≠s.heap.objs.size:=by
  obtain⟨o,ho,_⟩:=pl.isList
  exact Ad (Ab6 ho)
 refine⟨s.heap.objs.size,_,_,_,_,_,λi=>bs.getD i u9,rfl,Walks.list (A:=X.A.in1) (I.ok.hd hc) _ p hne its.toArray,⟨⟨_,Ac6 _ rfl,rfl,rfl⟩,pl.isList.at λo e=>Ab0 _ e⟩,X9 rv,λh' tk hk=> ?_⟩
 have I1:Inv X u8 σ H { s with heap:=h',toks:=tk }:=I.kept λb o e=>hk b o (by simp;exact Ad (Ab6 e)) (Ab0 _ e)
 refine⟨.bl _,H,I1,?_,q⟩
 show _=_
 rw [Ab,←u7,zai]
def zar:List Int->Int
 | []=>0
 | i::r=>i+zar r
theorem ZK: ∀(xs) (x),zar (xs++ [x])=zar xs+x
 | [],x=>by simp [zar]
 | y::ys,x=>by
  show y+zar (ys++ [x])=y+zar ys+x
  rw [ZK ys x];omega
theorem qC (ns:List Int): ∀j,j<=ns.length->preSum (λi=>ns.getD i 0) j=zar (ns.take j)
 | 0,_=>rfl
 | j+1,h=>by
  rw [preSum,qC ns j (by omega),List.take_succ,Aa9 (by omega)]
  show _=zar (ns.take j++ [ns[j]])
  rw [ZK,Ad3,Aa9 (by omega)]
  rfl
end
section
variable {X:Cx}
theorem Xt: ∀ {ss}{us},Vals (ss.map V.str) us->StrsAre us ss
 | [],us,r=>by cases r;exact .nil
 | z::ss,us,r=>by
  cases r with
  | cons h t=>
   obtain⟨k,rfl⟩:=h
   exact .cons _ _ (Xt t)
theorem xaq: ∀ {us}{ss},StrsAre us ss->Vals (ss.map V.str) us
 | _,_,.nil=> .nil
 | _,_,.cons _ _ h=> .cons ⟨_,rfl⟩ (xaq h)
theorem wK:xn X (.builtin "sorted") (fun xs H Q=> ∃p,∃ss:List Str,xs= [.ref p]/\SqL X.K H p (ss.map V.str)/\ss.length<64/\ ∀ss',ss'.Perm ss->sortedS ss'=true-> ∀l,H l=none->Q (.ref l) (upd H l (.lst (ss'.map V.str)))):=by
 intro u8 s σ H xs us Q I r h
 obtain⟨p,ss,rfl,hq,h64,q⟩:=h
 obtain⟨u,rfl,rx⟩:=WC r
 cases rx
 obtain⟨its,rv,pl,hz⟩:=I.list hq
 have u7:=rv.length
 rw [Ac4]at u7
 refine sorted_strs pl.isList (Xt rv) (by omega) λout ss' a1 a2 a3=> ?_
 obtain⟨e,he⟩:=sortedAll_at s.heap its out
 have hl:ss'.length<=sizeLine:=by rw [a2.length_eq];rw [Ac4]at hz;exact hz
 refine⟨.ref (s.heap.objs.size+1),_,I.laid (λb o e=>sortedAll_old e) (Ae _) (show ObjOk X.prog X.w _ _ _ (.lst (ss'.map V.str))from⟨by rw [Ac4];exact hl,out.toList,e,xaq a1,by simpa [seqObj]using he⟩),rfl,q ss' a2 a3 _ (I.hok.fresh (Ae _))⟩
end
section
variable {X:Cx}
def zaw (x:Str) (n:Nat):Str:=⟨(Aa0 n x.cps).foldl (· ++ ·) #[]⟩
theorem zK : ∀ n (a acc:Array α),((Aa0 n a).foldl (· ++ ·) acc).toList=acc.toList++(Aa0 n a.toList).flatten
 | 0,a,acc=>by simp
 | n+1,a,acc=>by
  rw [Ac8,Ae8,zK n,Ac8,Af2]
  simp
theorem xC (x) (n):(zaw x n).cps.toList=(Aa0 n x.cps.toList).flatten:=by
 unfold zaw
 rw [zK]
 simp
theorem qaM (x) (n):(zaw x n).length=x.length*n:=by
 show(zaw x n).cps.size=x.cps.size*n
 rw [← Ah1,xC]
 simp [Nat.mul_comm]
theorem xag {a b:Str}(h:a.cps.toList=b.cps.toList):a=b:=by
 cases a;cases b
 simp only [Str.mk.injEq]
 exact Array.toList_inj.mp h
theorem xa9:OpR X (binaryOp .Mult) (λx y H Q=> ∃z k,x= .str z/\y= .int k/\0<=k/\k<=1000/\z.length*k.toNat<=1000000/\Q (.str (zaw z k.toNat)) H):=by
 intro u8 s σ H x y v u Q I rx ry h
 obtain⟨z,k,rfl,rfl,h0,h1,hl,q⟩:=h
 obtain⟨t,rfl⟩:=rx
 obtain⟨t',rfl⟩:=ry
 have hsz:(zaw z k.toNat).length<=sizeLine:=by rw [qaM];exact Ac7 hl (by decide)
 refine P.mul_str (by
  have a: ¬k< -(2 ^ 63:Int):=by omega
  have b: ¬k>=2 ^ 63:=by omega
  rw [decide_eq_false a,decide_eq_false b];rfl) (λc1 c2=> ?_) (λc1 c2=> ?_) ?_
 ·have hk:=by omega
  have:(2:Int) ^ 63-1>=(z.length:Int)*k:=by
   have e:((z.length*k.toNat:Nat):Int)=(z.length:Int)*k:=by rw [Int.natCast_mul,Al3 h0]
   have:=hl
   omega
  have:=Int.le_ediv_of_mul_le (c:=k) (by omega) (by omega)
  omega
 ·unfold Builtin.Str.tooLong
  exact decide_eq_false (by have:sizeLine>=1000000:=by decide
                            omega)
 ·by_cases c1:k<1
  ·have hk:k=0:=by omega
   subst hk
   rw [if_pos c1]
   exact⟨by decide,.str (zaw z 0),H,I.kept λb o e=>e,⟨_,rfl⟩,q⟩
  ·rw [if_neg c1]
   by_cases c2:(k==1||z.length==0)=v9
   ·rw [if_pos c2]
    have e:zaw z k.toNat=z:=by
     apply xag
     rw [xC]
     rcases Bool.or_eq_true_iff.mp c2 with c | c
     ·have:k=1:=by simpa using c
      subst this
      simp
     ·have:z.cps.toList= []:=by
       have c:z.length=0:=by simpa using c
       have c:z.cps.size=0:=c
       rw [← Ah1]at c
       exact Ag5 c
      rw [this]
      simp
    rw [e]at q
    exact⟨.str z,H,I,⟨t,rfl⟩,q⟩
   ·rw [if_neg c2]
    exact⟨hsz,.str (zaw z k.toNat),H,I.kept λb o e=>e,⟨_,rfl⟩,q⟩
theorem jaH:OpR X (binaryOp .Add) (λx y H Q=> ∃a b ys,x= .ref a/\y= .ref b/\SqT X.K H a []/\SqT X.K H b ys/\Q (.ref b) H):=by
 intro u8 s σ H x y v u Q I rx ry h
 obtain⟨a,b,ys,rfl,rfl,ha,hb,q⟩:=h
 cases rx
 cases ry
 obtain⟨its,r1,p1,_⟩:=I.tuple ha
 obtain⟨its2,r2,p2,_⟩:=I.tuple hb
 cases r1
 obtain⟨⟨cls,dd,data,sl⟩,ho,hc,n,hd⟩:=id p1
 obtain⟨⟨cls2,dd2,data2,sl2⟩,ho2,hc2,n2,hd2⟩:=id p2
 subst hc hd hc2 hd2
 exact concat_meets ⟨_,ho,rfl⟩ ⟨_,ho2,rfl⟩ noFill_tuple_add seq_tuple_add PySem.F.slot_tuple_add PySem.F.entry_tuple_add (PySem.F.args_tuple_add_2 _ _)
  (tuple_addW0 a b _ its2.toArray n n2 dd dd2 sl sl2 (by simp)) ⟨ho,ho2,.ref b,H,I,rfl,q⟩
theorem w5 (hc:X.calm=v9):xn X (.builtin "sum") (fun xs H Q=> ∃p,∃ns:List Int,xs= [.ref p]/\SqL X.K H p (ns.map V.int)/\Q (.int (zar ns)) H):=by
 intro u8 s σ H xs us Q I r h
 obtain⟨p,ns,rfl,hq,q⟩:=h
 obtain⟨u,rfl,rx⟩:=WC r
 cases rx
 obtain⟨its,rv,pl,hz⟩:=I.list hq
 have u7:=rv.length
 rw [Ac4]at u7
 refine call_sum_walkG (wpAny_pyIter_list pl.isList ?_)
 have hlt:p<s.heap.objs.size:=by
  obtain⟨o,ho,_⟩:=pl.isList
  exact Ab6 ho
 have hsz:s.heap.objs.size<(s.heap.push { cls:= .type "list_iterator",data:= .fields #[.ref p,.int 0 0] }).objs.size:=Heap.lt_size (Heap.get?_push_size _ rfl)
 refine⟨s.heap.objs.size,_,_,_,_,_,λi=>ns.getD i 0,rfl,Walks.list (A:=X.A.in1) (I.ok.hd hc) _ p (Ad hlt) its.toArray,⟨⟨_,Ac6 _ rfl,rfl,rfl⟩,pl.isList.at λo e=>Ab0 _ e⟩,λb hb=> ?_,λi v hv=> ?_,λh' tk t' hk=> ?_⟩
 ·simp only [Aa,Aa2,or_false]at hb
  rcases hb with rfl | rfl
  ·exact hsz
  ·exact Aj2 hlt hsz
 ·obtain⟨x,h1,h2⟩:=rv.getI (by simpa using hv)
  rw [Ad4]at h1
  cases hb:ns[i]? with
  | none=>rw [hb]at h1;cases h1
  | some b=>
   rw [hb]at h1
   cases h1
   obtain⟨t,rfl⟩:=h2
   exact⟨t,by show Value.int b t=Value.int (ns.getD i 0) t;rw [Ad3,hb];rfl⟩
 ·have I1:Inv X u8 σ H { s with heap:=h',toks:=tk }:=I.kept λb o e=>hk b o (by simp;exact Ad (Ab6 e)) (Ab0 _ e)
  refine⟨.int (zar ns),H,I1,⟨t',?_⟩,q⟩
  rw [Ab,←u7,qC ns _ (Aa6 _),Ai2]
theorem wo: ∀ {ns}{its},Vals (ns.map V.int) its-> ∃ps:List (Int×Tok),its=ps.map (λp=> .int p.1 p.2)/\ps.map (·.1)=ns
 | [],its,r=>by cases r;exact⟨[],rfl,rfl⟩
 | n::ns,its,r=>by
  cases r with
  | cons h t=>
   obtain⟨k,rfl⟩:=h
   obtain⟨ps,e1,e2⟩:=wo t
   exact⟨(n,k)::ps,by rw [e1];rfl,by rw [← e2];rfl⟩
def Ws (f:Int->Int->Bool):List Int->Int->Int
 | [],a=>a
 | b::r,a=>Ws f r (if f b a then b else a)
theorem xJ (f): ∀ l b a,Ws f (l++ [b]) a=if f b (Ws f l a)then b else Ws f l a
 | [],b,a=>rfl
 | c::l,b,a=>by
  show Ws f (l++ [b]) _=_
  rw [xJ f l b]
  rfl
theorem XS (f) (val:Nat->Int): ∀n,val (argBest (λi j=>f (val i) (val j)) n)=Ws f ((Ac0 n).map λi=>val (i+1)) (val 0)
 | 0=>rfl
 | n+1=>by
  have ih:=XS f val n
  rw [List.range_succ,Ae5,Ac,Af6,xJ,←ih,argBest]
  by_cases q:f (val (n+1)) (val (argBest (λi j=>f (val i) (val j)) n))=v9
  ·simp only [q,if_true]
  ·simp only [q,if_false,Af7]
theorem X1 {ps:List (Int×Tok)}(e:ps.map (·.1)=n::ns) (f)
 (h:(intItems ps.toArray)[argBest (λi j=>f (numAt ps.toArray i) (numAt ps.toArray j)) (ps.toArray.size-1)]? =y0 v): ∃t,v= .int (Ws f ns n) t:=by
 obtain⟨t,rfl⟩:=intItems_at h
 refine⟨t,?_⟩
 rw [XS f (numAt ps.toArray)]
 have hl:=by
  have:=congrArg Ak0 e
  simpa using this
 have hv: ∀i,numAt ps.toArray i=(n::ns).getD i 0:=λi=>by
  rw [← e,Ad3,Ad4]
  unfold numAt
  rw [List.getElem?_toArray]
  all_goals (cases ps[i]? )
 have h1:(Ac0 (ps.toArray.size-1)).map (λi=>numAt ps.toArray (i+1))=ns:=by
  rw [Ab,hl,Nat.add_sub_cancel]
  apply List.ext_getElem
  ·simp
  ·intro i a b
   simp only [List.getElem_map,List.getElem_range,hv]
   rw [Ad3,List.getElem?_cons_succ,Aa9 b]
   rfl
 rw [h1,hv 0]
 rfl
theorem qap (hc:X.calm=v9):xn X (.builtin "max") (fun xs H Q=> ∃p n,∃ns:List Int,xs= [.ref p]/\SqL X.K H p ((n::ns).map V.int)/\Q (.int (Ws (fun a b=>decide (a>b)) ns n)) H):=by
 intro u8 s σ H xs us Q I r h
 obtain⟨p,n,ns,rfl,hq,q⟩:=h
 obtain⟨u,rfl,rx⟩:=WC r
 cases rx
 obtain⟨its,rv,pl,hz⟩:=I.list hq
 obtain⟨ps,rfl,e2⟩:=wo rv
 have hl:s.heap.IsList p (intItems ps.toArray):=by
  have e:intItems ps.toArray=(ps.map λp=>Value.int p.1 p.2).toArray:=by simp [intItems]
  rw [e]
  exact pl.isList
 refine max_intList (I.ok.hd hc) hl (by have:=congrArg Ak0 e2;simp at this ⊢;omega) λv h' tk hv hk=> ?_
 obtain⟨t,rfl⟩:=X1 e2 (λa b=>k8 (a>b)) hv
 exact⟨.int _,H,I.kept λb o e=>hk b o e,⟨t,rfl⟩,q⟩
theorem X4 (hc:X.calm=v9):xn X (.builtin "min") (fun xs H Q=> ∃p n,∃ns:List Int,xs= [.ref p]/\SqL X.K H p ((n::ns).map V.int)/\Q (.int (Ws (fun a b=>decide (a<b)) ns n)) H):=by
 intro u8 s σ H xs us Q I r h
 obtain⟨p,n,ns,rfl,hq,q⟩:=h
 obtain⟨u,rfl,rx⟩:=WC r
 cases rx
 obtain⟨its,rv,pl,hz⟩:=I.list hq
 obtain⟨ps,rfl,e2⟩:=wo rv
 have hl:s.heap.IsList p (intItems ps.toArray):=by
  have e:intItems ps.toArray=(ps.map λp=>Value.int p.1 p.2).toArray:=by simp [intItems]
  rw [e]
  exact pl.isList
 refine min_intList (I.ok.hd hc) hl (by have:=congrArg Ak0 e2;simp at this ⊢;omega) λv h' tk hv hk=> ?_
 obtain⟨t,rfl⟩:=X1 e2 (λa b=>k8 (a<b)) hv
 exact⟨.int _,H,I.kept λb o e=>hk b o e,⟨t,rfl⟩,q⟩
theorem Xw (lo) (d n) (hd:d<=n):(match lo with | none=>(d:Int) | some i=>max 0 (min (if i<0 then i+n else i) n))=((HT.sIx n d lo:Nat):Int)/\HT.sIx n d lo<=n:=by
 cases lo with
 | none=>exact⟨rfl,hd⟩
 | some i=>
  by_cases q:i<0
  ·simp only [HT.sIx,q,if_true];omega
  ·simp only [HT.sIx,q,if_false];omega
theorem WI (x:Str) (lo hi:Option Int):Builtin.Str.strSliceIndices lo hi 1 x.length=(Ac0 (HT.sIx x.length x.length hi-HT.sIx x.length 0 lo)).map λk=>HT.sIx x.length 0 lo+k:=by
 have h1:=Xw lo 0 x.length (Ae7 _)
 have h2:=Xw hi x.length x.length (Aa6 _)
 have e:Builtin.Str.strSliceIndices lo hi 1 x.length=sliceRange ((HT.sIx x.length 0 lo:Nat):Int) ((HT.sIx x.length x.length hi:Nat):Int) 1:=by
  unfold Builtin.Str.strSliceIndices
  simp only [show (1:Int)>0 by decide,if_true]
  rw [← h1.1,←h2.1]
  cases lo<;>cases hi<;>rfl
 rw [e]
 unfold sliceRange
 simp only [show (1:Int)>0 by decide,if_true,Int.ediv_one,Int.one_mul]
 have e2:(if ((HT.sIx x.length 0 lo:Nat):Int)<((HT.sIx x.length x.length hi:Nat):Int)then((HT.sIx x.length x.length hi:Nat):Int)-((HT.sIx x.length 0 lo:Nat):Int)+1-1 else 0).toNat=HT.sIx x.length x.length hi-HT.sIx x.length 0 lo:=by
  split<;>omega
 rw [e2]
 refine List.map_congr_left λk _=> ?_
 omega
noncomputable def qbe (x:Str) (lo hi:Option Int):Str:=⟨((x.cps.toList.drop (HT.sIx x.length 0 lo)).take (HT.sIx x.length x.length hi-HT.sIx x.length 0 lo)).toArray⟩
theorem jam (x) (lo hi):Txt.slice x lo hi=qbe x lo hi:=by
 have h1:=(Xw lo 0 x.length (Ae7 _)).2
 have h2:=(Xw hi x.length x.length (Aa6 _)).2
 by_cases q:HT.sIx x.length 0 lo<=HT.sIx x.length x.length hi
 ·have e:=StrLaws.sliceText_nat x q h2
  rw [show qbe x lo hi=⟨((x.cps.toList.drop (HT.sIx x.length 0 lo)).take (HT.sIx x.length x.length hi-HT.sIx x.length 0 lo)).toArray⟩from rfl,←e]
  unfold Txt.slice StrLaws.sliceText
  rw [WI x lo hi,StrLaws.strSliceIndices_plain q h2]
 ·have e0:HT.sIx x.length x.length hi-HT.sIx x.length 0 lo=0:=by omega
  unfold Txt.slice qbe
  rw [WI x lo hi,e0]
  rw [if_neg (by simp;omega)]
  simp
noncomputable def xcd:V->Option Int->Option Int->Hp->VK->Prop:=λx lo hi H Q=> ∃z,x= .str z/\z.length<=sizeLine/\Q (.str (qbe z lo hi)) H
theorem WA:SlR X xcd:=by
 intro u8 s σ H x v vl vu lo hi sl Q I rx hs pl pu h
 obtain⟨z,rfl,hz,q⟩:=h
 obtain⟨t,rfl⟩:=rx
 refine⟨"str",_,F.slot_str_getitem.lookup,typeIs_str _ _ _,?_⟩
 have fin: ∀t' k,EP X u8 σ Q (.str (Txt.slice z lo hi) t') { s with toks:=k }:=λt' k=>by
  rw [jam]
  exact⟨.str (qbe z lo hi),H,I.kept (t':=k) λb o e=>e,⟨_,rfl⟩,q⟩
 have hl:(Txt.slice z lo hi).length<=sizeLine:=Ac7 (Txt.slice_le z _ _) hz
 cases pl<;>cases pu
 ·exact wpAny_getItem_str_slice (l:=k9) (u:=k9) (st:=k9) hs rfl (post_val_or_str ⟨hl,fin⟩)
 ·exact wpAny_getItem_str_slice (l:=k9) (u:=y0 (_,_)) (st:=k9) hs rfl (post_val_or_str ⟨hl,fin⟩)
 ·exact wpAny_getItem_str_slice (l:=y0 (_,_)) (u:=k9) (st:=k9) hs rfl (post_val_or_str ⟨hl,fin⟩)
 ·exact wpAny_getItem_str_slice (l:=y0 (_,_)) (u:=y0 (_,_)) (st:=k9) hs rfl (post_val_or_str ⟨hl,fin⟩)
theorem zF: ∀ {ss}{its},Vals (ss.map V.str) its-> ∃ps:List (Str×Tok),its=strValues ps/\ps.map (·.1)=ss
 | [],its,r=>by cases r;exact⟨[],rfl,rfl⟩
 | n::ns,its,r=>by
  cases r with
  | cons h t=>
   obtain⟨k,rfl⟩:=h
   obtain⟨ps,e1,e2⟩:=zF t
   exact⟨(n,k)::ps,by rw [e1];rfl,by rw [← e2];rfl⟩
noncomputable def xce (K:Aa5):V->List V->Hp->VK->Prop:=λx vs H Q=> ∃z p,∃ss:List Str,x= .str z/\vs= [.ref p]/\SqL K H p (ss.map V.str)/\JoinOk z ss=v9/\Q (.str (Str.join z ss)) H
theorem jbb:MtM X "str.join" (xce X.K):=by
 intro u8 s σ H x vs v us Q I rx rv h
 obtain⟨z,p,ss,rfl,rfl,hq,hok,q⟩:=h
 obtain⟨t,rfl⟩:=rx
 obtain⟨u,rfl,ru⟩:=rv.one
 cases ru
 obtain⟨its,rv,pl,hz⟩:=I.list hq
 obtain⟨ps,rfl,e2⟩:=zF rv
 refine SC.join pl.isList e2 hok λt' k=>⟨.str (Str.join z ss),H,I.kept λb o e=>e,⟨t',?_⟩,q⟩
 show Value.str (Builtin.Str.glued z ss) t'=_
 rw [StrLaws.glued_eq_join]
end
open PySem PySem.Spec PyProof.Rows PySem.MeetsSeq
section
variable {X:Cx}
theorem zN {e:Nat->Bool}(ht:IsTup s.heap a k7)
 (he: ∀i y,k7[i]? =y0 y->PySem.SeqAt.EqAt A.in1 s y x (e i)) (hj:j<k7.size) (hit:e j=v9) (hno: ∀i,i<j->e i=u9) (h: ∀t',Q (.int (j:Int) t') { s with toks:=s.toks+1 }):
 wpAny (model prog w) A (call (.builtin "tuple.index") [.ref a,x]) Q E s:=by
 refine wpAny_call_entry F.slot_tuple_index ht.typeIs F.entry_tuple_index ?_ (F.args_tuple_index_2 _ _)
 refine wpAny_bind (wpAny_of_eq (show PySem.selfAndSome "tuple.index" "index" 1 3 ⟨[.ref a,x],[]⟩=pure (Value.ref a,[x])from rfl) ?_)
 refine wpAny_bind (tupleItemsOf_ ht ?_)
 refine wpAny_bind (wpAny_pure (wpAny_bind (wpAny_pure (wpAny_bind ?_))))
 rw [Nat.min_self,Std.Legacy.Range.forIn_eq_forIn_range']
 refine wpAny_forIn_list _ (λXo b s'=>s'=s/\b=(k9,())/\ ∃i,i<=j/\Xo=List.range' i (k7.size-i)) _ ?_ ?_ _ _ ⟨rfl,rfl,0,Ae7 _,by simp⟩
 ·rintro i Xo b s' ⟨rfl,rfl,i0,hi,hr⟩
  have e1:k7.size-i0=(k7.size-(i0+1))+1:=by omega
  rw [e1,List.range'_succ]at hr
  injection hr with h1 h2
  subst h1
  have hl:i<k7.size:=by omega
  rw [Array.getElem?_eq_getElem hl]
  refine wpAny_bind (he i k7[i] (Array.getElem?_eq_getElem hl) prog w _ _ ?_)
  by_cases q:i=j
  ·subst q
   rw [hit,if_pos rfl]
   refine wpAny_bind (wpAny_bind (wpAny_mkInt ?_))
   exact wpAny_pure (wpAny_pure (wpAny_pure ⟨_,rfl,h _⟩))
  ·rw [hno i (by omega),if_neg Ab2]
   exact wpAny_pure ⟨rfl,rfl,i+1,by omega,h2⟩
 ·rintro b s' ⟨rfl,rfl,i0,hi,hr⟩
  have e1:k7.size-i0=(k7.size-(i0+1))+1:=by omega
  rw [e1,List.range'_succ]at hr
  cases hr
abbrev TyF:=V->Hp->Prop
noncomputable def zbP (X:Cx) (T:String) (ty:TyF):Prop:= ∀(u8:List (Addr×Obj)) (s:Shared) (σ:St) (H:Hp) (x:V) (v:Value),Inv X u8 σ H s->RelV x v->ty x H->s.TypeIs v T/\ ∀a,v= .ref a-> ∃ob,s.heap.get? a=y0 ob/\ob.dict=k9
noncomputable def xcz (ty:TyF) (r:V->List V->Hp->VK->Prop) (to:TE) (t:TA):TE:=λσ H Q=>to σ H λx H1=>ty x H1/\t σ H1 λxs H2=>r x xs H2 Q
theorem qF {T id:String}(pa:PlainAttrs T) (slot:Slot T name id) (hty:typeOf (.builtin id)=pure (.type "method_descriptor")) (ht:zbP X T ty) (hm:MtM X id r) (ho:PE X o to) (ha:PA X (e::es) t)
 (hbase:attributeBase o name X.env (eval o X.env)=eval o X.env)
 (hfew:((backTo k6 (starEach (e::es) X.env)).all (λx=> !x.1)&&(backToKw k6 (keywordEach [] X.env)).all (λx=>x.1.isSome)
   &&k8 ((e::es).length+([]:List Keyword).length+(if ([]:List Keyword).isEmpty then 0 else 1)<30))=v9)
 (hline:(apos.endLine==k6.line)=v9) (hs:starEach (e::es) X.env=(u9,eval e X.env)::starEach es X.env) (hplain:(backTo k6 (starEach es X.env)).any (·.1)=u9):
 PE X (.Call (.Attribute o name apos) (e::es) [] k6) (xcz ty r to t):=by
 intro u8 s σ H Q I h
 refine wpAny_Call_method_late hbase hfew hline rfl (thn (ho u8 s σ H _ I h) λv s1 ⟨x,H1,I1,r1,tx,q1⟩=> ?_)
 obtain⟨h1,h2⟩:=ht u8 s1 σ H1 x v I1 r1 tx
 refine⟨T,id,pa,slot,hty,h1,h2,?_⟩
 have hA:=ha k6 u8 s1 σ H1 _ I1 q1
 rw [hs]at hA ⊢
 refine Calls.callWith_builtin (by show(u9||(backTo k6 (starEach es X.env)).any (·.1))=u9;rw [hplain]<;>rfl) (Calls.evalArgs_plain ?_)
 exact thn hA λus s2 ⟨vs,H2,I2,r2,q2⟩=>hm u8 s2 σ H2 x vs v us Q I2 r1 r2 q2
noncomputable def PlT (K:PySem.W.Frag) (H:Hp) (a:Addr):Prop:=(∃ xs,H a=some (.tup xs))\/ ∃o,K.lookup a=some o/\o.cls= .type "tuple" /\o.dict=none
theorem zaV:zbP X "tuple" (fun x H=> ∃a,x= .ref a/\PlT X.K H a):=by
 intro u8 s σ H x v I r h
 obtain⟨a,rfl,h⟩:=h
 cases r
 rcases h with⟨xs,h⟩ | ⟨o,hk,hc,hd⟩
 ·obtain⟨_,its,_,o,e,c,d,n,dt⟩:=I.hok a _ h
  refine⟨⟨o,e,c⟩,λb z=> ?_⟩
  cases z
  exact⟨o,e,d⟩
 ·refine⟨⟨o,I.kIn a o hk,hc⟩,λb z=> ?_⟩
  cases z
  exact⟨o,I.kIn _ o hk,hd⟩
theorem xaY:zbP X "str" (fun x _=> ∃z,x= .str z):=by
 intro u8 s σ H x v I r h
 obtain⟨z,rfl⟩:=h
 obtain⟨t,rfl⟩:=r
 exact⟨typeIs_str s z t,λ_ e=>nomatch e⟩
theorem zbj:zbP X "list" (fun x H=> ∃a xs,x= .ref a/\SqL X.K H a xs):=by
 intro u8 s σ H x v I r h
 obtain⟨a,xs,rfl,h⟩:=h
 cases r
 obtain⟨its,_,pl,_⟩:=I.list h
 refine⟨pl.isList.typeIs,λb e=> ?_⟩
 cases e
 obtain⟨o,n,e,c,hd,_⟩:=pl
 exact⟨o,e,hd⟩
def qbD (x:Str):List Str->Option Nat
 | []=>k9
 | y::ys=>if y=x then y0 0 else(qbD x ys).map (· +1)
theorem W3 : ∀ {ss}{j},qbD x ss=y0 j->j<ss.length/\ss[j]? =y0 x/\ ∀i,i<j-> ∀y,ss[i]? =y0 y->y≠x
 | [],_,h=>by cases h
 | y::ys,j,h=>by
  unfold qbD at h
  split at h
  ·rename_i q
   cases h
   exact⟨Nat.zero_lt_succ _,by simp [q],λi hi=>absurd hi (Ai8 _)⟩
  ·rename_i q
   obtain⟨k,e,rfl⟩:=Ad0.mp h
   obtain⟨h1,h2,h3⟩:=W3 e
   refine⟨Nat.succ_lt_succ h1,by simpa using h2,λi hi z hz=> ?_⟩
   cases i with
   | zero=>simp at hz;rw [← hz];exact q
   | succ i=>exact h3 i (by omega) z (by simpa using hz)
noncomputable def qbU (K:Aa5):V->List V->Hp->VK->Prop:=λx vs H Q=> ∃a z j,∃ss:List Str,x= .ref a/\vs= [.str z]/\SqT K H a (ss.map V.str)/\qbD z ss=y0 j/\Q (.int (j:Nat)) H
theorem qaB:MtM X "tuple.index" (qbU X.K):=by
 intro u8 s σ H x vs v us Q I rx rv h
 obtain⟨a,z,j,ss,rfl,rfl,hq,hj,q⟩:=h
 cases rx
 obtain⟨u,rfl,ru⟩:=rv.one
 obtain⟨t,rfl⟩:=ru
 obtain⟨its,r,p,hz⟩:=I.tuple hq
 obtain⟨h1,h2,h3⟩:=W3 hj
 have u7:=r.length
 rw [Ac4]at u7
 have look: ∀(i:Nat) y,its.toArray[i]? =y0 y-> ∃w t',ss[i]? =y0 w/\y=Value.str w t':=λi y hy=>by
  obtain⟨x',e1,e2⟩:=r.getI (by simpa using hy)
  rw [Ad4]at e1
  cases hb:ss[i]? with
  | none=>rw [hb]at e1;cases e1
  | some b=>
   rw [hb]at e1
   cases e1
   obtain⟨t',rfl⟩:=e2
   exact⟨b,t',rfl,rfl⟩
 refine zN (e:=λi=>k8 (ss[i]? =y0 z)) p (λi y hy=> ?_) (by rw [Ab,←u7];exact h1) (decide_eq_true h2) (λi hi=> ?_) λt'=>⟨.int j,H,I.kept λb o e=>e,⟨t',rfl⟩,q⟩
 ·obtain⟨w,t',e,rfl⟩:=look i y hy
  have:=PySem.SeqAt.EqAt.str_str (A:=X.A.in1) (s:=s) w t' z t
  have e2:k8 (ss[i]? =y0 z)=(w==z):=by
   rw [e]
   by_cases q:w=z
   ·subst q;simp
   ·simp [q]
  rw [e2]
  exact this
 ·have hi':=by omega
  exact decide_eq_false λc=>h3 i hi z c rfl
noncomputable def qbJ (K:Aa5):V->List V->Hp->VK->Prop:=λx vs H Q=> ∃a n,∃ns:List Int,x= .ref a/\vs= [.int n]/\SqL K H a (ns.map V.int)/\Q (.int ((ns.count n:Nat):Int)) H
theorem jaS:MtM X "list.count" (qbJ X.K):=by
 intro u8 s σ H x vs v us Q I rx rv h
 obtain⟨a,n,ns,rfl,rfl,hq,q⟩:=h
 cases rx
 obtain⟨u,rfl,ru⟩:=rv.one
 obtain⟨t,rfl⟩:=ru
 obtain⟨its,r,pl,hz⟩:=I.list hq
 obtain⟨ps,rfl,e2⟩:=wo r
 obtain⟨⟨cls,dd,data,sl⟩,ho,hc,k,hd⟩:=id pl.isList
 subst hc hd
 refine call_meets F.slot_list_count ⟨_,ho,rfl⟩ F.entry_list_count (F.args_list_count_2 _ _) (PySem.SeqAt.list_countAt a _ k dd sl (.int n t) (λy=>match y with | .int i _=>i==n | _=>u9)) ⟨ho,λy hy=> ?_,?_⟩
 ·simp only [List.mem_toArray,Ae3]at hy
  obtain⟨p,_,rfl⟩:=hy
  exact PySem.SeqAt.EqAt.int_int p.1 p.2 n t
 ·refine⟨.int ((ns.count n:Nat)),H,I.kept λb o e=>e,⟨s.toks,?_⟩,q⟩
  rw [← e2,List.count_eq_countP,List.countP_map]
  simp only [List.countP_map]
  rfl
end
section
variable {X:Cx}{u8:List (Addr×Obj)}{σ:St}{H:Hp}{s:Shared}{h':Heap}
theorem Inv.turned2 (I:Inv X u8 σ H s) (k: ∀b o,b≠e->b≠it->s.heap.get? b=y0 o->h'.get? b=y0 o) (hn:H it=k9) (hn':H e=k9) (hL:it≠X.env.locals) (hL':e≠X.env.locals)
 (h1:it∈X.ex\/X.s₀.heap.objs.size<=it) (h1':e∈X.ex\/X.s₀.heap.objs.size<=e) (h2: ∀x c,X.env.cells.lookup x=y0 c->c≠it) (h2': ∀x c,X.env.cells.lookup x=y0 c->c≠e) (h3: ∀p∈X.pn++u8,p.1≠it) (h3': ∀p∈X.pn++u8,p.1≠e):Inv X u8 σ H { s with heap:=h',toks:=t' }:=by
 have nit: ∀b u,H b=y0 u->b≠e/\b≠it:=λb u q=>⟨λz=>(by rw [z,hn']at q;cases q),λz=>(by rw [z,hn]at q;cases q)⟩
 have kk: ∀b o,b∉ [e,it]->s.heap.get? b=y0 o->h'.get? b=y0 o:=λb o hc q=>k b o (λz=>hc (by simp [z])) (λz=>hc (by simp [z])) q
 refine I.step (λb hb=> ?_) (λb o _ _ hc e _=>kk b o hc e) (λb o _ _ hc e _=>⟨o.slots,kk b o hc e⟩) (λ_ _ _ _ n=>n)
  (λb o hc e=>⟨o,kk b o hc e⟩) (λ_ _ e=>e) (λ_ _ _ e=>e) (λb ps e=>⟨#[],by rw [e];simp⟩) (λm hm=> ?_) (λb u q=> ?_) I.bare
 ·rcases Aa.mp hb with z | z
  ·rw [z];exact⟨h1',hL',h2',h3'⟩
  ·rw [Ab5.mp z];exact⟨h1,hL,h2,h3⟩
 ·obtain⟨o,es,ep,ho,r⟩:=hm
  exact⟨o,es,ep,k _ o (Ne.symm hL') (Ne.symm hL) ho,r⟩
 ·refine(I.hok b u q).stay (λc v hc q'=>k c v ?_ ?_ q') (λ_ q=>q) λ_ _ q=>q
  ·rcases hc with z | z
   ·rw [z];exact(nit b u q).1
   ·exact(nit c _ z).1
  ·rcases hc with z | z
   ·rw [z];exact(nit b u q).2
   ·exact(nit c _ z).2
end
theorem qD:bootBuiltins "enumerate" =some (.type "enumerate"):=by decide +kernel
section
variable {X:Cx}
def idxI (z:Int):List Int->Option Nat
 | []=>k9
 | y::ys=>if y=z then y0 0 else(idxI z ys).map (· +1)
theorem qam : ∀ {ss}{j},idxI z ss=y0 j->j<ss.length/\ss[j]? =y0 z/\ ∀i,i<j->ss[i]? ≠y0 z
 | [],_,h=>by cases h
 | y::ys,j,h=>by
  rw [idxI]at h
  by_cases q:y=z
  ·rw [if_pos q]at h
   cases h
   exact⟨by simp,by simp [q],λi hi=>absurd hi (Ai8 i)⟩
  ·rw [if_neg q]at h
   obtain⟨k,e,rfl⟩:=Ad0.mp h
   obtain⟨h1,h2,h3⟩:=qam e
   refine⟨Nat.succ_lt_succ h1,by simpa using h2,λi hi hz=> ?_⟩
   cases i with
   | zero=>simp at hz;exact q hz
   | succ i=>exact h3 i (by omega) (by simpa using hz)
noncomputable def jbq (K:Aa5):V->List V->Hp->VK->Prop:=λx vs H Q=> ∃a z j,∃ss:List Int,x= .ref a/\vs= [.int z]/\SqT K H a (ss.map V.int)/\idxI z ss=y0 j/\Q (.int (j:Nat)) H
theorem qal:MtM X "tuple.index" (jbq X.K):=by
 intro u8 s σ H x vs v us Q I rx rv h
 obtain⟨a,z,j,ss,rfl,rfl,hq,hj,q⟩:=h
 cases rx
 obtain⟨u,rfl,t,rfl⟩:=rv.one
 obtain⟨its,r,p,hz⟩:=I.tuple hq
 obtain⟨h1,h2,h3⟩:=qam hj
 have u7:its.length=ss.length:=by have:=r.length;rw [Ac4]at this;omega
 refine zN p (λi y hy=> ?_) (by rw [Ab,u7];exact h1) (decide_eq_true h2) (λi hi=>decide_eq_false (h3 i hi)) λt'=>⟨.int j,H,I.kept λb o e=>e,⟨t',rfl⟩,q⟩
 obtain⟨x',e1,e2⟩:=r.getI (by simpa using hy)
 rw [Ad4]at e1
 cases hb:ss[i]? with
 | none=>rw [hb]at e1;cases e1
 | some b=>
  rw [hb]at e1
  cases e1
  obtain⟨t',rfl⟩:=e2
  have e3:k8 (y0 b=y0 z)=(b==z):=by
   by_cases q:b=z
   ·subst q;simp
   ·simp [q]
  rw [e3]
  exact PySem.SeqAt.EqAt.int_int b t' z t
end
theorem Wy {lo hi:Option Int}(ht:IsTup s.heap t vs) (hs:s.heap.IsSliceOf sl vl vu .none) (pl:IsPart vl lo) (pu:IsPart vu hi)
 (h0:HT.sIx vs.size 0 lo=0) (h1:HT.sIx vs.size vs.size hi=vs.size) (h:Q (.ref t) s):wpAny (model prog w) A (getItem (.ref t) (.ref sl)) Q E s:=by
 obtain⟨os,hos,hcs,hds⟩:=id hs
 have hTs:s.TypeIs (.ref sl) "slice" :=⟨os,hos,hcs⟩
 unfold getItem
 try with_reducible refine wpAny_holding ?_
 refine wpAny_bind (wpAny_sequenceKey ht.typeIs (by decide) (wpAny_bind (wpAny_callSpecial?_slot ht.typeIs PyProof.Rows.slot_tuple_getitem
  (wpAny_call_entry PyProof.Rows.slot_tuple_getitem ht.typeIs PyProof.Rows.entry_tuple_getitem ?_ (PyProof.Rows.args_tuple_getitem _ _)))))
 show wpAny _ _ (Builtin.Tuple.tupleItemsOf (.ref t) >>= _) _ _ s
 refine wpAny_bind (tupleItemsOf_ ht (wpAny_bind (wpAny_typeOf hTs ?_)))
 refine wpAny_bind (HT.sliceApplied_gen hs pl pu ?_)
 show wpAny _ _ (if (((HT.sIx vs.size 0 lo:Nat):Int)==0&& 1==1&&(HT.sIx vs.size vs.size hi-HT.sIx vs.size 0 lo)==vs.size)=v9 then _ else _) _ _ s
 rw [if_pos (by rw [h0,h1];simp)]
 refine wpAny_bind (wpAny_bind (wpAny_typeOf ht.typeIs (wpAny_pure ?_)))
 exact wpAny_bind (wpAny_rule (wpAny_pure ⟨_,rfl,wpAny_pure h⟩))
section
variable {X:Cx}
noncomputable def jcm (K:Aa5):V->Option Int->Option Int->Hp->VK->Prop:=λx lo hi H Q=> ∃a xs,x= .ref a/\SqT K H a xs/\HT.sIx xs.length 0 lo=0/\HT.sIx xs.length xs.length hi=xs.length/\Q (.ref a) H
theorem xbP:SlR X (jcm X.K):=by
 intro u8 s σ H x v vl vu lo hi sl Q I rx hs pl pu h
 obtain⟨a,xs,rfl,hx,h0,h1,q⟩:=h
 cases rx
 obtain⟨its,r,ht,hz⟩:=I.tuple hx
 have u7:its.toArray.size=xs.length:=by rw [Ab];exact r.length.symm
 refine⟨"tuple",_,PyProof.Rows.slot_tuple_getitem.lookup,ht.typeIs,?_⟩
 exact Wy ht hs pl pu (by rw [u7];exact h0) (by rw [u7];exact h1) ⟨.ref a,H,I,rfl,q⟩
end
end L2
namespace PyProof.Rows
open PySem PySem.Spec
end PyProof.Rows
namespace L2
open PySem PySem.Spec PyProof.Rows
end L2
namespace HT
open PySem PyProof.Rows
section
open PySem.SeqAt
open PySem.AutoSeq1 (wpAny_loadPart')
open PySem.MeetsSeq PySem.MeetsSeq2 PySem.MeetsSeq3
end
end HT
namespace L2
open PySem PySem.Spec PyProof.Rows
end L2
namespace PySem
open Sem (wp)
end PySem
namespace L2
open PySem PySem.Spec PyProof.Rows
end L2
namespace HT
open PySem PyProof.Rows
section
open PySem.SeqAt
open PySem.AutoSeq1 (wpAny_loadPart')
open PySem.MeetsSeq PySem.MeetsSeq2 PySem.MeetsSeq3
end
end HT
namespace L2
open PySem PySem.Spec PyProof.Rows
end L2
set_option maxHeartbeats 8000000
namespace L2
open PySem PySem.Spec PyProof.Rows
open Sem (wp)
abbrev K2:=List (Int ⊕ List Int)
section
variable (prog:Program) (w:World)
inductive wM (h:Heap):K2->List Value->Prop
 | nil:wM h [] []
 | int {i:Int}{t:Tok}{ks:K2}{vs:List Value}:wM h ks vs->wM h (.inl i::ks) (.int i t::vs)
 | tup {l:List Int}{a:Addr}{ks:K2}{vs:List Value}:IsTupleKey (intKind prog w) h l a->wM h ks vs->wM h (.inr l::ks) (.ref a::vs)
end
abbrev WK:=Int×List Int×List Int
def xbG (l:List Int):Int:=reduceHash (Builtin.Tuple.tupleHashOf (l.map hashInt))
def jci (k:WK):Int:=reduceHash (Builtin.Tuple.tupleHashOf [hashInt k.1,xbG k.2.1,xbG k.2.2])
def jcD (x:WK×Addr×Value):DictEntry:=⟨jci x.1,.ref x.2.1,x.2.2⟩
noncomputable def DW (a:Addr) (xs:List (WK×Addr×Value)):HO:= .ext λh=>(a==sysModules)=u9/\xs.length<=sizeLine/\(xs.map (·.1)).Nodup/\ ∃o es ep,h.get? a=y0 o/\o.ExactDict/\o.data= .dict es ep/\es.toList=xs.map jcD
section
variable {X:Cx}{u8:List (Addr×Obj)}{σ:St}{H:Hp}{s:Shared}{a b:Addr}{k:WK}{xs:List (WK×Addr×Value)}{r:Value}{A:Around}{E:Value->Shared->Prop}
theorem jbu (I:Inv X u8 σ H s):sysModules<s.heap.objs.size:=by
 have h:=(I.mod.glob.keeps I.bk).lt
 exact Aj2 (by decide) h
end
open AutoSeq1 (wpAny_loadPart')
open MeetsSeq MeetsSeq2 MeetsSeq3 SeqRoads2 PySem.SeqAt
open PySem PySem.Spec PyProof.Rows PyProof.Rows.KTD PyProof.V
def flV:PyData->V
 | .int i=> .int i
 | .str x=> .str x
 | .bool b=> .bl b
 | _=> .non
theorem jan (hd:flatData d=v9) (h:Flat u d):RelV (flV d) u:=by
 cases d with
 | none=>rw [h.none_inv];rfl
 | bool b=>rw [h.bool_inv];rfl
 | int i=>obtain⟨t,rfl⟩:=h.int_inv;exact⟨t,rfl⟩
 | str x=>obtain⟨t,rfl⟩:=h.str_inv;exact⟨t,rfl⟩
 | list _=>cases hd
 | tuple _=>cases hd
 | dict _=>cases hd
abbrev jbC (T:List (Str×PyData)):List (Str×Dat):=T.map λp=>(p.1,Dat.flat p.2)
section
variable {k:Str}{h:Heap}{P:Value->Prop}
theorem ja5 (e:k=x):datumAt k ((x,d)::T)=y0 d:=if_pos (decide_eq_true e)
theorem QH (e: ¬k=x):datumAt k ((x,d)::T)=datumAt k T:=if_neg (by simp [e])
theorem xas: ∀(T){d},datumAt k T=y0 d->inKeys k (jbC T)=v9
 | [],_,q=>by cases q
 | (x,d')::T,d,q=>by
  show(k8 (k=x)||inKeys k (jbC T))=v9
  by_cases e:k=x
  ·rw [decide_eq_true e];rfl
  ·rw [QH e]at q;rw [xas T q,Bool.or_true]
theorem opn (q: ∀v,Flat v d->P v):Opened h P (.flat d):=by
 cases d with
 | none=>exact q _ Flat.none
 | bool b=>exact q _ (Flat.bool b)
 | int i=>exact λt=>q _ (Flat.int i t)
 | str x=>exact λt=>q _ (Flat.str x t)
 | list _=>exact q
 | tuple _=>exact q
 | dict _=>exact q
theorem wU: ∀(T),(∀ d v,datumAt k T=y0 d->Flat v d->P v)->EachL h k P (jbC T)
 | [],_=>trivial
 | (x,d)::T,q=>by
  by_cases e:k=x
  ·exact eachL_hit e (opn λv f=>q d v (ja5 e) f)
  ·exact eachL_miss e (wU T λd' v hd f=>q d' v ((QH e).trans hd) f)
theorem Q3 : ∀ T,(∀ d v,datumAt k T=y0 d->Flat v d->P v)->(datumAt k T=k9->els)->Each h k P els (jbC T)
 | [],_,n=>n rfl
 | (x,d)::T,q,n=>by
  by_cases e:k=x
  ·exact each_hit e (opn λv f=>q d v (ja5 e) f)
  ·exact each_miss e (Q3 T (λd' v hd f=>q d' v ((QH e).trans hd) f) λhd=>n ((QH e).trans hd))
end
def JN (K:Aa5) (a:Addr) (T:List (Str×PyData)):Prop:=tabLook flatLooks (λb=>K.lookup b) a T=v9
section
variable {X:Cx}{u8:List (Addr×Obj)}{σ:St}{H:Hp}{s:Shared}
theorem xw (I:Inv X u8 σ H s) (hl:JN X.K a T):Here s.heap s.heap a (jbC T):=
 ⟨(tab_of_look (λ_ _ x=>flat_of_looks x) I.kIn hl).text,λ_ _ e=>e⟩
theorem j0 (T) (h: ∀p∈T,flatData p.2=v9):((jbC T).all λp=>KTD.plain p.2)=true:=by
 rw [List.all_map,Ah0]
 rintro ⟨x,d⟩ hp
 have:=h _ hp
 cases d<;>first | rfl | cases this
noncomputable def qbK (K:Aa5):R2:=λx y H Q=> ∃a T k d,x= .ref a/\y= .str k/\JN K a T/\(∀ p∈T,flatData p.2=v9)/\datumAt k T=y0 d/\flatData d=v9/\Q (flV d) H
theorem jbY:IxR X (qbK X.K):=by
 intro value slice u8 s σ H x y v u Q I rx ry h hs
 obtain⟨a,T,k,d,rfl,rfl,hl,ha,hd,hf,q⟩:=h
 cases rx
 obtain⟨t,rfl⟩:=ry
 refine item_textA (xw I hl) (j0 T ha) (xas T hd) (wU T λd' w e f=> ?_) hs
 rw [hd]at e
 cases e
 exact⟨flV d,H,I.tok _,jan hf f,q⟩
theorem qb2:zbP X "dict" (fun x _=> ∃a T,x= .ref a/\JN X.K a T):=by
 intro u8 s σ H x v I r h
 obtain⟨a,T,rfl,hl⟩:=h
 cases r
 exact⟨(xw I hl).typeIs,(xw I hl).noDict⟩
noncomputable def za9 (K:Aa5):V->List V->Hp->VK->Prop:=λx xs H Q=> ∃a T k z,x= .ref a/\xs= [.str k,z]/\JN K a T ∧
 (∀ d,datumAt k T=y0 d->flatData d=v9/\Q (flV d) H)/\(datumAt k T=k9->Q z H)
theorem jbD:MtM X "dict.get" (za9 X.K):=by
 intro u8 s σ H x vs v us Q I rx rv h
 obtain⟨a,T,k,z,rfl,rfl,hl,h1,h2⟩:=h
 cases rx
 obtain⟨u,w,rfl,r1,r2⟩:=zaF rv
 obtain⟨t,rfl⟩:=r1
 exact get2_text (xw I hl) (Q3 T (λd w' e f=>⟨flV d,H,I.tok _,jan (h1 d e).1 f,(h1 d e).2⟩) λe=>⟨z,H,I.tok _,r2,h2 e⟩)
theorem xbW {i:Nat}(hN:X.N[i]? =y0 x) (hv:Vis X.env.scope x) (I:Inv X u8 σ H s) (e:σ[i]? =y0 (y0 v)) (q: ∀u,RelV v u->Q u s)
 (hd:(x==("__debug__" :Str))=false) (hcd:(x==("__classdict__" :Str))=false):wpAny (model X.prog X.w) X.A (eval (.Name x p) X.env) Q E s:=by
 obtain⟨m,hn,hl⟩:=I.loc
 obtain⟨u,r,l⟩:=hl i x v hN e hv
 have q:=q u r
 rcases l with⟨k1,z⟩ | ⟨k1 | k1,c,z1,z2⟩
 ·exact wpAny_Name (wpAny_loadName_local I.ok.kind k1 hn z q) hd
 ·exact wpAny_Name (wpAny_loadName_cell I.ok.kind k1 z1 z2 q) hd
 ·exact wpAny_Name (wpAny_loadName_free I.ok.kind k1 z1 z2 q hcd) hd
noncomputable def fmV:V->Option Str
 | .str x=>y0 x
 | .int i=>if i.natAbs.log2<1920 then y0 (Str.ofString (toString i))else k9
 | _=>k9
noncomputable def ja7 (σ:St):List (Str ⊕ Nat)->Option Str
 | []=>y0 Str.empty
 | .inl x::ps=>(ja7 σ ps).map (x++ ·)
 | .inr i::ps=>(((σ[i]?).bind id).bind fmV).bind λx=>(ja7 σ ps).map (x++ ·)
noncomputable def qbE (X:Cx):(Str ⊕ Nat)->Expr->Prop
 | .inl x,e=> ∃j p,e= .Constant (.str x) j p
 | .inr i,e=> ∃x p q,e= .FormattedValue (.Name x p) (-1) none q/\X.N[i]? =some x/\Vis X.env.scope x/\(x==("__debug__" :Str))=false/\(x==("__classdict__" :Str))=false
def wH (X:Cx):List (Str ⊕ Nat)->List Expr->Prop
 | [],es=>es= []
 | p::ps,es=> ∃e r,es=e::r/\qbE X p e/\wH X ps r
theorem WL (a b c:Str):a++(b++c)=a++b++c:=congrArg Str.mk (Array.append_assoc ..).symm
theorem zbi (a):a++Str.empty=a:=congrArg Str.mk (Array.append_empty ..)
theorem jbv (a):Str.empty++a=a:=congrArg Str.mk (Array.empty_append ..)
theorem WH: ∀(ps) (es) (acc t) (s) (Q),wH X ps es->ja7 σ ps=y0 t->(acc++t).length<=sizeLine->Inv X u8 σ H s->(∀ s',Inv X u8 σ H s'->Q (acc++t) s') →
 Joins (model X.prog X.w) X.A X.xe (evalEach es X.env) acc Q s
 | [],es,acc,t,s,Q,ok,e,hl,I,q=>by
  cases ok
  cases e
  have:=q s I
  rwa [zbi]at this
 | .inl x::ps,es,acc,t,s,Q,ok,e,hl,I,q=>by
  obtain⟨_,r,rfl,⟨j,p,rfl⟩,ok⟩:=ok
  obtain⟨t',e',rfl⟩:=Ad0.mp e
  have ha:=WL acc x t'
  rw [ha]at hl q
  refine Calls.Constant_str ⟨x,_,rfl,?_,WH ps r (acc++x) t' _ Q ok e' hl (I.tok _) q⟩
  have:=strLen_append (acc++x) t'
  omega
 | .inr i::ps,es,acc,t,s,Q,ok,e,hl,I,q=>by
  obtain⟨_,r,rfl,⟨x,p,q0,rfl,hN,hv,hd,hcd⟩,ok⟩:=ok
  obtain⟨y,e1,e2⟩:=Ac3.mp e
  obtain⟨v,ev,e3⟩:=Ac3.mp e1
  obtain⟨t',e',rfl⟩:=Ad0.mp e2
  have ha:=WL acc y t'
  rw [ha]at hl q
  have h1:(acc++y).length<=sizeLine:=by rw [strLen_append]at hl;omega
  have h2:y.length<=sizeLine:=by rw [strLen_append]at h1;omega
  have hs:σ[i]? =y0 (y0 v):=by
   obtain⟨o,z1,z2⟩:=Ac3.mp ev
   rw [z1];exact congrArg y0 z2
  refine wpAny_FormattedValue_plain (thn (zA hN hv hd hcd u8 s σ H (λw H'=>w=v/\H'=H) I ⟨v,hs,rfl,rfl⟩) λu s1 ⟨w,H1,I1,rw1,e4,e5⟩=> ?_)
  subst e4
  rw [e5]at I1
  have fin: ∀tk s2,Inv X u8 σ H s2-> ∃y' t,Value.str y tk= .str y' t/\(acc++y').length<=sizeLine/\Joins (model X.prog X.w) X.A X.xe (evalEach r X.env) (acc++y') Q s2:=λtk s2 I2=>
   ⟨y,tk,rfl,h1,WH ps r (acc++y) t' s2 Q ok e' hl I2 q⟩
  cases w with
  | str z=>
   cases e3
   obtain⟨tk,rfl⟩:=rw1
   exact wpAny_formatField_str (fin _ _ I1) (fin _ _ (I1.tok _)) h2
  | int j=>
   obtain⟨tk,rfl⟩:=rw1
   have e3:(if j.natAbs.log2<1920 then y0 (Str.ofString (toString j))else k9)=y0 y:=e3
   split at e3
   ·rename_i hj
    cases e3
    exact wpAny_formatField_int hj (fin _ _ (I1.tok _))
   ·cases e3
  | _=>cases e3
theorem jbB (ok:wH X ps (e1::e2::es)):PE X (.JoinedStr (e1::e2::es) pos) (λσ H Q=> ∃t,ja7 σ ps=y0 t/\t.length<=sizeLine/\Q (.str t) H):=by
 intro u8 s σ H Q I ⟨t,e,hl,q⟩
 have ha:=jbv t
 refine wpAny_JoinedStr (WH ps _ Str.empty t s _ ok e (by rw [ha];exact hl) I λs' I'=> ?_)
 rw [ha]
 exact⟨hl,.str t,H,I'.tok _,⟨_,rfl⟩,q⟩
theorem xai:xn X (.type "str") (fun xs H Q=> ∃i:Int,xs= [.int i]/\i.natAbs.log2<1920/\Q (.str (Str.ofString (toString i))) H):=by
 intro u8 s σ H xs us Q I r h
 obtain⟨i,rfl,hi,q⟩:=h
 obtain⟨u,rfl,ru⟩:=r.one
 obtain⟨t,rfl⟩:=ru
 exact PySem.P.str_of_int hi ⟨.str (Str.ofString (toString i)),H,I.tok _,⟨_,rfl⟩,q⟩
noncomputable def Z2:List (Str×Str)->List (Option Expr)->List Expr->Prop
 | [],ks,vs=>ks= []/\vs= []
 | (x,y)::r,ks,vs=> ∃j p j' p' ks' vs',ks=y0 (.Constant (.str x) j p)::ks'/\vs= .Constant (.str y) j' p'::vs'/\Z2 r ks' vs'
theorem xar: ∀ {T}{ks}{vs},Z2 T ks vs->ks.all (·.isSome)=v9/\ks.length=T.length/\vs.length=T.length
 | [],_,_,⟨rfl,rfl⟩=>⟨rfl,rfl,rfl⟩
 | (x,y)::r,_,_,⟨j,p,j',p',ks',vs',rfl,rfl,ok⟩=>by
  obtain⟨h1,h2,h3⟩:=xar ok
  exact⟨by simpa using h1,by simp [h2],by simp [h3]⟩
theorem xK : ∀ {T}{ks}{vs}{s}{Q},Z2 T ks vs →
 (∀ kvs us t,Carries (strKind X.prog X.w) us kvs->FlatPairs PyData.str kvs (T.map λp=>(PyData.str p.1,PyData.str p.2))->kvs.map (·.1)=T.map (·.1)->Q us { s with toks:=t }) →
 wpAny (model X.prog X.w) X.A (evalPairs (pairTrees ks vs X.env pos)) Q X.xe s
 | [],_,_,s,Q,⟨rfl,rfl⟩,q=>pairTrees_nil_walk (q [] [] s.toks trivial .nil rfl)
 | (x,y)::r,_,_,s,Q,⟨j,p,j',p',ks',vs',rfl,rfl,ok⟩,q=>
  pairTrees_cons_walk (Calls.Constant_str (Calls.Constant_str (xK ok λkvs us t c f m=>q ((x,.str y _)::kvs) _ t ⟨strKind_is _ _ _ _,rfl,c⟩ (.cons (Flat.str y _) f) (by simp [m]))))
theorem ZD {K:Type} [DecidableEq K]: ∀(more acc:List (K×Value)),((acc++more).map (·.1)).Nodup->merged acc more=acc++more
 | [],acc,_=>by simp [merged]
 | p::more,acc,h=>by
  have e:stored acc p.1 p.2=acc++ [p]:=by
   unfold stored
   rw [if_neg]
   intro z
   obtain⟨b,hb,e⟩:=List.any_eq_true.mp z
   rw [Ae5,List.nodup_append]at h
   exact h.2.2 b.1 (List.mem_map_of_mem hb) p.1 (by simp) (of_decide_eq_true e)
  show merged (stored acc p.1 p.2) more=_
  rw [e,ZD more (acc++ [p]) (by simpa using h)]
  simp
theorem qbs {i:Nat}(ok:Z2 T ks vs) (h0:T≠ []) (hl:T.length<=15) (hn:(T.map (·.1)).Nodup)
 (hN:X.N[i]? =some x) (hv:Vis X.env.scope x) (hd:(x==("__debug__" :Str))=false) (hcd:(x==("__classdict__" :Str))=false):
 PE X (.Subscript (.Dict ks vs p1) (.Name x p2) pos) (λσ H Q=> ∃k y,σ[i]? =y0 (y0 (.str k))/\T.lookup k=y0 y/\Q (.str y) H):=by
 intro u8 s σ H Q I ⟨k,y,e1,e2,q⟩
 obtain⟨a1,a2,a3⟩:=xar ok
 have hb:=jbu I
 refine Subscript_ (wpAny_Dict_walk a1 (a2.trans a3.symm) (λz=>h0 (List.length_eq_zero_iff.mp (by rw [← a2,z];rfl))) (by omega) (xK ok λkvs us t c f m=>⟨kvs,c,Heap.DictOf.new _,λh' dd hs=> ?_⟩))
 have I1:Inv X u8 σ H { s with heap:=h',toks:=t+us.length }:=I.kept λb u z=>(hs.2 b (Ad (Ab6 z))).trans (Ab0 _ z)
 refine xbW hN hv I1 e1 (λu ru=> ?_) hd hcd
 obtain⟨tk,rfl⟩:=ru
 rw [ZD kvs [] (by rw [Ae4,m];exact hn),Ae4]at dd
 refine item_tab_any PyProof.V.same_str (strKind_is _ _ _ _) ⟨beq_eq_false_iff_ne.mpr (Ne.symm (Ad hb)),kvs,dd,f⟩ (dv:= .str y) ?_ (λv fv=> ?_) rfl
 ·clear ok h0 hl hn a2 a3 f m
  induction T with
  | nil=>cases e2
  | cons p T ih=>
   rw [Ab7]at e2
   by_cases z:k=p.1
   ·subst z
    rw [beq_self_eq_true]at e2
    cases e2
    simp [PySem.Spec.lookup,PyProof.V.same_str]
   ·rw [beq_eq_false_iff_ne.mpr z]at e2
    have:=ih e2
    have z': ¬p.1=k:=λq=>z q.symm
    simp [PySem.Spec.lookup,PyProof.V.same_str,z',this]
 ·obtain⟨t2,rfl⟩:=fv.str_inv
  exact⟨.str y,H,I1.tok _,⟨_,rfl⟩,q⟩
end
section
variable {X:Cx}
theorem qah:MtM X "str.startswith" (fun x vs H Q=> ∃z y:Str,x= .str z/\vs= [.str y]/\Q (.bl (Txt.startswith z y)) H):=by
 intro u8 s σ H x vs v us Q I rx rv h
 obtain⟨z,y,rfl,rfl,q⟩:=h
 obtain⟨t,rfl⟩:=rx
 obtain⟨u,rfl,ru⟩:=rv.one
 obtain⟨t',rfl⟩:=ru
 exact SC.startswith ⟨.bl _,H,I,rfl,q⟩
theorem Q7:xn X (.type "int") (fun xs H Q=> ∃ z n,xs= [.str z]/\z.length<=640/\PySem.intText? z=some n/\Q (.int n) H):=by
 intro u8 s σ H xs us Q I r h
 obtain⟨z,n,rfl,hl,hn,q⟩:=h
 obtain⟨u,rfl,ru⟩:=r.one
 obtain⟨t,rfl⟩:=ru
 exact PySem.W.KIN.call_text hn hl ⟨.int n,H,I.tok _,⟨_,rfl⟩,q⟩
end
def Itw (lo:Int) (n:Nat):It:=⟨λi _=>i<n,λi H x H'=>H'=H/\x= .int (lo+(i:Nat)*2),λi _=>n<=i⟩
theorem qaT {K:Aa5}(it) (lo) (n):qaR P w K tg (Itw lo n) [it] it (λi h=>IsRangeIter h it (lo+(i:Nat)*2) ((n:Int)-(i:Nat)) 2) where
 mem:=by simp
 obj:=λi h st b hb=>by
  have e:=by simpa using hb
  subst e
  exact⟨_,st,λv z=>by
   have z':=z
   cases z'⟩
 keep:=λi h h' st k=>k it (by simp) _ st
 item:=by
  intro X hP hw hK hc i u8 s σ H E I hf st hg
  obtain⟨f0,f1,f2,f3,f4,f5⟩:=hf it (by simp)
  refine(Walks.range (I.ok.hd hc) it lo 2 n).item i s _ _ hg st λv h' tk hv st' kk=> ?_
  obtain⟨t,rfl⟩:=hv
  have I1:Inv X u8 σ H { s with heap:=h',toks:=tk }:=I.turned (λb o hb e=>kk b o (by simpa using hb) e) f0 f1 f3 f4 f5
  exact⟨_,rfl,qR st' rfl rfl (by decide) ⟨.int (lo+ i*2),H,I1,⟨t,rfl⟩,⟨rfl,rfl⟩,st',λb hb=>(hf b hb).1⟩⟩
 done:=by
  intro X hP hw hK hc i u8 s σ H E I hf st hg
  obtain⟨f0,f1,f2,f3,f4,f5⟩:=hf it (by simp)
  exact wpAny_pyNext_range_end (I.ok.hd hc) st (by have:n<=i:=hg;omega) λh' eb=>⟨rfl,I.turned (λb o hb e=>eb b o hb e) f0 f1 f3 f4 f5⟩
 self:=λ_ _ _ _ _ st h=>wpAny_pyIter_rangeiter st h
theorem qU (a b):Builtin.Range.rangeSize a b 2=(((b-a+1) / 2).toNat:Int):=by
 unfold Builtin.Range.rangeSize
 split<;>omega
theorem W0 (h1: -(2 ^ 60)<=a) (h2:a<2 ^ 60) (h3: -(2 ^ 60)<=b) (h4:b<2 ^ 60):Builtin.Range.small a b 2=true:=by
 unfold Builtin.Range.small
 rw [qU]
 simp only [Builtin.Range.rangeFitsLong,Ab4,Bool.or_eq_true,decide_eq_true_eq,show(2:Int)>0 by decide,if_true]
 omega
section
variable {X:Cx}{tg:Expr}
noncomputable def xb7 (ta:TA):TI:=λσ H R=>ta σ H λvs H1=> ∃i j:Int,vs= [.int i,.int j,.int 2]/\(-(2 ^ 60)<=i/\i<2 ^ 60/\ -(2 ^ 60)<=j/\j<2 ^ 60)/\R (Itw i ((j-i+1) / 2).toNat) H1
theorem zao (hg:Gl X "range") (hm:X.mg "range" =none) (ha:PA X [a,b,c] ta) (hs:starEach [a,b,c] X.env= [(false,eval a X.env),(false,eval b X.env),(false,eval c X.env)]) (hs2:starEach [b,c] X.env= [(false,eval b X.env),(false,eval c X.env)]):
 PI X tg (.Call (.Name "range" p) [a,b,c] [] pos) (xb7 ta):=by
 intro u8 s σ H R I h
 refine Call_ (xv I hg hm boot_range (PyProof.Rows.callWith_type1 (thn (ha pos u8 s σ H _ I h) λus s1 ⟨vs,H1,I1,r1,q1⟩=> ?_) (by rw [hs,hs2]) (by rw [hs2];rfl)))
 obtain⟨i,j,e,⟨q1,q2,q3,q4⟩,q⟩:=q1
 subst e
 cases r1 with
 | cons r rr=>
  cases rr with
  | cons r' rr=>
   cases rr with
   | cons r'' rr=>
    cases rr
    obtain⟨t,rfl⟩:=r
    obtain⟨t',rfl⟩:=r'
    obtain⟨t'',rfl⟩:=r''
    refine call_range_3 (by decide) ?_ (Or.inl (PyProof.noPylong_small (by decide)))
    refine wpAny_pyIter_range (IsRange.new ..) (W0 q1 q2 q3 q4) ?_
    have I2:Inv X u8 σ H1 { s1 with heap:=s1.heap.push { cls:= .type "range",data:= .fields #[.int i t,.int j t',.int 2 t''] },toks:=s1.toks }:=I1.kept fun b o e=>Heap.get?_push_of_some _ e
    refine⟨_,[_],_,_,H1,rfl,I2.kept λb o e=>Ab0 _ e,qaT _ i ((j-i+1) / 2).toNat,?_,λb hb=> ?_,q⟩
    ·have e1:i+ (0:Nat)*2=i:=by simp
     have e2:((((j-i+1) / 2).toNat:Nat))- (0:Nat)=Builtin.Range.rangeSize i j 2:=by rw [qU];omega
     rw [e1,e2]
     exact Ac6 _ rfl
    ·cases Ab5.mp hb
     exact I2.fpOk (Aa6 _) (I2.hok.fresh (Aa6 _))
end
noncomputable def qcn (K:Aa5) (a:Addr):It:=
 ⟨λi H=> ∃xs x,SqL K H a xs/\xs[i]? =y0 x,λi H x H'=> ∃p y,H p=k9/\x= .ref p/\H'=upd H p (.tup [.int (i:Int),y])/\ ∀xs,SqL K H a xs->xs[i]? =y0 y,λi H=> ∃xs,SqL K H a xs/\xs.length=i⟩
theorem qW {K:Aa5}(a it e) (hei:e≠it):qaR P w K (.Tuple elts x1 tp) (qcn K a) [e,it] e (λi h=>(∃ old,IsEnum h e it (i:Int) old)/\h.IsListIter it a i) where
 mem:=by simp
 obj:=λi h st b hb=>by
  obtain⟨⟨old,q⟩,⟨o,q2,c,d⟩⟩:=st
  rcases Aa.mp hb with z | z
  ·subst z
   exact⟨_,q,λv z=>by cases z⟩
  ·rw [Ab5.mp z]
   exact⟨o,q2,λv z=>by rw [d]at z;cases z⟩
 keep:=λi h h' st k=>⟨let ⟨old,q⟩:=st.1; ⟨old,k e (by simp) _ q⟩,let ⟨o,q,r⟩:=st.2; ⟨o,k it (by simp) o q,r⟩⟩
 item:=by
  intro X hP hw hK hc i u8 s σ H E I hf st hg
  subst hP hw hK
  obtain⟨⟨old,he⟩,hit⟩:=st
  obtain⟨xs,x,hq,hx⟩:=hg
  obtain⟨its,rv,p,hz⟩:=I.list hq
  obtain⟨u,hu,ru⟩:=rv.get hx
  have ht:=p.isList
  have hai:a≠it:=λz=>by
   obtain⟨o,q,c,_⟩:=ht
   obtain⟨o',q',c',_⟩:=hit
   rw [z,q']at q;cases q
   rw [c]at c';exact absurd c' (by decide)
  have hae:a≠e:=λz=>by
   obtain⟨o,q,c,_⟩:=ht
   rw [z,he]at q;cases q
   exact absurd (show Value.type "enumerate" =Value.type "list" from c) (by decide)
  obtain⟨f0,f1,f2,f3,f4,f5⟩:=hf e (by simp)
  obtain⟨g0,g1,g2,g3,g4,g5⟩:=hf it (by simp)
  have hlt:=by
   have:=Aa3.mp hu
   simpa using this.1
  have hhd:X.A.in1.handled=none:=I.ok.hd hc
  refine wpAny_pyNext_enum_itemD (Draws.list hhd it a hai its.toArray) he ⟨hit,ht⟩ hlt hei (by simp [hei,Ne.symm hae]) λy h1 tk hy ho hs' hT hsz hk=> ?_
  have ey:y=u:=by
   rw [List.getElem?_toArray]at hy
   rw [hu]at hy;cases hy;rfl
  subst ey
  refine⟨_,rfl,wpAny_letOwnedTupleGo_enum ho λh2 he2 sb=> ?_⟩
  have sb:=sb
  have hep:=Nat.ne_of_gt (Ab6 he)
  have hn:=I.hok.fresh (Aa6 _)
  have I1:Inv X u8 σ (upd H s.heap.objs.size (.tup [.int (i:Int),x])) { s with heap:=s.heap.push { cls:= .type "tuple",data:= .seq #[.int i tk,y] },toks:=tk+1 }:=by
   refine I.laid (λb o q=>Ab0 _ q) (Aa6 _) ⟨by simp only [Aa4,Ag8];rw [sizeLine_eq];decide,[.int i tk,y],.cons ⟨_,rfl⟩ (.cons ru .nil),?_⟩
   exact⟨_,Ac6 s.heap rfl,rfl,rfl,_,rfl⟩
  have eit:it<s.heap.objs.size:=by obtain⟨o,q,_⟩:=hit;exact Ab6 q
  have ee:=Ab6 he
  have I2:=I1.turned2 (t':=tk+1) (λb o b1 b2 q=>by
   refine(sb.2 b b1).trans ?_
   rcases Heap.get?_push_cases (show (s.heap.push { cls:= .type "tuple",data:= .seq #[.int i tk,y] }).get? b=some o from q)with⟨z,z2⟩ | z
   ·rw [z,z2];exact hT
   ·exact hk b o b1 b2 z) (by rw [ja (Ad eit)];exact g0) (by rw [ja (Ad ee)];exact f0) g1 f1 g3 f3 g4 f4 g5 f5
  refine⟨.ref s.heap.objs.size,_,I2,rfl,⟨s.heap.objs.size,x,hn,rfl,rfl,λys hy=>by rw [I.list_inj hy hq];exact hx⟩,⟨⟨y,by simpa using he2⟩,?_⟩,λb hb=> ?_⟩
  ·obtain⟨o,q,r⟩:=hs'.1
   exact⟨o,(sb.2 it (Ne.symm hei)).trans q,r⟩
  ·rcases Aa.mp hb with z | z
   ·rw [z,ja (Ad ee)];exact f0
   ·rw [Ab5.mp z,ja (Ad eit)];exact g0
 done:=by
  intro X hP hw hK hc i u8 s σ H E I hf st hg
  subst hP hw hK
  obtain⟨⟨old,he⟩,hit⟩:=st
  obtain⟨xs,hq,hx⟩:=hg
  obtain⟨its,rv,p,hz⟩:=I.list hq
  have ht:s.heap.IsList a its.toArray:=p.isList
  have hai:a≠it:=λz=>by
   obtain⟨o,q,c,_⟩:=ht
   obtain⟨o',q',c',_⟩:=hit
   rw [z,q']at q;cases q
   rw [c]at c';exact absurd c' (by decide)
  obtain⟨g0,g1,g2,g3,g4,g5⟩:=hf it (by simp)
  have hl:=rv.length
  have hhd:X.A.in1.handled=none:=I.ok.hd hc
  have hi:i=its.toArray.size:=by simp;omega
  subst hi
  exact wpAny_pyNext_enum_endD (Draws.list hhd it a hai its.toArray) he ⟨hit,ht⟩ λh' eb=>⟨rfl,I.turned (λb o hb q=>eb b o hb q) g0 g1 g3 g4 g5⟩
 self:=λ_ _ _ _ _ st h=>wpAny_pyIter_enum st.1.choose_spec h
def xbQ (K:Aa5) (ta:TA):TI:=λσ H R=>ta σ H λvs H1=> ∃a xs,vs= [.ref a]/\SqL K H1 a xs/\R (qcn K a) H1
theorem zaG (hg:Gl X "enumerate") (hm:X.mg "enumerate" =none) (ha:PA X [a] ta) (hs:starEach [a] X.env= [(false,eval a X.env)]:=by rfl):PI X (.Tuple elts x1 tp) (.Call (.Name "enumerate" p) [a] [] pos) (xbQ X.K ta):=by
 intro u8 s σ H R I h
 refine Call_ (xv I hg hm qD (PyProof.Rows.callWith_type1 (thn (ha pos u8 s σ H _ I h) λus s1 ⟨vs,H1,I1,r1,q1⟩=> ?_) hs rfl))
 obtain⟨b,xs,e,hq,q⟩:=q1
 subst e
 cases r1 with
 | cons r rr=>
  cases rr
  cases r
  obtain⟨its,rv,pl,hz⟩:=I1.list hq
  refine call_enumerate_list pl.isList λh' he hit hsz hk=> ?_
  refine wpAny_pyIter_enum he ?_
  refine⟨s1.heap.objs.size+1,[s1.heap.objs.size+1,s1.heap.objs.size],_,_,H1,rfl,I1.kept hk,qW b s1.heap.objs.size (s1.heap.objs.size+1) (Nat.succ_ne_self _),⟨⟨_,by simpa using he⟩,hit⟩,λc hb=> ?_,q⟩
  rcases Aa.mp hb with z | z
  ·rw [z];exact I1.fpOk (Ae _) (I1.hok.fresh (Ae _))
  ·rw [Ab5.mp z];exact I1.fpOk (Aa6 _) (I1.hok.fresh (Aa6 _))
end L2
set_option genSizeOfSpec false
namespace M
abbrev Tx:=List Nat
theorem za7: ∃n:Nat,n=1000000:=⟨_,rfl⟩
noncomputable def LIM:Nat:=Ag9 za7
theorem Gc:LIM=1000000:=Af4 za7
theorem xaV: ∃n:Int,n=1073741824:=⟨_,rfl⟩
noncomputable def B30:Int:=Ag9 xaV
theorem Kz:B30=1073741824:=Af4 xaV
theorem za0: ∃n:Int,n=2 ^ 62:=⟨_,rfl⟩
noncomputable def B62:Int:=Ag9 za0
theorem Kx:B62=2 ^ 62:=Af4 za0
theorem xa5: ∃n:Int,n=2 ^ 64:=⟨_,rfl⟩
noncomputable def B64:Int:=Ag9 xa5
theorem Ky:B64=2 ^ 64:=Af4 xa5
theorem zbT: ∃n:Int,n=1000000:=⟨_,rfl⟩
noncomputable def BP:Int:=Ag9 zbT
theorem K5:BP=1000000:=Af4 zbT
theorem jaX: ∃n:Nat,n=2 ^ 64:=⟨_,rfl⟩
noncomputable def N64:Nat:=Ag9 jaX
theorem Kt:N64=2 ^ 64:=Af4 jaX
inductive D where
 | non
 | bl (b:Bool)
 | int (i:Int)
 | str (s:Tx)
 | tup (xs:List D)
 | lst (xs:List D)
 | ref (r:Nat)
 | exc (c:String) (fs:List (Tx×D))
inductive W where
 | v (d:D)
 | own (xs:List D)
 | bor (xs:List D)
abbrev WK:=Int×List Int×List Int
inductive Cell where
 | lst (xs:List D)
 | dic (ks:List WK)
 | obj (c:String) (fs:List (String×D))
abbrev AH:=List Cell
abbrev Sl:=List (Option W)
inductive R (α:Type) where
 | ok (a:α) (h:AH)
 | exc (d:D) (h:AH)
 | fail
def R.bind {α β:Type}:R α->(α->AH->R β)->R β
 | .ok a h,f=>f a h
 | .exc d h,_=> .exc d h
 | .fail,_=> .fail
inductive O where
 | next (τ:Sl) (h:AH)
 | ret (w:W) (h:AH)
 | brk (τ:Sl) (h:AH)
 | cont (τ:Sl) (h:AH)
 | exc (d:D) (h:AH)
 | fail
def O.seq:O->(Sl->AH->O)->O
 | .next τ h,f=>f τ h
 | o,_=>o
def R.toO {α:Type}:R α->(α->AH->O)->O
 | .ok a h,f=>f a h
 | .exc d h,_=> .exc d h
 | .fail,_=> .fail
section
variable {α β:Type}
@[simp] theorem R.bind_ok (a) (h) (f:α->AH->R β):(R.ok a h).bind f=f a h:=rfl
@[simp] theorem R.toO_ok (a) (h) (f:α->AH->O):(R.ok a h).toO f=f a h:=rfl
@[simp] theorem O.seq_next (τ) (h) (f):(O.next τ h).seq f=f τ h:=rfl
@[simp] theorem O.seq_ret (w) (h) (f):(O.ret w h).seq f= .ret w h:=rfl
@[simp] theorem O.seq_exc (d) (h) (f):(O.exc d h).seq f= .exc d h:=rfl
end
inductive Op where
 | add | sub | mul | fdiv | mod | pow | shl | shr | band | bor | bxor
 deriving DecidableEq
inductive Cp where
 | eq | ne | lt | le | gt | ge | mem | nmem | isb
 deriving DecidableEq
inductive Ty where
 | non | bool | int | str | list | tuple
 deriving DecidableEq
inductive Mt where
 | index | join | count | indexI | starts
 deriving DecidableEq
inductive Bi where
 | len | int | list | tuple | sum | all | any | sorted | divmod | str | min | max | abs
 deriving DecidableEq
mutual
inductive E where
 | var (i:Nat)
 | con (x:String)
 | int (i:Int)
 | bl (b:Bool)
 | str (s:Tx)
 | tup (es:Es)
 | lst (es:Es)
 | bin (o:Op) (a b:E)
 | cmp (o:Cp) (a b:E)
 | chain (o p:Cp) (a b c:E)
 | neg (a:E)
 | not (a:E)
 | and (a b:E)
 | or (a b:E)
 | call (f:String) (es:Es)
 | bi (b:Bi) (es:Es)
 | isT (a:E) (t:Ty)
 | ix (a b:E)
 | sl (a lo hi:E)
 | slL (a lo:E)
 | slH (a hi:E)
 | rev (a:E)
 | comp (tg:List Nat) (one:Bool) (k:Nat) (cap:List Nat) (it:It) (u6:Bool) (c elt:E)
 | share (a:E)
 | meth (m:Mt) (a:E) (es:Es)
 | tix (c:String) (a:E)
 | tget (c:String) (es:Es)
 | dlit (kvs:List (Tx×Tx)) (i:Nat)
 | fstr (ps:List (Tx ⊕ Nat))
 | strI (a:E)
 | intT (a:E)
 | fld (i:Nat) (c f:String)
 | mcall (i:Nat) (c m q:String) (es:Es)
 | make (c q:String) (es:Es)
inductive Es where
 | nil
 | cons (e:E) (es:Es)
inductive It where
 | seq (e:E)
 | range1 (a:E)
 | range2 (a b:E)
 | rev (e:E)
 | zip (a b:E)
 | enum (e:E)
 | rangeS (a b:E)
 | enumL (i:Nat)
end
mutual
inductive S where
 | set (i:Nat) (e:E)
 | setf (i:Nat) (e:E)
 | setix (i:Nat) (k e:E)
 | setref (o k e:E)
 | app (i:Nat) (e:E)
 | freeze (i:Nat)
 | ex (e:E)
 | ret (e:E)
 | iff (c:E) (a b:Ss)
 | whl (n:Nat) (c:E) (b:Ss)
 | for (tg:List Nat) (one:Bool) (it:It) (b:Ss)
 | setfld (i:Nat) (c f:String) (e:E)
 | nope
inductive Ss where
 | nil
 | cons (s:S) (ss:Ss)
end
noncomputable section
mutual
@[simp,reducible] noncomputable def Gr:D->Bool
 | .ref _=>u9
 | .tup xs=>Gg xs
 | .lst xs=>Gg xs
 | .exc _ _=>u9
 | _=>v9
@[simp,reducible] noncomputable def Gg:List D->Bool
 | []=>v9
 | x::xs=>Gr x&&Gg xs
end
mutual
@[simp,reducible] noncomputable def dep:D->Nat
 | .tup xs=>KQ xs+1
 | .lst xs=>KQ xs+1
 | _=>0
@[simp,reducible] noncomputable def KQ:List D->Nat
 | []=>0
 | x::xs=>max (dep x) (KQ xs)
end
@[reducible] def KH (a b:D):Bool:=Gr a&&Gr b&&k8 (dep a<150)
mutual
@[simp] noncomputable def res (h:AH):D->D
 | .ref r=>match h[r]? with
  | some (.lst xs)=> .lst xs
  | _=> .ref r
 | .tup xs=> .tup (KJ h xs)
 | .lst xs=> .lst (KJ h xs)
 | d=>d
@[simp] noncomputable def KJ (h:AH):List D->List D
 | []=> []
 | x::xs=>res h x::KJ h xs
end
mutual
@[simp] noncomputable def eqD:D->D->Bool
 | .non,.non=>v9
 | .bl a,.bl b=>a==b
 | .int i,.int j=>i==j
 | .bl a,.int j=>(a.toNat:Int)==j
 | .int i,.bl b=>i==(b.toNat:Int)
 | .str s,.str t=>s==t
 | .tup xs,.tup ys=>Ku xs ys
 | .lst xs,.lst ys=>Ku xs ys
 | _,_=>u9
@[simp] noncomputable def Ku:List D->List D->Bool
 | [],[]=>v9
 | x::xs,y::ys=>eqD x y&&Ku xs ys
 | _,_=>u9
end
def chs (s:Tx):List D:=s.map λc=> .str [c]
def W.d:W->Option D
 | .v d=>y0 d
 | .own xs=>y0 (.lst xs)
 | .bor _=>k9
def W.arg:W->W
 | .own xs=> .bor xs
 | w=>w
@[simp] theorem W.arg_v (d):(W.v d).arg= .v d:=rfl
@[simp] theorem W.arg_own (xs):(W.own xs).arg= .bor xs:=rfl
@[simp] theorem W.arg_bor (xs):(W.bor xs).arg= .bor xs:=rfl
def W.dd (h:AH):W->D
 | .v d=>res h d
 | .own xs=> .lst (KJ h xs)
 | .bor xs=> .lst (KJ h xs)
noncomputable def W.lst? (h:AH):W->Option (List D)
 | .v (.lst xs)=>y0 xs
 | .own xs=>y0 xs
 | .bor xs=>y0 xs
 | .v (.ref r)=>match h[r]? with
  | some (.lst xs)=>y0 xs
  | _=>k9
 | _=>k9
noncomputable def W.seq? (h:AH):W->Option (List D)
 | .v (.tup xs)=>y0 xs
 | .v (.lst xs)=>y0 xs
 | .own xs=>y0 xs
 | .bor xs=>y0 xs
 | .v (.ref r)=>match h[r]? with
  | some (.lst xs)=>y0 xs
  | _=>k9
 | _=>k9
def R.of {α:Type}(h:AH):Option α->R α
 | some a=> .ok a h
 | none=> .fail
@[simp] abbrev okv (d:D) (h:AH):R W:= .ok (.v d) h
noncomputable def KB (h:AH):W->Option Bool
 | .v .non=>y0 u9
 | .v (.bl b)=>y0 b
 | .v (.int i)=>y0 (i != 0)
 | .v (.str s)=>if s.length<=LIM then y0 (!s.isEmpty)else k9
 | .v (.tup xs)=>y0 (!xs.isEmpty)
 | .v (.lst xs)=>y0 (!xs.isEmpty)
 | .own xs=>y0 (!xs.isEmpty)
 | .bor xs=>y0 (!xs.isEmpty)
 | _=>k9
@[simp] theorem R.of_some (h) (a:α):R.of h (y0 a)= .ok a h:=rfl
@[simp] theorem W.d_v (d):(W.v d).d=y0 d:=rfl
@[simp] theorem W.d_own (xs):(W.own xs).d=y0 (.lst xs):=rfl
@[simp] theorem W.dd_v (h) (d):(W.v d).dd h=res h d:=rfl
@[simp] theorem W.dd_own (h) (xs):(W.own xs).dd h= .lst (KJ h xs):=rfl
@[simp] theorem W.dd_bor (h) (xs):(W.bor xs).dd h= .lst (KJ h xs):=rfl
@[simp] theorem W.lst_v (h) (xs):(W.v (.lst xs)).lst? h=y0 xs:=rfl
@[simp] theorem W.lst_own (h) (xs):(W.own xs).lst? h=y0 xs:=rfl
@[simp] theorem Gk (h) (b):KB h (.v (.bl b))=y0 b:=rfl
noncomputable def zcC (i j:Int):Option Int:=
 if 0<=i then(if 0<=j then y0 ((i.toNat &&& j.toNat:Nat):Int)else y0 ((i.toNat-(i.toNat &&& (-j-1).toNat):Nat):Int))else k9
def orI (i j:Int):Option Int:=if 0<=i/\0<=j then y0 ((i.toNat ||| j.toNat:Nat):Int)else k9
def qcx (i j:Int):Option Int:=if 0<=i/\0<=j then y0 ((i.toNat ^^^ j.toNat:Nat):Int)else k9
noncomputable def Gf (o:Op) (i j:Int):Option Int:=match o with
 | .add=>y0 (i+j)
 | .sub=>y0 (i-j)
 | .mul=>if(-(B64)<i/\i<B64)\/(-(B64)<j/\j<B64)then y0 (i*j)else k9
 | .fdiv=>if 0<j/\j<B30 then y0 (i / j)else k9
 | .mod=>if 0<j then y0 (i % j)else k9
 | .pow=>if 0<=j/\j<=BP/\i.natAbs<N64 then y0 (i ^ j.toNat)else k9
 | .shl=>if 0<=j/\j<=BP/\i.natAbs<N64 then y0 (i*2 ^ j.toNat)else k9
 | .shr=>if 0<=j then y0 (i / 2 ^ j.toNat)else k9
 | .band=>zcC i j
 | .bor=>orI i j
 | .bxor=>qcx i j
def W.int? :W->Option Int
 | .v (.int i)=>y0 i
 | _=>k9
def W.str? :W->Option Tx
 | .v (.str s)=>y0 s
 | _=>k9
def W.tup? :W->Option (List D)
 | .v (.tup s)=>y0 s
 | _=>k9
def Pl (xs ys:List D) (h:AH):R W:=if xs.length+ys.length<=LIM then .ok (.own (xs++ys)) h else .fail
noncomputable def Pa (xs:List D) (j:Int) (h:AH):R W:=if -1000<=j/\j<=1000/\xs.length*j.toNat<=LIM then .ok (.own (Aa0 j.toNat xs).flatten) h else .fail
noncomputable def Pi (a b:W) (h:AH):R W:=match a.str?,b.str? with
 | some s,y0 t=>if s.length+t.length<=LIM then okv (.str (s++t)) h else .fail
 | _,_=>match a.tup?,b.tup? with
  | some xs,y0 ys=>if xs.length+ys.length<=LIM then okv (.tup (xs++ys)) h else .fail
  | _,_=>match a.lst? h,b.lst? h with
   | some xs,y0 ys=>Pl xs ys h
   | _,_=> .fail
noncomputable def W.lstO? (h:AH):W->Option (List D)
 | .own xs=>y0 xs
 | .bor xs=>y0 xs
 | .v (.ref r)=>match h[r]? with
  | some (.lst xs)=>y0 xs
  | _=>k9
 | _=>k9
noncomputable def Pk (a b:W) (h:AH):R W:=match a.str?,b.int? with
 | some s,y0 j=>if 0<=j/\j<=1000/\s.length*j.toNat<=LIM then okv (.str (Aa0 j.toNat s).flatten) h else .fail
 | _,_=>match a.lstO? h,b.int? with
  | some xs,y0 j=>Pa xs j h
  | _,_=> .fail
noncomputable def GZ (o:Op) (a b:W) (h:AH):R W:=match a.int?,b.int? with
 | some i,y0 j=>(R.of h (Gf o i j)).bind λk h=>okv (.int k) h
 | _,_=>match o with
  | .add=>Pi a b h
  | .mul=>Pk a b h
  | _=> .fail
def inD (x:D) (xs:List D):Bool:=xs.any λy=>eqD y x
@[simp,reducible] def flat:D->Bool
 | .non=>v9
 | .bl _=>v9
 | .int _=>v9
 | .str _=>v9
 | _=>u9
noncomputable def Ph (a b:W) (h:AH):Option Bool:=match b.dd h with
 | .lst ys=>if Gr (a.dd h)&&Gg ys&&k8 (KQ ys<140)then y0 (inD (a.dd h) ys)else k9
 | _=>k9
noncomputable def KN (a b:W) (h:AH):Option Bool:=match a.str?,b.str? with
 | some s,y0 t=>match s with
  | [c]=>y0 (t.contains c)
  | _=>k9
 | _,_=>match a.d,b.seq? h with
  | some d,y0 xs=>if flat d&&xs.all flat then y0 (inD d xs)else Ph a b h
  | _,_=>k9
noncomputable def K7 (o:Cp) (i j:Int):Option Bool:=match o with
 | .lt=>y0 (k8 (i<j))
 | .le=>y0 (k8 (i<=j))
 | .gt=>y0 (k8 (j<i))
 | .ge=>y0 (k8 (j<=i))
 | _=>k9
def K9 (o:Cp) (i j:Tx):Option Bool:=match o with
 | .lt=>y0 (k8 (i<j))
 | .ge=>y0 (!k8 (i<j))
 | _=>k9
def Pc:W->W->Option Bool
 | .v .non,.v (.bl _)=>y0 u9
 | .v (.bl b),.v (.bl c)=>y0 (b==c)
 | _,_=>k9
noncomputable def Gz (o:Cp) (a b:W) (h:AH):Option Bool:=match o with
 | .eq=>if KH (a.dd h) (b.dd h)then y0 (eqD (a.dd h) (b.dd h))else k9
 | .ne=>if KH (a.dd h) (b.dd h)then y0 (!eqD (a.dd h) (b.dd h))else k9
 | .mem=>KN a b h
 | .nmem=>(KN a b h).map (!·)
 | .isb=>Pc a b
 | o=>match a.int?,b.int? with
  | some i,y0 j=>K7 o i j
  | _,_=>match a.str?,b.str? with
   | some s,y0 t=>K9 o s t
   | _,_=>k9
noncomputable def ixN (n:Nat) (i:Int):Option Nat:=if 0<=i then(if i<n then y0 i.toNat else k9)else if -(n:Int)<=i then y0 (i+n).toNat else k9
def atI {α:Type}(xs:List α) (i:Int):Option α:=(ixN xs.length i).bind λj=>xs[j]?
noncomputable def ixD (a b:W) (h:AH):Option D:=match b.int? with
 | some i=>match a.str? with
  | some s=>if s.length<=LIM then(atI s i).map λc=> .str [c]else k9
  | none=>(a.seq? h).bind λxs=>atI xs i
 | none=>k9
def sIx (n d:Nat):Option Int->Nat
 | none=>d
 | some v=>if v<0 then(v+n).toNat else min v.toNat n
noncomputable def cut {α:Type}(xs:List α) (lo hi:Option Int):List α:=(xs.drop (sIx xs.length 0 lo)).take (sIx xs.length xs.length hi-sIx xs.length 0 lo)
noncomputable def slD (a:W) (lo hi:Option Int) (h:AH):R W:=match a.str? with
 | some s=>if s.length<=LIM then okv (.str (cut s lo hi)) h else .fail
 | none=>match a.tup? with
  | some xs=>okv (.tup (cut xs lo hi)) h
  | none=>match a.lst? h with
   | some xs=> .ok (.own (cut xs lo hi)) h
   | none=> .fail
def K4:List D->Option Int
 | []=>y0 0
 | .int i::r=>(K4 r).map (i+ ·)
 | _::_=>k9
def KA:List D->Option (List Int)
 | []=>y0 []
 | .int i::r=>(KA r).map (i:: ·)
 | _::_=>k9
def Kv:List D->Option (List Tx)
 | []=>y0 []
 | .str s::r=>(Kv r).map (s:: ·)
 | _::_=>k9
def zcw:List Int->Option Int
 | []=>k9
 | i::r=>y0 (r.foldl (λa b=>if b>a then b else a) i)
def xcD:List Int->Option Int
 | []=>k9
 | i::r=>y0 (r.foldl (λa b=>if b<a then b else a) i)
def KI (x:Tx):List Tx->List Tx
 | []=> [x]
 | y::ys=>if y<x then y::KI x ys else x::y::ys
def GY:List Tx->List Tx
 | []=> []
 | x::xs=>KI x (GY xs)
def K8 (x:Tx):List Tx->Option Nat
 | []=>k9
 | y::ys=>if y=x then y0 0 else(K8 x ys).map (· +1)
def Ko (s:Tx):List Tx->Tx
 | []=> []
 | [x]=>x
 | x::y::r=>x++s++Ko s (y::r)
def KR:List D->Option (List Bool)
 | []=>y0 []
 | .bl b::r=>(KR r).map (b:: ·)
 | _::_=>k9
noncomputable def bi1 (b:Bi) (w:W) (h:AH):R W:=match b with
 | .len=>match w.str? with
  | some s=>if s.length<=LIM then okv (.int s.length) h else .fail
  | none=>(R.of h (w.seq? h)).bind λxs h=>okv (.int xs.length) h
 | .int=>match w with
  | .v (.int i)=>okv (.int i) h
  | .v (.bl b)=>okv (.int (b.toNat:Int)) h
  | _=> .fail
 | .list=>(R.of h (w.seq? h)).bind λxs h=> .ok (.own xs) h
 | .tuple=>(R.of h (w.seq? h)).bind λxs h=>okv (.tup xs) h
 | .sum=>(R.of h ((w.lst? h).bind λxs=>if xs.length<=LIM then K4 xs else k9)).bind λi h=>okv (.int i) h
 | .all=>(R.of h ((w.lst? h).bind KR)).bind λbs h=>okv (.bl (bs.all id)) h
 | .any=>(R.of h ((w.lst? h).bind KR)).bind λbs h=>okv (.bl (bs.any id)) h
 | .max=>(R.of h (((w.lst? h).bind KA).bind zcw)).bind λi h=>okv (.int i) h
 | .min=>(R.of h (((w.lst? h).bind KA).bind xcD)).bind λi h=>okv (.int i) h
 | .sorted=>(R.of h ((w.lst? h).bind Kv)).bind λts h=>if ts.length<64 then .ok (.own ((GY ts).map .str)) h else .fail
 | _=> .fail
noncomputable def xb8 (m:Mt) (x:W) (h:AH):Bool:=match m with
 | .index=>x.tup?.isSome
 | .indexI=>x.tup?.isSome
 | .join=>x.str?.isSome
 | .count=>(x.lst? h).isSome
 | .starts=>x.str?.isSome
@[simp] theorem zbL (s) (h):xb8 .join (.v (.str s)) h=true:=rfl
@[simp] theorem zbk (s) (h):xb8 .starts (.v (.str s)) h=true:=rfl
def Kw (s t:Tx):Option Bool:=match t with
 | [c]=>y0 (k8 (s.head? =y0 c))
 | _=>k9
def idxI (x:Int):List Int->Option Nat
 | []=>k9
 | y::ys=>if y=x then y0 0 else(idxI x ys).map (· +1)
def KM:Nat->List D->List D
 | _,[]=> []
 | i,d::ds=> .tup [.int (i:Int),d]::KM (i+1) ds
noncomputable def zbC (m:Mt) (x:W) (ws:List W) (h:AH):R W:=match m,ws with
 | .index,[w]=>(R.of h (x.tup?.bind Kv)).bind λts h=>(R.of h w.str?).bind λt h=>(R.of h (K8 t ts)).bind λn h=>if ts.length<=LIM then okv (.int (n:Int)) h else .fail
 | .indexI,[w]=>(R.of h (x.tup?.bind KA)).bind λts h=>(R.of h w.int?).bind λt h=>(R.of h (idxI t ts)).bind λn h=>okv (.int (n:Int)) h
 | .join,[w]=>(R.of h x.str?).bind λs h=>(R.of h ((w.lst? h).bind Kv)).bind λts h=>if(Ko s ts).length<=LIM/\ts.length<=LIM/\s.length<=LIM then okv (.str (Ko s ts)) h else .fail
 | .count,[w]=>(R.of h ((x.lst? h).bind KA)).bind λis h=>(R.of h w.int?).bind λi h=>if is.length<=LIM then okv (.int ((is.count i:Nat):Int)) h else .fail
 | .starts,[w]=>(R.of h x.str?).bind λs h=>(R.of h w.str?).bind λt h=>(R.of h (Kw s t)).bind λb h=>okv (.bl b) h
 | _,_=> .fail
noncomputable def bi2 (b:Bi) (i j:Int) (h:AH):R W:=match b with
 | .divmod=>if 0<j/\j<B30 then okv (.tup [.int (i / j),.int (i % j)]) h else .fail
 | .min=>okv (.int (if j<i then j else i)) h
 | .max=>okv (.int (if j>i then j else i)) h
 | _=> .fail
noncomputable def biD (b:Bi) (ws:List W) (h:AH):R W:=match ws with
 | [w]=>bi1 b w h
 | [v,w]=>(R.of h v.int?).bind λi h=>(R.of h w.int?).bind λj h=>bi2 b i j h
 | _=> .fail
@[simp] theorem GM (o) (i j) (h):GZ o (.v (.int i)) (.v (.int j)) h=(R.of h (Gf o i j)).bind λk h=>okv (.int k) h:=rfl
@[simp] theorem jh (i j):Gf .add i j=y0 (i+j):=rfl
@[simp] theorem xk (i j):Gf .sub i j=y0 (i-j):=rfl
@[simp] theorem Xg (s u) (h):GZ .add (.v (.str s)) (.v (.str u)) h=if s.length+u.length<=LIM then okv (.str (s++u)) h else .fail:=rfl
@[simp] theorem ZU (s u) (h):GZ .add (.v (.tup s)) (.v (.tup u)) h=if s.length+u.length<=LIM then okv (.tup (s++u)) h else .fail:=rfl
@[simp] theorem qbH (s u) (h):GZ .add (.v (.lst s)) (.v (.lst u)) h=if s.length+u.length<=LIM then .ok (.own (s++u)) h else .fail:=rfl
@[simp] theorem xa0 (s u) (h):GZ .add (.v (.lst s)) (.own u) h=if s.length+u.length<=LIM then .ok (.own (s++u)) h else .fail:=rfl
@[simp] theorem jb3 (s u) (h):GZ .add (.v (.lst s)) (.bor u) h=if s.length+u.length<=LIM then .ok (.own (s++u)) h else .fail:=rfl
@[simp] theorem jbP (s u) (h):GZ .add (.own s) (.v (.lst u)) h=if s.length+u.length<=LIM then .ok (.own (s++u)) h else .fail:=rfl
@[simp] theorem zal (s u) (h):GZ .add (.own s) (.own u) h=if s.length+u.length<=LIM then .ok (.own (s++u)) h else .fail:=rfl
@[simp] theorem Ql (i j) (h):Gz .lt (.v (.int i)) (.v (.int j)) h=y0 (k8 (i<j)):=rfl
@[simp] theorem QV (i j) (h):Gz .gt (.v (.int i)) (.v (.int j)) h=y0 (k8 (j<i)):=rfl
@[simp] theorem zcq (a b) (h):Gz .eq a b h=if KH (a.dd h) (b.dd h)then y0 (eqD (a.dd h) (b.dd h))else none:=rfl
@[simp] theorem xcr (a b) (h):Gz .ne a b h=if KH (a.dd h) (b.dd h)then y0 (!eqD (a.dd h) (b.dd h))else none:=rfl
@[simp] theorem int?_int (i):(W.v (.int i)).int? =y0 i:=rfl
@[simp] theorem len_str (s) (h):biD .len [.v (.str s)] h=if s.length<=LIM then okv (.int s.length) h else .fail:=rfl
@[simp] theorem Q8 (s) (h):biD .len [.v (.lst s)] h=okv (.int s.length) h:=rfl
@[simp] theorem int_int (i) (h):biD .int [.v (.int i)] h=okv (.int i) h:=rfl
@[simp] theorem xbV (b) (h):biD .int [.v (.bl b)] h=okv (.int (b.toNat:Int)) h:=rfl
@[simp] theorem zap (s) (h):biD .tuple [.own s] h=okv (.tup s) h:=rfl
@[simp] theorem jba (s) (h):biD .sum [.own s] h=(R.of h (if s.length<=LIM then K4 s else k9)).bind λi h=>okv (.int i) h:=rfl
@[simp] theorem xH (i j) (h):biD .min [.v (.int i),.v (.int j)] h=okv (.int (if j<i then j else i)) h:=rfl
@[simp] theorem QG (i j) (h):biD .max [.v (.int i),.v (.int j)] h=okv (.int (if j>i then j else i)) h:=rfl
@[simp] theorem XE (s) (i) (h):ixD (.v (.str s)) (.v (.int i)) h=if s.length<=LIM then(atI s i).map λc=> .str [c]else none:=rfl
@[simp] theorem ix_tup (s) (i) (h):ixD (.v (.tup s)) (.v (.int i)) h=atI s i:=rfl
@[simp] theorem jad (s) (i) (h):ixD (.v (.lst s)) (.v (.int i)) h=atI s i:=rfl
@[simp] theorem Wr (s) (i) (h):ixD (.own s) (.v (.int i)) h=atI s i:=rfl
@[simp] theorem qaX (s) (lo hi) (h):slD (.v (.lst s)) lo hi h= .ok (.own (cut s lo hi)) h:=rfl
@[simp] theorem qbF (s) (lo hi) (h):slD (.bor s) lo hi h= .ok (.own (cut s lo hi)) h:=rfl
abbrev Cls:=List (String×String)
noncomputable def Pd (cl:Cls):Nat->String->List String
 | 0,_=> []
 | n+1,c=>c::match cl.lookup c with
  | some b=>Pd cl n b
  | none=> []
noncomputable def tyD:W->Option Ty
 | .v .non=>y0 .non
 | .v (.bl _)=>y0 .bool
 | .v (.int _)=>y0 .int
 | .v (.str _)=>y0 .str
 | .v (.tup _)=>y0 .tuple
 | .v (.lst _)=>y0 .list
 | .own _=>y0 .list
 | .bor _=>y0 .list
 | .v (.ref _)=>k9
 | .v (.exc _ _)=>k9
def Ty.le:Ty->Ty->Bool
 | .bool,.int=>v9
 | a,b=>k8 (a=b)
def isT (t:Ty) (w:W):Option Bool:=(tyD w).map λu=>u.le t
@[simp] def Gm:Sl->Nat->Option W
 | [],_=>k9
 | x::_,0=>x
 | _::r,n+1=>Gm r n
@[simp] def Kg:Sl->Nat->W->Sl
 | [],_,_=> []
 | _::r,0,w=>y0 w::r
 | x::r,n+1,w=>x::Kg r n w
def Gn (τ:Sl) (i:Nat):Option W:=match Gm τ i with
 | some (.own xs)=>y0 (.bor xs)
 | o=>o
@[simp] theorem KD (e:Gm τ i=y0 (.own xs)):Gn τ i=y0 (.bor xs):=by simp [Gn,e]
@[simp] theorem KS (e:Gm τ i=y0 (.v d)):Gn τ i=y0 (.v d):=by simp [Gn,e]
@[simp] theorem KK (e:Gm τ i=y0 (.bor xs)):Gn τ i=y0 (.bor xs):=by simp [Gn,e]
@[simp] noncomputable def setTup:List Nat->List D->Sl->Option Sl
 | [],[],τ=>y0 τ
 | i::is,d::ds,τ=>setTup is ds (Kg τ i (.v d))
 | _,_,_=>k9
noncomputable def GQ (tg:List Nat) (one:Bool) (d:D) (τ:Sl):Option Sl:=match one with
 | true=>match tg with
  | [i]=>y0 (Kg τ i (.v d))
  | _=>k9
 | false=>match d with
  | .tup ds=>setTup tg ds τ
  | _=>k9
noncomputable def GK (step:D->AH->R (Option D)):List D->AH->R (List D)
 | [],h=> .ok [] h
 | d::ds,h=>match step d h with
  | .ok o h1=>match GK step ds h1 with
   | .ok r h2=> .ok (match o with | some x=>x::r | none=>r) h2
   | _=> .fail
  | _=> .fail
structure Fx where
 call:String->List W->AH->R W
 cl:Cls
 con:List (String×D)
noncomputable def Ks (h:AH):Option W->Option (Nat×String×List (String×D))
 | some (.v (.ref r))=>match h[r]? with
  | some (.obj c fs)=>y0 (r,c,fs)
  | _=>k9
 | _=>k9
noncomputable def putF (f:String) (d:D):List (String×D)->List (String×D)
 | []=> [(f,d)]
 | (g,x)::r=>if g=f then(g,d)::r else(g,x)::putF f d r
def intT (i:Int):Tx:=(toString i).toList.map Char.toNat
def K6:W->Option Tx
 | .v (.str s)=>y0 s
 | .v (.int i)=>if 0<=i/\i<1000 then y0 (intT i)else k9
 | _=>k9
@[simp] theorem Jm (s):K6 (.v (.str s))=y0 s:=rfl
@[simp] theorem qaI (i):K6 (.v (.int i))=if 0<=i/\i<1000 then y0 (intT i)else none:=rfl
noncomputable def Pg (w:W) (h:AH):R W:=match w with
 | .v (.int i)=>if 0<=i/\i<1000 then okv (.str (intT i)) h else .fail
 | _=> .fail
@[simp] theorem jaz (i) (h):Pg (.v (.int i)) h=if 0<=i/\i<1000 then okv (.str (intT i)) h else .fail:=rfl
def jb6 (s:Tx):Option Nat:=(Ac0 100).find? λn=>k8 (intT (n:Int)=s)
def Pe (w:W) (h:AH):R W:=match w with
 | .v (.str s)=>(R.of h (jb6 s)).bind λn h=>okv (.int (n:Int)) h
 | _=> .fail
@[simp] theorem jaU (s) (h):Pe (.v (.str s)) h=(R.of h (jb6 s)).bind λn h=>okv (.int (n:Int)) h:=rfl
def lpL:W->Option (List D)
 | .v (.lst xs)=>y0 xs
 | .bor xs=>y0 xs
 | _=>k9
noncomputable def Pb (T:List (Tx×D)) (w:W) (h:AH):R W:=match w with
 | .v (.str k)=>match T.lookup k with
  | some d=>if flat d then okv d h else .fail
  | none=> .fail
 | _=> .fail
noncomputable def KO (T:List (Tx×D)) (ws:List W) (h:AH):R W:=match ws with
 | [.v (.str k),.v z]=>match T.lookup k with
  | some d=>if flat d then okv d h else .fail
  | none=>if flat z then okv z h else .fail
 | _=> .fail
noncomputable def KL (τ:Sl):List (Tx ⊕ Nat)->Option Tx
 | []=>y0 []
 | .inl s::ps=>(KL τ ps).map (s++ ·)
 | .inr i::ps=>((Gm τ i).bind K6).bind λt=>(KL τ ps).map (t++ ·)
@[simp] theorem Wm (τ):KL τ []=y0 []:=rfl
@[simp] theorem wA (τ) (s) (ps):KL τ (.inl s::ps)=(KL τ ps).map (s++ ·):=rfl
@[simp] theorem QA (τ) (i) (ps):KL τ (.inr i::ps)=((Gm τ i).bind K6).bind λt=>(KL τ ps).map (t++ ·):=rfl
noncomputable def KW (o:Option Tx) (h:AH):R W:=match o with
 | some t=>if t.length<=LIM then okv (.str t) h else .fail
 | none=> .fail
@[simp] theorem Xs (t) (h):KW (y0 t) h=if t.length<=LIM then okv (.str t) h else .fail:=rfl
noncomputable def KZ (T:List (Tx×Tx)) (o:Option W) (h:AH):R W:=match o with
 | some (.v (.str k))=>match T.lookup k with
  | some t=>okv (.str t) h
  | none=> .fail
 | _=> .fail
mutual
@[simp] noncomputable def eval (F:Fx):E->Sl->AH->R W
 | .var i,τ,h=>match Gn τ i with
  | some w=> .ok w h
  | none=> .fail
 | .con x,_,h=>match F.con.lookup x with
  | some d=>okv d h
  | none=> .fail
 | .int i,_,h=>okv (.int i) h
 | .bl b,_,h=>okv (.bl b) h
 | .str s,_,h=>okv (.str s) h
 | .tup es,τ,h=>(Gj F es τ h).bind λds h=>okv (.tup ds) h
 | .lst es,τ,h=>(Gj F es τ h).bind λds h=> .ok (.own ds) h
 | .bin o a b,τ,h=>(eval F a τ h).bind λx h=>(eval F b τ h).bind λy h=>GZ o x y h
 | .cmp o a b,τ,h=>(eval F a τ h).bind λx h=>(eval F b τ h).bind λy h=>(R.of h (Gz o x y h)).bind λc h=>okv (.bl c) h
 | .chain o p a b c,τ,h=>(eval F a τ h).bind λx h=>(eval F b τ h).bind λy h=>(R.of h (Gz o x y h)).bind λt h=>match t with
  | true=>(eval F c τ h).bind λz h=>(R.of h (Gz p y z h)).bind λc h=>okv (.bl c) h
  | false=>okv (.bl u9) h
 | .neg a,τ,h=>(eval F a τ h).bind λx h=>(R.of h x.int?).bind λi h=>okv (.int (-i)) h
 | .not a,τ,h=>(eval F a τ h).bind λx h=>(R.of h (KB h x)).bind λc h=>okv (.bl (!c)) h
 | .and a b,τ,h=>(eval F a τ h).bind λx h=>(R.of h (KB h x)).bind λc h=>match c with
  | true=>eval F b τ h
  | false=> .ok x h
 | .or a b,τ,h=>(eval F a τ h).bind λx h=>(R.of h (KB h x)).bind λc h=>match c with
  | true=> .ok x h
  | false=>eval F b τ h
 | .call f es,τ,h=>(Gi F es τ h).bind λws h=>F.call f (ws.map W.arg) h
 | .bi b es,τ,h=>(Gi F es τ h).bind λws h=>biD b ws h
 | .isT a t,τ,h=>(eval F a τ h).bind λx h=>(R.of h (isT t x)).bind λc h=>okv (.bl c) h
 | .ix a b,τ,h=>(eval F a τ h).bind λx h=>(eval F b τ h).bind λy h=>(R.of h (ixD x y h)).bind λd h=>okv d h
 | .sl a lo hi,τ,h=>(eval F a τ h).bind λx h=>(eval F lo τ h).bind λl h=>(R.of h l.int?).bind λl h=>(eval F hi τ h).bind λu h=>(R.of h u.int?).bind λu h=>slD x (y0 l) (y0 u) h
 | .slL a lo,τ,h=>(eval F a τ h).bind λx h=>(eval F lo τ h).bind λl h=>(R.of h l.int?).bind λl h=>slD x (y0 l) k9 h
 | .slH a hi,τ,h=>(eval F a τ h).bind λx h=>(eval F hi τ h).bind λu h=>(R.of h u.int?).bind λu h=>slD x k9 (y0 u) h
 | .rev a,τ,h=>(eval F a τ h).bind λx h=>(R.of h (x.lst? h)).bind λxs h=> .ok (.own xs.reverse) h
 | .comp tg one k cap it u6 c elt,τ,h=>(Gy F it τ h).bind λds h=>
  if ds.length<=LIM then
   (GK (λd h=>match GQ tg one d (Aa0 k k9++cap.map λj=>Gn τ j)with
     | none=> .fail
     | some τ'=>(if u6 then(eval F c τ' h).bind λx h=>R.of h (KB h x)else .ok v9 h).bind λb h=>match b with
      | true=>(eval F elt τ' h).bind λy h=>(R.of h y.d).bind λy h=> .ok (y0 y) h
      | false=> .ok k9 h) ds h).bind λys h=> .ok (.own ys) h
  else .fail
 | .share a,τ,h=>(eval F a τ h).bind λx h=>match x with
  | .own xs=>if Gg xs then okv (.ref h.length) (h++ [.lst xs])else .fail
  | _=> .fail
 | .meth m a es,τ,h=>(eval F a τ h).bind λx h=>if xb8 m x h then(Gi F es τ h).bind λws h=>zbC m x ws h else .fail
 | .tix c a,τ,h=>match F.con.lookup c with
  | some (.exc _ (r::T))=>(eval F a τ h).bind λw h=>Pb (r::T) w h
  | _=> .fail
 | .tget c es,τ,h=>match F.con.lookup c with
  | some (.exc _ (r::T))=>(Gi F es τ h).bind λws h=>KO (r::T) ws h
  | _=> .fail
 | .dlit T i,τ,h=>KZ T (Gm τ i) h
 | .fstr ps,τ,h=>KW (KL τ ps) h
 | .strI a,τ,h=>(eval F a τ h).bind λw h=>Pg w h
 | .intT a,τ,h=>(eval F a τ h).bind λw h=>Pe w h
 | .fld i c f,τ,h=>match Ks h (Gm τ i)with
  | some (_,c',fs)=>if c'=c then(R.of h (fs.lookup f)).bind λd h=>okv d h else .fail
  | none=> .fail
 | .mcall i c m q es,τ,h=>match Ks h (Gm τ i)with
  | some (r,c',fs)=>if c'=c/\(fs.lookup m).isNone=v9 then(Gi F es τ h).bind λws h=>F.call q (.v (.ref r)::ws.map W.arg) h else .fail
  | none=> .fail
 | .make c q es,τ,h=>(Gi F es τ h).bind λws h=>(F.call q (.v (.ref h.length)::ws.map W.arg) (h++ [.obj c []])).bind λw h'=>match w with
  | .v .non=>okv (.ref h.length) h'
  | _=> .fail
@[simp] noncomputable def Gi (F:Fx):Es->Sl->AH->R (List W)
 | .nil,_,h=> .ok [] h
 | .cons e es,τ,h=>(eval F e τ h).bind λw h=>(Gi F es τ h).bind λws h=> .ok (w::ws) h
@[simp] noncomputable def Gj (F:Fx):Es->Sl->AH->R (List D)
 | .nil,_,h=> .ok [] h
 | .cons e es,τ,h=>(eval F e τ h).bind λw h=>(R.of h w.d).bind λd h=>(Gj F es τ h).bind λds h=> .ok (d::ds) h
@[simp] noncomputable def Gy (F:Fx):It->Sl->AH->R (List D)
 | .seq e,τ,h=>(eval F e τ h).bind λw h=>match w with
  | .v (.str s)=> .ok (chs s) h
  | .v (.tup xs)=> .ok xs h
  | .v (.lst xs)=> .ok xs h
  | .own xs=> .ok xs h
  | .bor xs=> .ok xs h
  | _=> .fail
 | .range1 a,τ,h=>(eval F a τ h).bind λw h=>(R.of h w.int?).bind λn h=>if -(B62)<=n/\n<B62 then .ok ((Ac0 n.toNat).map λ(i:Nat)=> .int (i:Int)) h else .fail
 | .range2 a b,τ,h=>(eval F a τ h).bind λw h=>(R.of h w.int?).bind λi h=>(eval F b τ h).bind λw h=>(R.of h w.int?).bind λj h=>
  if(-(B62)<=i/\i<B62)/\(-(B62)<=j/\j<B62)then .ok ((Ac0 (j-i).toNat).map λ(k:Nat)=> .int (i+(k:Int))) h else .fail
 | .rangeS a b,τ,h=>(eval F a τ h).bind λw h=>(R.of h w.int?).bind λi h=>(eval F b τ h).bind λw h=>(R.of h w.int?).bind λj h=>
  if(-(B30)<=i/\i<B30)/\(-(B30)<=j/\j<B30)then .ok ((Ac0 ((j-i+1) / 2).toNat).map λ(k:Nat)=> .int (i+(k:Int)*2)) h else .fail
 | .enumL i,τ,h=>(R.of h ((Gm τ i).bind lpL)).bind λxs h=> .ok (KM 0 xs) h
 | .rev e,τ,h=>(eval F e τ h).bind λw h=>match w with
  | .v (.lst xs)=> .ok xs.reverse h
  | .own xs=> .ok xs.reverse h
  | .bor xs=> .ok xs.reverse h
  | _=> .fail
 | .enum e,τ,h=>(eval F e τ h).bind λw h=>match w with
  | .v (.tup xs)=> .ok (KM 0 xs) h
  | _=> .fail
 | .zip a b,τ,h=>(eval F a τ h).bind λx h=>(eval F b τ h).bind λy h=>match x,y with
  | .own xs,.v (.tup ys)=> .ok ((xs.zip ys).map λp=> .tup [p.1,p.2]) h
  | _,_=> .fail
end
noncomputable def lpW:W->Option (List D)
 | .v (.str s)=>y0 (chs s)
 | .v (.tup xs)=>y0 xs
 | .v (.lst xs)=>y0 xs
 | .own xs=>y0 xs
 | _=>k9
noncomputable def lpV:W->Option (List D)
 | .v (.str s)=>y0 (chs s)
 | .v (.tup xs)=>y0 xs
 | .v (.lst xs)=>y0 xs
 | .bor xs=>y0 xs
 | _=>k9
def qcG:W->Option (List D)
 | .v (.lst xs)=>y0 xs.reverse
 | .own xs=>y0 xs.reverse
 | _=>k9
def Pj:W->Option (List D)
 | .v (.lst xs)=>y0 xs.reverse
 | .bor xs=>y0 xs.reverse
 | _=>k9
@[simp] theorem K0 (xs):lpW (.v (.tup xs))=y0 xs:=rfl
@[simp] theorem K3 (xs):lpW (.v (.lst xs))=y0 xs:=rfl
@[simp] theorem KF (xs):lpW (.own xs)=y0 xs:=rfl
@[simp] theorem KU (xs):lpV (.v (.tup xs))=y0 xs:=rfl
@[simp] theorem K1 (xs):lpV (.v (.lst xs))=y0 xs:=rfl
@[simp] theorem KY (xs):lpV (.bor xs)=y0 xs:=rfl
@[simp] def Kn:E->Option Nat
 | .var i=>y0 i
 | _=>k9
@[simp] noncomputable def G8 (F:Fx) (it:It) (τ:Sl) (h:AH):R (List D):=match it with
 | .seq e=>match Kn e with
  | some i=>R.of h ((Gm τ i).bind lpV)
  | none=>(eval F e τ h).bind λw h=>R.of h (lpW w)
 | .rev e=>match Kn e with
  | some i=>R.of h ((Gm τ i).bind Pj)
  | none=>(eval F e τ h).bind λw h=>R.of h (qcG w)
 | it=>Gy F it τ h
noncomputable def Kf (bnd:D->Sl->Option Sl) (body:Sl->AH->O):List D->Sl->AH->O
 | [],τ,h=> .next τ h
 | d::ds,τ,h=>match bnd d τ with
  | none=> .fail
  | some τ1=>match body τ1 h with
   | .next τ2 h2=>Kf bnd body ds τ2 h2
   | .cont τ2 h2=>Kf bnd body ds τ2 h2
   | .brk τ2 h2=> .next τ2 h2
   | o=>o
noncomputable def Kr (c:Sl->AH->R Bool) (body:Sl->AH->O):Nat->Sl->AH->O
 | 0,_,_=> .fail
 | n+1,τ,h=>(c τ h).toO λb h1=>match b with
  | false=> .next τ h1
  | true=>match body τ h1 with
   | .next τ2 h2=>Kr c body n τ2 h2
   | .cont τ2 h2=>Kr c body n τ2 h2
   | .brk τ2 h2=> .next τ2 h2
   | o=>o
def Gp (F:Fx) (e:E) (τ:Sl) (h:AH):R Bool:=(eval F e τ h).bind λx h=>R.of h (KB h x)
noncomputable def Pf (w ow kw:W) (τ:Sl) (h:AH):O:=match w,ow,kw with
 | .v d,.v (.ref r),.v (.int j)=>match h[r]? with
  | some (.lst xs)=>match ixN xs.length j with
   | some n=>if flat d then .next τ (h.set r (.lst (xs.set n d)))else .fail
   | none=> .fail
  | _=> .fail
 | _,_,_=> .fail
mutual
@[simp] noncomputable def exec (F:Fx):S->Sl->AH->O
 | .set i e,τ,h=>(eval F e τ h).toO λw h=>match w with
  | .bor _=> .fail
  | w=> .next (Kg τ i w) h
 | .setf i e,τ,h=>(eval F e τ h).toO λw h=>match w.d with
  | some d=> .next (Kg τ i (.v d)) h
  | none=> .fail
 | .setix i k e,τ,h=>(eval F e τ h).toO λw h=>match Gm τ i with
  | some (.own xs)=>(eval F k τ h).toO λkw h=>match w,kw with
   | .v d,.v (.int j)=>if flat d then(match ixN xs.length j with
    | some n=> .next (Kg τ i (.own (xs.set n d))) h
    | none=> .fail)else .fail
   | _,_=> .fail
  | _=> .fail
 | .setref o k e,τ,h=>(eval F e τ h).toO λw h=>(eval F o τ h).toO λow h=>(eval F k τ h).toO λkw h=>Pf w ow kw τ h
 | .app i e,τ,h=>match Gm τ i with
  | some (.own xs)=>(eval F e τ h).toO λw h=>match w.d with
   | some d=>if xs.length<LIM then .next (Kg τ i (.own (xs++ [d]))) h else .fail
   | none=> .fail
  | _=> .fail
 | .freeze i,τ,h=>match Gm τ i with
  | some (.own xs)=> .next (Kg τ i (.v (.lst xs))) h
  | _=> .next τ h
 | .ex e,τ,h=>(eval F e τ h).toO λ_ h=> .next τ h
 | .ret e,τ,h=>match Kn e with
  | some i=>match Gm τ i with
   | some (.bor _)=> .fail
   | some w=> .ret w h
   | none=> .fail
  | none=>(eval F e τ h).toO λw h=>match w with
   | .bor _=> .fail
   | w=> .ret w h
 | .iff c a b,τ,h=>(Gp F c τ h).toO λt h=>match t with
  | true=>execs F a τ h
  | false=>execs F b τ h
 | .whl n c b,τ,h=>Kr (λτ h=>Gp F c τ h) (λτ h=>execs F b τ h) n τ h
 | .for tg one it b,τ,h=>(G8 F it τ h).toO λds h=>Kf (GQ tg one) (λτ h=>execs F b τ h) ds τ h
 | .setfld i c f e,τ,h=>(eval F e τ h).toO λw h=>match w with
  | .v d=>match Ks h (Gm τ i)with
   | some (r,c',fs)=>if c'=c/\Gr d=v9/\fs.length<100 then .next τ (h.set r (.obj c (putF f d fs)))else .fail
   | none=> .fail
  | _=> .fail
 | .nope,_,_=> .fail
@[simp] noncomputable def execs (F:Fx):Ss->Sl->AH->O
 | .nil,τ,h=> .next τ h
 | .cons s ss,τ,h=>(exec F s τ h).seq λτ h=>execs F ss τ h
end
structure Fn where
 ps:Nat
 n:Nat
 body:Ss
structure Prog where
 fns:List (String×Fn)
 cl:Cls
 con:List (String×D)
def W.keep:W->Bool
 | .v d=>Gr d
 | .own xs=>Gg xs
 | .bor _=>v9
def fin (n:Nat) (w:W) (h:AH):R W:=if h.length=n then .ok w h else if w.keep then .ok w (h.take n)else .ok w h
noncomputable def Gw (n:Nat):O->R W
 | .ret w h=>match w with
  | .bor _=> .fail
  | w=>fin n w h
 | .next _ h=>fin n (.v .non) h
 | .exc d h=> .exc d h
 | _=> .fail
@[simp] theorem Ga (d) (h h':AH) (e:h'.length=h.length):Gw h.length (.ret (.v d) h')= .ok (.v d) h':=by simp [Gw,fin,e]
@[simp] theorem Gu (xs) (h h':AH) (e:h'.length=h.length):Gw h.length (.ret (.own xs) h')= .ok (.own xs) h':=by simp [Gw,fin,e]
@[simp] theorem Kp (τ) (h h':AH) (e:h'.length=h.length):Gw h.length (.next τ h')= .ok (.v .non) h':=by simp [Gw,fin,e]
@[simp] theorem KP (d) (n) (h):Gw n (.exc d h)= .exc d h:=rfl
noncomputable def run (F:Fx) (d:Fn) (ws:List W) (h:AH):R W:=if ws.length=d.ps then Gw h.length (execs F d.body (ws.map y0++Aa0 (d.n-d.ps) k9) h)else .fail
noncomputable def call (p:Prog):Nat->String->List W->AH->R W
 | 0,_,_,_=> .fail
 | k+1,f,ws,h=>match p.fns.lookup f with
  | some d=>run ⟨call p k,p.cl,p.con⟩ d ws h
  | none=> .fail
theorem Gb (e:p.fns.lookup f=y0 d) (k) (ws) (h) (hl:ws.length=d.ps):
 call p (k+1) f ws h=Gw h.length (execs ⟨call p k,p.cl,p.con⟩ d.body (ws.map y0++Aa0 (d.n-d.ps) k9) h):=by
 rw [call,e]
 simp [run,hl]
end
end M
namespace L2.MS
open PySem PySem.Spec
structure Ge where
 K:Aa5
 ca:String->Addr
 cl:M.Cls
 own:List String
 ma:String->Addr
structure XOk (Γ:Ge) (c:String):Prop where
 k:jcF Γ.K (Γ.ca c)
 own: ∀t∈Γ.own,PySem.W.kitOne Γ.K (.ref (Γ.ca c)) (.ref (Γ.ca t))=y0 ((M.Pd Γ.cl 8 c).contains t)
 ve:PySem.W.kitOne Γ.K (.ref (Γ.ca c)) (.type "ValueError")=some ((M.Pd Γ.cl 8 c).contains "ValueError")
structure Gh where
 fz:Addr->Prop
 rho:Nat->Addr
 n:Nat
noncomputable def StT (Γ:Ge) (G:Gh) (H:Hp) (a:Addr) (vs:List V):Prop:=(G.fz a/\H a=y0 (.tup vs)) ∨
 ∃(o:Obj) (its:Array Value) (n:Nat),Γ.K.lookup a=some o/\o.cls= .type "tuple" /\o.dict=none/\o.data= .seq its n/\its.size<=sizeLine/\Vals vs its.toList
noncomputable def zcu (Γ:Ge) (a:Addr) (vs:List V):Prop:= ∃(o:Obj) (its:Array Value) (n:Nat),Γ.K.lookup a=some o/\o.cls= .type "list" /\o.dict=none/\o.data= .seq its n/\its.size<=sizeLine/\Vals vs its.toList
def StL (Γ:Ge) (G:Gh) (H:Hp) (a:Addr) (vs:List V):Prop:=(G.fz a/\Rd H a (.lst vs))\/zcu Γ a vs
theorem StT.sq (h:StT Γ G H a vs):SqT Γ.K H a vs:=h.elim (λz=> .inl (.inl z.2)) λ⟨o,its,n,h1,h2,_,h4⟩=> .inr ⟨o,its,n,h1,h2,h4⟩
theorem StT.pl (h:StT Γ G H a vs):PlT Γ.K H a:=h.elim (λz=> .inl ⟨_,z.2⟩) λ⟨o,_,_,h1,h2,h3,_⟩=> .inr ⟨o,h1,h2,h3⟩
theorem StL.sq (h:StL Γ G H a vs):SqL Γ.K H a vs:=h.elim (λz=> .inl z.2) λz=> .inr z
def txS (s:M.Tx):Str:=⟨s.toArray⟩
def pyD:M.D->PyData
 | .int i=> .int i
 | .str s=> .str (txS s)
 | .bl b=> .bool b
 | _=> .none
def xbe (T:List (M.Tx×M.D)):List (Str×PyData):=T.map λp=>(txS p.1,pyD p.2)
def qb7 (Γ:Ge) (a:Addr) (T:List (M.Tx×M.D)):Prop:=JN Γ.K a (xbe T)
mutual
noncomputable def RelD (Γ:Ge) (G:Gh) (H:Hp):M.D->V->Prop
 | .non,v=>v= .non
 | .bl b,v=>v= .bl b
 | .int i,v=>v= .int i
 | .str s,v=>v= .str (txS s)
 | .tup ds,v=> ∃a vs,v= .ref a/\StT Γ G H a vs/\RelDs Γ G H ds vs
 | .lst ds,v=> ∃a vs,v= .ref a/\StL Γ G H a vs/\RelDs Γ G H ds vs
 | .ref r,v=>r<G.n/\v= .ref (G.rho r)
 | .exc c fs,v=>(fs= []/\ ∃x,v= .ref x/\G.fz x/\H x=y0 (jcE x (Γ.ca c))/\XOk Γ c)\/(fs≠ []/\ ∃a,v= .ref a/\qb7 Γ a fs)
noncomputable def RelDs (Γ:Ge) (G:Gh) (H:Hp):List M.D->List V->Prop
 | [],vs=>vs= []
 | d::ds,vs=> ∃v r,vs=v::r/\RelD Γ G H d v/\RelDs Γ G H ds r
end
def wkT (k:M.WK):M.D:= .tup [.int k.1,.tup (k.2.1.map .int),.tup (k.2.2.map .int)]
structure HRel (Γ:Ge) (G:Gh) (h:M.AH) (H:Hp):Prop where
 len:h.length=G.n
 cell: ∀r xs,h[r]? =y0 (M.Cell.lst xs)-> ¬G.fz (G.rho r)/\ ∃vs,H (G.rho r)=y0 (.lst vs)/\RelDs Γ G H xs vs
 pure: ∀(r:Nat) xs,h[r]? =y0 (M.Cell.lst xs)->M.Gg xs=v9
 inj: ∀r s,r<G.n->s<G.n->G.rho r=G.rho s->r=s
 live: ∀a,G.fz a-> ∃o,H a=y0 o
 dic: ∀r ks,h[r]? =y0 (M.Cell.dic ks)-> ¬G.fz (G.rho r)/\ ∃xs,H (G.rho r)=y0 (DW (G.rho r) xs)/\xs.map (·.1)=ks/\ ∀x∈xs,RelD Γ G H (wkT x.1) (.ref x.2.1)
 obj: ∀(r:Nat) c fs,h[r]? =y0 (M.Cell.obj c fs)-> ¬G.fz (G.rho r)/\M.Gg (fs.map (·.2))=v9/\ ∃dx us,H (G.rho r)=y0 (.ins (Γ.ca c) dx ((fs.map λp=>Str.ofString p.1).zip us))/\RelDs Γ G H (fs.map (·.2)) us
def Off (G:Gh) (a:Addr):Prop:= ∀r,r<G.n->G.rho r≠a
structure Ext (G:Gh) (H:Hp) (G':Gh) (H':Hp):Prop where
 keep: ∀a o,H a=y0 o->Off G a->H' a=y0 o
 le:G.n<=G'.n
 rho: ∀r,r<G.n->G'.rho r=G.rho r
 new: ∀r,G.n<=r->r<G'.n->H (G'.rho r)=k9
 fz: ∀a,G.fz a->G'.fz a
 old: ∀a,G'.fz a->G.fz a\/H a=k9
 cells: ∀r,r<G.n->(∃ o,H (G.rho r)=y0 o)-> ∃o,H' (G.rho r)=y0 o
noncomputable def RelW (Γ:Ge) (G:Gh) (H:Hp):M.W->V->Prop
 | .v d,v=>RelD Γ G H d v
 | .own xs,v=> ∃a vs,v= .ref a/\ ¬G.fz a/\Off G a/\H a=y0 (.lst vs)/\RelDs Γ G H xs vs
 | .bor xs,v=> ∃a vs,v= .ref a/\Off G a/\Rd H a (.lst vs)/\RelDs Γ G H xs vs
def isL:M.W->Bool
 | .own _=>v9
 | .bor _=>v9
 | _=>u9
structure StRel (Γ:Ge) (G:Gh) (τ:M.Sl) (h:M.AH) (σ:St) (H:Hp):Prop where
 len:τ.length=σ.length
 slot: ∀i w,M.Gm τ i=y0 w-> ∃v,σ[i]? =y0 (y0 v)/\RelW Γ G H w v
 apart: ∀i j xs w a,i≠j->M.Gm τ i=y0 (.own xs)->M.Gm τ j=y0 w->isL w=v9->σ[i]? =y0 (y0 (.ref a))->σ[j]? ≠y0 (y0 (.ref a))
 heap:HRel Γ G h H
section
variable {Γ:Ge}{G G' G1 G2:Gh}{H H' H1 H2:Hp}{h h':M.AH}{τ:M.Sl}{σ:St}
theorem HRel.nfz (r:HRel Γ G h H)(hi:i<G.n): ¬G.fz (G.rho i):=by
 have hi':i<h.length:=by rw [r.len];exact hi
 cases e:h[i]? with
 | none=>rw [List.getElem?_eq_none_iff]at e;omega
 | some c=>cases c with | lst xs=>exact(r.cell i xs e).1 | dic ks=>exact(r.dic i ks e).1 | obj c fs=>exact(r.obj i c fs e).1
theorem HRel.off (r:HRel Γ G h H)(ha:G.fz a):Off G a:=λi hi z=>r.nfz hi (z▸ha)
theorem HRel.there (r:HRel Γ G h H)(hi:i<G.n): ∃o,H (G.rho i)=y0 o:=by
 have hi':i<h.length:=by rw [r.len];exact hi
 cases e:h[i]? with
 | none=>rw [List.getElem?_eq_none_iff]at e;omega
 | some c=>cases c with | lst xs=>exact⟨_,(r.cell i xs e).2.choose_spec.1⟩ | dic ks=>exact⟨_,(r.dic i ks e).2.choose_spec.1⟩ | obj c fs=>obtain⟨_,_,dx,us,z,_⟩:=r.obj i c fs e;exact⟨_,z⟩
theorem Ext.refl:Ext G H G H:=⟨λ_ _ e _=>e,Aa6 _,λ_ _=>rfl,λr h1 h2=>absurd h1 (Al9.mpr h2),λ_ z=>z,λ_ z=> .inl z,λ_ _ z=>z⟩
theorem Ext.none (e:Ext G H G' H') (hr:HRel Γ G h H)(z:H' a=k9):H a=none:=by
 cases q:H a with
 | none=>rfl
 | some o=>
  by_cases hof:Off G a
  ·rw [e.keep a o q hof]at z;cases z
  ·unfold Off at hof
   have: ∃r,r<G.n/\G.rho r=a:=Ai6 λhh=>hof λr hr z=>hh ⟨r,hr,z⟩
   obtain⟨r,hr1,rfl⟩:=this
   obtain⟨o',z'⟩:=e.cells r hr1 ⟨o,q⟩
   rw [z]at z';cases z'
theorem Ext.off (e:Ext G H G' H')(ha:H a=y0 o) (hof:Off G a):Off G' a:=λr hr z=>by
 by_cases hn:r<G.n
 ·rw [e.rho r hn]at z;exact hof r hn z
 ·have:=e.new r (Aj9.mp hn) hr
  rw [z,ha]at this;cases this
theorem Ext.trans (e1:Ext G H G1 H1) (hr:HRel Γ G h H) (e2:Ext G1 H1 G2 H2):Ext G H G2 H2 where
 keep:=λa o z hof=>e2.keep a o (e1.keep a o z hof) (e1.off z hof)
 le:=Ac7 e1.le e2.le
 rho:=λr hn=>by rw [e2.rho r (Ab3 hn e1.le),e1.rho r hn]
 new:=λr h1 h2=>by
  by_cases hn:r<G1.n
  ·rw [e2.rho r hn];exact e1.new r h1 hn
  ·exact e1.none hr (e2.new r (Aj9.mp hn) h2)
 fz:=λa z=>e2.fz a (e1.fz a z)
 old:=λa z=>(e2.old a z).elim (λz=>e1.old a z) λz=> .inr (e1.none hr z)
 cells:=λr hn z=>by
  have:=e2.cells r (Ab3 hn e1.le) (by rw [e1.rho r hn];exact e1.cells r hn z)
  rwa [e1.rho r hn]at this
theorem Ext.rd (e:Ext G H G' H')(z:Rd H a u) (hof:Off G a):Rd H' a u:=z.elim (λz=> .inl (e.keep a _ z hof)) λ⟨o,z⟩=> .inr ⟨o,e.keep a _ z hof⟩
structure Mon (G:Gh) (H:Hp) (G':Gh) (H':Hp):Prop where
 keep: ∀a o,G.fz a->H a=y0 o->H' a=y0 o
 le:G.n<=G'.n
 rho: ∀r,r<G.n->G'.rho r=G.rho r
 fz: ∀a,G.fz a->G'.fz a
theorem Ext.mon (e:Ext G H G' H') (hr:HRel Γ G h H):Mon G H G' H':=⟨λa o z q=>e.keep a o q (hr.off z),e.le,e.rho,e.fz⟩
theorem Mon.rd (e:Mon G H G' H')(z:Rd H a u) (hz:G.fz a):Rd H' a u:=z.elim (λz=> .inl (e.keep a _ hz z)) λ⟨o,z⟩=> .inr ⟨o,e.keep a _ hz z⟩
mutual
theorem RelD.mon (e:Mon G H G' H'): ∀ {d:M.D}{v:V},RelD Γ G H d v->RelD Γ G' H' d v
 | .non,_,z=>z
 | .bl _,_,z=>z
 | .int _,_,z=>z
 | .str _,_,z=>z
 | .tup _,_,⟨a,vs,z1,z2,z3⟩=>⟨a,vs,z1,z2.elim (λz=> .inl ⟨e.fz a z.1,e.keep a _ z.1 z.2⟩) λz=> .inr z,RelDs.mon e z3⟩
 | .lst _,_,⟨a,vs,z1,z2,z3⟩=>⟨a,vs,z1,z2.elim (λz=> .inl ⟨e.fz a z.1,e.rd z.2 z.1⟩) .inr,RelDs.mon e z3⟩
 | .ref r,_,⟨z1,z2⟩=>⟨Ab3 z1 e.le,by rw [e.rho r z1];exact z2⟩
 | .exc c fs,_,z=>z.imp (λ⟨z0,x,z1,z2,z3,z4⟩=>⟨z0,x,z1,e.fz x z2,e.keep x _ z2 z3,z4⟩) id
theorem RelDs.mon (e:Mon G H G' H'): ∀ {ds:List M.D}{vs:List V},RelDs Γ G H ds vs->RelDs Γ G' H' ds vs
 | [],_,z=>z
 | _::_,_,⟨v,r,z1,z2,z3⟩=>⟨v,r,z1,RelD.mon e z2,RelDs.mon e z3⟩
end
theorem RelD.ext (e:Ext G H G' H') (hr:HRel Γ G h H)(z:RelD Γ G H d v):RelD Γ G' H' d v:=z.mon (e.mon hr)
theorem RelDs.ext (e:Ext G H G' H') (hr:HRel Γ G h H)(z:RelDs Γ G H d v):RelDs Γ G' H' d v:=z.mon (e.mon hr)
theorem RelW.ext (e:Ext G H G' H') (hr:HRel Γ G h H)(z:RelW Γ G H w v):RelW Γ G' H' w v:=by
 cases w with
 | v d=>exact RelD.ext e hr z
 | own xs=>
  obtain⟨a,vs,z1,z2,z3,z4,z5⟩:=z
  refine⟨a,vs,z1,λq=> ?_,e.off z4 z3,e.keep a _ z4 z3,RelDs.ext e hr z5⟩
  rcases e.old a q with q | q
  ·exact z2 q
  ·rw [z4]at q;cases q
 | bor xs=>
  obtain⟨a,vs,z1,z3,z4,z5⟩:=z
  refine⟨a,vs,z1,?_,e.rd z4 z3,RelDs.ext e hr z5⟩
  rcases z4 with z4 | ⟨o,z4⟩
  ·exact e.off z4 z3
  ·exact e.off z4 z3
theorem StRel.ext (s:StRel Γ G τ h σ H) (e:Ext G H G' H') (hr:HRel Γ G' h' H'):StRel Γ G' τ h' σ H' where
 len:=s.len
 slot:=λi w z=>let ⟨v,z1,z2⟩:=s.slot i w z; ⟨v,z1,z2.ext e s.heap⟩
 apart:=s.apart
 heap:=hr
theorem RelDs.length: ∀ {ds}{vs},RelDs Γ G H ds vs->ds.length=vs.length
 | [],_,rfl=>rfl
 | _::_,_,⟨_,_,rfl,_,z⟩=>congrArg (· +1) (RelDs.length z)
theorem RelDs.get: ∀ {ds}{vs}{i:Nat}{d},RelDs Γ G H ds vs->ds[i]? =y0 d-> ∃v,vs[i]? =y0 v/\RelD Γ G H d v
 | [],_,_,_,_,e=>by simp at e
 | _::_,_,0,_,⟨v,_,rfl,z,_⟩,e=>by simp at e;subst e;exact⟨v,rfl,z⟩
 | _::_,_,i+1,_,⟨_,_,rfl,_,z⟩,e=>by
  obtain⟨v,h1,h2⟩:=RelDs.get z (by simpa using e)
  exact⟨v,by simpa using h1,h2⟩
theorem RelDs.append: ∀ {ds es}{vs us},RelDs Γ G H ds vs->RelDs Γ G H es us->RelDs Γ G H (ds++es) (vs++us)
 | [],_,_,_,rfl,z=>z
 | _::_,_,_,_,⟨v,r,rfl,z1,z2⟩,z=>⟨v,r++_,rfl,z1,RelDs.append z2 z⟩
theorem RelDs.drop: ∀ {ds}{vs}(n),RelDs Γ G H ds vs->RelDs Γ G H (ds.drop n) (vs.drop n)
 | _,_,0,z=>z
 | [],_,_+1,rfl=>rfl
 | _::_,_,n+1,⟨_,_,rfl,_,z⟩=>RelDs.drop n z
theorem RelDs.take: ∀ {ds}{vs}(n),RelDs Γ G H ds vs->RelDs Γ G H (ds.take n) (vs.take n)
 | _,_,0,_=>rfl
 | [],_,_+1,rfl=>rfl
 | _::_,_,n+1,⟨v,r,rfl,z1,z⟩=>⟨v,r.take n,rfl,z1,RelDs.take n z⟩
theorem RelDs.reverse: ∀ {ds}{vs},RelDs Γ G H ds vs->RelDs Γ G H ds.reverse vs.reverse
 | [],_,rfl=>rfl
 | _::_,_,⟨v,r,rfl,z1,z⟩=>by
  rw [Aj6,Aj6]
  exact(RelDs.reverse z).append ⟨v,[],rfl,z1,rfl⟩
theorem RelDs.set (z:RelD Γ G H d v): ∀ {ds}{vs} i,RelDs Γ G H ds vs->RelDs Γ G H (ds.set i d) (vs.set i v)
 | [],_,_,rfl=>rfl
 | _::_,_,0,⟨_,r,rfl,_,z2⟩=>⟨v,r,rfl,z,z2⟩
 | _::_,_,i+1,⟨u,r,rfl,z1,z2⟩=>⟨u,r.set i v,rfl,z1,RelDs.set z i z2⟩
def Gh.more (G:Gh) (a:Addr):Gh:= { G with fz:=λb=>G.fz b\/b=a }
theorem Zq (o) (hp:H p=k9):Ext G H G (upd H p o) where
 keep:=λa u z _=>by rw [ja (Za z hp)];exact z
 le:=Aa6 _
 rho:=λ_ _=>rfl
 new:=λr h1 h2=>absurd h1 (Al9.mpr h2)
 fz:=λ_ z=>z
 old:=λ_ z=> .inl z
 cells:=λr _ ⟨u,z⟩=>⟨u,by rw [ja (Za z hp)];exact z⟩
theorem Jo (o) (hp:H p=k9):Ext G H (G.more p) (upd H p o) where
 keep:=λa u z _=>by rw [ja (Za z hp)];exact z
 le:=Aa6 _
 rho:=λ_ _=>rfl
 new:=λr h1 h2=>absurd h1 (Al9.mpr h2)
 fz:=λ_ z=> .inl z
 old:=λa z=>z.elim .inl λe=> .inr (e▸hp)
 cells:=λr _ ⟨u,z⟩=>⟨u,by rw [ja (Za z hp)];exact z⟩
theorem HRel.new (r:HRel Γ G h H)(o) (hp:H p=k9):HRel Γ G h (upd H p o) where
 len:=r.len
 cell:=λi xs z=>by
  obtain⟨z1,vs,z2,z3⟩:=r.cell i xs z
  exact⟨z1,vs,by rw [ja (Za z2 hp)];exact z2,z3.ext (Zq o hp) r⟩
 pure:=r.pure
 inj:=r.inj
 live:=λa z=>let ⟨u,q⟩:=r.live a z; ⟨u,by rw [ja (Za q hp)];exact q⟩
 dic:=λi ks z=>by
  obtain⟨z1,xs,z2,z3,z4⟩:=r.dic i ks z
  exact⟨z1,xs,by rw [ja (Za z2 hp)];exact z2,z3,λx hx=>(z4 x hx).ext (Zq o hp) r⟩
 obj:=λi c fs z=>by
  obtain⟨z1,z0,dx,us,z2,z3⟩:=r.obj i c fs z
  exact⟨z1,z0,dx,us,by rw [ja (Za z2 hp)];exact z2,z3.ext (Zq o hp) r⟩
theorem HRel.newF (r:HRel Γ G h H)(o) (hp:H p=k9):HRel Γ (G.more p) h (upd H p o) where
 len:=r.len
 cell:=λi xs z=>by
  obtain⟨z1,vs,z2,z3⟩:=r.cell i xs z
  exact⟨λq=>q.elim z1 (Za z2 hp),vs,by show upd H p o (G.rho i)=_;rw [ja (Za z2 hp)];exact z2,z3.ext (Jo o hp) r⟩
 pure:=r.pure
 inj:=r.inj
 live:=λa z=>z.elim (λz=>let ⟨u,q⟩:=r.live a z; ⟨u,by rw [ja (Za q hp)];exact q⟩) λe=>⟨o,by rw [e];exact jd⟩
 dic:=λi ks z=>by
  obtain⟨z1,xs,z2,z3,z4⟩:=r.dic i ks z
  exact⟨λq=>q.elim z1 (Za z2 hp),xs,by show upd H p o (G.rho i)=_;rw [ja (Za z2 hp)];exact z2,z3,λx hx=>(z4 x hx).ext (Jo o hp) r⟩
 obj:=λi c fs z=>by
  obtain⟨z1,z0,dx,us,z2,z3⟩:=r.obj i c fs z
  exact⟨λq=>q.elim z1 (Za z2 hp),z0,dx,us,by show upd H p o (G.rho i)=_;rw [ja (Za z2 hp)];exact z2,z3.ext (Jo o hp) r⟩
theorem zi (a):Mon G H (G.more a) H:=⟨λ_ _ _ z=>z,Aa6 _,λ_ _=>rfl,λ_ z=> .inl z⟩
theorem Ext.more (e:Ext G H G1 H1)(ha:H a=Option.none):Ext G H (G1.more a) H1:=
 ⟨e.keep,e.le,e.rho,e.new,λb z=> .inl (e.fz b z),λb z=>z.elim (λz=>e.old b z) λz=> .inr (z▸ha),e.cells⟩
theorem HRel.more (r:HRel Γ G h H)(hof:Off G a) (ha: ∃o,H a=y0 o):HRel Γ (G.more a) h H where
 len:=r.len
 cell:=λi xs z=>by
  obtain⟨z1,vs,z2,z3⟩:=r.cell i xs z
  have hi:i<G.n:=by rw [← r.len];exact(Aa3.mp z).1
  exact⟨λq=>q.elim z1 λe=>hof i hi e,vs,z2,z3.mon (zi a)⟩
 pure:=r.pure
 inj:=r.inj
 live:=λb z=>z.elim (λz=>r.live b z) λe=>e▸ha
 dic:=λi ks z=>by
  obtain⟨z1,xs,z2,z3,z4⟩:=r.dic i ks z
  have hi:i<G.n:=by rw [← r.len];exact(Aa3.mp z).1
  exact⟨λq=>q.elim z1 λe=>hof i hi e,xs,z2,z3,λx hx=>(z4 x hx).mon (zi a)⟩
 obj:=λi c fs z=>by
  obtain⟨z1,z0,dx,us,z2,z3⟩:=r.obj i c fs z
  have hi:i<G.n:=by rw [← r.len];exact(Aa3.mp z).1
  exact⟨λq=>q.elim z1 λe=>hof i hi e,z0,dx,us,z2,z3.mon (zi a)⟩
theorem RelW.more (z:RelW Γ G H w v) (hv:isL w=v9->v≠ .ref a):RelW Γ (G.more a) H w v:=by
 cases w with
 | v d=>exact RelD.mon (zi a) z
 | own xs=>
  obtain⟨b,vs,z1,z2,z3,z4,z5⟩:=z
  exact⟨b,vs,z1,λq=>q.elim z2 λe=>hv rfl (e▸z1),z3,z4,z5.mon (zi a)⟩
 | bor xs=>
  obtain⟨b,vs,z1,z3,z4,z5⟩:=z
  exact⟨b,vs,z1,z3,z4,z5.mon (zi a)⟩
theorem StRel.more (s:StRel Γ G τ h σ H)(hof:Off G a) (ha: ∃o,H a=y0 o) (hs: ∀ i w,M.Gm τ i=y0 w->isL w=v9->σ[i]? ≠y0 (y0 (.ref a))):StRel Γ (G.more a) τ h σ H where
 len:=s.len
 slot:=λi w z=>by
  obtain⟨v,z1,z2⟩:=s.slot i w z
  exact⟨v,z1,z2.more λq e=>hs i w z q (e▸z1)⟩
 apart:=s.apart
 heap:=s.heap.more hof ha
noncomputable def FreshW (τ:M.Sl) (σ:St) (H:Hp):M.W->V->Prop
 | .v _,_=>True
 | .own _,v=> ∃a,v= .ref a/\H a=k9
 | .bor _,v=> ∃(i:Nat) (w:M.W),M.Gm τ i=y0 w/\isL w=v9/\σ[i]? =y0 (y0 v)
theorem FreshW.back (e:Ext G H G1 H1) (hr:HRel Γ G h H)(z:FreshW τ σ H1 w v):FreshW τ σ H w v:=by
 cases w with
 | v d=>trivial
 | own xs=>obtain⟨a,z1,z2⟩:=z;exact⟨a,z1,e.none hr z2⟩
 | bor xs=>exact z
theorem StRel.slotThere (s:StRel Γ G τ h σ H)(e:M.Gm τ i=y0 w) (hl:isL w=v9) (q:σ[i]? =y0 (y0 (.ref a))): ∃o,H a=y0 o:=by
 obtain⟨v,z1,z2⟩:=s.slot i w e
 rw [q]at z1
 cases z1
 cases w with
 | v d=>cases hl
 | own xs=>obtain⟨b,vs,z1,_,_,z4,_⟩:=z2;cases z1;exact⟨_,z4⟩
 | bor xs=>
  obtain⟨b,vs,z1,_,z4,_⟩:=z2
  cases z1
  rcases z4 with z4 | ⟨o,z4⟩
  ·exact⟨_,z4⟩
  ·exact⟨_,z4⟩
def qco (Γ:Ge) (E:XK) (d:M.D) (H:Hp):Prop:= ∀c,d= .exc c []->XOk Γ c->E (.ref (Γ.ca c)) k9 H
noncomputable def Post {α:Type}(Γ:Ge) (E:XK) (G:Gh) (H:Hp) (r:M.R α) (P:α->M.AH->Gh->Hp->Prop):Prop:=match r with
 | .ok a h'=> ∀G' H',Ext G H G' H'->HRel Γ G' h' H'->P a h' G' H'
 | .exc d h'=> ∀G' H',Ext G H G' H'->HRel Γ G' h' H'->qco Γ E d H'
 | .fail=>False
theorem Post.on (p:Post Γ E G H r P) (e:Ext G H G1 H1) (hr:HRel Γ G h H):Post Γ E G1 H1 r P:=by
 cases r with
 | ok a h'=>exact λG' H' e' hr'=>p G' H' (e.trans hr e') hr'
 | exc d h'=>exact λG' H' e' hr'=>p G' H' (e.trans hr e') hr'
 | fail=>exact p
noncomputable def tD (Γ:Ge) (E:XK) (m:M.Sl->M.AH->M.R M.W):TE:=λσ H Q=> ∃G τ h,StRel Γ G τ h σ H/\Post Γ E G H (m τ h) λw h' G' H'=> ∀v,RelW Γ G' H' w v->FreshW τ σ H w v->Q v H'
noncomputable def tDT (Γ:Ge) (E:XK) (m:M.Sl->M.AH->M.R Bool):TT:=λσ H Q=> ∃G τ h,StRel Γ G τ h σ H/\Post Γ E G H (m τ h) λb _ _ H'=>Q b H'
theorem Xa (s0:HRel Γ G0 h0 H0) (e0:Ext G0 H0 G H) (s:StRel Γ G τ h σ H)
 (p:Post Γ E G0 H0 ((m τ h).bind f) P)
 (k: ∀w v h1 G1 H1,Ext G0 H0 G1 H1->Ext G H G1 H1->StRel Γ G1 τ h1 σ H1->RelW Γ G1 H1 w v->FreshW τ σ H w v->Post Γ E G0 H0 (f w h1) P->Q v H1):tD Γ E m σ H Q:=by
 refine⟨G,τ,h,s,?_⟩
 cases q:m τ h with
 | ok w h1=>
  rw [q]at p
  exact λG1 H1 e hr v z1 z2=>k w v h1 G1 H1 (e0.trans s0 e) e (s.ext e hr) z1 z2 p
 | exc d h1=>rw [q]at p;exact Post.on p e0 s0
 | fail=>rw [q]at p;exact p
theorem qH (s0:HRel Γ G0 h0 H0) (e0:Ext G0 H0 G H) (s:StRel Γ G τ h σ H)
 (p:Post Γ E G0 H0 ((m τ h).bind f) P)
 (k: ∀b h1 G1 H1,Ext G0 H0 G1 H1->Ext G H G1 H1->StRel Γ G1 τ h1 σ H1->Post Γ E G0 H0 (f b h1) P->Q b H1):tDT Γ E m σ H Q:=by
 refine⟨G,τ,h,s,?_⟩
 cases q:m τ h with
 | ok w h1=>
  rw [q]at p
  exact λG1 H1 e hr=>k w h1 G1 H1 (e0.trans s0 e) e (s.ext e hr) p
 | exc d h1=>rw [q]at p;exact Post.on p e0 s0
 | fail=>rw [q]at p;exact p
noncomputable def tDA (Γ:Ge) (E:XK) (m:M.Sl->M.AH->M.R (List M.D)):TA:=λσ H Q=> ∃G τ h,StRel Γ G τ h σ H/\Post Γ E G H (m τ h) λds _ G' H'=> ∀vs,RelDs Γ G' H' ds vs->Q vs H'
noncomputable def RelWs (Γ:Ge) (G:Gh) (H:Hp):List M.W->List V->Prop
 | [],vs=>vs= []
 | w::ws,vs=> ∃v r,vs=v::r/\RelW Γ G H w v/\RelWs Γ G H ws r
theorem RelWs.ext (e:Ext G H G' H') (hr:HRel Γ G h H): ∀ {ws}{vs},RelWs Γ G H ws vs->RelWs Γ G' H' ws vs
 | [],_,z=>z
 | _::_,_,⟨v,r,z1,z2,z3⟩=>⟨v,r,z1,RelW.ext e hr z2,RelWs.ext e hr z3⟩
theorem RelWs.length: ∀ {ws}{vs},RelWs Γ G H ws vs->ws.length=vs.length
 | [],_,rfl=>rfl
 | _::_,_,⟨_,_,rfl,_,z⟩=>congrArg (· +1) (RelWs.length z)
noncomputable def tDW (Γ:Ge) (E:XK) (m:M.Sl->M.AH->M.R (List M.W)):TA:=λσ H Q=> ∃G τ h,StRel Γ G τ h σ H/\Post Γ E G H (m τ h) λws _ G' H'=> ∀vs,RelWs Γ G' H' ws vs->Q vs H'
theorem WP (s0:HRel Γ G0 h0 H0) (e0:Ext G0 H0 G H) (s:StRel Γ G τ h σ H)
 (p:Post Γ E G0 H0 ((m τ h).bind f) P)
 (k: ∀ds vs h1 G1 H1,Ext G0 H0 G1 H1->Ext G H G1 H1->StRel Γ G1 τ h1 σ H1->RelDs Γ G1 H1 ds vs->Post Γ E G0 H0 (f ds h1) P->Q vs H1):tDA Γ E m σ H Q:=by
 refine⟨G,τ,h,s,?_⟩
 cases q:m τ h with
 | ok w h1=>
  rw [q]at p
  exact λG1 H1 e hr vs z=>k w vs h1 G1 H1 (e0.trans s0 e) e (s.ext e hr) z p
 | exc d h1=>rw [q]at p;exact Post.on p e0 s0
 | fail=>rw [q]at p;exact p
theorem Zi (s0:HRel Γ G0 h0 H0) (e0:Ext G0 H0 G H) (s:StRel Γ G τ h σ H)
 (p:Post Γ E G0 H0 ((m τ h).bind f) P)
 (k: ∀ds vs h1 G1 H1,Ext G0 H0 G1 H1->Ext G H G1 H1->StRel Γ G1 τ h1 σ H1->RelWs Γ G1 H1 ds vs->Post Γ E G0 H0 (f ds h1) P->Q vs H1):tDW Γ E m σ H Q:=by
 refine⟨G,τ,h,s,?_⟩
 cases q:m τ h with
 | ok w h1=>
  rw [q]at p
  exact λG1 H1 e hr vs z=>k w vs h1 G1 H1 (e0.trans s0 e) e (s.ext e hr) z p
 | exc d h1=>rw [q]at p;exact Post.on p e0 s0
 | fail=>rw [q]at p;exact p
theorem Post.of (p:Post Γ E G H ((M.R.of h o).bind f) P): ∃b,o=y0 b/\Post Γ E G H (f b h) P:=by
 cases o with
 | none=>exact p.elim
 | some b=>exact⟨b,rfl,p⟩
theorem Post.at (p:Post Γ E G H (.ok a h) P) (e:Ext G H G1 H1) (hr:HRel Γ G1 h H1):P a h G1 H1:=p G1 H1 e hr
theorem toD (e:Ext G H G1 H1) (s:StRel Γ G1 τ h σ H1) (s0:StRel Γ G τ h' σ H)(r:RelW Γ G1 H1 w v) (f:FreshW τ σ H w v) (hd:w.d=y0 d):
 ∃G2,Ext G H G2 H1/\StRel Γ G2 τ h σ H1/\RelD Γ G2 H1 d v/\Mon G1 H1 G2 H1:=by
 cases w with
 | v d'=>cases hd;exact⟨G1,e,s,r,⟨λ_ _ _ z=>z,Aa6 _,λ_ _=>rfl,λ_ z=>z⟩⟩
 | own xs=>
  cases hd
  obtain⟨a,vs,rfl,z2,z3,z4,z5⟩:=r
  obtain⟨b,hb,hn⟩:=f
  cases hb
  refine⟨G1.more a,e.more hn,s.more z3 ⟨_,z4⟩ λi w q hl z=> ?_,⟨a,vs,rfl,.inl ⟨.inr rfl,.inl z4⟩,z5.mon (zi a)⟩,zi a⟩
  obtain⟨o,z'⟩:=s0.slotThere q hl z
  rw [hn]at z';cases z'
 | bor xs=>cases hd
end
open PySem PySem.Spec PyProof.Rows
mutual
noncomputable def RV (hp:Heap):M.D->Value->Prop
 | .non,u=>u= .none
 | .bl b,u=>u= .bool b
 | .int i,u=> ∃t,u= .int i t
 | .str s,u=> ∃t,u= .str (txS s) t
 | .tup ds,u=> ∃(a:Addr) (its:List Value),u= .ref a/\IsTup hp a its.toArray/\RVs hp ds its
 | .lst ds,u=> ∃(a:Addr) (its:List Value),u= .ref a/\hp.IsList a its.toArray/\RVs hp ds its
 | .ref _,_=>False
 | .exc _ _,_=>False
noncomputable def RVs (hp:Heap):List M.D->List Value->Prop
 | [],us=>us= []
 | d::ds,us=> ∃u r,us=u::r/\RV hp d u/\RVs hp ds r
end
theorem RVs.length : ∀ {ds}{us},RVs hp ds us->ds.length=us.length
 | [],_,rfl=>rfl
 | _::_,_,⟨_,_,rfl,_,z⟩=>congrArg (· +1) (RVs.length z)
theorem RVs.get : ∀ {ds}{us}{j:Nat}{u},RVs hp ds us->us[j]? =y0 u-> ∃d,ds[j]? =y0 d/\RV hp d u
 | [],_,_,_,rfl,e=>by simp at e
 | d::_,_,0,_,⟨v,_,rfl,z,_⟩,e=>by simp at e;subst e;exact⟨d,rfl,z⟩
 | _::_,_,j+1,_,⟨_,_,rfl,_,z⟩,e=>by
  obtain⟨v,h1,h2⟩:=RVs.get z (by simpa using e)
  exact⟨v,by simpa using h1,h2⟩
section
variable {X:Cx}{Γ:Ge}{G:Gh}{H:Hp}{h:M.AH}{u8:List (Addr×Obj)}{σ:St}{s:Shared}
mutual
theorem RelD.rv0 (I:Inv X u8 σ H s) (hK:X.K=Γ.K): ∀ {d:M.D}{x:V}{u:Value},RelD Γ G H d x->RelV x u->M.Gr d=v9->RV s.heap d u
 | .non,_,_,rfl,r,_=>r
 | .bl _,_,_,rfl,r,_=>r
 | .int _,_,_,rfl,r,_=>r
 | .str _,_,_,rfl,r,_=>r
 | .tup ds,_,_,⟨a,vs,rfl,z2,z3⟩,r,n=>by
  cases r
  obtain⟨its,r1,p1,_⟩:=I.tuple (hK▸z2.sq)
  exact⟨a,its,rfl,p1,RelDs.rv0 I hK z3 r1 (by simpa [M.Gr]using n)⟩
 | .lst ds,_,_,⟨a,vs,rfl,z2,z3⟩,r,n=>by
  cases r
  obtain⟨its,r1,p1,_⟩:=I.list (hK▸z2.sq)
  exact⟨a,its,rfl,p1.isList,RelDs.rv0 I hK z3 r1 (by simpa [M.Gr]using n)⟩
 | .ref _,_,_,_,_,n=>by simp [M.Gr]at n
 | .exc _ _,_,_,_,_,n=>by simp [M.Gr]at n
theorem RelDs.rv0 (I:Inv X u8 σ H s) (hK:X.K=Γ.K): ∀ {ds:List M.D}{xs:List V}{us:List Value},RelDs Γ G H ds xs->Vals xs us->M.Gg ds=v9->RVs s.heap ds us
 | [],_,_,rfl,.nil,_=>rfl
 | d::ds,_,_,⟨v,r,rfl,z1,z2⟩,.cons r1 r2,n=>by
  have n':M.Gr d=v9/\M.Gg ds=true:=by simpa [M.Gg]using n
  exact⟨_,_,rfl,RelD.rv0 I hK z1 r1 n'.1,RelDs.rv0 I hK z2 r2 n'.2⟩
end
mutual
theorem RelD.rv (I:Inv X u8 σ H s) (hK:X.K=Γ.K) (hr:HRel Γ G h H): ∀ {d:M.D}{x:V}{u:Value},RelD Γ G H d x->RelV x u->M.Gr (M.res h d)=v9->RV s.heap (M.res h d) u
 | .non,_,_,rfl,r,_=>r
 | .bl _,_,_,rfl,r,_=>r
 | .int _,_,_,rfl,r,_=>r
 | .str _,_,_,rfl,r,_=>r
 | .tup ds,_,_,⟨a,vs,rfl,z2,z3⟩,r,n=>by
  cases r
  obtain⟨its,r1,p1,_⟩:=I.tuple (hK▸z2.sq)
  rw [M.res]at n ⊢
  exact⟨a,its,rfl,p1,RelDs.rv I hK hr z3 r1 (by simpa [M.Gr]using n)⟩
 | .lst ds,_,_,⟨a,vs,rfl,z2,z3⟩,r,n=>by
  cases r
  obtain⟨its,r1,p1,_⟩:=I.list (hK▸z2.sq)
  rw [M.res]at n ⊢
  exact⟨a,its,rfl,p1.isList,RelDs.rv I hK hr z3 r1 (by simpa [M.Gr]using n)⟩
 | .ref i,_,_,⟨hi,e⟩,r,n=>by
  subst e
  cases r
  rw [M.res]at n ⊢
  cases q:h[i]? with
  | none=>rw [q]at n;simp [M.Gr]at n
  | some c=>
   cases c with
   | lst xs=>
    rw [q]at n
    obtain⟨_,vs,z2,z3⟩:=hr.cell i xs q
    obtain⟨its,r1,p1,_⟩:=I.list (SqL.of (K:=X.K) z2)
    exact⟨_,its,rfl,p1.isList,RelDs.rv0 I hK z3 r1 (by simpa [M.Gr]using n)⟩
   | dic ks=>rw [q]at n;simp [M.Gr]at n
   | obj c fs=>rw [q]at n;simp [M.Gr]at n
 | .exc _ _,_,_,_,_,n=>by simp [M.res,M.Gr]at n
theorem RelDs.rv (I:Inv X u8 σ H s) (hK:X.K=Γ.K) (hr:HRel Γ G h H): ∀ {ds:List M.D}{xs:List V}{us:List Value},RelDs Γ G H ds xs->Vals xs us->M.Gg (M.KJ h ds)=v9->RVs s.heap (M.KJ h ds) us
 | [],_,_,rfl,.nil,_=>rfl
 | d::ds,_,_,⟨v,r,rfl,z1,z2⟩,.cons r1 r2,n=>by
  rw [M.KJ]at n ⊢
  have n':M.Gr (M.res h d)=v9/\M.Gg (M.KJ h ds)=true:=by simpa [M.Gg]using n
  exact⟨_,_,rfl,RelD.rv I hK hr z1 r1 n'.1,RelDs.rv I hK hr z2 r2 n'.2⟩
end
theorem RelW.rv (I:Inv X u8 σ H s) (hK:X.K=Γ.K) (hr:HRel Γ G h H)(z:RelW Γ G H w x) (r:RelV x u) (n:M.Gr (w.dd h)=v9):RV s.heap (w.dd h) u:=by
 cases w with
 | v d=>exact RelD.rv I hK hr z r n
 | own xs=>
  obtain⟨a,vs,rfl,_,_,z4,z5⟩:=z
  cases r
  obtain⟨its,r1,p1,_⟩:=I.list (SqL.of z4)
  exact⟨a,its,rfl,p1.isList,RelDs.rv I hK hr z5 r1 (by simpa [M.Gr]using n)⟩
 | bor xs=>
  obtain⟨a,vs,rfl,_,z4,z5⟩:=z
  cases r
  obtain⟨its,r1,p1,_⟩:=I.list (.inl z4)
  exact⟨a,its,rfl,p1.isList,RelDs.rv I hK hr z5 r1 (by simpa [M.Gr]using n)⟩
end
theorem JF (h:txS a=txS b):a=b:=by
 have:=congrArg Str.cps h
 simpa [txS]using this
theorem ZM {xs ys:List Value}(h1:IsTup hp a xs.toArray) (h2:IsTup hp a ys.toArray):xs=ys:=by
 obtain⟨o,e1,_,n,d1⟩:=h1
 obtain⟨o',e2,_,n',d2⟩:=h2
 rw [e1]at e2;cases e2
 rw [d1]at d2;cases d2
 rfl
theorem wE {hp:Heap}{xs ys:List Value}(h1:hp.IsList a xs.toArray) (h2:hp.IsList a ys.toArray):xs=ys:=by
 obtain⟨o,e1,_,n,d1⟩:=h1
 obtain⟨o',e2,_,n',d2⟩:=h2
 rw [e1]at e2;cases e2
 rw [d1]at d2;cases d2
 rfl
theorem Ju (h1:IsTup hp a xs) (h2:hp.IsList a ys):False:=by
 obtain⟨o,e1,c1,_⟩:=h1
 obtain⟨o',e2,c2,_⟩:=h2
 rw [e1]at e2;cases e2
 rw [c1]at c2
 exact absurd c2 (by decide)
mutual
theorem RV.inj {hp:Heap}: ∀ {d e:M.D}{u:Value},RV hp d u->RV hp e u->d=e
 | .non,e,_,rfl,q=>by cases e<;>first | rfl | (simp [RV]at q)
 | .bl _,e,_,rfl,q=>by cases e<;>first | (simp [RV]at q;done) | (have q:=q;simp [RV]at q;try rw [q])
 | .int _,e,_,⟨t,rfl⟩,q=>by cases e<;>first | (simp [RV]at q;done) | (have q:=q;simp [RV]at q;try rw [q])
 | .str _,e,_,⟨t,rfl⟩,q=>by
  cases e with
  | str z=>
   obtain⟨t',q⟩:=q
   injection q with q1 q2
   rw [JF q1]
  | _=>simp [RV]at q
 | .tup ds,e,_,⟨a,its,rfl,p,r⟩,q=>by
  cases e with
  | tup es=>
   obtain⟨b,its2,e,p2,r2⟩:=q
   cases e
   cases ZM p p2
   rw [RVs.inj r r2]
  | lst es=>
   obtain⟨b,its2,e,p2,r2⟩:=q
   cases e
   exact(Ju p p2).elim
  | _=>simp [RV]at q
 | .lst ds,e,_,⟨a,its,rfl,p,r⟩,q=>by
  cases e with
  | lst es=>
   obtain⟨b,its2,e,p2,r2⟩:=q
   cases e
   cases wE p p2
   rw [RVs.inj r r2]
  | tup es=>
   obtain⟨b,its2,e,p2,r2⟩:=q
   cases e
   exact(Ju p2 p).elim
  | _=>simp [RV]at q
 | .ref _,_,_,q,_=>q.elim
 | .exc _ _,_,_,q,_=>q.elim
theorem RVs.inj {hp:Heap}: ∀ {d e:List M.D}{u:List Value},RVs hp d u->RVs hp e u->d=e
 | [],e,_,rfl,q=>by
  cases e with
  | nil=>rfl
  | cons a b=>obtain⟨_,_,z,_⟩:=q;cases z
 | d::ds,e,_,⟨u,r,rfl,z1,z2⟩,q=>by
  cases e with
  | nil=>cases (show _::_= []from q)
  | cons a b=>
   obtain⟨_,_,z,y1,y2⟩:=q
   cases z
   rw [RV.inj z1 y1,RVs.inj z2 y2]
end
mutual
theorem RV.refl {hp:Heap}: ∀ {d:M.D}{u:Value},RV hp d u->M.eqD d d=v9
 | .non,_,_=>rfl
 | .bl _,_,_=>by simp
 | .int _,_,_=>by simp
 | .str _,_,_=>by simp
 | .tup ds,_,⟨_,_,_,_,r⟩=>by rw [M.eqD];exact RVs.refl r
 | .lst ds,_,⟨_,_,_,_,r⟩=>by rw [M.eqD];exact RVs.refl r
 | .ref _,_,q=>q.elim
 | .exc _ _,_,q=>q.elim
theorem RVs.refl {hp:Heap}: ∀ {d:List M.D}{u:List Value},RVs hp d u->M.Ku d d=v9
 | [],_,_=>rfl
 | d::ds,_,⟨_,_,_,z1,z2⟩=>by rw [M.Ku,RV.refl z1,RVs.refl z2];rfl
end
def eqJ (xs ys:List M.D) (j:Nat):Bool:=match xs[j]?,ys[j]? with
 | some a,y0 b=>M.eqD a b
 | _,_=>v9
theorem QC (n) (e):(Ac0 (n+1)).all e=(e 0&&(Ac0 n).all λj=>e (j+1)):=by
 rw [List.range_succ_eq_map,Ah6,List.all_map];rfl
theorem wQ: ∀(xs ys),xs.length=ys.length->(Ac0 xs.length).all (eqJ xs ys)=M.Ku xs ys
 | [],[],_=>rfl
 | [],_::_,h=>by simp at h
 | _::_,[],h=>by simp at h
 | x::xs,y::ys,h=>by
  rw [Aa4,QC,M.Ku]
  have ih:=wQ xs ys (by simpa using h)
  rw [← ih]
  rfl
theorem qV: ∀(xs ys),M.Ku xs ys=v9->xs.length=ys.length
 | [],[],_=>rfl
 | [],_::_,h=>by simp at h
 | _::_,[],h=>by simp at h
 | x::xs,y::ys,h=>by
  rw [M.Ku,Ab4]at h
  rw [Aa4,Aa4,qV xs ys h.2]
theorem xao (h:xs.length≠ys.length):M.Ku xs ys=false:=by
 cases e:M.Ku xs ys with
 | false=>rfl
 | true=>exact absurd (qV xs ys e) h
open SeqAt in
structure Cmp3 (A:Around) (s:Shared) (u v:Value) (b:Bool):Prop where
 rc:RcAt A s u v b
 ne:RcNeAt A s u v (!b)
 eq:EqAt A s u v b
section
open SeqAt
variable {A:Around}{s:Shared}
theorem ww: ∀ {ds}{j:Nat}{d},ds[j]? =y0 d->M.dep d<=M.KQ ds
 | [],_,_,e=>by simp at e
 | x::xs,0,d,e=>by simp at e;subst e;simp only [M.KQ];omega
 | x::xs,j+1,d,e=>by
  have:=ww (by simpa using e)
  simp only [M.KQ]
  omega
theorem b2n (b:Bool):((if b then(1:Int)else 0))=((b.toNat:Nat):Int):=by cases b<;>rfl
theorem J4 (a b):(txS a==txS b)=(a==b):=by
 by_cases h:a=b
 ·subst h;simp
 ·have h2:=λe=>h (JF e)
  rw [beq_eq_false_iff_ne.mpr h,beq_eq_false_iff_ne.mpr h2]
theorem j9 (hl:s.heap.IsList l its.toArray) (hb:s.heap.IsList b its2.toArray) (r1:RVs s.heap xs its) (r2:RVs s.heap ys its2) (hu:A.units<cLine)
 (he: ∀(j:Nat) a c u v,xs[j]? =y0 a->ys[j]? =y0 c->RV s.heap a u->RV s.heap c v->EqAt A.in1 s u v (M.eqD a c)):Cmp3 A s (.ref l) (.ref b) (M.Ku xs ys):=by
 have hi: ∀ j h1 (h2:j<its2.toArray.size),EqAt A.in1 s its.toArray[j] its2.toArray[j] (eqJ xs ys j):=λj h1 h2=>by
  obtain⟨a,ea,ra⟩:=r1.get (j:=j) (u:=its.toArray[j]) (by simp at h1;simp [h1])
  obtain⟨c,ec,rc⟩:=r2.get (j:=j) (u:=its2.toArray[j]) (by simp at h2;simp [h2])
  have:=he j a c _ _ ea ec ra rc
  unfold eqJ
  rw [ea,ec]
  exact this
 have l1:=r1.length
 have l2:=r2.length
 have two:RcAt A s (.ref l) (.ref b) (M.Ku xs ys)/\RcNeAt A s (.ref l) (.ref b) (!M.Ku xs ys):=by
  by_cases hz:xs.length=ys.length
  ·have hsz:its.toArray.size=its2.toArray.size:=by simp;omega
   have e:(Ac0 its.toArray.size).all (eqJ xs ys)=M.Ku xs ys:=by
    rw [Ab,←l1];exact wQ xs ys hz
   have a:=RcAt.lists hl hb hsz hu hi
   have c:=RcNeAt.lists hl hb hsz hu hi
   rw [e]at a c
   exact⟨a,c⟩
  ·have hsz:(its.toArray.size != its2.toArray.size)=true:=by simp;omega
   rw [xao hz]
   exact⟨RcAt.lists_lengths hl hb hsz hu,RcNeAt.lists_lengths hl hb hsz hu⟩
 refine⟨two.1,two.2,?_⟩
 by_cases hlb:l=b
 ·subst hlb
  cases wE hl hb
  cases RVs.inj r1 r2
  rw [RVs.refl r1]
  exact EqAt.same _
 ·exact EqAt.of_refs hlb two.1
theorem qZ (hl:IsTup s.heap l its.toArray) (hb:IsTup s.heap b its2.toArray) (r1:RVs s.heap xs its) (r2:RVs s.heap ys its2) (hu:A.units<cLine)
 (he: ∀(j:Nat) a c u v,xs[j]? =y0 a->ys[j]? =y0 c->RV s.heap a u->RV s.heap c v->EqAt A.in1 s u v (M.eqD a c)):Cmp3 A s (.ref l) (.ref b) (M.Ku xs ys):=by
 have hi: ∀ j h1 (h2:j<its2.toArray.size),EqAt A.in1 s its.toArray[j] its2.toArray[j] (eqJ xs ys j):=λj h1 h2=>by
  obtain⟨a,ea,ra⟩:=r1.get (j:=j) (u:=its.toArray[j]) (by simp at h1;simp [h1])
  obtain⟨c,ec,rc⟩:=r2.get (j:=j) (u:=its2.toArray[j]) (by simp at h2;simp [h2])
  have:=he j a c _ _ ea ec ra rc
  unfold eqJ
  rw [ea,ec]
  exact this
 have l1:=r1.length
 have l2:=r2.length
 have e:((Ac0 (min its.toArray.size its2.toArray.size)).all (eqJ xs ys)&&its.toArray.size==its2.toArray.size)=M.Ku xs ys:=by
  rw [Ab,Ab,←l1,←l2]
  by_cases hz:xs.length=ys.length
  ·rw [← hz,Nat.min_self,wQ xs ys hz];simp
  ·rw [xao hz];simp [hz]
 have a:=RcAt.tuples hl hb hu hi
 have c:=RcNeAt.tuples hl hb hu hi
 rw [e]at a c
 refine⟨a,c,?_⟩
 by_cases hlb:l=b
 ·subst hlb
  cases ZM hl hb
  cases RVs.inj r1 r2
  rw [RVs.refl r1]
  exact EqAt.same _
 ·exact EqAt.of_refs hlb a
theorem Cmp3.of (h:Cmp3 A s u v b) (e:b=b'):Cmp3 A s u v b':=e▸h
theorem xcj: ∀(n:Nat) (d e:M.D) (A:Around) (u v:Value),M.dep d<=n->A.units+n<cLine->RV s.heap d u->RV s.heap e v->Cmp3 A s u v (M.eqD d e):=by
 intro n
 induction n with
 | zero=>
  intro d e A u v hd hu r1 r2
  have hu':A.units<cLine:=by omega
  cases d with
  | non=>
   cases (show u= .none from r1)
   cases e with
   | non=>cases (show v= .none from r2);exact⟨RcAt.none_none,RcNeAt.none_none,EqAt.same _⟩
   | bl b=>cases (show v= .bool b from r2);exact⟨RcAt.none_bool b,RcNeAt.none_bool b,EqAt.none_bool b⟩
   | int i=>obtain⟨t,rfl⟩:=r2;exact⟨RcAt.none_int i t,RcNeAt.none_int i t,EqAt.none_int i t⟩
   | str z=>obtain⟨t,rfl⟩:=r2;exact⟨RcAt.none_str _ t,RcNeAt.none_str _ t,EqAt.none_str _ t⟩
   | tup es=>obtain⟨a,its,rfl,p,_⟩:=r2;exact⟨RcAt.none_tuple p hu',RcNeAt.none_tuple p hu',EqAt.none_tuple p hu'⟩
   | lst es=>obtain⟨a,its,rfl,p,_⟩:=r2;exact⟨RcAt.none_list p hu',RcNeAt.none_list p hu',EqAt.none_list p hu'⟩
   | ref _=>exact r2.elim
   | exc _ _=>exact r2.elim
  | bl x=>
   cases (show u= .bool x from r1)
   cases e with
   | non=>cases (show v= .none from r2);exact⟨RcAt.bool_none x,RcNeAt.bool_none x,EqAt.bool_none x⟩
   | bl b=>cases (show v= .bool b from r2);exact⟨RcAt.bool_bool x b,RcNeAt.bool_bool x b,EqAt.bool_bool x b⟩
   | int i=>obtain⟨t,rfl⟩:=r2;exact(Cmp3.mk (RcAt.bool_int x i t) (RcNeAt.bool_int x i t) (EqAt.bool_int x i t)).of (by rw [b2n];rfl)
   | str z=>obtain⟨t,rfl⟩:=r2;exact⟨RcAt.bool_str x _ t,RcNeAt.bool_str x _ t,EqAt.bool_str x _ t⟩
   | tup es=>obtain⟨a,its,rfl,p,_⟩:=r2;exact⟨RcAt.bool_tuple x p hu',RcNeAt.bool_tuple x p hu',EqAt.bool_tuple x p hu'⟩
   | lst es=>obtain⟨a,its,rfl,p,_⟩:=r2;exact⟨RcAt.bool_list x p hu',RcNeAt.bool_list x p hu',EqAt.bool_list x p hu'⟩
   | ref _=>exact r2.elim
   | exc _ _=>exact r2.elim
  | int x=>
   obtain⟨t0,rfl⟩:=r1
   cases e with
   | non=>cases (show v= .none from r2);exact⟨RcAt.int_none x t0,RcNeAt.int_none x t0,EqAt.int_none x t0⟩
   | bl b=>cases (show v= .bool b from r2);exact(Cmp3.mk (RcAt.int_bool x t0 b) (RcNeAt.int_bool x t0 b) (EqAt.int_bool x t0 b)).of (by rw [b2n];rfl)
   | int i=>obtain⟨t,rfl⟩:=r2;exact⟨RcAt.int_int x t0 i t,RcNeAt.int_int x t0 i t,EqAt.int_int x t0 i t⟩
   | str z=>obtain⟨t,rfl⟩:=r2;exact⟨RcAt.int_str x t0 _ t,RcNeAt.int_str x t0 _ t,EqAt.int_str x t0 _ t⟩
   | tup es=>obtain⟨a,its,rfl,p,_⟩:=r2;exact⟨RcAt.int_tuple x t0 p hu',RcNeAt.int_tuple x t0 p hu',EqAt.int_tuple x t0 p hu'⟩
   | lst es=>obtain⟨a,its,rfl,p,_⟩:=r2;exact⟨RcAt.int_list x t0 p hu',RcNeAt.int_list x t0 p hu',EqAt.int_list x t0 p hu'⟩
   | ref _=>exact r2.elim
   | exc _ _=>exact r2.elim
  | str x=>
   obtain⟨t0,rfl⟩:=r1
   cases e with
   | non=>cases (show v= .none from r2);exact⟨RcAt.str_none _ t0,RcNeAt.str_none _ t0,EqAt.str_none _ t0⟩
   | bl b=>cases (show v= .bool b from r2);exact⟨RcAt.str_bool _ t0 b,RcNeAt.str_bool _ t0 b,EqAt.str_bool _ t0 b⟩
   | int i=>obtain⟨t,rfl⟩:=r2;exact⟨RcAt.str_int _ t0 i t,RcNeAt.str_int _ t0 i t,EqAt.str_int _ t0 i t⟩
   | str z=>obtain⟨t,rfl⟩:=r2;exact(Cmp3.mk (RcAt.str_str _ t0 _ t) (RcNeAt.str_str _ t0 _ t) (EqAt.str_str _ t0 _ t)).of (by rw [J4];rfl)
   | tup es=>obtain⟨a,its,rfl,p,_⟩:=r2;exact⟨RcAt.str_tuple _ t0 p hu',RcNeAt.str_tuple _ t0 p hu',EqAt.str_tuple _ t0 p hu'⟩
   | lst es=>obtain⟨a,its,rfl,p,_⟩:=r2;exact⟨RcAt.str_list _ t0 p hu',RcNeAt.str_list _ t0 p hu',EqAt.str_list _ t0 p hu'⟩
   | ref _=>exact r2.elim
   | exc _ _=>exact r2.elim
  | tup xs=>simp only [M.dep]at hd;omega
  | lst xs=>simp only [M.dep]at hd;omega
  | ref _=>exact r1.elim
  | exc _ _=>exact r1.elim
 | succ n ih=>
  intro d e A u v hd hu r1 r2
  have hu':A.units<cLine:=by omega
  cases d with
  | tup xs=>
   obtain⟨l,its1,rfl,p1,q1⟩:=r1
   have hd':M.KQ xs<=n:=by simp only [M.dep]at hd;omega
   cases e with
   | non=>cases (show v= .none from r2);exact⟨RcAt.tuple_none p1 hu',RcNeAt.tuple_none p1 hu',EqAt.tuple_none p1 hu'⟩
   | bl b=>cases (show v= .bool b from r2);exact⟨RcAt.tuple_bool b p1 hu',RcNeAt.tuple_bool b p1 hu',EqAt.tuple_bool b p1 hu'⟩
   | int i=>obtain⟨t,rfl⟩:=r2;exact⟨RcAt.tuple_int i t p1 hu',RcNeAt.tuple_int i t p1 hu',EqAt.tuple_int i t p1 hu'⟩
   | str z=>obtain⟨t,rfl⟩:=r2;exact⟨RcAt.tuple_str _ t p1 hu',RcNeAt.tuple_str _ t p1 hu',EqAt.tuple_str _ t p1 hu'⟩
   | tup es=>
    obtain⟨a,its,rfl,p,q⟩:=r2
    rw [M.eqD]
    exact qZ p1 p q1 q hu' λj a' c' u' v' e1 e2 k1 k2=>(ih a' c' A.in1 u' v' (Ac7 (ww e1) hd') (by show A.units+1+n<cLine;omega) k1 k2).eq
   | lst es=>obtain⟨a,its,rfl,p,_⟩:=r2;exact⟨RcAt.tuple_list p1 p hu',RcNeAt.tuple_list p1 p hu',EqAt.tuple_list p1 p hu'⟩
   | ref _=>exact r2.elim
   | exc _ _=>exact r2.elim
  | lst xs=>
   obtain⟨l,its1,rfl,p1,q1⟩:=r1
   have hd':M.KQ xs<=n:=by simp only [M.dep]at hd;omega
   cases e with
   | non=>cases (show v= .none from r2);exact⟨RcAt.list_none p1 hu',RcNeAt.list_none p1 hu',EqAt.list_none p1 hu'⟩
   | bl b=>cases (show v= .bool b from r2);exact⟨RcAt.list_bool b p1 hu',RcNeAt.list_bool b p1 hu',EqAt.list_bool b p1 hu'⟩
   | int i=>obtain⟨t,rfl⟩:=r2;exact⟨RcAt.list_int i t p1 hu',RcNeAt.list_int i t p1 hu',EqAt.list_int i t p1 hu'⟩
   | str z=>obtain⟨t,rfl⟩:=r2;exact⟨RcAt.list_str _ t p1 hu',RcNeAt.list_str _ t p1 hu',EqAt.list_str _ t p1 hu'⟩
   | lst es=>
    obtain⟨a,its,rfl,p,q⟩:=r2
    rw [M.eqD]
    exact j9 p1 p q1 q hu' λj a' c' u' v' e1 e2 k1 k2=>(ih a' c' A.in1 u' v' (Ac7 (ww e1) hd') (by show A.units+1+n<cLine;omega) k1 k2).eq
   | tup es=>obtain⟨a,its,rfl,p,_⟩:=r2;exact⟨RcAt.list_tuple p1 p hu',RcNeAt.list_tuple p1 p hu',EqAt.list_tuple p1 p hu'⟩
   | ref _=>exact r2.elim
   | exc _ _=>exact r2.elim
  | non=>exact ih .non e A u v (by simp) (by omega) r1 r2
  | bl x=>exact ih (.bl x) e A u v (by simp) (by omega) r1 r2
  | int x=>exact ih (.int x) e A u v (by simp) (by omega) r1 r2
  | str x=>exact ih (.str x) e A u v (by simp) (by omega) r1 r2
  | ref _=>exact r1.elim
  | exc _ _=>exact r1.elim
end
noncomputable def PostW (Γ:Ge) (E:XK) (G:Gh) (H:Hp) (r:M.R M.W) (Q:VK):Prop:=Post Γ E G H r λw _ G' H'=> ∀v,RelW Γ G' H' w v->FreshW [] [] H w v->Q v H'
section
variable {X:Cx}{Γ:Ge}{G:Gh}{H:Hp}{h:M.AH}{u8:List (Addr×Obj)}{σ:St}{s:Shared}{Q:VK}{E:XK}
theorem PostW.v (p:PostW Γ E G H (.ok (.v d) h) Q) (hr:HRel Γ G h H){v:V}(z:RelD Γ G H d v):Q v H:=p G H Ext.refl hr v z trivial
theorem HRel.nofz (hr:HRel Γ G h H)(ha:H a=k9): ¬G.fz a:=λq=>by
 obtain⟨o,z⟩:=hr.live a q
 rw [ha]at z;cases z
theorem HRel.offN (hr:HRel Γ G h H)(ha:H a=k9):Off G a:=λr hn e=>by
 obtain⟨o,q⟩:=hr.there hn
 rw [e,ha]at q;cases q
theorem PostW.own (p:PostW Γ E G H (.ok (.own xs) h) Q) (hr:HRel Γ G h H) (z:RelDs Γ G H xs vs) (a) (ha:H a=k9):Q (.ref a) (upd H a (.lst vs)):=
 p G (upd H a (.lst vs)) (Zq _ ha) (hr.new _ ha) (.ref a) ⟨a,vs,rfl,hr.nofz ha,hr.offN ha,jd,z.ext (Zq _ ha) hr⟩ ⟨a,rfl,ha⟩
theorem PostW.tup (p:PostW Γ E G H (.ok (.v (.tup xs)) h) Q) (hr:HRel Γ G h H) (z:RelDs Γ G H xs vs) (a) (ha:H a=k9):Q (.ref a) (upd H a (.tup vs)):=
 p (G.more a) (upd H a (.tup vs)) (Jo _ ha) (hr.newF _ ha) (.ref a) ⟨a,vs,rfl,.inl ⟨.inr rfl,jd⟩,z.ext (Jo _ ha) hr⟩ trivial
theorem PostW.of (p:PostW Γ E G H ((M.R.of h o).bind f) Q): ∃b,o=y0 b/\PostW Γ E G H (f b h) Q:=Post.of p
theorem PostW.mk (p:Post Γ E G0 H0 r λw _ G' H'=> ∀v,RelW Γ G' H' w v->FreshW τ σ H0 w v->Q v H') (e:Ext G0 H0 G H) (s0:HRel Γ G0 h0 H0):PostW Γ E G H r Q:=by
 cases r with
 | ok w h'=>
  refine λG' H' e' hr' v z1 z2=>p G' H' (e.trans s0 e') hr' v z1 ?_
  cases w with
  | v d=>trivial
  | own xs=>obtain⟨a,z3,z4⟩:=z2;exact⟨a,z3,e.none s0 z4⟩
  | bor xs=>obtain⟨i,w,z3,_⟩:=z2;simp at z3
 | exc d h'=>exact λG' H' e' hr'=>p G' H' (e.trans s0 e') hr'
 | fail=>exact p
theorem RelW.lst (hr:HRel Γ G h H)(z:RelW Γ G H w v) (e:w.lst? h=y0 xs): ∃a vs,v= .ref a/\SqL Γ.K H a vs/\RelDs Γ G H xs vs:=by
 cases w with
 | v d=>
  cases d with
  | lst ys=>cases e;obtain⟨a,vs,z1,z2,z3⟩:=z;exact⟨a,vs,z1,z2.sq,z3⟩
  | ref r=>
   obtain⟨hn,z1⟩:=z
   have e:(match h[r]? with | some (M.Cell.lst zs)=>y0 zs | _=>k9)=y0 xs:=e
   cases q:h[r]? with
   | none=>rw [q]at e;cases e
   | some c=>
    cases c with
    | lst ys=>
     rw [q]at e
     cases e
     obtain⟨_,vs,z2,z3⟩:=hr.cell r _ q
     exact⟨_,vs,z1,SqL.of z2,z3⟩
    | dic ks=>rw [q]at e;cases e
    | obj c fs=>rw [q]at e;cases e
  | non=>cases e
  | bl _=>cases e
  | int _=>cases e
  | str _=>cases e
  | tup _=>cases e
  | exc _ _=>cases e
 | own ys=>cases e;obtain⟨a,vs,z1,_,_,z2,z3⟩:=z;exact⟨a,vs,z1,SqL.of z2,z3⟩
 | bor ys=>cases e;obtain⟨a,vs,z1,_,z2,z3⟩:=z;exact⟨a,vs,z1,.inl z2,z3⟩
theorem RelW.lstO (hr:HRel Γ G h H)(z:RelW Γ G H w v) (e:w.lstO? h=y0 xs): ∃a vs,v= .ref a/\Rd H a (.lst vs)/\RelDs Γ G H xs vs:=by
 cases w with
 | v d=>
  cases d with
  | ref r=>
   obtain⟨hn,z1⟩:=z
   have e:(match h[r]? with | some (M.Cell.lst zs)=>y0 zs | _=>k9)=y0 xs:=e
   cases q:h[r]? with
   | none=>rw [q]at e;cases e
   | some c=>
    cases c with
    | lst ys=>
     rw [q]at e
     cases e
     obtain⟨_,vs,z2,z3⟩:=hr.cell r _ q
     exact⟨_,vs,z1,.inl z2,z3⟩
    | dic ks=>rw [q]at e;cases e
    | obj c fs=>rw [q]at e;cases e
  | _=>cases e
 | own ys=>cases e;obtain⟨a,vs,z1,_,_,z2,z3⟩:=z;exact⟨a,vs,z1,.inl z2,z3⟩
 | bor ys=>cases e;obtain⟨a,vs,z1,_,z2,z3⟩:=z;exact⟨a,vs,z1,z2,z3⟩
theorem RelW.seq (hr:HRel Γ G h H)(z:RelW Γ G H w v) (e:w.seq? h=y0 xs): ∃a vs,v= .ref a/\(SqL Γ.K H a vs\/SqT Γ.K H a vs)/\RelDs Γ G H xs vs:=by
 have key:w.lst? h=y0 xs-> ∃a vs,v= .ref a/\(SqL Γ.K H a vs\/SqT Γ.K H a vs)/\RelDs Γ G H xs vs:=λe=>by
  obtain⟨a,vs,z1,z2,z3⟩:=z.lst hr e
  exact⟨a,vs,z1,.inl z2,z3⟩
 cases w with
 | v d=>
  cases d with
  | tup ys=>cases e;obtain⟨a,vs,z1,z2,z3⟩:=z;exact⟨a,vs,z1,.inr z2.sq,z3⟩
  | lst ys=>exact key e
  | ref r=>exact key e
  | non=>cases e
  | bl _=>cases e
  | int _=>cases e
  | str _=>cases e
  | exc _ _=>cases e
 | own ys=>exact key e
 | bor ys=>exact key e
theorem qbV (I:Inv X u8 σ H s)(r:Rd H a (.lst vs)):vs.length<=sizeLine/\ ∃ its n,Vals vs its/\vs.length=its.length/\s.heap.get? a=y0 { cls:= .type "list",data:= .seq its.toArray n }:=by
 obtain⟨z,its,n,r,e⟩:=r.ok I.hok
 exact⟨z,its,n,r,r.length,e⟩
theorem Jj:M.LIM<=sizeLine:=by rw [M.Gc];decide
noncomputable def qb9 (K:Aa5):R2:=λx y H Q=> ∃l b xs zs,x= .ref l/\y= .ref b/\SqL K H l xs/\SqL K H b zs/\xs.length+zs.length<=sizeLine/\ ∀p,H p=k9->Q (.ref p) (upd H p (.lst (xs++zs)))
theorem qa8:OpR X (binaryOp .Add) (qb9 X.K):=by
 intro u8 s σ H x y v u Q I rx ry h
 obtain⟨l,b,xs,zs,rfl,rfl,hH,hB,hz,q⟩:=h
 cases rx
 cases ry
 obtain⟨its,r,p1,_⟩:=I.list hH
 obtain⟨its2,r2,p2,_⟩:=I.list hB
 have l1:=r.length
 have l2:=r2.length
 have ea:its.toArray++its2.toArray=(its++its2).toArray:=by simp
 obtain⟨⟨cls,dd,data,sl⟩,ho,hc,n,hd⟩:=id p1.isList
 obtain⟨⟨cls2,dd2,data2,sl2⟩,ho2,hc2,n2,hd2⟩:=id p2.isList
 subst hc hd hc2 hd2
 refine concat_meets ⟨_,ho,rfl⟩ ⟨_,ho2,rfl⟩ noFill_list_add seq_list_add PySem.F.slot_list_add PySem.F.entry_list_add (PySem.F.args_list_add_2 _ _) (list_addW l b its.toArray its2.toArray n n2 dd dd2 sl sl2 (by rw [Ab,Ab];omega)) ⟨ho,ho2,?_⟩
 rw [ea]
 exact⟨.ref _,_,I.lnew (r.append r2) (by rw [Aa1];omega),rfl,q _ I.fresh⟩
noncomputable def zci:R2:=λx y H Q=> ∃l k xs,x= .ref l/\y= .int k/\Rd H l (.lst xs)/\ -(2 ^ 63)<=k/\k<2 ^ 63/\xs.length*k.toNat<=sizeLine ∧
 ∀p,H p=k9->Q (.ref p) (upd H p (.lst (Aa0 k.toNat xs).flatten))
theorem zbs:OpR X (binaryOp .Mult) zci:=by
 intro u8 s σ H x y v u Q I rx ry h
 obtain⟨l,k,xs,rfl,rfl,hH,h1,h2,hz,q⟩:=h
 cases rx
 obtain⟨t,rfl⟩:=ry
 obtain⟨z,its,n,r,hl,e⟩:=qbV I hH
 have u7:its.toArray.size*k.toNat<=sizeLine:=by rw [Ab,←hl];exact hz
 have hcap: ¬its.toArray.size*k.toNat>(2 ^ 63-1) / 8:=by
  have: sizeLine<=(2 ^ 63-1) / 8:=by decide
  omega
 have hfit: ¬(!Builtin.List.listFitsIndex k)=true:=by
  rw [fitsIndex_both h1 h2]
  exact Ab2
 have hlong: ¬Builtin.List.listTooLong (its.toArray.size*k.toNat)=true:=by
  rw [zaO u7]
  exact Ab2
 have hnew:List.foldl (λx1 x2=>x1++x2) #[] (Aa0 (if its.toArray.isEmpty=v9 then 0 else k.toNat) its.toArray)=(Aa0 k.toNat its).flatten.toArray:=by
  have f0:=λm=>by
   have:=jL its m []
   rw [Ae4]at this
   exact this
  rw [f0]
  cases its with
  | nil=>simp
  | cons a r'=>rw [if_neg (by simp)]
 refine wpAny_binaryOp_repeat_ref (by decide) ⟨_,e,rfl⟩ (λs'=>typeIs_int s' k t) noFill_list_mul F.fills_int_mul F.slot_int_rmul repeat_list F.slot_int_index.lookup
  (call_meets F.slot_int_rmul (typeIs_int s k t) F.entry_int_rmul (F.args_int_rmul_2 _ _) (int___rmul___int_list k t l its.toArray n)
    ⟨e,rfl,⟨_,e,rfl⟩,call_meets F.slot_list_mul ⟨_,e,rfl⟩ F.entry_list_mul (F.args_list_mul_2 _ _) (AutoListH.list___mul___list_int_3 l its.toArray n k t hfit hcap hlong) ⟨e,?_⟩⟩)
 rw [hnew]
 exact⟨.ref _,_,I.lnew (r.rep k.toNat) (by rw [xbr,Nat.mul_comm];exact hz),rfl,q _ I.fresh⟩
theorem RelDs.rep (z:RelDs Γ G H ds vs): ∀k:Nat,RelDs Γ G H (Aa0 k ds).flatten (Aa0 k vs).flatten
 | 0=>rfl
 | k+1=>by
  exact z.append (RelDs.rep z k)
noncomputable def opM:M.Op->Operator
 | .add=> .Add | .sub=> .Sub | .mul=> .Mult | .fdiv=> .FloorDiv | .mod=> .Mod | .pow=> .Pow | .shl=> .LShift | .shr=> .RShift | .band=> .BitAnd | .bor=> .BitOr | .bxor=> .BitXor
noncomputable def zcB (Γ:Ge) (E:XK) (o:M.Op):R2:=λx y H Q=> ∃G h w1 w2,HRel Γ G h H/\RelW Γ G H w1 x/\RelW Γ G H w2 y/\PostW Γ E G H (M.GZ o w1 w2 h) Q
theorem zl (s t):txS s++txS t=txS (s++t):=by
 show Str.mk _=Str.mk _
 simp [txS]
theorem Xb (s):(txS s).length=s.length:=by
 show s.toArray.size=s.length
 simp
def jaT:M.Op->Bool
 | .shl=>u9
 | .shr=>u9
 | .band=>u9
 | .bor=>u9
 | .bxor=>u9
 | _=>v9
theorem qbz (ho:jaT o=v9)(e:M.Gf o i j=y0 k)(I:Inv X u8 σ H s) (rx:RelV (.int i) v) (ry:RelV (.int j) u) (q:Q (.int k) H):
 wpAny (model X.prog X.w) X.A (binaryOp (opM o) v u) (EP X u8 σ Q) X.xe s:=by
 cases o with
 | add=>cases e;exact xbY u8 s σ H _ _ v u Q I rx ry ⟨i,j,rfl,rfl,q⟩
 | sub=>cases e;exact xbR u8 s σ H _ _ v u Q I rx ry ⟨i,j,rfl,rfl,q⟩
 | mul=>
  simp only [M.Gf,M.Ky,M.Kt]at e
  split at e
  ·rename_i c;cases e;exact xbU u8 s σ H _ _ v u Q I rx ry ⟨i,j,rfl,rfl,c,q⟩
  ·cases e
 | fdiv=>
  simp only [M.Gf,M.Kz,M.Kt]at e
  split at e
  ·rename_i c;cases e;exact qbl u8 s σ H _ _ v u Q I rx ry ⟨i,j,rfl,rfl,c,q⟩
  ·cases e
 | mod=>
  simp only [M.Gf,M.Kt]at e
  split at e
  ·rename_i c;cases e;exact jbH u8 s σ H _ _ v u Q I rx ry ⟨i,j,rfl,rfl,c,q⟩
  ·cases e
 | pow=>
  simp only [M.Gf,M.K5,M.Kt]at e
  split at e
  ·rename_i c;cases e;exact zbV u8 s σ H _ _ v u Q I rx ry ⟨i,j,rfl,rfl,c,q⟩
  ·cases e
 | shl=>cases ho
 | shr=>cases ho
 | band=>cases ho
 | bor=>cases ho
 | bxor=>cases ho
theorem RelW.int (z:RelW Γ G H w v) (e:w.int? =y0 i):v= .int i:=by
 cases w with
 | v d=>
  cases d with
  | int j=>cases e;exact z
  | _=>cases e
 | _=>cases e
theorem RelW.str (z:RelW Γ G H w v) (e:w.str? =y0 i):v= .str (txS i):=by
 cases w with
 | v d=>
  cases d with
  | str j=>cases e;exact z
  | _=>cases e
 | _=>cases e
theorem RelW.tup (z:RelW Γ G H w v) (e:w.tup? =y0 xs): ∃a vs,v= .ref a/\StT Γ G H a vs/\RelDs Γ G H xs vs:=by
 cases w with
 | v d=>
  cases d with
  | tup j=>cases e;exact z
  | _=>cases e
 | _=>cases e
theorem qbO (o) (ho:jaT o=v9) (hK:X.K=Γ.K):OpR X (binaryOp (opM o)) (zcB Γ E o):=by
 intro u8 s σ H x y v u Q I rx ry ⟨G,h,w1,w2,hr,r1,r2,p⟩
 have hL:=Jj
 unfold M.GZ at p
 split at p
 ·rename_i i j e1 e2
  obtain⟨k,e,p⟩:=p.of
  cases r1.int e1
  cases r2.int e2
  exact qbz ho e I rx ry (p.v hr rfl)
 ·split at p
  · -- add
    unfold M.Pi at p
    split at p
    ·rename_i a b e1 e2
     cases r1.str e1
     cases r2.str e2
     split at p
     ·rename_i c
      exact xY u8 s σ H _ _ v u Q I rx ry ⟨_,_,rfl,rfl,by rw [Xb,Xb];omega,by rw [zl];exact p.v hr rfl⟩
     ·exact p.elim
    ·split at p
     ·rename_i xs ys e1 e2
      obtain⟨a,vs,rfl,z2,z3⟩:=r1.tup e1
      obtain⟨b,us,rfl,y2,y3⟩:=r2.tup e2
      split at p
      ·rename_i c
       have l1:=z3.length
       have l2:=y3.length
       by_cases ex:vs= []
       ·subst ex
        have:xs= []:=Ag5 l1
        subst this
        exact jaH u8 s σ H _ _ v u Q I rx ry ⟨a,b,us,rfl,rfl,hK▸z2.sq,hK▸y2.sq,p.v hr ⟨b,us,rfl,y2,y3⟩⟩
       refine qbp u8 s σ H _ _ v u Q I rx ry ⟨a,b,vs,us,rfl,rfl,hK▸z2.sq,hK▸y2.sq,ex,by omega,λe=> ?_,λe pp hp=>p.tup hr (z3.append y3) pp hp⟩
       ·subst e
        have:ys= []:=Ag5 l2
        subst this
        rw [Ae9]at p
        exact p.v hr ⟨a,vs,rfl,z2,z3⟩
      ·exact p.elim
     ·split at p
      ·rename_i xs ys e1 e2
       obtain⟨a,vs,rfl,z2,z3⟩:=r1.lst hr e1
       obtain⟨b,us,rfl,y2,y3⟩:=r2.lst hr e2
       unfold M.Pl at p
       split at p
       ·have l1:=z3.length
        have l2:=y3.length
        exact qa8 u8 s σ H _ _ v u Q I rx ry ⟨a,b,vs,us,rfl,rfl,hK▸z2,hK▸y2,by omega,λpp hp=>p.own hr (z3.append y3) pp hp⟩
       ·exact p.elim
      ·exact p.elim
  · -- mul
    unfold M.Pk at p
    split at p
    ·rename_i z j e1 e2
     cases r1.str e1
     cases r2.int e2
     split at p
     ·rename_i c
      rw [M.Gc]at c
      refine xa9 u8 s σ H _ _ v u Q I rx ry ⟨_,j,rfl,rfl,c.1,c.2.1,by rw [Xb];exact c.2.2,?_⟩
      have e:zaw (txS z) j.toNat=txS (Aa0 j.toNat z).flatten:=by
       apply xag
       rw [xC]
       rfl
      rw [e]
      exact p.v hr rfl
     ·exact p.elim
    split at p
    ·rename_i xs j e1 e2
     obtain⟨a,vs,rfl,z2,z3⟩:=r1.lstO hr e1
     cases r2.int e2
     unfold M.Pa at p
     split at p
     ·rename_i c
      have l1:=z3.length
      exact zbs u8 s σ H _ _ v u Q I rx ry ⟨a,j,vs,rfl,rfl,z2,by omega,by omega,by rw [← l1];omega,λpp hp=>p.own hr (z3.rep j.toNat) pp hp⟩
     ·exact p.elim
    ·exact p.elim
  ·exact p.elim
noncomputable def cpM:M.Cp->CmpOp
 | .eq=> .Eq | .ne=> .NotEq | .lt=> .Lt | .le=> .LtE | .gt=> .Gt | .ge=> .GtE | .mem=> .In | .nmem=> .NotIn | .isb=> .Is
noncomputable def jbk (Γ:Ge) (o:M.Cp):R2:=λx y H Q=> ∃G h w1 w2 b,HRel Γ G h H/\RelW Γ G H w1 x/\RelW Γ G H w2 y/\M.Gz o w1 w2 h=y0 b/\Q (.bl b) H
def zD:M.Cp->Bool
 | .mem=>v9
 | .nmem=>v9
 | _=>v9
theorem xaS (e:M.K7 o i j=y0 b)(I:Inv X u8 σ H s) (rx:RelV (.int i) v) (ry:RelV (.int j) u) (q:Q (.bl b) H):
 wpAny (model X.prog X.w) X.A (compareOp (cpM o) v u) (EP X u8 σ Q) X.xe s:=by
 cases o with
 | lt=>cases e;exact zck u8 s σ H _ _ v u Q I rx ry ⟨i,j,rfl,rfl,q⟩
 | le=>cases e;exact jcc u8 s σ H _ _ v u Q I rx ry ⟨i,j,rfl,rfl,q⟩
 | gt=>cases e;exact qcj u8 s σ H _ _ v u Q I rx ry ⟨i,j,rfl,rfl,q⟩
 | ge=>cases e;exact zcc u8 s σ H _ _ v u Q I rx ry ⟨i,j,rfl,rfl,q⟩
 | _=>cases e
theorem jbM (hK:X.K=Γ.K)(hr:Room k X.A):OpR X (compareOp .Eq) (jbk Γ .eq):=by
 intro u8 s σ H x y v u Q I rx ry ⟨G,h,w1,w2,b,hh,r1,r2,e,q⟩
 simp only [M.Gz]at e
 split at e
 ·rename_i c
  cases e
  have c':=by simpa [M.KH]using c
  exact(xcj 150 _ _ X.A v u (by omega) (by have:=hr.un;omega) (r1.rv I hK hh rx c'.1.1) (r2.rv I hK hh ry c'.1.2)).rc _ _ _ _ ⟨.bl _,H,I,rfl,q⟩
 ·cases e
theorem zbM (hK:X.K=Γ.K)(hr:Room k X.A):OpR X (compareOp .NotEq) (jbk Γ .ne):=by
 intro u8 s σ H x y v u Q I rx ry ⟨G,h,w1,w2,b,hh,r1,r2,e,q⟩
 simp only [M.Gz]at e
 split at e
 ·rename_i c
  cases e
  have c':=by simpa [M.KH]using c
  exact(xcj 150 _ _ X.A v u (by omega) (by have:=hr.un;omega) (r1.rv I hK hh rx c'.1.1) (r2.rv I hK hh ry c'.1.2)).ne _ _ _ _ ⟨.bl _,H,I,rfl,q⟩
 ·cases e
end
theorem PE.imp (h:PE X e t) (k: ∀σ H Q,t' σ H Q->t σ H Q):PE X e t':=λu8 s σ H Q I q=>h u8 s σ H Q I (k _ _ _ q)
theorem PT.imp (h:PT X e t) (k: ∀σ H Q,t' σ H Q->t σ H Q):PT X e t':=λu8 s σ H Q I q=>h u8 s σ H Q I (k _ _ _ q)
theorem PA.imp (h:PA X e t) (k: ∀σ H Q,t' σ H Q->t σ H Q):PA X e t':=λpos u8 s σ H Q I q=>h pos u8 s σ H Q I (k _ _ _ q)
section
variable {X:Cx}{Γ:Ge}{G:Gh}{H:Hp}{h:M.AH}{u8:List (Addr×Obj)}{σ:St}{s:Shared}{Q:VK}{E:XK}
theorem RelWs.one (z:RelWs Γ G H [w] vs): ∃v,vs= [v]/\RelW Γ G H w v:=by
 obtain⟨v,r,rfl,z1,z2⟩:=z
 cases (show r= []from z2)
 exact⟨v,rfl,z1⟩
theorem RelWs.two (z:RelWs Γ G H [w,w'] vs): ∃v v',vs= [v,v']/\RelW Γ G H w v/\RelW Γ G H w' v':=by
 obtain⟨v,r,rfl,z1,z2⟩:=z
 obtain⟨v',rfl,z3⟩:=z2.one
 exact⟨v,v',rfl,z1,z3⟩
noncomputable def rBi (Γ:Ge) (E:XK) (b:M.Bi):List V->Hp->VK->Prop:=λxs H Q=> ∃G h ws,HRel Γ G h H/\RelWs Γ G H ws xs/\PostW Γ E G H (M.biD b ws h) Q
theorem xbk {K:Aa5}(h:SqL K H a vs\/SqT K H a vs):SqL K H a vs\/SqT K H a vs:=h
noncomputable def zb6:M.Bi->Bool
 | .len=>v9 | .int=>v9 | .tuple=>v9 | .min=>v9 | .max=>v9 | .sum=>v9 | .all=>v9 | .sorted=>v9
 | _=>u9
noncomputable def biV:M.Bi->Value
 | .len=> .builtin "len" | .int=> .type "int" | .list=> .type "list" | .tuple=> .type "tuple" | .sum=> .builtin "sum" | .all=> .builtin "all" | .any=> .builtin "any"
 | .sorted=> .builtin "sorted" | .divmod=> .builtin "divmod" | .str=> .type "str" | .min=> .builtin "min" | .max=> .builtin "max" | .abs=> .builtin "abs"
theorem PostW.of2 {f:α->β->M.AH->M.R M.W}(p:PostW Γ E G H ((M.R.of h o).bind λa h=>(M.R.of h o').bind λb h=>f a b h) Q): ∃a b,o=y0 a/\o'=y0 b/\PostW Γ E G H (f a b h) Q:=by
 obtain⟨a,e,p⟩:=p.of
 obtain⟨b,e',p⟩:=p.of
 exact⟨a,b,e,e',p⟩
theorem w9 : ∀ {xs}{vs}{bs},M.KR xs=y0 bs->RelDs Γ G H xs vs->vs=bs.map V.bl
 | [],_,_,e,z=>by cases e;exact z
 | x::xs,_,bs,e,⟨v,r,z1,z2,z3⟩=>by
  subst z1
  cases x with
  | bl b=>
   obtain⟨cs,e1,rfl⟩:=Ad0.mp (e)
   cases (z2)
   rw [w9 e1 z3];rfl
  | _=>cases e
theorem zad : ∀ {xs}{vs}{n},M.K4 xs=y0 n->RelDs Γ G H xs vs-> ∃ns:List Int,vs=ns.map V.int/\n=zar ns
 | [],_,_,e,z=>by cases e;exact⟨[],z,rfl⟩
 | x::xs,_,n,e,⟨v,r,z1,z2,z3⟩=>by
  subst z1
  cases x with
  | int i=>
   have e:=e
   obtain⟨k,e1,rfl⟩:=Ad0.mp e
   obtain⟨ns,h1,h2⟩:=zad e1 z3
   cases (z2)
   exact⟨i::ns,by rw [h1];rfl,by rw [h2];rfl⟩
  | _=>cases e
theorem Zn : ∀ {xs}{vs}{ns},M.KA xs=y0 ns->RelDs Γ G H xs vs->vs=ns.map V.int
 | [],_,_,e,z=>by cases e;exact z
 | x::xs,_,ns,e,⟨v,r,z1,z2,z3⟩=>by
  subst z1
  cases x with
  | int b=>
   obtain⟨cs,e1,rfl⟩:=Ad0.mp (e)
   cases (z2)
   rw [Zn e1 z3];rfl
  | _=>cases e
theorem Qw : ∀ {xs}{vs}{ns},M.Kv xs=y0 ns->RelDs Γ G H xs vs->vs=(ns.map txS).map V.str
 | [],_,_,e,z=>by cases e;exact z
 | x::xs,_,ns,e,⟨v,r,z1,z2,z3⟩=>by
  subst z1
  cases x with
  | str b=>
   obtain⟨cs,e1,rfl⟩:=Ad0.mp (e)
   cases (show v= .str (txS b)from z2)
   rw [Qw e1 z3];rfl
  | _=>cases e
theorem zT : ∀(ts:List M.Tx),RelDs Γ G H (ts.map .str) ((ts.map txS).map V.str)
 | []=>rfl
 | t::ts=>⟨_,_,rfl,rfl,zT ts⟩
theorem qaW (x): ∀ {ys},ys.Pairwise (λa b=> ¬b<a)->(M.KI x ys).Pairwise (λa b=> ¬b<a)
 | [],_=>List.pairwise_singleton _ _
 | y::ys,h=>by
  have h':=Ah4.mp h
  unfold M.KI
  split
  ·rename_i q
   refine Ah4.mpr ⟨λz hz=> ?_,qaW x h'.2⟩
   have:z=x\/z∈ys:=by
    have hp: ∀ {x}{ys},z∈M.KI x ys->z=x\/z∈ys:=by
     intro x ys
     induction ys with
     | nil=>intro h;simp [M.KI]at h;exact .inl h
     | cons y ys ih=>
      intro h
      unfold M.KI at h
      split at h
      ·rcases Aa.mp h with h | h
       ·exact .inr (h▸Aa8)
       ·exact(ih h).imp id (Aa7 _)
      ·rcases Aa.mp h with h | h
       ·exact .inl h
       ·exact .inr h
    exact hp hz
   rcases this with rfl | hz
   ·exact λc=>List.lt_irrefl _ (List.lt_trans c q)
   ·exact h'.1 z hz
  ·rename_i q
   refine Ah4.mpr ⟨λz hz=> ?_,h⟩
   rcases Aa.mp hz with rfl | hz
   ·exact q
   ·exact List.le_trans q (h'.1 z hz)
theorem Q4: ∀xs:List M.Tx,(M.GY xs).Pairwise (λa b=> ¬b<a)
 | []=> .nil
 | x::xs=>qaW x (Q4 xs)
theorem wn (x): ∀ys:List M.Tx,(M.KI x ys).Perm (x::ys)
 | []=> .refl _
 | y::ys=>by
  unfold M.KI
  by_cases q:y<x
  ·rw [if_pos q]
   exact((wn x ys).cons y).trans (.swap x y ys)
  ·rw [if_neg q]
theorem Zf: ∀xs:List M.Tx,(M.GY xs).Perm xs
 | []=> .refl _
 | x::xs=>(wn x (M.GY xs)).trans ((Zf xs).cons x)
theorem ja2: ∀ {l}{p},risingS p l=v9->(p::l).Pairwise (λa b=> ¬b.cps.toList<a.cps.toList)
 | [],p,_=>List.pairwise_singleton _ _
 | x::r,p,h=>by
  have h:(!ltCps x.cps.toList p.cps.toList&&risingS x r)=true:=h
  rw [Ab4,ltCps_eq]at h
  have h1:=by simpa using h.1
  have h2:=ja2 h.2
  refine Ah4.mpr ⟨λz hz=> ?_,h2⟩
  rcases Aa.mp hz with rfl | hz
  ·exact h1
  ·exact List.le_trans h1 ((Ah4.mp h2).1 z hz)
theorem jbj (s):txS s.cps.toList=s:=by cases s;simp [txS]
theorem zac (hp:ss.Perm (ts.map txS)) (hs:sortedS ss=v9):ss=(M.GY ts).map txS:=by
 have h1:=by
  have:=hp.map (λs=>s.cps.toList)
  rw [Ak5]at this
  have e:((λs:Str=>s.cps.toList)∘txS)=id:=by funext t;simp [txS]
  rw [e,List.map_id]at this
  exact this
 have h2:(ss.map λs=>s.cps.toList).Pairwise (λa b=> ¬b<a):=by
  rw [Al7]
  cases ss with
  | nil=>exact .nil
  | cons p l=>exact ja2 hs
 have h3:=List.Perm.eq_of_pairwise (λa b _ _ x y=>List.le_antisymm x y) h2 (Q4 ts) (h1.trans (Zf ts).symm)
 rw [← h3,Ak5]
 have e:(txS∘λs:Str=>s.cps.toList)=id:=by funext t;exact jbj t
 rw [e,List.map_id]
theorem qax (ns): ∀n:Int,Ws (λa b=>k8 (a>b)) ns n=ns.foldl (λa b=>if b>a then b else a) n:=by
 induction ns with
 | nil=>intro n;rfl
 | cons m ns ih=>
  intro n
  show Ws _ ns _=_
  rw [ih,Ae8]
  simp only [decide_eq_true_eq]
theorem xaz (ns): ∀n:Int,Ws (λa b=>k8 (a<b)) ns n=ns.foldl (λa b=>if b<a then b else a) n:=by
 induction ns with
 | nil=>intro n;rfl
 | cons m ns ih=>
  intro n
  show Ws _ ns _=_
  rw [ih,Ae8]
  simp only [decide_eq_true_eq]
theorem jbd (b) (hb:zb6 b=v9) (hK:X.K=Γ.K) (hc:X.calm=v9):xn X (biV b) (rBi Γ E b):=by
 intro u8 s σ H xs us Q I r ⟨G,h,ws,hr,rw',p⟩
 have hL:=Jj
 unfold M.biD at p
 split at p
 ·rename_i w
  obtain⟨v,rfl,z⟩:=rw'.one
  cases b with
  | len=>
   simp only [M.bi1]at p
   split at p
   ·rename_i y e
    cases z.str e
    split at p
    ·exact qM u8 s σ H _ us Q I r ⟨_,rfl,by rw [Xb];omega,by rw [Xb];exact p.v hr rfl⟩
    ·exact p.elim
   ·obtain⟨ys,e,p⟩:=p.of
    obtain⟨a,vs,rfl,z2,z3⟩:=z.seq hr e
    refine wI u8 s σ H _ us Q I r ⟨a,vs,rfl,hK▸xbk z2,?_⟩
    rw [← z3.length]
    exact p.v hr rfl
  | int=>
   simp only [M.bi1]at p
   split at p
   ·cases (z)
    exact jN u8 s σ H _ us Q I r (.inl ⟨_,rfl,p.v hr rfl⟩)
   ·rename_i k
    cases (z)
    refine jN u8 s σ H _ us Q I r (.inr ⟨_,rfl,?_⟩)
    have:=p.v hr rfl
    cases k<;>exact this
   ·exact p.elim
  | list=>cases hb
  | tuple=>
   obtain⟨ys,e,p2⟩:=p.of
   clear p
   cases w with
   | v d=>
    cases d with
    | tup zs=>
     cases e
     obtain⟨a,vs,rfl,z2,z3⟩:=z
     exact Xf u8 s σ H _ us Q I r ⟨a,vs,rfl,.inr ⟨hK▸z2.sq,p2.v hr ⟨a,vs,rfl,z2,z3⟩⟩⟩
    | lst zs=>
     obtain⟨a,vs,rfl,z2,z3⟩:=RelW.lst hr z e
     exact Xf u8 s σ H _ us Q I r ⟨a,vs,rfl,.inl ⟨hK▸z2,λl hl=>p2.tup hr z3 l hl⟩⟩
    | ref q=>
     obtain⟨a,vs,rfl,z2,z3⟩:=RelW.lst hr z e
     exact Xf u8 s σ H _ us Q I r ⟨a,vs,rfl,.inl ⟨hK▸z2,λl hl=>p2.tup hr z3 l hl⟩⟩
    | non=>cases e
    | bl _=>cases e
    | int _=>cases e
    | str _=>cases e
    | exc _ _=>cases e
   | own zs=>
    obtain⟨a,vs,rfl,z2,z3⟩:=RelW.lst hr z e
    exact Xf u8 s σ H _ us Q I r ⟨a,vs,rfl,.inl ⟨hK▸z2,λl hl=>p2.tup hr z3 l hl⟩⟩
   | bor zs=>
    obtain⟨a,vs,rfl,z2,z3⟩:=RelW.lst hr z e
    exact Xf u8 s σ H _ us Q I r ⟨a,vs,rfl,.inl ⟨hK▸z2,λl hl=>p2.tup hr z3 l hl⟩⟩
  | divmod=>cases hb
  | min=>
   obtain⟨n,e,p⟩:=p.of
   obtain⟨is,e1,e2⟩:=Ac3.mp e
   obtain⟨ys,e3,e4⟩:=Ac3.mp e1
   obtain⟨a,vs,rfl,z2,z3⟩:=RelW.lst hr z e3
   cases Zn e4 z3
   cases is with
   | nil=>cases e2
   | cons i is=>
    cases e2
    refine X4 hc u8 s σ H _ us Q I r ⟨a,i,is,rfl,hK▸z2,?_⟩
    rw [xaz]
    exact p.v hr rfl
  | max=>
   obtain⟨n,e,p⟩:=p.of
   obtain⟨is,e1,e2⟩:=Ac3.mp e
   obtain⟨ys,e3,e4⟩:=Ac3.mp e1
   obtain⟨a,vs,rfl,z2,z3⟩:=RelW.lst hr z e3
   cases Zn e4 z3
   cases is with
   | nil=>cases e2
   | cons i is=>
    cases e2
    refine qap hc u8 s σ H _ us Q I r ⟨a,i,is,rfl,hK▸z2,?_⟩
    rw [qax]
    exact p.v hr rfl
  | sum=>
   simp only [M.bi1]at p
   obtain⟨n,e,p⟩:=p.of
   obtain⟨ys,e1,e2⟩:=Ac3.mp e
   split at e2
   rotate_left
   ·cases e2
   obtain⟨a,vs,rfl,z2,z3⟩:=RelW.lst hr z e1
   obtain⟨ns,rfl,rfl⟩:=zad e2 z3
   exact w5 hc u8 s σ H _ us Q I r ⟨a,ns,rfl,hK▸z2,p.v hr rfl⟩
  | all=>
   simp only [M.bi1]at p
   obtain⟨bs,e,p⟩:=p.of
   obtain⟨ys,e1,e2⟩:=Ac3.mp e
   obtain⟨a,vs,rfl,z2,z3⟩:=RelW.lst hr z e1
   cases w9 e2 z3
   exact X8 hc u8 s σ H _ us Q I r ⟨a,bs,rfl,hK▸z2,p.v hr rfl⟩
  | any=>cases hb
  | sorted=>
   simp only [M.bi1]at p
   obtain⟨ts,e,p⟩:=p.of
   obtain⟨ys,e1,e2⟩:=Ac3.mp e
   obtain⟨a,vs,rfl,z2,z3⟩:=RelW.lst hr z e1
   cases Qw e2 z3
   split at p
   ·rename_i hl
    refine wK u8 s σ H _ us Q I r ⟨a,ts.map txS,rfl,hK▸z2,by rw [Ac4];exact hl,λss' hp hs l hl=> ?_⟩
    rw [zac hp hs]
    exact p.own hr (zT _) l hl
   ·exact p.elim
  | str=>cases hb
  | abs=>cases hb
 ·rename_i w w'
  obtain⟨v,v',rfl,z,z'⟩:=rw'.two
  obtain⟨i,j,e,e',p⟩:=p.of2
  cases z.int e
  cases z'.int e'
  cases b with
  | divmod=>cases hb
  | min=>exact xaf hc u8 s σ H _ us Q I r ⟨i,j,rfl,p.v hr rfl⟩
  | max=>exact qaj hc u8 s σ H _ us Q I r ⟨i,j,rfl,p.v hr rfl⟩
  | len=>exact p.elim
  | int=>exact p.elim
  | list=>cases hb
  | tuple=>exact p.elim
  | sum=>exact p.elim
  | all=>exact p.elim
  | any=>cases hb
  | sorted=>exact p.elim
  | str=>cases hb
  | abs=>cases hb
 ·exact p.elim
noncomputable def tyS:M.Ty->String
 | .non=> "NoneType" | .bool=> "bool" | .int=> "int" | .str=> "str" | .list=> "list" | .tuple=> "tuple"
theorem Jr (K): ∀ u t,t≠ .non->PySem.W.kitOne K (.type (tyS u)) (.type (tyS t))=y0 (M.Ty.le u t):=by
 intro u t ht
 cases u<;>cases t<;>first | exact absurd rfl ht | kernel_rfl
noncomputable def qcy (Γ:Ge):List V->Hp->VK->Prop:=λxs H Q=> ∃G h w x t b,xs= [x,.ty (tyS t)]/\t≠ .non/\HRel Γ G h H/\RelW Γ G H w x/\M.isT t w=y0 b/\Q (.bl b) H
theorem xaM (hK:X.K=Γ.K):xn X (.builtin "isinstance") (qcy Γ):=by
 intro u8 s σ H xs us Q I r ⟨G,h,w,x,t,b,hx,ht,hr,z,e,q⟩
 subst hx
 obtain⟨u,w',rfl,rx,ry⟩:=zaF r
 cases ry
 have fin: ∀tk,EP X u8 σ Q (.bool b) { s with toks:=tk }:=λtk=>⟨.bl b,H,I.tok tk,rfl,q⟩
 have lst: ∀ {a}{vs},x= .ref a->Rd H a (.lst vs)->M.Ty.le .list t=b->wpAny (model X.prog X.w) X.A (call (.builtin "isinstance") [u,.type (tyS t)]) (EP X u8 σ Q) X.xe s:=by
  intro a vs ex rd eb
  subst ex eb
  rcases rd with rd | ⟨o,rd⟩
  ·exact Xi I rx (.lst rd) (Jr _ .list t ht) fin
  ·exact Xi I rx (.frz rd) (Jr _ .list t ht) fin
 cases w with
 | v d=>
  cases d with
  | non=>cases e;cases (z);exact Xi I rx .non (Jr _ .non t ht) fin
  | bl c=>cases e;cases (z);exact Xi I rx (.bl c) (Jr _ .bool t ht) fin
  | int i=>cases e;cases (z);exact Xi I rx (.int i) (Jr _ .int t ht) fin
  | str y=>cases e;cases (z);exact Xi I rx (.str _) (Jr _ .str t ht) fin
  | tup ys=>
   cases e
   obtain⟨a,vs,rfl,z2,z3⟩:=z
   rcases z2 with⟨_,z2⟩ | ⟨o,its,n,k1,k2,k3,_⟩
   ·exact Xi I rx (.tup z2) (Jr _ .tuple t ht) fin
   ·cases rx
    exact Ae0 PySem.W.kitx_tuple I.kIn ⟨o,I.kIn a o (hK▸k1),k2⟩ (Jr _ .tuple t ht) (λz=>nomatch z) fin
  | lst ys=>
   cases e
   obtain⟨a,vs,z1,z2,z3⟩:=z
   rcases z2 with z2 | ⟨o,its,n,k1,k2,k3,_⟩
   ·exact lst z1 z2.2 rfl
   ·subst z1
    cases rx
    exact Ae0 Al1 I.kIn ⟨o,I.kIn a o (hK▸k1),k2⟩ (Jr _ .list t ht) (λz=>nomatch z) fin
  | ref q'=>cases e
  | exc c fs=>cases e
 | own ys=>cases e;obtain⟨a,vs,z1,_,_,z2,_⟩:=z;exact lst z1 (.inl z2) rfl
 | bor ys=>cases e;obtain⟨a,vs,z1,_,z2,_⟩:=z;exact lst z1 z2 rfl
theorem zS (hK:X.K=Γ.K) (hr:HRel Γ G h H)(z:RelW Γ G H w x) (e:M.KB h w=y0 b):xbl X.K x H b:=by
 have lst: ∀ {a}{vs}{ys},x= .ref a->SqL X.K H a vs->RelDs Γ G H ys vs->(!ys.isEmpty)=b->xbl X.K x H b:=by
  intro a vs ys ex rd rs eb
  subst ex eb
  refine .inl ⟨vs,rd,?_⟩
  cases ys with
  | nil=>cases (show vs= []from rs);rfl
  | cons _ _=>obtain⟨_,_,rfl,_⟩:=rs;rfl
 cases w with
 | v d=>
  cases d with
  | non=>cases e;cases (z);exact rfl
  | bl _=>cases e;cases (z);exact rfl
  | int _=>cases e;cases (z);exact rfl
  | str y=>
   cases (z)
   have e:(if y.length<=M.LIM then y0 (!y.isEmpty)else k9)=y0 b:=e
   split at e
   ·rename_i c
    cases e
    refine⟨by rw [Xb];have:=Jj;omega,?_⟩
    rw [Xb]
    cases y with
    | nil=>rfl
    | cons a r=>
     have:((((a::r).length:Nat):Int) != 0)=true:=by
      rw [Aa4,bne_iff_ne];omega
     rw [this];rfl
   ·cases e
  | tup ys=>
   cases e
   obtain⟨a,vs,rfl,z2,rs⟩:=z
   refine .inr (.inl ⟨vs,hK▸z2.sq,?_⟩)
   cases ys with
   | nil=>cases (show vs= []from rs);rfl
   | cons _ _=>obtain⟨_,_,rfl,_⟩:=rs;rfl
  | lst ys=>cases e;obtain⟨a,vs,z1,z2,z3⟩:=z;exact lst z1 (hK▸z2.sq) z3 rfl
  | ref q'=>cases e
  | exc c fs=>cases e
 | own ys=>cases e;obtain⟨a,vs,z1,_,_,z2,z3⟩:=z;exact lst z1 (SqL.of z2) z3 rfl
 | bor ys=>cases e;obtain⟨a,vs,z1,_,z2,z3⟩:=z;exact lst z1 (.inl z2) z3 rfl
end
abbrev Ze (x:String):Str:=Str.ofString x
example:("len" :Str)=Ze "len" :=rfl
structure ObT where
 fl:List (String×String)
 mt:List (String×String×String)
 mks:List (String×String)
 ms:List String
structure Cf where
 sc:Scope
 N:List Str
 fns:List String
 own:List String
 rai:List String
 hnd:List String
 ob:ObT
noncomputable def XN (sc:Scope) (x:Str):Bool:=match sc.names.lookup x with
 | some .local=>v9
 | some .cell=>v9
 | some .free=>v9
 | _=>u9
def glB (sc:Scope) (x:Str):Bool:=match sc.names.lookup x with
 | some .globalImplicit=>v9
 | _=>u9
def jby (sc:Scope) (x:Str):Bool:=match sc.names.lookup x with
 | some .local=>v9
 | some .cell=>v9
 | _=>u9
def nmB (x:Str):Bool:= !(x==("__debug__" :Str))&& !(x==("__classdict__" :Str))
noncomputable def biS:M.Bi->String
 | .len=> "len" | .int=> "int" | .list=> "list" | .tuple=> "tuple" | .sum=> "sum" | .all=> "all" | .any=> "any" | .sorted=> "sorted" | .divmod=> "divmod" | .str=> "str" | .min=> "min" | .max=> "max" | .abs=> "abs"
noncomputable def bltN:List String:= ["len", "int", "list", "tuple", "sum", "all", "any", "sorted", "divmod", "str", "min", "max", "abs", "isinstance", "bool", "range", "reversed", "zip", "enumerate", "set", "ValueError"]
def JZ:Expr->Str->Bool
 | .Name y _,x=>y==x
 | _,_=>u9
def gNm (sc:Scope) (x:String) (e:Expr):Bool:=JZ e (Ze x)&&glB sc (Ze x)&&nmB (Ze x)
noncomputable def mtS:M.Mt->String
 | .index=> "index" | .join=> "join" | .count=> "count" | .indexI=> "index" | .starts=> "startswith"
def xco:M.Mt->Bool
 | .index=>v9 | .join=>v9 | .count=>v9 | .indexI=>v9 | .starts=>v9
def xbA:Expr->Bool
 | .Call .. =>u9
 | _=>v9
def qb6:Expr->Bool
 | .UnaryOp .USub (.Constant (.int 1) _ _) _=>v9
 | _=>u9
noncomputable def xr (cf:Cf):List Nat->List Expr->Bool
 | [],[]=>v9
 | i::is,.Name x _::es=>k8 (cf.N[i]? =y0 x)&&jby cf.sc x&&xr cf is es
 | _,_=>u9
noncomputable def Xe (cf:Cf) (tg:List Nat) (one:Bool) (e:Expr):Bool:=match one,e with
 | true,.Name x p=>(match tg with | [_]=>v9 | _=>u9)&&xr cf tg [.Name x p]
 | false,.Tuple es _ _=>xr cf tg es
 | _,_=>u9
def Qa:Expr->Bool
 | .Starred .. =>u9
 | _=>v9
def We:Expr->Bool
 | .Slice .. =>u9
 | _=>v9
def wg:Expr->Bool
 | .Set .. =>u9
 | _=>v9
noncomputable def zC (cf:Cf):List Nat->List Str->Bool
 | [],[]=>v9
 | j::js,x::xs=>k8 (cf.N[j]? =y0 x)&&k8 (cf.sc.names.lookup x=y0 .cell\/cf.sc.names.lookup x=y0 .free)&&zC cf js xs
 | _,_=>u9
noncomputable def qO (cf:Cf) (scope:Scope) (N:List Str) (k:Nat) (cap:List Nat):Bool:=
 k8 (scope.kind= .function)&&k8 (scope.names.map Prod.fst).Nodup&&scope.names.all (λy=>k8 (y.2= .local->scope.names.lookup y.1=y0 .local))&&
 scope.names.all (λy=>k8 (y.2= .free->cf.sc.names.lookup y.1=y0 .cell\/cf.sc.names.lookup y.1=y0 .free))&&(N.drop k).all (λx=>k8 (scope.names.lookup x=y0 .free))&&
 zC cf cap (N.drop k)&&k8 (k<=N.length)&&decide N.Nodup&&decide cap.Nodup
def jbp:Expr->List Str
 | .Name x _=> [x]
 | .Tuple es _ _=>es.filterMap λ| .Name x _=>y0 x | _=>k9
 | _=> []
def Wp (cf:Cf) (t:Expr) (cap:List Nat):List Str:=jbp t++cap.filterMap λj=>cf.N[j]?
def tOk:M.E->Bool
 | .share _=>u9
 | .not a=>tOk a
 | .and a b=>tOk a&&tOk b
 | .or a b=>tOk a&&tOk b
 | _=>v9
theorem bad {P:Prop}(h:u9=v9):P:=nomatch h
set_option backward.match.sparseCases false
def lC {α:Type}(l:List α) (f:α->List α->Bool):Bool:=match l with
 | x::r=>f x r
 | _=>u9
def oS {α:Type}(l:Option α) (f:α->Bool):Bool:=match l with
 | some x=>f x
 | _=>u9
@[elab_as_elim] theorem kC {P:List α->Prop}(k: ∀x r,f x r=v9->P (x::r)): ∀l,lC l f=v9->P l:=by rintro (_|_)<;>first | exact bad | exact k _ _
@[elab_as_elim] theorem kS {P:Option α->Prop}(k: ∀x,f x=v9->P (y0 x)): ∀l,oS l f=v9->P l:=by rintro (_|_)<;>first | exact bad | exact k _
def qz (e:Expr) (f:Str->Bool):Bool:=match e with
 | .Name x _=>f x
 | _=>u9
@[elab_as_elim] theorem Qx {P:Expr->Prop}(k: ∀x p,f x=v9->P (.Name x p)): ∀e,qz e f=v9->P e:=by rintro (_|_)<;>first | exact bad | exact k _ _
def Xu (e:Expr) (f:Const->Bool):Bool:=match e with
 | .Constant x _ _=>f x
 | _=>u9
@[elab_as_elim] theorem jv {P:Expr->Prop}(k: ∀x n p,f x=v9->P (.Constant x n p)): ∀e,Xu e f=v9->P e:=by rintro (_|_)<;>first | exact bad | exact k _ _ _
def xcp (e:Expr) (f:List Expr->Bool):Bool:=match e with
 | .Tuple x _ _=>f x
 | _=>u9
@[elab_as_elim] theorem qcv {P:Expr->Prop}(k: ∀x n p,f x=v9->P (.Tuple x n p)): ∀e,xcp e f=v9->P e:=by rintro (_|_)<;>first | exact bad | exact k _ _ _
def jco (e:Expr) (f:List Expr->Bool):Bool:=match e with
 | .List x _=>f x
 | _=>u9
@[elab_as_elim] theorem zcD {P:Expr->Prop}(k: ∀x p,f x=v9->P (.List x p)): ∀e,jco e f=v9->P e:=by rintro (_|_)<;>first | exact bad | exact k _ _
def jct (e:Expr) (f:Expr->Operator->Expr->Bool):Bool:=match e with
 | .BinOp x o y _=>f x o y
 | _=>u9
@[elab_as_elim] theorem jcy {P:Expr->Prop}(k: ∀x o y p,f x o y=v9->P (.BinOp x o y p)): ∀e,jct e f=v9->P e:=by rintro (_|_)<;>first | exact bad | exact k _ _ _ _
def xcc (e:Expr) (f:Expr->List CmpOp->List Expr->Bool):Bool:=match e with
 | .Compare x o y _=>f x o y
 | _=>u9
@[elab_as_elim] theorem jcs {P:Expr->Prop}(k: ∀x o y p,f x o y=v9->P (.Compare x o y p)): ∀e,xcc e f=v9->P e:=by rintro (_|_)<;>first | exact bad | exact k _ _ _ _
def vUn (e:Expr) (f:UnaryOp->Expr->Bool):Bool:=match e with
 | .UnaryOp o x _=>f o x
 | _=>u9
@[elab_as_elim] theorem kUn {P:Expr->Prop}(k: ∀o x p,f o x=v9->P (.UnaryOp o x p)): ∀e,vUn e f=v9->P e:=by rintro (_|_)<;>first | exact bad | exact k _ _ _
def xbm (e:Expr) (f:BoolOp->List Expr->Pos->Bool):Bool:=match e with
 | .BoolOp o x p=>f o x p
 | _=>u9
@[elab_as_elim] theorem jbF {P:Expr->Prop}(k: ∀o x p,f o x p=v9->P (.BoolOp o x p)): ∀e,xbm e f=v9->P e:=by rintro (_|_)<;>first | exact bad | exact k _ _ _
def Wn (e:Expr) (f:Expr->List Expr->List Keyword->Pos->Bool):Bool:=match e with
 | .Call g x l p=>f g x l p
 | _=>u9
@[elab_as_elim] theorem Zk {P:Expr->Prop}(k: ∀g x l p,f g x l p=v9->P (.Call g x l p)): ∀e,Wn e f=v9->P e:=by rintro (_|_)<;>first | exact bad | exact k _ _ _ _
def jav (e:Expr) (f:Expr->Expr->Bool):Bool:=match e with
 | .Subscript x y _=>f x y
 | _=>u9
@[elab_as_elim] theorem zaE {P:Expr->Prop}(k: ∀x y p,f x y=v9->P (.Subscript x y p)): ∀e,jav e f=v9->P e:=by rintro (_|_)<;>first | exact bad | exact k _ _ _
def vSl (e:Expr) (f:Option Expr->Option Expr->Option Expr->Bool):Bool:=match e with
 | .Slice x y z _=>f x y z
 | _=>u9
@[elab_as_elim] theorem kSl {P:Expr->Prop}(k: ∀x y z p,f x y z=v9->P (.Slice x y z p)): ∀e,vSl e f=v9->P e:=by rintro (_|_)<;>first | exact bad | exact k _ _ _ _
def qbP (e:Expr) (f:Expr->List Comprehension->Scope->Bool):Bool:=match e with
 | .ListComp y g s _=>f y g s
 | _=>u9
@[elab_as_elim] theorem zbU {P:Expr->Prop}(k: ∀y g s p,f y g s=v9->P (.ListComp y g s p)): ∀e,qbP e f=v9->P e:=by rintro (_|_)<;>first | exact bad | exact k _ _ _ _
def jO (e:Expr) (f:Expr->Str->Pos->Bool):Bool:=match e with
 | .Attribute x n p=>f x n p
 | _=>u9
@[elab_as_elim] theorem XV {P:Expr->Prop}(k: ∀x n p,f x n p=v9->P (.Attribute x n p)): ∀e,jO e f=v9->P e:=by rintro (_|_)<;>first | exact bad | exact k _ _ _
def zbK (e:Expr) (f:List Expr->Bool):Bool:=match e with
 | .JoinedStr x _=>f x
 | _=>u9
@[elab_as_elim] theorem jb8 {P:Expr->Prop}(k: ∀x p,f x=v9->P (.JoinedStr x p)): ∀e,zbK e f=v9->P e:=by rintro (_|_)<;>first | exact bad | exact k _ _
def qcq (e:Expr) (f:Expr->Int->Option Expr->Bool):Bool:=match e with
 | .FormattedValue x c z _=>f x c z
 | _=>u9
@[elab_as_elim] theorem qcB {P:Expr->Prop}(k: ∀x c z p,f x c z=v9->P (.FormattedValue x c z p)): ∀e,qcq e f=v9->P e:=by rintro (_|_)<;>first | exact bad | exact k _ _ _ _
def jb4 (e:Expr) (f:List (Option Expr)->List Expr->Bool):Bool:=match e with
 | .Dict x y _=>f x y
 | _=>u9
@[elab_as_elim] theorem qcg {P:Expr->Prop}(k: ∀x y p,f x y=v9->P (.Dict x y p)): ∀e,jb4 e f=v9->P e:=by rintro (_|_)<;>first | exact bad | exact k _ _ _
def zbD (e:Stmt) (f:List Expr->Expr->Bool):Bool:=match e with
 | .Assign t v _=>f t v
 | _=>u9
@[elab_as_elim] theorem zbJ {P:Stmt->Prop}(k: ∀t v p,f t v=v9->P (.Assign t v p)): ∀e,zbD e f=v9->P e:=by rintro (_|_)<;>first | exact bad | exact k _ _ _
def vEx (e:Stmt) (f:Expr->Bool):Bool:=match e with
 | .Expr v _=>f v
 | _=>u9
@[elab_as_elim] theorem kEx {P:Stmt->Prop}(k: ∀v p,f v=v9->P (.Expr v p)): ∀e,vEx e f=v9->P e:=by rintro (_|_)<;>first | exact bad | exact k _ _
def qcu (e:Stmt) (f:Option Expr->Bool):Bool:=match e with
 | .Return v _=>f v
 | _=>u9
@[elab_as_elim] theorem xcA {P:Stmt->Prop}(k: ∀v p,f v=v9->P (.Return v p)): ∀e,qcu e f=v9->P e:=by rintro (_|_)<;>first | exact bad | exact k _ _
def xct (e:Stmt) (f:Expr->List Stmt->List Stmt->Bool):Bool:=match e with
 | .If x y z _=>f x y z
 | _=>u9
@[elab_as_elim] theorem xcu {P:Stmt->Prop}(k: ∀x y z p,f x y z=v9->P (.If x y z p)): ∀e,xct e f=v9->P e:=by rintro (_|_)<;>first | exact bad | exact k _ _ _ _
def qcr (e:Stmt) (f:Expr->List Stmt->List Stmt->Bool):Bool:=match e with
 | .While x y z _=>f x y z
 | _=>u9
@[elab_as_elim] theorem zcz {P:Stmt->Prop}(k: ∀x y z p,f x y z=v9->P (.While x y z p)): ∀e,qcr e f=v9->P e:=by rintro (_|_)<;>first | exact bad | exact k _ _ _ _
def xcq (e:Stmt) (f:Expr->Expr->List Stmt->List Stmt->Bool):Bool:=match e with
 | .For t i y z _=>f t i y z
 | _=>u9
@[elab_as_elim] theorem xcF {P:Stmt->Prop}(k: ∀t i y z p,f t i y z=v9->P (.For t i y z p)): ∀e,xcq e f=v9->P e:=by rintro (_|_)<;>first | exact bad | exact k _ _ _ _ _
set_option backward.match.sparseCases true
def vB (cf:Cf) (i:Nat) (x:Str):Bool:=k8 (cf.N[i]? =y0 x)&&XN cf.sc x&&nmB x
def kZ {α:Type}(l:List α) (b:Bool):Bool:=l.isEmpty&&b
noncomputable def jag (cf:Cf):List (M.Tx ⊕ Nat)->List Expr->Bool
 | [],l=>l.isEmpty
 | .inl t::ps,l=>lC l λe es=>Xu e λc=>k8 (c= .str (txS t))&&jag cf ps es
 | .inr i::ps,l=>lC l λe es=>qcq e λx c z=>k8 (c= -1)&&z.isNone&&qz x (vB cf i)&&jag cf ps es
noncomputable def WR:List (M.Tx×M.Tx)->List (Option Expr)->List Expr->Bool
 | [],l,r=>l.isEmpty&&r.isEmpty
 | (x,y)::T,l,r=>lC l λe ks=>lC r λe' vs=>oS e λe=>Xu e λc=>Xu e' λd=>k8 (c= .str (txS x))&&k8 (d= .str (txS y))&&WR T ks vs
mutual
noncomputable def Zc (cf:Cf):M.E->Expr->Bool
 | .var i,e=>qz e (vB cf i)
 | .con c,e=>gNm cf.sc c e
 | .int i,e=>Xu e λj=>k8 (j= .int i)
 | .bl i,e=>Xu e λj=>k8 (j= .bool i)
 | .str i,e=>Xu e λj=>k8 (j= .str (txS i))
 | .tup es,e=>xcp e λxs=>k8 (xs.length<=1000)&&chkEs cf es xs
 | .lst es,e=>jco e λxs=>k8 (xs.length<=1000)&&chkEs cf es xs
 | .bin o a b,e=>jct e λx p y=>k8 (p=opM o)&&jaT o&&Zc cf a x&&Zc cf b y
 | .cmp o a b,e=>xcc e λx p y=>lC y λy r=>k8 (p= [cpM o]/\r= [])&&zD o&&wg y&&Zc cf a x&&Zc cf b y
 | .chain o q a b c,e=>xcc e λx p y=>lC y λy r=>lC r λz r=>k8 (p= [cpM o,cpM q]/\r= [])&&zD o&&zD q&&wg z&&Zc cf a x&&Zc cf b y&&Zc cf c z
 | .neg a,e=>vUn e λo x=>k8 (o= .USub)&&Zc cf a x
 | .not a,e=>vUn e λo x=>k8 (o= .Not)&&Zc cf a x
 | .and a b,e=>xbm e λo x p=>lC x λx r=>lC r λy r=>k8 (o= .And)&&Zc cf a x&&bif r.isEmpty then Zc cf b y else Zc cf b (.BoolOp .And (y::r) p)
 | .or a b,e=>xbm e λo x p=>lC x λx r=>lC r λy r=>k8 (o= .Or)&&Zc cf a x&&bif r.isEmpty then Zc cf b y else Zc cf b (.BoolOp .Or (y::r) p)
 | .call f es,e=>Wn e λg xs l _=>kZ l (gNm cf.sc f g&&cf.fns.contains f&&chkEs cf es xs)
 | .bi b es,e=>Wn e λg xs l _=>kZ l (lC xs λx r=>gNm cf.sc (biS b) g&&zb6 b&&chkEs cf es (x::r))
 | .isT a t,e=>Wn e λg xs l _=>kZ l (lC xs λx r=>lC r λy r=>kZ r (gNm cf.sc "isinstance" g&&gNm cf.sc (tyS t) y&&decide (t≠ .non)&&Qa x&&Zc cf a x))
 | .ix a b,e=>jav e λx y=>We y&&Zc cf a x&&Zc cf b y
 | .sl a lo hi,e=>jav e λx y=>vSl y λl u z=>oS l λl=>oS u λu=>z.isNone&&Zc cf a x&&Zc cf lo l&&Zc cf hi u
 | .slL a lo,e=>jav e λx y=>vSl y λl u z=>oS l λl=>u.isNone&&z.isNone&&Zc cf a x&&Zc cf lo l
 | .slH a hi,e=>jav e λx y=>vSl y λl u z=>oS u λu=>l.isNone&&z.isNone&&Zc cf a x&&Zc cf hi u
 | .rev a,e=>jav e λx y=>vSl y λl u z=>oS z λz=>l.isNone&&u.isNone&&qb6 z&&Zc cf a x
 | .comp tg one k cap it u6 c elt,e=>qbP e λy g scope=>lC g λg r=>
  k8 (g.is_async=0/\r= [])&&qO cf scope (Wp cf g.target cap) k cap&&tg.all (λi=>k8 (i<k))&&Xe { cf with sc:=scope,N:=Wp cf g.target cap } tg one g.target&&chkIt cf it g.iter&&Zc { cf with sc:=scope,N:=Wp cf g.target cap } elt y&&
   bif u6 then(lC g.ifs λz r=>kZ r (tOk c&&Zc { cf with sc:=scope,N:=Wp cf g.target cap } c z))else g.ifs.isEmpty
 | .share a,e=>Zc cf a e
 | .meth m a es,e=>Wn e λg xs l q=>kZ l (lC xs λx r=>kZ r (jO g λo n p=>k8 (n=Ze (mtS m))&&xco m&&(p.endLine==q.line)&&xbA o&&Zc cf a o&&chkEs cf es [x]))
 | .tix c a,e=>jav e λg y=>gNm cf.sc c g&&We y&&Zc cf a y
 | .tget c es,e=>Wn e λg xs l q=>kZ l (lC xs λx r=>lC r λy r=>kZ r (jO g λg n p=>gNm cf.sc c g&&k8 (n=Ze "get")&&(p.endLine==q.line)&&chkEs cf es [x,y]))
 | .dlit T i,e=>jav e λd x=>jb4 d λks vs=>qz x λx=>WR T ks vs&&k8 (T≠ [])&&k8 (T.length<=15)&&k8 (T.map (·.1)).Nodup&&vB cf i x
 | .fstr ps,e=>zbK e λxs=>lC xs λx r=>lC r λy r=>jag cf ps (x::y::r)
 | .strI a,e=>Wn e λg xs l _=>kZ l (lC xs λx r=>kZ r (gNm cf.sc "str" g&&Qa x&&Zc cf a x))
 | .intT a,e=>Wn e λg xs l _=>kZ l (lC xs λx r=>kZ r (gNm cf.sc "int" g&&Qa x&&Zc cf a x))
 | .fld i c f,e=>jO e λx n _=>qz x λx=>vB cf i x&&k8 (n=Ze f)&&cf.ob.fl.contains (c,f)
 | .mcall i c m q es,e=>Wn e λg ys l s=>kZ l (jO g λx n p=>qz x λx=>vB cf i x&&k8 (n=Ze m)&&cf.ob.mt.contains (c,m,q)&&(p.endLine==s.line)&&k8 (ys.length<=20)&&chkEs cf es ys)
 | .make c q es,e=>Wn e λg ys l _=>kZ l (lC ys λx r=>gNm cf.sc c g&&cf.ob.mks.contains (c,q)&&chkEs cf es (x::r))
noncomputable def chkEs (cf:Cf):M.Es->List Expr->Bool
 | .nil,xs=>xs.isEmpty
 | .cons e es,xs=>lC xs λx xs=>Qa x&&Zc cf e x&&chkEs cf es xs
noncomputable def chkIt (cf:Cf):M.It->Expr->Bool
 | .seq a,e=>wg e&&Zc cf a e
 | .range1 a,e=>Wn e λg xs l _=>kZ l (lC xs λx r=>kZ r (gNm cf.sc "range" g&&Qa x&&Zc cf a x))
 | .range2 a b,e=>Wn e λg xs l _=>kZ l (lC xs λx r=>lC r λy r=>kZ r (gNm cf.sc "range" g&&Qa x&&Qa y&&Zc cf a x&&Zc cf b y))
 | .rev a,e=>Wn e λg xs l _=>kZ l (lC xs λx r=>kZ r (gNm cf.sc "reversed" g&&Qa x&&Zc cf a x))
 | .zip _ _,_=>u9
 | .enum _,_=>u9
 | .rangeS a b,e=>Wn e λg xs l _=>kZ l (lC xs λx r=>lC r λy r=>lC r λz r=>kZ r (Xu z λc=>k8 (c= .int 2)&&gNm cf.sc "range" g&&Qa x&&Qa y&&Zc cf a x&&Zc cf b y))
 | .enumL _,_=>u9
end
def zn:Expr->Bool
 | .ListComp .. =>u9
 | .SetComp .. =>u9
 | .DictComp .. =>u9
 | _=>v9
def Zo:Expr->Bool
 | .Tuple .. =>u9
 | _=>v9
def wC (cf:Cf) (i:Nat) (x:Str):Bool:=k8 (cf.N[i]? =y0 x)&&jby cf.sc x
def Z8 (cf:Cf) (i:Nat) (m:Str) (e:Expr) (k6:Pos):Bool:=jO e λx n p=>qz x λx=>vB cf i x&&k8 (n=m)&&(p.endLine==k6.line)
noncomputable def xbn (cf:Cf):M.It->Expr->Bool
 | .seq a,e=>wg e&&Zc cf a e
 | .range1 a,e=>chkIt cf (.range1 a) e
 | .range2 a b,e=>chkIt cf (.range2 a b) e
 | .rev a,e=>chkIt cf (.rev a) e
 | .rangeS a b,e=>chkIt cf (.rangeS a b) e
 | .enumL i,e=>Wn e λg xs l _=>kZ l (lC xs λx r=>kZ r (gNm cf.sc "enumerate" g&&Qa x&&Zc cf (.var i) x))
 | .zip _ _,_=>u9
 | .enum _,_=>u9
def W6:M.It->Expr->Bool
 | .enum _,e=> !Zo e
 | .enumL _,e=> !Zo e
 | .zip _ _,e=> !Zo e
 | _,_=>v9
def zbz:M.S->Bool
 | .freeze _=>v9
 | _=>u9
mutual
noncomputable def xca (cf:Cf):M.S->Stmt->Bool
 | .set i e,st=>zbD st λts v=>lC ts λt r=>qz t λx=>kZ r (wC cf i x&&Zc cf e v)
 | .setf i e,st=>zbD st λts v=>lC ts λt r=>qz t λx=>kZ r (wC cf i x&&Zc cf e v)
 | .setix i kx e,st=>zbD st λts v=>lC ts λt r=>jav t λx y=>qz x λx=>kZ r (vB cf i x&&We y&&Zo v&&zn v&&Zc cf kx y&&Zc cf e v)
 | .setref o kx e,st=>zbD st λts v=>lC ts λt r=>jav t λx y=>kZ r (We y&&Zo v&&zn v&&Zc cf o x&&Zc cf kx y&&Zc cf e v)
 | .app i e,st=>vEx st λc=>Wn c λf xs l p=>kZ l (lC xs λv r=>kZ r (Z8 cf i "append" f p&&Qa v&&Zc cf e v))
 | .freeze _,_=>u9
 | .ex e,st=>vEx st λv=>zn v&&Zc cf e v
 | .ret e,st=>qcu st λv=>oS v λv=>Zc cf e v
 | .iff c a b,st=>xct st λx ys zs=>tOk c&&Zc cf c x&&chkSs cf a ys&&chkSs cf b zs
 | .whl _ c b,st=>qcr st λx ys zs=>kZ zs (tOk c&&Zc cf c x&&chkSs cf b ys)
 | .for tg one it b,st=>xcq st λt iter ys zs=>kZ zs (W6 it t&&Xe cf tg one t&&xbn cf it iter&&chkSs cf b ys)
 | .setfld i c f e,st=>zbD st λts v=>lC ts λt r=>jO t λx n _=>qz x λx=>kZ r (vB cf i x&&k8 (n=Ze f)&&cf.ob.fl.contains (c,f)&&Zo v&&zn v&&Zc cf e v)
 | .nope,_=>v9
noncomputable def chkSs (cf:Cf):M.Ss->List Stmt->Bool
 | .nil,sts=>sts.isEmpty
 | .cons s ss,sts=>bif zbz s then chkSs cf ss sts else lC sts λst sts=>xca cf s st&&chkSs cf ss sts
end
structure zcE (X:Cx) (k:Nat) (x:Str) (ps:List Str) (sp:Sp):Prop where
 ex: ∃f fd,FnOk X.prog X.w X.K X.mg X.base (CX1 X.prog X.w) k f fd ps sp/\Binds X.K fd ps []/\Ad8 X.K (.ref f)=v9/\X.mg x=y0 (.ref f)
def zaR:M.W->Bool
 | .own _=>u9
 | _=>v9
noncomputable def spW (Γ:Ge) (m:List M.W->M.AH->M.R M.W):Sp:=λvs H Q E=> ∃G h ws,HRel Γ G h H/\RelWs Γ G H ws vs/\(∀ w∈ws,zaR w=v9)/\PostW Γ E G H (m ws h) Q
structure Go (Γ:Ge) (F:M.Fx) (X:Cx) (E:XK) (k:Nat) (cf:Cf):Prop where
 N:X.N=cf.N
 K:X.K=Γ.K
 cl:F.cl=Γ.cl
 ow:cf.own=Γ.own
 nd:cf.N.Nodup
 vis: ∀x,XN cf.sc x=v9->Vis X.env.scope x
 lcl: ∀x,cf.sc.names.lookup x=y0 .local->X.env.scope.names.lookup x=y0 .local
 sto: ∀x,jby cf.sc x=v9->Loc X.env.scope x/\(X.fn x=v9\/X.env.scope.names.lookup x=y0 .local)
 cel: ∀x,(cf.sc.names.lookup x=y0 .cell\/cf.sc.names.lookup x=y0 .free)->X.env.kindOf x=y0 .cell\/X.env.kindOf x=y0 .free
 gl: ∀x,glB cf.sc x=v9->Gl X x
 calm:X.calm=v9
 room:Room k X.A
 room1:Room (k+1) X.A
 pass:zr (CX1 X.prog X.w) X E
 blt: ∀x,x∈bltN->X.mg (Ze x)=k9
 con: ∀x d,F.con.lookup x=y0 d-> ∃u v,X.mg (Ze x)=y0 u/\RelV v u/\ ∀G H,RelD Γ G H d v
 fn: ∀f,cf.fns.contains f=v9-> ∃ps,zcE X k (Ze f) ps (spW Γ (F.call f))
 cls: ∀c,cf.own.contains c=v9->X.mg (Ze c)=y0 (.ref (Γ.ca c))
 fld: ∀c f,cf.ob.fl.contains (c,f)=v9->Cls X.K (Γ.ca c)/\NoAttr X.K (Γ.ca c) (Ze f)
 mth: ∀c m q,cf.ob.mt.contains (c,m,q)=v9->Cls X.K (Γ.ca c)/\ ∃fa fd ps,xbE X.K (Γ.ca c) (Ze m) fa/\FnOk X.prog X.w X.K X.mg X.base (CX1 X.prog X.w) k fa fd ps (spW Γ (F.call q))/\Binds X.K fd ps []
 mks: ∀c q,cf.ob.mks.contains (c,q)=v9->X.mg (Ze c)=y0 (.ref (Γ.ca c))/\ ∃fa fd ps,Mk X.K (Γ.ca c) fa/\FnOk X.prog X.w X.K X.mg X.base (CX1 X.prog X.w) k fa fd ps (spW Γ (F.call q))/\Binds X.K fd ps []
@[elab_as_elim] theorem kE {P:List α->Prop}(k:b=v9->P []): ∀l,kZ l b=v9->P l:=by rintro (_|_)<;>first | exact bad | exact k
theorem a2 (h:(a&&b)=v9):a=v9/\b=true:=Bool.and_eq_true_iff.mp h
theorem a3 (h:(a&&b&&c)=v9):a=v9/\b=v9/\c=true:=⟨(a2 (a2 h).1).1,(a2 (a2 h).1).2,(a2 h).2⟩
theorem a4 (h:(a&&b&&c&&d)=v9):a=v9/\b=v9/\c=v9/\d=true:=⟨(a3 (a2 h).1).1,(a3 (a2 h).1).2.1,(a3 (a2 h).1).2.2,(a2 h).2⟩
theorem a5 (h:(a&&b&&c&&d&&e)=v9):a=v9/\b=v9/\c=v9/\d=v9/\e=true:=⟨(a2 (a4 h).1).1,(a2 (a4 h).1).2,(a4 h).2⟩
theorem a6 (h:(a&&b&&c&&d&&e&&f)=v9):a=v9/\b=v9/\c=v9/\d=v9/\e=v9/\f=true:=⟨(a2 (a5 h).1).1,(a2 (a5 h).1).2,(a5 h).2⟩
theorem a7 (h:(a&&b&&c&&d&&e&&f&&g)=v9):a=v9/\b=v9/\c=v9/\d=v9/\e=v9/\f=v9/\g=true:=⟨(a2 (a6 h).1).1,(a2 (a6 h).1).2,(a6 h).2⟩
theorem nn (h:o.isNone=v9):o=none:=Ai9.mp h
theorem qaK (h:vB cf i x=v9):cf.N[i]? =y0 x/\XN cf.sc x=v9/\nmB x=true:=⟨of_decide_eq_true (a3 h).1,(a3 h).2⟩
theorem zc (h:gNm sc x e=true): ∃p,e= .Name (Ze x) p/\glB sc (Ze x)=true/\(Ze x==("__debug__" :Str))=false:=by
 unfold gNm at h
 rw [Ab4,Ab4]at h
 obtain⟨⟨h1,h2⟩,h3⟩:=h
 unfold nmB at h3
 rw [Ab4]at h3
 cases e with
 | Name y p=>
  have:y=Ze x:=by simpa [JZ]using h1
  subst this
  exact⟨p,rfl,h2,by simpa using h3.1⟩
 | _=>simp [JZ]at h1
theorem Qr (h:x∈bltN):Ze x≠("__name__" :Str):=by
 have:(bltN.all λx=>decide (Ze x≠ "__name__"))=true:=by decide +kernel
 exact of_decide_eq_true (Ah0.mp this x h)
section
variable {Γ:Ge}{F:M.Fx}{X:Cx}{E:XK}{k:Nat}{cf:Cf}
section
variable {G:Gh}{H:Hp}{h:M.AH}{τ:M.Sl}{σ:St}{Q:VK}
theorem Post.val (p:Post Γ E G0 H0 (.ok w h) λw _ G' H'=> ∀v,RelW Γ G' H' w v->FreshW τ σ H0 w v->Q v H') (e:Ext G0 H0 G H) (hr:HRel Γ G h H) (z:RelW Γ G H w v) (f:FreshW τ σ H0 w v):Q v H:=
 p G H e hr v z f
end
theorem jbo (go:Go Γ F X E k cf)(hN:cf.N[i]? =y0 x) (hv:XN cf.sc x=v9) (hn:nmB x=v9):PE X (.Name x pos) (tD Γ E (M.eval F (.var i))):=by
 unfold nmB at hn
 rw [Ab4]at hn
 refine PE.imp (zA (by rw [go.N];exact hN) (go.vis x hv) (by simpa using hn.1) (by simpa using hn.2)) λσ H Q qq=> ?_
 obtain⟨G,τ,h,s,p⟩:=qq
 rw [M.eval]at p
 cases q:M.Gm τ i with
 | none=>simp [M.Gn,q]at p;exact p.elim
 | some w=>
  obtain⟨v,e,r⟩:=s.slot i w q
  refine⟨v,e,?_⟩
  cases w with
  | v d=>
   rw [M.KS q]at p
   exact Post.val p Ext.refl s.heap r trivial
  | own xs=>
   rw [M.KD q]at p
   obtain⟨a,vs,z1,z2,z3,z4,z5⟩:=r
   exact Post.val p Ext.refl s.heap ⟨a,vs,z1,z3,.inl z4,z5⟩ ⟨i,_,q,rfl,e⟩
  | bor xs=>
   rw [M.KK q]at p
   exact Post.val p Ext.refl s.heap r ⟨i,_,q,rfl,e⟩
theorem jbi (go:Go Γ F X E k cf)(hg:gNm cf.sc c e=v9):PE X e (tD Γ E (M.eval F (.con c))):=by
 obtain⟨p,rfl,h2,h3⟩:=zc hg
 cases q:F.con.lookup c with
 | none=>
  intro u8 s σ H Q I ⟨G,τ,h,st,po⟩
  rw [M.eval,q]at po
  exact po.elim
 | some d=>
  obtain⟨u,v,hm,rv,rd⟩:=go.con c d q
  refine PE.imp (XO (go.gl _ h2) hm rv h3) λσ H Q qq=> ?_
  obtain⟨G,τ,h,st,po⟩:=qq
  rw [M.eval,q]at po
  exact Post.val po Ext.refl st.heap (rd G H) trivial
theorem qbq :PE X (.Constant (.int i) j pos) (tD Γ E (M.eval F (.int i))):=PE.imp W8 λσ H Q ⟨G,τ,h,s,p⟩=>Post.val p Ext.refl s.heap rfl trivial
theorem qbW :PE X (.Constant (.bool i) j pos) (tD Γ E (M.eval F (.bl i))):=PE.imp jcb λσ H Q ⟨G,τ,h,s,p⟩=>Post.val p Ext.refl s.heap rfl trivial
theorem jbg :PE X (.Constant (.str (txS i)) j pos) (tD Γ E (M.eval F (.str i))):=PE.imp jbJ λσ H Q ⟨G,τ,h,s,p⟩=>Post.val p Ext.refl s.heap rfl trivial
section
variable {a b c:M.E}{x y z:Expr}{pos:Pos}
theorem qbr (go:Go Γ F X E k cf)(ho:jaT o=v9) (ha:PE X x (tD Γ E (M.eval F a))) (hb:PE X y (tD Γ E (M.eval F b))):PE X (.BinOp x (opM o) y pos) (tD Γ E (M.eval F (.bin o a b))):=by
 refine PE.imp (jce (qbO (E:=E) o ho go.K) ha hb) λσ H Q qq=> ?_
 obtain⟨G,τ,h,s,p⟩:=qq
 refine Xa s.heap Ext.refl s p λw1 v1 h1 G1 H1 e1 e1' s1 r1 f1 p1=> ?_
 refine Xa s.heap e1 s1 p1 λw2 v2 h2 G2 H2 e2 e2' s2 r2 f2 p2=> ?_
 exact⟨G2,h2,w1,w2,s2.heap,r1.ext e2' s1.heap,r2,PostW.mk p2 e2 s.heap⟩
theorem QQ (z:RelD Γ G H d v) (f:M.flat d=v9):JC v=true:=by
 cases d with
 | non=>cases (z);rfl
 | bl _=>cases (z);rfl
 | int _=>cases (z);rfl
 | str _=>cases (z);rfl
 | _=>exact absurd (f) Ab2
theorem zI : ∀ {ds}{vs},RelDs Γ G H ds vs->ds.all M.flat=v9->vs.all JC=v9
 | [],_,rfl,_=>rfl
 | d::ds,_,⟨v,r,rfl,z1,z2⟩,f=>by
  rw [Ah6,Ab4]at f ⊢
  exact⟨QQ z1 f.1,zI z2 f.2⟩
theorem qb1 (z:RelD Γ G H d v) (y:RelD Γ G H e u) (fd:M.flat d=v9) (fe:M.flat e=v9):eqV v u=M.eqD d e:=by
 cases d with
 | non=>
  cases (z)
  cases e with
  | non=>cases (y);rfl
  | bl _=>cases (y);rfl
  | int _=>cases (y);rfl
  | str _=>cases (y);rfl
  | _=>exact absurd (fe) Ab2
 | bl a=>
  cases (z)
  cases e with
  | non=>cases (y);rfl
  | bl _=>cases (y);rfl
  | int j=>cases (y);show((if a then(1:Int)else 0)==j)=(a.toNat==j);rw [b2n]
  | str _=>cases (y);rfl
  | _=>exact absurd (fe) Ab2
 | int i=>
  cases (z)
  cases e with
  | non=>cases (y);rfl
  | bl b=>cases (y);show(i==(if b then(1:Int)else 0))=(i== b.toNat);rw [b2n]
  | int _=>cases (y);rfl
  | str _=>cases (y);rfl
  | _=>exact absurd (fe) Ab2
 | str i=>
  cases (z)
  cases e with
  | non=>cases (y);rfl
  | bl _=>cases (y);rfl
  | int _=>cases (y);rfl
  | str j=>cases (y);exact J4 i j
  | _=>exact absurd (fe) Ab2
 | _=>exact absurd (fd) Ab2
theorem za6 (z:RelD Γ G H d v) (fd:M.flat d=v9): ∀ {ds}{vs},RelDs Γ G H ds vs->ds.all M.flat=v9->inV v vs=M.inD d ds
 | [],_,rfl,_=>rfl
 | e::ds,_,⟨u,r,rfl,z1,z2⟩,f=>by
  rw [Ah6,Ab4]at f
  have ih:=za6 z fd z2 f.2
  unfold inV M.inD at ih ⊢
  rw [Ah5,Ah5,ih,qb1 z1 z f.1 fd]
theorem RelW.dflat (z:RelW Γ G H w v) (e:w.d=y0 d) (f:M.flat d=v9):RelD Γ G H d v:=by
 cases w with
 | v d'=>cases e;exact z
 | own xs=>cases e;exact absurd (f) Ab2
 | bor xs=>cases e
theorem za2 (he: ∀c y,RV hp c y->ee y=M.eqD c d): ∀ {ys}{us},RVs hp ys us->us.any ee=M.inD d ys
 | [],_,rfl=>rfl
 | c::ys,_,⟨u,r,rfl,z1,z2⟩=>by
  have ih:=za2 he z2
  unfold M.inD at ih ⊢
  rw [Ah5,Ah5,ih,he c u z1]
theorem qbc (hK:X.K=Γ.K)(hro:Room k X.A) (neg:Bool){x y:V}(I:Inv X u8 σ H s) (rx:RelV x v) (ry:RelV y u){b:Bool}(hr:HRel Γ G h H)
 (r1:RelW Γ G H w1 x) (r2:RelW Γ G H w2 y) (e:M.Ph w1 w2 h=y0 b) (q:Q (.bl (if neg then !b else b)) H):wpAny (model X.prog X.w) X.A (compareOp (if neg then .NotIn else .In) v u) (EP X u8 σ Q) X.xe s:=by
 unfold M.Ph at e
 split at e
 ·rename_i ys e2
  split at e
  ·rename_i c
   cases e
   have c':=by simpa using c
   have p1:=r1.rv I hK hr rx c'.1.1
   have p2:=r2.rv I hK hr ry (by rw [e2];exact c'.1.2)
   rw [e2]at p2
   obtain⟨a,its,rfl,hl,rs⟩:=p2
   have hee: ∃ee:Value->Bool,∀c y,RV s.heap c y->ee y=M.eqD c (w1.dd h):=⟨λy=> @k8 (∃ d,RV s.heap d y/\M.eqD d (w1.dd h)=v9) (Aj0 _),λc y z=>by
    cases q:M.eqD c (w1.dd h)with
    | true=>exact @decide_eq_true _ (Aj0 _) ⟨c,z,q⟩
    | false=>exact @decide_eq_false _ (Aj0 _) λ⟨d,z2,q2⟩=>by rw [RV.inj z2 z,q]at q2;cases q2⟩
   obtain⟨ee,he⟩:=hee
   have hq: ∀y,y∈its.toArray->SeqAt.EqAt X.A.in1 s y v (ee y):=λy hy=>by
    obtain⟨j,hj⟩:=List.getElem?_of_mem (List.mem_toArray.mp hy)
    obtain⟨d,hd,rd⟩:=rs.get hj
    rw [he d y rd]
    exact(xcj 140 d _ X.A.in1 y v (by have:=ww hd;omega) (by show X.A.units+1+140<cLine;have:=hro.un;omega) rd p1).eq
   have ha:its.toArray.any ee=M.inD (w1.dd h) ys:=by rw [List.any_toArray];exact za2 he rs
   cases neg with
   | true=>exact SeqAt.notIn_listAt ee hl hq ⟨.bl _,H,I,rfl,by rw [ha];exact q⟩
   | false=>exact SeqAt.in_listAt ee hl hq ⟨.bl _,H,I,rfl,by rw [ha];exact q⟩
  ·cases e
 ·cases e
theorem jaV (hK:X.K=Γ.K)(hro:Room k X.A) (neg:Bool){x y:V}(I:Inv X u8 σ H s) (rx:RelV x v) (ry:RelV y u){b:Bool}(hr:HRel Γ G h H)
 (r1:RelW Γ G H w1 x) (r2:RelW Γ G H w2 y) (e:M.KN w1 w2 h=y0 b) (q:Q (.bl (if neg then !b else b)) H):wpAny (model X.prog X.w) X.A (compareOp (if neg then .NotIn else .In) v u) (EP X u8 σ Q) X.xe s:=by
 unfold M.KN at e
 split at e
 ·rename_i i j e1 e2
  split at e
  ·rename_i c
   cases e
   cases r1.str e1
   cases r2.str e2
   have f1:(!(Builtin.Str.occurrences (txS j) (txS [c]) 0 (txS j).length 1).isEmpty)=j.contains c:=by
    have:=PySem.StrLaws.found_one (txS j) c
    refine this.trans ?_
    rw [Bool.eq_iff_iff,decide_eq_true_eq,List.contains_iff_mem]
    simp [txS]
   cases neg with
   | true=>exact ZI u8 s σ H _ _ v u Q I rx ry ⟨_,_,rfl,rfl,by rw [f1];exact q⟩
   | false=>exact Z3 u8 s σ H _ _ v u Q I rx ry ⟨_,_,rfl,rfl,by rw [f1];exact q⟩
  ·cases e
 ·split at e
  ·rename_i d xs e1 e2
   split at e
   ·rename_i c
    rw [Ab4]at c
    cases e
    have z:=r1.dflat e1 c.1
    obtain⟨a,vs,rfl,z2,z3⟩:=r2.seq hr e2
    rw [← za6 z c.1 z3 c.2]at q
    cases neg with
    | true=>exact wL u8 s σ H _ _ v u Q I rx ry ⟨a,vs,rfl,hK▸xbk z2,QQ z c.1,zI z3 c.2,q⟩
    | false=>exact J5 u8 s σ H _ _ v u Q I rx ry ⟨a,vs,rfl,hK▸xbk z2,QQ z c.1,zI z3 c.2,q⟩
   ·exact qbc hK hro neg I rx ry hr r1 r2 e q
  ·cases e
theorem xal:OpR X (compareOp .GtE) (λx y H Q=> ∃i j,x= .str i/\y= .str j/\Q (.bl (!k8 (i.cps.toList<j.cps.toList))) H):=by
 intro u8 s σ H x y v u Q I rx ry ⟨i,j,ex,ey,q⟩
 subst ex ey
 obtain⟨t,rfl⟩:=rx
 obtain⟨t',rfl⟩:=ry
 exact PySem.P.ge_str (JK I q rfl)
theorem WE (go:Go Γ F X E k cf) (o) (ho:zD o=v9):OpR X (compareOp (cpM o)) (jbk Γ o):=by
 have nums: ∀ {o},(∀ w1 w2 h b,M.Gz o w1 w2 h=y0 b->(∃ i j,M.W.int? w1=y0 i/\M.W.int? w2=y0 j/\M.K7 o i j=y0 b)\/(∃ i j,M.W.str? w1=y0 i/\M.W.str? w2=y0 j/\M.K9 o i j=y0 b))->OpR X (compareOp (cpM o)) (jbk Γ o):=by
  intro o hi u8 s σ H x y v u Q I rx ry ⟨G,h,w1,w2,b,hh,r1,r2,e,q⟩
  rcases hi w1 w2 h b e with⟨i,j,e1,e2,e3⟩ | ⟨i,j,e1,e2,e3⟩
  ·cases r1.int e1
   cases r2.int e2
   exact xaS e3 I rx ry q
  ·cases r1.str e1
   cases r2.str e2
   cases o with
   | lt=>
    cases e3
    refine xan u8 s σ H _ _ v u Q I rx ry ⟨_,_,rfl,rfl,?_⟩
    have:k8 ((txS i).cps.toList<(txS j).cps.toList)=k8 (i<j):=decide_eq_decide.mpr (by simp [txS])
    exact q
   | ge=>
    cases e3
    have:k8 ((txS i).cps.toList<(txS j).cps.toList)=k8 (i<j):=decide_eq_decide.mpr (by simp [txS])
    exact xal u8 s σ H _ _ v u Q I rx ry ⟨_,_,rfl,rfl,q⟩
   | _=>cases e3
 have mk: ∀ {o}{w1 w2}{h:M.AH}{b},(match M.W.int? w1,M.W.int? w2 with
  | some i,y0 j=>M.K7 o i j
  | _,_=>match M.W.str? w1,M.W.str? w2 with
   | some s,y0 t=>M.K9 o s t
   | _,_=>k9)=y0 b->(∃ i j,M.W.int? w1=y0 i/\M.W.int? w2=y0 j/\M.K7 o i j=y0 b)\/(∃ i j,M.W.str? w1=y0 i/\M.W.str? w2=y0 j/\M.K9 o i j=y0 b):=by
  intro o w1 w2 h b e
  split at e
  ·rename_i i j e1 e2;exact .inl ⟨i,j,e1,e2,e⟩
  ·split at e
   ·rename_i i j e1 e2;exact .inr ⟨i,j,e1,e2,e⟩
   ·cases e
 cases o with
 | eq=>exact jbM go.K go.room
 | ne=>exact zbM go.K go.room
 | lt=>exact nums λw1 w2 h b e=>mk (h:=h) e
 | le=>exact nums λw1 w2 h b e=>mk (h:=h) e
 | gt=>exact nums λw1 w2 h b e=>mk (h:=h) e
 | ge=>exact nums λw1 w2 h b e=>mk (h:=h) e
 | mem=>
  intro u8 s σ H x y v u Q I rx ry ⟨G,h,w1,w2,b,hh,r1,r2,e,q⟩
  exact jaV go.K go.room u9 I rx ry hh r1 r2 e q
 | nmem=>
  intro u8 s σ H x y v u Q I rx ry ⟨G,h,w1,w2,b,hh,r1,r2,e,q⟩
  have e:(M.KN w1 w2 h).map (!·)=y0 b:=e
  cases e2:M.KN w1 w2 h with
  | none=>rw [e2]at e;cases e
  | some c=>
   rw [e2]at e
   cases e
   exact jaV go.K go.room v9 I rx ry hh r1 r2 e2 q
 | isb=>
  intro u8 s σ H x y v u Q I rx ry ⟨G,h,w1,w2,b,hh,r1,r2,e,q⟩
  have e:M.Pc w1 w2=y0 b:=e
  unfold M.Pc at e
  split at e
  ·cases e
   cases r1
   cases r2
   cases rx
   obtain⟨t,rfl⟩:=ry
   exact wpAny_is_plain rfl (JK I q rfl)
  ·cases e
   cases r1
   cases r2
   obtain⟨t,rfl⟩:=rx
   obtain⟨t',rfl⟩:=ry
   exact PyProof.Rows.is_bool (JK I q rfl)
  ·cases e
theorem Jy (h:wg e=v9):behindInMarks o e=false:=by
 cases e<;>first | rfl | (simp [wg]at h)
theorem qa6 (go:Go Γ F X E k cf)(s:StRel Γ G τ h σ H)
 (p:Post Γ E G H ((M.eval F a τ h).bind λx h=>(M.eval F b τ h).bind λy h=>(M.R.of h (M.Gz o x y h)).bind λc h=> .ok c h) λc _ _ H'=>R (.bl c) H'):
 tOp (jbk Γ o) (tD Γ E (M.eval F a)) (tD Γ E (M.eval F b)) σ H R:=by
 refine Xa s.heap Ext.refl s p λw1 v1 h1 G1 H1 e1 e1' s1 r1 f1 p1=> ?_
 refine Xa s.heap e1 s1 p1 λw2 v2 h2 G2 H2 e2 e2' s2 r2 f2 p2=> ?_
 obtain⟨c,ec,p2⟩:=p2.of
 exact⟨G2,h2,w1,w2,c,s2.heap,r1.ext e2' s1.heap,r2,ec,p2.at e2 s2.heap⟩
theorem Post.map {f:α->β}(p:Post Γ E G H (r.bind λa h=> .ok (f a) h) P):Post Γ E G H r λa h G' H'=>P (f a) h G' H':=by
 cases r with
 | ok a h=>exact p
 | exc d h=>exact p
 | fail=>exact p
theorem Qk (r:M.R α) (f) (g:β->M.AH->M.R γ):(r.bind f).bind g=r.bind λa h=>(f a h).bind g:=by cases r<;>rfl
theorem xbt (go:Go Γ F X E k cf)(ho:zD o=v9) (hy:wg y=v9) (ha:PE X x (tD Γ E (M.eval F a))) (hb:PE X y (tD Γ E (M.eval F b))):PE X (.Compare x [cpM o] [y] pos) (tD Γ E (M.eval F (.cmp o a b))):=by
 refine PE.imp (jbA (WE go o ho) ha hb (Jy hy)) λσ H Q qq=> ?_
 obtain⟨G,τ,h,s,p⟩:=qq
 rw [M.eval]at p
 refine qa6 go s ?_
 have p2:Post Γ E G H (((M.eval F a τ h).bind λx h=>(M.eval F b τ h).bind λy h=>(M.R.of h (M.Gz o x y h)).bind λc h=> .ok c h).bind λc h=> .ok (M.W.v (.bl c)) h) λw _ G' H'=> ∀v,RelW Γ G' H' w v->FreshW τ σ H w v->Q v H':=by
  simpa only [Qk,M.R.bind_ok]using p
 have p3:=p2.map
 cases q:(M.eval F a τ h).bind λx h=>(M.eval F b τ h).bind λy h=>(M.R.of h (M.Gz o x y h)).bind λc h=> .ok c h with
 | ok c h'=>rw [q]at p3;exact λG' H' e hr=>p3 G' H' e hr (.bl c) rfl trivial
 | exc d h'=>rw [q]at p3;exact p3
 | fail=>rw [q]at p3;exact p3
theorem xaR (go:Go Γ F X E k cf)(ho:zD o=v9) (hy:wg y=v9) (ha:PE X x (tD Γ E (M.eval F a))) (hb:PE X y (tD Γ E (M.eval F b))):PT X (.Compare x [cpM o] [y] pos) (tDT Γ E (M.Gp F (.cmp o a b))):=by
 refine PT.imp (xbx (WE go o ho) ha hb (Jy hy)) λσ H Q qq=> ?_
 obtain⟨G,τ,h,s,p⟩:=qq
 unfold M.Gp at p
 rw [M.eval]at p
 refine qa6 go s ?_
 have p2:=by
  simpa only [Qk,M.R.bind_ok,M.Gk,M.R.of_some]using p
 cases q:(M.eval F a τ h).bind λx h=>(M.eval F b τ h).bind λy h=>(M.R.of h (M.Gz o x y h)).bind λc h=> .ok c h with
 | ok c h'=>rw [q]at p2;exact λG' H' e hr=>⟨c,rfl,p2 G' H' e hr⟩
 | exc d h'=>rw [q]at p2;exact p2
 | fail=>rw [q]at p2;exact p2
end
end
section
variable {Γ:Ge}{F:M.Fx}{X:Cx}{E:XK}{k:Nat}{cf:Cf}{a b c:M.E}{x y z:Expr}{pos:Pos}
theorem Ww (r:M.R α):(r.bind λw h=> .ok w h)=r:=by cases r<;>rfl
theorem qaP (go:Go Γ F X E k cf) (ha:PE X x (tD Γ E (M.eval F a))) (he: ∀whole,isTrue x X.env whole=(do let v ←whole;standAt x.pos;holding [v] (truthy v))):PT X x (tDT Γ E (M.Gp F a)):=by
 refine PT.imp (qaz ha he) λσ H Q qq=> ?_
 obtain⟨G,τ,h,s,p⟩:=qq
 refine Xa s.heap Ext.refl s p λw1 v1 h1 G1 H1 e1 e1' s1 r1 f1 p1=> ?_
 cases q:M.KB h1 w1 with
 | none=>rw [q]at p1;exact p1.elim
 | some t=>
  rw [q]at p1
  exact⟨t,zS go.K s1.heap r1 q,p1 G1 H1 e1 s1.heap⟩
theorem xbh (ha:PE X x ta):PE X (.UnaryOp .Not x pos) (λσ H Q=>ta σ H λv H1=> ∃t,xbl X.K v H1 t/\Q (.bl (!t)) H1):=by
 intro u8 s σ H Q I h
 refine UnaryOp_ (thn (ha u8 s σ H _ I h) λv s1 ⟨x,H1,I1,r1,t,q1,q2⟩=> ?_)
 exact not_of (thn (ZT u8 s1 σ H1 x v (λc H'=>Q (.bl (!c)) H') I1 r1 ⟨t,q1,q2⟩) λc s2 ⟨H2,I2,q⟩=>⟨.bl (!c),H2,I2,rfl,q⟩)
theorem jbl (go:Go Γ F X E k cf) (ha:PE X x (tD Γ E (M.eval F a))):PE X (.UnaryOp .Not x pos) (tD Γ E (M.eval F (.not a))):=by
 refine PE.imp (xbh ha) λσ H Q qq=> ?_
 obtain⟨G,τ,h,s,p⟩:=qq
 refine Xa s.heap Ext.refl s p λw1 v1 h1 G1 H1 e1 e1' s1 r1 f1 p1=> ?_
 obtain⟨t,q,p1⟩:=p1.of
 exact⟨t,zS go.K s1.heap r1 q,Post.val p1 e1 s1.heap rfl trivial⟩
theorem jaB (ha:PT X x (tDT Γ E (M.Gp F a))):PT X (.UnaryOp .Not x pos) (tDT Γ E (M.Gp F (.not a))):=by
 refine PT.imp (jbT ha) λσ H Q qq=> ?_
 obtain⟨G,τ,h,s,p⟩:=qq
 unfold M.Gp at p
 rw [M.eval]at p
 have p2:Post Γ E G H ((M.Gp F a τ h).bind λt h=> .ok (!t) h) λb _ _ H'=>Q b H':=by
  unfold M.Gp
  simpa only [Qk,M.R.bind_ok,M.Gk,M.R.of_some]using p
 exact⟨G,τ,h,s,p2.map⟩
theorem qbk {Xo:List Expr}(ha:PE X x ta) (hb:PE X (.BoolOp .And (y::Xo) pos) tb):PE X (.BoolOp .And (x::y::Xo) pos) (λσ H Q=>ta σ H λv H1=> ∃t,xbl X.K v H1 t/\if t=v9 then tb σ H1 Q else Q v H1):=by
 intro u8 s σ H Q I h
 refine BoolOp_and (thn (ha u8 s σ H _ I h) λv s1 ⟨x,H1,I1,r1,t,q1,q2⟩=> ?_)
 refine thn (ZT u8 s1 σ H1 x v (λc H'=>if c=v9 then tb σ H' Q else Q x H') I1 r1 ⟨t,q1,q2⟩) λc s2 qq=> ?_
 obtain⟨H2,I2,q⟩:=qq
 cases c with
 | true=>exact hb u8 s2 σ H2 Q I2 q
 | false=>exact⟨x,H2,I2,r1,q⟩
theorem qb3 {Xo:List Expr}(ha:PE X x ta) (hb:PE X (.BoolOp .Or (y::Xo) pos) tb):PE X (.BoolOp .Or (x::y::Xo) pos) (λσ H Q=>ta σ H λv H1=> ∃t,xbl X.K v H1 t/\if t=v9 then Q v H1 else tb σ H1 Q):=by
 intro u8 s σ H Q I h
 refine BoolOp_or (thn (ha u8 s σ H _ I h) λv s1 ⟨x,H1,I1,r1,t,q1,q2⟩=> ?_)
 refine thn (ZT u8 s1 σ H1 x v (λc H'=>if c=v9 then Q x H' else tb σ H' Q) I1 r1 ⟨t,q1,q2⟩) λc s2 qq=> ?_
 obtain⟨H2,I2,q⟩:=qq
 cases c with
 | false=>exact hb u8 s2 σ H2 Q I2 q
 | true=>exact⟨x,H2,I2,r1,q⟩
theorem zav (go:Go Γ F X E k cf){Xo:List Expr}(ha:PE X x (tD Γ E (M.eval F a))) (hb:PE X (.BoolOp .And (y::Xo) pos) (tD Γ E (M.eval F b))):PE X (.BoolOp .And (x::y::Xo) pos) (tD Γ E (M.eval F (.and a b))):=by
 refine PE.imp (qbk ha hb) λσ H Q qq=> ?_
 obtain⟨G,τ,h,s,p⟩:=qq
 refine Xa s.heap Ext.refl s p λw1 v1 h1 G1 H1 e1 e1' s1 r1 f1 p1=> ?_
 obtain⟨t,q,p1⟩:=p1.of
 refine⟨t,zS go.K s1.heap r1 q,?_⟩
 cases t with
 | true=>
  exact Xa s.heap e1 s1 (by rw [Ww];exact p1) λw2 v2 h2 G2 H2 e2 e2' s2 r2 f2 p2=>Post.val p2 e2 s2.heap r2 (f2.back e1 s.heap)
 | false=>
  exact Post.val p1 e1 s1.heap r1 f1
theorem zaW (go:Go Γ F X E k cf){Xo:List Expr}(ha:PE X x (tD Γ E (M.eval F a))) (hb:PE X (.BoolOp .Or (y::Xo) pos) (tD Γ E (M.eval F b))):PE X (.BoolOp .Or (x::y::Xo) pos) (tD Γ E (M.eval F (.or a b))):=by
 refine PE.imp (qb3 ha hb) λσ H Q qq=> ?_
 obtain⟨G,τ,h,s,p⟩:=qq
 refine Xa s.heap Ext.refl s p λw1 v1 h1 G1 H1 e1 e1' s1 r1 f1 p1=> ?_
 obtain⟨t,q,p1⟩:=p1.of
 refine⟨t,zS go.K s1.heap r1 q,?_⟩
 cases t with
 | false=>
  exact Xa s.heap e1 s1 (by rw [Ww];exact p1) λw2 v2 h2 G2 H2 e2 e2' s2 r2 f2 p2=>Post.val p2 e2 s2.heap r2 (f2.back e1 s.heap)
 | true=>
  exact Post.val p1 e1 s1.heap r1 f1
theorem xba :M.Gp F (.and a b) τ h=(M.Gp F a τ h).bind λt h=>match t with
 | true=>M.Gp F b τ h
 | false=> .ok u9 h:=by
 unfold M.Gp
 rw [M.eval]
 simp only [Qk]
 congr 1
 funext w h1
 cases q:M.KB h1 w with
 | none=>rfl
 | some t=>
  cases t with
  | true=>rfl
  | false=>simp [q]
theorem xb2 :M.Gp F (.or a b) τ h=(M.Gp F a τ h).bind λt h=>match t with
 | true=> .ok v9 h
 | false=>M.Gp F b τ h:=by
 unfold M.Gp
 rw [M.eval]
 simp only [Qk]
 congr 1
 funext w h1
 cases q:M.KB h1 w with
 | none=>rfl
 | some t=>
  cases t with
  | false=>rfl
  | true=>simp [q]
theorem jS {Xo:List Expr}(ha:PT X x (tDT Γ E (M.Gp F a))) (hb:PW X (.BoolOp .And (y::Xo) pos) (tDT Γ E (M.Gp F b))):PW X (.BoolOp .And (x::y::Xo) pos) (tDT Γ E (M.Gp F (.and a b))):=by
 intro wh u8 st σ H Q I ⟨G,τ,h,s,p⟩
 refine jbW ha hb wh u8 st σ H Q I ?_
 rw [xba]at p
 refine qH s.heap Ext.refl s p λt h1 G1 H1 e1 e1' s1 p1=> ?_
 cases t with
 | true=>
  exact qH s.heap e1 s1 (f:=λw h=> .ok w h) (by rw [Ww];exact p1) λw2 h2 G2 H2 e2 e2' s2 p2=>p2 G2 H2 e2 s2.heap
 | false=>
  exact p1 G1 H1 e1 s1.heap
theorem xah {Xo:List Expr}(ha:PT X x (tDT Γ E (M.Gp F a))) (hb:PW X (.BoolOp .Or (y::Xo) pos) (tDT Γ E (M.Gp F b))):PW X (.BoolOp .Or (x::y::Xo) pos) (tDT Γ E (M.Gp F (.or a b))):=by
 intro wh u8 st σ H Q I ⟨G,τ,h,s,p⟩
 refine xcb ha hb wh u8 st σ H Q I ?_
 rw [xb2]at p
 refine qH s.heap Ext.refl s p λt h1 G1 H1 e1 e1' s1 p1=> ?_
 cases t with
 | false=>
  exact qH s.heap e1 s1 (f:=λw h=> .ok w h) (by rw [Ww];exact p1) λw2 h2 G2 H2 e2 e2' s2 p2=>p2 G2 H2 e2 s2.heap
 | true=>
  exact p1 G1 H1 e1 s1.heap
theorem xbd (ha:PE X x (tD Γ E (M.eval F a))):PE X (.UnaryOp .USub x pos) (tD Γ E (M.eval F (.neg a))):=by
 refine PE.imp (jbU xaW ha) λσ H Q qq=> ?_
 obtain⟨G,τ,h,s,p⟩:=qq
 refine Xa s.heap Ext.refl s p λw1 v1 h1 G1 H1 e1 e1' s1 r1 f1 p1=> ?_
 obtain⟨t,q,p1⟩:=p1.of
 exact⟨t,r1.int q,Post.val p1 e1 s1.heap rfl trivial⟩
theorem zU (h:wg e'=v9):lastMarks [o,o'] [e,e']=false:=Jy h
theorem jT (go:Go Γ F X E k cf)(s:StRel Γ G τ h σ H)
 (hP: ∀b h' G' H',P (.v (.bl b)) h' G' H'->R (.bl b) H') (p:Post Γ E G H (M.eval F (.chain o o' a b c) τ h) P):
 qaa (jbk Γ o) (jbk Γ o') (tD Γ E (M.eval F a)) (tD Γ E (M.eval F b)) (tD Γ E (M.eval F c)) σ H R:=by
 refine Xa s.heap Ext.refl s p λw1 v1 h1 G1 H1 e1 e1' s1 r1 f1 p1=> ?_
 refine Xa s.heap e1 s1 p1 λw2 v2 h2 G2 H2 e2 e2' s2 r2 f2 p2=> ?_
 obtain⟨t,ec,p2⟩:=p2.of
 refine⟨G2,h2,w1,w2,t,s2.heap,r1.ext e2' s1.heap,r2,ec,t,rfl,?_⟩
 cases t with
 | true=>
  refine Xa s.heap e2 s2 p2 λw3 v3 h3 G3 H3 e3 e3' s3 r3 f3 p3=> ?_
  obtain⟨t,ec,p3⟩:=p3.of
  exact⟨G3,h3,w2,w3,t,s3.heap,r2.ext e3' s2.heap,r3,ec,hP _ _ _ _ (p3.at e3 s3.heap)⟩
 | false=>
  exact hP _ _ _ _ (p2.at e2 s2.heap)
theorem W1 (go:Go Γ F X E k cf)(ho:zD o=v9) (ho':zD o'=v9) (hz:wg z=v9) (ha:PE X x (tD Γ E (M.eval F a))) (hb:PE X y (tD Γ E (M.eval F b))) (hc:PE X z (tD Γ E (M.eval F c))):
 PE X (.Compare x [cpM o,cpM o'] [y,z] pos) (tD Γ E (M.eval F (.chain o o' a b c))):=
 PE.imp (xaE (WE go o ho) (WE go o' ho') ha hb hc (zU hz)) λσ H Q ⟨G,τ,h,s,p⟩=>jT go s (λb h' G' H' q=>q (.bl b) rfl trivial) p
theorem ZX (go:Go Γ F X E k cf)(ho:zD o=v9) (ho':zD o'=v9) (hz:wg z=v9) (ha:PE X x (tD Γ E (M.eval F a))) (hb:PE X y (tD Γ E (M.eval F b))) (hc:PE X z (tD Γ E (M.eval F c))):
 PT X (.Compare x [cpM o,cpM o'] [y,z] pos) (tDT Γ E (M.Gp F (.chain o o' a b c))):=by
 refine PT.imp (xaH (WE go o ho) (WE go o' ho') ha hb hc (zU hz)) λσ H Q qq=> ?_
 obtain⟨G,τ,h,s,p⟩:=qq
 refine jT go s (P:=λw _ _ H'=> ∀b,w= .v (.bl b)->Q b H') (λb h' G' H' q=>⟨b,rfl,q b rfl⟩) ?_
 unfold M.Gp at p
 cases q:M.eval F (.chain o o' a b c) τ h with
 | ok w h'=>rw [q]at p;exact λG' H' e hr b eb=>by subst eb;exact p G' H' e hr
 | exc d h'=>rw [q]at p;exact p
 | fail=>rw [q]at p;exact p
end
theorem xa (h:Qa e=v9):starEach (e::es) env=(u9,eval e env)::starEach es env:=by
 cases e<;>first | rfl | (simp [Qa]at h)
theorem Zl (h: ∀e∈es,Qa e=v9):(backTo pos (starEach es env)).any (·.1)=false:=by
 induction es with
 | nil=>rfl
 | cons e r ih=>
  rw [xa (h e Aa8)]
  show(u9||(backTo pos (starEach r env)).any (·.1))=u9
  rw [ih λe' he'=>h e' (Aa7 _ he')]
  rfl
section
variable {Γ:Ge}{F:M.Fx}{X:Cx}{E:XK}{k:Nat}{cf:Cf}{a b c:M.E}{x y z:Expr}{pos:Pos}{es:M.Es}{xs:List Expr}
theorem xaD:PA X [] (tDA Γ E (M.Gj F .nil)):=PA.imp Wk λσ H Q ⟨G,τ,h,s,p⟩=>p G H Ext.refl s.heap [] rfl
theorem J9 (hx:Qa x=v9) (ha:PE X x (tD Γ E (M.eval F a))) (hr:PA X xs (tDA Γ E (M.Gj F es))):PA X (x::xs) (tDA Γ E (M.Gj F (.cons a es))):=by
 refine PA.imp (Jd ha hr (xa hx)) λσ H Q qq=> ?_
 obtain⟨G,τ,h,s,p⟩:=qq
 refine Xa s.heap Ext.refl s p λw1 v1 h1 G1 H1 e1 e1' s1 r1 f1 p1=> ?_
 obtain⟨d,q,p1⟩:=p1.of
 obtain⟨G2,e2,s2,rd,_⟩:=toD e1 s1 s r1 f1 q
 refine WP s.heap e2 s2 p1 λds vs h3 G3 H3 e3 e3' s3 r3 p3=> ?_
 exact p3 G3 H3 e3 s3.heap (v1::vs) ⟨v1,vs,rfl,rd.ext e3' s2.heap,r3⟩
theorem jay:PA X [] (tDW Γ E (M.Gi F .nil)):=PA.imp Wk λσ H Q ⟨G,τ,h,s,p⟩=>p G H Ext.refl s.heap [] rfl
theorem xae (hx:Qa x=v9) (ha:PE X x (tD Γ E (M.eval F a))) (hr:PA X xs (tDW Γ E (M.Gi F es))):PA X (x::xs) (tDW Γ E (M.Gi F (.cons a es))):=by
 refine PA.imp (Jd ha hr (xa hx)) λσ H Q qq=> ?_
 obtain⟨G,τ,h,s,p⟩:=qq
 refine Xa s.heap Ext.refl s p λw1 v1 h1 G1 H1 e1 e1' s1 r1 f1 p1=> ?_
 refine Zi s.heap e1 s1 p1 λds vs h3 G3 H3 e3 e3' s3 r3 p3=> ?_
 exact p3 G3 H3 e3 s3.heap (v1::vs) ⟨v1,vs,rfl,r1.ext e3' s1.heap,r3⟩
theorem qbm (hl:xs.length<=1000) (u7: ∀τ h ds h',M.Gj F es τ h= .ok ds h'->ds.length=xs.length) (ha:PA X xs (tDA Γ E (M.Gj F es))):PE X (.Tuple xs n pos) (tD Γ E (M.eval F (.tup es))):=by
 refine PE.imp (xb0 ha) λσ H Q qq=> ?_
 obtain⟨G,τ,h,s,p⟩:=qq
 rw [M.eval]at p
 cases q:M.Gj F es τ h with
 | ok ds0 h0=>
  have hz:=u7 _ _ _ _ q
  refine WP s.heap Ext.refl s (f:=λds h=>if ds.length=xs.length then M.okv (.tup ds) h else .fail) (P:=λw h' G' H'=> ∀v,RelW Γ G' H' w v->FreshW τ σ H w v->Q v H') ?_ λds vs h1 G1 H1 e1 e1' s1 r1 p1=> ?_
  ·rw [q]at p ⊢
   show Post Γ E G H (if ds0.length=xs.length then M.okv (.tup ds0) h0 else .fail) _
   rw [if_pos hz]
   exact p
  ·by_cases hd:ds.length=xs.length
   ·rw [if_pos hd]at p1
    have l1:=r1.length
    exact⟨Aj3 (xI (by omega)),λa' ha'=>PostW.tup (PostW.mk p1 e1 s.heap) s1.heap r1 a' ha'⟩
   ·rw [if_neg hd]at p1;exact p1.elim
 | exc d h0=>rw [q]at p;exact⟨G,τ,h,s,by rw [q];exact p⟩
 | fail=>rw [q]at p;exact p.elim
theorem zbc (hl:xs.length<=1000) (u7: ∀τ h ds h',M.Gj F es τ h= .ok ds h'->ds.length=xs.length) (ha:PA X xs (tDA Γ E (M.Gj F es))):PE X (.List xs pos) (tD Γ E (M.eval F (.lst es))):=by
 refine PE.imp (qbI ha) λσ H Q qq=> ?_
 obtain⟨G,τ,h,s,p⟩:=qq
 rw [M.eval]at p
 cases q:M.Gj F es τ h with
 | ok ds0 h0=>
  have hz:=u7 _ _ _ _ q
  refine WP s.heap Ext.refl s (f:=λds h=>if ds.length=xs.length then .ok (.own ds) h else .fail) (P:=λw h' G' H'=> ∀v,RelW Γ G' H' w v->FreshW τ σ H w v->Q v H') ?_ λds vs h1 G1 H1 e1 e1' s1 r1 p1=> ?_
  ·rw [q]at p ⊢
   show Post Γ E G H (if ds0.length=xs.length then .ok (M.W.own ds0) h0 else .fail) _
   rw [if_pos hz]
   exact p
  ·by_cases hd:ds.length=xs.length
   ·rw [if_pos hd]at p1
    have l1:=r1.length
    exact⟨Aj3 (xI (by omega)),λa' ha'=>PostW.own (PostW.mk p1 e1 s.heap) s1.heap r1 a' ha'⟩
   ·rw [if_neg hd]at p1;exact p1.elim
 | exc d h0=>rw [q]at p;exact⟨G,τ,h,s,by rw [q];exact p⟩
 | fail=>rw [q]at p;exact p.elim
theorem xbq (r:RelW Γ G H w v):RelW Γ G H w.arg v:=by
 cases w with
 | v d=>exact r
 | own xs=>obtain⟨a,vs,z1,_,z3,z4,z5⟩:=r;exact⟨a,vs,z1,z3,.inl z4,z5⟩
 | bor xs=>exact r
theorem Xr : ∀ {ws}{vs},RelWs Γ G H ws vs->RelWs Γ G H (ws.map M.W.arg) vs
 | [],_,z=>z
 | _::_,_,⟨v,r,z1,z2,z3⟩=>⟨v,r,z1,xbq z2,Xr z3⟩
theorem Xq (ws:List M.W): ∀w∈ws.map M.W.arg,zaR w=true:=λw hw=>by
 obtain⟨u,_,rfl⟩:=Ae3.mp hw
 cases u<;>rfl
theorem jaM (go:Go Γ F X E k cf)(hg:gNm cf.sc f g=v9) (hf:cf.fns.contains f=v9) (hx: ∀e∈x::xs,Qa e=v9) (ha:PA X (x::xs) (tDW Γ E (M.Gi F es))):PE X (.Call g (x::xs) [] pos) (tD Γ E (M.eval F (.call f es))):=by
 obtain⟨p,rfl,h2,h3⟩:=zc hg
 obtain⟨ps,fa,fd,fok,bd,kp,hm⟩:=(go.fn f hf).imp λps h=>h.ex
 refine PE.imp (qbo fok go.room (go.gl _ h2) hm kp bd .nil go.pass ha h3 (xa (hx _ Aa8)) (Zl λe he=>hx e (Aa7 _ he))) λσ H Q qq=> ?_
 obtain⟨G,τ,h,s,p⟩:=qq
 refine Zi s.heap Ext.refl s p λws vs h1 G1 H1 e1 e1' s1 r1 p1=> ?_
 rw [Ae9]
 exact⟨G1,h1,_,s1.heap,Xr r1,Xq ws,PostW.mk p1 e1 s.heap⟩
theorem jaj (go:Go Γ F X E k cf)(hg:gNm cf.sc f g=v9) (hf:cf.fns.contains f=v9):PE X (.Call g [] [] pos) (tD Γ E (M.eval F (.call f .nil))):=by
 obtain⟨p,rfl,h2,h3⟩:=zc hg
 obtain⟨ps,fa,fd,fok,bd,kp,hm⟩:=(go.fn f hf).imp λps h=>h.ex
 refine PE.imp (zaS fok go.room (go.gl _ h2) hm kp bd .nil go.pass h3) λσ H Q qq=> ?_
 obtain⟨G,τ,h,s,p⟩:=qq
 have p:=p
 exact⟨G,h,_,s.heap,Xr (ws:= []) rfl,Xq [],PostW.mk p Ext.refl s.heap⟩
theorem qb4 (b:M.Bi) (hb:zb6 b=v9):bootBuiltins (Ze (biS b))=y0 (biV b):=by
 cases b<;>first | (exact absurd (show u9=v9 from hb) Ab2) | decide +kernel
theorem zcs (b):biS b∈bltN:=by cases b<;>decide
theorem xb4 (go:Go Γ F X E k cf){b:M.Bi}(hb:zb6 b=v9) (hg:gNm cf.sc (biS b) g=v9) (hx: ∀e∈x::xs,Qa e=v9) (ha:PA X (x::xs) (tDW Γ E (M.Gi F es))):PE X (.Call g (x::xs) [] pos) (tD Γ E (M.eval F (.bi b es))):=by
 obtain⟨p,rfl,h2,h3⟩:=zc hg
 have hm:=go.blt _ (zcs b)
 have hn:=Qr (zcs b)
 have bt:=qb4 b hb
 have cr:xn X (biV b) (rBi Γ E b):=jbd b hb go.K go.calm
 have key: ∀σ H Q,tD Γ E (M.eval F (.bi b es)) σ H Q->tCB (rBi Γ E b) (tDW Γ E (M.Gi F es)) σ H Q:=λσ H Q qq=>by
  obtain⟨G,τ,h,s,p⟩:=qq
  refine Zi s.heap Ext.refl s p λws vs h1 G1 H1 e1 e1' s1 r1 p1=> ?_
  exact⟨G1,h1,ws,s1.heap,r1,PostW.mk p1 e1 s.heap⟩
 have s1:=xa (env:=X.env) (es:=xs) (hx _ Aa8)
 have s2:=Zl (env:=X.env) (pos:=pos) λe he=>hx e (Aa7 _ he)
 cases b with
 | len=>exact PE.imp (wm cr (go.gl _ h2) hm bt ha hn h3 s1 s2) key
 | divmod=>cases hb
 | min=>exact PE.imp (wm cr (go.gl _ h2) hm bt ha hn h3 s1 s2) key
 | max=>exact PE.imp (wm cr (go.gl _ h2) hm bt ha hn h3 s1 s2) key
 | int=>exact PE.imp (Jq cr (go.gl _ h2) hm bt ha hn h3 s1 s2) key
 | list=>cases hb
 | tuple=>exact PE.imp (Jq cr (go.gl _ h2) hm bt ha hn h3 s1 s2) key
 | sum=>exact PE.imp (wm cr (go.gl _ h2) hm bt ha hn h3 s1 s2) key
 | all=>exact PE.imp (wm cr (go.gl _ h2) hm bt ha hn h3 s1 s2) key
 | any=>cases hb
 | sorted=>exact PE.imp (wm cr (go.gl _ h2) hm bt ha hn h3 s1 s2) key
 | str=>cases hb
 | abs=>cases hb
theorem base_of (h:xbA o=v9) (w):attributeBase o n env w=w:=by
 cases o<;>first | rfl | exact absurd (h) Ab2
theorem zaq (t): ∀ {ts}{n},M.K8 t ts=y0 n->qbD (txS t) (ts.map txS)=y0 n
 | [],_,e=>by cases e
 | y::ys,n,e=>by
  unfold M.K8 at e
  rw [Ac,qbD]
  split at e
  ·rename_i q
   cases e
   rw [if_pos (by rw [q])]
  ·rename_i q
   obtain⟨k,e1,rfl⟩:=Ad0.mp e
   rw [if_neg (λc=>q (by
    have:=congrArg (λs:Str=>s.cps.toList) c
    simpa [txS]using this)),zaq t e1]
   rfl
theorem xV (z): ∀ts:List M.Tx,Str.join (txS z) (ts.map txS)=txS (M.Ko z ts)
 | []=>rfl
 | [t]=>rfl
 | t::u::r=>by
  have ih:=xV z (u::r)
  simp only [Ac,Str.join,M.Ko]at ih ⊢
  rw [ih,zl,zl]
theorem qT {z:M.Tx}: ∀ts:List M.Tx,(M.Ko z ts).length+z.length=(ts.map λt=>t.length+z.length).sum+(if ts= []then z.length else 0)
 | []=>by simp [M.Ko]
 | [t]=>by simp [M.Ko]
 | t::u::r=>by
  have ih:=qT (z:=z) (u::r)
  simp only [M.Ko,List.sum_cons]at ih ⊢
  simp at ih ⊢
  omega
theorem xU (z): ∀ts:List M.Tx,((ts.map txS).map (·.length)).sum+(ts.map txS).length*(txS z).length=(ts.map λt=>t.length+z.length).sum
 | []=>by simp
 | t::ts=>by
  have ih:=xU z ts
  simp only [Ac,List.sum_cons,Xb,Aa4,Nat.succ_mul]at ih ⊢
  omega
theorem wS (t): ∀ {ts}{n},M.idxI t ts=y0 n->idxI t ts=y0 n
 | [],_,h=>by cases h
 | y::ys,n,h=>by
  rw [M.idxI]at h
  rw [idxI]
  split at h
  ·rename_i q;rw [if_pos q];exact h
  ·rename_i q
   rw [if_neg q]
   obtain⟨k,e,rfl⟩:=Ad0.mp h
   rw [wS t e];rfl
theorem wY {z t:M.Tx}{b:Bool}(h:M.Kw z t=y0 b):Txt.startswith (txS z) (txS t)=b:=by
 unfold M.Kw at h
 split at h
 ·rename_i c
  cases h
  cases z with
  | nil=>rfl
  | cons a r=>
   have e1:(txS [c]).length=1:=rfl
   have e2:(txS (a::r)).length=r.length+1:=by rw [Xb];rfl
   unfold Txt.startswith
   by_cases q:a=c<;>simp [Builtin.Str.subAt,txS,Str.length,q]
 ·cases h
theorem zaB (go:Go Γ F X E k cf)(hm:xco m=v9) (hl:(apos.endLine==k6.line)=v9) (hc:xbA o=v9) (hx:Qa x=v9) (ha:PE X o (tD Γ E (M.eval F a))) (hw:PA X [x] (tDW Γ E (M.Gi F es))):
 PE X (.Call (.Attribute o (Ze (mtS m)) apos) [x] [] k6) (tD Γ E (M.eval F (.meth m a es))):=by
 cases m with
 | index=>
  refine PE.imp (qF PySem.F.plainAttrs_tuple PySem.F.slot_tuple_index PySem.F.type_tuple_index zaV qaB ha hw (base_of hc _) (by rw [xa hx];rfl) hl (xa hx) rfl) λσ H Q qq=> ?_
  obtain⟨G,τ,h,s,p⟩:=qq
  rw [M.eval]at p
  refine Xa s.heap Ext.refl s p λw1 v1 h1 G1 H1 e1 e1' s1 r1 f1 p1=> ?_
  split at p1
  ·rename_i ht
   obtain⟨xs,ex⟩:=Ae6.mp (show w1.tup?.isSome=v9 from ht)
   obtain⟨b,vs,rfl,z2,z3⟩:=r1.tup ex
   refine⟨⟨b,rfl,go.K▸z2.pl⟩,?_⟩
   refine Zi s.heap e1 s1 p1 λws us h2 G2 H2 e2 e2' s2 r2 p2=> ?_
   obtain⟨b',vs',eb,z2',z3'⟩:=RelW.ext (w:= .v (.tup xs)) e2' s1.heap ⟨b,vs,rfl,z2,z3⟩
   cases eb
   cases ws with
   | nil=>exact p2.elim
   | cons w wr=>
    cases wr with
    | cons _ _=>exact p2.elim
    | nil=>
     obtain⟨u,rfl,ru⟩:=r2.one
     have p2:=p2
     obtain⟨ts,q1,p2⟩:=p2.of
     obtain⟨t,q2,p2⟩:=p2.of
     obtain⟨n,q3,p2⟩:=p2.of
     cases ru.str q2
     rw [ex,Ad6]at q1
     cases Qw q1 z3'
     split at p2
     ·exact⟨b,txS t,n,ts.map txS,rfl,rfl,go.K▸StT.sq z2',zaq t q3,(PostW.mk p2 e2 s.heap).v s2.heap rfl⟩
     ·exact p2.elim
  ·exact p1.elim
 | indexI=>
  refine PE.imp (qF PySem.F.plainAttrs_tuple PySem.F.slot_tuple_index PySem.F.type_tuple_index zaV qal ha hw (base_of hc _) (by rw [xa hx];rfl) hl (xa hx) rfl) λσ H Q qq=> ?_
  obtain⟨G,τ,h,s,p⟩:=qq
  rw [M.eval]at p
  refine Xa s.heap Ext.refl s p λw1 v1 h1 G1 H1 e1 e1' s1 r1 f1 p1=> ?_
  split at p1
  ·rename_i ht
   obtain⟨xs,ex⟩:=Ae6.mp (show w1.tup?.isSome=v9 from ht)
   obtain⟨b,vs,rfl,z2,z3⟩:=r1.tup ex
   refine⟨⟨b,rfl,go.K▸z2.pl⟩,?_⟩
   refine Zi s.heap e1 s1 p1 λws us h2 G2 H2 e2 e2' s2 r2 p2=> ?_
   obtain⟨b',vs',eb,z2',z3'⟩:=RelW.ext (w:= .v (.tup xs)) e2' s1.heap ⟨b,vs,rfl,z2,z3⟩
   cases eb
   cases ws with
   | nil=>exact p2.elim
   | cons w wr=>
    cases wr with
    | cons _ _=>exact p2.elim
    | nil=>
     obtain⟨u,rfl,ru⟩:=r2.one
     have p2:=p2
     obtain⟨ts,q1,p2⟩:=p2.of
     obtain⟨t,q2,p2⟩:=p2.of
     obtain⟨n,q3,p2⟩:=p2.of
     cases ru.int q2
     rw [ex,Ad6]at q1
     cases Zn q1 z3'
     exact⟨b,t,n,ts,rfl,rfl,go.K▸StT.sq z2',wS t q3,(PostW.mk p2 e2 s.heap).v s2.heap rfl⟩
  ·exact p1.elim
 | starts=>
  refine PE.imp (qF PySem.F.plainAttrs_str PySem.F.slot_str_startswith PySem.F.type_str_startswith xaY qah ha hw (base_of hc _) (by rw [xa hx];rfl) hl (xa hx) rfl) λσ H Q qq=> ?_
  obtain⟨G,τ,h,s,p⟩:=qq
  rw [M.eval]at p
  refine Xa s.heap Ext.refl s p λw1 v1 h1 G1 H1 e1 e1' s1 r1 f1 p1=> ?_
  split at p1
  ·rename_i ht
   obtain⟨z,ez⟩:=Ae6.mp (show w1.str?.isSome=v9 from ht)
   cases r1.str ez
   refine⟨⟨_,rfl⟩,?_⟩
   refine Zi s.heap e1 s1 p1 λws us h2 G2 H2 e2 e2' s2 r2 p2=> ?_
   cases ws with
   | nil=>exact p2.elim
   | cons w wr=>
    cases wr with
    | cons _ _=>exact p2.elim
    | nil=>
     obtain⟨u,rfl,ru⟩:=r2.one
     have p2:=p2
     obtain⟨z',q1,p3⟩:=p2.of
     obtain⟨t,q2,p4⟩:=p3.of
     obtain⟨b,q3,p5⟩:=p4.of
     rw [ez]at q1
     cases q1
     cases ru.str q2
     refine⟨txS z,txS t,rfl,rfl,?_⟩
     rw [wY q3]
     exact(PostW.mk p5 e2 s.heap).v s2.heap rfl
  ·exact p1.elim
 | join=>
  refine PE.imp (qF PySem.F.plainAttrs_str PySem.F.slot_str_join PySem.F.type_str_join xaY jbb ha hw (base_of hc _) (by rw [xa hx];rfl) hl (xa hx) rfl) λσ H Q qq=> ?_
  obtain⟨G,τ,h,s,p⟩:=qq
  rw [M.eval]at p
  refine Xa s.heap Ext.refl s p λw1 v1 h1 G1 H1 e1 e1' s1 r1 f1 p1=> ?_
  split at p1
  ·rename_i ht
   obtain⟨z,ez⟩:=Ae6.mp (show w1.str?.isSome=v9 from ht)
   cases r1.str ez
   refine⟨⟨_,rfl⟩,?_⟩
   refine Zi s.heap e1 s1 p1 λws us h2 G2 H2 e2 e2' s2 r2 p2=> ?_
   cases ws with
   | nil=>exact p2.elim
   | cons w wr=>
    cases wr with
    | cons _ _=>exact p2.elim
    | nil=>
     obtain⟨u,rfl,ru⟩:=r2.one
     have p2:=p2
     obtain⟨z',q1,p2⟩:=p2.of
     obtain⟨ts,q2,p2⟩:=p2.of
     rw [ez]at q1
     cases q1
     obtain⟨ys,q3,q4⟩:=Ac3.mp q2
     obtain⟨b,vs,rfl,y2,y3⟩:=RelW.lst s2.heap ru q3
     cases Qw q4 y3
     split at p2
     ·rename_i c
      rw [M.Gc]at c
      refine⟨txS z,b,ts.map txS,rfl,rfl,go.K▸y2,?_,?_⟩
      ·unfold JoinOk
       rw [StrLaws.joinTotal]
       have hf:=qT (z:=z) ts
       have hs:=xU z ts
       have: ¬(((ts.map txS).map (·.length)).sum+(ts.map txS).length*(txS z).length>sizeLine):=by
        have:sizeLine>=3000000:=by decide
        split at hf<;>omega
       rw [show Builtin.Str.tooLong (((ts.map txS).map (·.length)).sum+(ts.map txS).length*(txS z).length)=u9 from decide_eq_false this]
       rfl
      ·rw [xV]
       exact(PostW.mk p2 e2 s.heap).v s2.heap rfl
     ·exact p2.elim
  ·exact p1.elim
 | count=>
  refine PE.imp (qF PySem.F.plainAttrs_list PySem.F.slot_list_count PySem.F.type_list_count zbj jaS ha hw (base_of hc _) (by rw [xa hx];rfl) hl (xa hx) rfl) λσ H Q qq=> ?_
  obtain⟨G,τ,h,s,p⟩:=qq
  rw [M.eval]at p
  refine Xa s.heap Ext.refl s p λw1 v1 h1 G1 H1 e1 e1' s1 r1 f1 p1=> ?_
  split at p1
  ·rename_i ht
   obtain⟨ys,ey⟩:=Ae6.mp (show (w1.lst? h1).isSome=v9 from ht)
   obtain⟨b,vs,rfl,z2,z3⟩:=RelW.lst s1.heap r1 ey
   refine⟨⟨b,vs,rfl,go.K▸z2⟩,?_⟩
   refine Zi s.heap e1 s1 p1 λws us h2 G2 H2 e2 e2' s2 r2 p2=> ?_
   cases ws with
   | nil=>exact p2.elim
   | cons w wr=>
    cases wr with
    | cons _ _=>exact p2.elim
    | nil=>
     obtain⟨u,rfl,ru⟩:=r2.one
     have p2:=p2
     obtain⟨is,q1,p2⟩:=p2.of
     obtain⟨i,q2,p2⟩:=p2.of
     obtain⟨ys2,q3,q4⟩:=Ac3.mp q1
     obtain⟨b',vs',eb,y2,y3⟩:=RelW.lst s2.heap (r1.ext e2' s1.heap) q3
     cases eb
     cases Zn q4 y3
     cases ru.int q2
     split at p2
     ·exact⟨b,i,is,rfl,rfl,go.K▸y2,(PostW.mk p2 e2 s.heap).v s2.heap rfl⟩
     ·exact p2.elim
  ·exact p1.elim
theorem zbx (a b):(txS a==txS b)=(a==b):=by
 rw [Bool.eq_iff_iff,beq_iff_eq,beq_iff_eq]
 exact⟨λe=>by simpa [txS]using e,λe=>by rw [e]⟩
theorem jbr (go:Go Γ F X E k cf)(ht:t≠ .non) (hg:gNm cf.sc "isinstance" g=true) (hy:gNm cf.sc (tyS t) y=true) (hx:Qa x=true) (ha:PE X x (tD Γ E (M.eval F a))):PE X (.Call g [x,y] [] pos) (tD Γ E (M.eval F (.isT a t))):=by
 obtain⟨p,rfl,h2,h3⟩:=zc hg
 obtain⟨q,rfl,h4,h5⟩:=zc hy
 have inT:tyS t∈bltN:=by cases t<;>first | exact absurd rfl ht | decide
 have bt:bootBuiltins (Ze (tyS t))=y0 (.type (tyS t)):=by cases t<;>first | exact absurd rfl ht | decide +kernel
 have bi:bootBuiltins (Ze "isinstance")=some (.builtin "isinstance"):=boot_isinstance
 have inI: "isinstance" ∈bltN:=by decide
 have hty:PE X (.Name (Ze (tyS t)) q) (tC (.ty (tyS t))):=qbi (go.gl _ h4) (go.blt _ inT) bt rfl (Qr inT) h5
 refine PE.imp (wm (xaM go.K) (go.gl _ h2) (go.blt _ inI) bi (Jd ha (Jd hty Wk) (xa hx)) (Qr inI) h3 (xa hx) rfl) λσ H Q qq=> ?_
 obtain⟨G,τ,h,s,p⟩:=qq
 rw [M.eval]at p
 refine Xa s.heap Ext.refl s p λw1 v1 h1 G1 H1 e1 e1' s1 r1 f1 p1=> ?_
 obtain⟨c,q',p1⟩:=p1.of
 exact⟨G1,h1,w1,v1,t,c,rfl,ht,s1.heap,r1,q',Post.val p1 e1 s1.heap (v:= .bl c) rfl trivial⟩
theorem jcp (xs:List α) (i):M.atI xs i=L2.atI xs i:=rfl
theorem RelDs.atI (z:RelDs Γ G H ds vs) (e:M.atI ds i=y0 d): ∃v,L2.atI vs i=y0 v/\RelD Γ G H d v:=by
 unfold M.atI at e
 unfold L2.atI
 rw [z.length]at e
 cases q:M.ixN vs.length i with
 | none=>rw [q]at e;cases e
 | some j=>
  rw [q]at e
  obtain⟨v,h1,h2⟩:=z.get (e)
  refine⟨v,?_,h2⟩
  have q':L2.ixN vs.length i=y0 j:=q
  rw [q']
  exact h1
theorem ZR (hy:We y=v9):qao y:=by
 intro o i
 cases y<;>first | rfl | (simp [We]at hy)
theorem zbS (go:Go Γ F X E k cf) (hy:We y=v9) (ha:PE X x (tD Γ E (M.eval F a))) (hb:PE X y (tD Γ E (M.eval F b))):PE X (.Subscript x y pos) (tD Γ E (M.eval F (.ix a b))):=by
 refine PE.imp (jb5 xbH ha hb (ZR hy)) λσ H Q qq=> ?_
 obtain⟨G,τ,h,s,p⟩:=qq
 refine Xa s.heap Ext.refl s p λw1 v1 h1 G1 H1 e1 e1' s1 r1 f1 p1=> ?_
 refine Xa s.heap e1 s1 p1 λw2 v2 h2 G2 H2 e2 e2' s2 r2 f2 p2=> ?_
 obtain⟨d,q,p2⟩:=p2.of
 have r1:=r1.ext e2' s1.heap
 unfold M.ixD at q
 split at q
 ·rename_i i ei
  cases r2.int ei
  split at q
  ·rename_i st es
   cases r1.str es
   split at q
   ·rename_i hl
    cases q2:M.atI st i with
    | none=>rw [q2]at q;cases q
    | some ch=>
     rw [q2]at q
     cases q
     refine .inr (.inr ⟨txS st,i,ch,rfl,rfl,by rw [Xb];have:=Jj;omega,?_,Post.val p2 e2 s2.heap rfl trivial⟩)
     have:(txS st).cps.toList=st:=by simp [txS]
     exact q2
   ·cases q
  ·cases q2:w1.seq? h2 with
   | none=>rw [q2]at q;cases q
   | some ds=>
    rw [q2]at q
    obtain⟨l,vs,rfl,z2,z3⟩:=r1.seq s2.heap q2
    obtain⟨v,e,rd⟩:=z3.atI (q)
    have q3:=Post.val p2 e2 s2.heap rd trivial
    rcases z2 with z2 | z2
    ·exact .inl ⟨l,vs,i,v,rfl,rfl,go.K▸z2,e,q3⟩
    ·exact .inr (.inl ⟨l,vs,i,v,rfl,rfl,go.K▸z2,e,q3⟩)
 ·cases q
end
section
variable {Γ:Ge}{F:M.Fx}{X:Cx}{E:XK}{k:Nat}{cf:Cf}{a b c:M.E}{x y z:Expr}{pos p2:Pos}
theorem j8 (xs:List α) (lo hi):M.cut xs lo hi=(xs.drop (HT.sIx xs.length 0 lo)).take (HT.sIx xs.length xs.length hi-HT.sIx xs.length 0 lo):=by
 unfold M.cut
 have e: ∀d o,M.sIx xs.length d o=HT.sIx xs.length d o:=λd o=>by cases o<;>rfl
 rw [e,e]
theorem RelDs.cut (z:RelDs Γ G H ds vs) (lo hi):RelDs Γ G H (M.cut ds lo hi) (zby vs lo hi):=by
 rw [j8]
 rw [z.length]
 exact(z.drop _).take _
theorem jbc {lo hi:Option Int}(s0:HRel Γ G0 h0 H0) (e:Ext G0 H0 G H) (hr:HRel Γ G h H) (r:RelW Γ G H w v)
 (p:Post Γ E G0 H0 (M.slD w lo hi h) λw _ G' H'=> ∀v,RelW Γ G' H' w v->FreshW τ σ H0 w v->Q v H'):((jca Γ.K v lo hi H Q\/zcg Γ.K v lo hi H Q)\/jcm Γ.K v lo hi H Q)\/xcd v lo hi H Q:=by
 unfold M.slD at p
 split at p
 ·rename_i z q
  cases r.str q
  split at p
  ·rename_i c
   have hL:=Jj
   refine .inr ⟨_,rfl,by rw [Xb];omega,?_⟩
   have e1:qbe (txS z) lo hi=txS (M.cut z lo hi):=by
    unfold qbe
    rw [Xb,j8]
    simp [txS]
   exact PostW.v (PostW.mk p e s0) hr rfl
  ·exact p.elim
 ·split at p
  ·rename_i ds q
   obtain⟨l,vs,rfl,z2,z3⟩:=r.tup q
   by_cases c:HT.sIx vs.length 0 lo=0/\HT.sIx vs.length vs.length hi=vs.length
   ·have e2:M.cut ds lo hi=ds:=by
     rw [j8,z3.length,c.1,c.2,List.drop_zero,Nat.sub_zero,←z3.length,Ai2]
    rw [e2]at p
    exact .inl (.inr ⟨l,vs,rfl,z2.sq,c.1,c.2,p G H e hr _ ⟨l,vs,rfl,z2,z3⟩ trivial⟩)
   ·exact .inl (.inl (.inr ⟨l,vs,rfl,z2.sq,c,λa ha=>PostW.tup (PostW.mk p e s0) hr (z3.cut lo hi) a ha⟩))
  ·split at p
   ·rename_i ds q
    obtain⟨l,vs,rfl,z2,z3⟩:=r.lst hr q
    exact .inl <| .inl <| .inl ⟨l,vs,rfl,z2,λa ha=>PostW.own (PostW.mk p e s0) hr (z3.cut lo hi) a ha⟩
   ·exact p.elim
noncomputable def rSl (K:Aa5):V->Option Int->Option Int->Hp->VK->Prop:=λx lo hi H Q=>((jca K x lo hi H Q\/zcg K x lo hi H Q)\/jcm K x lo hi H Q)\/xcd x lo hi H Q
theorem j7:SlR X (rSl X.K):=((sl_list.or qbS).or xbP).or WA
theorem qbY (go:Go Γ F X E k cf){lo hi:M.E}(ha:PE X x (tD Γ E (M.eval F a))) (hl:PE X l (tD Γ E (M.eval F lo))) (hu:PE X u (tD Γ E (M.eval F hi))):PE X (.Subscript x (.Slice (y0 l) (y0 u) k9 p2) pos) (tD Γ E (M.eval F (.sl a lo hi))):=by
 refine PE.imp (XG j7 ha (WF hl) (WF hu)) λσ H Q qq=> ?_
 obtain⟨G,τ,h,s,p⟩:=qq
 refine Xa s.heap Ext.refl s p λw1 v1 h1 G1 H1 e1 e1' s1 r1 f1 p1=> ?_
 refine Xa s.heap e1 s1 p1 λw2 v2 h2 G2 H2 e2 e2' s2 r2 f2 p2=> ?_
 obtain⟨i,qi,p2⟩:=p2.of
 refine⟨i,r2.int qi,?_⟩
 refine Xa s.heap e2 s2 p2 λw3 v3 h3 G3 H3 e3 e3' s3 r3 f3 p3=> ?_
 obtain⟨j,qj,p3⟩:=p3.of
 exact⟨j,r3.int qj,go.K▸jbc s.heap e3 s3.heap ((r1.ext e2' s1.heap).ext e3' s2.heap) p3⟩
theorem jbe (go:Go Γ F X E k cf){lo:M.E}(ha:PE X x (tD Γ E (M.eval F a))) (hl:PE X l (tD Γ E (M.eval F lo))):PE X (.Subscript x (.Slice (y0 l) k9 k9 p2) pos) (tD Γ E (M.eval F (.slL a lo))):=by
 refine PE.imp (XG j7 ha (WF hl) X2) λσ H Q qq=> ?_
 obtain⟨G,τ,h,s,p⟩:=qq
 refine Xa s.heap Ext.refl s p λw1 v1 h1 G1 H1 e1 e1' s1 r1 f1 p1=> ?_
 refine Xa s.heap e1 s1 p1 λw2 v2 h2 G2 H2 e2 e2' s2 r2 f2 p2=> ?_
 obtain⟨i,qi,p2⟩:=p2.of
 exact⟨i,r2.int qi,go.K▸jbc s.heap e2 s2.heap (r1.ext e2' s1.heap) p2⟩
theorem jbw (go:Go Γ F X E k cf)(ha:PE X x (tD Γ E (M.eval F a))) (hu:PE X u (tD Γ E (M.eval F hi))):PE X (.Subscript x (.Slice k9 (y0 u) k9 p2) pos) (tD Γ E (M.eval F (.slH a hi))):=by
 refine PE.imp (XG j7 ha X2 (WF hu)) λσ H Q qq=> ?_
 obtain⟨G,τ,h,s,p⟩:=qq
 refine Xa s.heap Ext.refl s p λw1 v1 h1 G1 H1 e1 e1' s1 r1 f1 p1=> ?_
 refine Xa s.heap e1 s1 p1 λw2 v2 h2 G2 H2 e2 e2' s2 r2 f2 p2=> ?_
 obtain⟨i,qi,p2⟩:=p2.of
 exact⟨i,r2.int qi,go.K▸jbc s.heap e2 s2.heap (r1.ext e2' s1.heap) p2⟩
theorem xaC {st:Expr}(h:qb6 st=v9): ∃k p q,st= .UnaryOp .USub (.Constant (.int 1) k p) q:=by
 unfold qb6 at h
 split at h
 ·exact⟨_,_,_,rfl⟩
 ·cases h
theorem qbg (go:Go Γ F X E k cf){st:Expr}(hst:qb6 st=v9) (ha:PE X x (tD Γ E (M.eval F a))):PE X (.Subscript x (.Slice k9 k9 (y0 st) p2) pos) (tD Γ E (M.eval F (.rev a))):=by
 obtain⟨k',q1,q2,rfl⟩:=xaC hst
 refine PE.imp (xaI ha (jbU xaW W8)) λσ H Q qq=> ?_
 obtain⟨G,τ,h,s,p⟩:=qq
 refine Xa s.heap Ext.refl s p λw1 v1 h1 G1 H1 e1 e1' s1 r1 f1 p1=> ?_
 obtain⟨ds,q,p1⟩:=p1.of
 obtain⟨l,vs,rfl,z2,z3⟩:=r1.lst s1.heap q
 exact⟨1,rfl,rfl,l,vs,rfl,go.K▸z2,λa' ha'=>PostW.own (PostW.mk p1 e1 s.heap) s1.heap z3.reverse a' ha'⟩
def Gh.cell (G:Gh) (a:Addr):Gh:= { G with rho:=λr=>if r=G.n then a else G.rho r,n:=G.n+1 }
theorem Zm (a):Mon G H (G.cell a) H:=⟨λ_ _ _ z=>z,Ae _,λr hr=>by show(if r=G.n then a else G.rho r)=_;rw [if_neg (by omega)],λ_ z=>z⟩
theorem QL {a:Addr}(hr:HRel Γ G h H) (n1: ¬G.fz a) (n2:Off G a) (e:H a=y0 (.lst vs)) (z:RelDs Γ G H xs vs) (hp:M.Gg xs=v9):HRel Γ (G.cell a) (h++ [.lst xs]) H where
 len:=by rw [Aa1,hr.len];rfl
 cell:=λr ys q=>by
  show ¬G.fz (if r=G.n then a else G.rho r)/\ ∃vs,H (if r=G.n then a else G.rho r)=y0 (.lst vs)/\RelDs Γ (G.cell a) H ys vs
  by_cases hn:r=G.n
  ·rw [if_pos hn]
   rw [hn,←hr.len,Ac5 (Aa6 _),Aj1]at q
   cases q
   exact⟨n1,vs,e,z.mon (Zm a)⟩
  ·rw [if_neg hn]
   have hlt:r<G.n:=by
    have:=(Aa3.mp q).1
    rw [Aa1,hr.len]at this
    simp at this
    omega
   rw [Ac1 (by rw [hr.len];exact hlt)]at q
   obtain⟨z1,vs',z2,z3⟩:=hr.cell r ys q
   exact⟨z1,vs',z2,z3.mon (Zm a)⟩
 pure:=λr ys q=>by
  by_cases hlt:r<h.length
  ·rw [Ac1 hlt]at q;exact hr.pure r ys q
  ·rw [Ac5 (Aj9.mp hlt)]at q
   cases hn:r-h.length with
   | zero=>rw [hn]at q;cases q;exact hp
   | succ m=>rw [hn]at q;simp at q
 inj:=λr s h1 h2 e=>by
  have h1:r<G.n+1:=h1
  have h2:s<G.n+1:=h2
  have e:(if r=G.n then a else G.rho r)=(if s=G.n then a else G.rho s):=e
  by_cases hr1:r=G.n
  ·by_cases hs1:s=G.n
   ·omega
   ·rw [if_pos hr1,if_neg hs1]at e
    exact absurd e.symm (n2 s (by omega))
  ·by_cases hs1:s=G.n
   ·rw [if_neg hr1,if_pos hs1]at e
    exact absurd e (n2 r (by omega))
   ·rw [if_neg hr1,if_neg hs1]at e
    exact hr.inj r s (by omega) (by omega) e
 live:=hr.live
 dic:=λr ks q=>by
  show ¬G.fz (if r=G.n then a else G.rho r)/\ ∃xs,H (if r=G.n then a else G.rho r)=y0 (DW (if r=G.n then a else G.rho r) xs)/\xs.map (·.1)=ks/\ ∀x∈xs,RelD Γ (G.cell a) H (wkT x.1) (.ref x.2.1)
  by_cases hn:r=G.n
  ·rw [hn,←hr.len,Ac5 (Aa6 _),Aj1]at q
   cases q
  ·rw [if_neg hn]
   have hlt:r<G.n:=by
    have:=(Aa3.mp q).1
    rw [Aa1,hr.len]at this
    simp at this
    omega
   rw [Ac1 (by rw [hr.len];exact hlt)]at q
   obtain⟨z1,xs',z2,z3,z4⟩:=hr.dic r ks q
   exact⟨z1,xs',z2,z3,λx hx=>(z4 x hx).mon (Zm a)⟩
 obj:=λr c fs q=>by
  show ¬G.fz (if r=G.n then a else G.rho r)/\M.Gg (fs.map (·.2))=v9/\ ∃dx us,H (if r=G.n then a else G.rho r)=y0 (.ins (Γ.ca c) dx ((fs.map λp=>Str.ofString p.1).zip us))/\RelDs Γ (G.cell a) H (fs.map (·.2)) us
  by_cases hn:r=G.n
  ·rw [hn,←hr.len,Ac5 (Aa6 _),Aj1]at q
   cases q
  ·rw [if_neg hn]
   have hlt:r<G.n:=by
    have:=(Aa3.mp q).1
    rw [Aa1,hr.len]at this
    simp at this
    omega
   rw [Ac1 (by rw [hr.len];exact hlt)]at q
   obtain⟨z1,z0,dx,us,z2,z3⟩:=hr.obj r c fs q
   exact⟨z1,z0,dx,us,z2,z3.mon (Zm a)⟩
theorem zaA {a:Addr}(hr:HRel Γ G h H) (n1: ¬G.fz a) (n2:Off G a)(e:H a=y0 (.ins (Γ.ca c0) dx0 [])):HRel Γ (G.cell a) (h++ [.obj c0 []]) H where
 len:=by rw [Aa1,hr.len];rfl
 cell:=λr ys q=>by
  show ¬G.fz (if r=G.n then a else G.rho r)/\ ∃vs,H (if r=G.n then a else G.rho r)=y0 (.lst vs)/\RelDs Γ (G.cell a) H ys vs
  by_cases hn:r=G.n
  ·rw [hn,←hr.len,Ac5 (Aa6 _),Aj1]at q
   cases q
  ·rw [if_neg hn]
   have hlt:r<G.n:=by
    have:=(Aa3.mp q).1
    rw [Aa1,hr.len]at this
    simp at this
    omega
   rw [Ac1 (by rw [hr.len];exact hlt)]at q
   obtain⟨z1,vs',z2,z3⟩:=hr.cell r ys q
   exact⟨z1,vs',z2,z3.mon (Zm a)⟩
 pure:=λr ys q=>by
  by_cases hlt:r<h.length
  ·rw [Ac1 hlt]at q;exact hr.pure r ys q
  ·rw [Ac5 (Aj9.mp hlt)]at q
   cases hn:r-h.length with
   | zero=>rw [hn]at q;cases q
   | succ m=>rw [hn]at q;simp at q
 inj:=λr s h1 h2 e=>by
  have h1:r<G.n+1:=h1
  have h2:s<G.n+1:=h2
  have e:(if r=G.n then a else G.rho r)=(if s=G.n then a else G.rho s):=e
  by_cases hr1:r=G.n
  ·by_cases hs1:s=G.n
   ·omega
   ·rw [if_pos hr1,if_neg hs1]at e
    exact absurd e.symm (n2 s (by omega))
  ·by_cases hs1:s=G.n
   ·rw [if_neg hr1,if_pos hs1]at e
    exact absurd e (n2 r (by omega))
   ·rw [if_neg hr1,if_neg hs1]at e
    exact hr.inj r s (by omega) (by omega) e
 live:=hr.live
 dic:=λr ks q=>by
  show ¬G.fz (if r=G.n then a else G.rho r)/\ ∃xs,H (if r=G.n then a else G.rho r)=y0 (DW (if r=G.n then a else G.rho r) xs)/\xs.map (·.1)=ks/\ ∀x∈xs,RelD Γ (G.cell a) H (wkT x.1) (.ref x.2.1)
  by_cases hn:r=G.n
  ·rw [hn,←hr.len,Ac5 (Aa6 _),Aj1]at q
   cases q
  ·rw [if_neg hn]
   have hlt:r<G.n:=by
    have:=(Aa3.mp q).1
    rw [Aa1,hr.len]at this
    simp at this
    omega
   rw [Ac1 (by rw [hr.len];exact hlt)]at q
   obtain⟨z1,xs',z2,z3,z4⟩:=hr.dic r ks q
   exact⟨z1,xs',z2,z3,λx hx=>(z4 x hx).mon (Zm a)⟩
 obj:=λr c fs q=>by
  show ¬G.fz (if r=G.n then a else G.rho r)/\M.Gg (fs.map (·.2))=v9/\ ∃dx us,H (if r=G.n then a else G.rho r)=y0 (.ins (Γ.ca c) dx ((fs.map λp=>Str.ofString p.1).zip us))/\RelDs Γ (G.cell a) H (fs.map (·.2)) us
  by_cases hn:r=G.n
  ·rw [if_pos hn]
   rw [hn,←hr.len,Ac5 (Aa6 _),Aj1]at q
   cases q
   exact⟨n1,rfl,dx0,[],e,rfl⟩
  ·rw [if_neg hn]
   have hlt:r<G.n:=by
    have:=(Aa3.mp q).1
    rw [Aa1,hr.len]at this
    simp at this
    omega
   rw [Ac1 (by rw [hr.len];exact hlt)]at q
   obtain⟨z1,z0,dx,us,z2,z3⟩:=hr.obj r c fs q
   exact⟨z1,z0,dx,us,z2,z3.mon (Zm a)⟩
theorem jH {a:Addr}(e:Ext G0 H0 G H) (ha:H0 a=k9):Ext G0 H0 (G.cell a) H where
 keep:=e.keep
 le:=Ac7 e.le (Ae _)
 rho:=λr hr=>by show(if r=G.n then a else G.rho r)=_;rw [if_neg (by have:=e.le;omega)];exact e.rho r hr
 new:=λr h1 h2=>by
  have h2:r<G.n+1:=h2
  show H0 (if r=G.n then a else G.rho r)=k9
  by_cases hn:r=G.n
  ·rw [if_pos hn];exact ha
  ·rw [if_neg hn];exact e.new r h1 (by omega)
 fz:=e.fz
 old:=e.old
 cells:=e.cells
theorem Q1 (ha:PE X x (tD Γ E (M.eval F a))):PE X x (tD Γ E (M.eval F (.share a))):=by
 refine PE.imp ha λσ H Q qq=> ?_
 obtain⟨G,τ,h,s,p⟩:=qq
 refine Xa s.heap Ext.refl s p λw1 v1 h1 G1 H1 e1 e1' s1 r1 f1 p1=> ?_
 cases w1 with
 | own xs=>
  obtain⟨l,vs,rfl,z2,z3,z4,z5⟩:=r1
  obtain⟨l',el,hl⟩:=f1
  cases el
  have p1:Post Γ E G H (if M.Gg xs=v9 then M.okv (.ref h1.length) (h1++ [.lst xs])else .fail) _:=p1
  by_cases hp:M.Gg xs=v9
  rotate_left
  ·rw [if_neg hp]at p1;exact p1.elim
  rw [if_pos hp]at p1
  refine Post.val p1 (jH e1 hl) (QL s1.heap z2 z3 z4 z5 hp) ?_ trivial
  show h1.length<G1.n+1/\V.ref l= .ref (if h1.length=G1.n then l else G1.rho h1.length)
  rw [s1.heap.len,if_pos rfl]
  exact⟨Af1 _,rfl⟩
 | v d=>exact p1.elim
 | bor xs=>exact p1.elim
end
structure zp (Γ:Ge) (J:It) (ds:List M.D) (C:Gh->Hp->Prop):Prop where
 go: ∀i G H,C G H->i<ds.length->J.go i H
 yld: ∀i G H x H',C G H->i<ds.length->J.yld i H x H'-> ∃G',Ext G H G' H'/\(∀ h,HRel Γ G h H->HRel Γ G' h H')/\ ∃d,ds[i]? =y0 d/\RelD Γ G' H' d x
 stop: ∀i G H,C G H->ds.length<=i->i<=ds.length->J.stop i H
 keep: ∀G H G' H' h,C G H->Ext G H G' H'->HRel Γ G h H->C G' H'
noncomputable def Wh (τ:M.Sl) (σ:St) (H:Hp):Hp:=λa=>open Classical in if ∃(i:Nat) (xs:List M.D),M.Gm τ i=y0 (.own xs)/\σ[i]? =y0 (y0 (.ref a))then k9 else H a
noncomputable def tDI (Γ:Ge) (E:XK) (lp:Bool) (m:M.Sl->M.AH->M.R (List M.D)):TI:=λσ H R=> ∃G τ h,StRel Γ G τ h σ H/\Post Γ E G H (m τ h) λds _ G' H'=> ∀J C,zp Γ J ds C->C G' H'->(lp=v9->C G' (Wh τ σ H'))->R J H'
theorem PI.imp (h:PI X tg e t) (k: ∀σ H R,t' σ H R->t σ H R):PI X tg e t':=λu8 s σ H R I q=>h u8 s σ H R I (k _ _ _ q)
section
variable {Γ:Ge}{F:M.Fx}{X:Cx}{E:XK}{k:Nat}{cf:Cf}{a b c:M.E}{x y z tg:Expr}{pos p2:Pos}{lp:Bool}
def LOk (Γ:Ge) (G:Gh) (H:Hp) (l:Addr) (vs:List V):Prop:=(Rd H l (.lst vs)/\Off G l)\/zcu Γ l vs
def CL (Γ:Ge) (ds:List M.D) (l:Addr) (vs:List V) (G:Gh) (H:Hp):Prop:=LOk Γ G H l vs/\RelDs Γ G H ds vs
theorem LOk.sq (z:LOk Γ G H l vs):SqL Γ.K H l vs:=z.elim (λz=> .inl z.1) .inr
theorem StL.lok (z:StL Γ G H l vs) (hr:HRel Γ G h H):LOk Γ G H l vs:=z.elim (λz=> .inl ⟨z.2,hr.off z.1⟩) .inr
theorem CL.keep (z:CL Γ ds l vs G H) (e:Ext G H G' H') (hr:HRel Γ G h H):CL Γ ds l vs G' H':=by
 obtain⟨z1,z3⟩:=z
 refine⟨?_,z3.ext e hr⟩
 rcases z1 with⟨z1,z2⟩ | z1
 ·refine .inl ⟨e.rd z1 z2,?_⟩
  rcases z1 with z1 | ⟨o,z1⟩
  ·exact e.off z1 z2
  ·exact e.off z1 z2
 ·exact .inr z1
theorem CL.walk {K:Aa5}(hK:K=Γ.K):zp Γ (Itl K l) ds (CL Γ ds l vs) where
 go:=λi G H ⟨z1,z3⟩ hi=>by
  obtain⟨v,e,_⟩:=z3.get (Aa9 hi)
  exact⟨vs,v,hK▸z1.sq,e⟩
 yld:=λi G H x H' ⟨z1,z3⟩ hi ⟨e,y⟩=>by
  subst e
  obtain⟨v,e,rd⟩:=z3.get (Aa9 hi)
  have:=y vs (hK▸z1.sq)
  rw [e]at this
  cases this
  exact⟨G,Ext.refl,λ_ q=>q,_,Aa9 hi,rd⟩
 stop:=λi G H ⟨z1,z3⟩ hi _=>⟨vs,hK▸z1.sq,by rw [← z3.length];exact hi⟩
 keep:=λG H G' H' h z e hr=>z.keep e hr
def CT (Γ:Ge) (ds:List M.D) (l:Addr) (vs:List V) (G:Gh) (H:Hp):Prop:=StT Γ G H l vs/\RelDs Γ G H ds vs
theorem StT.mon (z:StT Γ G H l vs) (e:Mon G H G' H'):StT Γ G' H' l vs:=z.elim (λz=> .inl ⟨e.fz l z.1,e.keep l _ z.1 z.2⟩) λz=> .inr z
theorem CT.walk {K:Aa5}(hK:K=Γ.K):zp Γ (Itt K l) ds (CT Γ ds l vs) where
 go:=λi G H ⟨z1,z3⟩ hi=>by
  obtain⟨v,e,_⟩:=z3.get (Aa9 hi)
  exact⟨vs,v,hK▸z1.sq,e⟩
 yld:=λi G H x H' ⟨z1,z3⟩ hi ⟨e,y⟩=>by
  subst e
  obtain⟨v,e,rd⟩:=z3.get (Aa9 hi)
  have:=y vs (hK▸z1.sq)
  rw [e]at this
  cases this
  exact⟨G,Ext.refl,λ_ q=>q,_,Aa9 hi,rd⟩
 stop:=λi G H ⟨z1,z3⟩ hi _=>⟨vs,hK▸z1.sq,by rw [← z3.length];exact hi⟩
 keep:=λG H G' H' h z e hr=>⟨z.1.mon (e.mon hr),z.2.ext e hr⟩
theorem CL.walkR {K:Aa5}(hK:K=Γ.K):zp Γ (Itv K l vs.length) ds.reverse (CL Γ ds l vs) where
 go:=λi G H ⟨z1,z3⟩ hi=>⟨vs,hK▸z1.sq,rfl,by rw [← z3.length];simpa using hi⟩
 yld:=λi G H x H' ⟨z1,z3⟩ hi ⟨e,y⟩=>by
  subst e
  obtain⟨v,e,rd⟩:=z3.reverse.get (Aa9 hi)
  have:=y vs (hK▸z1.sq)
  have hl:i<vs.length:=by rw [← z3.length];simpa using hi
  rw [List.getElem?_reverse hl,this]at e
  cases e
  exact⟨G,Ext.refl,λ_ q=>q,_,Aa9 hi,rd⟩
 stop:=λi G H ⟨z1,z3⟩ hi h2=>by
  have l1:=z3.length
  rw [List.length_reverse]at hi h2
  show i=vs.length
  omega
 keep:=λG H G' H' h z e hr=>z.keep e hr
theorem jE {lo:Int}:zp Γ (Itr lo n) ((Ac0 n).map λ(i:Nat)=>M.D.int (lo+(i:Int))) (λ_ _=>True) where
 go:=λi G H _ hi=>show i<n by simpa using hi
 yld:=λi G H x H' _ hi qq=>by
  obtain⟨e,y⟩:=qq
  subst e y
  have hi:=by simpa using hi
  exact⟨G,Ext.refl,λ_ q=>q,.int (lo+i),by simp [hi],rfl⟩
 stop:=λi G H _ hi _=>show n<=i by simpa using hi
 keep:=λ_ _ _ _ _ _ _ _=>trivial
theorem QB {z:M.Tx}:zp Γ (Its (txS z)) (M.chs z) (λ_ _=>True) where
 go:=λi G H _ hi=>by
  have hi:=by simpa [M.chs]using hi
  exact⟨z[i],by simp [txS,hi]⟩
 yld:=λi G H x H' _ hi qq=>by
  obtain⟨e,c,y1,y2⟩:=qq
  subst e y2
  have hi:=by simpa [M.chs]using hi
  have y1:=by simpa [txS]using y1
  exact⟨G,Ext.refl,λ_ q=>q,.str [c],by simp [M.chs,y1],rfl⟩
 stop:=λi G H _ hi _=>by
  have hi:=by simpa [M.chs]using hi
  show(txS z).cps[i]? =k9
  simp [txS,hi]
 keep:=λ_ _ _ _ _ _ _ _=>trivial
theorem Qf (hn: ¬ ∃ i xs,M.Gm τ i=y0 (.own xs)/\σ[i]? =y0 (y0 (.ref l))):Wh τ σ H l=H l:=by
 unfold Wh
 rw [if_neg hn]
theorem jm (s:StRel Γ G τ h σ H)(e:M.Gm τ i=y0 (.own xs)) (e2:σ[i]? =y0 (y0 (.ref l))): ¬G.fz l/\Off G l/\ ∃vs,H l=y0 (.lst vs)/\RelDs Γ G H xs vs:=by
 obtain⟨v,z1,a,vs,z2,z3,z4,z5,z6⟩:=s.slot i _ e
 rw [e2]at z1
 cases z1
 cases z2
 exact⟨z3,z4,vs,z5,z6⟩
theorem Xm (s:StRel Γ G τ h σ H):Mon G H G (Wh τ σ H):=by
 refine⟨λa o z e=> ?_,Aa6 _,λ_ _=>rfl,λ_ z=>z⟩
 rw [Qf λ⟨i,xs,q1,q2⟩=>(jm s q1 q2).1 z]
 exact e
theorem jaC (go:Go Γ F X E k cf) (ha:PE X x (tD Γ E (M.eval F a))):PI X tg x (tDI Γ E u9 (M.Gy F (.seq a))):=by
 refine PI.imp (qai ha) λσ H R qq=> ?_
 obtain⟨G,τ,h,s,p⟩:=qq
 refine Xa s.heap Ext.refl s p λw1 v1 h1 G1 H1 e1 e1' s1 r1 f1 p1=> ?_
 have lst: ∀ {ds},Post Γ E G H (.ok ds h1) (λds x G' H'=> ∀J C,zp Γ J ds C->C G' H'->(u9=v9->C G' (Wh τ σ H'))->R J H')->(∃ l vs,v1= .ref l/\LOk Γ G1 H1 l vs/\RelDs Γ G1 H1 ds vs) →
  (∃ a,v1= .ref a/\(∃ xs,SqL X.K H1 a xs)/\R (Itl X.K a) H1)\/(∃ a,v1= .ref a/\(∃ xs,SqT X.K H1 a xs)/\R (Itt X.K a) H1)\/ ∃z,v1= .str z/\R (Its z) H1:=λ{ds} p ⟨l,vs,z1,z2,z4⟩=>
  .inl ⟨l,z1,⟨vs,go.K▸z2.sq⟩,p G1 H1 e1 s1.heap _ _ (CL.walk go.K) ⟨z2,z4⟩ λz=>absurd z Ab2⟩
 cases w1 with
 | v d=>
  cases d with
  | tup ds=>
   obtain⟨l,vs,rfl,z2,z3⟩:=r1
   exact .inr (.inl ⟨l,rfl,⟨vs,go.K▸z2.sq⟩,p1 G1 H1 e1 s1.heap _ _ (CT.walk go.K) ⟨z2,z3⟩ λz=>absurd z Ab2⟩)
  | lst ds=>obtain⟨l,vs,z1,z2,z3⟩:=r1;exact lst p1 ⟨l,vs,z1,z2.lok s1.heap,z3⟩
  | non=>exact p1.elim
  | bl _=>exact p1.elim
  | int _=>exact p1.elim
  | str z=>
   cases (show v1= .str (txS z)from r1)
   exact .inr (.inr ⟨_,rfl,p1 G1 H1 e1 s1.heap _ _ QB trivial λz=>absurd z Ab2⟩)
  | ref _=>exact p1.elim
  | exc _ _=>exact p1.elim
 | own ds=>obtain⟨l,vs,z1,_,z3,z4,z5⟩:=r1;exact lst p1 ⟨l,vs,z1,.inl ⟨.inl z4,z3⟩,z5⟩
 | bor ds=>obtain⟨l,vs,z1,z3,z4,z5⟩:=r1;exact lst p1 ⟨l,vs,z1,.inl ⟨z4,z3⟩,z5⟩
theorem zaM (n:Int):((Ac0 n.toNat).map λ(i:Nat)=>M.D.int (i:Int))=(Ac0 n.toNat).map λ(i:Nat)=>M.D.int (0+(i:Int)):=by
 congr 1;funext i;rw [Int.zero_add]
theorem xP: "range" ∈bltN:=by decide
theorem jy (go:Go Γ F X E k cf)(hg:gNm cf.sc "range" g=true) (hx:Qa x=true) (ha:PE X x (tD Γ E (M.eval F a))):PI X tg (.Call g [x] [] pos) (tDI Γ E lp (M.Gy F (.range1 a))):=by
 obtain⟨p,rfl,h2,h3⟩:=zc hg
 refine PI.imp (xad (go.gl _ h2) (go.blt _ xP) (Jd ha Wk (xa hx)) (xa hx)) λσ H R qq=> ?_
 obtain⟨G,τ,h,s,p⟩:=qq
 refine Xa s.heap Ext.refl s p λw1 v1 h1 G1 H1 e1 e1' s1 r1 f1 p1=> ?_
 obtain⟨n,q,p1⟩:=p1.of
 split at p1
 ·rename_i c
  rw [M.Kx]at c
  cases r1.int q
  rw [zaM]at p1
  exact⟨n,rfl,c.1,c.2,p1 G1 H1 e1 s1.heap _ _ jE trivial λ_=>trivial⟩
 ·exact p1.elim
theorem JA (go:Go Γ F X E k cf)(hg:gNm cf.sc "range" g=true) (hx:Qa x=true) (hy:Qa y=true) (ha:PE X x (tD Γ E (M.eval F a))) (hb:PE X y (tD Γ E (M.eval F b))):PI X tg (.Call g [x,y] [] pos) (tDI Γ E lp (M.Gy F (.range2 a b))):=by
 obtain⟨p,rfl,h2,h3⟩:=zc hg
 refine PI.imp (W9 (go.gl _ h2) (go.blt _ xP) (Jd ha (Jd hb Wk (xa hy)) (xa hx)) (by rw [xa hx,xa hy];rfl) (xa hy)) λσ H R qq=> ?_
 obtain⟨G,τ,h,s,p⟩:=qq
 refine Xa s.heap Ext.refl s p λw1 v1 h1 G1 H1 e1 e1' s1 r1 f1 p1=> ?_
 obtain⟨n,q,p1⟩:=p1.of
 refine Xa s.heap e1 s1 p1 λw2 v2 h2 G2 H2 e2 e2' s2 r2 f2 p2=> ?_
 obtain⟨m,q2,p2⟩:=p2.of
 split at p2
 ·rename_i c
  rw [M.Kx]at c
  cases r1.int q
  cases r2.int q2
  exact⟨n,m,rfl,⟨c.1.1,c.1.2,c.2.1,c.2.2⟩,p2 G2 H2 e2 s2.heap _ _ jE trivial λ_=>trivial⟩
 ·exact p2.elim
theorem zaH {lo:Int}:zp Γ (Itw lo n) ((Ac0 n).map λ(i:Nat)=>M.D.int (lo+(i:Int)*2)) (λ_ _=>True) where
 go:=λi G H _ hi=>show i<n by simpa using hi
 yld:=λi G H x H' _ hi qq=>by
  obtain⟨e,y⟩:=qq
  subst e y
  have hi:=by simpa using hi
  exact⟨G,Ext.refl,λ_ q=>q,.int (lo+ i*2),by simp [hi],rfl⟩
 stop:=λi G H _ hi _=>show n<=i by simpa using hi
 keep:=λ_ _ _ _ _ _ _ _=>trivial
theorem qA (go:Go Γ F X E k cf)(hg:gNm cf.sc "range" g=true) (hx:Qa x=true) (hy:Qa y=true) (ha:PE X x (tD Γ E (M.eval F a))) (hb:PE X y (tD Γ E (M.eval F b))):PI X tg (.Call g [x,y,.Constant (.int 2) n2 p2] [] pos) (tDI Γ E lp (M.Gy F (.rangeS a b))):=by
 obtain⟨p,rfl,h2,h3⟩:=zc hg
 refine PI.imp (zao (go.gl _ h2) (go.blt _ xP) (Jd ha (Jd hb (Jd (W8) Wk (xa rfl)) (xa hy)) (xa hx)) (by rw [xa hx,xa hy];rfl) (by rw [xa hy];rfl)) λσ H R qq=> ?_
 obtain⟨G,τ,h,s,p⟩:=qq
 refine Xa s.heap Ext.refl s p λw1 v1 h1 G1 H1 e1 e1' s1 r1 f1 p1=> ?_
 obtain⟨n,q,p1⟩:=p1.of
 refine Xa s.heap e1 s1 p1 λw2 v2 h2 G2 H2 e2 e2' s2 r2 f2 p2=> ?_
 obtain⟨m,q2,p2⟩:=p2.of
 split at p2
 ·rename_i c
  rw [M.Kz]at c
  cases r1.int q
  cases r2.int q2
  exact⟨n,m,rfl,⟨by omega,by omega,by omega,by omega⟩,p2 G2 H2 e2 s2.heap _ _ zaH trivial λ_=>trivial⟩
 ·exact p2.elim
theorem xbB: "reversed" ∈bltN:=by decide
theorem qaL (go:Go Γ F X E k cf)(hg:gNm cf.sc "reversed" g=true) (hx:Qa x=true) (ha:PE X x (tD Γ E (M.eval F a))):PI X tg (.Call g [x] [] pos) (tDI Γ E false (M.Gy F (.rev a))):=by
 obtain⟨p,rfl,h2,h3⟩:=zc hg
 refine PI.imp (j6 (go.gl _ h2) (go.blt _ xbB) (Jd ha Wk (xa hx)) (xa hx)) λσ H R qq=> ?_
 obtain⟨G,τ,h,s,p⟩:=qq
 refine Xa s.heap Ext.refl s p λw1 v1 h1 G1 H1 e1 e1' s1 r1 f1 p1=> ?_
 have lst: ∀ {ds},Post Γ E G H (.ok ds.reverse h1) (λds x G' H'=> ∀J C,zp Γ J ds C->C G' H'->(u9=v9->C G' (Wh τ σ H'))->R J H')->(∃ l vs,v1= .ref l/\LOk Γ G1 H1 l vs/\RelDs Γ G1 H1 ds vs) →
  ∃a xs,[v1]= [.ref a]/\SqL X.K H1 a xs/\R (Itv X.K a xs.length) H1:=λ{ds} p ⟨l,vs,z1,z2,z4⟩=>
  ⟨l,vs,by rw [z1],go.K▸z2.sq,p G1 H1 e1 s1.heap _ _ (CL.walkR go.K) ⟨z2,z4⟩ λz=>absurd z Ab2⟩
 cases w1 with
 | v d=>
  cases d with
  | lst ds=>obtain⟨l,vs,z1,z2,z3⟩:=r1;exact lst p1 ⟨l,vs,z1,z2.lok s1.heap,z3⟩
  | tup _=>exact p1.elim
  | non=>exact p1.elim
  | bl _=>exact p1.elim
  | int _=>exact p1.elim
  | str _=>exact p1.elim
  | ref _=>exact p1.elim
  | exc _ _=>exact p1.elim
 | own ds=>obtain⟨l,vs,z1,_,z3,z4,z5⟩:=r1;exact lst p1 ⟨l,vs,z1,.inl ⟨.inl z4,z3⟩,z5⟩
 | bor ds=>obtain⟨l,vs,z1,z3,z4,z5⟩:=r1;exact lst p1 ⟨l,vs,z1,.inl ⟨z4,z3⟩,z5⟩
end
section
variable {Γ:Ge}{F:M.Fx}{X:Cx}{E:XK}{k:Nat}{cf:Cf}
theorem Qe: ∀(τ) (i j) (w),M.Gm (M.Kg τ i w) j=if j=i/\i<τ.length then y0 w else M.Gm τ j
 | [],i,j,w=>by simp
 | x::r,0,0,w=>by simp
 | x::r,0,j+1,w=>by simp
 | x::r,i+1,0,w=>by simp
 | x::r,i+1,j+1,w=>by
  have:=Qe r i j w
  simp only [M.Kg,M.Gm,this,Aa4]
  by_cases h:j=i/\i<r.length
  ·rw [if_pos h,if_pos (by omega)]
  ·rw [if_neg h,if_neg (by omega)]
theorem Wl: ∀(τ) (i) (w),(M.Kg τ i w).length=τ.length
 | [],_,_=>rfl
 | _::_,0,_=>rfl
 | _::r,i+1,w=>by simp [Wl r i w]
theorem qo: ∀ {τ}{i}{w},M.Gm τ i=y0 w->i<τ.length
 | [],_,_,e=>by simp at e
 | _::_,0,_,_=>by simp
 | _::r,i+1,w,e=>by
  have:=qo (by simpa using e)
  simp;omega
theorem StRel.set (s:StRel Γ G τ h σ H)(r:RelW Γ G H w v)
 (ap:isL w=v9-> ∀ j w',j≠i->M.Gm τ j=y0 w'->isL w'=v9-> ∀a,v= .ref a->σ[j]? ≠y0 (y0 (.ref a))):StRel Γ G (M.Kg τ i w) h (σ.set i (y0 v)) H where
 len:=by rw [Wl,Ad1];exact s.len
 slot:=λj w' e=>by
  rw [Qe]at e
  by_cases c:j=i/\i<τ.length
  ·rw [if_pos c]at e
   cases e
   obtain⟨rfl,c⟩:=c
   exact⟨v,Ac2 (by rw [← s.len];exact c),r⟩
  ·rw [if_neg c]at e
   have hj:=λz=>c ⟨z,by subst z;exact qo e⟩
   obtain⟨v',z1,z2⟩:=s.slot j w' e
   exact⟨v',by rw [Ac9 (Ne.symm hj)];exact z1,z2⟩
 apart:=λp q xs w' a hpq e1 e2 hl e3=>by
  rw [Qe]at e1 e2
  by_cases cp:p=i/\i<τ.length
  ·rw [if_pos cp]at e1
   cases e1
   obtain⟨rfl,cp⟩:=cp
   rw [if_neg (λz=>hpq z.1.symm)]at e2
   rw [Ac2 (by rw [← s.len];exact cp)]at e3
   cases e3
   rw [Ac9 hpq]
   exact ap rfl q w' (Ne.symm hpq) e2 hl a rfl
  ·rw [if_neg cp]at e1
   have hp:=λz=>cp ⟨z,by subst z;exact qo e1⟩
   rw [Ac9 (Ne.symm hp)]at e3
   by_cases cq:q=i/\i<τ.length
   ·rw [if_pos cq]at e2
    cases e2
    obtain⟨rfl,cq⟩:=cq
    rw [Ac2 (by rw [← s.len];exact cq)]
    intro z
    cases z
    exact ap hl p _ hp e1 rfl a rfl e3
   ·rw [if_neg cq]at e2
    have hq:=λz=>cq ⟨z,by subst z;exact qo e2⟩
    rw [Ac9 (Ne.symm hq)]
    exact s.apart p q xs w' a hpq e1 e2 hl e3
 heap:=s.heap
theorem StRel.setD (s:StRel Γ G τ h σ H)(r:RelD Γ G H d v):StRel Γ G (M.Kg τ i (.v d)) h (σ.set i (y0 v)) H:=s.set r λz=>by cases z
def zaT:List Nat->List V->St->St
 | i::is,v::vs,σ=>zaT is vs (σ.set i (y0 v))
 | _,_,σ=>σ
theorem JE : ∀ {is}{ds}{vs}{τ τ'}{σ},M.setTup is ds τ=y0 τ'->RelDs Γ G H ds vs->StRel Γ G τ h σ H->StRel Γ G τ' h (zaT is vs σ) H/\is.length=vs.length
 | [],[],_,_,_,_,e,rfl,s=>by cases e;exact⟨s,rfl⟩
 | [],_::_,_,_,_,_,e,_,_=>by simp [M.setTup]at e
 | _::_,[],_,_,_,_,e,_,_=>by simp [M.setTup]at e
 | i::is,d::ds,_,_,_,_,e,⟨v,r,rfl,z1,z2⟩,s=>by
  obtain⟨h1,h2⟩:=JE (by simpa [M.setTup]using e) z2 (s.setD z1)
  exact⟨h1,congrArg (· +1) h2⟩
noncomputable def gM (Γ:Ge) (tg:List Nat) (one:Bool):TG:=λv σ H Q=>match one with
 | true=> ∃i,tg= [i]/\Q (σ.set i (y0 v)) H
 | false=> ∃G ds vs a,v= .ref a/\StT Γ G H a vs/\RelDs Γ G H ds vs/\tg.length=vs.length/\Q (zaT tg vs σ) H
theorem wN (go:Go Γ F X E k cf): ∀ {is}{es},xr cf is es=v9->PGs X es (λvs σ H Q=>vs.length=is.length/\Q (zaT is vs σ) H)
 | [],[],_=>λu8 s σ H vs us Q I r h=>by
  have hl:=Ag5 h.1
  subst hl
  exact xbu u8 s σ H [] us Q I r ⟨rfl,h.2⟩
 | [],_::_,h=>by simp [xr]at h
 | _::_,[],h=>by simp [xr]at h
 | i::is,e::es,h=>by
  cases e with
  | Name x p=>
   simp only [xr,Ab4,decide_eq_true_eq]at h
   obtain⟨⟨h1,h2⟩,h3⟩:=h
   have ih:=wN go h3
   have hl:=go.sto x h2
   have key:=xaP (zau (pos:=p) (by rw [go.N];exact go.nd) (by rw [go.N];exact h1) hl.1 hl.2) ih
   intro u8 s σ H vs us Q I r q
   refine key u8 s σ H vs us Q I r ?_
   cases vs with
   | nil=>simp at q
   | cons v vs=>
    refine⟨v,vs,rfl,?_⟩
    exact⟨by simpa using q.1,q.2⟩
  | _=>simp [xr]at h
theorem Q0 : ∀ {is}{es},xr cf is es=v9->(assignEach es env).length=is.length/\(assignEach es env).findIdx? (·.1)=k9
 | [],[],_=>⟨rfl,rfl⟩
 | [],_::_,h=>by simp [xr]at h
 | _::_,[],h=>by simp [xr]at h
 | i::is,e::es,h=>by
  cases e with
  | Name x p=>
   simp only [xr,Ab4]at h
   obtain⟨h1,h2⟩:=Q0 h.2
   have e1:assignEach (.Name x p::es) env=(u9,assign (.Name x p) env)::assignEach es env:=rfl
   rw [e1]
   refine⟨congrArg (· +1) h1,?_⟩
   rw [List.findIdx?_cons]
   simp [h2]
  | _=>simp [xr]at h
theorem ZA (go:Go Γ F X E k cf)(h:Xe cf tg one e=v9):PG X e (gM Γ tg one):=by
 cases one with
 | true=>
  cases e with
  | Name x p=>
   simp only [Xe,Ab4]at h
   cases tg with
   | nil=>simp at h
   | cons i r=>
    cases r with
    | cons _ _=>simp at h
    | nil=>
     simp only [xr,Ab4,decide_eq_true_eq]at h
     obtain⟨_,⟨h1,h2⟩,_⟩:=h
     have hl:=go.sto x h2
     have key:=zau (pos:=p) (by rw [go.N];exact go.nd) (by rw [go.N];exact h1) hl.1 hl.2
     intro u8 s σ H v u Q I r q
     obtain⟨j,e,q⟩:=q
     cases e
     exact key u8 s σ H v u Q I r q
  | _=>simp [Xe]at h
 | false=>
  cases e with
  | Tuple es n p=>
   have h:=h
   obtain⟨hn,hst⟩:=Q0 h
   have key:=qbZ (k:=n) (pos:=p) go.calm (wN go h) hn hst
   intro u8 s σ H v u Q I r q
   obtain⟨G,ds,vs,a,rfl,z1,z2,z3,q⟩:=q
   exact key u8 s σ H _ u Q I r ⟨a,vs,rfl,go.K▸z1.sq,z3.symm,z3.symm,q⟩
  | _=>simp [Xe]at h
theorem ql (k) (l): ∀ i,M.Gm (Aa0 k k9++l) (k+i)=M.Gm l i:=by
 induction k with
 | zero=>intro i;simp
 | succ k ih=>intro i;rw [Ac8,show k+1+i=(k+i)+1 by omega];exact ih i
theorem Zp (k) (l): ∀ {i},i<k->M.Gm (Aa0 k k9++l) i=none:=by
 induction k with
 | zero=>intro i h;omega
 | succ k ih=>
  intro i h
  cases i with
  | zero=>rfl
  | succ i=>rw [Ac8];exact ih (by omega)
theorem Zw: ∀(l) (i),M.Gm l i=(l[i]?).join
 | [],_=>by simp
 | _::_,0=>by simp
 | _::r,i+1=>by simpa using Zw r i
theorem QD (s:StRel Γ G τ h σ H)(e:M.Gn τ j=y0 w): ∃v,σ[j]? =y0 (y0 v)/\RelW Γ G H w v/\(isL w=v9-> ∃w',M.Gm τ j=y0 w'/\isL w'=v9)/\zaR w=true:=by
 unfold M.Gn at e
 cases q:M.Gm τ j with
 | none=>rw [q]at e;cases e
 | some w'=>
  obtain⟨v,z1,z2⟩:=s.slot j w' q
  rw [q]at e
  cases w' with
  | v d=>cases e;exact⟨v,z1,z2,λz=>(by cases z),rfl⟩
  | own xs=>cases e;obtain⟨a,vs,y1,y2,y3,y4,y5⟩:=z2;exact⟨v,z1,⟨a,vs,y1,y3,.inl y4,y5⟩,λ_=>⟨_,rfl,rfl⟩,rfl⟩
  | bor xs=>cases e;exact⟨v,z1,z2,λ_=>⟨_,rfl,rfl⟩,rfl⟩
def qaQ (k:Nat) (cap:List Nat) (τ:M.Sl):M.Sl:=Aa0 k k9++cap.map λj=>M.Gn τ j
theorem qbh (s:StRel Γ G τ h σ H) (kk) (cap)(u7:σb.length=kk+cap.length) (hcap: ∀i,i<cap.length->σb[kk+i]? =y0 ((σ[cap.getD i 0]?).join)):
 StRel Γ G (qaQ kk cap τ) h σb H where
 len:=by unfold qaQ;rw [Aa1,Ae1,Ac4,u7]
 slot:=λi w e=>by
  unfold qaQ at e
  by_cases hi:i<kk
  ·rw [Zp kk _ hi]at e;cases e
  ·obtain⟨j,rfl⟩: ∃j,i=kk+j:=⟨i-kk,by omega⟩
   rw [ql,Zw,Ad4]at e
   cases q:cap[j]? with
   | none=>rw [q]at e;cases e
   | some c=>
    rw [q]at e
    have e:=e
    obtain⟨v,z1,z2,_⟩:=QD s e
    have hj:=(Aa3.mp q).1
    refine⟨v,?_,z2⟩
    rw [hcap j hj,Ad3,q]
    show y0 ((σ[c]?).join)=_
    rw [z1]
    rfl
 apart:=λi j xs w a hij e1 e2 hl e3=>by
  exfalso
  unfold qaQ at e1
  by_cases hi:i<kk
  ·rw [Zp kk _ hi]at e1;cases e1
  ·obtain⟨i',rfl⟩: ∃j,i=kk+j:=⟨i-kk,by omega⟩
   rw [ql,Zw,Ad4]at e1
   cases q:cap[i']? with
   | none=>rw [q]at e1;cases e1
   | some c=>
    rw [q]at e1
    have e1:=e1
    obtain⟨_,_,_,_,z⟩:=QD s e1
    cases z
 heap:=s.heap
end
theorem Xd {env:Env}{kd:NameKind}(hk:kd≠ .free): ∀ {names:List (Str×NameKind)}{x},names.lookup x=y0 kd →
 (names.map λ(n,k)=>if(k==NameKind.free&&env.scope.kind== .function&&env.kindOf n==y0 .cell)then(n,NameKind.cell)else(n,k)).lookup x=y0 kd
 | [],_,h=>by simp at h
 | (n,k)::r,x,h=>by
  have ih:= @Xd env kd hk r x
  rw [Ac]
  rw [Ab7]at h
  cases hx:x==n with
  | true=>
   rw [hx]at h
   have e:=by simpa using h
   subst e
   have hf:(k==NameKind.free)=false:=by simpa using hk
   simp only [hf,Bool.false_and,Af7,if_false,Ab7,hx]
  | false=>
   rw [hx]at h
   have q:=ih h
   by_cases hcond:(k==NameKind.free&&env.scope.kind== .function&&env.kindOf n==y0 .cell)=v9
   ·simp only [hcond,if_true,Ab7,hx]
    exact q
   ·have hcf:=Aj7.mpr hcond
    simp only [hcf,Af7,if_false,Ab7,hx]
    exact q
section
variable {Γ:Ge}{F:M.Fx}{X:Cx}{E:XK}{k:Nat}{cf:Cf}
structure xbC (cf:Cf) (scope:Scope) (N:List Str) (k:Nat) (cap:List Nat):Prop where
 kind:scope.kind= .function
 ndn:(scope.names.map Prod.fst).Nodup
 names: ∀y∈scope.names,y.2= .local->scope.names.lookup y.1=y0 .local
 free: ∀y∈scope.names,y.2= .free->cf.sc.names.lookup y.1=y0 .cell\/cf.sc.names.lookup y.1=y0 .free
 capf: ∀x∈N.drop k,scope.names.lookup x=y0 .free
 cap:zC cf cap (N.drop k)=v9
 le:k<=N.length
 nd:N.Nodup
theorem JB (h:qO cf scope N kk cap=v9):xbC cf scope N kk cap:=by
 simp only [qO,Ab4,decide_eq_true_eq,Ah0]at h
 obtain⟨⟨⟨⟨⟨⟨⟨⟨h1,h2⟩,h3⟩,h4⟩,h5⟩,h6⟩,h7⟩,h8⟩,h9⟩:=h
 exact⟨h1,h2,λy hy=>h3 y hy,λy hy=>h4 y hy,λx hx=>h5 x hx,h6,h7,h8⟩
theorem qL (go:Go Γ F X E k cf): ∀ {cap}{xs},zC cf cap xs=v9->CapOk X cap xs
 | [],[],_=>trivial
 | [],_::_,h=>by simp [zC]at h
 | _::_,[],h=>by simp [zC]at h
 | j::js,x::xs,h=>by
  simp only [zC,Ab4,decide_eq_true_eq]at h
  obtain⟨⟨h1,h2⟩,h3⟩:=h
  exact⟨by rw [go.N];exact h1,go.cel x h2,qL go h3⟩
theorem XL (go:Go Γ F X E k cf)(h:xbC cf scope N kk cap):QM X scope N kk cap:=
 ⟨h.kind,h.ndn,h.names,λy hy hf=>go.cel y.1 (h.free y hy hf),h.capf,qL go h.cap,h.le⟩
theorem ZV (h:XN sc x=v9):sc.names.lookup x=y0 .local\/sc.names.lookup x=y0 .cell\/sc.names.lookup x=y0 .free:=by
 unfold XN at h
 split at h
 ·rename_i q;exact .inl q
 ·rename_i q;exact .inr (.inl q)
 ·rename_i q;exact .inr (.inr q)
 ·cases h
theorem QT (h:jby sc x=v9):sc.names.lookup x=y0 .local\/sc.names.lookup x=y0 .cell:=by
 unfold jby at h
 split at h
 ·rename_i q;exact .inl q
 ·rename_i q;exact .inr q
 ·cases h
theorem JP (h:glB sc x=v9):sc.names.lookup x=y0 .globalImplicit:=by
 unfold glB at h
 split at h
 ·rename_i q;exact q
 ·cases h
theorem Qu (go:Go Γ F X E k cf)(h:xbC cf scope N kk cap) (C:Addr) (fp:List Addr) (s:Shared) (H:Hp):Go Γ F (Xc X N scope C fp s H) E0 k { cf with sc:=scope,N:=N } where
 N:=rfl
 K:=go.K
 cl:=go.cl
 ow:=go.ow
 nd:=h.nd
 vis:=λx hx=>by
  rcases ZV hx with q | q | q
  ·exact .inl (Xd (by decide) q)
  ·exact .inr (.inl (Xd (by decide) q))
  ·exact .inr (Xh q)
 lcl:=λx hx=>Xd (by decide) hx
 sto:=λx hx=>by
  rcases QT hx with q | q
  ·exact⟨.inl (Xd (by decide) q),.inr (Xd (by decide) q)⟩
  ·exact⟨.inr (Xd (by decide) q),.inl (decide_eq_true q)⟩
 cel:=λx hx=>by
  rcases hx with q | q
  ·exact .inl (Xd (by decide) q)
  ·exact Xh q
 gl:=λx hx=>Xd (by decide) (JP hx)
 calm:=go.calm
 room:=go.room
 room1:=go.room1
 pass:=λu8 σ H' s' e s'' _ hq=>by
  obtain⟨x,C',t,B,H2,_,_,_,_,_,_,_,_,hE⟩:=hq
  exact hE.elim
 blt:=go.blt
 con:=go.con
 fn:=λf hf=>by
  obtain⟨ps,fa,fd,h1,h2,h3,h4⟩:=(go.fn f hf).imp λps h=>h.ex
  exact⟨ps,⟨fa,fd,h1,h2,h3,h4⟩⟩
 cls:=go.cls
 fld:=go.fld
 mth:=go.mth
 mks:=go.mks
theorem xT: ∀(is) (vs) (σ) (j),j∉is->(zaT is vs σ)[j]? =σ[j]?
 | [],_,_,_,_=>rfl
 | _::_,[],_,_,_=>rfl
 | i::is,v::vs,σ,j,h=>by
  show(zaT is vs (σ.set i (y0 v)))[j]? =σ[j]?
  rw [xT is vs _ j λz=>h (Aa7 _ z),Ac9 (λz:i=j=>h (by rw [z];exact Aa8))]
theorem Qy: ∀(is) (vs) (σ),(zaT is vs σ).length=σ.length
 | [],_,_=>rfl
 | _::_,[],_=>rfl
 | i::is,v::vs,σ=>by
  show(zaT is vs (σ.set i (y0 v))).length=σ.length
  rw [Qy is vs,Ad1]
theorem bind_ok (e:M.GQ tg one d τ=y0 τ') (r:RelD Γ G H d x) (s:StRel Γ G τ h σ H)
 (kq: ∀σ',StRel Γ G τ' h σ' H->(∀ j,j∉tg->σ'[j]? =σ[j]?)->σ'.length=σ.length->Q σ' H):gM Γ tg one x σ H Q:=by
 cases one with
 | true=>
  cases tg with
  | nil=>cases e
  | cons i r'=>
   cases r' with
   | cons _ _=>cases e
   | nil=>
    cases e
    exact⟨i,rfl,kq _ (s.setD r) (λj hj=>Ac9 λz=>hj (by simp [z])) (Ad1 ..)⟩
 | false=>
  cases d with
  | tup ds=>
   obtain⟨a,vs,rfl,z2,z3⟩:=r
   obtain⟨s',hl⟩:=JE (e) z3 s
   exact⟨G,ds,vs,a,rfl,z2,z3,hl,kq _ s' (λj hj=>xT tg vs σ j hj) (Qy tg vs σ)⟩
  | _=>cases e
theorem qK {step:M.D->M.AH->M.R (Option M.D)}: ∀ {ds}{h}{d}{h'},M.GK step ds h≠ .exc d h'
 | [],_,_,_=>λe=>by cases e
 | x::ds,h,d,h'=>λe=>by
  rw [M.GK]at e
  split at e
  ·split at e<;>cases e
  ·cases e
theorem QO {step:M.D->M.AH->M.R (Option M.D)}(e:M.GK step (x::ds) h= .ok ys hf): ∃o h1 r,step x h= .ok o h1/\M.GK step ds h1= .ok r hf/\ys=(match o with | some y=>y::r | none=>r):=by
 rw [M.GK]at e
 split at e
 ·rename_i o h1 e1
  split at e
  ·rename_i r h2 e2
   cases e
   exact⟨o,h1,r,e1,e2,rfl⟩
  ·cases e
 ·cases e
noncomputable def qad (F:M.Fx) (tg:List Nat) (one:Bool) (τb:M.Sl) (u6:Bool) (c elt:M.E):M.D->M.AH->M.R (Option M.D):=λd h=>match M.GQ tg one d τb with
 | none=> .fail
 | some τ'=>(if u6 then(M.eval F c τ' h).bind λx h=>M.R.of h (M.KB h x)else .ok v9 h).bind λb h=>match b with
  | true=>(M.eval F elt τ' h).bind λy h=>(M.R.of h y.d).bind λy h=> .ok (y0 y) h
  | false=> .ok k9 h
theorem zag :M.eval F (.comp tg one kk cap it u6 c elt) τ h=(M.Gy F it τ h).bind λds h=>
 if ds.length<=M.LIM then(M.GK (qad F tg one (qaQ kk cap τ) u6 c elt) ds h).bind λys h=> .ok (.own ys) h else .fail:=by
 rw [M.eval];rfl
noncomputable def xX (F:M.Fx) (u6:Bool) (c:M.E):M.Sl->M.AH->M.R Bool:=λτ h=>if u6 then M.Gp F c τ h else .ok v9 h
theorem Qg {r:M.R α}(e:r.bind f= .ok b h): ∃a h1,r= .ok a h1/\f a h1= .ok b h:=by
 cases r with
 | ok a h1=>exact⟨a,h1,rfl,e⟩
 | exc d h1=>cases e
 | fail=>cases e
theorem jQ (hset:wg iter=v9): ∀v,foldedSetIterable iter env v=pure v:=λv=>by cases iter<;>first | rfl | (simp [wg]at hset)
theorem jap (htk: ∀i∈tg,i<kk)(h0:tD Γ E (M.eval F (.comp tg one kk cap it u6 c elt)) σ H Q):
 jaD kk cap (tDI Γ E u9 (M.Gy F it)) (λ_ _ _ _=>gM Γ tg one) (λ_ _ _ _=>tDT Γ E0 (xX F u6 c)) (λ_ _ _ _=>tD Γ E0 (M.eval F elt)) σ H Q:=by
 obtain⟨G,τ,h,s,p⟩:=h0
 rw [zag]at p
 refine⟨G,τ,h,s,?_⟩
 cases qi:M.Gy F it τ h with
 | exc d h'=>rw [qi]at p;exact p
 | fail=>rw [qi]at p;exact p
 | ok ds h1=>
  rw [qi]at p
  intro G1 H1 e1 hr1 J C wj c0 _ Ca fp st
  have p:Post Γ E G H (if ds.length<=M.LIM then(M.GK (qad F tg one (qaQ kk cap τ) u6 c elt) ds h1).bind λys h=> .ok (.own ys) h else .fail) λw h' G' H'=> ∀v,RelW Γ G' H' w v->FreshW τ σ H w v->Q v H':=p
  by_cases hL:ds.length<=M.LIM
  rotate_left
  ·rw [if_neg hL]at p;exact p.elim
  rw [if_pos hL]at p
  cases qc:M.GK (qad F tg one (qaQ kk cap τ) u6 c elt) ds h1 with
  | exc d h'=>exact absurd qc qK
  | fail=>rw [qc]at p;exact p.elim
  | ok ys hf=>
   rw [qc]at p
   have p:=p
   have hLs:=Jj
   refine⟨λi m yv σb H'=> ∃G' h' done Xo,(m=ds.length-i/\i<=ds.length/\done.length<=i)/\Ext G1 H1 G' H'/\HRel Γ G' h' H'/\C G' H'/\RelDs Γ G' H' done yv ∧
    M.GK (qad F tg one (qaQ kk cap τ) u6 c elt) (ds.drop i) h'= .ok Xo hf/\ys=done++Xo/\σb.length=kk+cap.length/\ ∀j,j<cap.length->σb[kk+j]? =y0 ((σ[cap.getD j 0]?).join),⟨ds.length,?_⟩,?_⟩
   ·refine⟨G1,h1,[],ys,⟨by simp,Ae7 _,Aa6 _⟩,Ext.refl,hr1,c0,rfl,qc,rfl,?_,λj hj=> ?_⟩
    ·unfold xab;rw [Aa1,Ae1,Ac4]
    ·unfold xab
     rw [Ac5 (by simp),Ae1,Nat.add_sub_cancel_left,Ad4,Aa9 hj,Ad3,Aa9 hj]
     rfl
   ·rintro i m yv σb H' ⟨G',h',done,Xo,⟨rfl,hi',hd⟩,e2,hr2,c2,rd,qg,eys,u7,hcap⟩
    have ldone:=rd.length
    by_cases hlt:i<ds.length
    ·refine .inr ⟨wj.go i G' H' c2 hlt,by omega,_,λyv' σb' H'' w=>⟨ds.length-(i+1),by omega,w⟩,λx H'' hy=> ?_⟩
     obtain⟨G4,x4,hx4,d,ed,rdx⟩:=wj.yld i G' H' x H'' c2 hlt hy
     have c2:=wj.keep _ _ _ _ h' c2 x4 hr2
     have rd:=rd.ext x4 hr2
     have e2:=e2.trans hr1 x4
     have hr2:=hx4 _ hr2
     have edr:ds.drop i=d::ds.drop (i+1):=by
      rw [Aj4 hlt]
      rw [Aa9 hlt]at ed
      cases ed
      rfl
     rw [edr]at qg
     obtain⟨o,h2,r,qs,qg2,er⟩:=QO qg
     unfold qad at qs
     cases qb:M.GQ tg one d (qaQ kk cap τ)with
     | none=>rw [qb]at qs;cases qs
     | some τ'=>
      rw [qb]at qs
      have so:=s.ext (e1.trans s.heap e2) hr2
      have sb:=qbh so kk cap u7 hcap
      refine bind_ok qb rdx sb λσ2 s2 same hl2=> ?_
      have hcap2: ∀j,j<cap.length->σ2[kk+j]? =y0 ((σ[cap.getD j 0]?).join):=λj hj=>by
       rw [same _ λz=>by have:=htk _ z;omega];exact hcap j hj
      obtain⟨b,h3,qcond,qrest⟩:=Qg (show (xX F u6 c τ' h').bind _=_ from qs)
      refine⟨G4,τ',h',s2,?_⟩
      rw [qcond]
      intro G3 H3 e3 hr3
      have s3:=s2.ext e3 hr3
      cases b with
      | false=>
       refine jb9 ?_
       have qrest:=qrest
       cases qrest
       exact⟨G3,_,done,r,⟨rfl,by omega,by omega⟩,e2.trans hr1 e3,hr3,wj.keep _ _ _ _ h' c2 e3 hr2,rd.ext e3 hr2,qg2,by rw [eys,er],by rw [hl2];exact u7,hcap2⟩
      | true=>
       refine zb7 ?_
       obtain⟨w,h4,qe,qrest⟩:=Qg (qrest)
       refine⟨G3,τ',h3,s3,?_⟩
       rw [qe]
       intro G4 H4 e4 hr4 v rw' fw
       obtain⟨dd,h5,qd,qrest⟩:=Qg (qrest)
       cases qw:w.d with
       | none=>rw [qw]at qd;cases qd
       | some d'=>
        rw [qw]at qd
        cases qd
        cases (qrest)
        have s4:=s3.ext e4 hr4
        obtain⟨G5,e5,s5,rdv,m5⟩:=toD e4 s4 s3 rw' fw qw
        have e35:=e3.trans hr2 e5
        refine⟨G5,_,done++ [dd],r,⟨rfl,by omega,by rw [Aa1,Ai1];omega⟩,e2.trans hr1 e35,s5.heap,wj.keep _ _ _ _ h' c2 e35 hr2,(rd.ext e35 hr2).append ⟨v,[],rfl,rdv,rfl⟩,qg2,?_,by rw [hl2];exact u7,hcap2⟩
        rw [eys,er]
        simp
    ·have ei:i=ds.length:=by omega
     subst ei
     rw [Am1]at qg
     cases (qg)
     rw [Ae9]at eys
     subst eys
     exact .inl ⟨wj.stop _ G' H' c2 (Aa6 _) (Aa6 _),by omega,λD hD=>PostW.own (PostW.mk p (e1.trans s.heap e2) s.heap) hr2 rd D hD⟩
theorem xaJ (go:Go Γ F X E k cf)(hsc:xbC cf scope N kk cap)
 (hcl:cap.length=(N.drop kk).length) (htg:Xe { cf with sc:=scope,N:=N } tg one t=v9) (htk: ∀i∈tg,i<kk) (hset:wg iter=v9)
 (hi:PI X t iter (tDI Γ E u9 (M.Gy F it)))
 (he: ∀C fp s H,PE (Xc X N scope C fp s H) y (tD Γ E0 (M.eval F elt)))
 (ht: ∀C fp s H,PTs (Xc X N scope C fp s H) ifs (tDT Γ E0 (xX F u6 c))):
 PE X (.ListComp y [⟨t,iter,ifs,0⟩] scope pos) (tD Γ E (M.eval F (.comp tg one kk cap it u6 c elt))):=
 PE.imp (jbf (XL go hsc) hi (λC fp s H=>ZA (Qu go hsc C fp s H) htg) ht he go.calm (jQ hset)) λσ H Q h0=>jap htk h0
theorem QP (go:Go Γ F X E k cf)(hN:cf.N[i]? =y0 x) (hx:jby cf.sc x=v9)(hsw:swapsWith (.ListComp y [⟨t,iter,ifs,0⟩] scope p0) (y0 (.Name x pos2)) pos.line X.env=pure v9) (hsc:xbC cf scope N kk cap)
 (hcl:cap.length=(N.drop kk).length) (htg:Xe { cf with sc:=scope,N:=N } tg one t=v9) (htk: ∀i∈tg,i<kk) (hset:wg iter=v9)
 (hi:PI X t iter (tDI Γ E u9 (M.Gy F it)))
 (he: ∀C fp s H,PE (Xc X N scope C fp s H) y (tD Γ E0 (M.eval F elt)))
 (ht: ∀C fp s H,PTs (Xc X N scope C fp s H) ifs (tDT Γ E0 (xX F u6 c))):
 PS X (.Assign [.Name x pos2] (.ListComp y [⟨t,iter,ifs,0⟩] scope p0) pos) (zaY (tD Γ E (M.eval F (.comp tg one kk cap it u6 c elt))) (qN i)):=by
 have hl:=go.sto x hx
 have key:=ZW (by rw [go.N];exact go.nd) (by rw [go.N];exact hN) hl.1 (XL go hsc) hi (λC fp s H=>ZA (Qu go hsc C fp s H) htg) ht he hsw go.calm (jQ hset) hl.2
 exact λu8 s σ H D I q=>key u8 s σ H D I (jap htk q)
theorem WG (go:Go Γ F X E k cf)(h1:cf.N[i]? =y0 x) (h2:XN cf.sc x=v9) (h3:nmB x=v9):PE X (.Name x p) (xb5 i):=by
 unfold nmB at h3
 rw [Ab4]at h3
 exact zA (by rw [go.N];exact h1) (go.vis x h2) (by simpa using h3.1) (by simpa using h3.2)
theorem JS (k): ∀ T,KTD.datumAt (txS k) (xbe T)=(T.lookup k).map pyD
 | []=>rfl
 | (x,d)::T=>by
  show(if k8 (txS k=txS x)=v9 then y0 (pyD d)else KTD.datumAt (txS k) (xbe T))=_
  rw [Ab7]
  by_cases e:k=x
  ·subst e
   rw [if_pos (decide_eq_true rfl),beq_self_eq_true]
   rfl
  ·rw [if_neg (by simpa using λz=>e (JF z)),beq_eq_false_iff_ne.mpr e,JS k T]
theorem zan (T): ∀p∈xbe T,flatData p.2=true:=by
 intro p hp
 obtain⟨⟨x,d⟩,_,rfl⟩:=Ae3.mp hp
 cases d<;>rfl
theorem Qv (h:M.flat d=v9):RelD Γ G H d (flV (pyD d))/\flatData (pyD d)=true:=by
 cases d<;>first | exact⟨rfl,rfl⟩ | cases h
theorem QZ (go:Go Γ F X E k cf)(q:F.con.lookup c=y0 (.exc n T)) (ne:T≠ []): ∃a,X.mg (Ze c)=y0 (.ref a)/\JN X.K a (xbe T):=by
 obtain⟨u,v,hm,rv,rd⟩:=go.con c _ q
 rcases rd ⟨λ_=>False,λ_=>0,0⟩ (λ_=>k9)with⟨z,_⟩ | ⟨_,a,e,ht⟩
 ·exact absurd z ne
 ·subst e
  cases rv
  exact⟨a,hm,go.K▸ht⟩
theorem xby (go:Go Γ F X E k cf)(hg:gNm cf.sc c g=v9) (hy:We y=v9) (ha:PE X y (tD Γ E (M.eval F a))):PE X (.Subscript g y pos) (tD Γ E (M.eval F (.tix c a))):=by
 obtain⟨p0,rfl,g2,g3⟩:=zc hg
 have nN:(∀ n T,F.con.lookup c=y0 (.exc n T)->T= [])->PE X (.Subscript (.Name (Ze c) p0) y pos) (tD Γ E (M.eval F (.tix c a))):=by
  intro hn u8 s σ H Q I ⟨G,τ,h,st,po⟩
  rw [M.eval]at po
  split at po
  ·rename_i n r T q;cases hn n _ q
  ·exact po.elim
 by_cases w: ∃n T,F.con.lookup c=y0 (.exc n T)/\T≠ []
 ·obtain⟨n,T,q,ne⟩:=w
  obtain⟨b,hm,ht⟩:=QZ go q ne
  refine PE.imp (jb5 jbY (XO (v:= .ref b) (go.gl _ g2) hm rfl g3) ha (ZR hy)) λσ H Q qq=> ?_
  obtain⟨G,τ,h,s,p⟩:=qq
  obtain⟨t0,T,rfl⟩:=List.exists_cons_of_ne_nil ne
  rw [M.eval,q]at p
  refine Xa s.heap Ext.refl s p λw1 v1 h1 G1 H1 e1 e1' s1 r1 f1 p1=> ?_
  unfold M.Pb at p1
  split at p1
  ·rename_i kk
   cases (show v1= .str (txS kk)from r1)
   split at p1
   ·rename_i d hd
    split at p1
    ·rename_i fd
     exact⟨b,xbe (t0::T),txS kk,pyD d,rfl,rfl,ht,zan _,by rw [JS,hd];rfl,(Qv (Γ:=Γ) (G:=G1) (H:=H1) fd).2,Post.val p1 e1 s1.heap (Qv fd).1 trivial⟩
    ·exact p1.elim
   ·exact p1.elim
  ·exact p1.elim
 ·exact nN λn T q=>Ai6 λz=>w ⟨n,T,q,z⟩
theorem jaO (go:Go Γ F X E k cf)(hg:gNm cf.sc c g=v9) (hl:(apos.endLine==k6.line)=v9) (hx: ∀e∈ [x,y],Qa e=v9) (ha:PA X [x,y] (tDW Γ E (M.Gi F es))):PE X (.Call (.Attribute g (Ze "get") apos) [x,y] [] k6) (tD Γ E (M.eval F (.tget c es))):=by
 obtain⟨p0,rfl,g2,g3⟩:=zc hg
 have nN:(∀ n T,F.con.lookup c=y0 (.exc n T)->T= [])->PE X (.Call (.Attribute (.Name (Ze c) p0) (Ze "get") apos) [x,y] [] k6) (tD Γ E (M.eval F (.tget c es))):=by
  intro hn u8 s σ H Q I ⟨G,τ,h,st,po⟩
  rw [M.eval]at po
  split at po
  ·rename_i n r T q;cases hn n _ q
  ·exact po.elim
 by_cases w: ∃n T,F.con.lookup c=y0 (.exc n T)/\T≠ []
 ·obtain⟨n,T,q,ne⟩:=w
  obtain⟨b,hm,ht⟩:=QZ go q ne
  have hs: ∀ {env},starEach [x,y] env=(u9,eval x env)::starEach [y] env:=xa (hx x (by simp))
  have hs2: ∀ {env},starEach [y] env= [(u9,eval y env)]:=xa (hx y (by simp))
  refine PE.imp (qF PySem.F.plainAttrs_dict PySem.F.slot_dict_get PySem.F.type_dict_get qb2 jbD (XO (v:= .ref b) (go.gl _ g2) hm rfl g3) ha rfl (by rw [hs,hs2];rfl) hl hs (by rw [hs2];rfl)) λσ H Q qq=> ?_
  obtain⟨G,τ,h,s,p⟩:=qq
  obtain⟨t0,T,rfl⟩:=List.exists_cons_of_ne_nil ne
  rw [M.eval,q]at p
  refine⟨⟨b,_,rfl,ht⟩,Zi s.heap Ext.refl s p λws us h1 G1 H1 e1 e1' s1 r1 p1=> ?_⟩
  unfold M.KO at p1
  split at p1
  ·rename_i kk z
   obtain⟨u1,r,rfl,ru1,rr⟩:=r1
   obtain⟨u2,r,rfl,ru2,rr⟩:=rr
   cases rr
   cases (show u1= .str (txS kk)from ru1)
   refine⟨b,xbe (t0::T),txS kk,u2,rfl,rfl,ht,λd hd=> ?_,λhd=> ?_⟩
   ·rw [JS]at hd
    obtain⟨d',e',rfl⟩:=Ad0.mp hd
    rw [e']at p1
    dsimp only at p1
    split at p1
    ·rename_i fd
     exact⟨(Qv (Γ:=Γ) (G:=G1) (H:=H1) fd).2,Post.val p1 e1 s1.heap (Qv fd).1 trivial⟩
    ·exact p1.elim
   ·rw [JS,Option.map_eq_none_iff]at hd
    rw [hd]at p1
    dsimp only at p1
    split at p1
    ·exact Post.val p1 e1 s1.heap ru2 trivial
    ·exact p1.elim
  ·exact p1.elim
 ·exact nN λn T q=>Ai6 λz=>w ⟨n,T,q,z⟩
theorem xap: ∀ {T}{ks}{vs},WR T ks vs=v9->Z2 (T.map λp=>(txS p.1,txS p.2)) ks vs
 | [],ks,vs,h=>⟨Af0.mp (a2 h).1,Af0.mp (a2 h).2⟩
 | (x,y)::T,ks,vs,h=>by
  refine kC (λe ks h=> ?_) ks h
  refine kC (λe' vs h=> ?_) vs h
  refine kS (λe h=> ?_) e h
  refine jv (λc n p h=> ?_) e h
  refine jv (λd n p h=> ?_) e' h
  obtain⟨h1,h2,h3⟩:=a3 h
  cases of_decide_eq_true h1
  cases of_decide_eq_true h2
  exact⟨_,_,_,_,_,_,rfl,rfl,xap h3⟩
theorem qa0 (k): ∀(T:List (M.Tx×M.Tx)),(T.map λp=>(txS p.1,txS p.2)).lookup (txS k)=(T.lookup k).map txS
 | []=>rfl
 | (x,y)::T=>by
  rw [Ac,Ab7,Ab7]
  rw [zbx]
  cases k==x with
  | true=>rfl
  | false=>exact qa0 k T
theorem xaK (go:Go Γ F X E k cf)(hk:WR T ks vs=v9) (h0:T≠ []) (hl:T.length<=15) (hn:(T.map (·.1)).Nodup) (h1:cf.N[i]? =y0 x) (h2:XN cf.sc x=v9) (h3:nmB x=v9):
 PE X (.Subscript (.Dict ks vs p1) (.Name x p2) pos) (tD Γ E (M.eval F (.dlit T i))):=by
 unfold nmB at h3
 rw [Ab4]at h3
 refine PE.imp (qbs (xap hk) (by simpa using h0) (by simpa using hl) ?_ (by rw [go.N];exact h1) (go.vis x h2) (by simpa using h3.1) (by simpa using h3.2)) λσ H Q qq=> ?_
 ·rw [Ak5]
  have e:((·.1)∘λp:M.Tx×M.Tx=>(txS p.1,txS p.2))=txS∘(·.1):=rfl
  rw [e,←Ak5]
  exact Al6.map _ (λa b z q=>z (JF q)) hn
 obtain⟨G,τ,h,s,p⟩:=qq
 rw [M.eval]at p
 unfold M.KZ at p
 split at p
 ·rename_i kk e
  obtain⟨v,ev,r⟩:=s.slot i _ e
  cases (show v= .str (txS kk)from r)
  split at p
  ·rename_i t et
   exact⟨txS kk,txS t,ev,by rw [qa0,et];rfl,Post.val p Ext.refl s.heap rfl trivial⟩
  ·exact p.elim
 ·exact p.elim
def jai:(M.Tx ⊕ Nat)->(Str ⊕ Nat)
 | .inl t=> .inl (txS t)
 | .inr i=> .inr i
theorem xz (go:Go Γ F X E k cf): ∀ {ps}{es},jag cf ps es=v9->wH X (ps.map jai) es
 | [],es,h=>Af0.mp h
 | .inl t::ps,es,h=>by
  refine kC (λe es h=> ?_) es h
  refine jv (λc n p h=> ?_) e h
  obtain⟨h1,h2⟩:=a2 h
  cases of_decide_eq_true h1
  exact⟨_,_,rfl,⟨_,_,rfl⟩,xz go h2⟩
 | .inr i::ps,es,h=>by
  refine kC (λe es h=> ?_) es h
  refine qcB (λx c z p h=> ?_) e h
  obtain⟨h1,h2,h3,h8⟩:=a4 h
  cases of_decide_eq_true h1
  cases nn h2
  refine Qx (λx p h3=> ?_) x h3
  obtain⟨h4,h5,h6⟩:=qaK h3
  obtain⟨h6,h7⟩:=a2 h6
  exact⟨_,_,rfl,⟨x,_,_,rfl,by rw [go.N];exact h4,go.vis x h5,by simpa using h6,by simpa using h7⟩,xz go h8⟩
theorem zw (i):Str.ofString (toString i)=txS (M.intT i):=by
 unfold txS M.intT
 rw [Str.ofString_eq_toList]
theorem ZL {i:Int}(h:0<=i/\i<1000):i.natAbs.log2<1920:=by
 have h1:i.natAbs<2 ^ 10:=by omega
 by_cases z:i.natAbs=0
 ·rw [z];decide
 ·exact Aj2 ((Nat.log2_lt z).mpr h1) (by decide)
theorem wP (s:StRel Γ G τ h σ H): ∀ {ps}{t},M.KL τ ps=y0 t->ja7 σ (ps.map jai)=y0 (txS t)
 | [],t,e=>by cases e;rfl
 | .inl u::ps,t,e=>by
  obtain⟨t',e',rfl⟩:=Ad0.mp e
  show(ja7 σ (ps.map jai)).map _=_
  rw [wP s e',←zl]
  rfl
 | .inr i::ps,t,e=>by
  obtain⟨u,e1,e2⟩:=Ac3.mp e
  obtain⟨w,e3,e4⟩:=Ac3.mp e1
  obtain⟨t',e',rfl⟩:=Ad0.mp e2
  obtain⟨v,ev,r⟩:=s.slot i w e3
  have hv:fmV v=y0 (txS u):=by
   unfold M.K6 at e4
   split at e4
   ·cases e4
    cases (show v= .str (txS _)from r)
    rfl
   ·split at e4
    ·rename_i j hj
     cases e4
     cases (r)
     show(if j.natAbs.log2<1920 then y0 (Str.ofString (toString j))else k9)=_
     rw [if_pos (ZL hj),zw]
    ·cases e4
   ·cases e4
  show(((σ[i]?).bind id).bind fmV).bind (λx=>(ja7 σ (ps.map jai)).map (x++ ·))=_
  rw [ev]
  show(fmV v).bind (λx=>(ja7 σ (ps.map jai)).map (x++ ·))=_
  rw [hv,wP s e',←zl]
  rfl
theorem jax (go:Go Γ F X E k cf)(h:jag cf ps (x::y::xs)=v9):PE X (.JoinedStr (x::y::xs) pos) (tD Γ E (M.eval F (.fstr ps))):=by
 refine PE.imp (jbB (xz go h)) λσ H Q qq=> ?_
 obtain⟨G,τ,h,s,p⟩:=qq
 rw [M.eval]at p
 unfold M.KW at p
 split at p
 ·rename_i t et
  split at p
  ·rename_i hl
   exact⟨txS t,wP s et,by rw [Xb];have:=Jj;omega,Post.val p Ext.refl s.heap rfl trivial⟩
  ·exact p.elim
 ·exact p.elim
theorem zaJ (go:Go Γ F X E k cf)(hg:gNm cf.sc "str" g=true) (hx:Qa x=true) (ha:PE X x (tD Γ E (M.eval F a))):PE X (.Call g [x] [] pos) (tD Γ E (M.eval F (.strI a))):=by
 obtain⟨p,rfl,h2,h3⟩:=zc hg
 have inS: "str" ∈bltN:=by decide
 refine PE.imp (Jq xai (go.gl _ h2) (go.blt _ inS) (by decide +kernel) (Jd ha Wk (xa hx)) (Qr inS) h3 (xa hx) rfl) λσ H Q qq=> ?_
 obtain⟨G,τ,h,s,p⟩:=qq
 refine Xa s.heap Ext.refl s p λw1 v1 h1 G1 H1 e1 e1' s1 r1 f1 p1=> ?_
 unfold M.Pg at p1
 split at p1
 ·rename_i i
  cases (r1)
  split at p1
  ·rename_i hi
   exact⟨i,rfl,ZL hi,zw i▸Post.val p1 e1 s1.heap rfl trivial⟩
  ·exact p1.elim
 ·exact p1.elim
theorem jaR (go:Go Γ F X E k cf)(hg:gNm cf.sc "int" g=true) (hx:Qa x=true) (ha:PE X x (tD Γ E (M.eval F a))):PE X (.Call g [x] [] pos) (tD Γ E (M.eval F (.intT a))):=by
 obtain⟨p,rfl,h2,h3⟩:=zc hg
 have inS: "int" ∈bltN:=by decide
 refine PE.imp (Jq Q7 (go.gl _ h2) (go.blt _ inS) (by decide +kernel) (Jd ha Wk (xa hx)) (Qr inS) h3 (xa hx) rfl) λσ H Q qq=> ?_
 obtain⟨G,τ,h,s,p⟩:=qq
 refine Xa s.heap Ext.refl s p λw1 v1 h1 G1 H1 e1 e1' s1 r1 f1 p1=> ?_
 unfold M.Pe at p1
 split at p1
 ·rename_i z
  cases (show v1= .str (txS z)from r1)
  obtain⟨n,q,p2⟩:=p1.of
  have hn:=Ai0.mp (List.mem_of_find?_eq_some q)
  have hz:=of_decide_eq_true (List.find?_some (p:=λn:Nat=>k8 (M.intT n=z)) q)
  subst hz
  refine⟨_,n,rfl,?_,zw n▸PySem.W.KIN.num_reads (by omega) (by omega),Post.val p2 e1 s1.heap rfl trivial⟩
  rw [← zw]
  exact Ac7 (PySem.W.KT.len_num (by omega) (by omega)) (by decide)
 ·exact p1.elim
theorem qav (h:Str.ofString a=Str.ofString b):a=b:=by
 rw [Str.ofString_eq_toList,Str.ofString_eq_toList]at h
 have e:=by
  have:=congrArg (λs:Str=>s.cps.toList) h
  simpa using this
 have inj: ∀(l m:List Char),l.map Char.toNat=m.map Char.toNat->l=m:=by
  intro l
  induction l with
  | nil=>intro m q;cases m with | nil=>rfl | cons _ _=>cases q
  | cons c l ih=>
   intro m q
   cases m with
   | nil=>cases q
   | cons d m=>
    simp only [Ac,List.cons.injEq]at q
    rw [Char.toNat_inj.mp q.1,ih m q.2]
 exact String.toList_inj.mp (inj _ _ e)
theorem jB (e:M.Ks h o=y0 (r,c,fs)):o=y0 (.v (.ref r))/\h[r]? =y0 (.obj c fs):=by
 unfold M.Ks at e
 split at e
 ·split at e
  ·rename_i q
   cases e
   exact⟨rfl,q⟩
  ·cases e
 ·cases e
theorem Jw (s:StRel Γ G τ h σ H)(e:M.Ks h (M.Gm τ i)=y0 (r,c,fs)):σ[i]? =y0 (y0 (.ref (G.rho r))):=by
 obtain⟨e1,e2⟩:=jB e
 obtain⟨v,z1,z2⟩:=s.slot i _ e1
 obtain⟨_,z3⟩:=(show r<G.n/\v= .ref (G.rho r)from z2)
 rw [z1,z3]
abbrev qaS (fs:List (String×M.D)):List Str:=fs.map λp=>Str.ofString p.1
section
variable {G:Gh}{H:Hp}
theorem jU (a b):(Ze a==Str.ofString b)=(a==b):=by
 cases q:a==b with
 | true=>rw [eq_of_beq q];exact beq_self_eq_true _
 | false=>exact beq_eq_false_iff_ne.mpr λz=>(beq_eq_false_iff_ne.mp q) (qav z)
theorem qaf : ∀ {fs}{us},RelDs Γ G H (fs.map (·.2)) us->fs.lookup f=y0 d-> ∃v,((qaS fs).zip us).lookup (Ze f)=y0 v/\RelD Γ G H d v
 | [],_,_,e=>by cases e
 | (g,x)::fs,_,⟨v,r,rfl,z1,z2⟩,e=>by
  rw [Ab7]at e
  show ∃w,(((Str.ofString g),v)::(qaS fs).zip r).lookup (Ze f)=y0 w/\_
  rw [Ab7,jU]
  cases q:f==g with
  | true=>rw [q]at e;cases e;exact⟨v,rfl,z1⟩
  | false=>rw [q]at e;exact qaf z2 e
theorem Xz : ∀ {fs}{us:List V},fs.lookup f=k9->((qaS fs).zip us).lookup (Ze f)=k9
 | [],_,_=>rfl
 | (g,x)::fs,[],_=>rfl
 | (g,x)::fs,v::r,e=>by
  rw [Ab7]at e
  show(((Str.ofString g),v)::(qaS fs).zip r).lookup (Ze f)=k9
  rw [Ab7,jU]
  cases q:f==g with
  | true=>rw [q]at e;cases e
  | false=>rw [q]at e;exact Xz e
theorem xS (rv:RelD Γ G H d v): ∀ {fs}{us},RelDs Γ G H (fs.map (·.2)) us-> ∃us',RelDs Γ G H ((M.putF f d fs).map (·.2)) us'/\L2.putF (Ze f) v ((qaS fs).zip us)=(qaS (M.putF f d fs)).zip us'
 | [],_,z=>by cases z;exact⟨[v],⟨v,[],rfl,rv,rfl⟩,rfl⟩
 | (g,x)::fs,_,⟨u,r,rfl,z1,z2⟩=>by
  show ∃us',RelDs Γ G H ((if g=f then(g,d)::fs else(g,x)::M.putF f d fs).map (·.2)) us'/\(if Str.ofString g=Ze f then(Str.ofString g,v)::(qaS fs).zip r else(Str.ofString g,u)::L2.putF (Ze f) v ((qaS fs).zip r))=(qaS (if g=f then(g,d)::fs else(g,x)::M.putF f d fs)).zip us'
  by_cases q:g=f
  ·rw [if_pos q,if_pos (congrArg Str.ofString q)]
   exact⟨v::r,⟨v,r,rfl,rv,z2⟩,rfl⟩
  ·rw [if_neg q,if_neg λz=>q (qav z)]
   obtain⟨us',a,b⟩:=xS rv z2
   exact⟨u::us',⟨u,us',rfl,z1,a⟩,by rw [b];rfl⟩
theorem qac (hd:M.Gr d=v9): ∀ {fs},M.Gg (fs.map (·.2))=v9->M.Gg ((M.putF f d fs).map (·.2))=v9
 | [],_=>by show(M.Gr d&&v9)=v9;rw [hd];rfl
 | (g,x)::fs,z=>by
  have z:(M.Gr x&&M.Gg (fs.map (·.2)))=true:=z
  rw [Ab4]at z
  show M.Gg ((if g=f then(g,d)::fs else(g,x)::M.putF f d fs).map (·.2))=v9
  by_cases q:g=f
  ·rw [if_pos q];show(M.Gr d&&M.Gg (fs.map (·.2)))=v9;rw [hd,z.2];rfl
  ·rw [if_neg q];show(M.Gr x&&M.Gg ((M.putF f d fs).map (·.2)))=v9;rw [z.1,qac hd z.2];rfl
end
theorem qby (go:Go Γ F X E k cf)(h1:cf.N[i]? =y0 x) (h2:XN cf.sc x=v9) (h3:nmB x=v9) (hf:cf.ob.fl.contains (c,f)=v9):PE X (.Attribute (.Name x p1) (Ze f) pos) (tD Γ E (M.eval F (.fld i c f))):=by
 refine PE.imp (jbK (WG go h1 h2 h3) rfl) λσ H Q qq=> ?_
 obtain⟨G,τ,h,s,p⟩:=qq
 rw [M.eval]at p
 cases q:M.Ks h (M.Gm τ i)with
 | none=>rw [q]at p;exact p.elim
 | some o=>
  obtain⟨r,c',fs⟩:=o
  rw [q]at p
  dsimp only at p
  split at p
  ·rename_i hc
   subst hc
   obtain⟨d,ed,p⟩:=p.of
   obtain⟨e1,e2⟩:=jB q
   obtain⟨nf,_,dx,us,hv,ru⟩:=s.heap.obj r _ fs e2
   obtain⟨v,ev,rv⟩:=qaf ru ed
   exact⟨_,Jw s q,G.rho r,Γ.ca c',dx,_,v,rfl,hv,(go.fld _ _ hf).1,(go.fld _ _ hf).2,ev,Post.val p Ext.refl s.heap rv trivial⟩
  ·exact p.elim
theorem za1 (e:Ext G H G1 H1) (hr:r<G.n):RelW Γ G1 H1 (.v (.ref r)) (.ref (G.rho r)):=⟨Ab3 hr e.le,by rw [e.rho r hr]⟩
theorem j4 (hbase:attributeBase o name env (eval o env)=eval o env) (hform:methodCallForm args.length (backTo pos (starEach args env)) (backToKw pos (keywordEach [] env))=v9) (hline:(apos.endLine==pos.line)=v9):
 eval (.Call (.Attribute o name apos) args [] pos) env=(do
  let ov ←eval o env
  standAt apos.atName
  let (f,first) ←holding [ov] (getMethod ov name (do return (← importBound o env).getD v9))
  callWith pos f first (backTo pos (starEach args env)) (backToKw pos (keywordEach [] env))):=by
 have e1:methodCallForm (args.length+([]:List Keyword).length) (backTo pos (starEach args env)) (backToKw pos (keywordEach [] env))=true:=hform
 have e2:methodCallPos v9 o env apos pos=pure pos:=by unfold methodCallPos;simp [hline]
 rw [arm_eval_Call,hbase]
 unfold methodCall
 rw [e1]
 simp only [e2,calleeOf,if_true,pure_bind]
theorem zbw (h: ∀e∈args,Qa e=v9) (hl:args.length<29):methodCallForm args.length (backTo pos (starEach args env)) (backToKw pos (keywordEach [] env))=true:=by
 unfold methodCallForm
 have e1:(backTo pos (starEach args env)).all (λx=> !x.1)=true:=by
  have:=Zl (env:=env) (pos:=pos) h
  rw [Ah0]
  intro x hx
  rw [List.any_eq_false]at this
  simpa using this x hx
 rw [e1]
 have e2:(backToKw pos (keywordEach [] env))= []:=rfl
 rw [e2]
 simp
 omega
theorem qaq (go:Go Γ F X E k cf)(h1:cf.N[i]? =y0 x) (h2:XN cf.sc x=v9) (h3:nmB x=v9) (hm:cf.ob.mt.contains (c,m,q0)=v9) (hl:(apos.endLine==pos.line)=v9) (hn:ys.length<20) (hx: ∀e∈y::ys,Qa e=v9) (ha:PA X (y::ys) (tDW Γ E (M.Gi F es))):
 PE X (.Call (.Attribute (.Name x p1) (Ze m) apos) (y::ys) [] pos) (tD Γ E (M.eval F (.mcall i c m q0 es))):=by
 obtain⟨cl,fa,fd,ps,mt,fok,bd⟩:=go.mth c m q0 hm
 refine PE.imp (ja9 (WG go h1 h2 h3) cl mt fok go.room bd .nil go.pass ha (xa (hx _ Aa8)) (Zl λe he=>hx e (Aa7 _ he)) (j4 rfl (zbw hx (by simp;omega)) hl)) λσ H Q qq=> ?_
 obtain⟨G,τ,h,s,p⟩:=qq
 rw [M.eval]at p
 cases q:M.Ks h (M.Gm τ i)with
 | none=>rw [q]at p;exact p.elim
 | some o=>
  obtain⟨r,c',fs⟩:=o
  rw [q]at p
  dsimp only at p
  split at p
  ·rename_i hc
   obtain⟨rfl,hn⟩:=hc
   obtain⟨e1,e2⟩:=jB q
   obtain⟨nf,_,dx,us,hv,ru⟩:=s.heap.obj r _ fs e2
   have hrn:r<G.n:=by rw [← s.heap.len];exact(Aa3.mp e2).1
   refine⟨_,Jw s q,G.rho r,dx,_,rfl,hv,Xz (Ai9.mp hn),?_⟩
   refine Zi s.heap Ext.refl s p λws vs h1 G1 H1 e1 e1' s1 r1 p1=> ?_
   rw [Ae9]
   refine⟨G1,h1,.v (.ref r)::ws.map M.W.arg,s1.heap,⟨.ref (G.rho r),vs,rfl,za1 e1' hrn,Xr r1⟩,λw hw=> ?_,PostW.mk p1 e1 s.heap⟩
   rcases Aa.mp hw with rfl | hw
   ·rfl
   ·exact Xq ws w hw
  ·exact p.elim
theorem XW (go:Go Γ F X E k cf)(h1:cf.N[i]? =y0 x) (h2:XN cf.sc x=v9) (h3:nmB x=v9) (hm:cf.ob.mt.contains (c,m,q0)=v9) (hl:(apos.endLine==pos.line)=v9):
 PE X (.Call (.Attribute (.Name x p1) (Ze m) apos) [] [] pos) (tD Γ E (M.eval F (.mcall i c m q0 .nil))):=by
 obtain⟨cl,fa,fd,ps,mt,fok,bd⟩:=go.mth c m q0 hm
 refine PE.imp (zaL (WG go h1 h2 h3) cl mt fok go.room bd .nil go.pass (j4 rfl rfl hl)) λσ H Q qq=> ?_
 obtain⟨G,τ,h,s,p⟩:=qq
 rw [M.eval]at p
 cases q:M.Ks h (M.Gm τ i)with
 | none=>rw [q]at p;exact p.elim
 | some o=>
  obtain⟨r,c',fs⟩:=o
  rw [q]at p
  dsimp only at p
  split at p
  ·rename_i hc
   obtain⟨rfl,hn⟩:=hc
   obtain⟨e1,e2⟩:=jB q
   obtain⟨nf,_,dx,us,hv,ru⟩:=s.heap.obj r _ fs e2
   have hrn:r<G.n:=by rw [← s.heap.len];exact(Aa3.mp e2).1
   refine⟨_,Jw s q,G.rho r,dx,_,rfl,hv,Xz (Ai9.mp hn),?_⟩
   have p:=p
   refine⟨G,h,[.v (.ref r)],s.heap,⟨.ref (G.rho r),[],rfl,za1 Ext.refl hrn,rfl⟩,λw hw=> ?_,PostW.mk p Ext.refl s.heap⟩
   cases Ab5.mp hw
   rfl
  ·exact p.elim
theorem qaw (go:Go Γ F X E k cf)(hg:gNm cf.sc c g=v9) (hm:cf.ob.mks.contains (c,q0)=v9) (hx: ∀e∈y::ys,Qa e=v9) (ha:PA X (y::ys) (tDW Γ E (M.Gi F es))):
 PE X (.Call g (y::ys) [] pos) (tD Γ E (M.eval F (.make c q0 es))):=by
 obtain⟨p0,rfl,g2,g3⟩:=zc hg
 obtain⟨hmg,fa,fd,ps,mk,fok,bd⟩:=go.mks c q0 hm
 refine PE.imp (ja8 mk fok go.room1 (go.gl _ g2) hmg bd .nil go.pass ha g3 (xa (hx _ Aa8)) (Zl λe he=>hx e (Aa7 _ he))) λσ H Q qq=> ?_
 obtain⟨G,τ,h,s,p⟩:=qq
 refine Zi s.heap Ext.refl s p λws vs h1 G1 H1 e1 e1' s1 r1 p1=> ?_
 intro a dx na nd ne
 rw [Ae9]
 have n2:upd H1 dx (.own a) a=none:=by rw [ja (Ne.symm ne)];exact na
 have x1:Ext G1 H1 G1 (upd H1 dx (.own a)):=Zq _ nd
 have r2:=s1.heap.new (.own a) nd
 have x2:Ext G1 (upd H1 dx (.own a)) G1 (upd (upd H1 dx (.own a)) a (.ins (Γ.ca c) dx [])):=Zq _ n2
 have r3:=r2.new (.ins (Γ.ca c) dx []) n2
 have nfz:=s1.heap.nofz na
 have r4:=zaA r3 nfz (s1.heap.offN na) jd
 have x3:=jH (x1.trans s1.heap x2) na
 have rf:=by
  show h1.length<G1.n+1/\V.ref a= .ref (if h1.length=G1.n then a else G1.rho h1.length)
  rw [s1.heap.len,if_pos rfl]
  exact⟨Af1 _,rfl⟩
 refine⟨G1.cell a,h1++ [.obj c []],.v (.ref h1.length)::ws.map M.W.arg,r4,⟨.ref a,vs,rfl,rf,RelWs.ext x3 s1.heap (Xr r1)⟩,λw hw=> ?_,?_⟩
 ·rcases Aa.mp hw with rfl | hw
  ·rfl
  ·exact Xq ws w hw
 ·cases qc:F.call q0 (.v (.ref h1.length)::ws.map M.W.arg) (h1++ [.obj c []])with
  | fail=>rw [qc]at p1;exact p1.elim
  | exc d h'=>
   rw [qc]at p1
   exact λG' H' e' hr'=>p1 G' H' ((e1.trans s.heap x3).trans s.heap e') hr'
  | ok w h'=>
   rw [qc]at p1
   intro G' H' e' hr' v rv _
   cases w with
   | own _=>exact p1.elim
   | bor _=>exact p1.elim
   | v d=>
    cases d with
    | non=>
     refine⟨rv,?_⟩
     have p1:=p1
     have hl:=rf.1
     exact p1 G' H' ((e1.trans s.heap x3).trans s.heap e') hr' (.ref a) ⟨Ab3 hl e'.le,by rw [e'.rho _ hl];exact rf.2⟩ trivial
    | _=>exact p1.elim
end
theorem PW.of_bool (h:PT X (.BoolOp op vs pos) t):PW X (.BoolOp op vs pos) t:=λwh u8 s σ H Q I q=>by
 have:=h u8 s σ H Q I q
 exact this
theorem qt : ∀ {es}{xs}{τ}{h}{ds}{h'},chkEs cf es xs=v9->M.Gj F es τ h= .ok ds h'->ds.length=xs.length
 | .nil,xs,_,_,_,_,c,e=>by
  cases Af0.mp c
  rw [M.Gj]at e;cases e;rfl
 | .cons a es,xs,τ,h,ds,h',c,e=>by
  refine kC (λx r c=> ?_) xs c
  obtain⟨w,h1,e1,e⟩:=Qg e
  obtain⟨d,h2,e2,e⟩:=Qg e
  obtain⟨r,h3,e3,e⟩:=Qg e
  cases e
  rw [Aa4,Aa4,qt (a2 c).2 e3]
theorem qf : ∀ {es}{xs},chkEs cf es xs=v9-> ∀e∈xs,Qa e=v9
 | .nil,xs,c=>by
  cases Af0.mp c
  intro e he;cases he
 | .cons a es,xs,c=>by
  refine kC (λx r c=> ?_) xs c
  intro e he
  rcases Aa.mp he with rfl | he
  ·exact(a3 c).1
  ·exact qf (a2 c).2 e he
theorem qB : ∀ {cap}{xs},zC cf cap xs=v9->cap.length=xs.length
 | [],[],_=>rfl
 | [],_::_,h=>by simp [zC]at h
 | _::_,[],h=>by simp [zC]at h
 | j::js,x::xs,h=>by
  simp only [zC,Ab4]at h
  exact congrArg (· +1) (qB h.2)
theorem Wv (h:Wn e f=v9):wg e=true:=by
 refine Zk (λg x l p h=> ?_) e h
 rfl
theorem xM (h:chkIt cf it e=v9):wg e=true:=by
 cases it with
 | seq a=>exact(a2 h).1
 | range1 a=>exact Wv h
 | range2 a b=>exact Wv h
 | rev a=>exact Wv h
 | zip a b=>exact bad h
 | enum a=>exact bad h
 | rangeS a b=>exact Wv h
 | enumL i=>exact bad h
section
variable {Γ:Ge}{F:M.Fx}{k:Nat}
theorem bo (go:Go Γ F X E k cf) (r:PE X x (tD Γ E (M.eval F m))) (he: ∀whole,isTrue x X.env whole=(do let v ←whole;standAt x.pos;holding [v] (truthy v))):PE X x (tD Γ E (M.eval F m))/\(tOk m=v9->PT X x (tDT Γ E (M.Gp F m))):=⟨r,λ_=>qaP go r he⟩
mutual
theorem Qc: ∀(m:M.E){X:Cx}{E:XK}{cf:Cf}{e:Expr},Go Γ F X E k cf->Zc cf m e=v9->PE X e (tD Γ E (M.eval F m))/\(tOk m=v9->PT X e (tDT Γ E (M.Gp F m)))
 | .var i,X,E,cf,e,go,h=>by
  refine Qx (λx p h=> ?_) e h
  obtain⟨h1,h2,h3⟩:=qaK h
  exact bo go (jbo go h1 h2 h3) λ_=>rfl
 | .con c,X,E,cf,e,go,h=>by
  have r:=jbi go h
  obtain⟨p,rfl,_,_⟩:=zc h
  exact bo go r λ_=>rfl
 | .int i,X,E,cf,e,go,h=>by
  refine jv (λx n p h=> ?_) e h
  cases of_decide_eq_true h;exact bo go qbq λ_=>rfl
 | .bl i,X,E,cf,e,go,h=>by
  refine jv (λx n p h=> ?_) e h
  cases of_decide_eq_true h;exact bo go qbW λ_=>rfl
 | .str i,X,E,cf,e,go,h=>by
  refine jv (λx n p h=> ?_) e h
  cases of_decide_eq_true h;exact bo go jbg λ_=>rfl
 | .tup es,X,E,cf,e,go,h=>by
  refine qcv (λx n p h=> ?_) e h
  obtain⟨h1,h2⟩:=a2 h
  exact bo go (qbm (of_decide_eq_true h1) (λτ hh ds h' q=>qt h2 q) (sndA es go h2)) λ_=>rfl
 | .lst es,X,E,cf,e,go,h=>by
  refine zcD (λx p h=> ?_) e h
  obtain⟨h1,h2⟩:=a2 h
  exact bo go (zbc (of_decide_eq_true h1) (λτ hh ds h' q=>qt h2 q) (sndA es go h2)) λ_=>rfl
 | .bin o a b,X,E,cf,e,go,h=>by
  refine jcy (λx o y p h=> ?_) e h
  obtain⟨h0,ho,h1,h2⟩:=a4 h
  cases of_decide_eq_true h0
  exact bo go (qbr go ho (Qc a go h1).1 (Qc b go h2).1) λ_=>rfl
 | .cmp o a b,X,E,cf,e,go,h=>by
  refine jcs (λx o y p h=> ?_) e h
  refine kC (λy r h=> ?_) y h
  obtain⟨h0,ho,hs,h1,h2⟩:=a5 h
  obtain⟨rfl,rfl⟩:=of_decide_eq_true h0
  exact⟨xbt go ho hs (Qc a go h1).1 (Qc b go h2).1,λ_=>xaR go ho hs (Qc a go h1).1 (Qc b go h2).1⟩
 | .chain o q a b c,X,E,cf,e,go,h=>by
  refine jcs (λx o y p h=> ?_) e h
  refine kC (λy r h=> ?_) y h
  refine kC (λz r h=> ?_) r h
  obtain⟨h0,ho,hq,hs,h1,h2,h3⟩:=a7 h
  obtain⟨rfl,rfl⟩:=of_decide_eq_true h0
  exact⟨W1 go ho hq hs (Qc a go h1).1 (Qc b go h2).1 (Qc c go h3).1,λ_=>ZX go ho hq hs (Qc a go h1).1 (Qc b go h2).1 (Qc c go h3).1⟩
 | .neg a,X,E,cf,e,go,h=>by
  refine kUn (λo x p h=> ?_) e h
  cases of_decide_eq_true (a2 h).1
  exact bo go (xbd (Qc a go (a2 h).2).1) λ_=>rfl
 | .not a,X,E,cf,e,go,h=>by
  refine kUn (λo x p h=> ?_) e h
  cases of_decide_eq_true (a2 h).1
  exact⟨jbl go (Qc a go (a2 h).2).1,λt=>jaB ((Qc a go (a2 h).2).2 t)⟩
 | .and a b,X,E,cf,e,go,h=>by
  refine jbF (λo x p h=> ?_) e h
  refine kC (λx r h=> ?_) x h
  refine kC (λy r h=> ?_) r h
  obtain⟨h0,h1,h2⟩:=a3 h
  cases of_decide_eq_true h0
  cases r with
  | nil=>exact⟨zav go (Qc a go h1).1 (ja1 (Qc b go h2).1),λt=>(jS ((Qc a go h1).2 (a2 t).1) (zbr ((Qc b go h2).2 (a2 t).2))).pt⟩
  | cons z r=>exact⟨zav go (Qc a go h1).1 (Qc b go h2).1,λt=>(jS ((Qc a go h1).2 (a2 t).1) (PW.of_bool ((Qc b go h2).2 (a2 t).2))).pt⟩
 | .or a b,X,E,cf,e,go,h=>by
  refine jbF (λo x p h=> ?_) e h
  refine kC (λx r h=> ?_) x h
  refine kC (λy r h=> ?_) r h
  obtain⟨h0,h1,h2⟩:=a3 h
  cases of_decide_eq_true h0
  cases r with
  | nil=>exact⟨zaW go (Qc a go h1).1 (ja1 (Qc b go h2).1),λt=>(xah ((Qc a go h1).2 (a2 t).1) (zbI ((Qc b go h2).2 (a2 t).2))).pt⟩
  | cons z r=>exact⟨zaW go (Qc a go h1).1 (Qc b go h2).1,λt=>(xah ((Qc a go h1).2 (a2 t).1) (PW.of_bool ((Qc b go h2).2 (a2 t).2))).pt⟩
 | .call f es,X,E,cf,e,go,h=>by
  refine Zk (λg x l p h=> ?_) e h
  refine kE (λh=> ?_) l h
  obtain⟨h1,h2,h3⟩:=a3 h
  cases x with
  | nil=>
   cases es with
   | cons _ _=>exact bad h3
   | nil=>
    have r:=jaj (pos:=p) go h1 h2
    obtain⟨p,rfl,_,_⟩:=zc h1
    exact bo go r λ_=>rfl
  | cons x r=>
   have r:=jaM (pos:=p) go h1 h2 (qf h3) (sndWs es go h3)
   obtain⟨p,rfl,_,_⟩:=zc h1
   exact bo go r λ_=>rfl
 | .bi b es,X,E,cf,e,go,h=>by
  refine Zk (λg x l p h=> ?_) e h
  refine kE (λh=> ?_) l h
  refine kC (λx r h=> ?_) x h
  obtain⟨h1,h2,h3⟩:=a3 h
  have r:=xb4 (pos:=p) go h2 h1 (qf h3) (sndWs es go h3)
  obtain⟨p,rfl,_,_⟩:=zc h1
  exact bo go r λ_=>rfl
 | .isT a t,X,E,cf,e,go,h=>by
  refine Zk (λg x l p h=> ?_) e h
  refine kE (λh=> ?_) l h
  refine kC (λx r h=> ?_) x h
  refine kC (λy r h=> ?_) r h
  refine kE (λh=> ?_) r h
  obtain⟨h1,h2,h3,h4,h5⟩:=a5 h
  have r:=jbr (pos:=p) go (of_decide_eq_true h3) h1 h2 h4 (Qc a go h5).1
  obtain⟨p,rfl,_,_⟩:=zc h1
  exact bo go r λ_=>rfl
 | .ix a b,X,E,cf,e,go,h=>by
  refine zaE (λx y p h=> ?_) e h
  obtain⟨h1,h2,h3⟩:=a3 h
  exact bo go (zbS go h1 (Qc a go h2).1 (Qc b go h3).1) λ_=>rfl
 | .sl a lo hi,X,E,cf,e,go,h=>by
  refine zaE (λx y p h=> ?_) e h
  refine kSl (λl u z p2 h=> ?_) y h
  refine kS (λl h=> ?_) l h
  refine kS (λu h=> ?_) u h
  obtain⟨h0,h1,h2,h3⟩:=a4 h
  cases nn h0
  exact bo go (qbY go (Qc a go h1).1 (Qc lo go h2).1 (Qc hi go h3).1) λ_=>rfl
 | .slL a lo,X,E,cf,e,go,h=>by
  refine zaE (λx y p h=> ?_) e h
  refine kSl (λl u z p2 h=> ?_) y h
  refine kS (λl h=> ?_) l h
  obtain⟨h0,h1,h2,h3⟩:=a4 h
  cases nn h0;cases nn h1
  exact bo go (jbe go (Qc a go h2).1 (Qc lo go h3).1) λ_=>rfl
 | .slH a hi,X,E,cf,e,go,h=>by
  refine zaE (λx y p h=> ?_) e h
  refine kSl (λl u z p2 h=> ?_) y h
  refine kS (λu h=> ?_) u h
  obtain⟨h0,h1,h2,h3⟩:=a4 h
  cases nn h0;cases nn h1
  exact bo go (jbw go (Qc a go h2).1 (Qc hi go h3).1) λ_=>rfl
 | .rev a,X,E,cf,e,go,h=>by
  refine zaE (λx y p h=> ?_) e h
  refine kSl (λl u z p2 h=> ?_) y h
  refine kS (λz h=> ?_) z h
  obtain⟨h0,h1,h2,h3⟩:=a4 h
  cases nn h0;cases nn h1
  exact bo go (qbg go h2 (Qc a go h3).1) λ_=>rfl
 | .comp tg one kk cap it u6 c elt,X,E,cf,e,go,h=>by
  refine zbU (λy g s p h=> ?_) e h
  refine kC (λg r h=> ?_) g h
  obtain⟨t,iter,ifs,z⟩:=g
  obtain⟨h0,h1,h2,h3,h4,h5,h6⟩:=a7 h
  obtain⟨rfl,rfl⟩:=of_decide_eq_true h0
  simp only [Ah0,decide_eq_true_eq]at h2
  have sc:=JB h1
  have ht: ∀C fp w H,PTs (Xc X (Wp cf t cap) s C fp w H) ifs (tDT Γ E0 (xX F u6 c)):=λC fp w H=>by
   have gc:=Qu go sc C fp w H
   cases u6 with
   | true=>
    refine kC (λz r h=> ?_) ifs h6
    refine kE (λh=> ?_) r h
    exact jah ((Qc c gc (a2 h).2).2 (a2 h).1)
   | false=>
    cases Af0.mp h6
    intro u8 s1 σ H1 Q I ⟨G,τ,h,st,p⟩
    exact qak u8 s1 σ H1 Q I (p G H1 Ext.refl st.heap)
  exact bo go (xaJ go sc (qB sc.cap) h3 h2 (xM h4) (sndI it go h4) (λC fp s H=>(Qc elt (Qu go sc C fp s H) h5).1) ht) λ_=>rfl
 | .share a,X,E,cf,e,go,h=>⟨Q1 (Qc a go h).1,λt=>bad t⟩
 | .tix c a,X,E,cf,e,go,h=>by
  refine zaE (λx y p h=> ?_) e h
  obtain⟨h1,h2,h3⟩:=a3 h
  exact bo go (xby go h1 h2 (Qc a go h3).1) λ_=>rfl
 | .tget c es,X,E,cf,e,go,h=>by
  refine Zk (λg x l p h=> ?_) e h
  refine kE (λh=> ?_) l h
  refine kC (λx r h=> ?_) x h
  refine kC (λy r h=> ?_) r h
  refine kE (λh=> ?_) r h
  refine XV (λg n q h=> ?_) g h
  obtain⟨h1,h2,h3,h4⟩:=a4 h
  cases of_decide_eq_true h2
  exact bo go (jaO go h1 h3 (qf h4) (sndWs es go h4)) λ_=>rfl
 | .dlit T i,X,E,cf,e,go,h=>by
  refine zaE (λd x p h=> ?_) e h
  refine qcg (λks vs q h=> ?_) d h
  refine Qx (λx q2 h=> ?_) x h
  obtain⟨h1,h2,h3,h4,h⟩:=a5 h
  obtain⟨h5,h6,h7⟩:=qaK h
  exact bo go (xaK go h1 (of_decide_eq_true h2) (of_decide_eq_true h3) (of_decide_eq_true h4) h5 h6 h7) λ_=>rfl
 | .fstr ps,X,E,cf,e,go,h=>by
  refine jb8 (λx p h=> ?_) e h
  refine kC (λx r h=> ?_) x h
  refine kC (λy r h=> ?_) r h
  exact bo go (jax go h) λ_=>rfl
 | .strI a,X,E,cf,e,go,h=>by
  refine Zk (λg x l p h=> ?_) e h
  refine kE (λh=> ?_) l h
  refine kC (λx r h=> ?_) x h
  refine kE (λh=> ?_) r h
  obtain⟨h1,h2,h3⟩:=a3 h
  exact bo go (zaJ go h1 h2 (Qc a go h3).1) λ_=>rfl
 | .intT a,X,E,cf,e,go,h=>by
  refine Zk (λg x l p h=> ?_) e h
  refine kE (λh=> ?_) l h
  refine kC (λx r h=> ?_) x h
  refine kE (λh=> ?_) r h
  obtain⟨h1,h2,h3⟩:=a3 h
  exact bo go (jaR go h1 h2 (Qc a go h3).1) λ_=>rfl
 | .fld i c f,X,E,cf,e,go,h=>by
  refine XV (λx n q h=> ?_) e h
  refine Qx (λx p h=> ?_) x h
  obtain⟨h,h0,h4⟩:=a3 h
  obtain⟨h1,h2,h3⟩:=qaK h
  cases of_decide_eq_true h0
  exact bo go (qby go h1 h2 h3 h4) λ_=>rfl
 | .mcall i c m q es,X,E,cf,e,go,h=>by
  refine Zk (λg ys l p h=> ?_) e h
  refine kE (λh=> ?_) l h
  refine XV (λx n p2 h=> ?_) g h
  refine Qx (λx p1 h=> ?_) x h
  obtain⟨h,h0,h4,h6,h7,h5⟩:=a6 h
  obtain⟨h1,h2,h3⟩:=qaK h
  cases of_decide_eq_true h0
  cases ys with
  | cons y ys=>exact bo go (qaq go h1 h2 h3 h4 h6 (of_decide_eq_true h7) (qf h5) (sndWs es go h5)) λ_=>rfl
  | nil=>
   cases es with
   | cons _ _=>exact bad h5
   | nil=>exact bo go (XW go h1 h2 h3 h4 h6) λ_=>rfl
 | .make c q es,X,E,cf,e,go,h=>by
  refine Zk (λg x l p h=> ?_) e h
  refine kE (λh=> ?_) l h
  refine kC (λx r h=> ?_) x h
  obtain⟨h1,h2,h3⟩:=a3 h
  exact bo go (qaw go h1 h2 (qf h3) (sndWs es go h3)) λ_=>rfl
 | .meth m a es,X,E,cf,e,go,h=>by
  refine Zk (λg x l p h=> ?_) e h
  refine kE (λh=> ?_) l h
  refine kC (λx r h=> ?_) x h
  refine kE (λh=> ?_) r h
  refine XV (λo n q h=> ?_) g h
  obtain⟨h1,h2,h3,h4,h5,h6⟩:=a6 h
  cases of_decide_eq_true h1
  exact bo go (zaB go h2 h3 h4 (qf h6 _ Aa8) (Qc a go h5).1 (sndWs es go h6)) λ_=>rfl
theorem sndA: ∀(es:M.Es){X:Cx}{E:XK}{cf:Cf}{xs:List Expr},Go Γ F X E k cf->chkEs cf es xs=v9->PA X xs (tDA Γ E (M.Gj F es))
 | .nil,X,E,cf,xs,go,h=>by
  cases Af0.mp h
  exact xaD
 | .cons a es,X,E,cf,xs,go,h=>by
  refine kC (λx r h=> ?_) xs h
  obtain⟨h1,h2,h3⟩:=a3 h
  exact J9 h1 (Qc a go h2).1 (sndA es go h3)
theorem sndWs: ∀(es:M.Es){X:Cx}{E:XK}{cf:Cf}{xs:List Expr},Go Γ F X E k cf->chkEs cf es xs=v9->PA X xs (tDW Γ E (M.Gi F es))
 | .nil,X,E,cf,xs,go,h=>by
  cases Af0.mp h
  exact jay
 | .cons a es,X,E,cf,xs,go,h=>by
  refine kC (λx r h=> ?_) xs h
  obtain⟨h1,h2,h3⟩:=a3 h
  exact xae h1 (Qc a go h2).1 (sndWs es go h3)
theorem sndI: ∀(it:M.It){X:Cx}{E:XK}{cf:Cf}{tg e:Expr},Go Γ F X E k cf->chkIt cf it e=v9->PI X tg e (tDI Γ E u9 (M.Gy F it))
 | .seq a,X,E,cf,tg,e,go,h=>jaC go (Qc a go (a2 h).2).1
 | .range1 a,X,E,cf,tg,e,go,h=>by
  refine Zk (λg x l p h=> ?_) e h
  refine kE (λh=> ?_) l h
  refine kC (λx r h=> ?_) x h
  refine kE (λh=> ?_) r h
  obtain⟨h1,h2,h3⟩:=a3 h
  exact jy go h1 h2 (Qc a go h3).1
 | .range2 a b,X,E,cf,tg,e,go,h=>by
  refine Zk (λg x l p h=> ?_) e h
  refine kE (λh=> ?_) l h
  refine kC (λx r h=> ?_) x h
  refine kC (λy r h=> ?_) r h
  refine kE (λh=> ?_) r h
  obtain⟨h1,h2,h3,h4,h5⟩:=a5 h
  exact JA go h1 h2 h3 (Qc a go h4).1 (Qc b go h5).1
 | .rev a,X,E,cf,tg,e,go,h=>by
  refine Zk (λg x l p h=> ?_) e h
  refine kE (λh=> ?_) l h
  refine kC (λx r h=> ?_) x h
  refine kE (λh=> ?_) r h
  obtain⟨h1,h2,h3⟩:=a3 h
  exact qaL go h1 h2 (Qc a go h3).1
 | .zip a b,X,E,cf,tg,e,go,h=>bad h
 | .enum a,X,E,cf,tg,e,go,h=>bad h
 | .rangeS a b,X,E,cf,tg,e,go,h=>by
  refine Zk (λg x l p h=> ?_) e h
  refine kE (λh=> ?_) l h
  refine kC (λx r h=> ?_) x h
  refine kC (λy r h=> ?_) r h
  refine kC (λz r h=> ?_) r h
  refine kE (λh=> ?_) r h
  refine jv (λc n p h=> ?_) z h
  obtain⟨h0,h1,h2,h3,h4,h5⟩:=a6 h
  cases of_decide_eq_true h0
  exact qA go h1 h2 h3 (Qc a go h4).1 (Qc b go h5).1
 | .enumL i,X,E,cf,tg,e,go,h=>bad h
end
end
structure Bs where
 G:Gh
 H:Hp
 h:M.AH
structure StS (Γ:Ge) (B:Bs) (G:Gh) (τ:M.Sl) (h:M.AH) (σ:St) (H:Hp):Prop where
 st:StRel Γ G τ h σ H
 ext:Ext B.G B.H G H
 hr:HRel Γ B.G B.h B.H
 own: ∀i xs a,M.Gm τ i=y0 (.own xs)->σ[i]? =y0 (y0 (.ref a))->B.H a=k9
noncomputable def PostO (Γ:Ge) (E:XK) (B:Bs) (o:M.O) (D:qba):Prop:=match o with
 | .next τ h=> ∀G σ H,StS Γ B G τ h σ H->D.nx σ H
 | .ret w h=> ∀G v H,Ext B.G B.H G H->HRel Γ G h H->RelW Γ G H w v->FreshW [] [] B.H w v->D.rt v H
 | .brk τ h=> ∀G σ H,StS Γ B G τ h σ H->D.bk σ H
 | .cont τ h=> ∀G σ H,StS Γ B G τ h σ H->D.ct σ H
 | .exc d h=> ∀G H,Ext B.G B.H G H->HRel Γ G h H->qco Γ E d H
 | .fail=>False
def tDS (Γ:Ge) (E:XK) (m:M.Sl->M.AH->M.O):TS:=λD σ H=> ∃B G τ h,StS Γ B G τ h σ H/\PostO Γ E B (m τ h) D
theorem PS.imp {st:Stmt}(h:PS X st t) (k: ∀D σ H,t' D σ H->t D σ H):PS X st t':=λu8 s σ H D I q=>h u8 s σ H D I (k _ _ _ q)
theorem PSs.imp {st:List Stmt}(h:PSs X st t) (k: ∀D σ H,t' D σ H->t D σ H):PSs X st t':=λu8 s σ H D I q=>h u8 s σ H D I (k _ _ _ q)
section
variable {Γ:Ge}{E:XK}{B:Bs}{G G1:Gh}{τ:M.Sl}{h h1:M.AH}{σ:St}{H H1:Hp}{D:qba}
theorem StS.on (s:StS Γ B G τ h σ H) (e:Ext G H G1 H1) (hr:HRel Γ G1 h1 H1):StS Γ B G1 τ h1 σ H1:=⟨s.st.ext e hr,s.ext.trans s.hr e,s.hr,s.own⟩
theorem PostO.exc (s:StS Γ B G τ h σ H) (p:PostO Γ E B (.exc d h1) D):Post Γ E G H (.exc d h1) P:=λG' H' e hr=>p G' H' (s.ext.trans s.hr e) hr
theorem Ji (s:StS Γ B G τ h σ H) (p:PostO Γ E B ((m τ h).toO f) D)
 (k: ∀w v h1 G1 H1,Ext G H G1 H1->StS Γ B G1 τ h1 σ H1->RelW Γ G1 H1 w v->FreshW τ σ H w v->PostO Γ E B (f w h1) D->Q v H1):tD Γ E m σ H Q:=by
 refine⟨G,τ,h,s.st,?_⟩
 cases q:m τ h with
 | ok w h1=>rw [q]at p;exact λG1 H1 e hr v z1 z2=>k w v h1 G1 H1 e (s.on e hr) z1 z2 p
 | exc d h1=>rw [q]at p;exact PostO.exc s p
 | fail=>rw [q]at p;exact p
theorem xR (s:StS Γ B G τ h σ H) (p:PostO Γ E B ((m τ h).toO f) D)
 (k: ∀b h1 G1 H1,Ext G H G1 H1->StS Γ B G1 τ h1 σ H1->PostO Γ E B (f b h1) D->Q b H1):tDT Γ E m σ H Q:=by
 refine⟨G,τ,h,s.st,?_⟩
 cases q:m τ h with
 | ok w h1=>rw [q]at p;exact λG1 H1 e hr=>k w h1 G1 H1 e (s.on e hr) p
 | exc d h1=>rw [q]at p;exact PostO.exc s p
 | fail=>rw [q]at p;exact p
theorem StS.set (s0:StS Γ B G τ h σ H) (e:Ext G H G1 H1) (s:StS Γ B G1 τ h1 σ H1) (r:RelW Γ G1 H1 w v) (f:FreshW τ σ H w v) (hb: ∀xs,w≠ .bor xs):StS Γ B G1 (M.Kg τ i w) h1 (σ.set i (y0 v)) H1:=by
 refine⟨s.st.set r λhl j w' hj e1 hl' a ea z=> ?_,s.ext,s.hr,λj xs a e1 e2=> ?_⟩
 ·cases w with
  | v d=>cases hl
  | bor xs=>exact hb xs rfl
  | own xs=>
   obtain⟨b,eb,hn⟩:=f
   subst ea
   cases eb
   obtain⟨o,z'⟩:=s0.st.slotThere e1 hl' z
   rw [hn]at z';cases z'
 ·rw [Qe]at e1
  by_cases c:j=i/\i<τ.length
  ·rw [if_pos c]at e1
   cases e1
   obtain⟨rfl,c⟩:=c
   rw [Ac2 (by rw [← s.st.len];exact c)]at e2
   cases e2
   obtain⟨b,eb,hn⟩:=f
   cases eb
   exact s0.ext.none s0.hr hn
  ·rw [if_neg c]at e1
   have hj:=λz=>c ⟨z,by subst z;exact qo e1⟩
   rw [Ac9 (Ne.symm hj)]at e2
   exact s.own j xs a e1 e2
theorem StS.fz (s0:StS Γ B G τ h σ H) (e:Ext G H G1 H1) (s:StS Γ B G1 τ h1 σ H1) (r:RelW Γ G1 H1 w v) (f:FreshW τ σ H w v) (hd:w.d=y0 d): ∃G2,Ext G H G2 H1/\StS Γ B G2 τ h1 σ H1/\RelD Γ G2 H1 d v:=by
 obtain⟨G2,e2,s2,rd,_⟩:=toD e s.st s0.st r f hd
 exact⟨G2,e2,⟨s2,s0.ext.trans s0.hr e2,s.hr,s.own⟩,rd⟩
theorem StS.setD (s:StS Γ B G τ h σ H) (r:RelD Γ G H d v):StS Γ B G (M.Kg τ i (.v d)) h (σ.set i (y0 v)) H:=StS.set s Ext.refl s r trivial λxs z=>by cases z
theorem StS.setTup: ∀ {is}{ds}{vs}{τ τ'}{σ},M.setTup is ds τ=y0 τ'->RelDs Γ G H ds vs->StS Γ B G τ h σ H->StS Γ B G τ' h (zaT is vs σ) H/\is.length=vs.length
 | [],[],_,_,_,_,e,rfl,s=>by cases e;exact⟨s,rfl⟩
 | [],_::_,_,_,_,_,e,_,_=>by simp [M.setTup]at e
 | _::_,[],_,_,_,_,e,_,_=>by simp [M.setTup]at e
 | i::is,d::ds,_,_,_,_,e,⟨v,r,rfl,z1,z2⟩,s=>by
  obtain⟨h1,h2⟩:=StS.setTup (by simpa [M.setTup]using e) z2 (s.setD z1)
  exact⟨h1,congrArg (· +1) h2⟩
theorem xcl (e:M.GQ tg one d τ=y0 τ') (r:RelD Γ G H d x) (s:StS Γ B G τ h σ H) (kq: ∀σ',StS Γ B G τ' h σ' H->Q σ' H):gM Γ tg one x σ H Q:=by
 cases one with
 | true=>
  cases tg with
  | nil=>cases e
  | cons i r'=>
   cases r' with
   | cons _ _=>cases e
   | nil=>
    cases e
    exact⟨i,rfl,kq _ (s.setD r)⟩
 | false=>
  cases d with
  | tup ds=>
   obtain⟨a,vs,rfl,z2,z3⟩:=r
   obtain⟨s',hl⟩:=StS.setTup (e) z3 s
   exact⟨G,ds,vs,a,rfl,z2,z3,hl,kq _ s'⟩
  | _=>cases e
theorem StS.write (s:StS Γ B G τ h σ H) (e1:M.Gm τ i=y0 (.own xs)) (e2:σ[i]? =y0 (y0 (.ref a))) (r:RelDs Γ G H ys us):StS Γ B G (M.Kg τ i (.own ys)) h σ (upd H a (.lst us)):=by
 obtain⟨nf,of,vs,ha,_⟩:=jm s.st e1 e2
 have hB:=s.own i xs a e1 e2
 have mon:Mon G H G (upd H a (.lst us)):=⟨λb o z q=>by rw [ja (λe:b=a=>nf (e▸z))];exact q,Aa6 _,λ_ _=>rfl,λ_ z=>z⟩
 have hil:=qo e1
 have hr':HRel Γ G h (upd H a (.lst us)):=by
  refine⟨s.st.heap.len,λq zs e=> ?_,s.st.heap.pure,s.st.heap.inj,λb z=> ?_,λq ks e=> ?_,λq c fs e=> ?_⟩
  ·obtain⟨z1,ws,z2,z3⟩:=s.st.heap.cell q zs e
   have hq:q<G.n:=by rw [← s.st.heap.len];exact(Aa3.mp e).1
   exact⟨z1,ws,by rw [ja (of q hq)];exact z2,z3.mon mon⟩
  ·obtain⟨o,q⟩:=s.st.heap.live b z
   exact⟨o,by rw [ja (λe:b=a=>nf (e▸z))];exact q⟩
  ·obtain⟨z1,ws,z2,z3,z4⟩:=s.st.heap.dic q ks e
   have hq:q<G.n:=by rw [← s.st.heap.len];exact(Aa3.mp e).1
   exact⟨z1,ws,by rw [ja (of q hq)];exact z2,z3,λx hx=>(z4 x hx).mon mon⟩
  ·obtain⟨z1,z0,dx,ws,z2,z3⟩:=s.st.heap.obj q c fs e
   have hq:q<G.n:=by rw [← s.st.heap.len];exact(Aa3.mp e).1
   exact⟨z1,z0,dx,ws,by rw [ja (of q hq)];exact z2,z3.mon mon⟩
 refine⟨⟨by rw [Wl];exact s.st.len,λj w e=> ?_,λp q zs w b hpq q1 q2 hl q3=> ?_,hr'⟩,⟨λb o q hof=> ?_,s.ext.le,s.ext.rho,s.ext.new,s.ext.fz,s.ext.old,λq hq z=> ?_⟩,s.hr,λj zs b q1 q2=> ?_⟩
 ·rw [Qe]at e
  by_cases c:j=i/\i<τ.length
  ·rw [if_pos c]at e
   cases e
   obtain⟨rfl,_⟩:=c
   exact⟨.ref a,e2,a,us,rfl,nf,of,jd,r.mon mon⟩
  ·rw [if_neg c]at e
   have hj:=λz=>c ⟨z,by subst z;exact qo e⟩
   obtain⟨v,z1,z2⟩:=s.st.slot j w e
   refine⟨v,z1,?_⟩
   cases w with
   | v d=>exact RelD.mon mon z2
   | own ws=>
    obtain⟨b,bs,rfl,y2,y3,y4,y5⟩:=z2
    have hb:b≠a:=λz=>s.st.apart i j xs (.own ws) a (Ne.symm hj) e1 e rfl e2 (z▸z1)
    exact⟨b,bs,rfl,y2,y3,by rw [ja hb];exact y4,y5.mon mon⟩
   | bor ws=>
    obtain⟨b,bs,rfl,y3,y4,y5⟩:=z2
    have hb:b≠a:=λz=>s.st.apart i j xs (.bor ws) a (Ne.symm hj) e1 e rfl e2 (z▸z1)
    refine⟨b,bs,rfl,y3,?_,y5.mon mon⟩
    rcases y4 with y4 | ⟨o,y4⟩
    ·exact .inl (by rw [ja hb];exact y4)
    ·exact .inr ⟨o,by rw [ja hb];exact y4⟩
 ·rw [Qe]at q1 q2
  have f1: ∃zs',M.Gm τ p=y0 (.own zs'):=by
   by_cases c:p=i/\i<τ.length
   ·exact⟨xs,by rw [c.1];exact e1⟩
   ·rw [if_neg c]at q1;exact⟨zs,q1⟩
  have f2: ∃w',M.Gm τ q=y0 w'/\isL w'=true:=by
   by_cases c:q=i/\i<τ.length
   ·exact⟨.own xs,by rw [c.1];exact e1,rfl⟩
   ·rw [if_neg c]at q2;exact⟨w,q2,hl⟩
  obtain⟨zs',f1⟩:=f1
  obtain⟨w',f2,hl'⟩:=f2
  exact s.st.apart p q zs' w' b hpq f1 f2 hl' q3
 ·rw [ja (λe:b=a=>by rw [e,hB]at q;cases q)]
  exact s.ext.keep b o q hof
 ·obtain⟨o,z'⟩:=s.ext.cells q hq z
  have:B.G.rho q≠a:=λe=>by
   have:=of q (Ab3 hq s.ext.le)
   rw [s.ext.rho q hq]at this
   exact this e
  exact⟨o,by rw [ja this];exact z'⟩
 ·rw [Qe]at q1
  by_cases c:j=i/\i<τ.length
  ·obtain⟨rfl,_⟩:=c
   rw [e2]at q2
   cases q2
   exact hB
  ·rw [if_neg c]at q1;exact s.own j zs b q1 q2
theorem xE: ∀(xs) (n){d},M.Gg xs=v9->M.Gr d=v9->M.Gg (xs.set n d)=v9
 | [],_,_,_,_=>rfl
 | x::xs,0,d,h,hd=>by
  have h:=h
  rw [Ab4]at h
  show(M.Gr d&&M.Gg xs)=v9
  rw [hd,h.2];rfl
 | x::xs,n+1,d,h,hd=>by
  have h:=h
  rw [Ab4]at h
  show(M.Gr x&&M.Gg (xs.set n d))=v9
  rw [h.1,xE xs n h.2 hd];rfl
theorem StS.cell (s:StS Γ B G τ h σ H) (e1:h[r]? =y0 (.lst xs)) (hp:M.Gg ys=v9) (z:RelDs Γ G H ys us):StS Γ B G τ (h.set r (.lst ys)) σ (upd H (G.rho r) (.lst us)):=by
 have hl:=(Aa3.mp e1).1
 have hr:r<G.n:=by rw [← s.st.heap.len];exact hl
 obtain⟨nf,vs,hv,_⟩:=s.st.heap.cell r xs e1
 have mon:Mon G H G (upd H (G.rho r) (.lst us)):=⟨λb o w q=>by rw [ja (λe:b=G.rho r=>nf (e▸w))];exact q,Aa6 _,λ_ _=>rfl,λ_ w=>w⟩
 have look: ∀q zs,(h.set r (.lst ys))[q]? =y0 (M.Cell.lst zs)->(q=r/\zs=ys)\/(q≠r/\h[q]? =y0 (.lst zs)):=λq zs e=>by
  by_cases c:q=r
  ·subst c
   rw [Ac2 hl]at e
   cases e
   exact .inl ⟨rfl,rfl⟩
  ·rw [Ac9 (Ne.symm c)]at e
   exact .inr ⟨c,e⟩
 have hr':HRel Γ G (h.set r (.lst ys)) (upd H (G.rho r) (.lst us)):=by
  refine⟨by rw [Ad1];exact s.st.heap.len,λq zs e=> ?_,λq zs e=> ?_,s.st.heap.inj,λb w=> ?_,λq ks e=> ?_,λq c fs e=> ?_⟩
  ·rcases look q zs e with⟨rfl,rfl⟩ | ⟨c,e⟩
   ·exact⟨nf,us,jd,z.mon mon⟩
   ·obtain⟨z1,ws,z2,z3⟩:=s.st.heap.cell q zs e
    have hq:q<G.n:=by rw [← s.st.heap.len];exact(Aa3.mp e).1
    exact⟨z1,ws,by rw [ja λe=>c (s.st.heap.inj q r hq hr e)];exact z2,z3.mon mon⟩
  ·rcases look q zs e with⟨rfl,rfl⟩ | ⟨c,e⟩
   ·exact hp
   ·exact s.st.heap.pure q zs e
  ·obtain⟨o,q⟩:=s.st.heap.live b w
   exact⟨o,by rw [ja (λe:b=G.rho r=>nf (e▸w))];exact q⟩
  ·have c:q≠r:=λc=>by
    subst c
    rw [Ac2 hl]at e
    cases e
   rw [Ac9 (Ne.symm c)]at e
   obtain⟨z1,ws,z2,z3,z4⟩:=s.st.heap.dic q ks e
   have hq:q<G.n:=by rw [← s.st.heap.len];exact(Aa3.mp e).1
   exact⟨z1,ws,by rw [ja λe=>c (s.st.heap.inj q r hq hr e)];exact z2,z3,λx hx=>(z4 x hx).mon mon⟩
  ·have c:q≠r:=λc=>by
    subst c
    rw [Ac2 hl]at e
    cases e
   rw [Ac9 (Ne.symm c)]at e
   obtain⟨z1,z0,dx,ws,z2,z3⟩:=s.st.heap.obj q _ fs e
   have hq:q<G.n:=by rw [← s.st.heap.len];exact(Aa3.mp e).1
   exact⟨z1,z0,dx,ws,by rw [ja λe=>c (s.st.heap.inj q r hq hr e)];exact z2,z3.mon mon⟩
 refine⟨⟨s.st.len,λj w e=> ?_,s.st.apart,hr'⟩,⟨λb o q hof=> ?_,s.ext.le,s.ext.rho,s.ext.new,s.ext.fz,s.ext.old,λq hq w=> ?_⟩,s.hr,s.own⟩
 ·obtain⟨v,z1,z2⟩:=s.st.slot j w e
  refine⟨v,z1,?_⟩
  cases w with
  | v d=>exact RelD.mon mon z2
  | own ws=>
   obtain⟨b,bs,rfl,y2,y3,y4,y5⟩:=z2
   exact⟨b,bs,rfl,y2,y3,by rw [ja (Ne.symm (y3 r hr))];exact y4,y5.mon mon⟩
  | bor ws=>
   obtain⟨b,bs,rfl,y3,y4,y5⟩:=z2
   refine⟨b,bs,rfl,y3,?_,y5.mon mon⟩
   rcases y4 with y4 | ⟨o,y4⟩
   ·exact .inl (by rw [ja (Ne.symm (y3 r hr))];exact y4)
   ·exact .inr ⟨o,by rw [ja (Ne.symm (y3 r hr))];exact y4⟩
 ·have hb:b≠G.rho r:=λe=>by
   by_cases c:r<B.G.n
   ·exact hof r c (by rw [← s.ext.rho r c];exact e.symm)
   ·have:=s.ext.new r (Aj9.mp c) hr
    rw [← e,q]at this
    cases this
  rw [ja hb]
  exact s.ext.keep b o q hof
 ·by_cases c:B.G.rho q=G.rho r
  ·exact⟨_,by rw [c];exact jd⟩
  ·obtain⟨o,w'⟩:=s.ext.cells q hq w
   exact⟨o,by rw [ja c];exact w'⟩
theorem StS.ocell (s:StS Γ B G τ h σ H) (e1:h[r]? =y0 (.obj c0 xs)) (hp:M.Gg (ys.map (·.2))=v9) (z:RelDs Γ G H (ys.map (·.2)) us):StS Γ B G τ (h.set r (.obj c0 ys)) σ (upd H (G.rho r) (.ins (Γ.ca c0) dx0 ((ys.map λp=>Str.ofString p.1).zip us))):=by
 have hl:=(Aa3.mp e1).1
 have hr:r<G.n:=by rw [← s.st.heap.len];exact hl
 obtain⟨nf,_,dx1,vs,hv,_⟩:=s.st.heap.obj r c0 xs e1
 have mon:Mon G H G (upd H (G.rho r) (.ins (Γ.ca c0) dx0 ((ys.map λp=>Str.ofString p.1).zip us))):=⟨λb o w q=>by rw [ja (λe:b=G.rho r=>nf (e▸w))];exact q,Aa6 _,λ_ _=>rfl,λ_ w=>w⟩
 have look: ∀q zs,(h.set r (.obj c0 ys))[q]? =y0 (M.Cell.lst zs)->q≠r/\h[q]? =y0 (.lst zs):=λq zs e=>by
  by_cases c:q=r
  ·subst c
   rw [Ac2 hl]at e
   cases e
  ·rw [Ac9 (Ne.symm c)]at e
   exact⟨c,e⟩
 have hr':HRel Γ G (h.set r (.obj c0 ys)) (upd H (G.rho r) (.ins (Γ.ca c0) dx0 ((ys.map λp=>Str.ofString p.1).zip us))):=by
  refine⟨by rw [Ad1];exact s.st.heap.len,λq zs e=> ?_,λq zs e=> ?_,s.st.heap.inj,λb w=> ?_,λq ks e=> ?_,λq c fs e=> ?_⟩
  ·obtain⟨c,e⟩:=look q zs e
   obtain⟨z1,ws,z2,z3⟩:=s.st.heap.cell q zs e
   have hq:q<G.n:=by rw [← s.st.heap.len];exact(Aa3.mp e).1
   exact⟨z1,ws,by rw [ja λe=>c (s.st.heap.inj q r hq hr e)];exact z2,z3.mon mon⟩
  ·obtain⟨c,e⟩:=look q zs e
   exact s.st.heap.pure q zs e
  ·obtain⟨o,q⟩:=s.st.heap.live b w
   exact⟨o,by rw [ja (λe:b=G.rho r=>nf (e▸w))];exact q⟩
  ·have c:q≠r:=λc=>by
    subst c
    rw [Ac2 hl]at e
    cases e
   rw [Ac9 (Ne.symm c)]at e
   obtain⟨z1,ws,z2,z3,z4⟩:=s.st.heap.dic q ks e
   have hq:q<G.n:=by rw [← s.st.heap.len];exact(Aa3.mp e).1
   exact⟨z1,ws,by rw [ja λe=>c (s.st.heap.inj q r hq hr e)];exact z2,z3,λx hx=>(z4 x hx).mon mon⟩
  ·by_cases c:q=r
   ·subst c
    rw [Ac2 hl]at e
    cases e
    exact⟨nf,hp,dx0,us,jd,z.mon mon⟩
   ·rw [Ac9 (Ne.symm c)]at e
    obtain⟨z1,z0,dx,ws,z2,z3⟩:=s.st.heap.obj q _ fs e
    have hq:q<G.n:=by rw [← s.st.heap.len];exact(Aa3.mp e).1
    exact⟨z1,z0,dx,ws,by rw [ja λe=>c (s.st.heap.inj q r hq hr e)];exact z2,z3.mon mon⟩
 refine⟨⟨s.st.len,λj w e=> ?_,s.st.apart,hr'⟩,⟨λb o q hof=> ?_,s.ext.le,s.ext.rho,s.ext.new,s.ext.fz,s.ext.old,λq hq w=> ?_⟩,s.hr,s.own⟩
 ·obtain⟨v,z1,z2⟩:=s.st.slot j w e
  refine⟨v,z1,?_⟩
  cases w with
  | v d=>exact RelD.mon mon z2
  | own ws=>
   obtain⟨b,bs,rfl,y2,y3,y4,y5⟩:=z2
   exact⟨b,bs,rfl,y2,y3,by rw [ja (Ne.symm (y3 r hr))];exact y4,y5.mon mon⟩
  | bor ws=>
   obtain⟨b,bs,rfl,y3,y4,y5⟩:=z2
   refine⟨b,bs,rfl,y3,?_,y5.mon mon⟩
   rcases y4 with y4 | ⟨o,y4⟩
   ·exact .inl (by rw [ja (Ne.symm (y3 r hr))];exact y4)
   ·exact .inr ⟨o,by rw [ja (Ne.symm (y3 r hr))];exact y4⟩
 ·have hb:b≠G.rho r:=λe=>by
   by_cases c:r<B.G.n
   ·exact hof r c (by rw [← s.ext.rho r c];exact e.symm)
   ·have:=s.ext.new r (Aj9.mp c) hr
    rw [← e,q]at this
    cases this
  rw [ja hb]
  exact s.ext.keep b o q hof
 ·by_cases c:B.G.rho q=G.rho r
  ·exact⟨_,by rw [c];exact jd⟩
  ·obtain⟨o,w'⟩:=s.ext.cells q hq w
   exact⟨o,by rw [ja c];exact w'⟩
theorem StS.freeze (s:StS Γ B G τ h σ H) (e1:M.Gm τ i=y0 (.own xs)): ∃G',StS Γ B G' (M.Kg τ i (.v (.lst xs))) h σ H:=by
 obtain⟨v,e2,a,vs,rfl,nf,of,ha,rs⟩:=s.st.slot i _ e1
 have hB:=s.own i xs a e1 e2
 refine⟨G.more a,⟨⟨by rw [Wl];exact s.st.len,λj w e=> ?_,λp q zs w b hpq q1 q2 hl q3=> ?_,s.st.heap.more of ⟨_,ha⟩⟩,s.ext.more hB,s.hr,λj zs b q1 q2=> ?_⟩⟩
 ·rw [Qe]at e
  by_cases c:j=i/\i<τ.length
  ·rw [if_pos c]at e
   cases e
   obtain⟨rfl,_⟩:=c
   exact⟨.ref a,e2,a,vs,rfl,.inl ⟨.inr rfl,.inl ha⟩,rs.mon (zi a)⟩
  ·rw [if_neg c]at e
   have hj:=λz=>c ⟨z,by subst z;exact qo e⟩
   obtain⟨v,z1,z2⟩:=s.st.slot j w e
   exact⟨v,z1,z2.more λhl ev=>s.st.apart i j xs w a (Ne.symm hj) e1 e hl e2 (ev▸z1)⟩
 ·rw [Qe]at q1 q2
  by_cases c:p=i/\i<τ.length
  ·rw [if_pos c]at q1;cases q1
  ·rw [if_neg c]at q1
   by_cases c':q=i/\i<τ.length
   ·rw [if_pos c']at q2;cases q2;cases hl
   ·rw [if_neg c']at q2;exact s.st.apart p q zs w b hpq q1 q2 hl q3
 ·rw [Qe]at q1
  by_cases c:j=i/\i<τ.length
  ·rw [if_pos c]at q1;cases q1
  ·rw [if_neg c]at q1;exact s.own j zs b q1 q2
end
structure GoS (Γ:Ge) (F:M.Fx) (X:Cx) (E:XK) (k:Nat) (cf:Cf):Prop extends Go Γ F X E k cf where
 pown:PassesOwn (model X.prog X.w) X.A X.env X.xe
 stk:X.stack=X.env::X.outer
 frm:X.env.frame=y0 X.env.locals
 ex:X.ex= []
 rai: ∀c,cf.rai.contains c=true->glB cf.sc (Ze c)=true->(Ze c==("__debug__" :Str))=false->XOk Γ c/\ ∀(np k6 pos:Pos) (e:Expr) (es:List Expr) (t:TA),PA X (e::es) t->(∀ e'∈e::es,Qa e'=true) →
  PS X (.Raise (y0 (.Call (.Name (Ze c) np) (e::es) [] k6)) k9 pos) (qaV (Γ.ca c) E t)
 hnd: ∀c,cf.hnd.contains c=true->PySem.W.mroIn X.K (Γ.ca c) (.type "BaseException")=some true/\cf.own.contains c=true
section
variable {Γ:Ge}{F:M.Fx}{X:Cx}{E:XK}{k:Nat}{cf:Cf}
theorem JL (h:wC cf i x=v9):cf.N[i]? =y0 x/\jby cf.sc x=true:=by
 simpa [wC]using h
theorem jaI (h0:tD Γ E (M.eval F (.share a)) σ H Q):tD Γ E (M.eval F a) σ H Q:=by
 obtain⟨G,τ,h,s,p⟩:=h0
 refine Xa s.heap Ext.refl s p λw1 v1 h1 G1 H1 e1 e1' s1 r1 f1 p1=> ?_
 cases w1 with
 | own xs=>
  obtain⟨l,vs,rfl,z2,z3,z4,z5⟩:=r1
  obtain⟨l',el,hl⟩:=f1
  cases el
  have p1:Post Γ E G H (if M.Gg xs=v9 then M.okv (.ref h1.length) (h1++ [.lst xs])else .fail) _:=p1
  by_cases hp:M.Gg xs=v9
  rotate_left
  ·rw [if_neg hp]at p1;exact p1.elim
  rw [if_pos hp]at p1
  refine Post.val p1 (jH e1 hl) (QL s1.heap z2 z3 z4 z5 hp) ?_ trivial
  show h1.length<G1.n+1/\V.ref l= .ref (if h1.length=G1.n then l else G1.rho h1.length)
  rw [s1.heap.len,if_pos rfl]
  exact⟨Af1 _,rfl⟩
 | v d=>exact p1.elim
 | bor xs=>exact p1.elim
theorem xm (h:zn v=v9):swapsWith v t l env=pure false:=by
 cases v<;>first | rfl | (simp [zn]at h)
theorem jM (go:Go Γ F X E k cf)(hl:wC cf i x=v9) (hv:PE X v (tD Γ E (M.eval F m))) (hc:swapsWith v (y0 (.Name x p)) pos.line X.env=pure u9):
 PS X (.Assign [.Name x p] v pos) (zaY (tD Γ E (M.eval F m)) (qN i)):=by
 obtain⟨h1,h2⟩:=JL hl
 have hl:=go.sto x h2
 exact qb5 (by rw [go.N];exact go.nd) (by rw [go.N];exact h1) hl.1 hv hc hl.2
def zcr:M.E->Bool
 | .share _=>v9
 | .comp .. =>v9
 | _=>u9
theorem jaG (h:Zc cf m v=v9) (hm:zcr m=u9):zn v=true:=by
 cases v with
 | ListComp _ _ _ _=>cases m<;>first | exact bad h | (exact absurd (hm) Am3)
 | SetComp _ _ _ _=>cases m<;>first | exact bad h | (exact absurd (hm) Am3)
 | DictComp _ _ _ _ _=>cases m<;>first | exact bad h | (exact absurd (hm) Am3)
 | _=>rfl
noncomputable def xcx (cb:Cf) (u6:Bool) (ifs:List Expr) (c:M.E):Bool:=bif u6 then(lC ifs λz r=>kZ r (tOk c&&Zc cb c z))else ifs.isEmpty
theorem xaL (h:Zc cf (.comp tg one kk cap it u6 c elt) v=v9): ∃y t iter ifs scope p0,v= .ListComp y [⟨t,iter,ifs,0⟩] scope p0 ∧
 xbC cf scope (Wp cf t cap) kk cap/\(∀ i∈tg,i<kk)/\Xe { cf with sc:=scope,N:=Wp cf t cap } tg one t=v9/\chkIt cf it iter=v9/\Zc { cf with sc:=scope,N:=Wp cf t cap } elt y=v9 ∧
 xcx { cf with sc:=scope,N:=Wp cf t cap } u6 ifs c=true:=by
 refine zbU (λy g s p h=> ?_) v h
 refine kC (λg r h=> ?_) g h
 obtain⟨t,iter,ifs,z⟩:=g
 obtain⟨h0,h1,h2,h3,h4,h5,h6⟩:=a7 h
 obtain⟨rfl,rfl⟩:=of_decide_eq_true h0
 simp only [Ah0,decide_eq_true_eq]at h2
 exact⟨y,t,iter,ifs,s,p,rfl,JB h1,h2,h3,h4,h5,h6⟩
theorem zaU (go:Go Γ F X E k cf)(hl:wC cf i x=v9)(h:Zc cf (.comp tg one kk cap it u6 c elt) v=v9):
 PS X (.Assign [.Name x p] v pos) (zaY (tD Γ E (M.eval F (.comp tg one kk cap it u6 c elt))) (qN i)):=by
 have hv:=(Qc (.comp tg one kk cap it u6 c elt) go h).1
 obtain⟨y,t,iter,ifs,scope,p0,rfl,sc,h2,h3,h4,h5,h6⟩:=xaL h
 obtain⟨b,hb⟩: ∃b,swapsWith (.ListComp y [⟨t,iter,ifs,0⟩] scope p0) (y0 (.Name x p)) pos.line X.env=pure b:=⟨_,rfl⟩
 cases b with
 | false=>exact jM go hl hv hb
 | true=>
  obtain⟨g1,g2⟩:=JL hl
  have ht: ∀C fp s H,PTs (Xc X (Wp cf t cap) scope C fp s H) ifs (tDT Γ E0 (xX F u6 c)):=λC fp s H=>by
   have gc:=Qu go sc C fp s H
   cases u6 with
   | true=>
    refine kC (λz r h=> ?_) ifs h6
    refine kE (λh=> ?_) r h
    exact jah ((Qc c gc (a2 h).2).2 (a2 h).1)
   | false=>
    cases Af0.mp h6
    intro u8 s1 σ H1 Q I ⟨G,τ,h,st,p⟩
    exact qak u8 s1 σ H1 Q I (p G H1 Ext.refl st.heap)
  exact QP go g1 g2 hb sc (qB sc.cap) h3 h2 (xM h4) (sndI it go h4) (λC fp s H=>(Qc elt (Qu go sc C fp s H) h5).1) ht
theorem Jb (go:Go Γ F X E k cf)(hl:wC cf i x=v9)(h:Zc cf m v=v9) (hm:zcr m=u9):PS X (.Assign [.Name x p] v pos) (zaY (tD Γ E (M.eval F m)) (qN i)):=
 jM go hl (Qc m go h).1 (xm (jaG h hm))
theorem zae (go:Go Γ F X E k cf)(hl:wC cf i x=v9): ∀ m,Zc cf m v=v9->PS X (.Assign [.Name x p] v pos) (zaY (tD Γ E (M.eval F m)) (qN i))
 | .share a,h=>PS.imp (zae go hl a h) λD σ H q=>jaI q
 | .comp ..,h=>zaU go hl h
 | .var _,h=>Jb go hl h rfl
 | .con _,h=>Jb go hl h rfl
 | .int _,h=>Jb go hl h rfl
 | .bl _,h=>Jb go hl h rfl
 | .str _,h=>Jb go hl h rfl
 | .tup _,h=>Jb go hl h rfl
 | .lst _,h=>Jb go hl h rfl
 | .bin ..,h=>Jb go hl h rfl
 | .cmp ..,h=>Jb go hl h rfl
 | .chain ..,h=>Jb go hl h rfl
 | .neg _,h=>Jb go hl h rfl
 | .not _,h=>Jb go hl h rfl
 | .and ..,h=>Jb go hl h rfl
 | .or ..,h=>Jb go hl h rfl
 | .call ..,h=>Jb go hl h rfl
 | .bi ..,h=>Jb go hl h rfl
 | .isT ..,h=>Jb go hl h rfl
 | .ix ..,h=>Jb go hl h rfl
 | .sl ..,h=>Jb go hl h rfl
 | .slL ..,h=>Jb go hl h rfl
 | .slH ..,h=>Jb go hl h rfl
 | .rev _,h=>Jb go hl h rfl
 | .meth ..,h=>Jb go hl h rfl
 | .tix ..,h=>Jb go hl h rfl
 | .tget ..,h=>Jb go hl h rfl
 | .dlit ..,h=>Jb go hl h rfl
 | .fstr _,h=>Jb go hl h rfl
 | .strI _,h=>Jb go hl h rfl
 | .intT _,h=>Jb go hl h rfl
 | .fld ..,h=>Jb go hl h rfl
 | .mcall ..,h=>Jb go hl h rfl
 | .make ..,h=>Jb go hl h rfl
theorem jaL (go:Go Γ F X E k cf)(hl:wC cf i x=v9)(h:Zc cf m v=v9):PS X (.Assign [.Name x p] v pos) (tDS Γ E (M.exec F (.set i m))):=by
 refine PS.imp (zae go hl m h) λD σ H qq=> ?_
 obtain⟨B,G,τ,h,s,p⟩:=qq
 refine Ji s p λw v h1 G1 H1 e1 s1 r1 f1 p1=> ?_
 cases w with
 | bor xs=>exact p1.elim
 | v d=>exact p1 G1 _ H1 (StS.set s e1 s1 r1 f1 λxs z=>by cases z)
 | own ys=>exact p1 G1 _ H1 (StS.set s e1 s1 r1 f1 λxs z=>by cases z)
theorem zam (go:Go Γ F X E k cf)(hl:wC cf i x=v9)(h:Zc cf m v=v9):PS X (.Assign [.Name x p] v pos) (tDS Γ E (M.exec F (.setf i m))):=by
 refine PS.imp (zae go hl m h) λD σ H qq=> ?_
 obtain⟨B,G,τ,h,s,p⟩:=qq
 refine Ji s p λw v h1 G1 H1 e1 s1 r1 f1 p1=> ?_
 cases q:w.d with
 | none=>rw [q]at p1;exact p1.elim
 | some d=>
  rw [q]at p1
  obtain⟨G2,e2,s2,rd⟩:=StS.fz s e1 s1 r1 f1 q
  exact p1 G2 _ H1 (s2.setD rd)
theorem QJ :swapsWithSole [.Subscript x y p] v l env=pure false:=by
 cases v<;>rfl
theorem ZE :swappedStores [.Subscript x y p] v env=pure none:=by
 cases v<;>rfl
theorem jal (hy:We y=v9) (v):assign (.Subscript x y p) env v=(do
 let ov ←holding [v] (eval x env)
 let iv ←holding [v,ov] (eval y env)
 standAt p
 holding [v,ov,iv] (setItem ov iv v)
 release [v,ov,iv] []):=by
 cases y<;>first | rfl | (simp [We]at hy)
theorem jV (hf:M.flat d=v9) (z:RelD Γ G H d v):RelD Γ G' H' d v:=by
 cases d with
 | non=>exact z
 | bl _=>exact z
 | int _=>exact z
 | str _=>exact z
 | _=>exact absurd (hf) Ab2
theorem jZ (hf:M.flat d=v9):M.Gr d=true:=by
 cases d<;>first | rfl | exact absurd (hf) Ab2
theorem jP (go:Go Γ F X E k cf)(hy:We y=v9)(ho:Zc cf o x=v9) (hk:Zc cf kx y=v9) (h:Zc cf m v=v9):PS X (.Assign [.Subscript x y p] v pos) (tDS Γ E (M.exec F (.setref o kx m))):=by
 refine PS.imp (za5 (Qc m go h).1 (qa3 (Qc o go ho).1 (Qc kx go hk).1 JR (jal hy)) QJ ZE rfl) λD σ H qq=> ?_
 obtain⟨B,G,τ,h,s,p⟩:=qq
 refine Ji s p λw v h1 G1 H1 e1 s1 r1 f1 p1=> ?_
 refine Ji s1 p1 λow ov h2 G2 H2 e2 s2 r2 f2 p2=> ?_
 refine Ji s2 p2 λkw iv h3 G3 H3 e3 s3 r3 f3 p3=> ?_
 unfold M.Pf at p3
 split at p3
 ·rename_i d r j
  split at p3
  ·rename_i xs q
   split at p3
   ·rename_i n qn
    split at p3
    ·rename_i hf
     obtain⟨h4,h5⟩:=(RelW.ext e3 s2.st.heap r2)
     subst h5
     cases (r3)
     have rd:RelD Γ G3 H3 d v:=jV hf r1
     obtain⟨_,vs,hv,rv⟩:=s3.st.heap.cell r xs q
     refine⟨_,vs,j,n,rfl,rfl,hv,by rw [← rv.length];exact qn,?_⟩
     exact p3 G3 σ _ (s3.cell q (xE xs n (s3.st.heap.pure r xs q) (jZ hf)) (RelDs.set rd n rv))
    ·exact p3.elim
   ·exact p3.elim
  ·exact p3.elim
 ·exact p3.elim
theorem xaG (h:Z8 cf i m e k6=v9): ∃x p apos,e= .Attribute (.Name x p) m apos/\cf.N[i]? =y0 x/\XN cf.sc x=v9/\nmB x=v9/\(apos.endLine==k6.line)=true:=by
 refine XV (λx n q h=> ?_) e h
 refine Qx (λx p h=> ?_) x h
 obtain⟨h,h0,h5⟩:=a3 h
 obtain⟨h1,h2,h3⟩:=qaK h
 cases of_decide_eq_true h0
 exact⟨_,_,_,rfl,h1,h2,h3,h5⟩
theorem qaG (go:Go Γ F X E k cf)(hf:Z8 cf i "append" f k6=true) (hv:Qa v=true)(h:Zc cf m v=true):PS X (.Expr (.Call f [v] [] k6) pos) (tDS Γ E (M.exec F (.app i m))):=by
 obtain⟨x,p,apos,rfl,h1,h2,h3,h4⟩:=xaG hf
 unfold nmB at h3
 rw [Ab4]at h3
 have pv:=zA (pos:=p) (by rw [go.N];exact h1) (go.vis x h2) (by simpa using h3.1) (by simpa using h3.2)
 refine PS.imp (jas (xck PySem.F.plainAttrs_list PySem.F.slot_list_append PySem.F.type_list_append X6 pv (Jd (Qc m go h).1 Wk (xa hv)) rfl (by rw [xa hv];rfl) h4 (xa hv) rfl) (xm rfl)) λD σ H qq=> ?_
 obtain⟨B,G,τ,h,s,p⟩:=qq
 rw [M.exec]at p
 cases q:M.Gm τ i with
 | none=>rw [q]at p;exact p.elim
 | some w0=>
  rw [q]at p
  cases w0 with
  | v d=>exact p.elim
  | bor ys=>exact p.elim
  | own ys=>
   obtain⟨v0,e0,a,vs,rfl,z2,z3,z4,z5⟩:=s.st.slot i _ q
   refine⟨.ref a,e0,.inl ⟨rfl,vs,SqL.of z4⟩,?_⟩
   refine Ji s p λw v h1 G1 H1 e1 s1 r1 f1 p1=> ?_
   cases qd:w.d with
   | none=>rw [qd]at p1;exact p1.elim
   | some d=>
    rw [qd]at p1
    obtain⟨G2,e2,s2,rd⟩:=StS.fz s e1 s1 r1 f1 qd
    have p1:PostO Γ E B (if ys.length<M.LIM then .next (M.Kg τ i (.own (ys++ [d]))) h1 else .fail) D:=p1
    by_cases hL:ys.length<M.LIM
    ·rw [if_pos hL]at p1
     obtain⟨nf,of,us,ha,rs⟩:=jm s2.st q e0
     have u7:=rs.length
     exact⟨a,us,v,rfl,rfl,ha,by have:=Jj;omega,p1 G2 σ _ (s2.write q e0 (rs.append ⟨v,[],rfl,rd,rfl⟩))⟩
    ·rw [if_neg hL]at p1;exact p1.elim
theorem xQ (go:Go Γ F X E k cf)(h1:cf.N[i]? =y0 x) (h2:XN cf.sc x=v9) (h3:nmB x=v9) (hf:cf.ob.fl.contains (c,f)=v9) (hv:zn v=v9) (h:Zc cf m v=v9):PS X (.Assign [.Attribute (.Name x p1) (Ze f) p2] v pos) (tDS Γ E (M.exec F (.setfld i c f m))):=by
 refine PS.imp (jb0 (WG go h1 h2 h3) (Qc m go h).1 (xm hv)) λD σ H qq=> ?_
 obtain⟨B,G,τ,h,s,p⟩:=qq
 refine Ji s p λw v h1 G1 H1 e1 s1 r1 f1 p1=> ?_
 cases w with
 | own _=>exact p1.elim
 | bor _=>exact p1.elim
 | v d=>
  cases q:M.Ks h1 (M.Gm τ i)with
  | none=>rw [q]at p1;exact p1.elim
  | some o=>
   obtain⟨r,c',fs⟩:=o
   rw [q]at p1
   dsimp only at p1
   split at p1
   ·rename_i hc
    obtain⟨rfl,hd,hl⟩:=hc
    obtain⟨e2,e3⟩:=jB q
    obtain⟨nf,np,dx,us,hH,ru⟩:=s1.st.heap.obj r _ fs e3
    obtain⟨us',ru',ep⟩:=xS (r1) ru
    refine⟨_,Jw s1.st q,G1.rho r,Γ.ca c',dx,_,rfl,hH,(go.fld _ _ hf).1,(go.fld _ _ hf).2,?_,?_⟩
    ·rw [List.length_zip,Ac4];omega
    ·rw [ep]
     exact p1 G1 σ _ (s1.ocell e3 (qac hd np) ru')
   ·exact p1.elim
theorem JW (go:Go Γ F X E k cf)(h1:cf.N[i]? =y0 x) (h2:XN cf.sc x=v9) (h3:nmB x=v9) (hy:We y=v9)(hk:Zc cf kx y=v9) (h:Zc cf m v=v9):PS X (.Assign [.Subscript (.Name x p) y p2] v pos) (tDS Γ E (M.exec F (.setix i kx m))):=by
 unfold nmB at h3
 rw [Ab4]at h3
 have pv:=zA (pos:=p) (by rw [go.N];exact h1) (go.vis x h2) (by simpa using h3.1) (by simpa using h3.2)
 refine PS.imp (za5 (Qc m go h).1 (qa3 pv (Qc kx go hk).1 JR (jal hy)) QJ ZE rfl) λD σ H qq=> ?_
 obtain⟨B,G,τ,h,s,p⟩:=qq
 refine Ji s p λw v h1 G1 H1 e1 s1 r1 f1 p1=> ?_
 cases q:M.Gm τ i with
 | none=>rw [q]at p1;exact p1.elim
 | some w0=>
  rw [q]at p1
  cases w0 with
  | v d=>exact p1.elim
  | bor ys=>exact p1.elim
  | own ys=>
   obtain⟨v0,e0,a,vs,rfl,z2,z3,z4,z5⟩:=s1.st.slot i _ q
   refine⟨.ref a,e0,?_⟩
   refine Ji s1 p1 λkw iv h2 G2 H2 e2 s2 r2 f2 p2=> ?_
   split at p2
   ·rename_i d j
    split at p2
    ·rename_i hf
     split at p2
     ·rename_i n qn
      cases (r2)
      have rd:RelD Γ G2 H2 d v:=jV hf r1
      obtain⟨nf,of,us,ha,rs⟩:=jm s2.st q e0
      refine⟨_,us,j,n,rfl,rfl,ha,by rw [← rs.length];exact qn,?_⟩
      exact p2 G2 σ _ (s2.write q e0 (RelDs.set rd n rs))
     ·exact p2.elim
    ·exact p2.elim
   ·exact p2.elim
end
section
variable {Γ:Ge}{E:XK}{B:Bs}{G:Gh}{τ:M.Sl}{h:M.AH}{σ:St}{H:Hp}{D:qba}
theorem qau (e1:M.Gm τ i=y0 (.own xs)) (e2:σ[i]? =y0 (y0 (.ref a))):Wh τ σ H a=none:=by
 unfold Wh
 rw [if_pos ⟨i,xs,e1,e2⟩]
theorem ZS (e:Wh τ σ H a=y0 o):H a=y0 o:=by
 unfold Wh at e
 split at e
 ·cases e
 ·exact e
theorem W5 (s:StRel Γ G τ h σ H):HRel Γ G h (Wh τ σ H) where
 len:=s.heap.len
 cell:=λr xs e=>by
  obtain⟨z1,vs,z2,z3⟩:=s.heap.cell r xs e
  have hr:r<G.n:=by rw [← s.heap.len];exact(Aa3.mp e).1
  exact⟨z1,vs,by rw [Qf λ⟨i,ys,q1,q2⟩=>(jm s q1 q2).2.1 r hr rfl];exact z2,z3.mon (Xm s)⟩
 pure:=s.heap.pure
 inj:=s.heap.inj
 live:=λa z=>by
  obtain⟨o,q⟩:=s.heap.live a z
  exact⟨o,by rw [Qf λ⟨i,ys,q1,q2⟩=>(jm s q1 q2).1 z];exact q⟩
 dic:=λr ks e=>by
  obtain⟨z1,xs,z2,z3,z4⟩:=s.heap.dic r ks e
  have hr:r<G.n:=by rw [← s.heap.len];exact(Aa3.mp e).1
  exact⟨z1,xs,by rw [Qf λ⟨i,ys,q1,q2⟩=>(jm s q1 q2).2.1 r hr rfl];exact z2,z3,λx hx=>(z4 x hx).mon (Xm s)⟩
 obj:=λr c fs e=>by
  obtain⟨z1,z0,dx,us,z2,z3⟩:=s.heap.obj r c fs e
  have hr:r<G.n:=by rw [← s.heap.len];exact(Aa3.mp e).1
  exact⟨z1,z0,dx,us,by rw [Qf λ⟨i,ys,q1,q2⟩=>(jm s q1 q2).2.1 r hr rfl];exact z2,z3.mon (Xm s)⟩
noncomputable def reB (G:Gh) (τ:M.Sl) (h:M.AH) (σ:St) (H:Hp):Bs:=⟨G,Wh τ σ H,h⟩
theorem Wx (s:StS Γ B G τ h σ H):Ext B.G B.H G (Wh τ σ H) where
 keep:=λa o e hof=>by
  rw [Qf λ⟨i,xs,q1,q2⟩=>by rw [s.own i xs a q1 q2]at e;cases e]
  exact s.ext.keep a o e hof
 le:=s.ext.le
 rho:=s.ext.rho
 new:=s.ext.new
 fz:=s.ext.fz
 old:=s.ext.old
 cells:=λr hr z=>by
  obtain⟨o,q⟩:=s.ext.cells r hr z
  refine⟨o,?_⟩
  rw [Qf λqq=>by
   obtain⟨i,xs,q1,q2⟩:=qq
   obtain⟨u,z⟩:=z
   rw [s.own i xs _ q1 q2]at z
   cases z]
  exact q
theorem jbV (s:StS Γ B G τ h σ H):StS Γ (reB G τ h σ H) G τ h σ H where
 st:=s.st
 ext:=⟨λa o e _=>ZS e,Aa6 _,λ_ _=>rfl,λr h1 h2=>absurd h1 (Al9.mpr h2),λ_ z=>z,λ_ z=> .inl z,λr hr ⟨o,z⟩=>⟨o,ZS z⟩⟩
 hr:=W5 s.st
 own:=λi xs a e1 e2=>qau e1 e2
theorem jG (s:StS Γ B G τ h σ H)(s2:StS Γ (reB G τ h σ H) G2 τ2 h2 σ2 H2):StS Γ B G2 τ2 h2 σ2 H2:=
 ⟨s2.st,(Wx s).trans s.hr s2.ext,s.hr,λi xs a e1 e2=>(Wx s).none s.hr (s2.own i xs a e1 e2)⟩
theorem qaH (s:StS Γ B G τ h σ H)(p:PostO Γ E B o D):PostO Γ E (reB G τ h σ H) o D:=by
 cases o with
 | next τ' h'=>exact λG' σ' H' s'=>p G' σ' H' (jG s s')
 | brk τ' h'=>exact λG' σ' H' s'=>p G' σ' H' (jG s s')
 | cont τ' h'=>exact λG' σ' H' s'=>p G' σ' H' (jG s s')
 | ret w h'=>
  refine λG' v H' e hr r f=>p G' v H' ((Wx s).trans s.hr e) hr r ?_
  cases w with
  | v d=>trivial
  | own xs=>obtain⟨a,z1,z2⟩:=f;exact⟨a,z1,(Wx s).none s.hr z2⟩
  | bor xs=>exact f
 | exc d h'=>exact λG' H' e hr=>p G' H' ((Wx s).trans s.hr e) hr
 | fail=>exact p
end
section
variable {Γ:Ge}{F:M.Fx}{X:Cx}{E:XK}{k:Nat}{cf:Cf}
theorem CL.hide (s:StRel Γ G τ h σ H) (c:CL Γ ds l vs G H) (hn: ¬ ∃ i xs,M.Gm τ i=y0 (.own xs)/\σ[i]? =y0 (y0 (.ref l))):CL Γ ds l vs G (Wh τ σ H):=by
 obtain⟨z1,z3⟩:=c
 refine⟨?_,z3.mon (Xm s)⟩
 rcases z1 with⟨z1,z2⟩ | z1
 ·refine .inl ⟨?_,z2⟩
  rcases z1 with z1 | ⟨o,z1⟩
  ·exact .inl (by rw [Qf hn];exact z1)
  ·exact .inr ⟨o,by rw [Qf hn];exact z1⟩
 ·exact .inr z1
theorem CL.hideS (s:StRel Γ G τ h σ H) (z2:StL Γ G H l vs) (z3:RelDs Γ G H ds vs):CL Γ ds l vs G (Wh τ σ H):=by
 refine⟨?_,z3.mon (Xm s)⟩
 rcases z2 with z2 | z2
 ·exact(CL.hide s ⟨.inl ⟨z2.2,s.heap.off z2.1⟩,z3⟩ λ⟨j,ys,q1,q2⟩=>(jm s q1 q2).1 z2.1).1
 ·exact .inr z2
theorem CT.hide (s:StRel Γ G τ h σ H) (c:CT Γ ds l vs G H):CT Γ ds l vs G (Wh τ σ H):=⟨c.1.mon (Xm s),c.2.mon (Xm s)⟩
theorem Jz (h:M.Kn a=y0 i):a= .var i:=by
 cases a<;>first | (cases h;rfl) | cases h
theorem qbt (h:Zc cf (.var i) e=v9): ∃x p,e= .Name x p/\cf.N[i]? =y0 x/\XN cf.sc x=v9/\nmB x=true:=by
 refine Qx (λx p h=> ?_) e h
 exact⟨_,_,rfl,qaK h⟩
theorem xaN (go:Go Γ F X E k cf)(h:Zc cf (.var i) e=v9):PE X e (xb5 i):=by
 obtain⟨x,p,rfl,h1,h2,h3⟩:=qbt h
 unfold nmB at h3
 rw [Ab4]at h3
 exact zA (by rw [go.N];exact h1) (go.vis x h2) (by simpa using h3.1) (by simpa using h3.2)
theorem ZB (s:StRel Γ G τ h σ H)(e:M.Gm τ i=y0 w) (hw:w= .v (.lst xs)\/w= .bor xs):
 ∃l vs,σ[i]? =y0 (y0 (.ref l))/\CL Γ xs l vs G H/\CL Γ xs l vs G (Wh τ σ H):=by
 obtain⟨v,e2,r⟩:=s.slot i w e
 rcases hw with rfl | rfl
 ·obtain⟨l,vs,rfl,z2,z3⟩:=r
  exact⟨l,vs,e2,⟨z2.lok s.heap,z3⟩,CL.hideS s z2 z3⟩
 ·obtain⟨l,vs,rfl,z2,z3,z4⟩:=r
  have c:CL Γ xs l vs G H:=⟨.inl ⟨z3,z2⟩,z4⟩
  refine⟨l,vs,e2,c,c.hide s λ⟨j,ys,q1,q2⟩=> ?_⟩
  have hji:j≠i:=λz=>by rw [z,e]at q1;cases q1
  exact s.apart j i ys _ l hji q1 e rfl q2 e2
theorem ZJ (s0:StRel Γ G0 τ h0 σ H0) (s:StRel Γ G τ h σ H)(r:RelW Γ G H w v) (f:FreshW τ σ H0 w v) (hw:w= .v (.lst xs)\/w= .own xs):
 ∃l vs,v= .ref l/\CL Γ xs l vs G H/\CL Γ xs l vs G (Wh τ σ H):=by
 rcases hw with rfl | rfl
 ·obtain⟨l,vs,rfl,z2,z3⟩:=r
  exact⟨l,vs,rfl,⟨z2.lok s.heap,z3⟩,CL.hideS s z2 z3⟩
 ·obtain⟨l,vs,rfl,z2,z3,z4,z5⟩:=r
  obtain⟨l',el,hn⟩:=f
  cases el
  have c:CL Γ xs l vs G H:=⟨.inl ⟨.inl z4,z3⟩,z5⟩
  refine⟨l,vs,rfl,c,c.hide s λ⟨j,ys,q1,q2⟩=> ?_⟩
  obtain⟨o,z⟩:=s0.slotThere q1 rfl q2
  rw [hn]at z;cases z
theorem qaU (go:Go Γ F X E k cf)(hc:Zc cf a e=v9):PI X tg e (tDI Γ E v9 (M.G8 F (.seq a))):=by
 cases q:M.Kn a with
 | some i=>
  cases Jz q
  refine PI.imp (qai (xaN go hc)) λσ H R qq=> ?_
  obtain⟨G,τ,h,s,p⟩:=qq
  have p:Post Γ E G H (M.R.of h ((M.Gm τ i).bind M.lpV)) λds _ G' H'=> ∀J C,zp Γ J ds C->C G' H'->(v9=v9->C G' (Wh τ σ H'))->R J H':=p
  cases q1:M.Gm τ i with
  | none=>rw [q1]at p;exact p.elim
  | some w=>
   rw [q1]at p
   have lst: ∀ {xs},(w= .v (.lst xs)\/w= .bor xs)->Post Γ E G H (.ok xs h) (λds _ G' H'=> ∀J C,zp Γ J ds C->C G' H'->(v9=v9->C G' (Wh τ σ H'))->R J H') →
    ∃v,σ[i]? =y0 (y0 v)/\((∃ a,v= .ref a/\(∃ xs,SqL X.K H a xs)/\R (Itl X.K a) H)\/(∃ a,v= .ref a/\(∃ xs,SqT X.K H a xs)/\R (Itt X.K a) H)\/ ∃z,v= .str z/\R (Its z) H):=λ{xs} hw p=>by
    obtain⟨l,vs,e2,c1,c2⟩:=ZB s q1 hw
    exact⟨_,e2,.inl ⟨l,rfl,⟨vs,go.K▸c1.1.sq⟩,p G H Ext.refl s.heap _ _ (CL.walk go.K) c1 λ_=>c2⟩⟩
   cases w with
   | v d=>
    cases d with
    | lst xs=>exact lst (.inl rfl) p
    | tup xs=>
     obtain⟨v,e2,l,vs,rfl,z2,z3⟩:=s.slot i _ q1
     have c:CT Γ xs l vs G H:=⟨z2,z3⟩
     exact⟨_,e2,.inr (.inl ⟨l,rfl,⟨vs,go.K▸z2.sq⟩,p G H Ext.refl s.heap _ _ (CT.walk go.K) c λ_=>c.hide s⟩)⟩
    | non=>exact p.elim
    | bl _=>exact p.elim
    | int _=>exact p.elim
    | str z=>
     obtain⟨v,e2,r⟩:=s.slot i _ q1
     cases (show v= .str (txS z)from r)
     exact⟨_,e2,.inr (.inr ⟨_,rfl,p G H Ext.refl s.heap _ _ QB trivial λ_=>trivial⟩)⟩
    | ref _=>exact p.elim
    | exc _ _=>exact p.elim
   | bor xs=>exact lst (.inr rfl) p
   | own xs=>exact p.elim
 | none=>
  refine PI.imp (qai (Qc a go hc).1) λσ H R qq=> ?_
  obtain⟨G,τ,h,s,p⟩:=qq
  have p:=by
   unfold M.G8 at p
   dsimp only at p
   rw [q]at p
   exact p
  refine Xa s.heap Ext.refl s p λw1 v1 h1 G1 H1 e1 e1' s1 r1 f1 p1=> ?_
  have lst: ∀ {xs},(w1= .v (.lst xs)\/w1= .own xs)->Post Γ E G H (.ok xs h1) (λds _ G' H'=> ∀J C,zp Γ J ds C->C G' H'->(v9=v9->C G' (Wh τ σ H'))->R J H') →
   ((∃ a,v1= .ref a/\(∃ xs,SqL X.K H1 a xs)/\R (Itl X.K a) H1)\/(∃ a,v1= .ref a/\(∃ xs,SqT X.K H1 a xs)/\R (Itt X.K a) H1)\/ ∃z,v1= .str z/\R (Its z) H1):=λ{xs} hw p=>by
   obtain⟨l,vs,e2,c1,c2⟩:=ZJ s s1 r1 f1 hw
   exact .inl ⟨l,e2,⟨vs,go.K▸c1.1.sq⟩,p G1 H1 e1 s1.heap _ _ (CL.walk go.K) c1 λ_=>c2⟩
  cases w1 with
  | v d=>
   cases d with
   | lst xs=>exact lst (.inl rfl) p1
   | tup xs=>
    obtain⟨l,vs,rfl,z2,z3⟩:=r1
    have c:CT Γ xs l vs G1 H1:=⟨z2,z3⟩
    exact .inr (.inl ⟨l,rfl,⟨vs,go.K▸z2.sq⟩,p1 G1 H1 e1 s1.heap _ _ (CT.walk go.K) c λ_=>c.hide s1⟩)
   | non=>exact p1.elim
   | bl _=>exact p1.elim
   | int _=>exact p1.elim
   | str z=>
    cases (show v1= .str (txS z)from r1)
    exact .inr (.inr ⟨_,rfl,p1 G1 H1 e1 s1.heap _ _ QB trivial λ_=>trivial⟩)
   | ref _=>exact p1.elim
   | exc _ _=>exact p1.elim
  | own xs=>exact lst (.inr rfl) p1
  | bor xs=>exact p1.elim
theorem jaK (go:Go Γ F X E k cf)(hg:gNm cf.sc "reversed" g=true) (hx:Qa x=true) (hc:Zc cf a x=true):PI X tg (.Call g [x] [] pos) (tDI Γ E true (M.G8 F (.rev a))):=by
 obtain⟨p0,rfl,h2,h3⟩:=zc hg
 cases q:M.Kn a with
 | some i=>
  cases Jz q
  refine PI.imp (j6 (go.gl _ h2) (go.blt _ xbB) (Jd (xaN go hc) Wk (xa hx)) (xa hx)) λσ H R qq=> ?_
  obtain⟨G,τ,h,s,p⟩:=qq
  have p:Post Γ E G H (M.R.of h ((M.Gm τ i).bind M.Pj)) λds _ G' H'=> ∀J C,zp Γ J ds C->C G' H'->(v9=v9->C G' (Wh τ σ H'))->R J H':=p
  cases q1:M.Gm τ i with
  | none=>rw [q1]at p;exact p.elim
  | some w=>
   rw [q1]at p
   have lst: ∀ {xs},(w= .v (.lst xs)\/w= .bor xs)->Post Γ E G H (.ok xs.reverse h) (λds _ G' H'=> ∀J C,zp Γ J ds C->C G' H'->(v9=v9->C G' (Wh τ σ H'))->R J H') →
    ∃v,σ[i]? =y0 (y0 v)/\ ∃a xs,[v]= [.ref a]/\SqL X.K H a xs/\R (Itv X.K a xs.length) H:=λ{xs} hw p=>by
    obtain⟨l,vs,e2,c1,c2⟩:=ZB s q1 hw
    exact⟨_,e2,l,vs,rfl,go.K▸c1.1.sq,p G H Ext.refl s.heap _ _ (CL.walkR go.K) c1 λ_=>c2⟩
   cases w with
   | v d=>
    cases d with
    | lst xs=>exact lst (.inl rfl) p
    | tup _=>exact p.elim
    | non=>exact p.elim
    | bl _=>exact p.elim
    | int _=>exact p.elim
    | str _=>exact p.elim
    | ref _=>exact p.elim
    | exc _ _=>exact p.elim
   | bor xs=>exact lst (.inr rfl) p
   | own xs=>exact p.elim
 | none=>
  refine PI.imp (j6 (go.gl _ h2) (go.blt _ xbB) (Jd (Qc a go hc).1 Wk (xa hx)) (xa hx)) λσ H R qq=> ?_
  obtain⟨G,τ,h,s,p⟩:=qq
  have p:=by
   unfold M.G8 at p
   dsimp only at p
   rw [q]at p
   exact p
  refine Xa s.heap Ext.refl s p λw1 v1 h1 G1 H1 e1 e1' s1 r1 f1 p1=> ?_
  have lst: ∀ {xs},(w1= .v (.lst xs)\/w1= .own xs)->Post Γ E G H (.ok xs.reverse h1) (λds _ G' H'=> ∀J C,zp Γ J ds C->C G' H'->(v9=v9->C G' (Wh τ σ H'))->R J H') →
   ∃a xs,[v1]= [.ref a]/\SqL X.K H1 a xs/\R (Itv X.K a xs.length) H1:=λ{xs} hw p=>by
   obtain⟨l,vs,e2,c1,c2⟩:=ZJ s s1 r1 f1 hw
   exact⟨l,vs,by rw [e2],go.K▸c1.1.sq,p G1 H1 e1 s1.heap _ _ (CL.walkR go.K) c1 λ_=>c2⟩
  cases w1 with
  | v d=>
   cases d with
   | lst xs=>exact lst (.inl rfl) p1
   | tup _=>exact p1.elim
   | non=>exact p1.elim
   | bl _=>exact p1.elim
   | int _=>exact p1.elim
   | str _=>exact p1.elim
   | ref _=>exact p1.elim
   | exc _ _=>exact p1.elim
  | own xs=>exact lst (.inr rfl) p1
  | bor xs=>exact p1.elim
theorem Zv: ∀(ds) (i),(M.KM i ds).length=ds.length
 | [],_=>rfl
 | d::ds,i=>congrArg (· +1) (Zv ds (i+1))
theorem WS: ∀(ds) (j i) (h:i<ds.length),(M.KM j ds)[i]? =y0 (.tup [.int ((j+i:Nat):Int),ds[i]])
 | d::ds,j,0,_=>rfl
 | d::ds,j,i+1,h=>by
  have:=WS ds (j+1) i (by simpa using h)
  rw [show j+1+i=j+(i+1)by omega]at this
  simpa [M.KM]using this
theorem qbN: "enumerate" ∈bltN:=by decide
theorem CL.walkE {l:Addr}{vs:List V}{K:Aa5}(hK:K=Γ.K):zp Γ (qcn K l) (M.KM 0 ds) (CL Γ ds l vs) where
 go:=λi G H ⟨z1,z3⟩ hi=>by
  rw [Zv]at hi
  obtain⟨v,e,_⟩:=z3.get (Aa9 hi)
  exact⟨vs,v,hK▸z1.sq,e⟩
 yld:=λi G H x H' ⟨z1,z3⟩ hi ⟨p,y,hp,ex,eh,hy⟩=>by
  rw [Zv]at hi
  subst ex eh
  obtain⟨v,e,rd⟩:=z3.get (Aa9 hi)
  have:=hy vs (hK▸z1.sq)
  rw [e]at this
  cases this
  refine⟨G.more p,Jo _ hp,λh hr=>hr.newF _ hp,.tup [.int i,ds[i]],by rw [WS ds 0 i hi,Nat.zero_add],⟨p,[.int i,y],rfl,.inl ⟨.inr rfl,jd⟩,⟨.int i,[y],rfl,rfl,⟨y,[],rfl,?_,rfl⟩⟩⟩⟩
  have mm:Mon G H (G.more p) (upd H p (.tup [.int i,y])):=⟨λa o ha q=>by rw [ja (Za q hp)];exact q,Aa6 _,λ_ _=>rfl,λ_ z=>Or.inl z⟩
  exact rd.mon mm
 stop:=λi G H ⟨z1,z3⟩ h1 h2=>by
  rw [Zv]at h1 h2
  exact⟨vs,hK▸z1.sq,by rw [← z3.length];omega⟩
 keep:=λG H G' H' h z e hr=>z.keep e hr
theorem QY (go:Go Γ F X E k cf)(hg:gNm cf.sc "enumerate" g=true) (hx:Qa x=true) (hc:Zc cf (.var i) x=true):PI X (.Tuple elts x1 tp) (.Call g [x] [] pos) (tDI Γ E true (M.G8 F (.enumL i))):=by
 obtain⟨p0,rfl,h2,h3⟩:=zc hg
 refine PI.imp (zaG (go.gl _ h2) (go.blt _ qbN) (Jd (xaN go hc) Wk (xa hx)) (xa hx)) λσ H R qq=> ?_
 obtain⟨G,τ,h,s,p⟩:=qq
 have p:=p
 obtain⟨xs,q,p⟩:=p.of
 obtain⟨w,q1,q2⟩:=Ac3.mp q
 have hw:w= .v (.lst xs)\/w= .bor xs:=by
  unfold M.lpL at q2
  split at q2
  ·cases q2;exact .inl rfl
  ·cases q2;exact .inr rfl
  ·cases q2
 obtain⟨l,vs,e2,c1,c2⟩:=ZB s q1 hw
 exact⟨_,e2,l,vs,rfl,go.K▸c1.1.sq,p G H Ext.refl s.heap _ _ (CL.walkE go.K) c1 λ_=>c2⟩
theorem zcA (go:Go Γ F X E k cf)(he:W6 it tg=v9) (h:xbn cf it e=v9):PI X tg e (tDI Γ E v9 (M.G8 F it))/\wg e=true:=by
 cases it with
 | seq a=>exact⟨qaU go (a2 h).2,(a2 h).1⟩
 | range1 a=>
  refine Zk (λg x l p h=> ?_) e h
  refine kE (λh=> ?_) l h
  refine kC (λx r h=> ?_) x h
  refine kE (λh=> ?_) r h
  obtain⟨h1,h2,h3⟩:=a3 h
  exact⟨jy go h1 h2 (Qc a go h3).1,rfl⟩
 | range2 a b=>
  refine Zk (λg x l p h=> ?_) e h
  refine kE (λh=> ?_) l h
  refine kC (λx r h=> ?_) x h
  refine kC (λy r h=> ?_) r h
  refine kE (λh=> ?_) r h
  obtain⟨h1,h2,h3,h4,h5⟩:=a5 h
  exact⟨JA go h1 h2 h3 (Qc a go h4).1 (Qc b go h5).1,rfl⟩
 | rev a=>
  refine Zk (λg x l p h=> ?_) e h
  refine kE (λh=> ?_) l h
  refine kC (λx r h=> ?_) x h
  refine kE (λh=> ?_) r h
  obtain⟨h1,h2,h3⟩:=a3 h
  exact⟨jaK go h1 h2 h3,rfl⟩
 | zip _ _=>exact bad h
 | rangeS a b=>
  refine Zk (λg x l p h=> ?_) e h
  refine kE (λh=> ?_) l h
  refine kC (λx r h=> ?_) x h
  refine kC (λy r h=> ?_) r h
  refine kC (λz r h=> ?_) r h
  refine kE (λh=> ?_) r h
  refine jv (λc n p h=> ?_) z h
  obtain⟨h0,h1,h2,h3,h4,h5⟩:=a6 h
  cases of_decide_eq_true h0
  exact⟨qA go h1 h2 h3 (Qc a go h4).1 (Qc b go h5).1,rfl⟩
 | enumL i=>
  cases tg with
  | Tuple elts x1 tp=>
   refine Zk (λg x l p h=> ?_) e h
   refine kE (λh=> ?_) l h
   refine kC (λx r h=> ?_) x h
   refine kE (λh=> ?_) r h
   obtain⟨h1,h2,h3⟩:=a3 h
   exact⟨QY go h1 h2 h3,rfl⟩
  | _=>exact bad he
 | enum _=>exact bad h
end
section
variable {Γ:Ge}{F:M.Fx}{X:Cx}{E:XK}{k:Nat}{cf:Cf}
theorem jbh (go:Go Γ F X E k cf)(hn:zn v=v9)(h:Zc cf m v=v9):PS X (.Expr v pos) (tDS Γ E (M.exec F (.ex m))):=by
 refine PS.imp (jas (Qc m go h).1 (xm hn)) λD σ H qq=> ?_
 obtain⟨B,G,τ,h,s,p⟩:=qq
 exact Ji s p λw v h1 G1 H1 e1 s1 r1 f1 p1=>p1 G1 σ H1 s1
theorem jak (s:StS Γ B G τ h σ H)(f:FreshW τ σ H w v) (hb: ∀xs,w≠ .bor xs):FreshW [] [] B.H w v:=by
 cases w with
 | v d=>trivial
 | own xs=>obtain⟨a,z1,z2⟩:=f;exact⟨a,z1,s.ext.none s.hr z2⟩
 | bor xs=>exact absurd rfl (hb xs)
theorem xaB (go:Go Γ F X E k cf)(h:Zc cf m v=v9):PS X (.Return (y0 v) pos) (tDS Γ E (M.exec F (.ret m))):=by
 cases q:M.Kn m with
 | some i=>
  cases Jz q
  refine PS.imp (jaZ (xaN go h)) λD σ H qq=> ?_
  obtain⟨B,G,τ,h,s,p⟩:=qq
  rw [M.exec,q]at p
  dsimp only at p
  cases q1:M.Gm τ i with
  | none=>rw [q1]at p;exact p.elim
  | some w=>
   rw [q1]at p
   obtain⟨v,e2,r⟩:=s.st.slot i w q1
   refine⟨v,e2,?_⟩
   cases w with
   | bor xs=>exact p.elim
   | v d=>exact p G v H s.ext s.st.heap r trivial
   | own xs=>
    have r':=r
    obtain⟨a,vs,rfl,_⟩:=r'
    exact p G _ H s.ext s.st.heap r ⟨a,rfl,s.own i xs a q1 e2⟩
 | none=>
  refine PS.imp (jaZ (Qc m go h).1) λD σ H qq=> ?_
  obtain⟨B,G,τ,h,s,p⟩:=qq
  have p:PostO Γ E B ((M.eval F m τ h).toO λw h=>match w with
   | .bor _=> .fail
   | w=> .ret w h) D:=by
   rw [M.exec,q]at p;exact p
  refine Ji s p λw v h1 G1 H1 e1 s1 r1 f1 p1=> ?_
  cases w with
  | bor xs=>exact p1.elim
  | v d=>exact p1 G1 v H1 s1.ext s1.st.heap r1 trivial
  | own xs=>exact p1 G1 v H1 s1.ext s1.st.heap r1 (jak s f1 λxs z=>by cases z)
theorem zaC (hc:PT X x (tDT Γ E (M.Gp F c))) (ha:PSs X ys (tDS Γ E (M.execs F a))) (hb:PSs X zs (tDS Γ E (M.execs F b))):PS X (.If x ys zs pos) (tDS Γ E (M.exec F (.iff c a b))):=by
 refine PS.imp (jcd hc ha hb) λD σ H qq=> ?_
 obtain⟨B,G,τ,h,s,p⟩:=qq
 refine xR s p λt h1 G1 H1 e1 s1 p1=> ?_
 cases t with
 | true=>exact zb7 ⟨B,G1,τ,h1,s1,p1⟩
 | false=>exact jb9 ⟨B,G1,τ,h1,s1,p1⟩
theorem wX {st:Stmt}(h1:PS X st (tDS Γ E (M.exec F s))) (h2:PSs X sts (tDS Γ E (M.execs F ss))):PSs X (st::sts) (tDS Γ E (M.execs F (.cons s ss))):=by
 refine PSs.imp (zaI h1 h2) λD σ H qq=> ?_
 obtain⟨B,G,τ,h,s',p⟩:=qq
 rw [M.execs]at p
 refine⟨B,G,τ,h,s',?_⟩
 cases q:M.exec F s τ h with
 | next τ' h'=>rw [q]at p;exact λG' σ' H' s2=>⟨B,G',τ',h',s2,p⟩
 | ret w h'=>rw [q]at p;exact p
 | brk τ' h'=>rw [q]at p;exact p
 | cont τ' h'=>rw [q]at p;exact p
 | exc d h'=>rw [q]at p;exact p
 | fail=>rw [q]at p;exact p
theorem jac:PSs X [] (tDS Γ E (M.execs F .nil)):=PSs.imp zbo λD σ H ⟨B,G,τ,h,s,p⟩=>p G σ H s
theorem xN (h2:PSs X sts (tDS Γ E (M.execs F ss))):PSs X sts (tDS Γ E (M.execs F (.cons (.freeze i) ss))):=by
 refine PSs.imp h2 λD σ H qq=> ?_
 obtain⟨B,G,τ,h,s,p⟩:=qq
 rw [M.execs,M.exec]at p
 cases q:M.Gm τ i with
 | none=>rw [q]at p;exact⟨B,G,τ,h,s,p⟩
 | some w=>
  rw [q]at p
  cases w with
  | v d=>exact⟨B,G,τ,h,s,p⟩
  | bor xs=>exact⟨B,G,τ,h,s,p⟩
  | own xs=>
   obtain⟨G',s'⟩:=s.freeze q
   exact⟨B,G',_,h,s',p⟩
theorem jaA (go:GoS Γ F X E k cf)(hc:PT X x (tDT Γ E (M.Gp F c))) (hb:PSs X ys (tDS Γ E (M.execs F b))):PS X (.While x ys [] pos) (tDS Γ E (M.exec F (.whl n c b))):=by
 refine PS.imp (zaD go.pown hc hb) λD σ H qq=> ?_
 obtain⟨B,G,τ,h,s,p⟩:=qq
 refine⟨λm σ H=> ∃G τ h,StS Γ B G τ h σ H/\PostO Γ E B (M.Kr (λτ h=>M.Gp F c τ h) (λτ h=>M.execs F b τ h) m τ h) D,⟨n,G,τ,h,s,p⟩,?_⟩
 rintro m σ H ⟨G,τ,h,s,p⟩
 cases m with
 | zero=>exact p.elim
 | succ m=>
  refine xR s p λt h1 G1 H1 e1 s1 p1=> ?_
  cases t with
  | false=>exact jb9 (p1 G1 σ H1 s1)
  | true=>
   refine zb7 ⟨_,λσ' H' w=>⟨m,Af1 _,w⟩,B,G1,τ,h1,s1,?_⟩
   have p1:PostO Γ E B (match M.execs F b τ h1 with
    | .next τ2 h2=>M.Kr (λτ h=>M.Gp F c τ h) (λτ h=>M.execs F b τ h) m τ2 h2
    | .cont τ2 h2=>M.Kr (λτ h=>M.Gp F c τ h) (λτ h=>M.execs F b τ h) m τ2 h2
    | .brk τ2 h2=> .next τ2 h2
    | o=>o) D:=p1
   cases q:M.execs F b τ h1 with
   | next τ' h'=>rw [q]at p1;exact λG' σ' H' s2=>⟨G',τ',h',s2,p1⟩
   | cont τ' h'=>rw [q]at p1;exact λG' σ' H' s2=>⟨G',τ',h',s2,p1⟩
   | ret w h'=>rw [q]at p1;exact p1
   | brk τ' h'=>rw [q]at p1;exact p1
   | exc d h'=>rw [q]at p1;exact p1
   | fail=>rw [q]at p1;exact p1
theorem xaF (go:GoS Γ F X E k cf)(he:W6 it t=v9) (ht:Xe cf tg one t=v9) (hi:xbn cf it iter=v9) (hb:PSs X ys (tDS Γ E (M.execs F b))):
 PS X (.For t iter ys [] pos) (tDS Γ E (M.exec F (.for tg one it b))):=by
 obtain⟨li,ls⟩:=zcA go.toGo he hi
 refine PS.imp (xbK go.pown go.calm li (ZA go.toGo ht) hb (jQ ls)) λD σ H qq=> ?_
 obtain⟨B,G,τ,h,s,p⟩:=qq
 rw [M.exec]at p
 refine⟨G,τ,h,s.st,?_⟩
 cases q:M.G8 F it τ h with
 | exc d h1=>rw [q]at p;exact PostO.exc s p
 | fail=>rw [q]at p;exact p
 | ok ds h1=>
  rw [q]at p
  intro G1 H1 e hr J C wj c0 clp
  have s1:=s.on e hr
  have p1:=qaH s1 p
  have cB:=clp rfl
  have s2:=jbV s1
  refine⟨λi m σ' H'=> ∃G' τ' h',(m=ds.length-i/\i<=ds.length)/\StS Γ (reB G1 τ h1 σ H1) G' τ' h' σ' H'/\PostO Γ E (reB G1 τ h1 σ H1) (M.Kf (M.GQ tg one) (λτ h=>M.execs F b τ h) (ds.drop i) τ' h') D,
   ⟨ds.length,G1,τ,h1,⟨by simp,Ae7 _⟩,s2,p1⟩,?_⟩
  rintro i m σ' H' ⟨G',τ',h',⟨rfl,hi'⟩,s',p'⟩
  have c':=wj.keep _ _ _ _ _ cB s'.ext s'.hr
  by_cases hlt:i<ds.length
  ·refine .inr ⟨wj.go i G' H' c' hlt,_,λσ2 H2 w=>⟨ds.length-(i+1),by omega,w⟩,λx H'' hy=> ?_⟩
   obtain⟨G4,x4,hx4,d,ed,rdx⟩:=wj.yld i G' H' x H'' c' hlt hy
   have s':=s'.on x4 (hx4 _ s'.st.heap)
   have edr:ds.drop i=d::ds.drop (i+1):=by
    rw [Aj4 hlt]
    rw [Aa9 hlt]at ed
    cases ed
    rfl
   rw [edr,M.Kf]at p'
   cases qb:M.GQ tg one d τ' with
   | none=>rw [qb]at p';exact p'.elim
   | some τ1=>
    rw [qb]at p'
    refine xcl qb rdx s' λσ2 s3=>⟨_,G4,τ1,h',s3,?_⟩
    have p':PostO Γ E (reB G1 τ h1 σ H1) (match M.execs F b τ1 h' with
     | .next τ2 h2=>M.Kf (M.GQ tg one) (λτ h=>M.execs F b τ h) (ds.drop (i+1)) τ2 h2
     | .cont τ2 h2=>M.Kf (M.GQ tg one) (λτ h=>M.execs F b τ h) (ds.drop (i+1)) τ2 h2
     | .brk τ2 h2=> .next τ2 h2
     | o=>o) D:=p'
    cases q:M.execs F b τ1 h' with
    | next τ2 h2=>rw [q]at p';exact λG3 σ3 H3 s4=>⟨G3,τ2,h2,⟨rfl,by omega⟩,s4,p'⟩
    | cont τ2 h2=>rw [q]at p';exact λG3 σ3 H3 s4=>⟨G3,τ2,h2,⟨rfl,by omega⟩,s4,p'⟩
    | ret w h2=>rw [q]at p';exact p'
    | brk τ2 h2=>rw [q]at p';exact p'
    | exc d h2=>rw [q]at p';exact p'
    | fail=>rw [q]at p';exact p'
  ·have ei:i=ds.length:=by omega
   subst ei
   rw [Am1]at p'
   exact .inl ⟨wj.stop _ G' H' c' (Aa6 _) (Aa6 _),p' G' σ' H' s'⟩
end
section
variable {Γ:Ge}{F:M.Fx}{k:Nat}{X:Cx}{E:XK}{cf:Cf}
mutual
theorem jcx (go:GoS Γ F X E k cf): ∀(m:M.S){st:Stmt},xca cf m st=v9->PS X st (tDS Γ E (M.exec F m))
 | .set i e,st,h=>by
  refine zbJ (λts v p h=> ?_) st h
  refine kC (λt r h=> ?_) ts h
  refine Qx (λx p1 h=> ?_) t h
  refine kE (λh=> ?_) r h
  exact jaL go.toGo (a2 h).1 (a2 h).2
 | .setf i e,st,h=>by
  refine zbJ (λts v p h=> ?_) st h
  refine kC (λt r h=> ?_) ts h
  refine Qx (λx p1 h=> ?_) t h
  refine kE (λh=> ?_) r h
  exact zam go.toGo (a2 h).1 (a2 h).2
 | .setix i kx e,st,h=>by
  refine zbJ (λts v p h=> ?_) st h
  refine kC (λt r h=> ?_) ts h
  refine zaE (λx y p1 h=> ?_) t h
  refine Qx (λx p2 h=> ?_) x h
  refine kE (λh=> ?_) r h
  obtain⟨h0,h4,_,h5,h6,h7⟩:=a6 h
  obtain⟨h1,h2,h3⟩:=qaK h0
  exact JW go.toGo h1 h2 h3 h4 h6 h7
 | .setref o kx e,st,h=>by
  refine zbJ (λts v p h=> ?_) st h
  refine kC (λt r h=> ?_) ts h
  refine zaE (λx y p1 h=> ?_) t h
  refine kE (λh=> ?_) r h
  obtain⟨h1,_,_,h4,h5,h6⟩:=a6 h
  exact jP go.toGo h1 h4 h5 h6
 | .app i e,st,h=>by
  refine kEx (λc p h=> ?_) st h
  refine Zk (λf x l q h=> ?_) c h
  refine kE (λh=> ?_) l h
  refine kC (λv r h=> ?_) x h
  refine kE (λh=> ?_) r h
  obtain⟨h1,h2,h3⟩:=a3 h
  exact qaG go.toGo h1 h2 h3
 | .setfld i c f e,st,h=>by
  refine zbJ (λts v p h=> ?_) st h
  refine kC (λt r h=> ?_) ts h
  refine XV (λx n p1 h=> ?_) t h
  refine Qx (λx p2 h=> ?_) x h
  refine kE (λh=> ?_) r h
  obtain⟨h0,hn,h4,_,h5,h6⟩:=a6 h
  obtain⟨h1,h2,h3⟩:=qaK h0
  cases of_decide_eq_true hn
  exact xQ go.toGo h1 h2 h3 h4 h5 h6
 | .nope,st,h=>λu8 s σ H D I ⟨B,G,τ,h,s',p⟩=>p.elim
 | .freeze _,st,h=>bad h
 | .ex e,st,h=>by
  refine kEx (λv p h=> ?_) st h
  exact jbh go.toGo (a2 h).1 (a2 h).2
 | .ret e,st,h=>by
  refine xcA (λv p h=> ?_) st h
  refine kS (λv h=> ?_) v h
  exact xaB go.toGo h
 | .iff c a b,st,h=>by
  refine xcu (λx y z p h=> ?_) st h
  obtain⟨h0,h1,h2,h3⟩:=a4 h
  exact zaC ((Qc c go.toGo h1).2 h0) (sndSs go a h2) (sndSs go b h3)
 | .whl n c b,st,h=>by
  refine zcz (λx y z p h=> ?_) st h
  refine kE (λh=> ?_) z h
  obtain⟨h0,h1,h2⟩:=a3 h
  exact jaA go ((Qc c go.toGo h1).2 h0) (sndSs go b h2)
 | .for tg one it b,st,h=>by
  refine xcF (λt i y z p h=> ?_) st h
  refine kE (λh=> ?_) z h
  obtain⟨h1,h2,h3,h4⟩:=a4 h
  exact xaF go h1 h2 h3 (sndSs go b h4)
theorem sndSs (go:GoS Γ F X E k cf): ∀(m:M.Ss){sts:List Stmt},chkSs cf m sts=v9->PSs X sts (tDS Γ E (M.execs F m))
 | .nil,sts,h=>by
  cases Af0.mp h
  exact jac
 | .cons s ss,sts,h=>by
  cases q:zbz s with
  | true=>
   cases s with
   | freeze i=>exact xN (sndSs go ss h)
   | _=>cases q
  | false=>
   have h:(bif zbz s then chkSs cf ss sts else lC sts λst sts=>xca cf s st&&chkSs cf ss sts)=true:=h
   rw [q]at h
   refine kC (λst r h=> ?_) sts h
   exact wX (jcx go s (a2 h).1) (sndSs go ss (a2 h).2)
end
end
section
variable {P:Program}{w:World}{K:Aa5}{mg:Str->Option Value}{base:Heap}{N:List Str}{v7:Str}{scope:Scope}{f:Addr}{cd:Value}{A:Around}{outer:List Env}{s:Shared}{H:Hp}{E:XK}
theorem QX:zr (CX1 P w) (zZ (CX1 P w) P w K mg base N v7 scope f cd A outer s H E) E:=by
 intro u8 σ H1 s1 ev s' I hq
 obtain⟨x,C,t,B,H',rfl,os,bare,fl,un,hok,comp,new,hE⟩:=hq
 have I':=qbf I os bare un hok comp fl λb o z _=>⟨o.slots,z⟩
 have ff:=fl.2.2.1
 refine wpAny_leaves_onW I.ok.frames rfl fl λh2 x1 x4=> ?_
 have free:=I'.stkFree
 have slotH: ∀b o,b∈frs (envOfC v7 scope s.heap.objs.size f cd::outer)->s'.heap.get? b=y0 o-> ∃sl,h2.get? b=y0 { o with slots:=sl }:=λb o hb z=>by
  obtain⟨_,o',z',nf⟩:=ff.mem hb
  rw [z]at z'
  cases z'
  exact x4 b o z nf
 have toH:=λb o z c n=>x1.1 b o (comp b o z c n)
 have cut: ∀b,b∉frs outer->b≠s.heap.objs.size->b∉frs (envOfC v7 scope s.heap.objs.size f cd::outer):=λb n1 n2 hb=>by
  rcases Aa.mp (hb)with z | z
  ·exact n2 z
  ·exact n1 z
 have old: ∀b o,s.heap.get? b=y0 o->b≠s.heap.objs.size:=λb o z=>Ad (Ab6 z)
 have trk: ∀b u,H' b=y0 u->b∉frs (envOfC v7 scope s.heap.objs.size f cd::outer):=λb u z hb=>by rw [free b hb]at z;cases z
 have in1:=λb o z=>I.base.there b o z (by show b∉ [];simp)
 refine⟨x,C,t,B,H',rfl,os.trans I.os,bare,x1,⟨λb o z n hb hx=> ?_,λb o z n hb hx=> ?_,I'.base.free,λb o z hx=> ?_,I'.base.tups,I'.base.frzs,I'.base.tbls⟩,λb u z=> ?_,λb o z hc hb=> ?_,?_,hE⟩
 ·exact toH b o (I'.base.keep b o z n hb hx) (.inr (in1 b o z)) (cut b hb (old b o z))
 ·obtain⟨sl,z1⟩:=I'.base.slot b o z n hb hx
  obtain⟨sl2,z2⟩:=slotH b _ (Aa7 _ hb) z1
  exact⟨sl2,z2⟩
 ·obtain⟨o',z1⟩:=I'.base.there b o z hx
  by_cases hb:b∈frs (envOfC v7 scope s.heap.objs.size f cd::outer)
  ·obtain⟨sl,z2⟩:=slotH b o' hb z1
   exact⟨_,z2⟩
  ·exact⟨o',toH b o' z1 (.inr (in1 b o z)) hb⟩
 ·refine(hok b u z).stay (λc v hc z1=> ?_) (λ_ z1=>z1) λ_ _ z1=>z1
  rcases hc with rfl | hc
  ·exact toH c v z1 (.inl ⟨u,z⟩) (trk c u z)
  ·exact toH c v z1 (.inl ⟨_,hc⟩) (trk c _ hc)
 ·have two: ∃o2,s'.heap.get? b=y0 o2/\((∃ u,H' b=y0 u)\/ ∃u,s1.heap.get? b=y0 u)/\b∉frs (envOfC v7 scope s.heap.objs.size f cd::outer):=by
   rcases hc with⟨u,hu⟩ | ⟨u,hu⟩
   ·obtain⟨o2,z2⟩:=(hok b u hu).there
    exact⟨o2,z2,.inl ⟨u,hu⟩,trk b u hu⟩
   ·obtain⟨o2,z2⟩:=I'.base.there b u hu (by show b∉ [];simp)
    exact⟨o2,z2,.inr (in1 b u hu),cut b hb (old b u hu)⟩
  obtain⟨o2,z2,c2,nb⟩:=two
  have z3:=toH b o2 z2 c2 nb
  rw [show h2.get? b=y0 o from z]at z3
  cases z3
  exact comp b _ z2 c2 nb
 ·cases z:s.heap.get? x with
  | none=>rfl
  | some u=>
   obtain⟨o2,z2⟩:=in1 x u z
   rw [new]at z2
   cases z2
end
section
variable {Γ:Ge}{G G0:Gh}{H H0:Hp}{h:M.AH}
def Gh.cut (G:Gh) (n:Nat):Gh:= { G with n:=n }
mutual
theorem RelD.cut (n:Nat): ∀ {d:M.D}{v:V},M.Gr d=v9->RelD Γ G H d v->RelD Γ (G.cut n) H d v
 | .non,_,_,z=>z
 | .bl _,_,_,z=>z
 | .int _,_,_,z=>z
 | .str _,_,_,z=>z
 | .tup _,_,q,⟨a,vs,z1,z2,z3⟩=>⟨a,vs,z1,z2,RelDs.cutR n (by simpa [M.Gr]using q) z3⟩
 | .lst _,_,q,⟨a,vs,z1,z2,z3⟩=>⟨a,vs,z1,z2,RelDs.cutR n (by simpa [M.Gr]using q) z3⟩
 | .ref r,_,q,_=>by simp [M.Gr]at q
 | .exc c fs,_,q,z=>by simp [M.Gr]at q
theorem RelDs.cutR (n:Nat): ∀ {ds:List M.D}{vs:List V},M.Gg ds=v9->RelDs Γ G H ds vs->RelDs Γ (G.cut n) H ds vs
 | [],_,_,z=>z
 | d::ds,_,q,⟨v,r,z1,z2,z3⟩=>by
  have q':M.Gr d=v9/\M.Gg ds=true:=by simpa [M.Gg]using q
  exact⟨v,r,z1,RelD.cut n q'.1 z2,RelDs.cutR n q'.2 z3⟩
end
theorem xF: ∀l:List Int,M.Gg (l.map M.D.int)=v9
 | []=>rfl
 | _::l=>xF l
theorem zbe (k):M.Gr (wkT k)=true:=by
 show(v9&&(M.Gg (k.2.1.map M.D.int)&&(M.Gg (k.2.2.map M.D.int)&&v9)))=v9
 rw [xF,xF];rfl
theorem HRel.cut (r:HRel Γ G h H)(hn:n<=G.n):HRel Γ (G.cut n) (h.take n) H where
 len:=by rw [Ad7,r.len];exact Nat.min_eq_left hn
 cell:=λi xs e=>by
  have hi:i<n:=by
   have:=(Aa3.mp e).1
   rw [Ad7]at this
   omega
  rw [Ag2 hi]at e
  obtain⟨z1,vs,z2,z3⟩:=r.cell i xs e
  exact⟨z1,vs,z2,RelDs.cutR n (r.pure i xs e) z3⟩
 pure:=λi xs e=>by
  have hi:i<n:=by
   have:=(Aa3.mp e).1
   rw [Ad7]at this
   omega
  rw [Ag2 hi]at e
  exact r.pure i xs e
 inj:=λi j h1 h2 e=>r.inj i j (Ab3 h1 hn) (Ab3 h2 hn) e
 live:=r.live
 dic:=λi ks e=>by
  have hi:i<n:=by
   have:=(Aa3.mp e).1
   rw [Ad7]at this
   omega
  rw [Ag2 hi]at e
  obtain⟨z1,xs,z2,z3,z4⟩:=r.dic i ks e
  exact⟨z1,xs,z2,z3,λx hx=>RelD.cut n (zbe x.1) (z4 x hx)⟩
 obj:=λi c fs e=>by
  have hi:i<n:=by
   have:=(Aa3.mp e).1
   rw [Ad7]at this
   omega
  rw [Ag2 hi]at e
  obtain⟨z1,z0,dx,us,z2,z3⟩:=r.obj i c fs e
  exact⟨z1,z0,dx,us,z2,RelDs.cutR n z0 z3⟩
theorem Ext.cut (e:Ext G0 H0 G H):Ext G0 H0 (G.cut G0.n) H:=⟨e.keep,Aa6 _,e.rho,λr h1 h2=>absurd h1 (Al9.mpr h2),e.fz,e.old,e.cells⟩
theorem RelW.cut (n) (hn:n<=G.n)(q:w.keep=v9) (hb: ∀xs,w≠ .bor xs) (z:RelW Γ G H w v):RelW Γ (G.cut n) H w v:=by
 cases w with
 | v d=>exact RelD.cut n q z
 | own xs=>
  obtain⟨a,vs,z1,z2,z3,z4,z5⟩:=z
  exact⟨a,vs,z1,z2,λr hr=>z3 r (Ab3 hr hn),z4,RelDs.cutR n q z5⟩
 | bor xs=>exact absurd rfl (hb xs)
end
structure Txt (K:Aa5) (mg:Str->Option Value) (f:String) where
 st:Stmt
 fa:Addr
 fd:FuncData
 N:List Str
 ps:List Str
structure JO {K:Aa5}{mg:Str->Option Value}{f:String}(t:Txt K mg f) (d:M.Fn) (fns own rai hnd:List String) (ob:ObT):Prop where
 fn: ∃x v7,Fun K x v7 t.st t.fa t.fd
 bd:Binds K t.fd t.ps []
 sc:xq t.N t.ps (Wb t.st)
 n:t.N.length=d.n
 p:t.ps.length=d.ps
 le:d.ps<=d.n
 chk:chkSs ⟨Wb t.st,t.N,fns,own,rai,hnd,ob⟩ d.body (Jf t.st)=v9
structure jch (Γ:Ge) (p:M.Prog) (mg:Str->Option Value) (own rai hnd:List String) (ob:ObT):Prop where
 cl:p.cl=Γ.cl
 ow:own=Γ.own
 blt: ∀x,x∈bltN->mg (Ze x)=k9
 con: ∀x d,p.con.lookup x=y0 d-> ∃u v,mg (Ze x)=y0 u/\RelV v u/\ ∀G H,RelD Γ G H d v
 cls: ∀c,own.contains c=v9->mg (Ze c)=y0 (.ref (Γ.ca c))
 rai: ∀c,rai.contains c=true->XOk Γ c/\PySem.W.excIn Γ.K (Γ.ca c) xa7 "ValueError.__new__" =true/\mg (Ze c)=some (.ref (Γ.ca c))
 hnd: ∀c,hnd.contains c=true->PySem.W.mroIn Γ.K (Γ.ca c) (.type "BaseException")=some true/\own.contains c=true
 fld: ∀c f,ob.fl.contains (c,f)=v9->Cls Γ.K (Γ.ca c)/\NoAttr Γ.K (Γ.ca c) (Ze f)
 mth: ∀c m q,ob.mt.contains (c,m,q)=v9->Cls Γ.K (Γ.ca c)/\ob.ms.contains q=v9/\xbE Γ.K (Γ.ca c) (Ze m) (Γ.ma q)
 mks: ∀c q,ob.mks.contains (c,q)=v9->mg (Ze c)=y0 (.ref (Γ.ca c))/\ob.ms.contains q=v9/\Mk Γ.K (Γ.ca c) (Γ.ma q)
section
variable {P:Program}{w:World}{Γ:Ge}{mg:Str->Option Value}{base:Heap}{p:M.Prog}{own rai hnd fns:List String}{ob:ObT}
theorem zas (hr:HRel Γ G h H) (r:RelWs Γ G H ws vs) (no: ∀w∈ws,zaR w=v9) (hn:N.length=n):StS Γ ⟨G,H,h⟩ G (ws.map y0++Aa0 (n-ws.length) k9) h (xB N vs) H:=by
 have hl:=r.length
 have get: ∀ {i}{w},M.Gm (ws.map y0++Aa0 (n-ws.length) k9) i=y0 w->ws[i]? =y0 w:=λ{i w} e=>by
  rw [Zw]at e
  by_cases hi:i<ws.length
  ·rw [Ac1 (by simpa using hi),Ad4]at e
   cases q:ws[i]? with
   | none=>rw [q]at e;cases e
   | some w'=>rw [q]at e;exact e
  ·rw [Ac5 (by simpa using hi),Ak1]at e
   split at e<;>cases e
 have rel: ∀ {ws}{vs}{i:Nat}{w},RelWs Γ G H ws vs->ws[i]? =y0 w-> ∃v,vs[i]? =y0 v/\RelW Γ G H w v:=by
  intro ws
  induction ws with
  | nil=>intro vs i w _ e;simp at e
  | cons a r ih=>
   intro vs i w ⟨v,us,e1,z1,z2⟩ e
   subst e1
   cases i with
   | zero=>simp at e;subst e;exact⟨v,rfl,z1⟩
   | succ i=>
    obtain⟨v',h1,h2⟩:=ih z2 (by simpa using e)
    exact⟨v',by simpa using h1,h2⟩
 have noown: ∀ {i}{xs},M.Gm (ws.map y0++Aa0 (n-ws.length) k9) i≠y0 (.own xs):=λ{i xs} e=>by
  have:=no _ (Ai5 (get e))
  cases this
 refine⟨⟨?_,λi w e=> ?_,λi j xs w a hij e1=>absurd e1 noown,hr⟩,Ext.refl,hr,λi xs a e1=>absurd e1 noown⟩
 ·unfold xB
  rw [Aa1,Aa1,Ac4,Ac4,Ae1,Ae1,hn,hl]
 ·obtain⟨v,e2,rw'⟩:=rel r (get e)
  refine⟨v,?_,rw'⟩
  unfold xB
  have hi:=(Aa3.mp e2).1
  rw [Ac1 (by simpa using hi),Ad4,e2]
  rfl
theorem qay (hr:HRel Γ G h H) (p:PostW Γ E G H (M.Gw h.length o) Q):PostO Γ E ⟨G,H,h⟩ o { nx:=λ_ H'=>Q .non H',rt:=Q }:=by
 have key: ∀ {w}{h'}{G'}{H'}{v},(∀ xs,w≠ .bor xs)->PostW Γ E G H (M.fin h.length w h') Q->Ext G H G' H'->HRel Γ G' h' H'->RelW Γ G' H' w v->FreshW [] [] H w v->Q v H':=λ{w h' G' H' v} hb p e hr' r f=>by
  unfold M.fin at p
  split at p
  ·exact p G' H' e hr' v r f
  ·split at p
   ·rename_i hk
    have e':=e.cut
    rw [hr.len]at p
    exact p (G'.cut G.n) H' e' (hr'.cut e.le) v (r.cut G.n e.le hk hb) f
   ·exact p G' H' e hr' v r f
 cases o with
 | next τ h'=>exact λG' σ' H' s'=>key (λxs z=>by cases z) p s'.ext s'.st.heap rfl trivial
 | ret w h'=>
  cases w with
  | bor xs=>exact p.elim
  | v d=>exact λG' v H' e hr' r f=>key (λxs z=>by cases z) p e hr' r f
  | own xs=>exact λG' v H' e hr' r f=>key (λxs z=>by cases z) p e hr' r f
 | exc d h'=>exact p
 | brk τ h'=>exact p.elim
 | cont τ h'=>exact p.elim
 | fail=>exact p.elim
end
section
variable {P:Program}{w:World}{Γ:Ge}{mg:Str->Option Value}{base:Heap}{p:M.Prog}{own rai hnd fns:List String}{ob:ObT}
noncomputable def qbM (P:Program) (w:World) (Γ:Ge) (mg:Str->Option Value) (base:Heap) (p:M.Prog) (k:Nat) (f:String):Prop:=
 ∃ps fa fd,FnOk P w Γ.K mg base (CX1 P w) (2*k) fa fd ps (spW Γ (M.call p k f))/\Binds Γ.K fd ps []/\Ad8 Γ.K (.ref fa)=v9/\mg (Ze f)=y0 (.ref fa)
noncomputable def qct (P:Program) (w:World) (Γ:Ge) (mg:Str->Option Value) (base:Heap) (p:M.Prog) (k:Nat) (q:String):Prop:=
 ∃ps fd,FnOk P w Γ.K mg base (CX1 P w) (2*k) (Γ.ma q) fd ps (spW Γ (M.call p k q))/\Binds Γ.K fd ps []
theorem xbf (pr:jch Γ p mg own rai hnd ob){t:Txt Γ.K mg f}(ok:JO t d fns own rai hnd ob) (hf:p.fns.lookup f=y0 d) (k) (ih: ∀g,fns.contains g=v9->qbM P w Γ mg base p k g) (im: ∀q,ob.ms.contains q=v9->qct P w Γ mg base p k q):
 FnOk P w Γ.K mg base (CX1 P w) (2*(k+1)) t.fa t.fd t.ps (spW Γ (M.call p (k+1) f)):=by
 have run_len: ∀ {ws}{h},ws.length≠d.ps->M.call p (k+1) f ws h= .fail:=λ{ws h} hn=>by
  rw [M.call,hf]
  simp [M.run,hn]
 have run_ok:=λ{ws h} hn=>M.Gb hf k ws h hn
 obtain⟨x,v7,F⟩:=ok.fn
 rw [show 2*(k+1)=(2*k+1)+1 by omega]
 refine Fun.okX F ok.sc (λvs H Q E ⟨G,h,ws,hr,rs,no,q⟩=> ?_) λcdv A outer s H vs Q E room ⟨G,h,ws,hr,rs,no,q⟩=> ?_
 ·by_cases hl:ws.length=d.ps
  ·rw [← rs.length,hl,ok.p]
  ·rw [run_len hl]at q;exact q.elim
 ·by_cases hl:ws.length=d.ps
  rotate_left
  ·rw [run_len hl]at q;exact q.elim
  rw [run_ok hl]at q
  refine⟨tDS Γ E (M.execs ⟨M.call p k,p.cl,p.con⟩ d.body),sndSs (k:=2*k) ?_ d.body ok.chk,?_⟩
  ·refine { N:=rfl,K:=rfl,cl:=pr.cl,ow:=pr.ow,nd:=ok.sc.nd,vis:=λx hx=>ZV hx,lcl:=λx hx=>hx,sto:=λx hx=>⟨QT hx,.inl rfl⟩,cel:=λx hx=>hx,gl:=λx hx=>JP hx,calm:=rfl,room:=room.mono (by omega),room1:=room,pass:=QX,blt:=pr.blt,con:=pr.con,fn:=λg hg=> ?_,cls:=pr.cls,fld:=pr.fld,mth:=λc m q hq=> ?_,mks:=λc q hq=> ?_,pown:=zcl,stk:=rfl,frm:=rfl,ex:=rfl,rai:=λc hc hg hd=> ?_,hnd:=pr.hnd }
   ·obtain⟨ps,fa,fd,h1,h2,h3,h4⟩:=ih g hg
    exact⟨ps,⟨fa,fd,h1,h2,h3,h4⟩⟩
   ·obtain⟨z1,z2,z3⟩:=pr.mth c m q hq
    obtain⟨ps,fd,h1,h2⟩:=im q z2
    exact⟨z1,_,fd,ps,z3,h1,h2⟩
   ·obtain⟨z1,z2,z3⟩:=pr.mks c q hq
    obtain⟨ps,fd,h1,h2⟩:=im q z2
    exact⟨z1,_,fd,ps,z3,h1,h2⟩
   ·obtain⟨xo,ei,hm⟩:=pr.rai c hc
    refine⟨xo,λnp k6 pos e es t ha hp=> ?_⟩
    exact zaQ ei hm (JP hg) ha (xa (hp _ Aa8)) (Zl λe he=>hp e (Aa7 _ he)) hd
  ·refine⟨⟨G,H,h⟩,G,ws.map y0++Aa0 (d.n-d.ps) k9,h,?_,qay hr q⟩
   have:=zas hr rs no ok.n
   rw [hl]at this
   exact this
theorem Z4 (f) (fa) (fd) (ps):FnOk P w Γ.K mg base (CX1 P w) (2*0) fa fd ps (spW Γ (M.call p 0 f)):=
 ⟨λvs H Q E ⟨G,h,ws,hr,rs,no,q⟩=>q.elim,λA outer s H args us vs Q E _ _ _ _ ⟨G,h,ws,hr,rs,no,q⟩=>q.elim⟩
theorem zb2 (pr:jch Γ p mg own rai hnd ob) (all: ∀f,fns.contains f=v9-> ∃d,p.fns.lookup f=y0 d/\ ∃t:Txt Γ.K mg f,JO t d fns own rai hnd ob/\Ad8 Γ.K (.ref t.fa)=v9/\mg (Ze f)=y0 (.ref t.fa))
 (allM: ∀q,ob.ms.contains q=v9-> ∃d,p.fns.lookup q=y0 d/\ ∃t:Txt Γ.K mg q,JO t d fns own rai hnd ob/\t.fa=Γ.ma q): ∀k,(∀ f,fns.contains f=v9->qbM P w Γ mg base p k f)/\ ∀q,ob.ms.contains q=v9->qct P w Γ mg base p k q:=by
 intro k
 induction k with
 | zero=>
  refine⟨λf hf=> ?_,λq hq=> ?_⟩
  ·obtain⟨d,hd,t,ok,kp,hm⟩:=all f hf
   exact⟨t.ps,t.fa,t.fd,Z4 f _ _ _,ok.bd,kp,hm⟩
  ·obtain⟨d,hd,t,ok,ea⟩:=allM q hq
   exact⟨t.ps,t.fd,Z4 q _ _ _,ok.bd⟩
 | succ k ih=>
  refine⟨λf hf=> ?_,λq hq=> ?_⟩
  ·obtain⟨d,hd,t,ok,kp,hm⟩:=all f hf
   exact⟨t.ps,t.fa,t.fd,xbf pr ok hd k ih.1 ih.2,ok.bd,kp,hm⟩
  ·obtain⟨d,hd,t,ok,ea⟩:=allM q hq
   exact⟨t.ps,t.fd,ea▸xbf pr ok hd k ih.1 ih.2,ok.bd⟩
noncomputable def za8 (K:Aa5):Sp:=λvs H Q _=> ∃(a:Addr) (ns:List Int),vs= [.ref a]/\SqL K H a (ns.map V.int)/\ns.length<=63/\ ∀H',Q (.bl v9) H'
theorem zV : ∀(ns:List Int),RelDs Γ G H (ns.map M.D.int) (ns.map V.int)
 | []=>rfl
 | n::ns=>⟨_,_,rfl,rfl,zV ns⟩
theorem zb3 (F:FnOk P w Γ.K mg base (CX1 P w) n fa fd ps (spW Γ (M.call p k "law"))) (hlaw: ∀ns:List Int,ns.length<=63-> ∃h',M.call p k "law" [.v (.lst (ns.map .int))] []= .ok (.v (.bl true)) h'):
 FnOk P w Γ.K mg base CX0 n fa fd ps (za8 Γ.K):=by
 refine FnOk.calm F λvs H Q E ⟨a,ns,hv,hS,hn,q⟩=> ?_
 subst hv
 obtain⟨h',hc⟩:=hlaw ns hn
 have fin: ∀G:Gh,HRel Γ G [] H->StL Γ G H a (ns.map V.int)->spW Γ (M.call p k "law") [.ref a] H Q (fun _ _ _=>False):=fun G hr st=>by
  refine⟨G,[],[.v (.lst (ns.map .int))],hr,⟨.ref a,[],rfl,⟨a,ns.map V.int,rfl,st,zV ns⟩,rfl⟩,λw hw=> ?_,?_⟩
  ·cases Ab5.mp hw;rfl
  ·rw [hc]
   intro G' H' _ _ v r _
   cases (r)
   exact q H'
 rcases hS with hS | hS
 ·refine fin ⟨λb=>b=a,λ_=>0,0⟩ ⟨rfl,λr xs e=>by simp at e,λr xs e=>by simp at e,λr s h1=>absurd h1 (Ai8 _),λb hb=> ?_,λr ks e=>by simp at e,λr c fs e=>by simp at e⟩ (.inl ⟨rfl,hS⟩)
  subst hb
  rcases hS with z | ⟨o,z⟩
  ·exact⟨_,z⟩
  ·exact⟨_,z⟩
 ·exact fin ⟨λ_=>False,λ_=>0,0⟩ ⟨rfl,λr xs e=>by simp at e,λr xs e=>by simp at e,λr s h1=>absurd h1 (Ai8 _),λb hb=>hb.elim,λr ks e=>by simp at e,λr c fs e=>by simp at e⟩ (.inr hS)
theorem walk {l:PySem.W.OpenLaw}{K:Params->Aa5}(k) (hk:Room k callerA) (hn:l.most=y0 63) (hdf:d.params.defaults= [])
 (hY: ∀ w h,YP w h->(K w.params).In h)
 (F: ∀ w mg fa h,(K w.params).In h->h.Ns mainGlobals mg->mg d.name=y0 (.ref fa) →
   ∃fd:FuncData,(∀ s u,BindsTo s fd ⟨[u],[]⟩ [(x,u)])/\ ∀base:Heap,(K w.params).In base->base.Ns mainGlobals mg->FnOk l.prog w (K w.params) mg base CX0 k fa fd [x] (za8 (K w.params))):
 PySem.W.WalkO q loose XP YP l.row.toRowW d [] (λf vs=>PySem.call f vs):=
 L2.walk_of hn (by decide) hdf hk hY F (λ_ _ a ns hl _ hS=>⟨a,ns,rfl,hS,hl,λ_=>rfl⟩) λ_ _ _ _ _ z=>z
end
end L2.MS
namespace Wf
def inB (n:Nat) (ps:List (Nat×Nat)):Prop:= ∀p∈ps,p.1<n/\p.2<n
inductive TC (n t a:Nat):Nat->Prop
 | step {b:Nat}:a<n->b<n->t.testBit (a*n+b)=v9->TC n t a b
 | more {b c:Nat}:TC n t a b->b<n->c<n->t.testBit (b*n+c)=v9->TC n t a c
structure xcG (n t r:Nat):Prop where
 lt:r<2 ^ (n*n)
 bit: ∀a b,a<n->b<n->(r.testBit (a*n+b)=v9↔TC n t a b)
structure Clo (n t r:Nat):Prop where
 lt:r<2 ^ (n*n)
 sub: ∀a b,a<n->b<n->r.testBit (a*n+b)=v9->TC n t a b
 sup: ∀k,t.testBit k=v9->r.testBit k=v9
structure jcG (n t a:Nat) (re wa:List Nat):Prop where
 an:a<n
 nd:re.Nodup
 tc: ∀x∈re,TC n t a x
 wl: ∀x∈wa,x<n/\(x=a\/x∈re)
 cl: ∀x,(x=a\/x∈re)->x∉wa-> ∀b,b<n->t.testBit (x*n+b)=v9->b∈re
structure Lk (n t a:Nat) (re wa:List Nat) (h b:Nat):Prop where
 an:a<n
 nd:re.Nodup
 tc: ∀x∈re,TC n t a x
 wl: ∀x∈wa,x<n/\(x=a\/x∈re)
 cl: ∀x,(x=a\/x∈re)->x∉wa->x≠h-> ∀b,b<n->t.testBit (x*n+b)=v9->b∈re
 hn:h<n
 hr:h=a\/h∈re
 hb: ∀b',b'<b->t.testBit (h*n+b')=v9->b'∈re
end Wf
namespace M
def Wc:E:= .comp [0] v9 1 [] (.seq (.var 0)) u9 (.bl v9) (.cmp .mem (.var 0) (.con "FIGURES"))
noncomputable def G9:Fn:=⟨2,2,.cons (.iff (.or (.not (.chain .le .le (.int 1) (.bi .len (.cons (.var 0) .nil)) (.var 1))) (.not (.bi .all (.cons Wc .nil)))) (.cons (.ret (.bl u9)) .nil) .nil) (.cons (.ret (.or (.cmp .eq (.var 0) (.str [48])) (.not (.meth .starts (.var 0) (.cons (.str [48]) .nil))))) .nil)⟩
noncomputable def GN:Fn:=⟨1,1,.cons (.iff (.cmp .mem (.var 0) (.con "LETTERS")) (.cons (.ret (.str [108,101,116,116,101,114])) .nil) .nil) (.cons (.iff (.cmp .mem (.var 0) (.con "FIGURES")) (.cons (.ret (.str [102,105,103,117,114,101])) .nil) .nil) (.cons (.iff (.cmp .mem (.var 0) (.con "SINGLE_SIGNS")) (.cons (.ret (.str [115,105,110,103,108,101])) .nil) .nil) (.cons (.iff (.cmp .eq (.var 0) (.str [32])) (.cons (.ret (.str [98,108,97,110,107])) .nil) .nil) (.cons .nope .nil))))⟩
noncomputable def Zj:Ss:= .cons (.setf 4 (.call "sort_of_sign" (.cons (.var 3) .nil))) (.cons (.iff (.and (.cmp .eq (.var 4) (.var 2)) (.cmp .mem (.var 4) (.tup (.cons (.str [108,101,116,116,101,114]) (.cons (.str [102,105,103,117,114,101]) .nil))))) (.cons (.setix 1 (.neg (.int 1)) (.bin .add (.ix (.var 1) (.neg (.int 1))) (.var 3))) .nil) (.cons (.iff (.cmp .ne (.var 4) (.str [98,108,97,110,107])) (.cons (.app 1 (.var 3)) .nil) .nil) .nil)) (.cons (.setf 2 (.var 4)) .nil))
noncomputable def Kk:Fn:=⟨1,5,.cons (.set 1 (.lst .nil)) (.cons (.setf 2 (.str [98,108,97,110,107])) (.cons (.for [3] v9 (.seq (.var 0)) Zj) (.cons (.ret (.var 1)) .nil)))⟩
noncomputable def Kb:Fn:=⟨1,1,.cons (.iff (.cmp .eq (.var 0) (.con "MOST_WITHIN")) (.cons .nope .nil) .nil) (.cons (.ret (.bin .add (.var 0) (.int 1))) .nil)⟩
noncomputable def GI:Fn:=⟨3,3,.cons (.setfld 0 "Reader" "names" (.bin .add (.ix (.var 1) (.int 0)) (.ix (.var 1) (.int 1)))) (.cons (.setfld 0 "Reader" "signs" (.var 2)) (.cons (.setfld 0 "Reader" "place" (.int 0)) .nil))⟩
noncomputable def GT:Fn:=⟨1,1,.cons (.iff (.cmp .lt (.fld 0 "Reader" "place") (.bi .len (.cons (.fld 0 "Reader" "signs") .nil))) (.cons (.ret (.ix (.fld 0 "Reader" "signs") (.fld 0 "Reader" "place"))) .nil) .nil) (.cons (.ret (.str [])) .nil)⟩
noncomputable def GV:Fn:=⟨1,2,.cons (.setf 1 (.mcall 0 "Reader" "here" "Reader.here" .nil)) (.cons (.setfld 0 "Reader" "place" (.bin .add (.fld 0 "Reader" "place") (.int 1))) (.cons (.ret (.var 1)) .nil))⟩
noncomputable def GE:Fn:=⟨2,2,.cons (.iff (.cmp .ne (.mcall 0 "Reader" "take" "Reader.take" .nil) (.var 1)) (.cons .nope .nil) .nil) .nil⟩
def zu:E:= .cmp .eq (.mcall 0 "Reader" "here" "Reader.here" .nil) (.str [111,114])
noncomputable def xt:Ss:= .cons (.ex (.mcall 0 "Reader" "take" "Reader.take" .nil)) (.cons (.setf 2 (.tup (.cons (.str [111,114]) (.cons (.var 2) (.cons (.mcall 0 "Reader" "part" "Reader.part" (.cons (.var 1) .nil)) .nil))))) .nil)
noncomputable def Ka:Fn:=⟨2,3,.cons (.setf 2 (.mcall 0 "Reader" "part" "Reader.part" (.cons (.var 1) .nil))) (.cons (.whl 100000 zu xt) (.cons (.ret (.var 2)) .nil))⟩
def jz:E:= .cmp .eq (.mcall 0 "Reader" "here" "Reader.here" .nil) (.str [97,110,100])
noncomputable def qx:Ss:= .cons (.ex (.mcall 0 "Reader" "take" "Reader.take" .nil)) (.cons (.setf 2 (.tup (.cons (.str [97,110,100]) (.cons (.var 2) (.cons (.mcall 0 "Reader" "unit" "Reader.unit" (.cons (.var 1) .nil)) .nil))))) .nil)
noncomputable def Kh:Fn:=⟨2,3,.cons (.setf 2 (.mcall 0 "Reader" "unit" "Reader.unit" (.cons (.var 1) .nil))) (.cons (.whl 100000 jz qx) (.cons (.ret (.var 2)) .nil))⟩
noncomputable def GU:Fn:=⟨2,3,.cons (.iff (.cmp .eq (.mcall 0 "Reader" "here" "Reader.here" .nil) (.str [110,111,116])) (.cons (.ex (.mcall 0 "Reader" "take" "Reader.take" .nil)) (.cons (.ret (.tup (.cons (.str [110,111,116]) (.cons (.mcall 0 "Reader" "unit" "Reader.unit" (.cons (.call "one_deeper" (.cons (.var 1) .nil)) .nil)) .nil)))) .nil)) .nil) (.cons (.iff (.cmp .eq (.mcall 0 "Reader" "here" "Reader.here" .nil) (.str [91])) (.cons (.ex (.mcall 0 "Reader" "take" "Reader.take" .nil)) (.cons (.setf 2 (.mcall 0 "Reader" "saying" "Reader.saying" (.cons (.call "one_deeper" (.cons (.var 1) .nil)) .nil))) (.cons (.ex (.mcall 0 "Reader" "take_just" "Reader.take_just" (.cons (.str [93]) .nil))) (.cons (.ret (.var 2)) .nil)))) .nil) (.cons (.ret (.mcall 0 "Reader" "fact" "Reader.fact" (.cons (.var 1) .nil))) .nil))⟩
noncomputable def GS:Fn:=⟨2,3,.cons (.setf 2 (.mcall 0 "Reader" "here" "Reader.here" .nil)) (.cons (.iff (.cmp .mem (.var 2) (.tup (.cons (.str [115,111,109,101]) (.cons (.str [110,111]) .nil)))) (.cons (.ex (.mcall 0 "Reader" "take" "Reader.take" .nil)) (.cons (.ret (.tup (.cons (.var 2) (.cons (.mcall 0 "Reader" "expression" "Reader.expression" (.cons (.var 1) .nil)) .nil)))) .nil)) .nil) (.cons (.iff (.cmp .mem (.var 2) (.tup (.cons (.str [108,101,97,115,116]) (.cons (.str [109,111,115,116]) .nil)))) (.cons (.ret (.mcall 0 "Reader" "count_fact" "Reader.count_fact" (.cons (.str []) (.cons (.var 1) .nil)))) .nil) .nil) (.cons (.iff (.cmp .eq (.var 2) (.str [101,97,99,104])) (.cons (.ex (.mcall 0 "Reader" "take" "Reader.take" .nil)) (.cons (.ret (.mcall 0 "Reader" "count_fact" "Reader.count_fact" (.cons (.str [101,97,99,104]) (.cons (.var 1) .nil)))) .nil)) .nil) (.cons (.ret (.mcall 0 "Reader" "pair_fact" "Reader.pair_fact" (.cons (.var 1) .nil))) .nil))))⟩
noncomputable def GC:Fn:=⟨3,5,.cons (.setf 3 (.mcall 0 "Reader" "take" "Reader.take" .nil)) (.cons (.iff (.cmp .nmem (.var 3) (.tup (.cons (.str [108,101,97,115,116]) (.cons (.str [109,111,115,116]) .nil)))) (.cons .nope .nil) .nil) (.cons (.setf 4 (.mcall 0 "Reader" "limit" "Reader.limit" .nil)) (.cons (.ret (.tup (.cons (.bin .add (.var 1) (.var 3)) (.cons (.var 4) (.cons (.mcall 0 "Reader" "expression" "Reader.expression" (.cons (.var 2) .nil)) .nil))))) .nil)))⟩
noncomputable def GO:Fn:=⟨1,2,.cons (.setf 1 (.mcall 0 "Reader" "take" "Reader.take" .nil)) (.cons (.iff (.not (.call "is_written" (.cons (.var 1) (.cons (.con "MOST_FIGURES") .nil)))) (.cons .nope .nil) .nil) (.cons (.ret (.intT (.var 1))) .nil))⟩
noncomputable def GF:Fn:=⟨2,4,.cons (.setf 2 (.mcall 0 "Reader" "expression" "Reader.expression" (.cons (.var 1) .nil))) (.cons (.setf 3 (.mcall 0 "Reader" "take" "Reader.take" .nil)) (.cons (.iff (.cmp .nmem (.var 3) (.tup (.cons (.str [105,110]) (.cons (.str [61]) .nil)))) (.cons .nope .nil) .nil) (.cons (.ret (.tup (.cons (.tix "SORTS" (.var 3)) (.cons (.var 2) (.cons (.mcall 0 "Reader" "expression" "Reader.expression" (.cons (.var 1) .nil)) .nil))))) .nil)))⟩
def jc:E:= .cmp .mem (.mcall 0 "Reader" "here" "Reader.here" .nil) (.tup (.cons (.str [43]) (.cons (.str [45]) .nil)))
noncomputable def xc:Ss:= .cons (.setf 3 (.tix "SORTS" (.mcall 0 "Reader" "take" "Reader.take" .nil))) (.cons (.setf 2 (.tup (.cons (.var 3) (.cons (.var 2) (.cons (.mcall 0 "Reader" "term" "Reader.term" (.cons (.var 1) .nil)) .nil))))) .nil)
noncomputable def GB:Fn:=⟨2,4,.cons (.setf 2 (.mcall 0 "Reader" "term" "Reader.term" (.cons (.var 1) .nil))) (.cons (.whl 100000 jc xc) (.cons (.ret (.var 2)) .nil))⟩
def wB:E:= .cmp .eq (.mcall 0 "Reader" "here" "Reader.here" .nil) (.str [38])
noncomputable def Jx:Ss:= .cons (.ex (.mcall 0 "Reader" "take" "Reader.take" .nil)) (.cons (.setf 2 (.tup (.cons (.str [98,111,116,104]) (.cons (.var 2) (.cons (.mcall 0 "Reader" "factor" "Reader.factor" (.cons (.var 1) .nil)) .nil))))) .nil)
noncomputable def Ki:Fn:=⟨2,3,.cons (.setf 2 (.mcall 0 "Reader" "factor" "Reader.factor" (.cons (.var 1) .nil))) (.cons (.whl 100000 wB Jx) (.cons (.ret (.var 2)) .nil))⟩
def xu:E:= .cmp .eq (.mcall 0 "Reader" "here" "Reader.here" .nil) (.str [46])
noncomputable def Zt:Ss:= .cons (.ex (.mcall 0 "Reader" "take" "Reader.take" .nil)) (.cons (.setf 2 (.tup (.cons (.str [106,111,105,110,101,100]) (.cons (.var 2) (.cons (.mcall 0 "Reader" "atom" "Reader.atom" (.cons (.var 1) .nil)) .nil))))) .nil)
noncomputable def G7:Fn:=⟨2,3,.cons (.setf 2 (.mcall 0 "Reader" "atom" "Reader.atom" (.cons (.var 1) .nil))) (.cons (.whl 100000 xu Zt) (.cons (.ret (.var 2)) .nil))⟩
noncomputable def GR:Fn:=⟨2,4,.cons (.setf 2 (.mcall 0 "Reader" "take" "Reader.take" .nil)) (.cons (.iff (.cmp .mem (.var 2) (.tup (.cons (.str [126]) (.cons (.str [94]) .nil)))) (.cons (.ret (.tup (.cons (.tix "SORTS" (.var 2)) (.cons (.mcall 0 "Reader" "atom" "Reader.atom" (.cons (.call "one_deeper" (.cons (.var 1) .nil)) .nil)) .nil)))) .nil) .nil) (.cons (.iff (.cmp .eq (.var 2) (.str [40])) (.cons (.setf 3 (.mcall 0 "Reader" "expression" "Reader.expression" (.cons (.call "one_deeper" (.cons (.var 1) .nil)) .nil))) (.cons (.ex (.mcall 0 "Reader" "take_just" "Reader.take_just" (.cons (.str [41]) .nil))) (.cons (.ret (.var 3)) .nil))) .nil) (.cons (.iff (.cmp .mem (.var 2) (.tup (.cons (.str [115,97,109,101]) (.cons (.str [97,108,108]) (.cons (.str [110,111,110,101]) .nil))))) (.cons (.ret (.tup (.cons (.var 2) .nil))) .nil) .nil) (.cons (.iff (.cmp .mem (.var 2) (.fld 0 "Reader" "names")) (.cons (.ret (.tup (.cons (.str [110,97,109,101]) (.cons (.var 2) .nil)))) .nil) .nil) (.cons .nope .nil)))))⟩
noncomputable def GL:Fn:=⟨2,5,.cons (.iff (.not (.isT (.var 1) .str)) (.cons .nope .nil) .nil) (.cons (.setf 2 (.call "signs_of" (.cons (.var 1) .nil))) (.cons (.setf 3 (.make "Reader" "Reader.__init__" (.cons (.var 0) (.cons (.var 2) .nil)))) (.cons (.setf 4 (.mcall 3 "Reader" "saying" "Reader.saying" (.cons (.int 0) .nil))) (.cons (.iff (.cmp .lt (.fld 3 "Reader" "place") (.bi .len (.cons (.var 2) .nil))) (.cons .nope .nil) .nil) (.cons (.ret (.var 4)) .nil)))))⟩
noncomputable def Gv:Fn:=⟨2,3,.cons (.setf 2 (.call "shown_expression" (.cons (.var 0) .nil))) (.cons (.iff (.cmp .lt (.tget "EXPRESSION_RANKS" (.cons (.ix (.var 0) (.int 0)) (.cons (.con "ATOM_RANK") .nil))) (.var 1)) (.cons (.ret (.fstr [.inl [40],.inr 2,.inl [41]])) .nil) .nil) (.cons (.ret (.var 2)) .nil))⟩
noncomputable def d_shown_expression:Fn:=⟨1,6,.cons (.setf 1 (.ix (.var 0) (.int 0))) (.cons (.iff (.cmp .eq (.var 1) (.str [110,97,109,101])) (.cons (.ret (.ix (.var 0) (.int 1))) .nil) .nil) (.cons (.iff (.cmp .mem (.var 1) (.tup (.cons (.str [115,97,109,101]) (.cons (.str [97,108,108]) (.cons (.str [110,111,110,101]) .nil))))) (.cons (.ret (.var 1)) .nil) .nil) (.cons (.setf 2 (.tix "SIGNS" (.var 1))) (.cons (.iff (.cmp .mem (.var 1) (.tup (.cons (.str [116,117,114,110,101,100]) (.cons (.str [99,108,111,115,101,100]) .nil)))) (.cons (.ret (.bin .add (.var 2) (.call "expression_of_rank" (.cons (.ix (.var 0) (.int 1)) (.cons (.con "ATOM_RANK") .nil))))) .nil) .nil) (.cons (.setf 3 (.tix "EXPRESSION_RANKS" (.var 1))) (.cons (.setf 4 (.call "expression_of_rank" (.cons (.ix (.var 0) (.int 1)) (.cons (.var 3) .nil)))) (.cons (.setf 5 (.call "expression_of_rank" (.cons (.ix (.var 0) (.int 2)) (.cons (.bin .add (.var 3) (.int 1)) .nil)))) (.cons (.ret (.fstr [.inr 4,.inl [32],.inr 2,.inl [32],.inr 5])) .nil))))))))⟩
noncomputable def GJ:Fn:=⟨2,3,.cons (.setf 2 (.call "shown_saying" (.cons (.var 0) .nil))) (.cons (.iff (.cmp .lt (.tget "SAYING_RANKS" (.cons (.ix (.var 0) (.int 0)) (.cons (.con "UNIT_RANK") .nil))) (.var 1)) (.cons (.ret (.fstr [.inl [91],.inr 2,.inl [93]])) .nil) .nil) (.cons (.ret (.var 2)) .nil))⟩
noncomputable def d_shown_fact:Fn:=⟨1,5,.cons (.setf 1 (.tix "WORDS" (.ix (.var 0) (.int 0)))) (.cons (.setf 2 (.call "shown_expression" (.cons (.ix (.var 0) (.neg (.int 1))) .nil))) (.cons (.iff (.cmp .mem (.ix (.var 0) (.int 0)) (.tup (.cons (.str [105,110]) (.cons (.str [101,113,117,97,108]) .nil)))) (.cons (.setf 3 (.call "shown_expression" (.cons (.ix (.var 0) (.int 1)) .nil))) (.cons (.ret (.fstr [.inr 3,.inl [32],.inr 1,.inl [32],.inr 2])) .nil)) .nil) (.cons (.iff (.cmp .mem (.ix (.var 0) (.int 0)) (.tup (.cons (.str [115,111,109,101]) (.cons (.str [110,111]) .nil)))) (.cons (.ret (.fstr [.inr 1,.inl [32],.inr 2])) .nil) .nil) (.cons (.setf 4 (.ix (.var 0) (.int 1))) (.cons (.ret (.fstr [.inr 1,.inl [32],.inr 4,.inl [32],.inr 2])) .nil)))))⟩
noncomputable def d_shown_saying:Fn:=⟨1,5,.cons (.setf 1 (.ix (.var 0) (.int 0))) (.cons (.iff (.cmp .eq (.var 1) (.str [110,111,116])) (.cons (.ret (.bin .add (.str [110,111,116,32]) (.call "saying_of_rank" (.cons (.ix (.var 0) (.int 1)) (.cons (.con "UNIT_RANK") .nil))))) .nil) .nil) (.cons (.iff (.cmp .mem (.var 1) (.tup (.cons (.str [97,110,100]) (.cons (.str [111,114]) .nil)))) (.cons (.setf 2 (.tix "SAYING_RANKS" (.var 1))) (.cons (.setf 3 (.call "saying_of_rank" (.cons (.ix (.var 0) (.int 1)) (.cons (.var 2) .nil)))) (.cons (.setf 4 (.call "saying_of_rank" (.cons (.ix (.var 0) (.int 2)) (.cons (.bin .add (.var 2) (.int 1)) .nil)))) (.cons (.ret (.fstr [.inr 3,.inl [32],.inr 1,.inl [32],.inr 4])) .nil)))) .nil) (.cons (.ret (.call "shown_fact" (.cons (.var 0) .nil))) .nil)))⟩
def Km:Fn:=⟨2,2,.cons (.ret (.bi .sum (.cons (.sl (.var 0) (.var 1) (.bin .add (.var 1) (.int 1))) .nil))) .nil⟩
noncomputable def GW:Fn:=⟨2,3,.cons (.setf 2 (.call "_law_cell" (.cons (.var 0) (.cons (.var 1) .nil)))) (.cons (.iff (.cmp .eq (.bin .mod (.call "_law_cell" (.cons (.var 0) (.cons (.int 0) .nil))) (.int 2)) (.int 1)) (.cons (.ret (.lst (.cons (.bin .fdiv (.var 2) (.ix (.lst (.cons (.int 1) (.cons (.int 2) .nil))) (.bi .int (.cons (.cmp .eq (.var 1) (.int 0)) .nil)))) (.cons (.int 1) (.cons (.int 60) .nil))))) .nil) .nil) (.cons (.ret (.lst (.cons (.bin .add (.bin .mod (.var 2) (.int 1000000093)) (.int 5)) (.cons (.int 0) (.cons (.int 900) .nil))))) .nil))⟩
noncomputable def Ke:Fn:=⟨2,4,.cons (.setref (.var 0) (.int 2) (.bin .sub (.ix (.var 0) (.int 2)) (.int 1))) (.cons (.iff (.cmp .lt (.ix (.var 0) (.int 2)) (.int 0)) (.cons (.ret (.int 0)) .nil) .nil) (.cons (.iff (.cmp .eq (.ix (.var 0) (.int 1)) (.int 1)) (.cons (.setf 2 (.bin .mod (.ix (.var 0) (.int 0)) (.var 1))) (.cons (.setref (.var 0) (.int 0) (.bin .fdiv (.ix (.var 0) (.int 0)) (.var 1))) (.cons (.ret (.var 2)) .nil))) .nil) (.cons (.setref (.var 0) (.int 0) (.bin .mod (.bin .add (.bin .add (.bin .mul (.ix (.var 0) (.int 0)) (.int 48817)) (.bin .mul (.int 65029) (.ix (.var 0) (.int 2)))) (.int 501)) (.int 1000000093))) (.cons (.setf 3 (.bin .mod (.bin .mul (.ix (.var 0) (.int 0)) (.bin .add (.bin .fdiv (.ix (.var 0) (.int 0)) (.int 2053)) (.int 613))) (.int 998244353))) (.cons (.ret (.bin .mod (.bin .mod (.bin .add (.bin .mul (.var 3) (.var 3)) (.ix (.var 0) (.int 0))) (.int 1000000087)) (.var 1))) .nil)))))⟩
noncomputable def Wj:E:= .comp [0] v9 1 [5,6,2,3] (.range1 (.var 1)) u9 (.bl v9) (.bin .add (.bin .add (.slH (.var 1) (.var 2)) (.ix (.var 3) (.bin .mod (.bin .add (.bin .add (.var 4) (.int 1)) (.bin .mul (.int 3) (.var 0))) (.int 26)))) (.slL (.var 1) (.var 2)))
noncomputable def qk:E:= .comp [0] v9 1 [4,3] (.range1 (.var 1)) u9 (.bl v9) (.ix (.var 1) (.bin .mod (.bin .add (.var 2) (.bin .mul (.int 3) (.var 0))) (.int 16)))
noncomputable def zk:E:= .comp [0] v9 1 [2,3] (.range1 (.var 1)) u9 (.bl v9) (.slH (.bin .add (.str [113]) (.bin .mul (.ix (.var 1) (.var 2)) (.int 7))) (.bin .add (.var 0) (.int 1)))
noncomputable def jk:E:= .comp [0] v9 1 [2,3,0] (.range1 (.var 1)) u9 (.bl v9) (.ix (.var 1) (.bin .mod (.bin .add (.var 2) (.bin .mul (.bin .add (.int 1) (.bin .mul (.int 2) (.bin .mod (.bin .fdiv (.var 3) (.int 104)) (.int 6)))) (.var 0))) (.int 26)))
noncomputable def Kc:Fn:=⟨2,7,.cons (.setf 2 (.str [97,98,99,100,101,102,103,104,105,106,107,108,109,110,111,112,113,114,115,116,117,118,119,120,121,122])) (.cons (.setf 3 (.bin .mod (.bin .fdiv (.var 0) (.int 4)) (.int 26))) (.cons (.iff (.cmp .eq (.bin .mod (.var 0) (.int 4)) (.int 0)) (.cons (.ret jk) .nil) .nil) (.cons (.iff (.cmp .eq (.bin .mod (.var 0) (.int 4)) (.int 1)) (.cons (.ret zk) .nil) .nil) (.cons (.iff (.cmp .eq (.bin .mod (.var 0) (.int 4)) (.int 2)) (.cons (.setf 4 (.lst (.cons (.str [110,111,116,97]) (.cons (.str [111,114,98]) (.cons (.str [97,110,100,121]) (.cons (.str [105,110,110]) (.cons (.str [97,108,108,115]) (.cons (.str [115,97,109,101,121]) (.cons (.str [110,111,110,101,97]) (.cons (.str [101,97,99,104,115]) (.cons (.str [108,101,97,115,116,115]) (.cons (.str [109,111,115,116,121]) (.cons (.str [115,111,109,101,115]) (.cons (.str [110,111,97]) .nil)))))))))))))) (.cons (.setf 4 (.bin .add (.var 4) (.lst (.cons (.str [107,105,110,100,97]) (.cons (.str [116,105,101,115]) (.cons (.str [115,97,121,115]) (.cons (.str [105]) .nil))))))) (.cons (.ret qk) .nil))) .nil) (.cons (.setf 5 (.slH (.bin .add (.str [113]) (.bin .mul (.ix (.var 2) (.var 3)) (.int 6))) (.bin .add (.int 1) (.bin .mod (.bin .fdiv (.var 0) (.int 104)) (.int 7))))) (.cons (.setf 6 (.bin .mod (.bin .fdiv (.var 0) (.int 728)) (.bin .add (.bi .len (.cons (.var 5) .nil)) (.int 1)))) (.cons (.ret Wj) .nil)))))))⟩
def ze:E:= .comp [0] v9 1 [4,5] (.seq (.var 9)) v9 (.cmp .nmem (.var 0) (.bin .add (.var 1) (.var 2))) (.var 0)
def Jg:E:= .comp [0] v9 1 [8] (.seq (.var 3)) u9 (.bl v9) (.bin .add (.slH (.var 1) (.int 7)) (.var 0))
noncomputable def je:E:= .comp [0] v9 1 [3,6] (.range1 (.var 7)) u9 (.bl v9) (.ix (.var 1) (.call "_law_next" (.cons (.var 2) (.cons (.int 26) .nil))))
noncomputable def wc:Ss:= .cons (.setf 7 (.bin .add (.int 1) (.call "_law_next" (.cons (.var 6) (.cons (.int 8) .nil))))) (.cons (.setf 8 (.meth .join (.str []) (.cons je .nil))) (.cons (.iff (.cmp .mem (.var 8) (.bin .add (.var 4) (.var 5))) (.cons (.setf 9 Jg) (.cons (.setf 8 (.ix ze (.int 0))) .nil)) .nil) (.cons (.app 5 (.var 8)) .nil)))
noncomputable def GG:Fn:=⟨3,10,.cons (.setf 3 (.str [97,98,99,100,101,102,103,104,105,106,107,108,109,110,111,112,113,114,115,116,117,118,119,120,121,122])) (.cons (.setf 4 (.lst (.cons (.str [115,111,109,101]) (.cons (.str [110,111]) (.cons (.str [108,101,97,115,116]) (.cons (.str [109,111,115,116]) (.cons (.str [101,97,99,104]) (.cons (.str [105,110]) (.cons (.str [97,110,100]) (.cons (.str [111,114]) (.cons (.str [110,111,116]) (.cons (.str [115,97,109,101]) (.cons (.str [97,108,108]) (.cons (.str [110,111,110,101]) (.cons (.str [107,105,110,100]) (.cons (.str [116,105,101]) .nil)))))))))))))))) (.cons (.set 5 (.lst (.cons (.str [115,97,121]) .nil))) (.cons (.for [6] v9 (.seq (.bin .add (.bin .mul (.lst (.cons (.share (.call "_law_purse" (.cons (.var 0) (.cons (.int 1) .nil)))) .nil)) (.var 1)) (.bin .mul (.lst (.cons (.share (.call "_law_purse" (.cons (.var 0) (.cons (.int 2) .nil)))) .nil)) (.var 2)))) wc) (.cons (.ret (.slL (.var 5) (.int 1))) .nil))))⟩
noncomputable def GX:Fn:=⟨1,6,.cons (.set 1 (.share (.call "_law_purse" (.cons (.var 0) (.cons (.int 0) .nil))))) (.cons (.setf 2 (.call "_law_next" (.cons (.var 1) (.cons (.int 5) .nil)))) (.cons (.setf 3 (.call "_law_next" (.cons (.var 1) (.cons (.int 5) .nil)))) (.cons (.setf 4 (.call "_law_next" (.cons (.var 1) (.cons (.bin .pow (.int 10) (.int 8)) .nil)))) (.cons (.setf 5 (.call "_law_family" (.cons (.bin .fdiv (.var 4) (.int 2)) (.cons (.bin .add (.var 2) (.var 3)) .nil)))) (.cons (.iff (.cmp .eq (.bin .mod (.var 4) (.int 2)) (.int 1)) (.cons (.setf 5 (.rev (.var 5))) .nil) .nil) (.cons (.iff (.cmp .eq (.bin .mod (.call "_law_cell" (.cons (.var 0) (.cons (.int 0) .nil))) (.int 2)) (.int 1)) (.cons (.setf 5 (.call "_law_any_names" (.cons (.var 0) (.cons (.var 2) (.cons (.var 3) .nil))))) .nil) .nil) (.cons (.ret (.tup (.cons (.bi .tuple (.cons (.bi .sorted (.cons (.slH (.var 5) (.var 2)) .nil)) .nil)) (.cons (.bi .tuple (.cons (.bi .sorted (.cons (.slL (.var 5) (.var 2)) .nil)) .nil)) .nil)))) .nil)))))))⟩
def Xn:E:= .comp [0] v9 1 [] (.seq (.var 1)) u9 (.bl v9) (.tup (.cons (.str [110,97,109,101]) (.cons (.var 0) .nil)))
noncomputable def Kj:Fn:=⟨2,3,.cons (.setf 2 (.bin .add Xn (.lst (.cons (.tup (.cons (.str [115,97,109,101]) .nil)) (.cons (.tup (.cons (.str [97,108,108]) .nil)) (.cons (.tup (.cons (.str [110,111,110,101]) .nil)) .nil)))))) (.cons (.ret (.ix (.var 2) (.call "_law_next" (.cons (.var 0) (.cons (.bi .len (.cons (.var 2) .nil)) .nil))))) .nil)⟩
noncomputable def Gs:Fn:=⟨3,6,.cons (.setf 3 (.int 0)) (.cons (.iff (.cmp .gt (.var 1) (.int 0)) (.cons (.setf 3 (.call "_law_next" (.cons (.var 0) (.cons (.int 9) .nil)))) .nil) .nil) (.cons (.iff (.cmp .eq (.var 3) (.int 0)) (.cons (.ret (.call "_law_leaf" (.cons (.var 0) (.cons (.var 2) .nil)))) .nil) .nil) (.cons (.setf 4 (.call "_law_expression" (.cons (.var 0) (.cons (.bin .sub (.var 1) (.int 1)) (.cons (.var 2) .nil))))) (.cons (.iff (.cmp .lt (.var 3) (.int 3)) (.cons (.ret (.tup (.cons (.ix (.lst (.cons (.str [116,117,114,110,101,100]) (.cons (.str [99,108,111,115,101,100]) .nil))) (.bin .sub (.var 3) (.int 1))) (.cons (.var 4) .nil)))) .nil) .nil) (.cons (.setf 5 (.call "_law_expression" (.cons (.var 0) (.cons (.bin .sub (.var 1) (.int 1)) (.cons (.var 2) .nil))))) (.cons (.ret (.tup (.cons (.ix (.lst (.cons (.str [112,108,117,115]) (.cons (.str [108,101,115,115]) (.cons (.str [98,111,116,104]) (.cons (.str [106,111,105,110,101,100]) (.cons (.str [108,101,115,115]) (.cons (.str [106,111,105,110,101,100]) .nil))))))) (.bin .sub (.var 3) (.int 3))) (.cons (.var 4) (.cons (.var 5) .nil))))) .nil))))))⟩
noncomputable def Kd:Fn:=⟨2,5,.cons (.setf 2 (.call "_law_next" (.cons (.var 0) (.cons (.int 8) .nil)))) (.cons (.setf 3 (.call "_law_expression" (.cons (.var 0) (.cons (.call "_law_next" (.cons (.var 0) (.cons (.int 4) .nil))) (.cons (.var 1) .nil))))) (.cons (.iff (.cmp .lt (.var 2) (.int 2)) (.cons (.ret (.tup (.cons (.ix (.lst (.cons (.str [105,110]) (.cons (.str [101,113,117,97,108]) .nil))) (.var 2)) (.cons (.var 3) (.cons (.call "_law_expression" (.cons (.var 0) (.cons (.call "_law_next" (.cons (.var 0) (.cons (.int 3) .nil))) (.cons (.var 1) .nil)))) .nil))))) .nil) .nil) (.cons (.iff (.cmp .lt (.var 2) (.int 4)) (.cons (.ret (.tup (.cons (.ix (.lst (.cons (.str [115,111,109,101]) (.cons (.str [110,111]) .nil))) (.bin .sub (.var 2) (.int 2))) (.cons (.var 3) .nil)))) .nil) .nil) (.cons (.setf 4 (.call "_law_next" (.cons (.var 0) (.cons (.ix (.lst (.cons (.int 5) (.cons (.int 18) (.cons (.int 100) .nil)))) (.call "_law_next" (.cons (.var 0) (.cons (.int 3) .nil)))) .nil)))) (.cons (.ret (.tup (.cons (.ix (.lst (.cons (.str [108,101,97,115,116]) (.cons (.str [109,111,115,116]) (.cons (.str [101,97,99,104,108,101,97,115,116]) (.cons (.str [101,97,99,104,109,111,115,116]) .nil))))) (.bin .sub (.var 2) (.int 4))) (.cons (.var 4) (.cons (.var 3) .nil))))) .nil)))))⟩
noncomputable def GD:Fn:=⟨3,5,.cons (.setf 3 (.int 0)) (.cons (.iff (.cmp .gt (.var 1) (.int 0)) (.cons (.setf 3 (.call "_law_next" (.cons (.var 0) (.cons (.int 6) .nil)))) .nil) .nil) (.cons (.iff (.cmp .lt (.var 3) (.int 3)) (.cons (.ret (.call "_law_fact" (.cons (.var 0) (.cons (.var 2) .nil)))) .nil) .nil) (.cons (.setf 4 (.call "_law_saying" (.cons (.var 0) (.cons (.bin .sub (.var 1) (.int 1)) (.cons (.var 2) .nil))))) (.cons (.iff (.cmp .eq (.var 3) (.int 3)) (.cons (.ret (.tup (.cons (.str [110,111,116]) (.cons (.var 4) .nil)))) .nil) .nil) (.cons (.ret (.tup (.cons (.ix (.lst (.cons (.str [97,110,100]) (.cons (.str [111,114]) .nil))) (.bin .sub (.var 3) (.int 4))) (.cons (.var 4) (.cons (.call "_law_saying" (.cons (.var 0) (.cons (.bin .sub (.var 1) (.int 1)) (.cons (.var 2) .nil)))) .nil))))) .nil)))))⟩
noncomputable def Kq:Fn:=⟨1,1,.cons (.iff (.cmp .mem (.ix (.var 0) (.int 0)) (.tup (.cons (.str [112,108,117,115]) (.cons (.str [108,101,115,115]) .nil)))) (.cons (.ret (.int 0)) .nil) .nil) (.cons (.iff (.cmp .mem (.ix (.var 0) (.int 0)) (.tup (.cons (.str [98,111,116,104]) (.cons (.str [106,111,105,110,101,100]) .nil)))) (.cons (.ret (.bin .add (.int 1) (.bi .int (.cons (.cmp .eq (.ix (.var 0) (.int 0)) (.str [106,111,105,110,101,100])) .nil)))) .nil) .nil) (.cons (.ret (.int 3)) .nil))⟩
noncomputable def GH:Fn:=⟨1,1,.cons (.ret (.bin .sub (.bin .sub (.int 2) (.bi .int (.cons (.cmp .eq (.ix (.var 0) (.int 0)) (.str [97,110,100])) .nil))) (.bin .mul (.int 2) (.bi .int (.cons (.cmp .eq (.ix (.var 0) (.int 0)) (.str [111,114])) .nil))))) .nil⟩
noncomputable def Gx:Fn:=⟨3,6,.cons (.setf 3 (.ix (.var 0) (.int 0))) (.cons (.setf 4 (.lst (.cons (.var 3) .nil))) (.cons (.iff (.cmp .eq (.var 3) (.str [110,97,109,101])) (.cons (.setf 4 (.lst (.cons (.ix (.var 0) (.int 1)) .nil))) .nil) .nil) (.cons (.iff (.cmp .mem (.var 3) (.tup (.cons (.str [116,117,114,110,101,100]) (.cons (.str [99,108,111,115,101,100]) .nil)))) (.cons (.setf 4 (.bin .add (.lst (.cons (.ix (.str [126,94]) (.bi .int (.cons (.cmp .eq (.var 3) (.str [99,108,111,115,101,100])) .nil))) .nil)) (.call "_law_tokens" (.cons (.ix (.var 0) (.int 1)) (.cons (.int 3) (.cons (.var 2) .nil)))))) .nil) .nil) (.cons (.iff (.cmp .lt (.call "_law_level" (.cons (.var 0) .nil)) (.int 3)) (.cons (.setf 5 (.call "_law_level" (.cons (.var 0) .nil))) (.cons (.setf 4 (.call "_law_tokens" (.cons (.ix (.var 0) (.int 1)) (.cons (.var 5) (.cons (.var 2) .nil))))) (.cons (.setf 4 (.bin .add (.var 4) (.lst (.cons (.dlit [([112,108,117,115],[43]),([108,101,115,115],[45]),([98,111,116,104],[38]),([106,111,105,110,101,100],[46])] 3) .nil)))) (.cons (.setf 4 (.bin .add (.var 4) (.call "_law_tokens" (.cons (.ix (.var 0) (.int 2)) (.cons (.bin .add (.var 5) (.int 1)) (.cons (.var 2) .nil)))))) .nil)))) .nil) (.cons (.iff (.or (.cmp .lt (.call "_law_level" (.cons (.var 0) .nil)) (.var 1)) (.cmp .eq (.call "_law_next" (.cons (.var 2) (.cons (.int 4) .nil))) (.int 3))) (.cons (.ret (.bin .add (.bin .add (.lst (.cons (.str [40]) .nil)) (.var 4)) (.lst (.cons (.str [41]) .nil)))) .nil) .nil) (.cons (.ret (.var 4)) .nil))))))⟩
noncomputable def Gq:Fn:=⟨2,5,.cons (.setf 2 (.ix (.var 0) (.int 0))) (.cons (.iff (.cmp .mem (.var 2) (.tup (.cons (.str [105,110]) (.cons (.str [101,113,117,97,108]) .nil)))) (.cons (.setf 3 (.bin .add (.call "_law_tokens" (.cons (.ix (.var 0) (.int 1)) (.cons (.int 0) (.cons (.var 1) .nil)))) (.lst (.cons (.ix (.lst (.cons (.str [61]) (.cons (.str [105,110]) .nil))) (.bi .int (.cons (.cmp .eq (.var 2) (.str [105,110])) .nil))) .nil)))) (.cons (.ret (.bin .add (.var 3) (.call "_law_tokens" (.cons (.ix (.var 0) (.int 2)) (.cons (.int 0) (.cons (.var 1) .nil)))))) .nil)) .nil) (.cons (.setf 4 (.call "_law_tokens" (.cons (.ix (.var 0) (.neg (.int 1))) (.cons (.int 0) (.cons (.var 1) .nil))))) (.cons (.iff (.cmp .mem (.var 2) (.tup (.cons (.str [115,111,109,101]) (.cons (.str [110,111]) .nil)))) (.cons (.ret (.bin .add (.lst (.cons (.var 2) .nil)) (.var 4))) .nil) .nil) (.cons (.iff (.cmp .mem (.var 2) (.tup (.cons (.str [108,101,97,115,116]) (.cons (.str [109,111,115,116]) .nil)))) (.cons (.ret (.bin .add (.lst (.cons (.var 2) (.cons (.strI (.ix (.var 0) (.int 1))) .nil))) (.var 4))) .nil) .nil) (.cons (.ret (.bin .add (.lst (.cons (.str [101,97,99,104]) (.cons (.slL (.var 2) (.int 4)) (.cons (.strI (.ix (.var 0) (.int 1))) .nil)))) (.var 4))) .nil)))))⟩
noncomputable def GA:Fn:=⟨3,6,.cons (.setf 3 (.ix (.var 0) (.int 0))) (.cons (.iff (.cmp .mem (.var 3) (.tup (.cons (.str [97,110,100]) (.cons (.str [111,114]) .nil)))) (.cons (.setf 4 (.call "_law_saying_level" (.cons (.var 0) .nil))) (.cons (.setf 5 (.bin .add (.call "_law_saying_tokens" (.cons (.ix (.var 0) (.int 1)) (.cons (.var 4) (.cons (.var 2) .nil)))) (.lst (.cons (.var 3) .nil)))) (.cons (.setf 5 (.bin .add (.var 5) (.call "_law_saying_tokens" (.cons (.ix (.var 0) (.int 2)) (.cons (.bin .add (.var 4) (.int 1)) (.cons (.var 2) .nil)))))) .nil))) (.cons (.iff (.cmp .eq (.var 3) (.str [110,111,116])) (.cons (.setf 5 (.bin .add (.lst (.cons (.str [110,111,116]) .nil)) (.call "_law_saying_tokens" (.cons (.ix (.var 0) (.int 1)) (.cons (.int 2) (.cons (.var 2) .nil)))))) .nil) (.cons (.setf 5 (.call "_law_fact_tokens" (.cons (.var 0) (.cons (.var 2) .nil)))) .nil)) .nil)) (.cons (.iff (.or (.cmp .lt (.call "_law_saying_level" (.cons (.var 0) .nil)) (.var 1)) (.cmp .eq (.call "_law_next" (.cons (.var 2) (.cons (.int 4) .nil))) (.int 3))) (.cons (.ret (.bin .add (.bin .add (.lst (.cons (.str [91]) .nil)) (.var 5)) (.lst (.cons (.str [93]) .nil)))) .nil) .nil) (.cons (.ret (.var 5)) .nil)))⟩
noncomputable def Kl:Fn:=⟨1,2,.cons (.setf 1 (.str [97,98,99,100,101,102,103,104,105,106,107,108,109,110,111,112,113,114,115,116,117,118,119,120,121,122])) (.cons (.ret (.bin .add (.bi .int (.cons (.cmp .mem (.var 0) (.var 1)) .nil)) (.bin .mul (.int 2) (.bi .int (.cons (.cmp .mem (.var 0) (.str [48,49,50,51,52,53,54,55,56,57])) .nil))))) .nil)⟩
noncomputable def Wg:Ss:= .cons (.setf 5 (.call "_law_next" (.cons (.var 1) (.cons (.int 3) .nil)))) (.cons (.iff (.and (.cmp .gt (.var 3) (.int 0)) (.and (.cmp .eq (.var 5) (.int 0)) (.and (.cmp .gt (.call "_law_sort" (.cons (.ix (.var 4) (.int 0)) .nil)) (.int 0)) (.cmp .eq (.call "_law_sort" (.cons (.ix (.var 4) (.int 0)) .nil)) (.call "_law_sort" (.cons (.ix (.ix (.var 0) (.bin .sub (.var 3) (.int 1))) (.neg (.int 1))) .nil)))))) (.cons (.setf 5 (.int 1)) .nil) .nil) (.cons (.iff (.cmp .gt (.var 3) (.int 0)) (.cons (.setf 2 (.bin .add (.var 2) (.bin .mul (.str [32]) (.var 5)))) .nil) .nil) (.cons (.setf 2 (.bin .add (.var 2) (.var 4))) .nil)))
noncomputable def G6:Fn:=⟨2,6,.cons (.setf 2 (.bin .mul (.str [32]) (.call "_law_next" (.cons (.var 1) (.cons (.int 3) .nil))))) (.cons (.for [3,4] false (.enumL 0) Wg) (.cons (.ret (.bin .add (.var 2) (.bin .mul (.str [32]) (.call "_law_next" (.cons (.var 1) (.cons (.int 3) .nil)))))) .nil))⟩
noncomputable def Xj:E:= .comp [0] v9 1 [0,1] (.range1 (.bi .len (.cons (.var 1) .nil))) u9 (.bl v9) (.call "_law_same" (.cons (.ix (.var 1) (.var 0)) (.cons (.ix (.var 2) (.var 0)) .nil)))
noncomputable def GP:Fn:=⟨2,2,.cons (.iff (.isT (.var 1) .tuple) (.cons (.iff (.or (.not (.isT (.var 0) .tuple)) (.cmp .ne (.bi .len (.cons (.var 0) .nil)) (.bi .len (.cons (.var 1) .nil)))) (.cons (.ret (.bl u9)) .nil) .nil) (.cons (.ret (.bi .all (.cons Xj .nil))) .nil)) .nil) (.cons (.iff (.isT (.var 1) .str) (.cons (.ret (.and (.isT (.var 0) .str) (.cmp .eq (.var 0) (.var 1)))) .nil) .nil) (.cons (.ret (.and (.isT (.var 0) .int) (.and (.not (.isT (.var 0) .bool)) (.cmp .eq (.var 0) (.var 1))))) .nil))⟩
noncomputable def ZF:Ss:= .cons (.set 3 (.share (.call "_law_purse" (.cons (.var 0) (.cons (.var 2) .nil))))) (.cons (.setf 4 (.call "_law_saying" (.cons (.var 3) (.cons (.call "_law_next" (.cons (.var 3) (.cons (.int 4) .nil))) (.cons (.bin .add (.ix (.var 1) (.int 0)) (.ix (.var 1) (.int 1))) .nil))))) (.cons (.set 3 (.share (.call "_law_purse" (.cons (.var 0) (.cons (.bin .add (.var 2) (.int 1)) .nil))))) (.cons (.setf 5 (.call "_law_spaced" (.cons (.call "_law_saying_tokens" (.cons (.var 4) (.cons (.int 0) (.cons (.var 3) .nil)))) (.cons (.var 3) .nil)))) (.cons (.iff (.and (.cmp .lt (.bi .len (.cons (.var 5) .nil)) (.int 3900)) (.not (.call "_law_same" (.cons (.call "read_saying" (.cons (.var 1) (.cons (.var 5) .nil))) (.cons (.var 4) .nil))))) (.cons (.ret (.bl false)) .nil) .nil) (.cons (.iff (.not (.call "_law_same" (.cons (.call "read_saying" (.cons (.var 1) (.cons (.call "shown_saying" (.cons (.var 4) .nil)) .nil))) (.cons (.var 4) .nil)))) (.cons (.ret (.bl false)) .nil) .nil) .nil)))))
noncomputable def d_law:Fn:=⟨1,6,.cons (.setf 1 (.call "_law_words" (.cons (.var 0) .nil))) (.cons (.for [2] true (.rangeS (.int 3) (.bi .max (.cons (.int 4) (.cons (.bi .min (.cons (.int 27) (.cons (.bi .len (.cons (.var 0) .nil)) .nil))) .nil)))) ZF) (.cons (.ret (.bl true)) .nil))⟩
noncomputable def prog:Prog:=⟨[("is_written",G9),("sort_of_sign",GN),("signs_of",Kk),("one_deeper",Kb),("Reader.__init__",GI),("Reader.here",GT),("Reader.take",GV),("Reader.take_just",GE),("Reader.saying",Ka),("Reader.part",Kh),("Reader.unit",GU),("Reader.fact",GS),("Reader.count_fact",GC),("Reader.limit",GO),("Reader.pair_fact",GF),("Reader.expression",GB),("Reader.term",Ki),("Reader.factor",G7),("Reader.atom",GR),("read_saying",GL),("expression_of_rank",Gv),("shown_expression",d_shown_expression),("saying_of_rank",GJ),("shown_fact",d_shown_fact),("shown_saying",d_shown_saying),("_law_cell",Km),("_law_purse",GW),("_law_next",Ke),("_law_family",Kc),("_law_any_names",GG),("_law_words",GX),("_law_leaf",Kj),("_law_expression",Gs),("_law_fact",Kd),("_law_saying",GD),("_law_level",Kq),("_law_saying_level",GH),("_law_tokens",Gx),("_law_fact_tokens",Gq),("_law_saying_tokens",GA),("_law_sort",Kl),("_law_spaced",G6),("_law_same",GP),("law",d_law)],[("WorldError", "ValueError"),("NoText", "WorldError")],[("FIGURES",.str [48,49,50,51,52,53,54,55,56,57]),("LETTERS",.str [97,98,99,100,101,102,103,104,105,106,107,108,109,110,111,112,113,114,115,116,117,118,119,120,121,122]),("SINGLE_SIGNS",.str [43,45,38,46,126,94,40,41,91,93,61]),("MOST_WITHIN",.int 20),("MOST_FIGURES",.int 2),("SORTS",.exc "" [([43],.str [112,108,117,115]),([45],.str [108,101,115,115]),([126],.str [116,117,114,110,101,100]),([94],.str [99,108,111,115,101,100]),([105,110],.str [105,110]),([61],.str [101,113,117,97,108])]),("ATOM_RANK",.int 4),("EXPRESSION_RANKS",.exc "" [([112,108,117,115],.int 1),([108,101,115,115],.int 1),([98,111,116,104],.int 2),([106,111,105,110,101,100],.int 3)]),("SIGNS",.exc "" [([112,108,117,115],.str [43]),([108,101,115,115],.str [45]),([98,111,116,104],.str [38]),([106,111,105,110,101,100],.str [46]),([116,117,114,110,101,100],.str [126]),([99,108,111,115,101,100],.str [94])]),("UNIT_RANK",.int 3),("SAYING_RANKS",.exc "" [([111,114],.int 1),([97,110,100],.int 2)]),("WORDS",.exc "" [([105,110],.str [105,110]),([101,113,117,97,108],.str [61]),([115,111,109,101],.str [115,111,109,101]),([110,111],.str [110,111]),([108,101,97,115,116],.str [108,101,97,115,116]),([109,111,115,116],.str [109,111,115,116]),([101,97,99,104,108,101,97,115,116],.str [101,97,99,104,32,108,101,97,115,116]),([101,97,99,104,109,111,115,116],.str [101,97,99,104,32,109,111,115,116])])]⟩
noncomputable abbrev v8 (m:Nat):Fx:=⟨call prog m,prog.cl,prog.con⟩
theorem zt (f): ∀ ds,(∀ d∈ds,step d h= .ok (f d) h)->GK step ds h= .ok (ds.filterMap f) h
 | [],_=>rfl
 | d::ds,hs=>by
  have ih:=zt f ds λd hd=>hs d (Aa7 _ hd)
  rw [GK,hs d Aa8]
  simp only [ih]
  cases q:f d<;>simp [q]
theorem zbh (f) (hi:Gy F it τ h= .ok ds h) (hl:ds.length<=LIM)
 (hs: ∀d∈ds,∃τ' b,GQ tg one d (Aa0 k k9++cap.map λj=>Gn τ j)=y0 τ'/\Gp F c τ' h= .ok b h/\(if b=v9 then ∃w y,eval F elt τ' h= .ok w h/\w.d=y0 y/\f d=y0 y else f d=k9)):
 eval F (.comp tg one k cap it v9 c elt) τ h= .ok (.own (ds.filterMap f)) h:=by
 rw [eval,hi,R.bind_ok,if_pos hl,zt f]
 ·rfl
 intro d hd
 obtain⟨τ',b,h1,h2,h3⟩:=hs d hd
 rw [h1]
 show((Gp F c τ' h).bind _)=_
 rw [h2]
 cases b with
 | true=>
  obtain⟨w,y,e1,e2,e3⟩:=h3
  simp [e1,e2,e3]
 | false=>
  rw [if_neg (by simp)]at h3
  simp [h3]
theorem jo (f) (hi:Gy F it τ h= .ok ds h) (hl:ds.length<=LIM)
 (hs: ∀d∈ds,∃τ',GQ tg one d (Aa0 k k9++cap.map λj=>Gn τ j)=y0 τ'/\ ∃w,eval F elt τ' h= .ok w h/\w.d=y0 (f d)):
 eval F (.comp tg one k cap it u9 c elt) τ h= .ok (.own (ds.map f)) h:=by
 rw [eval,hi,R.bind_ok,if_pos hl,zt (λd=>y0 (f d))]
 ·simp [List.filterMap_eq_map']
 intro d hd
 obtain⟨τ',h1,w,e1,e2⟩:=hs d hd
 rw [h1]
 simp [e1,e2]
theorem QW (bnd) (body) (d) (ds) (τ) (h):Kf bnd body (d::ds) τ h=match bnd d τ with
 | none=> .fail
 | some τ1=>match body τ1 h with
  | .next τ2 h2=>Kf bnd body ds τ2 h2
  | .cont τ2 h2=>Kf bnd body ds τ2 h2
  | .brk τ2 h2=> .next τ2 h2
  | o=>o:=rfl
theorem Qo (e1:bnd d τ=y0 τ1) (e2:body τ1 h= .next τ2 h2):Kf bnd body (d::ds) τ h=Kf bnd body ds τ2 h2:=by
 rw [QW,e1];simp only [e2]
@[simp] theorem KC (i) (d) (τ):GQ [i] v9 d τ=y0 (Kg τ i (.v d)):=rfl
@[simp] theorem KG (tg) (ds) (τ):GQ tg u9 (.tup ds) τ=setTup tg ds τ:=rfl
@[simp] theorem jbt (i j):Gf .mod i j=if 0<j then y0 (i % j)else none:=rfl
@[simp] theorem xaT (i j):Gf .fdiv i j=if 0<j/\j<B30 then y0 (i / j)else none:=rfl
theorem Wz (a b:Nat) (h:a<2 ^ 64):Gf .mul (a:Int) (b:Int)=y0 ((a*b:Nat):Int):=by
 have h1:(-B64< a/\ a<B64)\/(-B64< b/\ b<B64):=by rw [Ky];omega
 show(if _ then _ else _)=_
 rw [if_pos h1,Int.natCast_mul]
theorem rng (m)(hd:d∈(Ac0 m).map λ(i:Nat)=>D.int (i:Int)): ∃i:Nat,i<m/\d= .int (i:Int):=by
 obtain⟨i,hi,rfl⟩:=Ae3.mp hd
 exact⟨i,Ai0.mp hi,rfl⟩
theorem Wq {m:Nat}(e:eval F a τ h= .ok (.v (.int (m:Int))) h) (hm:m<=1000000):Gy F (.range1 a) τ h= .ok ((Ac0 m).map λ(i:Nat)=> .int (i:Int)) h:=by
 have hr: -B62<= m/\ m<B62:=by rw [Kx];omega
 rw [Gy,e,R.bind_ok,int?_int,R.of_some,R.bind_ok,if_pos hr,Ag3]
end M
local macro_rules | `(tactic| simp_all [$xs,*]) => `(tactic| simp only [M.exec, M.execs, M.Gp, M.eval, M.Gi, M.Gj, M.Gy, M.G8, M.Kn, M.Gn, M.Gm, M.Kg, M.setTup, M.R.bind_ok, M.R.toO_ok, M.R.of_some, M.O.seq_next, M.O.seq_ret, M.O.seq_exc, M.W.d_v, M.W.d_own, M.W.arg_v, M.W.arg_own, M.W.arg_bor, Ac, Af6, Af5, Ae4, Nat.reduceSub, Ac8, Al, M.Gk, Bool.not_true, Ak9, M.GM, Ad6, M.K1, M.KY, M.KU, M.KF, M.K3, M.K0, M.int?_int, M.Ga, M.Gu, M.KP, M.Kp, M.KC, M.KG, $xs,*])
namespace M
theorem za (e:exec F s τ h= .next τ1 h1):execs F (.cons s ss) τ h=execs F ss τ1 h1:=by rw [execs,e,O.seq_next]
theorem qa (e:exec F s τ h= .ret w h1):execs F (.cons s ss) τ h= .ret w h1:=by rw [execs,e,O.seq_ret]
theorem Wo (e:Gp F c τ h= .ok v9 h1):exec F (.iff c a b) τ h=execs F a τ h1:=by rw [exec,e,R.toO_ok]
theorem QN (e:Gp F c τ h= .ok u9 h1):exec F (.iff c a b) τ h=execs F b τ h1:=by rw [exec,e,R.toO_ok]
theorem Qi (hv:Kn e=k9) (q:eval F e τ h= .ok (.own xs) h1):exec F (.ret e) τ h= .ret (.own xs) h1:=by
 rw [exec,hv];simp only [q,R.toO_ok]
theorem Je (hv:Kn e=k9) (q:eval F e τ h= .ok (.v d) h1):exec F (.ret e) τ h= .ret (.v d) h1:=by
 rw [exec,hv];simp only [q,R.toO_ok]
def PH (h:AH):Prop:= ∀r,r<h.length-> ∃a f m:Int,h[r]? =y0 (.lst [.int a,.int f,.int m])
theorem Jp (e:h[r]? =y0 (.lst xs)) (i):ixD (.v (.ref r)) (.v (.int i)) h=atI xs i:=by
 simp [ixD,W.str?,W.seq?,e]
theorem qaA (x y z:D):atI [x,y,z] 0=y0 x:=rfl
theorem zbZ (x y z:D):atI [x,y,z] 1=y0 y:=rfl
theorem jab (x y z:D):atI [x,y,z] 2=y0 z:=rfl
theorem PH.set (P:PH h) (r) (a f m):PH (h.set r (.lst [.int a,.int f,.int m])):=λq hq=>by
 rw [Ad1]at hq
 by_cases e:q=r
 ·subst e
  exact⟨a,f,m,by rw [Ac2 hq]⟩
 ·obtain⟨a',f',m',e'⟩:=P q hq
  exact⟨a',f',m',by rw [Ac9 (λh=>e h.symm),e']⟩
theorem PH.nil:PH []:=λr hr=>absurd hr (Ai8 _)
theorem PH.app (P:PH h) (a f m):PH (h++ [.lst [.int a,.int f,.int m]]):=λq hq=>by
 by_cases e:q<h.length
 ·rw [Ac1 e]
  exact P q e
 ·simp at hq
  have:q=h.length:=by omega
  subst this
  exact⟨a,f,m,by simp⟩
theorem PH.take (P:PH h) (n):PH (h.take n):=λq hq=>by
 rw [Ad7]at hq
 rw [List.getElem?_take,if_pos (by omega)]
 exact P q (by omega)
theorem Xx (e1:eval F e τ h= .ok (.v d) h) (e2:Gn τ i=y0 (.v (.ref r))) (e3:h[r]? =y0 (.lst xs)) (e4:ixN xs.length j=y0 n) (e5:flat d=v9) (e6:h2=h.set r (.lst (xs.set n d))):
 exec F (.setref (.var i) (.int j) e) τ h= .next τ h2:=by
 subst e6
 simp only [exec,e1,R.toO_ok,eval,e2,Pf,e3,e4,e5,if_true]
theorem qa9 (a b) (h: -(2:Int) ^ 64<b/\b<2 ^ 64):Gf .mul a b=y0 (a*b):=by
 have h1:(-B64<a/\a<B64)\/(-B64<b/\b<B64):=by rw [Ky];exact .inr h
 show(if _ then _ else _)=_
 rw [if_pos h1]
theorem Jv (a b) (h: -(2:Int) ^ 64<a/\a<2 ^ 64):Gf .mul a b=y0 (a*b):=by
 have h1:(-B64<a/\a<B64)\/(-B64<b/\b<B64):=by rw [Ky];exact .inl h
 show(if _ then _ else _)=_
 rw [if_pos h1]
theorem Qm (a b) (h:0<b):Gf .mod a b=y0 (a % b):=by
 rw [jbt,if_pos h]
theorem Xv (a b) (h:0<b) (h2:b<1073741824):Gf .fdiv a b=y0 (a / b):=by
 rw [xaT,if_pos ⟨h,by rw [Kz];exact h2⟩]
theorem Wt (i j) (h):Gz .eq (.v (.int i)) (.v (.int j)) h=y0 (k8 (i=j)):=by
 rfl
theorem jg (k)(P:PH h) (hr:r<h.length) (hm:0<m) (hb:m<1073741824):
 ∃(v:Nat) (h':AH),v<m/\PH h'/\h'.length=h.length/\call prog (k+1) "_law_next" [.v (.ref r),.v (.int (m:Int))] h= .ok (.v (.int (v:Int))) h':=by
 obtain⟨a,f,g,e0⟩:=P r hr
 rw [Gb (d:=Ke) rfl _ _ _ rfl]
 have l1:(h.set r (.lst [.int a,.int f,.int (g-1)]))[r]? =y0 (.lst [.int a,.int f,.int (g-1)]):=Ac2 hr
 have s1: ∀F τ,Gn τ 0=y0 (.v (.ref r))->exec F (.setref (.var 0) (.int 2) (.bin .sub (.ix (.var 0) (.int 2)) (.int 1))) τ h= .next τ (h.set r (.lst [.int a,.int f,.int (g-1)])):=λF τ q=>
  Xx (d:= .int (g-1)) (n:=2) (by simp only [eval,q,Jp e0,R.bind_ok,jab,R.of_some,GM,xk]) q e0 rfl rfl rfl
 simp only [Ke]
 rw [za (s1 _ _ rfl)]
 have hm':(0:Int)<(m:Int):=by omega
 by_cases q:g-1<0
 ·refine⟨0,_,hm,P.set r a f (g-1),by rw [Ad1],?_⟩
  simp_all [Jp l1,jab,Ql,q,decide_true]
  rw [Ga _ _ _ (by rw [Ad1])]
  rfl
 by_cases q2:f=1
 ·subst q2
  have l2:((h.set r (.lst [.int a,.int 1,.int (g-1)])).set r (.lst [.int (a / m),.int 1,.int (g-1)]))[r]? =y0 (.lst [.int (a / m),.int 1,.int (g-1)]):=Ac2 (by rw [Ad1];exact hr)
  have s2: ∀F τ,Gn τ 0=y0 (.v (.ref r))->Gn τ 1=y0 (.v (.int (m:Int)))->exec F (.setref (.var 0) (.int 0) (.bin .fdiv (.ix (.var 0) (.int 0)) (.var 1))) τ (h.set r (.lst [.int a,.int 1,.int (g-1)]))= .next τ ((h.set r (.lst [.int a,.int 1,.int (g-1)])).set r (.lst [.int (a / m),.int 1,.int (g-1)])):=λF τ q1 q3=>
   Xx (d:= .int (a / m)) (n:=0) (by simp only [eval,q1,q3,Jp l1,R.bind_ok,qaA,R.of_some,GM,Xv a m hm' (by omega)]) q1 l1 rfl rfl rfl
  refine⟨(a % m).toNat,_,?_,(P.set r a 1 (g-1)).set r (a / m) 1 (g-1),by rw [Ad1,Ad1],?_⟩
  ·have:=Aj5 a hm'
   have:=Ah7 a (Am2 hm')
   omega
  ·have e4:(((a % m).toNat:Nat):Int)=a % m:=Al3 (Ah7 a (Am2 hm'))
   show Gw _ (execs _ _ [y0 (.v (.ref r)),y0 (.v (.int (m:Int))),k9,k9] _)=_
   rw [za (τ1:= [y0 (.v (.ref r)),y0 (.v (.int (m:Int))),k9,k9]) (h1:=h.set r (.lst [.int a,.int 1,.int (g-1)])) (by simp_all [Jp l1,jab,Ql,q,decide_false])]
   rw [qa (w:= .v (.int (a % m))) (h1:=(h.set r (.lst [.int a,.int 1,.int (g-1)])).set r (.lst [.int (a / m),.int 1,.int (g-1)]))]
   ·rw [Ga _ _ _ (by rw [Ad1,Ad1]),e4]
   ·rw [Wo (h1:=h.set r (.lst [.int a,.int 1,.int (g-1)])) (by simp_all [Jp l1,zbZ,Wt,decide_true])]
    rw [za (τ1:= [y0 (.v (.ref r)),y0 (.v (.int (m:Int))),y0 (.v (.int (a % m))),k9]) (h1:=h.set r (.lst [.int a,.int 1,.int (g-1)])) (by simp_all [Jp l1,qaA,Qm a m hm'])]
    rw [za (s2 _ _ rfl rfl)]
    simp_all []
 ·generalize hA:(a*48817+65029*(g-1)+501) % 1000000093=A
  have hA1:0<=A/\A<1000000093:=by
   rw [← hA]
   exact⟨Ah7 _ (by decide),Aj5 _ (by decide)⟩
  have l2:((h.set r (.lst [.int a,.int f,.int (g-1)])).set r (.lst [.int A,.int f,.int (g-1)]))[r]? =y0 (.lst [.int A,.int f,.int (g-1)]):=Ac2 (by rw [Ad1];exact hr)
  have m1:Gf .mul a 48817=y0 (a*48817):=qa9 a 48817 (by decide)
  have m2:Gf .mul 65029 (g-1)=y0 (65029*(g-1)):=Jv _ _ (by decide)
  have d1:Gf .mod (a*48817+65029*(g-1)+501) 1000000093=y0 A:=by rw [Qm _ _ (by decide),hA]
  have s2: ∀F τ,Gn τ 0=y0 (.v (.ref r))->exec F (.setref (.var 0) (.int 0) (.bin .mod (.bin .add (.bin .add (.bin .mul (.ix (.var 0) (.int 0)) (.int 48817)) (.bin .mul (.int 65029) (.ix (.var 0) (.int 2)))) (.int 501)) (.int 1000000093))) τ (h.set r (.lst [.int a,.int f,.int (g-1)]))= .next τ ((h.set r (.lst [.int a,.int f,.int (g-1)])).set r (.lst [.int A,.int f,.int (g-1)])):=λF τ q1=>
   Xx (d:= .int A) (n:=0) (by simp only [eval,q1,Jp l1,R.bind_ok,qaA,jab,R.of_some,GM,m1,m2,jh,d1]) q1 l1 rfl rfl rfl
  generalize hB:A*(A / 2053+613) % 998244353=B
  have hB1:0<=B/\B<998244353:=by
   rw [← hB]
   exact⟨Ah7 _ (by decide),Aj5 _ (by decide)⟩
  have m3:Gf .mul A (A / 2053+613)=y0 (A*(A / 2053+613)):=Jv _ _ (by omega)
  have m4:Gf .mul B B=y0 (B*B):=Jv _ _ (by omega)
  have f1:Gf .fdiv A 2053=y0 (A / 2053):=Xv _ _ (by decide) (by decide)
  have d2:Gf .mod (A*(A / 2053+613)) 998244353=y0 B:=by rw [Qm _ _ (by decide),hB]
  have d3:Gf .mod (B*B+A) 1000000087=y0 ((B*B+A) % 1000000087):=Qm _ _ (by decide)
  have d4:Gf .mod ((B*B+A) % 1000000087) m=y0 ((B*B+A) % 1000000087 % m):=Qm _ _ hm'
  refine⟨((B*B+A) % 1000000087 % m).toNat,_,?_,(P.set r a f (g-1)).set r A f (g-1),by rw [Ad1,Ad1],?_⟩
  ·have:=Aj5 ((B*B+A) % 1000000087) hm'
   have:=Ah7 ((B*B+A) % 1000000087) (Am2 hm')
   omega
  ·have e4:((((B*B+A) % 1000000087 % m).toNat:Nat):Int)=(B*B+A) % 1000000087 % m:=Al3 (Ah7 _ (Am2 hm'))
   have t1:exec (v8 k) (.iff (.cmp .lt (.ix (.var 0) (.int 2)) (.int 0)) (.cons (.ret (.int 0)) .nil) .nil) [y0 (.v (.ref r)),y0 (.v (.int (m:Int))),k9,k9] (h.set r (.lst [.int a,.int f,.int (g-1)]))= .next [y0 (.v (.ref r)),y0 (.v (.int (m:Int))),k9,k9] (h.set r (.lst [.int a,.int f,.int (g-1)])):=by
    simp_all [Jp l1,jab,Ql,q,decide_false]
   have t2: ∀b,exec (v8 k) (.iff (.cmp .eq (.ix (.var 0) (.int 1)) (.int 1)) b .nil) [y0 (.v (.ref r)),y0 (.v (.int (m:Int))),k9,k9] (h.set r (.lst [.int a,.int f,.int (g-1)]))= .next [y0 (.v (.ref r)),y0 (.v (.int (m:Int))),k9,k9] (h.set r (.lst [.int a,.int f,.int (g-1)])):=by
    intro b
    simp_all [Jp l1,zbZ,Wt,q2,decide_false]
   show Gw _ (execs _ _ [y0 (.v (.ref r)),y0 (.v (.int (m:Int))),k9,k9] _)=_
   rw [za t1,za (t2 _),za (s2 _ _ rfl)]
   simp_all [Jp l2,qaA,f1,jh,m3,d2,m4,d3,d4]
   rw [Ga _ _ _ (by rw [Ad1,Ad1]),e4]
abbrev scD (ns:List Int):W:= .v (.lst (ns.map .int))
theorem JI: ∀xs:List Int,K4 (xs.map .int)=y0 xs.sum
 | []=>rfl
 | x::xs=>by simp [K4,JI xs]
theorem qbj (f:α->β) (xs) (lo hi):cut (xs.map f) lo hi=(cut xs lo hi).map f:=by
 simp [cut,List.map_take]
theorem xb3 (xs:List α) (lo hi):(cut xs lo hi).length<=xs.length:=by
 simp only [cut,Ad7,Ag4]
 omega
theorem X3 (k) (ns) (hl:ns.length<=63) (j) (h): ∃c:Int,call prog (k+1) "_law_cell" [scD ns,.v (.int (j:Int))] h= .ok (.v (.int c)) h:=by
 rw [Gb rfl _ _ _ rfl]
 have hL:(cut ns (y0 j) (y0 (j+1))).length<=LIM:=by
  have:=xb3 ns (y0 j) (y0 (j+1))
  rw [Gc];omega
 refine⟨(cut ns (y0 j) (y0 (j+1))).sum,?_⟩
 simp_all [Km,jh,qaX,qbj,jba,JI,Ac4,hL,if_true]
theorem xx (k) (ns) (hl:ns.length<=63) (j) (h): ∃a f g:Int,call prog (k+2) "_law_purse" [scD ns,.v (.int (j:Int))] h= .ok (.own [.int a,.int f,.int g]) h:=by
 obtain⟨c,e⟩:=X3 k ns hl j h
 obtain⟨c0,e0⟩:=X3 k ns hl 0 h
 rw [Gb rfl _ _ _ rfl]
 have m1:Gf .mod c0 2=y0 (c0 % 2):=Qm _ _ (by decide)
 have m2:Gf .mod c 1000000093=y0 (c % 1000000093):=Qm _ _ (by decide)
 have f1: ∀b:Bool,∃z,atI [D.int 1,D.int 2] (b.toNat:Nat)=y0 (.int z)/\0<z/\z<1073741824:=λb=>by
  cases b
  ·exact⟨1,rfl,by decide,by decide⟩
  ·exact⟨2,rfl,by decide,by decide⟩
 obtain⟨z,f2,f3,f4⟩:=f1 (k8 (j=0))
 have f5:Gf .fdiv c z=y0 (c / z):=Xv _ _ f3 f4
 have e0':=e0
 simp only [scD]at e e0'
 by_cases q:c0 % 2=1
 ·refine⟨c / z,1,60,?_⟩
  simp_all [GW,scD,e,e0',m1,Wt,q,decide_true,xbV,Wr,f2,f5]
 ·refine⟨c % 1000000093+5,0,900,?_⟩
  simp_all [GW,scD,e,e0',m1,Wt,q,decide_false,m2,jh]
abbrev L26:Tx:= [97,98,99,100,101,102,103,104,105,106,107,108,109,110,111,112,113,114,115,116,117,118,119,120,121,122]
noncomputable def taken:List Tx:= [[115,111,109,101],[110,111],[108,101,97,115,116],[109,111,115,116],[101,97,99,104],[105,110],[97,110,100],[111,114],[110,111,116],[115,97,109,101],[97,108,108],[110,111,110,101],[107,105,110,100],[116,105,101],[115,97,121]]
structure GoodN (t:Tx):Prop where
 lo:1<=t.length
 hi:t.length<=8
 let_: ∀c∈t,97<=c/\c<=122
 free:t∉taken
theorem J2: ∀t∈taken,(113)∉t:=by decide
theorem J3: ∀t∈taken,2<=t.length:=by decide
theorem qcA (i:Nat) (h:i<26):atI L26 (i:Int)=y0 (97+i):=by
 have: ∀i:Nat,i<26->atI L26 i=y0 (97+i):=by decide
 exact this i h
theorem xL (xs:List α) (n:Nat):cut xs k9 (y0 (n:Int))=xs.take n:=by
 have h1: ¬((n:Int)<0):=by omega
 simp only [cut,sIx,h1,if_false,Ag3,List.drop_zero,Nat.sub_zero]
 by_cases q:n<=xs.length
 ·rw [Nat.min_eq_left q]
 ·rw [Nat.min_eq_right (by omega),Ak2 (Aa6 _),Ak2 (by omega)]
theorem x0 (xs:List α) (n:Nat):cut xs (y0 (n:Int)) k9=xs.drop n:=by
 have h1: ¬((n:Int)<0):=by omega
 simp only [cut,sIx,h1,if_false,Ag3]
 by_cases q:n<=xs.length
 ·rw [Nat.min_eq_left q,Ak2 (by simp)]
 ·rw [Nat.min_eq_right (by omega),List.drop_of_length_le (Aa6 _),List.drop_of_length_le (by omega),List.take_nil]
theorem WA (s) (lo hi) (h) (hl:s.length<=LIM):slD (.v (.str s)) lo hi h= .ok (.v (.str (cut s lo hi))) h:=by
 show(if s.length<=LIM then _ else _)=_
 rw [if_pos hl]
theorem mul_str (s) (n:Nat) (h) (hl:n<=1000) (h2:s.length*n<=1000000):GZ .mul (.v (.str s)) (.v (.int (n:Int))) h= .ok (.v (.str (Aa0 n s).flatten)) h:=by
 show(if 0<=(n:Int)/\(n:Int)<=1000/\s.length*(n:Int).toNat<=LIM then _ else _)=_
 rw [if_pos ⟨by omega,by omega,by rw [Gc,Ag3];exact h2⟩,Ag3]
theorem add_str (s u) (h) (hl:s.length+u.length<=1000000):GZ .add (.v (.str s)) (.v (.str u)) h= .ok (.v (.str (s++u))) h:=by
 rw [Xg,if_pos (by rw [Gc];exact hl)]
theorem Xk (i:Nat) (hi:i<26) (h):ixD (.v (.str L26)) (.v (.int (i:Int))) h=y0 (.str [97+i]):=by
 rw [XE,if_pos (by rw [Gc];decide),qcA i hi]
 rfl
theorem jw (f:Nat->α) (m) (hm:m<=8) (hf: ∀i,i<8-> ∀j,j<8->i≠j->f i≠f j):((Ac0 m).map f).Nodup:=by
 rw [List.Nodup,Al7]
 refine Al6.imp_of_mem ?_ (List.nodup_range)
 intro a b ha hb hab
 exact hf a (by have:=Ai0.mp ha;omega) b (by have:=Ai0.mp hb;omega) hab
theorem JG (a b:Nat) (hb:0<b):Gf .mod (a:Int) (b:Int)=y0 ((a % b:Nat):Int):=by
 rw [Qm _ _ (by omega)];rfl
theorem jI (a b:Nat) (hb:0<b) (h2:b<1073741824):Gf .fdiv (a:Int) (b:Int)=y0 ((a / b:Nat):Int):=by
 rw [Xv _ _ (by omega) (by omega)];rfl
theorem ZC (a b:Nat):Gf .add (a:Int) (b:Int)=y0 ((a+b:Nat):Int):=rfl
def wZ (c k:Nat):Tx:= [97+(c / 4 % 26+(1+2*(c / 104 % 6))*k) % 26]
def qY (c k:Nat):Tx:=(113::Aa0 7 (97+c / 4 % 26)).take (k+1)
noncomputable def nearL:List Tx:= [[110,111,116,97],[111,114,98],[97,110,100,121],[105,110,110],[97,108,108,115],[115,97,109,101,121],[110,111,110,101,97],[101,97,99,104,115],[108,101,97,115,116,115],[109,111,115,116,121],[115,111,109,101,115],[110,111,97],[107,105,110,100,97],[116,105,101,115],[115,97,121,115],[105]]
def qaZ (c k:Nat):Tx:=nearL.getD ((c / 4 % 26+3*k) % 16) []
def Zs (c:Nat):Tx:=(113::Aa0 6 (97+c / 4 % 26)).take (1+c / 104 % 7)
noncomputable def WV (c k:Nat):Tx:=(Zs c).take (c / 728 % ((Zs c).length+1))++ [97+(c / 4 % 26+1+3*k) % 26]++(Zs c).drop (c / 728 % ((Zs c).length+1))
theorem qcs (n x:Nat):(Aa0 n [x]).flatten=Aa0 n x:=by
 induction n with
 | zero=>rfl
 | succ n ih=>rw [Ac8,Af2,ih];rfl
theorem XH (c):(Zs c).length<=7:=by simp [Zs];omega
theorem jaa: ∀p,p<26*6-> ∀i,i<8-> ∀j,j<8->i≠j->(p / 6+(1+2*(p % 6))*i) % 26≠(p / 6+(1+2*(p % 6))*j) % 26:=by decide +kernel
theorem qaF (f) (hf:f<26) (d) (hd:d<6) (i) (hi:i<8) (j) (hj:j<8) (ne:i≠j):(f+(1+2*d)*i) % 26≠(f+(1+2*d)*j) % 26:=by
 have:=jaa (f*6+d) (by omega) i hi j hj ne
 rwa [show (f*6+d) / 6=f by omega,show(f*6+d) % 6=d by omega]at this
theorem zaN: ∀f,f<26-> ∀i,i<8-> ∀j,j<8->i≠j->nearL.getD ((f+3*i) % 16) []≠nearL.getD ((f+3*j) % 16) []:=by decide +kernel
theorem qaO: ∀f,f<26-> ∀i,i<8-> ∀j,j<8->i≠j->(f+1+3*i) % 26≠(f+1+3*j) % 26:=by decide +kernel
theorem zaj: ∀i,i<16->1<=(nearL.getD i []).length/\(nearL.getD i []).length<=8/\(∀ c∈nearL.getD i [],97<=c/\c<=122)/\nearL.getD i []∉taken:=by decide +kernel
theorem f26 (c):c / 4 % 26<26:=Ai _ (by decide)
theorem zbg (c): ∀i,i<8-> ∀j,j<8->i≠j->wZ c i≠wZ c j:=λi hi j hj ne e=>by
 have:=qaF _ (f26 c) (c / 104 % 6) (Ai _ (by decide)) i hi j hj ne
 simp only [wZ,List.cons.injEq,and_true]at e
 omega
theorem qbv (c): ∀i,i<8-> ∀j,j<8->i≠j->qY c i≠qY c j:=λi hi j hj ne e=>by
 have:=congrArg Ak0 e
 simp [qY]at this
 omega
theorem zbB (c): ∀i,i<8-> ∀j,j<8->i≠j->qaZ c i≠qaZ c j:=λi hi j hj ne=>zaN _ (f26 c) i hi j hj ne
theorem zbp (c): ∀i,i<8-> ∀j,j<8->i≠j->WV c i≠WV c j:=λi hi j hj ne e=>by
 have:=qaO _ (f26 c) i hi j hj ne
 simp only [WV,Af3,List.append_cancel_left_eq,Af5,List.cons.injEq,and_true]at e
 omega
theorem W2 (c k):GoodN (wZ c k):=by
 have h:=Ai (c / 4 % 26+(1+2*(c / 104 % 6))*k) (show 0<26 by decide)
 refine⟨Aa6 _,by simp [wZ],λx hx=> ?_,λht=> ?_⟩
 ·simp only [wZ,Ab5]at hx
  omega
 ·have:=J3 _ ht
  simp [wZ]at this
theorem J0 (c k):GoodN (qY c k):=by
 have h:=f26 c
 have hl:(qY c k).length=min (k+1) 8:=by simp [qY];omega
 refine⟨by omega,by omega,λx hx=> ?_,λht=> ?_⟩
 ·have hx:=Ai4 hx
  simp only [Aa,Aj]at hx
  omega
 ·refine J2 _ ht ?_
  simp [qY]
theorem Q2 (c k):GoodN (qaZ c k):=by
 have:=zaj _ (Ai (c / 4 % 26+3*k) (show 0<16 by decide))
 exact⟨this.1,this.2.1,this.2.2.1,this.2.2.2⟩
theorem Z9 (c k):GoodN (WV c k):=by
 have h:=f26 c
 have h2:=Ai (c / 4 % 26+1+3*k) (show 0<26 by decide)
 have hs: ∀x∈Zs c,97<=x/\x<=122:=λx hx=>by
  have hx:=Ai4 hx
  simp only [Aa,Aj]at hx
  omega
 have hl:(WV c k).length=(Zs c).length+1:=by
  have:=Ai (c / 728) (show 0<(Zs c).length+1 by omega)
  simp only [WV,Aa1,Ad7,Ag4,Aa4,Ag8]
  omega
 refine⟨by omega,by have:=XH c;omega,λx hx=> ?_,λht=> ?_⟩
 ·simp only [WV,Ad2,Ab5]at hx
  rcases hx with(hx | hx) | hx
  ·exact hs x (Ai4 hx)
  ·omega
  ·exact hs x (List.mem_of_mem_drop hx)
 ·refine J2 _ ht ?_
  have hq: 113∈Zs c:=by
   have:1+c / 104 % 7=(c / 104 % 7)+1:=by omega
   rw [Zs,this,List.take_succ_cons]
   exact Aa8
  rw [← List.take_append_drop (c / 728 % ((Zs c).length+1)) (Zs c)]at hq
  simp only [WV,Ad2]
  rcases Ad2.mp hq with q | q
  ·exact .inl (.inl q)
  ·exact .inr q
theorem zo (xs:List α) (i) (h:i<xs.length):atI xs (i:Int)=xs[i]? :=by
 have:(i)< xs.length:=by omega
 simp [atI,ixN,this]
theorem xbv (i:Nat) (h:i<16):atI (nearL.map D.str) (i:Int)=y0 (.str (nearL.getD i [])):=by
 have:i<(nearL.map D.str).length:=by simpa [nearL]using h
 have e:=zo (nearL.map D.str) i this
 rw [e,Ad4]
 have h2:=by simpa [nearL]using h
 rw [Aa9 h2,Ad3,Aa9 h2]
 rfl
theorem Zg (i j:Nat) (h):Gz .eq (.v (.int (i:Int))) (.v (.int (j:Int))) h=y0 (k8 (i=j)):=by
 rw [Wt]
 congr 1
 exact decide_eq_decide.mpr (by omega)
theorem qb8 (c m:Nat) (h) (hm:m<=8):eval F jk [y0 (.v (.int (c:Int))),y0 (.v (.int (m:Int))),y0 (.v (.str L26)),y0 (.v (.int ((c / 4 % 26:Nat):Int))),x4,x5,x6] h= .ok (.own (((Ac0 m).map (wZ c)).map .str)) h:=by
 rw [jk,jo (λd=>match d with | .int i=> .str (wZ c i.toNat) | d=>d) (Wq (m:=m) (by simp_all []) (by omega)) (by simp;rw [Gc];omega)]
 ·simp [Function.comp_def]
 ·intro d hd
  obtain⟨i,hi,rfl⟩:=rng _ hd
  refine⟨_,rfl,.v (.str (wZ c i)),?_,by simp⟩
  have e1:Gf .fdiv c 104=y0 ((c / 104:Nat):Int):=jI c 104 (by decide) (by decide)
  have e2:Gf .mod ((c / 104:Nat)) 6=y0 ((c / 104 % 6:Nat):Int):=JG (c / 104) 6 (by decide)
  have e3:Gf .mul 2 ((c / 104 % 6:Nat))=y0 ((2*(c / 104 % 6):Nat):Int):=Wz 2 _ (by decide)
  have e4:Gf .add 1 ((2*(c / 104 % 6):Nat))=y0 ((1+2*(c / 104 % 6):Nat):Int):=ZC 1 (2*(c / 104 % 6))
  have e5:Gf .mul ((1+2*(c / 104 % 6):Nat):Int) (i:Int)=y0 (((1+2*(c / 104 % 6))*i:Nat):Int):=Wz _ _ (by omega)
  have e6:=ZC (c / 4 % 26) ((1+2*(c / 104 % 6))*i)
  have e7:Gf .mod ((c / 4 % 26+(1+2*(c / 104 % 6))*i:Nat):Int) 26=y0 (((c / 4 % 26+(1+2*(c / 104 % 6))*i) % 26:Nat):Int):=JG _ 26 (by decide)
  have e8:=Xk ((c / 4 % 26+(1+2*(c / 104 % 6))*i) % 26) (Ai _ (by decide)) h
  simp_all [e1,e2,e3,e4,e5,e6,e7,e8]
  rfl
theorem xcg (c m:Nat) (h) (hm:m<=8):eval F zk [y0 (.v (.int (c:Int))),y0 (.v (.int (m:Int))),y0 (.v (.str L26)),y0 (.v (.int ((c / 4 % 26:Nat):Int))),x4,x5,x6] h= .ok (.own (((Ac0 m).map (qY c)).map .str)) h:=by
 rw [zk,jo (λd=>match d with | .int i=> .str (qY c i.toNat) | d=>d) (Wq (m:=m) (by simp_all []) (by omega)) (by simp;rw [Gc];omega)]
 ·simp [Function.comp_def]
 ·intro d hd
  obtain⟨i,hi,rfl⟩:=rng _ hd
  refine⟨[y0 (.v (.int i)),y0 (.v (.str L26)),y0 (.v (.int ((c / 4 % 26:Nat))))],rfl,.v (.str (qY c i)),?_,by simp⟩
  have e1:=Xk (c / 4 % 26) (f26 c) h
  have e2:GZ .mul (.v (.str [97+c / 4 % 26])) (.v (.int 7)) h= .ok (.v (.str (Aa0 7 (97+c / 4 % 26)))) h:=by
   have:=mul_str [97+c / 4 % 26] 7 h (by decide) (by simp)
   rw [qcs]at this
   exact this
  have e3:GZ .add (.v (.str [113])) (.v (.str (Aa0 7 (97+c / 4 % 26)))) h= .ok (.v (.str (113::Aa0 7 (97+c / 4 % 26)))) h:=add_str _ _ h (by simp)
  have e4:Gf .add i 1=y0 ((i+1:Nat):Int):=ZC i 1
  have e5:slD (.v (.str (113::Aa0 7 (97+c / 4 % 26)))) k9 (y0 (i+1:Nat)) h= .ok (.v (.str (qY c i))) h:=by
   rw [WA _ _ _ _ (by simp [Gc]),xL]
   rfl
  simp only [eval,Gn,Gm,R.bind_ok,R.of_some,e1,e2,e3,GM,e4,int?_int,e5]
theorem xb9 (c m:Nat) (h) (hm:m<=8):eval F qk [y0 (.v (.int (c:Int))),y0 (.v (.int (m:Int))),y0 (.v (.str L26)),y0 (.v (.int ((c / 4 % 26:Nat):Int))),y0 (.v (.lst (nearL.map .str))),x5,x6] h= .ok (.own (((Ac0 m).map (qaZ c)).map .str)) h:=by
 rw [qk,jo (λd=>match d with | .int i=> .str (qaZ c i.toNat) | d=>d) (Wq (m:=m) (by simp_all []) (by omega)) (by simp;rw [Gc];omega)]
 ·simp [Function.comp_def]
 ·intro d hd
  obtain⟨i,hi,rfl⟩:=rng _ hd
  refine⟨_,rfl,.v (.str (qaZ c i)),?_,by simp⟩
  have e1:Gf .mul 3 i=y0 ((3*i:Nat):Int):=Wz 3 i (by decide)
  have e2:=ZC (c / 4 % 26) (3*i)
  have e3:Gf .mod ((c / 4 % 26+3*i:Nat)) 16=y0 (((c / 4 % 26+3*i) % 16:Nat):Int):=JG _ 16 (by decide)
  have e4:=xbv ((c / 4 % 26+3*i) % 16) (Ai _ (by decide))
  simp only [eval,Gn,Gm,Kg,Ac8,Al,Af5,Ae4,Ac,R.bind_ok,R.of_some,GM,e1,e2,e3,jad]
  rw [e4]
  rfl
theorem zcd (c m:Nat) (h) (hm:m<=8):eval F Wj [y0 (.v (.int (c:Int))),y0 (.v (.int (m:Int))),y0 (.v (.str L26)),y0 (.v (.int ((c / 4 % 26:Nat):Int))),x4,y0 (.v (.str (Zs c))),y0 (.v (.int ((c / 728 % ((Zs c).length+1):Nat):Int)))] h= .ok (.own (((Ac0 m).map (WV c)).map .str)) h:=by
 rw [Wj,jo (λd=>match d with | .int i=> .str (WV c i.toNat) | d=>d) (Wq (m:=m) (by simp_all []) (by omega)) (by simp;rw [Gc];omega)]
 ·simp [Function.comp_def]
 ·intro d hd
  obtain⟨i,hi,rfl⟩:=rng _ hd
  refine⟨_,rfl,.v (.str (WV c i)),?_,by simp⟩
  have sl:=XH c
  have sL:(Zs c).length<=LIM:=by rw [Gc];omega
  have e1:Gf .add ((c / 4 % 26:Nat)) 1=y0 ((c / 4 % 26+1:Nat):Int):=ZC _ 1
  have e2:Gf .mul 3 i=y0 ((3*i:Nat):Int):=Wz 3 i (by decide)
  have e3:=ZC (c / 4 % 26+1) (3*i)
  have e4:Gf .mod ((c / 4 % 26+1+3*i:Nat)) 26=y0 (((c / 4 % 26+1+3*i) % 26:Nat):Int):=JG _ 26 (by decide)
  have e5:=Xk ((c / 4 % 26+1+3*i) % 26) (Ai _ (by decide)) h
  have e6:=WA (Zs c) k9 (y0 ((c / 728 % ((Zs c).length+1):Nat))) h sL
  have e7:=WA (Zs c) (y0 ((c / 728 % ((Zs c).length+1):Nat))) k9 h sL
  rw [xL]at e6
  rw [x0]at e7
  simp only [eval,Gn,Gm,Kg,Ac8,Al,Af5,Ae4,Ac,Af6,R.bind_ok,R.of_some,GM,e1,e2,e3,e4,e5,e6,e7,int?_int]
  rw [add_str _ _ _ (by simp;omega),R.bind_ok]
  simp only [e7,R.bind_ok]
  rw [add_str _ _ _ (by simp;omega)]
  rfl
theorem qaJ (k c m:Nat) (h) (hm:m<=8): ∃ts:List Tx,ts.length=m/\ts.Nodup/\(∀ t∈ts,GoodN t)/\call prog (k+1) "_law_family" [.v (.int (c:Int)),.v (.int (m:Int))] h= .ok (.own (ts.map .str)) h:=by
 rw [Gb rfl _ _ _ rfl]
 have f1:Gf .fdiv (c:Int) 4=y0 ((c / 4:Nat):Int):=jI c 4 (by decide) (by decide)
 have f2:Gf .mod ((c / 4:Nat):Int) 26=y0 ((c / 4 % 26:Nat):Int):=JG _ 26 (by decide)
 have f3:Gf .mod (c:Int) 4=y0 ((c % 4:Nat):Int):=JG c 4 (by decide)
 have q0:Gz .eq (.v (.int ((c % 4:Nat):Int))) (.v (.int 0)) h=y0 (k8 (c % 4=0)):=Zg (c % 4) 0 h
 have q1:Gz .eq (.v (.int ((c % 4:Nat):Int))) (.v (.int 1)) h=y0 (k8 (c % 4=1)):=Zg (c % 4) 1 h
 have q2:Gz .eq (.v (.int ((c % 4:Nat):Int))) (.v (.int 2)) h=y0 (k8 (c % 4=2)):=Zg (c % 4) 2 h
 simp only [Kc]
 show ∃ts:List Tx,_/\_/\_/\Gw _ (execs _ _ [y0 (.v (.int (c:Int))),y0 (.v (.int (m:Int))),k9,k9,k9,k9,k9] h)=_
 rw [za rfl]
 rw [za (τ1:= [y0 (.v (.int (c:Int))),y0 (.v (.int (m:Int))),y0 (.v (.str L26)),y0 (.v (.int ((c / 4 % 26:Nat):Int))),k9,k9,k9]) (h1:=h) (by simp_all [f1,f2])]
 by_cases c0:c % 4=0
 ·refine⟨(Ac0 m).map (wZ c),by simp,jw _ m hm (zbg c),λt ht=> ?_,?_⟩
  ·obtain⟨i,_,rfl⟩:=Ae3.mp ht
   exact W2 c i
  ·rw [qa (w:= .own (((Ac0 m).map (wZ c)).map .str)) (h1:=h) ((Wo (h1:=h) (by simp_all [f3,q0,decide_eq_true c0])).trans (qa (Qi rfl (qb8 c m h hm)))),Gu _ _ _ rfl]
 rw [za (τ1:= [y0 (.v (.int (c:Int))),y0 (.v (.int (m:Int))),y0 (.v (.str L26)),y0 (.v (.int ((c / 4 % 26:Nat):Int))),k9,k9,k9]) (h1:=h) (by simp_all [f3,q0,decide_eq_false c0])]
 by_cases c1:c % 4=1
 ·refine⟨(Ac0 m).map (qY c),by simp,jw _ m hm (qbv c),λt ht=> ?_,?_⟩
  ·obtain⟨i,_,rfl⟩:=Ae3.mp ht
   exact J0 c i
  ·rw [qa (w:= .own (((Ac0 m).map (qY c)).map .str)) (h1:=h) ((Wo (h1:=h) (by simp_all [f3,q1,decide_eq_true c1])).trans (qa (Qi rfl (xcg c m h hm)))),Gu _ _ _ rfl]
 rw [za (τ1:= [y0 (.v (.int (c:Int))),y0 (.v (.int (m:Int))),y0 (.v (.str L26)),y0 (.v (.int ((c / 4 % 26:Nat):Int))),k9,k9,k9]) (h1:=h) (by simp_all [f3,q1,decide_eq_false c1])]
 by_cases c2:c % 4=2
 ·refine⟨(Ac0 m).map (qaZ c),by simp,jw _ m hm (zbB c),λt ht=> ?_,?_⟩
  ·obtain⟨i,_,rfl⟩:=Ae3.mp ht
   exact Q2 c i
  ·rw [qa (w:= .own (((Ac0 m).map (qaZ c)).map .str)) (h1:=h) ?_,Gu _ _ _ rfl]
   rw [Wo (h1:=h) (by simp_all [f3,q2,decide_eq_true c2])]
   rw [za (τ1:= [y0 (.v (.int (c:Int))),y0 (.v (.int (m:Int))),y0 (.v (.str L26)),y0 (.v (.int ((c / 4 % 26:Nat):Int))),y0 (.v (.lst ((nearL.take 12).map .str))),k9,k9]) (h1:=h) (by simp_all [];rfl)]
   rw [za (τ1:= [y0 (.v (.int (c:Int))),y0 (.v (.int (m:Int))),y0 (.v (.str L26)),y0 (.v (.int ((c / 4 % 26:Nat):Int))),y0 (.v (.lst (nearL.map .str))),k9,k9]) (h1:=h) (by simp_all [xa0];rw [if_pos (by rw [Gc];decide)];rfl)]
   exact qa (Qi rfl (xb9 c m h hm))
 rw [za (τ1:= [y0 (.v (.int (c:Int))),y0 (.v (.int (m:Int))),y0 (.v (.str L26)),y0 (.v (.int ((c / 4 % 26:Nat):Int))),k9,k9,k9]) (h1:=h) (by simp_all [f3,q2,decide_eq_false c2])]
 have sl:=XH c
 have sL:(Zs c).length<=LIM:=by rw [Gc];omega
 have g1:=Xk (c / 4 % 26) (f26 c) h
 have g2:GZ .mul (.v (.str [97+c / 4 % 26])) (.v (.int 6)) h= .ok (.v (.str (Aa0 6 (97+c / 4 % 26)))) h:=by
  have:=mul_str [97+c / 4 % 26] 6 h (by decide) (by simp)
  rw [qcs]at this
  exact this
 have g3:GZ .add (.v (.str [113])) (.v (.str (Aa0 6 (97+c / 4 % 26)))) h= .ok (.v (.str (113::Aa0 6 (97+c / 4 % 26)))) h:=add_str _ _ h (by simp)
 have g4:Gf .fdiv (c:Int) 104=y0 ((c / 104:Nat):Int):=jI c 104 (by decide) (by decide)
 have g5:Gf .mod ((c / 104:Nat):Int) 7=y0 ((c / 104 % 7:Nat):Int):=JG _ 7 (by decide)
 have g6:Gf .add 1 ((c / 104 % 7:Nat):Int)=y0 ((1+c / 104 % 7:Nat):Int):=ZC 1 _
 have g7:slD (.v (.str (113::Aa0 6 (97+c / 4 % 26)))) k9 (y0 ((1+c / 104 % 7:Nat):Int)) h= .ok (.v (.str (Zs c))) h:=by
  rw [WA _ _ _ _ (by simp [Gc]),xL]
  rfl
 have g8:Gf .fdiv (c:Int) 728=y0 ((c / 728:Nat):Int):=jI c 728 (by decide) (by decide)
 have g9:Gf .add ((Zs c).length:Int) 1=y0 (((Zs c).length+1:Nat):Int):=ZC _ 1
 have g10:=JG (c / 728) ((Zs c).length+1) (by omega)
 rw [za (τ1:= [y0 (.v (.int (c:Int))),y0 (.v (.int (m:Int))),y0 (.v (.str L26)),y0 (.v (.int ((c / 4 % 26:Nat):Int))),k9,y0 (.v (.str (Zs c))),k9]) (h1:=h) (by simp only [exec,eval,Gn,Gm,Kg,R.bind_ok,R.of_some,g1,g2,g3,GM,g4,g5,g6,int?_int,g7,R.toO_ok,W.d_v])]
 rw [za (τ1:= [y0 (.v (.int (c:Int))),y0 (.v (.int (m:Int))),y0 (.v (.str L26)),y0 (.v (.int ((c / 4 % 26:Nat):Int))),k9,y0 (.v (.str (Zs c))),y0 (.v (.int ((c / 728 % ((Zs c).length+1):Nat):Int)))]) (h1:=h) (by simp only [exec,eval,Gi,Gn,Gm,Kg,R.bind_ok,R.of_some,GM,g8,len_str,sL,if_true,g9,g10,R.toO_ok,W.d_v])]
 refine⟨(Ac0 m).map (WV c),by simp,jw _ m hm (zbp c),λt ht=> ?_,?_⟩
 ·obtain⟨i,_,rfl⟩:=Ae3.mp ht
  exact Z9 c i
 ·rw [qa (w:= .own (((Ac0 m).map (WV c)).map .str)) (h1:=h) (Qi rfl (zcd c m h hm)),Gu _ _ _ rfl]
theorem WD {I:AH->Prop}{Q:D->Prop}: ∀ ds,(∀ d∈ds,∀h,I h-> ∃y h',step d h= .ok (y0 y) h'/\I h'/\Q y)-> ∀h,I h-> ∃ys h',GK step ds h= .ok ys h'/\I h'/\ys.length=ds.length/\ ∀y∈ys,Q y
 | [],_,h,i=>⟨[],h,rfl,i,rfl,λ_ hy=>absurd hy (Aa2)⟩
 | d::ds,hs,h,i=>by
  obtain⟨y,h1,e1,i1,q1⟩:=hs d Aa8 h i
  obtain⟨ys,h2,e2,i2,l2,q2⟩:=WD ds (λd hd=>hs d (Aa7 _ hd)) h1 i1
  refine⟨y::ys,h2,by rw [GK,e1];simp only [e2],i2,by simp [l2],λz hz=> ?_⟩
  rcases Aa.mp hz with rfl | hz
  ·exact q1
  ·exact q2 z hz
theorem xaA {I:AH->Prop}{Q:D->Prop}(hi:Gy F it τ h= .ok ds h) (hl:ds.length<=LIM) (i0:I h)
 (hs: ∀d∈ds,∀h,I h-> ∃τ',GQ tg one d (Aa0 k k9++cap.map λj=>Gn τ j)=y0 τ'/\ ∃w y h',eval F elt τ' h= .ok w h'/\w.d=y0 y/\I h'/\Q y):
 ∃ys h',eval F (.comp tg one k cap it u9 c elt) τ h= .ok (.own ys) h'/\I h'/\ys.length=ds.length/\ ∀y∈ys,Q y:=by
 obtain⟨step,e0,hst⟩: ∃step:D->AH->R (Option D),eval F (.comp tg one k cap it u9 c elt) τ h=(GK step ds h).bind (λys h=> .ok (.own ys) h) ∧
  ∀d h τ' w y h',GQ tg one d (Aa0 k k9++cap.map λj=>Gn τ j)=y0 τ'->eval F elt τ' h= .ok w h'->w.d=y0 y->step d h= .ok (y0 y) h':=
  ⟨_,by rw [eval,hi,R.bind_ok,if_pos hl],λd h τ' w y h' e1 e2 e3=>by simp [e1,e2,e3]⟩
 obtain⟨ys,h',e,r⟩:=WD ds (λd hd h i=>by
  obtain⟨τ',e1,w,y,h',e2,e3,i',q⟩:=hs d hd h i
  exact⟨y,h',hst d h τ' w y h' e1 e2 e3,i',q⟩) h i0
 exact⟨ys,h',by rw [e0,e,R.bind_ok],r⟩
theorem Xt: ∀ts:List Tx,Kv (ts.map .str)=y0 ts
 | []=>rfl
 | t::ts=>by simp [Kv,Xt ts]
theorem jar (s): ∀ts:List Tx,inD (.str s) (ts.map .str)=k8 (s∈ts)
 | []=>rfl
 | t::ts=>by
  have ih:=jar s ts
  simp only [inD]at ih
  by_cases q:t=s
  ·subst q
   simp [inD]
  ·have q2: ¬s=t:=λe=>q e.symm
   simp only [inD,Ac,Ah5,ih,Aa,q2,false_or]
   simp [q]
theorem Z7 (ts:List Tx):(ts.map D.str).all flat=true:=by simp
theorem Zr (s) (ts:List Tx) (w) (h) (hw:w.seq? h=y0 (ts.map .str)) (h2:w.str? =k9):KN (.v (.str s)) w h=y0 (k8 (s∈ts)):=by
 unfold KN
 rw [h2]
 simp only [W.str?,W.d_v,hw,Z7,Bool.true_and,if_true,jar]
theorem qJ  [DecidableEq α]: ∀(l m:List α),l.Nodup->(∀ x∈l,x∈m)->l.length<=m.length
 | [],_,_,_=>Ae7 _
 | x::l,m,hn,hs=>by
  have h1:=(Ag7.mp hn)
  have h2:=qJ l (m.erase x) h1.2 λy hy=>by
   have:y≠x:=λe=>h1.1 (e▸hy)
   exact(List.mem_erase_of_ne this).mpr (hs y (Aa7 _ hy))
  have h3:=List.length_erase_of_mem (hs x Aa8)
  have h4:=List.length_pos_of_mem (hs x Aa8)
  simp only [Aa4]
  omega
theorem jbI: ∀cs:List Nat,Ko [] (cs.map λc=> [c])=cs
 | []=>rfl
 | [c]=>rfl
 | c::d::r=>by
  have:=jbI (d::r)
  simp only [Ac,Ko,Ae9]at this ⊢
  rw [this]
  rfl
theorem JX {ys:List D}(h: ∀y∈ys,∃c,(97<=c/\c<=122)/\y= .str [c]): ∃cs:List Nat,ys=(cs.map λc=> [c]).map .str/\ ∀c∈cs,97<=c/\c<=122:=by
 induction ys with
 | nil=>exact⟨[],rfl,λ_ h=>absurd h Aa2⟩
 | cons y ys ih=>
  obtain⟨c,hc,e⟩:=h y Aa8
  obtain⟨cs,e2,hcs⟩:=ih λy hy=>h y (Aa7 _ hy)
  refine⟨c::cs,by rw [e,e2];rfl,λd hd=> ?_⟩
  rcases Aa.mp hd with rfl | hd
  ·exact hc
  ·exact hcs d hd
def taken14:List Tx:=taken.take 14
def Wu:Tx:= [115,97,121]
theorem WQ (t):t∈taken↔t∈taken14\/t=Wu:=by
 have:taken=taken14++ [Wu]:=rfl
 rw [this,Ad2,Ab5]
structure Nm (ts:List Tx):Prop where
 nd:ts.Nodup
 good: ∀t∈ts,GoodN t
theorem Nm.snoc (h:Nm ts)(hg:GoodN t) (hn:t∉ts):Nm (ts++ [t]):=by
 refine⟨?_,λx hx=> ?_⟩
 ·rw [List.nodup_append]
  refine⟨h.nd,by simp,?_⟩
  intro a ha b hb e
  rw [Ab5]at hb
  subst hb
  subst e
  exact hn ha
 ·rcases Ad2.mp hx with hx | hx
  ·exact h.good x hx
  ·rw [Ab5]at hx
   exact hx▸hg
noncomputable abbrev wv (s a b:W) (ts:List Tx) (x6 x7 x8 x9:Option W):Sl:= [y0 s,y0 a,y0 b,y0 (.v (.str L26)),y0 (.v (.lst (taken14.map .str))),y0 (.own ((Wu::ts).map .str)),x6,x7,x8,x9]
theorem zce (P:PH h) (hr:r<h.length) (hn:n<=8):
 ∃cs:List Nat,∃h',cs.length=n/\(∀ c∈cs,97<=c/\c<=122)/\PH h'/\h'.length=h.length ∧
  eval (v8 (k+1)) je (wv s a b ts (y0 (.v (.ref r))) (y0 (.v (.int (n:Int)))) x8 x9) h= .ok (.own ((cs.map λc=> [c]).map .str)) h':=by
 obtain⟨ys,h',e,⟨P',l'⟩,ly,hy⟩:=xaA (F:=(v8 (k+1))) (tg:= [0]) (one:=true) (k:=1) (cap:= [3,6]) (it:= .range1 (.var 7)) (elt:= .ix (.var 1) (.call "_law_next" (.cons (.var 2) (.cons (.int 26) .nil)))) (τ:=wv s a b ts (some (.v (.ref r))) (some (.v (.int n))) x8 x9)
  (I:=λh'=>PH h'/\h'.length=h.length) (Q:=λy=> ∃c,(97<=c/\c<=122)/\y= .str [c]) (Wq (m:=n) (by simp_all []) (by omega)) (by simp;rw [Gc];omega) ⟨P,rfl⟩ (λd hd h1 ⟨P1,l1⟩=>by
    obtain⟨v,h2,hv,P2,l2,e2⟩:=jg k P1 (show r<h1.length by omega) (show 0<26 by decide) (by decide)
    have e2:call prog (k+1) "_law_next" [.v (.ref r),.v (.int 26)] h1= .ok (.v (.int v)) h2:=e2
    refine⟨[y0 (.v d),y0 (.v (.str L26)),y0 (.v (.ref r))],rfl,.v (.str [97+v]),.str [97+v],h2,?_,rfl,⟨P2,by omega⟩,97+v,by omega,rfl⟩
    simp only [eval,Gi,Gn,Gm,R.bind_ok,Ac,Af6,W.arg_v,e2,Xk v hv h2,R.of_some])
 obtain⟨cs,e1,hc⟩:=JX hy
 refine⟨cs,h',?_,hc,P',l',?_⟩
 ·have:ys.length=cs.length:=by rw [e1];simp
  rw [← this,ly]
  simp
 ·rw [je,e,e1]
theorem qcf (ht:t.length<=8):
 eval F Jg (wv s a b ts x6 x7 (y0 (.v (.str t))) x9) h= .ok (.own ((L26.map λc=>t.take 7++ [c]).map .str)) h:=by
 have tL:t.length<=LIM:=by rw [Gc];omega
 rw [Jg,jo (ds:=chs L26) (λd=>match d with | .str u=> .str (t.take 7++u) | d=>d) (by simp_all []) (by rw [Gc];decide)]
 ·simp [chs]
 ·intro d hd
  obtain⟨c,hc,rfl⟩:=Ae3.mp hd
  refine⟨[y0 (.v (.str [c])),y0 (.v (.str t))],rfl,.v (.str (t.take 7++ [c])),?_,rfl⟩
  have e1:slD (.v (.str t)) k9 (y0 7) h= .ok (.v (.str (t.take 7))) h:=by
   rw [WA _ _ _ _ tL]
   exact congrArg (λx=>R.ok (W.v (D.str x)) h) (xL t 7)
  simp only [eval,Gn,Gm,R.bind_ok,R.of_some,int?_int,e1]
  exact add_str _ _ h (by simp;omega)
theorem JT (ts) (h) (hl:ts.length<=100):GZ .add (.v (.lst (taken14.map .str))) (.bor ((Wu::ts).map .str)) h= .ok (.own ((taken14++Wu::ts).map .str)) h:=by
 rw [jb3,if_pos (by rw [Gc];simp [taken14,taken];omega),Ae5]
theorem jck {us:List Tx}(hl:ts.length<=100) (hu:us.length<=100):
 eval F ze (wv s a b ts x6 x7 x8 (y0 (.v (.lst (us.map .str))))) h= .ok (.own ((us.filter λu=> !k8 (u∈taken14++Wu::ts)).map .str)) h:=by
 rw [ze,zbh (ds:=us.map .str) (λd=>match d with | .str u=>if u∈taken14++Wu::ts then k9 else y0 (.str u) | _=>k9) (by simp_all []) (by rw [Gc];simp;omega)]
 ·congr 2
  rw [List.filterMap_map]
  induction us with
  | nil=>rfl
  | cons u us ih=>
   by_cases q:u∈taken14++Wu::ts
   ·rw [List.filterMap_cons_none (by simp only [Function.comp,q,if_true]),List.filter_cons_of_neg (by simp only [q,Bool.not_true];simp)]
    exact ih (by simp at hu;omega)
   ·rw [List.filterMap_cons_some (b:= .str u) (by simp only [Function.comp,q,if_false]),List.filter_cons_of_pos (by simp only [q,decide_false,Ak9]),Ac,ih (by simp at hu;omega)]
 ·intro d hd
  obtain⟨u,_,rfl⟩:=Ae3.mp hd
  refine⟨[y0 (.v (.str u)),y0 (.v (.lst (taken14.map .str))),y0 (.bor ((Wu::ts).map .str))], !k8 (u∈taken14++Wu::ts),rfl,?_,?_⟩
  ·simp only [Gp,eval,Gn,Gm,R.bind_ok,JT ts h hl,Gz,Zr u (taken14++Wu::ts) (.own ((taken14++Wu::ts).map .str)) h rfl rfl,Ag,R.of_some,Gk]
  ·by_cases q:u∈taken14++Wu::ts
   ·simp only [q,decide_true,Bool.not_true,Af7,if_false,if_true]
   ·simp only [q,decide_false,Ak9,if_true,if_false]
    exact⟨_,_,rfl,rfl,rfl⟩
theorem Q5 {t:Tx}(hl:ts.length<=7): ∃c r,(97<=c/\c<=122)/\t.take 7++ [c]∉taken14++Wu::ts/\((L26.map λc=>t.take 7++ [c]).filter λu=> !k8 (u∈taken14++Wu::ts))=(t.take 7++ [c])::r:=by
 cases q:((L26.map λc=>t.take 7++ [c]).filter λu=> !k8 (u∈taken14++Wu::ts))with
 | nil=>
  have h1:=List.filter_eq_nil_iff.mp q
  have h2:=λu hu=>by
   by_cases q2:u∈taken14++Wu::ts
   ·exact q2
   ·exact absurd (by simp only [q2,decide_false,Ak9]) (h1 u hu)
  have h3:(L26.map λc=>t.take 7++ [c]).Nodup:=by
   rw [List.Nodup,Al7]
   refine Al6.imp ?_ (show L26.Pairwise (· ≠ ·)by decide)
   intro x y ne e
   simp only [List.append_cancel_left_eq,List.cons.injEq,and_true]at e
   exact ne e
  have h4:=qJ _ _ h3 h2
  simp [taken14,taken]at h4
  omega
 | cons u r=>
  have hu:u∈((L26.map λc=>t.take 7++ [c]).filter λu=> !k8 (u∈taken14++Wu::ts)):=by rw [q];exact Aa8
  rw [List.mem_filter]at hu
  obtain⟨c,hc,e⟩:=Ae3.mp hu.1
  have h97: ∀c∈L26,97<=c/\c<=122:=by decide
  refine⟨c,r,h97 c hc,?_,by rw [e]⟩
  rw [e]
  simpa using hu.2
theorem Jt (x) (r:List α):atI (x::r) 0=y0 x:=by
 have: 0< (x::r).length:=by simp
 simp [atI,ixN,this]
theorem xax (P:PH h) (hr:r<h.length) (N:Nm ts) (hl:ts.length<=7):
 ∃t y7 y8 y9 h',Nm (ts++ [t])/\PH h'/\h'.length=h.length ∧
  execs (v8 (k+1)) wc (wv s a b ts (y0 (.v (.ref r))) x7 x8 x9) h= .next (wv s a b (ts++ [t]) (y0 (.v (.ref r))) y7 y8 y9) h':=by
 obtain⟨v,h1,hv,P1,l1,e1⟩:=jg k P hr (show 0<8 by decide) (by decide)
 have e1:call prog (k+1) "_law_next" [.v (.ref r),.v (.int 8)] h= .ok (.v (.int (v:Int))) h1:=e1
 have a1:Gf .add 1 (v:Int)=y0 ((1+v:Nat):Int):=ZC 1 v
 obtain⟨cs,h2,lc,hc,P2,l2,e2⟩:=zce (k:=k) (s:=s) (a:=a) (b:=b) (ts:=ts) (x8:=x8) (x9:=x9) (n:=1+v) P1 (show r<h1.length by omega) (by omega)
 have lf: ∀t:Tx,t.length<=8->(∀ c∈t,97<=c/\c<=122)->1<=t.length->t∉taken14++Wu::ts->Nm (ts++ [t]):=λt h8 hcs h1 hf=>by
  refine N.snoc ⟨h1,h8,hcs,λht=>hf ?_⟩ λht=>hf ?_
  ·rcases (WQ t).mp ht with q | q
   ·exact Ag0 _ q
   ·exact Ab1 _ (q▸Aa8)
  ·exact Ab1 _ (Aa7 _ ht)
 have lm:((Wu::ts).map D.str).length<LIM:=by rw [Gc];simp;omega
 simp only [wc]
 rw [za (τ1:=wv s a b ts (y0 (.v (.ref r))) (y0 (.v (.int ((1+v:Nat):Int)))) x8 x9) (h1:=h1) (by simp_all [e1,a1];rfl)]
 have jl:cs.length<=LIM/\(cs.map λc=> [c]).length<=LIM/\([]:Tx).length<=LIM:=by
  rw [Ac4,Gc];exact⟨by omega,by omega,Ae7 _⟩
 have e2':exec (v8 (k+1)) (.setf 8 (.meth .join (.str []) (.cons je .nil))) (wv s a b ts (y0 (.v (.ref r))) (y0 (.v (.int ((1+v:Nat):Int)))) x8 x9) h1= .next (wv s a b ts (y0 (.v (.ref r))) (y0 (.v (.int ((1+v:Nat):Int)))) (y0 (.v (.str cs))) x9) h2:=by
  simp only [exec,eval,Gi,R.bind_ok,zbL,if_true,e2,zbC,W.str?,R.of_some,W.lst_own,Ad6,Xt,jbI,if_pos jl,R.toO_ok,W.d_v,Kg]
 rw [za e2']
 have tst:Gp (v8 (k+1)) (.cmp .mem (.var 8) (.bin .add (.var 4) (.var 5))) (wv s a b ts (y0 (.v (.ref r))) (y0 (.v (.int ((1+v:Nat):Int)))) (y0 (.v (.str cs))) x9) h2= .ok (k8 (cs∈taken14++Wu::ts)) h2:=by
  simp only [Gp,eval,Gn,Gm,R.bind_ok,JT ts h2 (by omega),Gz,Zr cs (taken14++Wu::ts) (.own ((taken14++Wu::ts).map .str)) h2 rfl rfl,R.of_some,Gk]
 by_cases q:cs∈taken14++Wu::ts
 ·rw [decide_eq_true q]at tst
  obtain⟨c,rr,hcc,hf,ef⟩:=Q5 (ts:=ts) (t:=cs) hl
  obtain⟨U,hU⟩: ∃U,U=L26.map λc=>cs.take 7++ [c]:=⟨_,rfl⟩
  rw [← hU]at ef
  have lU:U.length<=100:=by rw [hU];simp
  have eU:=qcf (F:=(v8 (k+1))) (s:=s) (a:=a) (b:=b) (ts:=ts) (x6:=y0 (.v (.ref r))) (x7:=y0 (.v (.int ((1+v:Nat):Int)))) (x9:=x9) (h:=h2) (t:=cs) (by omega)
  rw [← hU]at eU
  have i0:exec (v8 (k+1)) (.setf 8 (.ix ze (.int 0))) (wv s a b ts (y0 (.v (.ref r))) (y0 (.v (.int ((1+v:Nat):Int)))) (y0 (.v (.str cs))) (y0 (.v (.lst (U.map .str))))) h2= .next (wv s a b ts (y0 (.v (.ref r))) (y0 (.v (.int ((1+v:Nat):Int)))) (y0 (.v (.str (cs.take 7++ [c])))) (y0 (.v (.lst (U.map .str))))) h2:=by
   simp only [exec,eval,jck (F:=(v8 (k+1))) (s:=s) (a:=a) (b:=b) (x6:=y0 (.v (.ref r))) (x7:=y0 (.v (.int ((1+v:Nat):Int)))) (x8:=y0 (.v (.str cs))) (h:=h2) (ts:=ts) (us:=U) (by omega) lU,ef,R.bind_ok,Wr,Ac,Jt,R.of_some,R.toO_ok,W.d_v,Kg]<;>rfl
  refine⟨cs.take 7++ [c],y0 (.v (.int ((1+v:Nat):Int))),y0 (.v (.str (cs.take 7++ [c]))),y0 (.v (.lst (U.map .str))),h2,lf _ (by simp;omega) (λx hx=> ?_) (by simp) hf,P2,by omega,?_⟩
  ·rcases Ad2.mp hx with hx | hx
   ·exact hc x (Ai4 hx)
   ·rw [Ab5]at hx;exact hx▸hcc
  ·rw [za (τ1:=wv s a b ts (y0 (.v (.ref r))) (y0 (.v (.int ((1+v:Nat):Int)))) (y0 (.v (.str (cs.take 7++ [c])))) (y0 (.v (.lst (U.map .str))))) (h1:=h2)]
   ·simp only [execs,exec,Gm,eval,Gn,R.toO_ok,W.d_v,lm,if_true,Kg,O.seq_next]
    simp [wv]
   ·rw [Wo tst,za (τ1:=wv s a b ts (y0 (.v (.ref r))) (y0 (.v (.int ((1+v:Nat):Int)))) (y0 (.v (.str cs))) (y0 (.v (.lst (U.map .str))))) (h1:=h2) (by simp only [exec,eU,R.toO_ok,W.d_own,Kg]),za i0]
    rfl
 ·rw [decide_eq_false q]at tst
  refine⟨cs,y0 (.v (.int ((1+v:Nat):Int))),y0 (.v (.str cs)),x9,h2,lf cs (by omega) hc (by omega) q,P2,by omega,?_⟩
  rw [za ((QN tst).trans rfl)]
  simp only [execs,exec,Gm,eval,Gn,R.toO_ok,W.d_v,lm,if_true,Kg,O.seq_next]
  simp [wv]
theorem xa2 : ∀(rs:List Nat) ts x6 x7 x8 x9 h,PH h->(∀ r∈rs,r<h.length)->Nm ts->ts.length+rs.length<=8-> ∃us y6 y7 y8 y9 h',Nm us/\us.length=ts.length+rs.length/\PH h'/\h'.length=h.length ∧
 Kf (GQ [6] v9) (λτ h=>execs (v8 (k+1)) wc τ h) (rs.map .ref) (wv s a b ts x6 x7 x8 x9) h= .next (wv s a b us y6 y7 y8 y9) h'
 | [],ts,x6,x7,x8,x9,h,P,hr,N,hl=>⟨ts,x6,x7,x8,x9,h,N,by simp,P,rfl,rfl⟩
 | r::rs,ts,x6,x7,x8,x9,h,P,hr,N,hl=>by
  simp only [Aa4]at hl
  obtain⟨t,y7,y8,y9,h1,N1,P1,l1,e1⟩:=xax P (hr r Aa8) N (by omega)
  obtain⟨us,z6,z7,z8,z9,h2,N2,l2,P2,l3,e2⟩:=xa2 rs (ts++ [t]) (y0 (.v (.ref r))) y7 y8 y9 h1 P1 (λq hq=>by have:=hr q (Aa7 _ hq);omega) N1 (by simp;omega)
  refine⟨us,z6,z7,z8,z9,h2,N2,by simp at l2 ⊢;omega,P2,by omega,?_⟩
  rw [Ac,Qo rfl e1,e2]
theorem WT (n r):(Aa0 n [D.ref r]).flatten=(Aa0 n r).map .ref:=by
 induction n with
 | zero=>rfl
 | succ n ih=>rw [Ac8,Af2,ih];rfl
theorem zak (xs) (n:Nat) (h) (hn:n<=1000) (hl:xs.length*n<=1000000):GZ .mul (.own xs) (.v (.int (n:Int))) h= .ok (.own (Aa0 n xs).flatten) h:=by
 show Pa xs n h=_
 rw [Pa,if_pos ⟨by omega,by omega,by rw [Ag3,Gc];exact hl⟩,Ag3]
theorem zbq (hk:Gg xs=v9) (hn:n<=h.length): ∃h',Gw n (.ret (.own xs) h)= .ok (.own xs) h'/\h'=h.take n:=by
 by_cases q:h.length=n
 ·exact⟨h,by simp [Gw,fin,q],by rw [← q,Ai2]⟩
 ·exact⟨h.take n,by simp [Gw,fin,q,W.keep,hk],rfl⟩
theorem xbS (hk:Gr d=v9) (hn:n<=h.length): ∃h',Gw n (.ret (.v d) h)= .ok (.v d) h'/\h'=h.take n:=by
 by_cases q:h.length=n
 ·exact⟨h,by simp [Gw,fin,q],by rw [← q,Ai2]⟩
 ·exact⟨h.take n,by simp [Gw,fin,q,W.keep,hk],rfl⟩
theorem wq: ∀ts:List Tx,Gg (ts.map .str)=v9
 | []=>rfl
 | t::ts=>by simp [wq ts]
theorem Jk (e1:Gi F es τ h= .ok ws h) (e2:F.call f (ws.map W.arg) h= .ok (.own xs) h) (e3:Gg xs=v9):eval F (.share (.call f es)) τ h= .ok (.v (.ref h.length)) (h++ [.lst xs]):=by
 simp only [eval,e1,R.bind_ok,e2,e3,if_true]
theorem ZQ (k) (ns) (hs:ns.length<=63) (K T) (hK:K<=4) (hT:T<=4) (h:AH) (P:PH h): ∃ts h',Nm ts/\ts.length=K+T/\PH h'/\h'.length=h.length ∧
 call prog (k+3) "_law_any_names" [scD ns,.v (.int (K:Int)),.v (.int (T:Int))] h= .ok (.own (ts.map .str)) h':=by
 rw [Gb (d:=GG) rfl _ _ _ rfl]
 obtain⟨a1,f1,g1,e1⟩:=xx k ns hs 1 h
 obtain⟨a2,f2,g2,e2⟩:=xx k ns hs 2 (h++ [.lst [.int a1,.int f1,.int g1]])
 have P1:=P.app a1 f1 g1
 have P2:=P1.app a2 f2 g2
 obtain⟨us,y6,y7,y8,y9,h',N,lu,P3,l3,e3⟩:=xa2 (k:=k+1) (s:=scD ns) (a:= .v (.int (K:Int))) (b:= .v (.int (T:Int))) (Aa0 K h.length++Aa0 T (h.length+1)) [] k9 k9 k9 k9 (h++ [.lst [.int a1,.int f1,.int g1]]++ [.lst [.int a2,.int f2,.int g2]]) P2 (λr hr=>by
  rw [Aa1,Aa1]
  rcases Ad2.mp hr with q | q
  ·rw [(Aj.mp q).2];simp;omega
  ·rw [(Aj.mp q).2];simp) ⟨List.nodup_nil,λ_ h=>absurd h Aa2⟩ (by simp;omega)
 simp only [Aa1,Ae1,Ag8,Nat.zero_add]at lu
 have k1:call prog (k+2) "_law_purse" [scD ns,.v (.int 1)] h= .ok (.own [.int a1,.int f1,.int g1]) h:=e1
 have k2:call prog (k+2) "_law_purse" [scD ns,.v (.int 2)] (h++ [.lst [.int a1,.int f1,.int g1]])= .ok (.own [.int a2,.int f2,.int g2]) (h++ [.lst [.int a1,.int f1,.int g1]]):=e2
 obtain⟨h4,e4,t4⟩:=zbq (xs:=us.map .str) (n:=h.length) (h:=h') (wq us) (by rw [l3,Aa1,Aa1];omega)
 refine⟨us,h4,N,lu,t4▸P3.take _,by rw [t4,Ad7,l3,Aa1,Aa1];omega,?_⟩
 simp only [GG]
 show Gw _ (execs _ _ [y0 (scD ns),y0 (.v (.int (K:Int))),y0 (.v (.int (T:Int))),k9,k9,k9,k9,k9,k9,k9] h)=_
 rw [za (τ1:= [y0 (scD ns),y0 (.v (.int (K:Int))),y0 (.v (.int (T:Int))),y0 (.v (.str L26)),k9,k9,k9,k9,k9,k9]) (h1:=h) rfl]
 rw [za (τ1:= [y0 (scD ns),y0 (.v (.int (K:Int))),y0 (.v (.int (T:Int))),y0 (.v (.str L26)),y0 (.v (.lst (taken14.map .str))),k9,k9,k9,k9,k9]) (h1:=h) rfl]
 rw [za (τ1:=wv (scD ns) (.v (.int (K:Int))) (.v (.int (T:Int))) [] k9 k9 k9 k9) (h1:=h) rfl]
 have m1:GZ .mul (.own [.ref h.length]) (.v (.int (K:Int))) (h++ [.lst [.int a1,.int f1,.int g1]])= .ok (.own ((Aa0 K h.length).map .ref)) (h++ [.lst [.int a1,.int f1,.int g1]]):=by
  rw [zak _ _ _ (by omega) (by simp;omega),WT]
 have m2:GZ .mul (.own [.ref (h.length+1)]) (.v (.int (T:Int))) (h++ [.lst [.int a1,.int f1,.int g1]]++ [.lst [.int a2,.int f2,.int g2]])= .ok (.own ((Aa0 T (h.length+1)).map .ref)) (h++ [.lst [.int a1,.int f1,.int g1]]++ [.lst [.int a2,.int f2,.int g2]]):=by
  rw [zak _ _ _ (by omega) (by simp;omega),WT]
 have ll:(h++ [Cell.lst [.int a1,.int f1,.int g1]]).length=h.length+1:=by simp
 have fr:exec (v8 (k+2)) (.for [6] true (.seq (.bin .add (.bin .mul (.lst (.cons (.share (.call "_law_purse" (.cons (.var 0) (.cons (.int 1) .nil)))) .nil)) (.var 1)) (.bin .mul (.lst (.cons (.share (.call "_law_purse" (.cons (.var 0) (.cons (.int 2) .nil)))) .nil)) (.var 2)))) wc) (wv (scD ns) (.v (.int (K:Int))) (.v (.int (T:Int))) [] none none none none) h= .next (wv (scD ns) (.v (.int (K:Int))) (.v (.int (T:Int))) us y6 y7 y8 y9) h':=by
  have p1:=Jk (F:=(v8 (k+2))) (f:= "_law_purse") (es:= .cons (.var 0) (.cons (.int 1) .nil)) (τ:=wv (scD ns) (.v (.int (K:Int))) (.v (.int (T:Int))) [] none none none none) (h:=h) (ws:= [scD ns,.v (.int 1)]) (xs:= [D.int a1,D.int f1,D.int g1]) rfl k1 rfl
  have p2:=Jk (F:=(v8 (k+2))) (f:= "_law_purse") (es:= .cons (.var 0) (.cons (.int 2) .nil)) (τ:=wv (scD ns) (.v (.int (K:Int))) (.v (.int (T:Int))) [] none none none none) (h:=h++ [Cell.lst [D.int a1,D.int f1,D.int g1]]) (ws:= [scD ns,.v (.int 2)]) (xs:= [D.int a2,D.int f2,D.int g2]) rfl k2 rfl
  rw [ll]at p2
  rw [exec,G8]
  simp only [Kn]
  rw [eval,eval,eval,Gj,p1]
  simp only [R.bind_ok,W.d_v,R.of_some,Gj]
  rw [show eval (v8 (k+2)) (.var 1) (wv (scD ns) (.v (.int (K:Int))) (.v (.int (T:Int))) [] k9 k9 k9 k9) (h++ [.lst [.int a1,.int f1,.int g1]])= .ok (.v (.int (K:Int))) (h++ [.lst [.int a1,.int f1,.int g1]])from rfl,R.bind_ok,m1,R.bind_ok,eval,eval,Gj,p2]
  simp only [R.bind_ok,W.d_v,R.of_some,Gj]
  rw [show eval (v8 (k+2)) (.var 2) (wv (scD ns) (.v (.int (K:Int))) (.v (.int (T:Int))) [] k9 k9 k9 k9) (h++ [.lst [.int a1,.int f1,.int g1]]++ [.lst [.int a2,.int f2,.int g2]])= .ok (.v (.int (T:Int))) (h++ [.lst [.int a1,.int f1,.int g1]]++ [.lst [.int a2,.int f2,.int g2]])from rfl,R.bind_ok,m2,R.bind_ok,zal,if_pos (by rw [Gc];simp;omega),R.bind_ok,KF,R.of_some,R.toO_ok,←Ae5,e3]
 rw [za fr]
 rw [qa (w:= .own (us.map .str)) (h1:=h') ?_,e4]
 refine Qi rfl ?_
 have:=x0 ((Wu::us).map D.str) 1
 have h1:cut ((Wu::us).map D.str) (y0 1) k9=us.map .str:=this
 simp only [eval,Gn,Gm,R.bind_ok,int?_int,R.of_some,qbF,h1]
theorem wn (x): ∀ys:List Tx,(KI x ys).Perm (x::ys)
 | []=> .refl _
 | y::ys=>by
  unfold KI
  by_cases q:y<x
  ·rw [if_pos q]
   exact((wn x ys).cons y).trans (.swap x y ys)
  ·rw [if_neg q]
theorem Zf: ∀xs:List Tx,(GY xs).Perm xs
 | []=> .refl _
 | x::xs=>(wn x (GY xs)).trans ((Zf xs).cons x)
theorem Nm.perm (h:Nm a) (p:b.Perm a):Nm b:=⟨p.nodup_iff.mpr h.nd,λt ht=>h.good t (p.mem_iff.mp ht)⟩
theorem Nm.rev (h:Nm a):Nm a.reverse:=h.perm (List.reverse_perm a)
abbrev tsD (ts:List Tx):D:= .tup (ts.map .str)
abbrev wD (K T:List Tx):D:= .tup [tsD K,tsD T]
theorem jcA:Gf .pow 10 8=y0 ((100000000:Nat):Int):=by
 have:(0:Int)<=8/\ 8<=BP/\(10:Int).natAbs<N64:=by rw [K5,Kt];decide
 show(if _ then _ else _)=_
 rw [if_pos this]
 rfl
theorem jD (ts) (h) (hl:ts.length<64):biD .sorted [.own (ts.map .str)] h= .ok (.own ((GY ts).map .str)) h:=by
 show(R.of h ((y0 (ts.map D.str)).bind Kv)).bind _=_
 rw [Ad6,Xt,R.of_some,R.bind_ok,if_pos hl]
theorem qa7 (c) (h):Gz .eq (.v (.int (c % 2))) (.v (.int 1)) h=y0 (k8 (c % 2=1)):=Wt _ _ h
noncomputable abbrev woS (s:W) (r K T n:Nat) (ts:List Tx):Sl:= [y0 s,y0 (.v (.ref r)),y0 (.v (.int (K:Int))),y0 (.v (.int (T:Int))),y0 (.v (.int (n:Int))),y0 (.v (.lst (ts.map .str)))]
theorem zbu (k) (ns) (hs:ns.length<=63) (h) (P:PH h): ∃K T h',K.length<=4/\T.length<=4/\Nm (K++T)/\PH h'/\h'.length=h.length/\call prog (k+4) "_law_words" [scD ns] h= .ok (.v (wD K T)) h':=by
 rw [Gb (d:=GX) rfl _ _ _ rfl]
 obtain⟨a1,f1,g1,e1⟩:=xx (k+1) ns hs 0 h
 have e1:call prog (k+3) "_law_purse" [scD ns,.v (.int 0)] h= .ok (.own [.int a1,.int f1,.int g1]) h:=e1
 have P1:=P.app a1 f1 g1
 have l1:(h++ [Cell.lst [D.int a1,D.int f1,D.int g1]]).length=h.length+1:=by simp
 obtain⟨K,h2,hK,P2,l2,e2⟩:=jg (k+2) P1 (show h.length<(h++ [Cell.lst [D.int a1,D.int f1,D.int g1]]).length by omega) (show 0<5 by decide) (by decide)
 obtain⟨T,h3,hT,P3,l3,e3⟩:=jg (k+2) P2 (show h.length<h2.length by omega) (show 0<5 by decide) (by decide)
 obtain⟨n,h4,hn,P4,l4,e4⟩:=jg (k+2) P3 (show h.length<h3.length by omega) (show 0<100000000 by decide) (by decide)
 have e2:call prog (k+3) "_law_next" [.v (.ref h.length),.v (.int 5)] (h++ [Cell.lst [D.int a1,D.int f1,D.int g1]])= .ok (.v (.int (K:Int))) h2:=e2
 have e3:call prog (k+3) "_law_next" [.v (.ref h.length),.v (.int 5)] h2= .ok (.v (.int (T:Int))) h3:=e3
 obtain⟨fs,lf,nf,gf,e5⟩:=qaJ (k+2) (n / 2) (K+T) h4 (by omega)
 obtain⟨c0,e6⟩:=X3 (k+2) ns hs 0 h4
 have e6:call prog (k+3) "_law_cell" [scD ns,.v (.int 0)] h4= .ok (.v (.int c0)) h4:=e6
 obtain⟨as,h5,Na,la,P5,l5,e7⟩:=ZQ k ns hs K T (by omega) (by omega) h4 P4
 have d1:Gf .fdiv (n:Int) 2=y0 ((n / 2:Nat):Int):=jI n 2 (by decide) (by decide)
 have d2:Gf .mod (n:Int) 2=y0 ((n % 2:Nat):Int):=JG n 2 (by decide)
 have d3:Gf .mod c0 2=y0 (c0 % 2):=Qm _ _ (by decide)
 have d4:=ZC K T
 have q1:Gz .eq (.v (.int ((n % 2:Nat):Int))) (.v (.int 1)) h4=y0 (k8 (n % 2=1)):=Zg (n % 2) 1 h4
 simp only [GX]
 show ∃K T h',_/\_/\_/\_/\_/\Gw _ (execs _ _ [y0 (scD ns),k9,k9,k9,k9,k9] h)=_
 have p1:=Jk (F:=(v8 (k+3))) (f:= "_law_purse") (es:= .cons (.var 0) (.cons (.int 0) .nil)) (τ:= [some (scD ns),none,none,none,none,none]) (h:=h) (ws:= [scD ns,.v (.int 0)]) (xs:= [D.int a1,D.int f1,D.int g1]) rfl e1 rfl
 rw [za (τ1:= [y0 (scD ns),y0 (.v (.ref h.length)),k9,k9,k9,k9]) (h1:=h++ [Cell.lst [D.int a1,D.int f1,D.int g1]]) (by rw [exec,p1];rfl)]
 rw [za (τ1:= [y0 (scD ns),y0 (.v (.ref h.length)),y0 (.v (.int (K:Int))),k9,k9,k9]) (h1:=h2) (by simp_all [e2])]
 rw [za (τ1:= [y0 (scD ns),y0 (.v (.ref h.length)),y0 (.v (.int (K:Int))),y0 (.v (.int (T:Int))),k9,k9]) (h1:=h3) (by simp_all [e3])]
 rw [za (τ1:= [y0 (scD ns),y0 (.v (.ref h.length)),y0 (.v (.int (K:Int))),y0 (.v (.int (T:Int))),y0 (.v (.int (n:Int))),k9]) (h1:=h4) (by simp_all [jcA,e4])]
 rw [za (τ1:=woS (scD ns) h.length K T n fs) (h1:=h4) (by simp_all [d1,d4,e5])]
 have b1: ∃ts:List Tx,Nm ts/\ts.length=K+T/\exec (v8 (k+3)) (.iff (.cmp .eq (.bin .mod (.var 4) (.int 2)) (.int 1)) (.cons (.setf 5 (.rev (.var 5))) .nil) .nil) (woS (scD ns) h.length K T n fs) h4= .next (woS (scD ns) h.length K T n ts) h4:=by
  by_cases q:n % 2=1
  ·refine⟨fs.reverse,Nm.rev ⟨nf,gf⟩,by simp [lf],?_⟩
   rw [Wo (h1:=h4) (by simp_all [d2,q1,decide_eq_true q])]
   simp_all [W.lst_v]
   rw [← List.map_reverse]
  ·refine⟨fs,⟨nf,gf⟩,lf,?_⟩
   rw [QN (h1:=h4) (by simp_all [d2,q1,decide_eq_false q])]
   rfl
 obtain⟨ts,Nt,lt,eb⟩:=b1
 rw [za eb]
 have b2: ∃us h6,Nm us/\us.length=K+T/\PH h6/\h6.length=h4.length/\exec (v8 (k+3)) (.iff (.cmp .eq (.bin .mod (.call "_law_cell" (.cons (.var 0) (.cons (.int 0) .nil))) (.int 2)) (.int 1)) (.cons (.setf 5 (.call "_law_any_names" (.cons (.var 0) (.cons (.var 2) (.cons (.var 3) .nil))))) .nil) .nil) (woS (scD ns) h.length K T n ts) h4= .next (woS (scD ns) h.length K T n us) h6:=by
  by_cases q:c0 % 2=1
  ·refine⟨as,h5,Na,la,P5,l5,?_⟩
   rw [Wo (h1:=h4) (by simp only [scD]at e6;simp_all [e6,d3,qa7,decide_eq_true q])]
   simp only [scD]at e7
   simp_all [e7]
  ·refine⟨ts,h4,Nt,lt,P4,rfl,?_⟩
   rw [QN (h1:=h4) (by simp only [scD]at e6;simp_all [e6,d3,qa7,decide_eq_false q])]
   rfl
 obtain⟨us,h6,Nu,lu,P6,l6,ec⟩:=b2
 rw [za ec]
 have lt1:(us.take K).length=K:=by rw [Ad7];omega
 have lt2:(us.drop K).length=T:=by rw [Ag4];omega
 have pm:(GY (us.take K)++GY (us.drop K)).Perm us:=by
  have:=(Zf (us.take K)).append (Zf (us.drop K))
  rwa [List.take_append_drop]at this
 have nr:Gr (wD (GY (us.take K)) (GY (us.drop K)))=true:=by simp [wq]
 obtain⟨h7,e7',t7⟩:=xbS (d:=wD (GY (us.take K)) (GY (us.drop K))) (n:=h.length) (h:=h6) nr (by omega)
 refine⟨GY (us.take K),GY (us.drop K),h7,?_,?_,Nu.perm pm,t7▸P6.take _,by rw [t7,Ad7];omega,?_⟩
 ·rw [(Zf _).length_eq];omega
 ·rw [(Zf _).length_eq];omega
 rw [qa (w:= .v (wD (GY (us.take K)) (GY (us.drop K)))) (h1:=h6) ?_,e7']
 refine Je rfl ?_
 have c1:cut (us.map D.str) k9 (y0 (K:Int))=(us.take K).map .str:=by rw [xL,List.map_take]
 have c2:cut (us.map D.str) (y0 (K:Int)) k9=(us.drop K).map .str:=by rw [x0,List.map_drop]
 have s1:=jD (us.take K) h6 (by omega)
 have s2:=jD (us.drop K) h6 (by omega)
 simp only [eval,Gj,Gi,Gn,Gm,R.bind_ok,int?_int,R.of_some,qaX,c1,c2,s1,s2,zap,W.d_v]
inductive Ex where
 | name (t:Tx)
 | same
 | all
 | none
 | turned (a:Ex)
 | closed (a:Ex)
 | plus (a b:Ex)
 | less (a b:Ex)
 | both (a b:Ex)
 | joined (a b:Ex)
abbrev wJ:Tx:= [110,97,109,101]
abbrev Qp:Tx:= [115,97,109,101]
abbrev XC:Tx:= [97,108,108]
abbrev xp:Tx:= [110,111,110,101]
abbrev zh:Tx:= [112,108,117,115]
abbrev zg:Tx:= [108,101,115,115]
abbrev Xp:Tx:= [98,111,116,104]
abbrev zf:Tx:= [106,111,105,110,101,100]
abbrev xb:Tx:= [116,117,114,110,101,100]
abbrev jb:Tx:= [99,108,111,115,101,100]
noncomputable def exD:Ex->D
 | .name t=> .tup [.str wJ,.str t]
 | .same=> .tup [.str Qp]
 | .all=> .tup [.str XC]
 | .none=> .tup [.str xp]
 | .turned a=> .tup [.str xb,exD a]
 | .closed a=> .tup [.str jb,exD a]
 | .plus a b=> .tup [.str zh,exD a,exD b]
 | .less a b=> .tup [.str zg,exD a,exD b]
 | .both a b=> .tup [.str Xp,exD a,exD b]
 | .joined a b=> .tup [.str zf,exD a,exD b]
noncomputable def Ex.wf (N:List Tx):Ex->Prop
 | .name t=>t∈N
 | .turned a=>a.wf N
 | .closed a=>a.wf N
 | .plus a b=>a.wf N/\b.wf N
 | .less a b=>a.wf N/\b.wf N
 | .both a b=>a.wf N/\b.wf N
 | .joined a b=>a.wf N/\b.wf N
 | _=>True
noncomputable def Ex.dp:Ex->Nat
 | .turned a=>a.dp+1
 | .closed a=>a.dp+1
 | .plus a b=>max a.dp b.dp+1
 | .less a b=>max a.dp b.dp+1
 | .both a b=>max a.dp b.dp+1
 | .joined a b=>max a.dp b.dp+1
 | _=>0
theorem xcm (N) (hN:N.length<=100) (h):eval F Xn [a,y0 (.v (tsD N)),x] h= .ok (.own (N.map λt=>exD (.name t))) h:=by
 rw [Xn,jo (ds:=N.map .str) (λd=> .tup [.str wJ,d]) (by simp_all []) (by rw [Gc];simp;omega)]
 ·simp [exD]
 ·intro d hd
  exact⟨[y0 (.v d)],rfl,_,rfl,rfl⟩
theorem xa3 (k r) (N) (hN:N.length<=100)(P:PH h) (hr:r<h.length): ∃e h',e.wf N/\e.dp=0/\PH h'/\h'.length=h.length/\call prog (k+2) "_law_leaf" [.v (.ref r),.v (tsD N)] h= .ok (.v (exD e)) h':=by
 obtain⟨v,h1,hv,P1,l1,e1⟩:=jg k P hr (show 0<N.length+3 by omega) (by omega)
 have hx: ∃e,Ex.wf N e/\e.dp=0/\((N.map λt=>exD (.name t))++ [exD .same,exD .all,exD .none])[v]? =y0 (exD e):=by
  by_cases q:v<N.length
  ·refine⟨.name N[v],Am0 q,rfl,?_⟩
   rw [Ac1 (by simpa using q),Ad4,Aa9 q]
   rfl
  ·rw [Ac5 (by simpa using Aj9.mp q),Ac4]
   have:v-N.length=0\/v-N.length=1\/v-N.length=2:=by omega
   rcases this with q | q | q<;>rw [q]
   ·exact⟨.same,trivial,rfl,rfl⟩
   ·exact⟨.all,trivial,rfl,rfl⟩
   ·exact⟨.none,trivial,rfl,rfl⟩
 obtain⟨e,we,de,ee⟩:=hx
 refine⟨e,h1,we,de,P1,l1,?_⟩
 have hl:((N.map λt=>exD (.name t))++ [exD .same,exD .all,exD .none]).length=N.length+3:=by simp
 have ea:=zo ((N.map λt=>exD (.name t))++ [exD .same,exD .all,exD .none]) v (by omega)
 rw [ee]at ea
 rw [Gb rfl _ _ _ rfl]
 simp only [Kj]
 show Gw _ (execs _ _ [y0 (.v (.ref r)),y0 (.v (tsD N)),k9] h)=_
 rw [za (τ1:= [y0 (.v (.ref r)),y0 (.v (tsD N)),y0 (.v (.lst ((N.map λt=>exD (.name t))++ [exD .same,exD .all,exD .none])))]) (h1:=h)]
 ·rw [qa (Je rfl ?_),Ga _ _ _ l1]
  simp_all [Q8,hl,e1,jad,ea]
 ·rw [exec,eval,xcm N hN h,R.bind_ok]
  simp only [eval,Gj,R.bind_ok,W.d_v,R.of_some,zal]
  rw [if_pos (by rw [Gc];simp;omega)]
  rfl
theorem xb1 (s:Nat) (h1:0<s) (h2:s<3): ∃f:Ex->Ex,(∀ a,(f a).dp=a.dp+1)/\(∀ N a,a.wf N->(f a).wf N)/\ ∃t,atI [D.str xb,.str jb] ((s:Int)-1)=y0 (.str t)/\ ∀a,exD (f a)= .tup [.str t,exD a]:=by
 match s,h1,h2 with
 | 1,_,_=>exact⟨.turned,λ_=>rfl,λ_ _ h=>h,xb,rfl,λ_=>rfl⟩
 | 2,_,_=>exact⟨.closed,λ_=>rfl,λ_ _ h=>h,jb,rfl,λ_=>rfl⟩
 | s+3,_,h=>exact absurd h (by omega)
theorem jbX (s:Nat) (h1:3<=s) (h2:s<9): ∃f:Ex->Ex->Ex,(∀ a b,(f a b).dp=max a.dp b.dp+1)/\(∀ N a b,a.wf N->b.wf N->(f a b).wf N)/\ ∃t,atI [D.str zh,.str zg,.str Xp,.str zf,.str zg,.str zf] ((s:Int)-3)=y0 (.str t)/\ ∀a b,exD (f a b)= .tup [.str t,exD a,exD b]:=by
 match s,h1,h2 with
 | 3,_,_=>exact⟨.plus,λ_ _=>rfl,λ_ _ _ h g=>⟨h,g⟩,zh,rfl,λ_ _=>rfl⟩
 | 4,_,_=>exact⟨.less,λ_ _=>rfl,λ_ _ _ h g=>⟨h,g⟩,zg,rfl,λ_ _=>rfl⟩
 | 5,_,_=>exact⟨.both,λ_ _=>rfl,λ_ _ _ h g=>⟨h,g⟩,Xp,rfl,λ_ _=>rfl⟩
 | 6,_,_=>exact⟨.joined,λ_ _=>rfl,λ_ _ _ h g=>⟨h,g⟩,zf,rfl,λ_ _=>rfl⟩
 | 7,_,_=>exact⟨.less,λ_ _=>rfl,λ_ _ _ h g=>⟨h,g⟩,zg,rfl,λ_ _=>rfl⟩
 | 8,_,_=>exact⟨.joined,λ_ _=>rfl,λ_ _ _ h g=>⟨h,g⟩,zf,rfl,λ_ _=>rfl⟩
 | s+9,_,h=>exact absurd h (by omega)
theorem Qj (r) (N) (hN:N.length<=100): ∀(d k:Nat) (h:AH),PH h->r<h.length-> ∃e h',e.wf N/\e.dp<=d/\PH h'/\h'.length=h.length/\call prog (k+d+3) "_law_expression" [.v (.ref r),.v (.int (d:Int)),.v (tsD N)] h= .ok (.v (exD e)) h'
 | 0,k,h,P,hr=>by
  obtain⟨e,h1,we,de,P1,l1,e1⟩:=xa3 k r N hN P hr
  refine⟨e,h1,we,Am de,P1,l1,?_⟩
  rw [Gb (d:=Gs) rfl _ _ _ rfl]
  have z:Gz .gt (.v (.int ((0:Nat):Int))) (.v (.int 0)) h=y0 false:=rfl
  have z2:Gz .eq (.v (.int 0)) (.v (.int 0)) h=y0 true:=Zg 0 0 h
  simp_all [Gs,z,z2,e1]
  rw [Ga _ _ _ l1]
 | d+1,k,h,P,hr=>by
  obtain⟨s,h1,hs,P1,l1,e1⟩:=jg (k+d+2) P hr (show 0<9 by decide) (by decide)
  have e1:call prog (k+d+3) "_law_next" [.v (.ref r),.v (.int 9)] h= .ok (.v (.int (s:Int))) h1:=e1
  have z:Gz .gt (.v (.int ((d+1:Nat):Int))) (.v (.int 0)) h=y0 true:=by
   rw [QV];congr 1;exact decide_eq_true (by omega)
  have z2: ∀h,Gz .eq (.v (.int (s:Int))) (.v (.int 0)) h=y0 (k8 (s=0)):=λh=>Zg s 0 h
  have zd:Gf .sub ((d+1:Nat):Int) 1=y0 (d:Int):=by rw [xk];congr 1;omega
  rw [show k+(d+1)+3=k+d+4 by omega,Gb (d:=Gs) rfl _ _ _ rfl]
  simp only [Gs]
  show ∃e h',_/\_/\_/\_/\Gw _ (execs _ _ [y0 (.v (.ref r)),y0 (.v (.int ((d+1:Nat):Int))),y0 (.v (tsD N)),k9,k9,k9] h)=_
  rw [za (τ1:= [y0 (.v (.ref r)),y0 (.v (.int ((d+1:Nat):Int))),y0 (.v (tsD N)),y0 (.v (.int 0)),k9,k9]) (h1:=h) rfl]
  rw [za (τ1:= [y0 (.v (.ref r)),y0 (.v (.int ((d+1:Nat):Int))),y0 (.v (tsD N)),y0 (.v (.int (s:Int))),k9,k9]) (h1:=h1) (by simp_all [z,e1])]
  by_cases q0:s=0
  ·obtain⟨e,h2,we,de,P2,l2,e2⟩:=xa3 (k+d+1) r N hN P1 (show r<h1.length by omega)
   refine⟨e,h2,we,by omega,P2,by omega,?_⟩
   rw [qa (w:= .v (exD e)) (h1:=h2) (by simp_all [z2,decide_eq_true q0,e2]),Ga _ _ _ (by omega)]
  ·obtain⟨a,h2,wa,da,P2,l2,e2⟩:=Qj r N hN d k h1 P1 (by omega)
   rw [za (τ1:= [y0 (.v (.ref r)),y0 (.v (.int ((d+1:Nat):Int))),y0 (.v (tsD N)),y0 (.v (.int (s:Int))),k9,k9]) (h1:=h1) (by simp_all [z2,decide_eq_false q0])]
   rw [za (τ1:= [y0 (.v (.ref r)),y0 (.v (.int ((d+1:Nat):Int))),y0 (.v (tsD N)),y0 (.v (.int (s:Int))),y0 (.v (exD a)),k9]) (h1:=h2) (by simp_all [zd,e2])]
   by_cases q3:s<3
   ·obtain⟨f,hd,hw,t,ht,he⟩:=xb1 s (by omega) q3
    have z3:Gz .lt (.v (.int (s:Int))) (.v (.int 3)) h2=y0 true:=by
     rw [Ql];congr 1;exact decide_eq_true (by omega)
    refine⟨f a,h2,hw N a wa,by rw [hd];omega,P2,by omega,?_⟩
    rw [qa (w:= .v (exD (f a))) (h1:=h2) (by simp_all [z3,xk,Wr,ht,he]),Ga _ _ _ (by omega)]
   ·obtain⟨f,hd,hw,t,ht,he⟩:=jbX s (by omega) hs
    obtain⟨b,h3,wb,db,P3,l3,e3⟩:=Qj r N hN d k h2 P2 (by omega)
    have z3:Gz .lt (.v (.int (s:Int))) (.v (.int 3)) h2=y0 false:=by
     rw [Ql];congr 1;exact decide_eq_false (by omega)
    refine⟨f a b,h3,hw N a b wa wb,by rw [hd];omega,P3,by omega,?_⟩
    rw [za (τ1:= [y0 (.v (.ref r)),y0 (.v (.int ((d+1:Nat):Int))),y0 (.v (tsD N)),y0 (.v (.int (s:Int))),y0 (.v (exD a)),k9]) (h1:=h2) (by simp_all [z3])]
    rw [za (τ1:= [y0 (.v (.ref r)),y0 (.v (.int ((d+1:Nat):Int))),y0 (.v (tsD N)),y0 (.v (.int (s:Int))),y0 (.v (exD a)),y0 (.v (exD b))]) (h1:=h3) (by simp_all [zd,e3])]
    rw [qa (w:= .v (exD (f a b))) (h1:=h3) (by simp_all [xk,Wr,ht,he]),Ga _ _ _ (by omega)]
noncomputable def exS:Ex->Tx
 | .name _=>wJ
 | .same=>Qp
 | .all=>XC
 | .none=>xp
 | .turned _=>xb
 | .closed _=>jb
 | .plus _ _=>zh
 | .less _ _=>zg
 | .both _ _=>Xp
 | .joined _ _=>zf
theorem Jl (s t) (h):Gz .eq (.v (.str s)) (.v (.str t)) h=y0 (s==t):=by simp [KH]
theorem Qt (t) (ts) (h):Gz .mem (.v (.str t)) (.v (tsD ts)) h=y0 (k8 (t∈ts)):=Zr t ts (.v (tsD ts)) h rfl rfl
theorem Ja (e:Gp F c τ h= .ok u9 h):execs F (.cons (.iff c a .nil) ss) τ h=execs F ss τ h:=za (QN e)
theorem qr (e:Gp F c τ h= .ok v9 h) (r:exec F s τ h= .ret w h):execs F (.cons (.iff c (.cons s .nil) .nil) ss) τ h= .ret w h:=qa ((Wo e).trans (qa r))
theorem jx (x y) (r:List D):atI (x::y::r) 1=y0 y:=by
 have:=zo (x::y::r) 1 (by simp)
 exact this
abbrev Wa:Tx:= [108,101,97,115,116]
abbrev Qb:Tx:= [109,111,115,116]
abbrev Jh:Tx:= [101,97,99,104,108,101,97,115,116]
abbrev jn:Tx:= [101,97,99,104,109,111,115,116]
abbrev jt:Tx:= [105,110]
abbrev Qd:Tx:= [101,113,117,97,108]
abbrev xf:Tx:= [115,111,109,101]
abbrev JD:Tx:= [110,111]
inductive Fc where
 | inn (a b:Ex)
 | equ (a b:Ex)
 | som (a:Ex)
 | non (a:Ex)
 | cnt (s:Tx) (k:Nat) (a:Ex)
noncomputable def fcD:Fc->D
 | .inn a b=> .tup [.str jt,exD a,exD b]
 | .equ a b=> .tup [.str Qd,exD a,exD b]
 | .som a=> .tup [.str xf,exD a]
 | .non a=> .tup [.str JD,exD a]
 | .cnt s k a=> .tup [.str s,.int (k:Int),exD a]
noncomputable def Fc.wf (N:List Tx):Fc->Prop
 | .inn a b=>a.wf N/\b.wf N
 | .equ a b=>a.wf N/\b.wf N
 | .som a=>a.wf N
 | .non a=>a.wf N
 | .cnt s k a=>(s∈ [Wa,Qb,Jh,jn]/\k<100)/\a.wf N
noncomputable def Fc.dp:Fc->Nat
 | .inn a b=>max a.dp b.dp
 | .equ a b=>max a.dp b.dp
 | .som a=>a.dp
 | .non a=>a.dp
 | .cnt _ _ a=>a.dp
theorem qck (x y:D):atI [x,y] 0=y0 x:=rfl
theorem zcj (x y:D):atI [x,y] 1=y0 y:=rfl
theorem jbE (s:Nat) (h4:4<=s) (h8:s<8): ∃t∈ [Wa,Qb,Jh,jn],atI [D.str Wa,.str Qb,.str Jh,.str jn] ((s:Int)-4)=y0 (.str t):=by
 match s,h4,h8 with
 | 4,_,_=>exact⟨Wa,by decide,rfl⟩
 | 5,_,_=>exact⟨Qb,by decide,rfl⟩
 | 6,_,_=>exact⟨Jh,by decide,rfl⟩
 | 7,_,_=>exact⟨jn,by decide,rfl⟩
 | s+8,_,h=>exact absurd h (by omega)
abbrev lfS (r:Nat) (N:List Tx) (x2 x3 x4:Option W):Sl:= [y0 (.v (.ref r)),y0 (.v (tsD N)),x2,x3,x4]
theorem zaX (k r) (N) (hN:N.length<=100)(P:PH h) (hr:r<h.length): ∃f h',Fc.wf N f/\f.dp<=4/\PH h'/\h'.length=h.length/\call prog (k+7) "_law_fact" [.v (.ref r),.v (tsD N)] h= .ok (.v (fcD f)) h':=by
 obtain⟨s,h1,hs,P1,l1,e1⟩:=jg (k+5) P hr (show 0<8 by decide) (by decide)
 have e1:call prog (k+6) "_law_next" [.v (.ref r),.v (.int 8)] h= .ok (.v (.int (s:Int))) h1:=e1
 obtain⟨d,h2,hd,P2,l2,e2⟩:=jg (k+5) P1 (show r<h1.length by omega) (show 0<4 by decide) (by decide)
 have e2:call prog (k+6) "_law_next" [.v (.ref r),.v (.int 4)] h1= .ok (.v (.int (d:Int))) h2:=e2
 obtain⟨a,h3,wa,da,P3,l3,e3⟩:=Qj r N hN d (k+3-d) h2 P2 (by omega)
 rw [show k+3-d+d+3=k+6 by omega]at e3
 rw [Gb (d:=Kd) rfl _ _ _ rfl]
 simp only [Kd]
 show ∃f h',_/\_/\_/\_/\Gw _ (execs _ _ (lfS r N k9 k9 k9) h)=_
 rw [za (τ1:=lfS r N (y0 (.v (.int (s:Int)))) k9 k9) (h1:=h1) (by simp_all [e1])]
 rw [za (τ1:=lfS r N (y0 (.v (.int (s:Int)))) (y0 (.v (exD a))) k9) (h1:=h3) (by simp_all [e2,e3])]
 by_cases q2:s<2
 ·obtain⟨c,h4,hc,P4,l4,e4⟩:=jg (k+5) P3 (show r<h3.length by omega) (show 0<3 by decide) (by decide)
  have e4:call prog (k+6) "_law_next" [.v (.ref r),.v (.int 3)] h3= .ok (.v (.int (c:Int))) h4:=e4
  obtain⟨b,h5,wb,db,P5,l5,e5⟩:=Qj r N hN c (k+3-c) h4 P4 (by omega)
  rw [show k+3-c+c+3=k+6 by omega]at e5
  have z:Gz .lt (.v (.int (s:Int))) (.v (.int 2)) h3=y0 true:=by
   rw [Ql];congr 1;exact decide_eq_true (by omega)
  obtain⟨f,wf,df,t,ht,hf⟩: ∃f:Fc,f.wf N/\f.dp<=4/\ ∃t,atI [D.str jt,.str Qd] (s:Int)=y0 (.str t)/\fcD f= .tup [.str t,exD a,exD b]:=by
   match s,q2 with
   | 0,_=>exact⟨.inn a b,⟨wa,wb⟩,by simp only [Fc.dp];omega,jt,rfl,rfl⟩
   | 1,_=>exact⟨.equ a b,⟨wa,wb⟩,by simp only [Fc.dp];omega,Qd,rfl,rfl⟩
   | s+2,h=>exact absurd h (by omega)
  refine⟨f,h5,wf,df,P5,by omega,?_⟩
  rw [qa (w:= .v (fcD f)) (h1:=h5) (by simp_all [z,Wr,ht,e4,e5,hf]),Ga _ _ _ (by omega)]
 rw [Ja (by
  have z:Gz .lt (.v (.int (s:Int))) (.v (.int 2)) h3=y0 false:=by
   rw [Ql];congr 1;exact decide_eq_false (by omega)
  simp_all [z])]
 by_cases q4:s<4
 ·have z:Gz .lt (.v (.int (s:Int))) (.v (.int 4)) h3=y0 true:=by
   rw [Ql];congr 1;exact decide_eq_true (by omega)
  obtain⟨f,wf,df,t,ht,hf⟩: ∃f:Fc,f.wf N/\f.dp<=4/\ ∃t,atI [D.str xf,.str JD] ((s:Int)-2)=y0 (.str t)/\fcD f= .tup [.str t,exD a]:=by
   match s,q2,q4 with
   | 0,h,_=>exact absurd h (by omega)
   | 1,h,_=>exact absurd h (by omega)
   | 2,_,_=>exact⟨.som a,wa,by simp only [Fc.dp];omega,xf,rfl,rfl⟩
   | 3,_,_=>exact⟨.non a,wa,by simp only [Fc.dp];omega,JD,rfl,rfl⟩
   | s+4,_,h=>exact absurd h (by omega)
  refine⟨f,h3,wf,df,P3,by omega,?_⟩
  rw [qa (w:= .v (fcD f)) (h1:=h3) (by simp_all [z,xk,Wr,ht,hf]),Ga _ _ _ (by omega)]
 rw [Ja (by
  have z:Gz .lt (.v (.int (s:Int))) (.v (.int 4)) h3=y0 false:=by
   rw [Ql];congr 1;exact decide_eq_false (by omega)
  simp_all [z])]
 obtain⟨c,h4,hc,P4,l4,e4⟩:=jg (k+5) P3 (show r<h3.length by omega) (show 0<3 by decide) (by decide)
 have e4:call prog (k+6) "_law_next" [.v (.ref r),.v (.int 3)] h3= .ok (.v (.int (c:Int))) h4:=e4
 obtain⟨u,hu,u0,ub⟩: ∃u:Nat,atI [D.int 5,.int 18,.int 100] (c:Int)=y0 (.int (u:Int))/\0<u/\u<=100:=by
  match c,hc with
  | 0,_=>exact⟨5,rfl,by decide,by decide⟩
  | 1,_=>exact⟨18,rfl,by decide,by decide⟩
  | 2,_=>exact⟨100,rfl,by decide,by decide⟩
  | c+3,h=>exact absurd h (by omega)
 obtain⟨j,h5,hj,P5,l5,e5⟩:=jg (k+5) P4 (show r<h4.length by omega) u0 (by omega)
 have e5:call prog (k+6) "_law_next" [.v (.ref r),.v (.int (u:Int))] h4= .ok (.v (.int (j:Int))) h5:=e5
 obtain⟨t,ht,et⟩:=jbE s (by omega) hs
 refine⟨.cnt t j a,h5,⟨⟨ht,by omega⟩,wa⟩,by simp only [Fc.dp];omega,P5,by omega,?_⟩
 rw [za (τ1:=lfS r N (y0 (.v (.int (s:Int)))) (y0 (.v (exD a))) (y0 (.v (.int (j:Int))))) (h1:=h5) (by simp_all [Wr,e4,hu,e5])]
 rw [qa (w:= .v (fcD (.cnt t j a))) (h1:=h5) (by simp_all [xk,Wr,et,fcD]),Ga _ _ _ (by omega)]
abbrev Qh:Tx:= [110,111,116]
abbrev xg:Tx:= [97,110,100]
abbrev Qs:Tx:= [111,114]
inductive Sy where
 | fact (f:Fc)
 | neg (a:Sy)
 | conj (a b:Sy)
 | disj (a b:Sy)
noncomputable def syD:Sy->D
 | .fact f=>fcD f
 | .neg a=> .tup [.str Qh,syD a]
 | .conj a b=> .tup [.str xg,syD a,syD b]
 | .disj a b=> .tup [.str Qs,syD a,syD b]
noncomputable def Sy.wf (N:List Tx):Sy->Prop
 | .fact f=>f.wf N
 | .neg a=>a.wf N
 | .conj a b=>a.wf N/\b.wf N
 | .disj a b=>a.wf N/\b.wf N
def Sy.dp:Sy->Nat
 | .fact f=>f.dp
 | .neg a=>a.dp+1
 | .conj a b=>max a.dp b.dp+1
 | .disj a b=>max a.dp b.dp+1
theorem xam (f) (wf:f.wf N): ∃s ds,fcD f= .tup (.str s::ds)/\(s==Qh)=u9/\(s==xg)=u9/\(s==Qs)=false:=by
 cases f with
 | inn a b=>exact⟨jt,_,rfl,rfl,rfl,rfl⟩
 | equ a b=>exact⟨Qd,_,rfl,rfl,rfl,rfl⟩
 | som a=>exact⟨xf,_,rfl,rfl,rfl,rfl⟩
 | non a=>exact⟨JD,_,rfl,rfl,rfl,rfl⟩
 | cnt s j a=>
  have: ∀s∈ [Wa,Qb,Jh,jn],(s==Qh)=u9/\(s==xg)=u9/\(s==Qs)=false:=by decide
  exact⟨s,_,rfl,this s wf.1.1⟩
abbrev lsS (r d:Nat) (N:List Tx) (x3 x4:Option W):Sl:= [y0 (.v (.ref r)),y0 (.v (.int (d:Int))),y0 (.v (tsD N)),x3,x4]
theorem qI (r:Nat) (N:List Tx) (hN:N.length<=100): ∀(d k:Nat) (h:AH),PH h->r<h.length-> ∃s h',Sy.wf N s/\s.dp<=d+4/\PH h'/\h'.length=h.length/\call prog (k+d+8) "_law_saying" [.v (.ref r),.v (.int (d:Int)),.v (tsD N)] h= .ok (.v (syD s)) h'
 | 0,k,h,P,hr=>by
  obtain⟨f,h1,wf,df,P1,l1,e1⟩:=zaX k r N hN P hr
  refine⟨.fact f,h1,wf,by simpa [Sy.dp]using df,P1,l1,?_⟩
  rw [Gb (d:=GD) rfl _ _ _ rfl]
  have z:Gz .gt (.v (.int ((0:Nat):Int))) (.v (.int 0)) h=y0 false:=rfl
  have z2:Gz .lt (.v (.int 0)) (.v (.int 3)) h=y0 true:=rfl
  have e1:call prog (k+0+7) "_law_fact" [.v (.ref r),.v (tsD N)] h= .ok (.v (fcD f)) h1:=e1
  simp_all [GD,z,z2,e1,syD]
  rw [Ga _ _ _ l1]
 | d+1,k,h,P,hr=>by
  obtain⟨s,h1,hs,P1,l1,e1⟩:=jg (k+d+7) P hr (show 0<6 by decide) (by decide)
  have e1:call prog (k+d+8) "_law_next" [.v (.ref r),.v (.int 6)] h= .ok (.v (.int (s:Int))) h1:=e1
  have z:Gz .gt (.v (.int ((d+1:Nat):Int))) (.v (.int 0)) h=y0 true:=by
   rw [QV];congr 1;exact decide_eq_true (by omega)
  have zd:Gf .sub ((d+1:Nat):Int) 1=y0 (d:Int):=by rw [xk];congr 1;omega
  rw [show k+(d+1)+8=k+d+9 by omega,Gb (d:=GD) rfl _ _ _ rfl]
  simp only [GD]
  show ∃e h',_/\_/\_/\_/\Gw _ (execs _ _ (lsS r (d+1) N k9 k9) h)=_
  rw [za (τ1:=lsS r (d+1) N (y0 (.v (.int 0))) k9) (h1:=h) rfl]
  rw [za (τ1:=lsS r (d+1) N (y0 (.v (.int (s:Int)))) k9) (h1:=h1) (by simp_all [z,e1])]
  by_cases q3:s<3
  ·obtain⟨f,h2,wf,df,P2,l2,e2⟩:=zaX (k+d+1) r N hN P1 (show r<h1.length by omega)
   have e2:call prog (k+d+8) "_law_fact" [.v (.ref r),.v (tsD N)] h1= .ok (.v (fcD f)) h2:=e2
   have z3:Gz .lt (.v (.int (s:Int))) (.v (.int 3)) h1=y0 true:=by
    rw [Ql];congr 1;exact decide_eq_true (by omega)
   refine⟨.fact f,h2,wf,by simp only [Sy.dp];omega,P2,by omega,?_⟩
   rw [qa (w:= .v (syD (.fact f))) (h1:=h2) (by simp_all [z3,e2,syD]),Ga _ _ _ (by omega)]
  ·obtain⟨a,h2,wa,da,P2,l2,e2⟩:=qI r N hN d k h1 P1 (by omega)
   rw [Ja (by
    have z3:Gz .lt (.v (.int (s:Int))) (.v (.int 3)) h1=y0 false:=by
     rw [Ql];congr 1;exact decide_eq_false (by omega)
    simp_all [z3])]
   rw [za (τ1:=lsS r (d+1) N (y0 (.v (.int (s:Int)))) (y0 (.v (syD a)))) (h1:=h2) (by simp_all [zd,e2])]
   have z4:Gz .eq (.v (.int (s:Int))) (.v (.int 3)) h2=y0 (k8 (s=3)):=Zg s 3 h2
   by_cases q4:s=3
   ·refine⟨.neg a,h2,wa,by simp only [Sy.dp];omega,P2,by omega,?_⟩
    rw [qa (w:= .v (syD (.neg a))) (h1:=h2) (by simp_all [z4,decide_eq_true q4,syD]),Ga _ _ _ (by omega)]
   ·obtain⟨b,h3,wb,db,P3,l3,e3⟩:=qI r N hN d k h2 P2 (by omega)
    obtain⟨f,wf,df,t,ht,hf⟩: ∃f:Sy,f.wf N/\f.dp<=d+1+4/\ ∃t,atI [D.str xg,.str Qs] ((s:Int)-4)=y0 (.str t)/\syD f= .tup [.str t,syD a,syD b]:=by
     have:s=4\/s=5:=by omega
     rcases this with rfl | rfl
     ·exact⟨.conj a b,⟨wa,wb⟩,by simp only [Sy.dp];omega,xg,rfl,rfl⟩
     ·exact⟨.disj a b,⟨wa,wb⟩,by simp only [Sy.dp];omega,Qs,rfl,rfl⟩
    refine⟨f,h3,wf,df,P3,by omega,?_⟩
    rw [Ja (by simp_all [z4,decide_eq_false q4])]
    rw [qa (w:= .v (syD f)) (h1:=h3) (by simp_all [xk,Wr,ht,zd,e3,hf]),Ga _ _ _ (by omega)]
def lvl:Ex->Nat
 | .plus _ _=>0
 | .less _ _=>0
 | .both _ _=>1
 | .joined _ _=>2
 | _=>3
def br (c:Bool) (o k:Nat) (t:Tx):Tx:=if c then o::(t++ [k])else t
noncomputable def bT:Ex->Tx
 | .name t=>t
 | .same=>Qp
 | .all=>XC
 | .none=>xp
 | .turned a=>126::br (k8 (lvl a<3)) 40 41 (bT a)
 | .closed a=>94::br (k8 (lvl a<3)) 40 41 (bT a)
 | .plus a b=>br (k8 (lvl a<0)) 40 41 (bT a)++(32::43::32::br (k8 (lvl b<1)) 40 41 (bT b))
 | .less a b=>br (k8 (lvl a<0)) 40 41 (bT a)++(32::45::32::br (k8 (lvl b<1)) 40 41 (bT b))
 | .both a b=>br (k8 (lvl a<1)) 40 41 (bT a)++(32::38::32::br (k8 (lvl b<2)) 40 41 (bT b))
 | .joined a b=>br (k8 (lvl a<2)) 40 41 (bT a)++(32::46::32::br (k8 (lvl b<3)) 40 41 (bT b))
theorem zj (c) (o k) (t):(br c o k t).length<=t.length+2:=by unfold br;split<;>simp
theorem Qn (c) (o k) (t):t.length<=(br c o k t).length:=by unfold br;split<;>simp<;>omega
theorem qaE (e:Ex): ∃ds,exD e= .tup (.str (exS e)::ds):=by cases e<;>exact⟨_,rfl⟩
theorem jaw (e:Ex):KO [([112,108,117,115],.int 1),([108,101,115,115],.int 1),([98,111,116,104],.int 2),([106,111,105,110,101,100],.int 3)] [.v (.str (exS e)),.v (.int 4)]=λh=>okv (.int ((lvl e:Int)+1)) h:=by
 funext h;cases e<;>rfl
theorem jaq (a l:Nat) (h:AH):Gz .lt (.v (.int ((a:Int)+1))) (.v (.int ((l:Int)+1))) h=y0 (k8 (a<l)):=by
 rw [Ql];congr 1;rw [decide_eq_decide];omega
theorem wu (a l:Nat) (h):Gz .lt (.v (.int (a:Int))) (.v (.int (l:Int))) h=y0 (k8 (a<l)):=by
 rw [Ql];congr 1;rw [decide_eq_decide];omega
theorem Z5 {m l:Nat}{e:Ex}{h:AH}(hl:(bT e).length<=900000) (ea:call prog m "shown_expression" [.v (exD e)] h= .ok (.v (.str (bT e))) h):
 call prog (m+1) "expression_of_rank" [.v (exD e),.v (.int ((l:Int)+1))] h= .ok (.v (.str (br (decide (lvl e<l)) 40 41 (bT e)))) h:=by
 obtain⟨ds,ed⟩:=qaE e
 rw [Gb (d:=Gv) rfl _ _ _ rfl]
 simp only [Gv]
 show Gw _ (execs _ _ [y0 (.v (exD e)),y0 (.v (.int ((l:Int)+1))),k9] h)=_
 rw [za (τ1:= [y0 (.v (exD e)),y0 (.v (.int ((l:Int)+1))),y0 (.v (.str (bT e)))]) (h1:=h) (by simp_all [ea])]
 have tg:eval (v8 m) (.tget "EXPRESSION_RANKS" (.cons (.ix (.var 0) (.int 0)) (.cons (.con "ATOM_RANK") .nil))) [some (.v (exD e)),some (.v (.int ((l:Int)+1))),some (.v (.str (bT e)))] h= .ok (.v (.int ((lvl e:Int)+1))) h:=by
  rw [eval,show(v8 m).con.lookup "EXPRESSION_RANKS" =some (.exc "" [([112,108,117,115],.int 1),([108,101,115,115],.int 1),([98,111,116,104],.int 2),([106,111,105,110,101,100],.int 3)])from rfl]
  have ew:Gi (v8 m) (.cons (.ix (.var 0) (.int 0)) (.cons (.con "ATOM_RANK") .nil)) [some (.v (exD e)),some (.v (.int ((l:Int)+1))),some (.v (.str (bT e)))] h= .ok [.v (.str (exS e)),.v (.int 4)] h:=by
   rw [ed]
   simp only [Gi,eval,Gn,Gm,R.bind_ok,ix_tup,Jt,R.of_some]
   rfl
  simp only [ew,R.bind_ok,jaw]
 have tt:Gp (v8 m) (.cmp .lt (.tget "EXPRESSION_RANKS" (.cons (.ix (.var 0) (.int 0)) (.cons (.con "ATOM_RANK") .nil))) (.var 1)) [some (.v (exD e)),some (.v (.int ((l:Int)+1))),some (.v (.str (bT e)))] h= .ok (decide (lvl e<l)) h:=by
  rw [Gp,eval,tg]
  simp only [R.bind_ok,eval,Gn,Gm,jaq,R.of_some,Gk]
 cases q:k8 (lvl e<l)with
 | true=>
  rw [q]at tt
  rw [qr tt (Je rfl (d:= .str (br v9 40 41 (bT e))) ?_),Ga _ _ _ rfl]
  rw [eval]
  simp only [wA,QA,Wm,Gm,Ad6,Jm,Ag,Xs]
  rw [if_pos (by rw [Gc];simp;omega)]
  rfl
 | false=>
  rw [q]at tt
  rw [Ja tt,qa (w:= .v (.str (bT e))) (h1:=h) rfl,Ga _ _ _ rfl]
  rfl
theorem XU:prog.con.lookup "ATOM_RANK" =some (.int 4):=rfl
section
variable {m:Nat}{h:AH}{a b:Ex}
theorem zb0 (s g) (hs:(s,g)∈ [(xb,([126]:Tx)),(jb,[94])]) (hl:(bT a).length<=800000) (ea: ∀l:Nat,call prog m "expression_of_rank" [.v (exD a),.v (.int ((l:Int)+1))] h= .ok (.v (.str (br (decide (lvl a<l)) 40 41 (bT a)))) h):
 call prog (m+1) "shown_expression" [.v (.tup [.str s,exD a])] h= .ok (.v (.str (g++br (decide (lvl a<3)) 40 41 (bT a)))) h:=by
 have e4:call prog m "expression_of_rank" [.v (exD a),.v (.int 4)] h= .ok (.v (.str (br (decide (lvl a<3)) 40 41 (bT a)))) h:=ea 3
 have b3:=zj (k8 (lvl a<3)) 40 41 (bT a)
 simp only [Aa,Aa2,or_false,Prod.mk.injEq]at hs
 rw [Gb rfl _ _ _ rfl]
 simp only [d_shown_expression]
 rcases hs with⟨rfl,rfl⟩ | ⟨rfl,rfl⟩
 ·show Gw _ (execs _ _ [y0 (.v (.tup [.str xb,exD a])),k9,k9,k9,k9,k9] h)=_
  rw [za rfl,Ja rfl,Ja rfl]
  rw [za rfl]
  rw [qr rfl (Je rfl ?_),Ga _ _ _ rfl]
  simp_all [ix_tup,jx,XU,e4,Xg]
  rw [if_pos (by rw [Gc];simp;omega)]
 ·show Gw _ (execs _ _ [y0 (.v (.tup [.str jb,exD a])),k9,k9,k9,k9,k9] h)=_
  rw [za rfl,Ja rfl,Ja rfl]
  rw [za rfl]
  rw [qr rfl (Je rfl ?_),Ga _ _ _ rfl]
  simp_all [ix_tup,jx,XU,e4,Xg]
  rw [if_pos (by rw [Gc];simp;omega)]
theorem xaX (x y z:D):atI [x,y,z] 2=y0 z:=rfl
theorem xbM (s) (g l) (hs:(s,g,l)∈ [(zh,43,0),(zg,45,0),(Xp,38,1),(zf,46,2)]) (hl:(bT a).length+(bT b).length<=800000)
 (ea: ∀l:Nat,call prog m "expression_of_rank" [.v (exD a),.v (.int ((l:Int)+1))] h= .ok (.v (.str (br (decide (lvl a<l)) 40 41 (bT a)))) h) (eb: ∀l:Nat,call prog m "expression_of_rank" [.v (exD b),.v (.int ((l:Int)+1))] h= .ok (.v (.str (br (decide (lvl b<l)) 40 41 (bT b)))) h):
 call prog (m+1) "shown_expression" [.v (.tup [.str s,exD a,exD b])] h= .ok (.v (.str (br (decide (lvl a<l)) 40 41 (bT a)++(32::g::32::br (decide (lvl b<l+1)) 40 41 (bT b))))) h:=by
 have e1:=ea l
 have e2:=eb (l+1)
 have b1:=zj (k8 (lvl a<l)) 40 41 (bT a)
 have b2:=zj (k8 (lvl b<l+1)) 40 41 (bT b)
 have ei:((l:Int)+1+1)=(((l+1:Nat):Int)+1):=by omega
 have st: ∀ st,(st,g,l)∈ [(zh,43,0),(zg,45,0),(Xp,38,1),(zf,46,2)] →
  execs (v8 m) d_shown_expression.body [y0 (.v (.tup [.str st,exD a,exD b])),k9,k9,k9,k9,k9] h=
  execs (v8 m) (.cons (.setf 4 (.call "expression_of_rank" (.cons (.ix (.var 0) (.int 1)) (.cons (.var 3) .nil)))) (.cons (.setf 5 (.call "expression_of_rank" (.cons (.ix (.var 0) (.int 2)) (.cons (.bin .add (.var 3) (.int 1)) .nil)))) (.cons (.ret (.fstr [.inr 4,.inl [32],.inr 2,.inl [32],.inr 5])) .nil)))
   [y0 (.v (.tup [.str st,exD a,exD b])),y0 (.v (.str st)),y0 (.v (.str [g])),y0 (.v (.int ((l:Int)+1))),k9,k9] h:=by
  intro st hs
  simp only [Aa,Aa2,or_false,Prod.mk.injEq]at hs
  simp only [d_shown_expression]
  rcases hs with⟨rfl,rfl,rfl⟩ | ⟨rfl,rfl,rfl⟩ | ⟨rfl,rfl,rfl⟩ | ⟨rfl,rfl,rfl⟩
  ·rw [za rfl,Ja rfl,Ja rfl,za rfl,Ja rfl,za rfl];rfl
  ·rw [za rfl,Ja rfl,Ja rfl,za rfl,Ja rfl,za rfl];rfl
  ·rw [za rfl,Ja rfl,Ja rfl,za rfl,Ja rfl,za rfl];rfl
  ·rw [za rfl,Ja rfl,Ja rfl,za rfl,Ja rfl,za rfl];rfl
 rw [Gb (d:=d_shown_expression) rfl _ _ _ rfl]
 show Gw _ (execs _ _ [y0 (.v (.tup [.str s,exD a,exD b])),k9,k9,k9,k9,k9] h)=_
 rw [st s hs]
 rw [za (τ1:= [y0 (.v (.tup [.str s,exD a,exD b])),y0 (.v (.str s)),y0 (.v (.str [g])),y0 (.v (.int ((l:Int)+1))),y0 (.v (.str (br (k8 (lvl a<l)) 40 41 (bT a)))),k9]) (h1:=h) (by simp_all [ix_tup,jx,e1])]
 rw [za (τ1:= [y0 (.v (.tup [.str s,exD a,exD b])),y0 (.v (.str s)),y0 (.v (.str [g])),y0 (.v (.int ((l:Int)+1))),y0 (.v (.str (br (k8 (lvl a<l)) 40 41 (bT a)))),y0 (.v (.str (br (k8 (lvl b<l+1)) 40 41 (bT b))))]) (h1:=h) (by simp_all [ix_tup,xaX,jh,ei,e2])]
 rw [qa (h1:=h) (Je rfl (d:= .str (br (k8 (lvl a<l)) 40 41 (bT a)++(32::g::32::br (k8 (lvl b<l+1)) 40 41 (bT b)))) ?_),Ga _ _ _ rfl]
 rw [eval]
 simp only [wA,QA,Wm,Gm,Ad6,Jm,Ag,Xs]
 rw [if_pos (by rw [Gc];simp;omega)]
 simp
end
theorem zq (h): ∀ e,(bT e).length<=700000-> ∀m,2*e.dp<=m->call prog (m+1) "shown_expression" [.v (exD e)] h= .ok (.v (.str (bT e))) h:=by
 have one: ∀(f:Ex->Ex) s g,(s,g)∈ [(xb,[126]),(jb,[94])]-> ∀a,(∀ m,2*a.dp<=m->call prog (m+1) "shown_expression" [.v (exD a)] h= .ok (.v (.str (bT a))) h)->(bT a).length<=700000-> ∀m,2*(a.dp+1)<=m →
  call prog (m+1) "shown_expression" [.v (.tup [.str s,exD a])] h= .ok (.v (.str (g++br (decide (lvl a<3)) 40 41 (bT a)))) h:=fun f s g hs a ih hl m hm=>by
  obtain⟨k,rfl⟩: ∃k,m=k+2:=⟨m-2,by omega⟩
  exact zb0 s g hs (by omega) λl=>Z5 (by omega) (ih k (by omega))
 have two: ∀ s g l,(s,g,l)∈ [(zh,43,0),(zg,45,0),(Xp,38,1),(zf,46,2)]-> ∀a b,(∀ m,2*a.dp<=m->call prog (m+1) "shown_expression" [.v (exD a)] h= .ok (.v (.str (bT a))) h)->(∀ m,2*b.dp<=m->call prog (m+1) "shown_expression" [.v (exD b)] h= .ok (.v (.str (bT b))) h) →
  (br (decide (lvl a<l)) 40 41 (bT a)++(32::g::32::br (decide (lvl b<l+1)) 40 41 (bT b))).length<=700000-> ∀m,2*(max a.dp b.dp+1)<=m->call prog (m+1) "shown_expression" [.v (.tup [.str s,exD a,exD b])] h= .ok (.v (.str (br (decide (lvl a<l)) 40 41 (bT a)++(32::g::32::br (decide (lvl b<l+1)) 40 41 (bT b))))) h:=fun s g l hs a b ia ib hl m hm=>by
  obtain⟨k,rfl⟩: ∃k,m=k+2:=⟨m-2,by omega⟩
  have b1:=Qn (k8 (lvl a<l)) 40 41 (bT a)
  have b2:=Qn (k8 (lvl b<l+1)) 40 41 (bT b)
  simp only [Aa1,Aa4]at hl
  exact xbM s g l hs (by omega) (λl=>Z5 (by omega) (ia k (by omega))) λl=>Z5 (by omega) (ib k (by omega))
 intro e
 induction e with
 | name t=>intro hl m hm;rw [Gb rfl _ _ _ rfl,show execs _ _ _ h= .ret (.v (.str t)) h from rfl,Ga _ _ _ rfl];rfl
 | same=>intro hl m hm;rw [Gb rfl _ _ _ rfl,show execs _ _ _ h= .ret (.v (.str Qp)) h from rfl,Ga _ _ _ rfl];rfl
 | all=>intro hl m hm;rw [Gb rfl _ _ _ rfl,show execs _ _ _ h= .ret (.v (.str XC)) h from rfl,Ga _ _ _ rfl];rfl
 | none=>intro hl m hm;rw [Gb rfl _ _ _ rfl,show execs _ _ _ h= .ret (.v (.str xp)) h from rfl,Ga _ _ _ rfl];rfl
 | turned a ih=>
  intro hl
  have b3:=Qn (k8 (lvl a<3)) 40 41 (bT a)
  simp only [bT,Aa4]at hl
  exact one .turned xb [126] (by decide) a (ih (by omega)) (by omega)
 | closed a ih=>
  intro hl
  have b3:=Qn (k8 (lvl a<3)) 40 41 (bT a)
  simp only [bT,Aa4]at hl
  exact one .closed jb [94] (by decide) a (ih (by omega)) (by omega)
 | plus a b ia ib=>
  intro hl
  have b1:=Qn (k8 (lvl a<0)) 40 41 (bT a)
  have b2:=Qn (k8 (lvl b<1)) 40 41 (bT b)
  have hl2:=hl
  simp only [bT,Aa1,Aa4]at hl2
  exact two zh 43 0 (by decide) a b (ia (by omega)) (ib (by omega)) hl
 | less a b ia ib=>
  intro hl
  have b1:=Qn (k8 (lvl a<0)) 40 41 (bT a)
  have b2:=Qn (k8 (lvl b<1)) 40 41 (bT b)
  have hl2:=hl
  simp only [bT,Aa1,Aa4]at hl2
  exact two zg 45 0 (by decide) a b (ia (by omega)) (ib (by omega)) hl
 | both a b ia ib=>
  intro hl
  have b1:=Qn (k8 (lvl a<1)) 40 41 (bT a)
  have b2:=Qn (k8 (lvl b<2)) 40 41 (bT b)
  have hl2:=hl
  simp only [bT,Aa1,Aa4]at hl2
  exact two Xp 38 1 (by decide) a b (ia (by omega)) (ib (by omega)) hl
 | joined a b ia ib=>
  intro hl
  have b1:=Qn (k8 (lvl a<2)) 40 41 (bT a)
  have b2:=Qn (k8 (lvl b<3)) 40 41 (bT b)
  have hl2:=hl
  simp only [bT,Aa1,Aa4]at hl2
  exact two zf 46 2 (by decide) a b (ia (by omega)) (ib (by omega)) hl
theorem ZP (m) (h) (e):call prog (m+1) "_law_level" [.v (exD e)] h= .ok (.v (.int (lvl e:Nat))) h:=by
 cases e with
 | name t=>rw [Gb rfl _ _ _ rfl,show execs _ _ _ h= .ret (.v (.int 3)) h from rfl,Ga _ _ _ rfl];rfl
 | same=>rw [Gb rfl _ _ _ rfl,show execs _ _ _ h= .ret (.v (.int 3)) h from rfl,Ga _ _ _ rfl];rfl
 | all=>rw [Gb rfl _ _ _ rfl,show execs _ _ _ h= .ret (.v (.int 3)) h from rfl,Ga _ _ _ rfl];rfl
 | none=>rw [Gb rfl _ _ _ rfl,show execs _ _ _ h= .ret (.v (.int 3)) h from rfl,Ga _ _ _ rfl];rfl
 | turned a=>rw [Gb rfl _ _ _ rfl,show execs _ _ _ h= .ret (.v (.int 3)) h from rfl,Ga _ _ _ rfl];rfl
 | closed a=>rw [Gb rfl _ _ _ rfl,show execs _ _ _ h= .ret (.v (.int 3)) h from rfl,Ga _ _ _ rfl];rfl
 | plus a b=>rw [Gb rfl _ _ _ rfl,show execs _ _ _ h= .ret (.v (.int 0)) h from rfl,Ga _ _ _ rfl];rfl
 | less a b=>rw [Gb rfl _ _ _ rfl,show execs _ _ _ h= .ret (.v (.int 0)) h from rfl,Ga _ _ _ rfl];rfl
 | both a b=>rw [Gb rfl _ _ _ rfl,show execs _ _ _ h= .ret (.v (.int 1)) h from rfl,Ga _ _ _ rfl];rfl
 | joined a b=>rw [Gb rfl _ _ _ rfl,show execs _ _ _ h= .ret (.v (.int 2)) h from rfl,Ga _ _ _ rfl];rfl
abbrev zQ:Tx:= [101,97,99,104,32,108,101,97,115,116]
abbrev WW:Tx:= [101,97,99,104,32,109,111,115,116]
def wd (s:Tx):Tx:=if s=Jh then zQ else if s=jn then WW else s
noncomputable def fT:Fc->Tx
 | .inn a b=>bT a++(32::105::110::32::bT b)
 | .equ a b=>bT a++(32::61::32::bT b)
 | .som a=>xf++32::bT a
 | .non a=>JD++32::bT a
 | .cnt s k a=>wd s++32::(intT k++32::bT a)
theorem zcf (x y:D):atI [x,y] (-1)=y0 y:=rfl
theorem zbX (x y z:D):atI [x,y,z] (-1)=y0 z:=rfl
theorem xch :eval F (.neg (.int 1)) τ h= .ok (.v (.int (-1))) h:=rfl
abbrev fS (d:D) (x1 x2 x3 x4:Option W):Sl:= [y0 (.v d),x1,x2,x3,x4]
theorem XA (e:KL τ ps=y0 t) (hl:t.length<=900000):eval F (.fstr ps) τ h= .ok (.v (.str t)) h:=by
 rw [eval,e,Xs,if_pos (by rw [Gc];omega)]
section
variable {m:Nat}{h:AH}{a b:Ex}
theorem ja4 (s w) (hs:(s,w)∈ [(jt,([105,110]:Tx)),(Qd,[61])]) (hl:(bT a).length+(bT b).length<=800000) (ea:call prog m "shown_expression" [.v (exD a)] h= .ok (.v (.str (bT a))) h) (eb:call prog m "shown_expression" [.v (exD b)] h= .ok (.v (.str (bT b))) h):
 call prog (m+1) "shown_fact" [.v (.tup [.str s,exD a,exD b])] h= .ok (.v (.str (bT a++(32::(w++32::bT b))))) h:=by
 have hw:w.length<=2:=by
  simp only [Aa,Aa2,or_false,Prod.mk.injEq]at hs
  rcases hs with⟨rfl,rfl⟩ | ⟨rfl,rfl⟩<;>decide
 have st:execs (v8 m) d_shown_fact.body (fS (.tup [.str s,exD a,exD b]) k9 k9 k9 k9) h= .ret (.v (.str (bT a++(32::(w++32::bT b))))) h:=by
  simp only [d_shown_fact]
  rw [za (τ1:=fS (.tup [.str s,exD a,exD b]) (y0 (.v (.str w))) k9 k9 k9) (h1:=h) (by
   simp only [Aa,Aa2,or_false,Prod.mk.injEq]at hs
   rcases hs with⟨rfl,rfl⟩ | ⟨rfl,rfl⟩<;>rfl)]
  rw [za (τ1:=fS (.tup [.str s,exD a,exD b]) (y0 (.v (.str w))) (y0 (.v (.str (bT b)))) k9 k9) (h1:=h) (by simp_all [xch,ix_tup,zbX,eb])]
  refine qa ((Wo (h1:=h) ?_).trans ?_)
  ·simp only [Aa,Aa2,or_false,Prod.mk.injEq]at hs
   rcases hs with⟨rfl,rfl⟩ | ⟨rfl,rfl⟩<;>rfl
  ·rw [za (τ1:=fS (.tup [.str s,exD a,exD b]) (y0 (.v (.str w))) (y0 (.v (.str (bT b)))) (y0 (.v (.str (bT a)))) k9) (h1:=h) (by simp_all [ix_tup,jx,ea])]
   refine qa (Je rfl (XA ?_ (by simp;omega)))
   simp only [wA,QA,Wm,Gm,Ad6,Jm,Ag,Ae9,Af5,Ae4]
 rw [Gb rfl _ _ _ rfl]
 show Gw _ (execs _ _ (fS (.tup [.str s,exD a,exD b]) k9 k9 k9 k9) h)=_
 rw [st,Ga _ _ _ rfl]
theorem xa1 (s) (hs:s∈ [xf,JD]) (hl:(bT a).length<=800000) (ea:call prog m "shown_expression" [.v (exD a)] h= .ok (.v (.str (bT a))) h):
 call prog (m+1) "shown_fact" [.v (.tup [.str s,exD a])] h= .ok (.v (.str (s++32::bT a))) h:=by
 have hw:s.length<=4:=by
  simp only [Aa,Aa2,or_false]at hs
  rcases hs with rfl | rfl<;>decide
 have st:execs (v8 m) d_shown_fact.body (fS (.tup [.str s,exD a]) k9 k9 k9 k9) h= .ret (.v (.str (s++32::bT a))) h:=by
  simp only [d_shown_fact]
  rw [za (τ1:=fS (.tup [.str s,exD a]) (y0 (.v (.str s))) k9 k9 k9) (h1:=h) (by
   simp only [Aa,Aa2,or_false]at hs
   rcases hs with rfl | rfl<;>rfl)]
  rw [za (τ1:=fS (.tup [.str s,exD a]) (y0 (.v (.str s))) (y0 (.v (.str (bT a)))) k9 k9) (h1:=h) (by simp_all [xch,ix_tup,zcf,ea])]
  rw [Ja (by
   simp only [Aa,Aa2,or_false]at hs
   rcases hs with rfl | rfl<;>rfl)]
  refine qr (by
   simp only [Aa,Aa2,or_false]at hs
   rcases hs with rfl | rfl<;>rfl) (Je rfl (XA ?_ (by simp;omega)))
  simp only [wA,QA,Wm,Gm,Ad6,Jm,Ag,Ae9,Af5,Ae4]
 rw [Gb rfl _ _ _ rfl]
 show Gw _ (execs _ _ (fS (.tup [.str s,exD a]) k9 k9 k9 k9) h)=_
 rw [st,Ga _ _ _ rfl]
theorem xbD (s) (k:Nat) (hk:k<1000) (hs:s∈ [Wa,Qb,Jh,jn]) (hl:(wd s++32::(intT k++32::bT a)).length<=800000) (ea:call prog m "shown_expression" [.v (exD a)] h= .ok (.v (.str (bT a))) h):
 call prog (m+1) "shown_fact" [.v (.tup [.str s,.int (k:Int),exD a])] h= .ok (.v (.str (wd s++32::(intT k++32::bT a)))) h:=by
 have st:execs (v8 m) d_shown_fact.body (fS (.tup [.str s,.int (k:Int),exD a]) k9 k9 k9 k9) h= .ret (.v (.str (wd s++32::(intT k++32::bT a)))) h:=by
  simp only [d_shown_fact]
  rw [za (τ1:=fS (.tup [.str s,.int (k:Int),exD a]) (y0 (.v (.str (wd s)))) k9 k9 k9) (h1:=h) (by
   simp only [Aa,Aa2,or_false]at hs
   rcases hs with rfl | rfl | rfl | rfl<;>rfl)]
  rw [za (τ1:=fS (.tup [.str s,.int (k:Int),exD a]) (y0 (.v (.str (wd s)))) (y0 (.v (.str (bT a)))) k9 k9) (h1:=h) (by simp_all [xch,ix_tup,zbX,ea])]
  rw [Ja (by
   simp only [Aa,Aa2,or_false]at hs
   rcases hs with rfl | rfl | rfl | rfl<;>rfl)]
  rw [Ja (by
   simp only [Aa,Aa2,or_false]at hs
   rcases hs with rfl | rfl | rfl | rfl<;>rfl)]
  rw [za (τ1:=fS (.tup [.str s,.int (k:Int),exD a]) (y0 (.v (.str (wd s)))) (y0 (.v (.str (bT a)))) k9 (y0 (.v (.int (k:Int))))) (h1:=h) (by simp_all [ix_tup,jx])]
  refine qa (Je rfl (XA ?_ (by omega)))
  have hk':(0:Int)<=(k:Int)/\(k:Int)<1000:=by omega
  simp only [wA,QA,Wm,Gm,Ad6,Jm,qaI,if_pos hk',Ag,Ae9,Af5,Ae4]
 rw [Gb (d:=d_shown_fact) rfl _ _ _ rfl]
 show Gw _ (execs _ _ (fS (.tup [.str s,.int (k:Int),exD a]) k9 k9 k9 k9) h)=_
 rw [st,Ga _ _ _ rfl]
end
theorem xbz (h)(f) (wf:f.wf N) (hl:(fT f).length<=600000) (m) (hm:2*f.dp+1<=m):call prog (m+1) "shown_fact" [.v (fcD f)] h= .ok (.v (.str (fT f))) h:=by
 obtain⟨n,rfl⟩: ∃n,m=n+1:=⟨m-1,by omega⟩
 cases f with
 | inn a b=>
  simp only [fT,Aa1,Aa4]at hl
  simp only [Fc.dp]at hm
  exact ja4 jt [105,110] (by decide) (by omega) (zq h a (by omega) n (by omega)) (zq h b (by omega) n (by omega))
 | equ a b=>
  simp only [fT,Aa1,Aa4]at hl
  simp only [Fc.dp]at hm
  exact ja4 Qd [61] (by decide) (by omega) (zq h a (by omega) n (by omega)) (zq h b (by omega) n (by omega))
 | som a=>
  simp only [fT,Aa1,Aa4]at hl
  simp only [Fc.dp]at hm
  exact xa1 xf (by decide) (by omega) (zq h a (by omega) n (by omega))
 | non a=>
  simp only [fT,Aa1,Aa4]at hl
  simp only [Fc.dp]at hm
  exact xa1 JD (by decide) (by omega) (zq h a (by omega) n (by omega))
 | cnt s k a=>
  have hl2:=hl
  simp only [fT,Aa1,Aa4]at hl2
  simp only [Fc.dp]at hm
  exact xbD s k (Aj2 wf.1.2 (by decide)) wf.1.1 (by simp only [fT]at hl;omega) (zq h a (by omega) n (by omega))
def slv:Sy->Nat
 | .conj _ _=>1
 | .disj _ _=>0
 | _=>2
noncomputable def sT:Sy->Tx
 | .fact f=>fT f
 | .neg a=>110::111::116::32::br (k8 (slv a<2)) 91 93 (sT a)
 | .conj a b=>br (k8 (slv a<1)) 91 93 (sT a)++(32::(xg++32::br (k8 (slv b<2)) 91 93 (sT b)))
 | .disj a b=>br (k8 (slv a<0)) 91 93 (sT a)++(32::(Qs++32::br (k8 (slv b<1)) 91 93 (sT b)))
theorem qas (s) (wf:s.wf N): ∃hd ds,syD s= .tup (.str hd::ds)/\(∀ h,KO [([111,114],.int 1),([97,110,100],.int 2)] [.v (.str hd),.v (.int 3)] h=okv (.int ((slv s:Int)+1)) h)/\(slv s:Int)=2-(if hd==xg then 1 else 0)-2*(if hd==Qs then 1 else 0):=by
 cases s with
 | fact f=>
  cases f with
  | inn a b=>exact⟨jt,_,rfl,λ_=>rfl,rfl⟩
  | equ a b=>exact⟨Qd,_,rfl,λ_=>rfl,rfl⟩
  | som a=>exact⟨xf,_,rfl,λ_=>rfl,rfl⟩
  | non a=>exact⟨JD,_,rfl,λ_=>rfl,rfl⟩
  | cnt s j a=>
   have hs:=wf.1.1
   simp only [Aa,Aa2,or_false]at hs
   rcases hs with rfl | rfl | rfl | rfl
   ·exact⟨Wa,_,rfl,λ_=>rfl,rfl⟩
   ·exact⟨Qb,_,rfl,λ_=>rfl,rfl⟩
   ·exact⟨Jh,_,rfl,λ_=>rfl,rfl⟩
   ·exact⟨jn,_,rfl,λ_=>rfl,rfl⟩
 | neg a=>exact⟨Qh,_,rfl,λ_=>rfl,rfl⟩
 | conj a b=>exact⟨xg,_,rfl,λ_=>rfl,rfl⟩
 | disj a b=>exact⟨Qs,_,rfl,λ_=>rfl,rfl⟩
theorem Zx {m l:Nat}(wf:e.wf N) (hl:(sT e).length<=800000) (ea:call prog m "shown_saying" [.v (syD e)] h= .ok (.v (.str (sT e))) h):
 call prog (m+1) "saying_of_rank" [.v (syD e),.v (.int ((l:Int)+1))] h= .ok (.v (.str (br (decide (slv e<l)) 91 93 (sT e)))) h:=by
 obtain⟨hd,ds,ed,tgv,_⟩:=qas e wf
 rw [Gb rfl _ _ _ rfl]
 simp only [GJ]
 show Gw _ (execs _ _ [y0 (.v (syD e)),y0 (.v (.int ((l:Int)+1))),k9] h)=_
 rw [za (τ1:= [y0 (.v (syD e)),y0 (.v (.int ((l:Int)+1))),y0 (.v (.str (sT e)))]) (h1:=h) (by simp_all [ea])]
 have tg:eval (v8 m) (.tget "SAYING_RANKS" (.cons (.ix (.var 0) (.int 0)) (.cons (.con "UNIT_RANK") .nil))) [some (.v (syD e)),some (.v (.int ((l:Int)+1))),some (.v (.str (sT e)))] h= .ok (.v (.int ((slv e:Int)+1))) h:=by
  rw [eval,show(v8 m).con.lookup "SAYING_RANKS" =some (.exc "" [([111,114],.int 1),([97,110,100],.int 2)])from rfl]
  have ew:Gi (v8 m) (.cons (.ix (.var 0) (.int 0)) (.cons (.con "UNIT_RANK") .nil)) [some (.v (syD e)),some (.v (.int ((l:Int)+1))),some (.v (.str (sT e)))] h= .ok [.v (.str hd),.v (.int 3)] h:=by
   rw [ed]
   simp only [Gi,eval,Gn,Gm,R.bind_ok,ix_tup,Jt,R.of_some]
   rfl
  simp only [ew,R.bind_ok,tgv]
 have tt:Gp (v8 m) (.cmp .lt (.tget "SAYING_RANKS" (.cons (.ix (.var 0) (.int 0)) (.cons (.con "UNIT_RANK") .nil))) (.var 1)) [some (.v (syD e)),some (.v (.int ((l:Int)+1))),some (.v (.str (sT e)))] h= .ok (decide (slv e<l)) h:=by
  rw [Gp,eval,tg]
  simp only [R.bind_ok,eval,Gn,Gm,jaq,R.of_some,Gk]
 cases q:k8 (slv e<l)with
 | true=>
  rw [q]at tt
  rw [qr tt (Je rfl (XA ?_ ?_)),Ga _ _ _ rfl]
  ·simp only [wA,QA,Wm,Gm,Ad6,Jm,Ag];rfl
  ·have:=zj v9 91 93 (sT e);omega
 | false=>
  rw [q]at tt
  rw [Ja tt,qa rfl,Ga _ _ _ rfl]
  rfl
theorem xay:prog.con.lookup "UNIT_RANK" =some (.int 3):=rfl
section
variable {m:Nat}{h:AH}{a b:Sy}
theorem xbL (hl:(sT a).length<=700000) (ea: ∀l:Nat,call prog m "saying_of_rank" [.v (syD a),.v (.int ((l:Int)+1))] h= .ok (.v (.str (br (decide (slv a<l)) 91 93 (sT a)))) h):
 call prog (m+1) "shown_saying" [.v (syD (.neg a))] h= .ok (.v (.str (sT (.neg a)))) h:=by
 have e3:call prog m "saying_of_rank" [.v (syD a),.v (.int 3)] h= .ok (.v (.str (br (decide (slv a<2)) 91 93 (sT a)))) h:=ea 2
 have b3:=zj (k8 (slv a<2)) 91 93 (sT a)
 rw [Gb rfl _ _ _ rfl]
 simp only [d_shown_saying]
 show Gw _ (execs _ _ (fS (.tup [.str Qh,syD a]) k9 k9 k9 k9) h)=_
 rw [za rfl]
 rw [qr rfl (Je rfl ?_),Ga _ _ _ rfl]
 simp_all [ix_tup,jx,xay,e3,Xg]
 rw [if_pos (by rw [Gc];simp;omega)]
 rfl
theorem za4 (s) (l) (hs:(s,l)∈ [(xg,1),(Qs,0)]) (hl:(sT a).length+(sT b).length<=800000)
 (ea: ∀l:Nat,call prog m "saying_of_rank" [.v (syD a),.v (.int ((l:Int)+1))] h= .ok (.v (.str (br (decide (slv a<l)) 91 93 (sT a)))) h) (eb: ∀l:Nat,call prog m "saying_of_rank" [.v (syD b),.v (.int ((l:Int)+1))] h= .ok (.v (.str (br (decide (slv b<l)) 91 93 (sT b)))) h):
 call prog (m+1) "shown_saying" [.v (.tup [.str s,syD a,syD b])] h= .ok (.v (.str (br (decide (slv a<l)) 91 93 (sT a)++(32::(s++32::br (decide (slv b<l+1)) 91 93 (sT b)))))) h:=by
 have e1:=ea l
 have e2:=eb (l+1)
 have b1:=zj (k8 (slv a<l)) 91 93 (sT a)
 have b2:=zj (k8 (slv b<l+1)) 91 93 (sT b)
 have ei:((l:Int)+1+1)=(((l+1:Nat):Int)+1):=by omega
 have hw:s.length<=3:=by
  simp only [Aa,Aa2,or_false,Prod.mk.injEq]at hs
  rcases hs with⟨rfl,rfl⟩ | ⟨rfl,rfl⟩<;>decide
 have st:execs (v8 m) d_shown_saying.body (fS (.tup [.str s,syD a,syD b]) k9 k9 k9 k9) h= .ret (.v (.str (br (k8 (slv a<l)) 91 93 (sT a)++(32::(s++32::br (k8 (slv b<l+1)) 91 93 (sT b)))))) h:=by
  simp only [d_shown_saying]
  rw [za rfl]
  rw [Ja (by
   simp only [Aa,Aa2,or_false,Prod.mk.injEq]at hs
   rcases hs with⟨rfl,rfl⟩ | ⟨rfl,rfl⟩<;>rfl)]
  refine qa ((Wo (h1:=h) ?_).trans ?_)
  ·simp only [Aa,Aa2,or_false,Prod.mk.injEq]at hs
   rcases hs with⟨rfl,rfl⟩ | ⟨rfl,rfl⟩<;>rfl
  ·rw [za (τ1:=fS (.tup [.str s,syD a,syD b]) (y0 (.v (.str s))) (y0 (.v (.int ((l:Int)+1)))) k9 k9) (h1:=h) (by
    simp only [Aa,Aa2,or_false,Prod.mk.injEq]at hs
    rcases hs with⟨rfl,rfl⟩ | ⟨rfl,rfl⟩<;>rfl)]
   rw [za (τ1:=fS (.tup [.str s,syD a,syD b]) (y0 (.v (.str s))) (y0 (.v (.int ((l:Int)+1)))) (y0 (.v (.str (br (k8 (slv a<l)) 91 93 (sT a))))) k9) (h1:=h) (by simp_all [ix_tup,jx,e1])]
   rw [za (τ1:=fS (.tup [.str s,syD a,syD b]) (y0 (.v (.str s))) (y0 (.v (.int ((l:Int)+1)))) (y0 (.v (.str (br (k8 (slv a<l)) 91 93 (sT a))))) (y0 (.v (.str (br (k8 (slv b<l+1)) 91 93 (sT b)))))) (h1:=h) (by simp_all [ix_tup,xaX,jh,ei,e2])]
   refine qa (Je rfl (XA ?_ (by simp;omega)))
   simp only [wA,QA,Wm,Gm,Ad6,Jm,Ag,Ae9,Af5,Ae4]
 rw [Gb (d:=d_shown_saying) rfl _ _ _ rfl]
 show Gw _ (execs _ _ (fS (.tup [.str s,syD a,syD b]) k9 k9 k9 k9) h)=_
 rw [st,Ga _ _ _ rfl]
theorem zba (f) (wf:f.wf N) (e:call prog m "shown_fact" [.v (fcD f)] h= .ok (.v (.str (fT f))) h):call prog (m+1) "shown_saying" [.v (fcD f)] h= .ok (.v (.str (fT f))) h:=by
 obtain⟨s,ds,ef,h1,h2,h3⟩:=xam f wf
 rw [Gb rfl _ _ _ rfl]
 simp only [d_shown_saying]
 show Gw _ (execs _ _ (fS (fcD f) k9 k9 k9 k9) h)=_
 rw [za (τ1:=fS (fcD f) (y0 (.v (.str s))) k9 k9 k9) (h1:=h) (by rw [ef];simp_all [ix_tup,Jt])]
 rw [Ja (by simp only [Gp,eval,Gn,Gm,R.bind_ok,Jl,R.of_some,Gk];rw [h1])]
 rw [Ja (by
  have z:Gz .mem (.v (.str s)) (.v (.tup [.str xg,.str Qs])) h=y0 false:=by
   have this:Gz .mem (.v (.str s)) (.v (.tup [.str xg,.str Qs])) h=y0 (k8 (s∈ [xg,Qs])):=Zr s [xg,Qs] (.v (.tup [.str xg,.str Qs])) h rfl rfl
   rw [this]
   congr 1
   rw [decide_eq_false_iff_not]
   intro q
   simp only [Aa,Aa2,or_false]at q
   rcases q with rfl | rfl
   ·cases h2
   ·cases h3
  simp_all [z])]
 rw [qa (w:= .v (.str (fT f))) (h1:=h) (Je rfl (by simp_all [e])),Ga _ _ _ rfl]
end
theorem zbN (h): ∀ s,s.wf N->(sT s).length<=600000-> ∀m,2*s.dp+3<=m->call prog (m+1) "shown_saying" [.v (syD s)] h= .ok (.v (.str (sT s))) h:=by
 intro s
 induction s with
 | fact f=>
  intro wf hl m hm
  simp only [Sy.dp]at hm
  obtain⟨n,rfl⟩: ∃n,m=n+1:=⟨m-1,by omega⟩
  exact zba f wf (xbz h f wf hl n (by omega))
 | neg a ih=>
  intro wf hl m hm
  simp only [Sy.dp]at hm
  have b3:=Qn (k8 (slv a<2)) 91 93 (sT a)
  simp only [sT,Aa4]at hl
  obtain⟨n,rfl⟩: ∃n,m=n+2:=⟨m-2,by omega⟩
  exact xbL (by omega) λl=>Zx wf (by omega) (ih wf (by omega) n (by omega))
 | conj a b ia ib=>
  intro wf hl m hm
  simp only [Sy.dp]at hm
  have b1:=Qn (k8 (slv a<1)) 91 93 (sT a)
  have b2:=Qn (k8 (slv b<2)) 91 93 (sT b)
  simp only [sT,Aa1,Aa4]at hl
  obtain⟨n,rfl⟩: ∃n,m=n+2:=⟨m-2,by omega⟩
  exact za4 xg 1 (by decide) (by omega) (λl=>Zx wf.1 (by omega) (ia wf.1 (by omega) n (by omega))) λl=>Zx wf.2 (by omega) (ib wf.2 (by omega) n (by omega))
 | disj a b ia ib=>
  intro wf hl m hm
  simp only [Sy.dp]at hm
  have b1:=Qn (k8 (slv a<0)) 91 93 (sT a)
  have b2:=Qn (k8 (slv b<1)) 91 93 (sT b)
  simp only [sT,Aa1,Aa4]at hl
  obtain⟨n,rfl⟩: ∃n,m=n+2:=⟨m-2,by omega⟩
  exact za4 Qs 0 (by decide) (by omega) (λl=>Zx wf.1 (by omega) (ia wf.1 (by omega) n (by omega))) λl=>Zx wf.2 (by omega) (ib wf.2 (by omega) n (by omega))
theorem XT (m) (h)(s) (wf:s.wf N):call prog (m+1) "_law_saying_level" [.v (syD s)] h= .ok (.v (.int (slv s:Nat))) h:=by
 obtain⟨hd,ds,ed,_,el⟩:=qas s wf
 rw [Gb rfl _ _ _ rfl]
 simp only [GH]
 show Gw _ (execs _ _ [y0 (.v (syD s))] h)=_
 have bi: ∀b:Bool,biD .int [.v (.bl b)] h= .ok (.v (.int (if b then 1 else 0))) h:=λb=>by cases b<;>rfl
 rw [ed,el]
 simp_all [ix_tup,Jt,Jl,bi,xk,Jv 2 _ (by decide)]
abbrev rdF (N T:List Tx) (p:Nat):List (String×D):= [("names",tsD N),("signs",.lst (T.map .str)),("place",.int (p:Int))]
def rh (g:AH) (N T:List Tx) (p:Nat):AH:=g++ [Cell.obj "Reader" (rdF N T p)]
theorem jb2 (g) (N T) (p):(rh g N T p).length=g.length+1:=by simp [rh]
theorem xh (g) (N T) (p q):(rh g N T q).length=(rh g N T p).length:=by simp [rh]
theorem zv (g) (N T) (p):Ks (rh g N T p) (y0 (.v (.ref g.length)))=y0 (g.length, "Reader",rdF N T p):=by simp [Ks,rh]
theorem jbR (g) (N T) (p q):(rh g N T p).set g.length (.obj "Reader" (rdF N T q))=rh g N T q:=by simp [rh]
section
variable {F:Fx}{g:AH}{N T:List Tx}{p:Nat}{τ:Sl}
theorem zcb (h0:Gm τ 0=y0 (.v (.ref g.length))):eval F (.fld 0 "Reader" "names") τ (rh g N T p)= .ok (.v (tsD N)) (rh g N T p):=by
 rw [eval,h0,zv];rfl
theorem xav (h0:Gm τ 0=y0 (.v (.ref g.length))) (hm:((rdF N T p).lookup m).isNone=v9) (e:Gi F es τ (rh g N T p)= .ok ws (rh g N T p)):
 eval F (.mcall 0 "Reader" m q es) τ (rh g N T p)=F.call q (.v (.ref g.length)::ws.map W.arg) (rh g N T p):=by
 rw [eval,h0,zv]
 simp only [hm,and_self,if_true,e,R.bind_ok]
end
theorem qcp (N T) (p):(rdF N T p).lookup "signs" =some (.lst (T.map .str)):=rfl
theorem jb7 (N T) (p):(rdF N T p).lookup "place" =some (.int (p:Int)):=rfl
def tk (T:List Tx) (p:Nat):Tx:=T.getD p []
theorem qcb {T:List Tx}(h:p<T.length):(T.map D.str)[p]? =y0 (.str (tk T p)):=by
 simp [tk,h]
theorem qbT (h: ¬p<T.length):tk T p= []:=by
 simp only [tk,Ad3]
 rw [List.getElem?_eq_none (by omega)];rfl
theorem Zb (h:T.drop p=x::r):tk T p=x/\T.drop (p+1)=r:=by
 have h1:=by
  have:=congrArg List.head? h
  rw [List.head?_drop]at this
  exact this
 refine⟨by simp [tk,h1],?_⟩
 have:=congrArg List.tail h
 rwa [List.tail_drop]at this
theorem xj {T ts r:List Tx}(h:T.drop p=ts++r):T.drop (p+ts.length)=r:=by
 rw [← List.drop_drop,h,List.drop_left]
theorem qa4 (m) (g) (N T) (p):call prog (m+1) "Reader.here" [.v (.ref g.length)] (rh g N T p)= .ok (.v (.str (tk T p))) (rh g N T p):=by
 rw [Gb rfl _ _ _ rfl]
 simp only [GT]
 show Gw _ (execs _ _ [y0 (.v (.ref g.length))] _)=_
 have z:Gz .lt (.v (.int p)) (.v (.int ((T.map D.str).length))) (rh g N T p)=y0 (k8 (p<T.length)):=by
  rw [wu,Ac4]
 have ln:biD .len [.v (.lst (T.map D.str))] (rh g N T p)= .ok (.v (.int ((T.map D.str).length))) (rh g N T p):=rfl
 have tt:Gp (v8 m) (.cmp .lt (.fld 0 "Reader" "place") (.bi .len (.cons (.fld 0 "Reader" "signs") .nil))) [some (.v (.ref g.length))] (rh g N T p)= .ok (decide (p<T.length)) (rh g N T p):=by
  simp_all [zv,qcp,jb7,if_true,ln,z,okv]
 by_cases q:p<T.length
 ·rw [decide_eq_true q]at tt
  rw [qr tt (Je rfl ?_),Ga _ _ _ rfl]
  simp_all [zv,qcp,jb7,if_true,jad,zo (T.map D.str) p (by simpa using q),qcb q]
 ·rw [decide_eq_false q]at tt
  rw [Ja tt,qa rfl,Ga _ _ _ rfl,qbT q]
theorem qbX (N T) (p q:Nat):putF "place" (.int (q:Int)) (rdF N T p)=rdF N T q:=rfl
theorem xbT (N T) (p):(rdF N T p).length<100:=by show 3<100;decide
theorem zbE (m) (g) (N T) (p):call prog (m+2) "Reader.take" [.v (.ref g.length)] (rh g N T p)= .ok (.v (.str (tk T p))) (rh g N T (p+1)):=by
 rw [Gb rfl _ _ _ rfl]
 simp only [GV]
 show Gw _ (execs _ _ [y0 (.v (.ref g.length)),k9] _)=_
 have e1:=xav (F:=(v8 (m+1))) (N:=N) (T:=T) (p:=p) (τ:= [y0 (.v (.ref g.length)),k9]) (m:= "here") (q:= "Reader.here") (es:= .nil) rfl rfl rfl
 have e1:=e1.trans (qa4 m g N T p)
 rw [za (τ1:= [y0 (.v (.ref g.length)),y0 (.v (.str (tk T p)))]) (by rw [exec,e1];rfl)]
 have e2:eval (v8 (m+1)) (.bin .add (.fld 0 "Reader" "place") (.int 1)) [some (.v (.ref g.length)),some (.v (.str (tk T p)))] (rh g N T p)= .ok (.v (.int (p+1:Nat))) (rh g N T p):=by
  have z:Gf .add p 1=y0 ((p+1:Nat):Int):=by rw [jh];rfl
  simp_all [zv,jb7,if_true,z]
 rw [za (τ1:= [y0 (.v (.ref g.length)),y0 (.v (.str (tk T p)))])]
 ·rw [qa rfl,Ga _ _ _ (xh g N T p (p+1))]
 ·rw [exec,e2]
  rw [R.toO_ok]
  show(match Ks (rh g N T p) (y0 (.v (.ref g.length)))with | some (r,c',fs)=>_ | none=>_)=_
  rw [zv]
  show(if _ then _ else _)=_
  rw [if_pos ⟨rfl,rfl,xbT N T p⟩,qbX,jbR]
section
variable {m:Nat}{g:AH}{N T:List Tx}{p:Nat}{τ:Sl}
theorem WN (h0:Gm τ 0=y0 (.v (.ref g.length))):eval (v8 (m+1)) (.mcall 0 "Reader" "here" "Reader.here" .nil) τ (rh g N T p)= .ok (.v (.str (tk T p))) (rh g N T p):=
 (xav (ws:= []) h0 rfl rfl).trans (qa4 m g N T p)
theorem jq (h0:Gm τ 0=y0 (.v (.ref g.length))):eval (v8 (m+2)) (.mcall 0 "Reader" "take" "Reader.take" .nil) τ (rh g N T p)= .ok (.v (.str (tk T p))) (rh g N T (p+1)):=
 (xav (ws:= []) h0 rfl rfl).trans (zbE m g N T p)
theorem Xy (h0:Gm τ 0=y0 (.v (.ref g.length))):exec (v8 (m+2)) (.ex (.mcall 0 "Reader" "take" "Reader.take" .nil)) τ (rh g N T p)= .next τ (rh g N T (p+1)):=by
 rw [exec,jq h0];rfl
theorem WB (t) (h0:Gm τ 0=y0 (.v (.ref g.length))):Gp (v8 (m+1)) (.cmp .eq (.mcall 0 "Reader" "here" "Reader.here" .nil) (.str t)) τ (rh g N T p)= .ok (tk T p==t) (rh g N T p):=by
 rw [Gp,eval,WN h0]
 simp only [R.bind_ok,eval,Jl,R.of_some,Gk,okv]
end
theorem wG (F) (τ) (h) (a b):eval F (.tup (.cons (.str a) (.cons (.str b) .nil))) τ h= .ok (.v (tsD [a,b])) h:=by
 simp_all [];rfl
theorem jaP (F) (τ) (h) (a b c):eval F (.tup (.cons (.str a) (.cons (.str b) (.cons (.str c) .nil)))) τ h= .ok (.v (tsD [a,b,c])) h:=by
 simp_all [];rfl
theorem qa1 (m) (g) (N T) (p) (t) (ht:tk T p=t):call prog (m+3) "Reader.take_just" [.v (.ref g.length),.v (.str t)] (rh g N T p)= .ok (.v .non) (rh g N T (p+1)):=by
 rw [Gb rfl _ _ _ rfl]
 simp only [GE]
 show Gw _ (execs _ _ [y0 (.v (.ref g.length)),y0 (.v (.str t))] _)=_
 have z:Gz .ne (.v (.str (tk T p))) (.v (.str t)) (rh g N T (p+1))=y0 false:=by
  rw [ht];simp [KH]
 have e1:Gp (v8 (m+2)) (.cmp .ne (.mcall 0 "Reader" "take" "Reader.take" .nil) (.var 1)) [some (.v (.ref g.length)),some (.v (.str t))] (rh g N T p)= .ok false (rh g N T (p+1)):=by
  rw [Gp,eval,jq rfl]
  simp only [R.bind_ok,eval,Gn,Gm,z,R.of_some,Gk,okv]
 rw [za (by rw [QN e1];rfl)]
 show Gw _ (.next _ _)=_
 rw [Kp _ _ _ (xh g N T p (p+1))]
theorem zb4 (m w:Nat) (h) (hw:w<20):call prog (m+1) "one_deeper" [.v (.int (w:Int))] h= .ok (.v (.int ((w+1:Nat):Int))) h:=by
 rw [Gb rfl _ _ _ rfl]
 have z:Gz .eq (.v (.int w)) (.v (.int 20)) h=y0 false:=by
  have:=Zg w 20 h
  rw [decide_eq_false (by omega)]at this
  exact this
 have z2:Gf .add w 1=y0 ((w+1:Nat):Int):=by rw [jh];rfl
 have cn:prog.con.lookup "MOST_WITHIN" =some (.int 20):=rfl
 simp_all [Kb,z,z2,cn]
theorem zG {w:Nat}(hw:w<20) (h0:Gm τ 0=y0 (.v (.ref g.length))) (h1:Gm τ 1=y0 (.v (.int (w:Int)))) (hm:((rdF N T p).lookup k).isNone=v9):
 eval (v8 (m+1)) (.mcall 0 "Reader" k q (.cons (.call "one_deeper" (.cons (.var 1) .nil)) .nil)) τ (rh g N T p)=call prog (m+1) q [.v (.ref g.length),.v (.int ((w+1:Nat):Int))] (rh g N T p):=by
 have e:Gi (v8 (m+1)) (.cons (.call "one_deeper" (.cons (.var 1) .nil)) .nil) τ (rh g N T p)= .ok [.v (.int (w+1:Nat))] (rh g N T p):=by
  simp only [Gi,eval,Gn,h1,R.bind_ok,Ac,Af6,W.arg_v,zb4 m w _ hw]
 rw [xav h0 hm e];rfl
theorem Qq (h0:Gm τ 0=y0 (.v (.ref g.length))) (h1:Gm τ i=y0 (.v w)) (hm:((rdF N T p).lookup k).isNone=v9):
 eval (v8 m) (.mcall 0 "Reader" k q (.cons (.var i) .nil)) τ (rh g N T p)=call prog m q [.v (.ref g.length),.v w] (rh g N T p):=by
 have e:Gi (v8 m) (.cons (.var i) .nil) τ (rh g N T p)= .ok [.v w] (rh g N T p):=by
  simp only [Gi,eval,Gn,h1,R.bind_ok,R.of_some]
 rw [xav h0 hm e];rfl
inductive TE (N:List Tx):Nat->Ex->List Tx->Nat->Prop
 | name {t:Tx}{n:Nat}(h:t∈N) (g:GoodN t):TE N 3 (.name t) [t] n
 | same {n:Nat}:TE N 3 .same [Qp] n
 | all {n:Nat}:TE N 3 .all [XC] n
 | none {n:Nat}:TE N 3 .none [xp] n
 | turned {a:Ex}{ts:List Tx}{n:Nat}(h:TE N 3 a ts n):TE N 3 (.turned a) ([126]::ts) (n+1)
 | closed {a:Ex}{ts:List Tx}{n:Nat}(h:TE N 3 a ts n):TE N 3 (.closed a) ([94]::ts) (n+1)
 | par {e:Ex}{ts:List Tx}{n:Nat}(h:TE N 0 e ts n):TE N 3 e ([40]::(ts++ [[41]])) (n+1)
 | up {l:Nat}{e:Ex}{ts:List Tx}{n:Nat}(hl:l<3) (h:TE N (l+1) e ts n):TE N l e ts n
 | plus {a b:Ex}{ts us:List Tx}{n:Nat}(h:TE N 0 a ts n) (k:TE N 1 b us n):TE N 0 (.plus a b) (ts++ [43]::us) n
 | less {a b:Ex}{ts us:List Tx}{n:Nat}(h:TE N 0 a ts n) (k:TE N 1 b us n):TE N 0 (.less a b) (ts++ [45]::us) n
 | both {a b:Ex}{ts us:List Tx}{n:Nat}(h:TE N 1 a ts n) (k:TE N 2 b us n):TE N 1 (.both a b) (ts++ [38]::us) n
 | joined {a b:Ex}{ts us:List Tx}{n:Nat}(h:TE N 2 a ts n) (k:TE N 3 b us n):TE N 2 (.joined a b) (ts++ [46]::us) n
theorem TE.wk (h:TE N l e ts n) (hm:n<=m):TE N l e ts m:=by
 induction h generalizing m with
 | name h g=>exact .name h g
 | same=>exact .same
 | all=>exact .all
 | none=>exact .none
 | turned _ ih=>obtain⟨k,rfl⟩: ∃k,m=k+1:=⟨m-1,by omega⟩;exact .turned (ih (by omega))
 | closed _ ih=>obtain⟨k,rfl⟩: ∃k,m=k+1:=⟨m-1,by omega⟩;exact .closed (ih (by omega))
 | par _ ih=>obtain⟨k,rfl⟩: ∃k,m=k+1:=⟨m-1,by omega⟩;exact .par (ih (by omega))
 | up hl _ ih=>exact .up hl (ih hm)
 | plus _ _ i1 i2=>exact .plus (i1 hm) (i2 hm)
 | less _ _ i1 i2=>exact .less (i1 hm) (i2 hm)
 | both _ _ i1 i2=>exact .both (i1 hm) (i2 hm)
 | joined _ _ i1 i2=>exact .joined (i1 hm) (i2 hm)
abbrev Lk (α:Type):=Tx×(α->α->α)×α×List Tx
def lkT {α:Type}:List (Lk α)->List Tx
 | []=> []
 | c::cs=>c.1::(c.2.2.2++lkT cs)
def lkE {α:Type}(e:α):List (Lk α)->α
 | []=>e
 | c::cs=>lkE (c.2.1 e c.2.2.1) cs
theorem J8 (xs ys:List (Lk α)):lkT (xs++ys)=lkT xs++lkT ys:=by
 induction xs with
 | nil=>rfl
 | cons c cs ih=>simp [lkT,ih]
theorem jat (xs ys:List (Lk α)): ∀e,lkE e (xs++ys)=lkE (lkE e xs) ys:=by
 induction xs with
 | nil=>intro e;rfl
 | cons c cs ih=>intro e;simp [lkE,ih]
noncomputable def opL (l:Nat) (t:Tx) (f:Ex->Ex->Ex):Prop:=(l=0/\(t= [43]/\f= .plus\/t= [45]/\f= .less))\/(l=1/\t= [38]/\f= .both)\/(l=2/\t= [46]/\f= .joined)
theorem TE.chain (h:TE N l e ts n):l<3-> ∃e0 ts0 cs,TE N (l+1) e0 ts0 n/\ts=ts0++lkT cs/\e=lkE e0 cs/\ ∀c∈cs,opL l c.1 c.2.1/\TE N (l+1) c.2.2.1 c.2.2.2 n:=by
 have snoc: ∀ {l}{a b}{ts us}{n}{t}{f},opL l t f->(∃ e0 ts0 cs,TE N (l+1) e0 ts0 n/\ts=ts0++lkT cs/\a=lkE e0 cs/\ ∀c∈cs,opL l c.1 c.2.1/\TE N (l+1) c.2.2.1 c.2.2.2 n)->TE N (l+1) b us n →
  ∃e0 ts0 cs,TE N (l+1) e0 ts0 n/\ts++t::us=ts0++lkT cs/\f a b=lkE e0 cs/\ ∀c∈cs,opL l c.1 c.2.1/\TE N (l+1) c.2.2.1 c.2.2.2 n:=by
  rintro l a b ts us n t f ho ⟨e0,ts0,cs,h1,rfl,rfl,h4⟩ hb
  refine⟨e0,ts0,cs++ [(t,f,b,us)],h1,?_,?_,λc hc=> ?_⟩
  ·rw [J8];simp [lkT]
  ·rw [jat];rfl
  ·rcases Ad2.mp hc with hc | hc
   ·exact h4 c hc
   ·rw [Ab5.mp hc];exact⟨ho,hb⟩
 induction h with
 | name h g=>intro hl;omega
 | same=>intro hl;omega
 | all=>intro hl;omega
 | none=>intro hl;omega
 | turned _ ih=>intro hl;omega
 | closed _ ih=>intro hl;omega
 | par _ ih=>intro hl;omega
 | up hl h ih=>intro _;exact⟨_,_,[],h,by simp [lkT],rfl,λc hc=>by cases hc⟩
 | plus _ k ih _=>intro _;exact snoc (.inl ⟨rfl,.inl ⟨rfl,rfl⟩⟩) (ih (by omega)) k
 | less _ k ih _=>intro _;exact snoc (.inl ⟨rfl,.inr ⟨rfl,rfl⟩⟩) (ih (by omega)) k
 | both _ k ih _=>intro _;exact snoc (.inr (.inl ⟨rfl,rfl,rfl⟩)) (ih (by omega)) k
 | joined _ k ih _=>intro _;exact snoc (.inr (.inr ⟨rfl,rfl,rfl⟩)) (ih (by omega)) k
def Stop (l:Nat) (r:List Tx):Prop:= ∀k f,l<=k-> ¬opL k (r.headD []) f
theorem Stop.up (h:Stop l r) (hk:l<=k):Stop k r:=λj f hj=>h j f (Ac7 hk hj)
theorem Stop.op (h:opL l t f):Stop (l+1) (t::r):=by
 intro k f' hk h'
 have h':opL k t f':=h'
 rcases h with⟨rfl,⟨rfl,_⟩ | ⟨rfl,_⟩⟩ | ⟨rfl,rfl,_⟩ | ⟨rfl,rfl,_⟩<;>rcases h' with⟨rfl,⟨h',_⟩ | ⟨h',_⟩⟩ | ⟨rfl,h',_⟩ | ⟨rfl,h',_⟩<;>first | omega | exact absurd h' (by decide)
noncomputable def RD (N:List Tx) (k:String) (l n m:Nat):Prop:= ∀(e:Ex) (ts:List Tx),TE N l e ts n-> ∀(g:AH) (T:List Tx) (p w:Nat) (r:List Tx),T.drop p=ts++r->Stop l r->w+n<=20->T.length<=90000 →
 call prog m k [.v (.ref g.length),.v (.int (w:Int))] (rh g N T p)= .ok (.v (exD e)) (rh g N T (p+ts.length))
theorem J7 (h:T.drop p=r):tk T p=r.headD []:=by
 cases r with
 | nil=>exact qbT (by have:=List.drop_eq_nil_iff.mp h;omega)
 | cons x r=>exact(Zb h).1
theorem qag {cs:List (Lk Ex)}(h: ∀c∈cs,∃f,opL l c.1 f) (s:Stop l r):Stop (l+1) (lkT cs++r):=by
 cases cs with
 | nil=>exact s.up (Ae _)
 | cons c cs=>
  obtain⟨f,hf⟩:=h c Aa8
  exact Stop.op hf
theorem za3 (cs:List (Lk α)):cs.length<=(lkT cs).length:=by
 induction cs with
 | nil=>exact Aa6 _
 | cons c cs ih=>simp [lkT];omega
theorem JU {T ts r:List Tx}(h:T.drop p=ts++r):ts.length<=T.length:=by
 have:=congrArg Ak0 h
 rw [Ag4,Aa1]at this
 omega
section
variable {N T:List Tx}{g:AH}{m n w:Nat}
abbrev rs (g:AH) (w:Nat) (x:Option W):Sl:= [y0 (.v (.ref g.length)),y0 (.v (.int (w:Int))),x]
theorem Z6 {H:Nat->AH}{τ:α->Option W->Sl}{Ok:Lk α->Prop}{St St':List Tx->Prop}
 (tt: ∀e y p l r,Ok l->T.drop p=l.1::r->c (τ e y) (H p)= .ok v9 (H p)) (tf: ∀e y p r,T.drop p=r->St r->c (τ e y) (H p)= .ok u9 (H p))
 (stp: ∀e y p l r,Ok l->T.drop p=l.1::(l.2.2.2++r)->St' r-> ∃y',bd (τ e y) (H p)= .next (τ (l.2.1 e l.2.2.1) y') (H (p+1+l.2.2.2.length))) (s1: ∀r,St r->St' r) (s2: ∀l r,Ok l->St' (l.1::r)):
 ∀ cs,(∀ l∈cs,Ok l)-> ∀ f e y p r,cs.length<f->T.drop p=lkT cs++r->St r-> ∃y',Kr c bd f (τ e y) (H p)= .next (τ (lkE e cs) y') (H (p+(lkT cs).length))
 | [],_,f+1,e,y,p,r,_,hd,st=>⟨y,by rw [Kr,tf e y p r hd st];rfl⟩
 | l::cs,hc,f+1,e,y,p,r,hf,hd,st=>by
  have hd:T.drop p=l.1::(l.2.2.2++(lkT cs++r)):=by rw [hd];simp [lkT]
  have hn:St' (lkT cs++r):=by
   cases cs with
   | nil=>exact s1 r st
   | cons l' cs=>exact s2 l' _ (hc l' (Aa7 _ Aa8))
  obtain⟨y1,e1⟩:=stp e y p l _ (hc l Aa8) hd hn
  obtain⟨y',ih⟩:=Z6 tt tf stp s1 s2 cs (λl q=>hc l (Aa7 _ q)) f (l.2.1 e l.2.2.1) y1 (p+1+l.2.2.2.length) r (by simp at hf;omega) (xj (Zb hd).2) st
  refine⟨y',?_⟩
  rw [Kr,tt e y p l _ (hc l Aa8) hd,R.toO_ok]
  simp only [e1]
  rw [ih]
  simp only [lkE,lkT,Aa4,Aa1]
  rw [show p+1+l.2.2.2.length+(lkT cs).length=p+(l.2.2.2.length+(lkT cs).length+1)by omega]
theorem qaD {α:Type}{dD:α->D}{nm k q:String}{o s:Tx}{F:α->α->α}(hd:prog.fns.lookup nm=y0 ⟨2,3,.cons (.setf 2 (.mcall 0 "Reader" k q (.cons (.var 1) .nil))) (.cons (.whl 100000 (.cmp .eq (.mcall 0 "Reader" "here" "Reader.here" .nil) (.str o)) (.cons (.ex (.mcall 0 "Reader" "take" "Reader.take" .nil)) (.cons (.setf 2 (.tup (.cons (.str s) (.cons (.var 2) (.cons (.mcall 0 "Reader" k q (.cons (.var 1) .nil)) .nil))))) .nil))) (.cons (.ret (.var 2)) .nil))⟩)
 (hk: ∀p,((rdF N T p).lookup k).isNone=v9) (hF: ∀a b,dD (F a b)= .tup [.str s,dD a,dD b]){Q:α->List Tx->Prop}{St St':List Tx->Prop}(hA: ∀b us,Q b us-> ∀p r,T.drop p=us++r->St' r->call prog (m+2) q [.v (.ref g.length),.v (.int (w:Int))] (rh g N T p)= .ok (.v (dD b)) (rh g N T (p+us.length)))
 (ho: ∀r,St r->r.headD []≠o) (s1: ∀r,St r->St' r) (s2: ∀r,St' (o::r)) (hT:T.length<=90000){e0:α}{ts0:List Tx}{cs:List (Lk α)}(h1:Q e0 ts0) (h4: ∀c∈cs,(c.1=o/\c.2.1=F)/\Q c.2.2.1 c.2.2.2){p:Nat}{r:List Tx}(hp:T.drop p=(ts0++lkT cs)++r) (st:St r):
 call prog (m+3) nm [.v (.ref g.length),.v (.int (w:Int))] (rh g N T p)= .ok (.v (dD (lkE e0 cs))) (rh g N T (p+(ts0++lkT cs).length)):=by
 have hd':T.drop p=ts0++(lkT cs++r):=by rw [hp,Af3]
 have hn:St' (lkT cs++r):=by
  cases cs with
  | nil=>exact s1 r st
  | cons l' cs=>
   have:=(h4 l' Aa8).1.1
   show St' (l'.1::_)
   rw [this];exact s2 _
 have hl:=JU (xj hd')
 rw [Gb hd _ _ _ rfl]
 show Gw _ (execs _ _ (rs g w k9) _)=_
 have e1:=(Qq (m:=m+2) (g:=g) (N:=N) (T:=T) (p:=p) (τ:=rs g w k9) (q:=q) (k:=k) (i:=1) rfl rfl (hk p)).trans (hA e0 ts0 h1 p _ hd' hn)
 rw [za (τ1:=rs g w (y0 (.v (dD e0)))) (h1:=rh g N T (p+ts0.length)) (by rw [exec,e1];rfl)]
 obtain⟨y',lp⟩:=Z6 (T:=T) (H:=rh g N T) (τ:=λe _=>rs g w (y0 (.v (dD e)))) (Ok:=λc=>(c.1=o/\c.2.1=F)/\Q c.2.2.1 c.2.2.2) (St:=St) (St':=St')
  (c:=fun τ h=>Gp (v8 (m+2)) (.cmp .eq (.mcall 0 "Reader" "here" "Reader.here" .nil) (.str o)) τ h) (bd:=fun τ h=>execs (v8 (m+2)) (.cons (.ex (.mcall 0 "Reader" "take" "Reader.take" .nil)) (.cons (.setf 2 (.tup (.cons (.str s) (.cons (.var 2) (.cons (.mcall 0 "Reader" k q (.cons (.var 1) .nil)) .nil))))) .nil)) τ h)
  (λe y p l r ok hd=>by show Gp _ _ _ _=_;rw [WB o rfl,(Zb hd).1,ok.1.1];simp)
  (λe y p r hd st=>by show Gp _ _ _ _=_;rw [WB o rfl,J7 hd,show(r.headD []==o)=u9 from beq_eq_false_iff_ne.mpr (ho r st)])
  (λe y p l r ok hd hs=>⟨k9,by
    show execs _ _ _ _=_
    rw [za (Xy rfl)]
    have e1:=(Qq (m:=m+2) (g:=g) (N:=N) (T:=T) (p:=p+1) (τ:=rs g w (y0 (.v (dD e)))) (q:=q) (k:=k) (i:=1) rfl rfl (hk _)).trans (hA _ _ ok.2 (p+1) r (Zb hd).2 hs)
    have e2:eval (v8 (m+2)) (.tup (.cons (.str s) (.cons (.var 2) (.cons (.mcall 0 "Reader" k q (.cons (.var 1) .nil)) .nil)))) (rs g w (some (.v (dD e)))) (rh g N T (p+1))= .ok (.v (dD (l.2.1 e l.2.2.1))) (rh g N T (p+1+l.2.2.2.length)):=by
     rw [ok.1.2,hF,eval,Gj,eval]
     simp only [okv,R.bind_ok,W.d_v,R.of_some,Gj]
     rw [show eval (v8 (m+2)) (.var 2) (rs g w (y0 (.v (dD e)))) (rh g N T (p+1))= .ok (.v (dD e)) (rh g N T (p+1))from rfl]
     simp only [R.bind_ok,W.d_v,R.of_some]
     rw [e1];rfl
    rw [za (τ1:=rs g w (y0 (.v (dD (l.2.1 e l.2.2.1))))) (h1:=rh g N T (p+1+l.2.2.2.length)) (by rw [exec,e2];rfl)]
    rfl⟩)
  s1 (λl r ok=>by rw [ok.1.1];exact s2 r) cs h4 100000 e0 k9 (p+ts0.length) r (by have:=za3 cs;omega) (xj hd') st
 rw [za (τ1:=rs g w (y0 (.v (dD (lkE e0 cs))))) (h1:=rh g N T (p+ts0.length+(lkT cs).length)) (by rw [exec];exact lp)]
 rw [qa (w:= .v (dD (lkE e0 cs))) (h1:=rh g N T (p+ts0.length+(lkT cs).length)) rfl,Ga _ _ _ (xh ..),Aa1,Nat.add_assoc]
theorem XI (hA:RD N "Reader.atom" 3 n (m+2)):RD N "Reader.factor" 2 n (m+3):=by
 intro e ts ht g T p w r hd st hw hT
 obtain⟨e0,ts0,cs,h1,rfl,rfl,h4⟩:=ht.chain (by decide)
 refine qaD (dD:=exD) (F:= .joined) rfl (λ_=>rfl) (λ_ _=>rfl) (λb us hb p r hd st=>hA b us hb g T p w r hd st hw hT) (λr st z=>st 2 .joined (Aa6 _) (.inr (.inr ⟨rfl,z,rfl⟩))) (λr s=>s.up (Ae _)) (λr=>Stop.op (.inr (.inr ⟨rfl,rfl,rfl⟩))) hT h1 (λc hc=>⟨?_,(h4 c hc).2⟩) hd st
 rcases (h4 c hc).1 with⟨h,_⟩ | ⟨h,_⟩ | ⟨_,h⟩
 ·omega
 ·omega
 ·exact h
theorem Q9 (hA:RD N "Reader.factor" 2 n (m+2)):RD N "Reader.term" 1 n (m+3):=by
 intro e ts ht g T p w r hd st hw hT
 obtain⟨e0,ts0,cs,h1,rfl,rfl,h4⟩:=ht.chain (by decide)
 refine qaD (dD:=exD) (F:= .both) rfl (λ_=>rfl) (λ_ _=>rfl) (λb us hb p r hd st=>hA b us hb g T p w r hd st hw hT) (λr st z=>st 1 .both (Aa6 _) (.inr (.inl ⟨rfl,z,rfl⟩))) (λr s=>s.up (Ae _)) (λr=>Stop.op (.inr (.inl ⟨rfl,rfl,rfl⟩))) hT h1 (λc hc=>⟨?_,(h4 c hc).2⟩) hd st
 rcases (h4 c hc).1 with⟨h,_⟩ | ⟨_,h⟩ | ⟨h,_⟩
 ·omega
 ·exact h
 ·omega
end
section
variable {N T:List Tx}{g:AH}{m n w:Nat}
abbrev rs4 (g:AH) (w:Nat) (x y:Option W):Sl:= [y0 (.v (.ref g.length)),y0 (.v (.int (w:Int))),x,y]
theorem zcp (h0:Gm τ 0=y0 (.v (.ref g.length))):Gp (v8 (m+2)) jc τ (rh g N T p)= .ok (k8 (tk T p∈ [[43],[45]])) (rh g N T p):=by
 simp only [jc]
 rw [Gp,eval,WN h0]
 simp only [R.bind_ok,wG,Qt,R.of_some,Gk]
theorem zbt (hA:RD N "Reader.term" 1 n (m+2)) (hw:w+n<=20) (hT:T.length<=90000): ∀ cs,(∀ c∈cs,opL 0 c.1 c.2.1/\TE N 1 c.2.2.1 c.2.2.2 n)-> ∀ f e y p r,cs.length<f->T.drop p=lkT cs++r->Stop 0 r →
 ∃y',Kr (λτ h=>Gp (v8 (m+2)) jc τ h) (λτ h=>execs (v8 (m+2)) xc τ h) f (rs4 g w (y0 (.v (exD e))) y) (rh g N T p)= .next (rs4 g w (y0 (.v (exD (lkE e cs)))) y') (rh g N T (p+(lkT cs).length)):=by
 refine Z6 (λe y p l r ok hd=> ?_) (λe y p r hd st=> ?_) (λe y p l r ok hd hs=> ?_) (λr s=>s.up (Ae _)) λl r ok=>Stop.op ok.1
 ·show Gp _ _ _ _=_
  rw [zcp rfl,(Zb hd).1]
  rcases ok.1 with⟨_,⟨z,_⟩ | ⟨z,_⟩⟩ | ⟨h,_⟩ | ⟨h,_⟩
  ·rw [z];rfl
  ·rw [z];rfl
  ·omega
  ·omega
 ·have ne:k8 (tk T p∈ [[43],[45]])=false:=by
   rw [J7 hd]
   refine decide_eq_false λq=> ?_
   simp only [Aa,Aa2,or_false]at q
   rcases q with q | q
   ·exact st 0 .plus (Aa6 _) (.inl ⟨rfl,.inl ⟨q,rfl⟩⟩)
   ·exact st 0 .less (Aa6 _) (.inl ⟨rfl,.inr ⟨q,rfl⟩⟩)
  show Gp _ _ _ _=_
  rw [zcp rfl,ne]
 ·obtain⟨t,fn,b,us⟩:=l
  have ho:opL 0 t fn:=ok.1
  obtain⟨d1,d2⟩:=Zb hd
  have ea:=hA b us ok.2 g T (p+1) w r d2 hs hw hT
  obtain⟨z,hz⟩: ∃s:Tx,Pb [([43],.str zh),([45],.str zg),([126],.str xb),([94],.str jb),([105,110],.str [105,110]),([61],.str [101,113,117,97,108])] (.v (.str t)) (rh g N T (p+1))= .ok (.v (.str s)) (rh g N T (p+1))/\ .tup [.str s,exD e,exD b]=exD (fn e b):=by
   rcases ho with⟨_,⟨rfl,rfl⟩ | ⟨rfl,rfl⟩⟩ | ⟨h,_⟩ | ⟨h,_⟩
   ·exact⟨zh,rfl,rfl⟩
   ·exact⟨zg,rfl,rfl⟩
   ·omega
   ·omega
  have b1:execs (v8 (m+2)) xc (rs4 g w (y0 (.v (exD e))) y) (rh g N T p)= .next (rs4 g w (y0 (.v (exD (fn e b)))) (y0 (.v (.str z)))) (rh g N T (p+1+us.length)):=by
   simp only [xc]
   rw [za (τ1:=rs4 g w (y0 (.v (exD e))) (y0 (.v (.str z)))) (h1:=rh g N T (p+1))]
   ·have e1:=Qq (m:=m+2) (N:=N) (T:=T) (p:=p+1) (τ:=rs4 g w (y0 (.v (exD e))) (y0 (.v (.str z)))) (q:= "Reader.term") (k:= "term") (i:=1) rfl rfl rfl
    rw [ea]at e1
    rw [← hz.2]
    simp only [execs,exec,eval,Gj,Gn,Gm,R.bind_ok,R.of_some,W.d_v]at e1 ⊢
    simp only [e1,R.bind_ok,R.toO_ok,R.of_some,W.d_v]
    rfl
   ·have e0:eval (v8 (m+2)) (.tix "SORTS" (.mcall 0 "Reader" "take" "Reader.take" .nil)) (rs4 g w (some (.v (exD e))) y) (rh g N T p)= .ok (.v (.str z)) (rh g N T (p+1)):=by
     rw [eval,show(v8 (m+2)).con.lookup "SORTS" =some (.exc "" [([43],.str zh),([45],.str zg),([126],.str xb),([94],.str jb),([105,110],.str [105,110]),([61],.str [101,113,117,97,108])])from rfl]
     show((eval _ _ _ _).bind _)=_
     rw [jq rfl,d1,R.bind_ok,hz.1]
    rw [exec,e0];rfl
  exact⟨_,b1⟩
theorem X7 (hA:RD N "Reader.term" 1 n (m+2)):RD N "Reader.expression" 0 n (m+3):=by
 intro e ts ht g T p w r hd st hw hT
 obtain⟨e0,ts0,cs,h1,rfl,rfl,h4⟩:=ht.chain (by decide)
 have hd':T.drop p=ts0++(lkT cs++r):=by rw [hd,Af3]
 have hs:=qag (λc q=>⟨_,(h4 c q).1⟩) st
 have ea:=hA e0 ts0 h1 g T p w _ hd' hs hw hT
 have hl:=JU (xj hd')
 rw [Gb rfl _ _ _ rfl]
 simp only [GB]
 show Gw _ (execs _ _ (rs4 g w k9 k9) _)=_
 have e1:=Qq (m:=m+2) (N:=N) (T:=T) (p:=p) (τ:=rs4 g w k9 k9) (q:= "Reader.term") (k:= "term") (i:=1) rfl rfl rfl
 rw [ea]at e1
 rw [za (by rw [exec,e1];rfl)]
 obtain⟨y',lp⟩:=zbt hA hw hT cs h4 100000 e0 k9 _ r (by have:=za3 cs;omega) (xj hd') st
 rw [za (τ1:=rs4 g w (y0 (.v (exD (lkE e0 cs)))) y')]
 ·rw [qa (h1:=rh g N T (p+ts0.length+(lkT cs).length)) rfl,Ga _ _ _ (xh ..),Aa1,Nat.add_assoc]
 ·rw [exec]
  exact lp
end
noncomputable abbrev zaZ:List (Tx×D):= [([43],.str zh),([45],.str zg),([126],.str xb),([94],.str jb),([105,110],.str [105,110]),([61],.str [101,113,117,97,108])]
theorem jK (m):(v8 m).con.lookup "SORTS" =some (.exc "" zaZ):=rfl
theorem Zh (e:Gm τ i=y0 (.v d)):eval F (.var i) τ h= .ok (.v d) h:=by
 rw [eval,Gn,e]
theorem jj (e:Gm τ i=y0 (.v (.str t))) (a b):Gp F (.cmp .mem (.var i) (.tup (.cons (.str a) (.cons (.str b) .nil)))) τ h= .ok (k8 (t∈ [a,b])) h:=by
 rw [Gp,eval,Zh e,R.bind_ok,wG,R.bind_ok,Qt];rfl
theorem jaW (e:Gm τ i=y0 (.v (.str t))) (a b c):Gp F (.cmp .mem (.var i) (.tup (.cons (.str a) (.cons (.str b) (.cons (.str c) .nil))))) τ h= .ok (k8 (t∈ [a,b,c])) h:=by
 rw [Gp,eval,Zh e,R.bind_ok,jaP,R.bind_ok,Qt];rfl
theorem jaQ (e:Gm τ i=y0 (.v (.str t))) (a):Gp F (.cmp .eq (.var i) (.str a)) τ h= .ok (t==a) h:=by
 rw [Gp,eval,Zh e,R.bind_ok,eval]
 simp only [R.bind_ok,Jl,R.of_some,Gk]
theorem qa2 (hc:F.con.lookup "SORTS" =some (.exc "" zaZ)) (e:eval F a τ h= .ok (.v (.str t)) h1) (ht:(t,s)∈ [(([43]:Tx),zh),([45],zg),([126],xb),([94],jb),([105,110],jt),([61],Qd)]):eval F (.tix "SORTS" a) τ h= .ok (.v (.str s)) h1:=by
 rw [eval,hc]
 show((eval _ _ _ _).bind _)=_
 rw [e,R.bind_ok]
 simp only [Aa,Aa2,or_false,Prod.mk.injEq]at ht
 rcases ht with⟨rfl,rfl⟩ | ⟨rfl,rfl⟩ | ⟨rfl,rfl⟩ | ⟨rfl,rfl⟩ | ⟨rfl,rfl⟩ | ⟨rfl,rfl⟩<;>rfl
theorem GoodN.not (h:GoodN t):t∉ [([126]:Tx),[94]]/\(t==([40]:Tx))=u9/\t∉ [Qp,XC,xp]:=by
 refine⟨λq=> ?_,beq_eq_false_iff_ne.mpr λq=> ?_,λq=>h.free ?_⟩
 ·simp only [Aa,Aa2,or_false]at q
  rcases q with rfl | rfl
  ·have:=h.let_ 126 (by simp);omega
  ·have:=h.let_ 94 (by simp);omega
 ·subst q;have:=h.let_ 40 (by simp);omega
 ·simp only [Aa,Aa2,or_false]at q
  rcases q with rfl | rfl | rfl<;>decide
section
variable {N T:List Tx}{g:AH}{m n w:Nat}
noncomputable abbrev atB:Ss:= .cons (.iff (.cmp .mem (.var 2) (.tup (.cons (.str [126]) (.cons (.str [94]) .nil)))) (.cons (.ret (.tup (.cons (.tix "SORTS" (.var 2)) (.cons (.mcall 0 "Reader" "atom" "Reader.atom" (.cons (.call "one_deeper" (.cons (.var 1) .nil)) .nil)) .nil)))) .nil) .nil) (.cons (.iff (.cmp .eq (.var 2) (.str [40])) (.cons (.setf 3 (.mcall 0 "Reader" "expression" "Reader.expression" (.cons (.call "one_deeper" (.cons (.var 1) .nil)) .nil))) (.cons (.ex (.mcall 0 "Reader" "take_just" "Reader.take_just" (.cons (.str [41]) .nil))) (.cons (.ret (.var 3)) .nil))) .nil) (.cons (.iff (.cmp .mem (.var 2) (.tup (.cons (.str [115,97,109,101]) (.cons (.str [97,108,108]) (.cons (.str [110,111,110,101]) .nil))))) (.cons (.ret (.tup (.cons (.var 2) .nil))) .nil) .nil) (.cons (.iff (.cmp .mem (.var 2) (.fld 0 "Reader" "names")) (.cons (.ret (.tup (.cons (.str [110,97,109,101]) (.cons (.var 2) .nil)))) .nil) .nil) (.cons .nope .nil))))
theorem zm (p) (t) (ht:tk T p=t)(hb:execs (v8 (m+3)) atB (rs4 g w (y0 (.v (.str t))) k9) (rh g N T (p+1))= .ret (.v v) (rh g N T q)):
 call prog (m+4) "Reader.atom" [.v (.ref g.length),.v (.int (w:Int))] (rh g N T p)= .ok (.v v) (rh g N T q):=by
 rw [Gb rfl _ _ _ rfl]
 simp only [GR]
 rw [za (τ1:=rs4 g w (y0 (.v (.str t))) k9) (by rw [exec,jq rfl,ht];rfl)]
 rw [hb,Ga _ _ _ (xh ..)]
theorem XQ (p) (t) (h1:k8 (t∈ [([126]:Tx),[94]])=u9) (h2:(t==([40]:Tx))=u9) (h3:t∈ [Qp,XC,xp]):execs (v8 (m+3)) atB (rs4 g w (y0 (.v (.str t))) k9) (rh g N T p)= .ret (.v (.tup [.str t])) (rh g N T p):=by
 rw [Ja (by rw [jj rfl,h1]),Ja (by rw [jaQ rfl,h2]),qr (by rw [jaW rfl,decide_eq_true h3])]
 exact Je rfl rfl
theorem xbp (p) (t) (ht:t∈N) (h:GoodN t):execs (v8 (m+3)) atB (rs4 g w (y0 (.v (.str t))) k9) (rh g N T p)= .ret (.v (.tup [.str wJ,.str t])) (rh g N T p):=by
 obtain⟨h1,h2,h3⟩:=h.not
 have tt:Gp (v8 (m+3)) (.cmp .mem (.var 2) (.fld 0 "Reader" "names")) (rs4 g w (some (.v (.str t))) none) (rh g N T p)= .ok true (rh g N T p):=by
  rw [Gp,eval,Zh rfl,R.bind_ok,zcb rfl,R.bind_ok,Qt,decide_eq_true ht];rfl
 rw [Ja (by rw [jj rfl,decide_eq_false h1]),Ja (by rw [jaQ rfl,h2]),Ja (by rw [jaW rfl,decide_eq_false h3]),qr tt]
 exact Je rfl rfl
theorem Z1 (p q) (t s) (a) (hs:(t,s)∈ [(([126]:Tx),xb),([94],jb)]) (hw:w<20) (ea:call prog (m+3) "Reader.atom" [.v (.ref g.length),.v (.int ((w+1:Nat):Int))] (rh g N T p)= .ok (.v (exD a)) (rh g N T q)):
 execs (v8 (m+3)) atB (rs4 g w (y0 (.v (.str t))) k9) (rh g N T p)= .ret (.v (.tup [.str s,exD a])) (rh g N T q):=by
 have hs1:k8 (t∈ [[126],[94]])=v9/\(t,s)∈ [([43],zh),([45],zg),([126],xb),([94],jb),([105,110],jt),([61],Qd)]:=by
  simp only [Aa,Aa2,or_false,Prod.mk.injEq]at hs
  rcases hs with⟨rfl,rfl⟩ | ⟨rfl,rfl⟩<;>exact⟨by decide,by decide⟩
 have e1:=zG (m:=m+2) (N:=N) (T:=T) (p:=p) (τ:=rs4 g w (y0 (.v (.str t))) k9) (q:= "Reader.atom") (k:= "atom") hw rfl rfl rfl
 have e1:=e1.trans ea
 have e0:eval (v8 (m+3)) (.tix "SORTS" (.var 2)) (rs4 g w (some (.v (.str t))) none) (rh g N T p)= .ok (.v (.str s)) (rh g N T p):=qa2 (jK _) (Zh rfl) hs1.2
 refine qa ?_
 rw [Wo (by rw [jj rfl,hs1.1])]
 refine qa (Je rfl ?_)
 rw [eval,Gj,e0]
 simp only [R.bind_ok,W.d_v,R.of_some,Gj]
 rw [show eval (v8 (m+3)) (.mcall 0 "Reader" "atom" "Reader.atom" (.cons (.call "one_deeper" (.cons (.var 1) .nil)) .nil)) (rs4 g w (some (.v (.str t))) none) (rh g N T p)= .ok (.v (exD a)) (rh g N T q)from e1]
 rfl
theorem qbQ (p q) (e) (hw:w<20) (hq:tk T q= [41]) (ea:call prog (m+3) "Reader.expression" [.v (.ref g.length),.v (.int ((w+1:Nat):Int))] (rh g N T p)= .ok (.v (exD e)) (rh g N T q)):
 execs (v8 (m+3)) atB (rs4 g w (y0 (.v (.str [40]))) k9) (rh g N T p)= .ret (.v (exD e)) (rh g N T (q+1)):=by
 have e1:=(zG (τ:=rs4 g w (y0 (.v (.str [40]))) k9) (k:= "expression") hw rfl rfl rfl).trans ea
 have e2:=(xav (F:=(v8 (m+3))) (τ:=rs4 g w (y0 (.v (.str [40]))) (y0 (.v (exD e)))) (m:= "take_just") (q:= "Reader.take_just") (es:= .cons (.str [41]) .nil) rfl rfl rfl).trans (qa1 m g N T q [41] hq)
 rw [Ja (by rw [jj rfl];rfl)]
 refine qa ?_
 rw [Wo (by rw [jaQ rfl];rfl)]
 rw [za (τ1:=rs4 g w (y0 (.v (.str [40]))) (y0 (.v (exD e)))) (by rw [exec,e1];rfl)]
 rw [za (by rw [exec,e2];rfl)]
 exact qa rfl
theorem j5 (hA: ∀k,n=k+1->RD N "Reader.atom" 3 k (m+3)/\RD N "Reader.expression" 0 k (m+3)):RD N "Reader.atom" 3 n (m+4):=by
 intro e ts ht g T p w r hd st hw hT
 cases ht with
 | name h gd=>
  obtain⟨d1,d2⟩:=Zb (hd)
  exact zm p _ d1 (xbp (p+1) _ h gd)
 | same=>
  obtain⟨d1,d2⟩:=Zb (hd)
  exact zm p _ d1 (XQ (p+1) _ rfl rfl (by decide))
 | all=>
  obtain⟨d1,d2⟩:=Zb (hd)
  exact zm p _ d1 (XQ (p+1) _ rfl rfl (by decide))
 | none=>
  obtain⟨d1,d2⟩:=Zb (hd)
  exact zm p _ d1 (XQ (p+1) _ rfl rfl (by decide))
 | @turned a ts n h=>
  obtain⟨d1,d2⟩:=Zb (show T.drop p=_::(ts++r)from hd)
  have ea:=(hA n rfl).1 a ts h g T (p+1) (w+1) r d2 st (by omega) hT
  rw [Aa4,show p+(ts.length+1)=p+1+ts.length by omega]
  exact zm p _ d1 (Z1 (p+1) _ _ _ a (by decide) (by omega) ea)
 | @closed a ts n h=>
  obtain⟨d1,d2⟩:=Zb (show T.drop p=_::(ts++r)from hd)
  have ea:=(hA n rfl).1 a ts h g T (p+1) (w+1) r d2 st (by omega) hT
  rw [Aa4,show p+(ts.length+1)=p+1+ts.length by omega]
  exact zm p _ d1 (Z1 (p+1) _ _ _ a (by decide) (by omega) ea)
 | @par _ ts n h=>
  have hd:T.drop p= [40]::(ts++([41]::r)):=by rw [hd];simp
  obtain⟨d1,d2⟩:=Zb hd
  have hs:Stop 0 ([41]::r):=by
   intro k f _ q
   have q:opL k [41] f:=q
   rcases q with⟨_,⟨q,_⟩ | ⟨q,_⟩⟩ | ⟨_,q,_⟩ | ⟨_,q,_⟩<;>exact absurd q (by decide)
  have ea:=(hA n rfl).2 e ts h g T (p+1) (w+1) _ d2 hs (by omega) hT
  have d3:=(Zb (xj d2)).1
  rw [Aa4,Aa1,Ai1,show p+(ts.length+1+1)=p+1+ts.length+1 by omega]
  exact zm p _ d1 (qbQ (p+1) _ e (by omega) d3 ea)
 | up hl h=>omega
end
theorem xaZ (N): ∀ n m,RD N "Reader.atom" 3 n (4*n+m+4)/\RD N "Reader.factor" 2 n (4*n+m+5)/\RD N "Reader.term" 1 n (4*n+m+6)/\RD N "Reader.expression" 0 n (4*n+m+7):=by
 intro n
 induction n with
 | zero=>
  intro m
  have a:RD N "Reader.atom" 3 0 (4*0+m+4):=j5 fun k h=>by omega
  have b:=XI a
  have c:=Q9 b
  exact⟨a,b,c,X7 c⟩
 | succ n ih=>
  intro m
  have a:RD N "Reader.atom" 3 (n+1) (4*(n+1)+m+4):=by
   refine j5 λk h=> ?_
   obtain rfl:n=k:=by omega
   refine⟨?_,?_⟩
   ·have:=(ih (m+3)).1
    rwa [show 4*n+(m+3)+4=4*(n+1)+m+3 by omega]at this
   ·have:=(ih m).2.2.2
    rwa [show 4*n+m+7=4*(n+1)+m+3 by omega]at this
  have b:=XI a
  have c:=Q9 b
  exact⟨a,b,c,X7 c⟩
def dg (m:Nat):Tx:=(Nat.toDigits 10 m).map Char.toNat
theorem ju (m:Nat):intT (m:Int)=dg m:=by
 show(Nat.repr m).toList.map Char.toNat=_
 rw [Nat.toList_repr];rfl
theorem xaj: ∀k,k<100->1<=(dg k).length/\(dg k).length<=2/\(∀ c∈dg k,48<=c/\c<=57)/\((dg k== [48])=v9\/(k8 ((dg k).head? =y0 48))=u9)/\(Ac0 100).find? (λn=>k8 (dg n=dg k))=y0 k:=by decide +kernel
theorem jbS (k) (hk:k<100):jb6 (dg k)=y0 k:=by
 unfold jb6
 have:(λn:Nat=>k8 (intT n=dg k))=λn=>k8 (dg n=dg k):=by
  funext n;rw [ju]
 rw [this]
 exact(xaj k hk).2.2.2.2
theorem jbm (c) (h) (hc:48<=c/\c<=57):Gz .mem (.v (.str [c])) (.v (.str [48,49,50,51,52,53,54,55,56,57])) h=y0 true:=by
 have: ∀c,c<58->48<=c-> [48,49,50,51,52,53,54,55,56,57].contains c=true:=by decide
 exact congrArg y0 (this c (by omega) hc.1)
theorem zP:prog.con.lookup "FIGURES" =some (.str [48,49,50,51,52,53,54,55,56,57]):=rfl
theorem xbg:prog.con.lookup "MOST_FIGURES" =some (.int 2):=rfl
theorem wT (n):KR (Aa0 n (.bl v9))=y0 (Aa0 n v9):=by
 induction n with
 | zero=>rfl
 | succ n ih=>rw [Ac8,KR,ih];rfl
theorem zaz (m k) (hk:k<100) (x) (h):eval (v8 m) (.bi .all (.cons Wc .nil)) [y0 (.v (.str (dg k))),x] h= .ok (.v (.bl v9)) h:=by
 obtain⟨h1,h2,h3,_⟩:=xaj k hk
 have e1:eval (v8 m) Wc [y0 (.v (.str (dg k))),x] h= .ok (.own ((chs (dg k)).map λ_=> .bl v9)) h:=by
  rw [Wc,jo (ds:=chs (dg k)) (λ_=> .bl v9) (by simp_all []) (by rw [Gc];simp [chs];omega)]
  intro d hd
  obtain⟨c,hc,rfl⟩:=Ae3.mp hd
  refine⟨[y0 (.v (.str [c]))],rfl,.v (.bl v9),?_,rfl⟩
  simp_all [zP,jbm c h (h3 c hc)]
 rw [eval,Gi,e1]
 have e2:(chs (dg k)).map (λ_=>D.bl v9)=Aa0 (chs (dg k)).length (.bl v9):=List.map_const' ..
 simp only [e2]
 show((R.of h ((W.lst? h (.own _)).bind KR)).bind _)=_
 rw [show W.lst? h (.own (Aa0 (chs (dg k)).length (D.bl v9)))=y0 (Aa0 (chs (dg k)).length (D.bl v9))from rfl,Ad6,wT]
 have: ∀n,(Aa0 n v9).all id=true:=by intro n;simp
 simp [this,okv]
theorem J1 (m k) (hk:k<100) (h):call prog (m+1) "is_written" [.v (.str (dg k)),.v (.int 2)] h= .ok (.v (.bl true)) h:=by
 obtain⟨h1,h2,h3,h4,_⟩:=xaj k hk
 rw [Gb rfl _ _ _ rfl]
 simp only [G9]
 show Gw _ (execs _ _ [y0 (.v (.str (dg k))),y0 (.v (.int 2))] h)=_
 have z1:Gz .le (.v (.int 1)) (.v (.int ((dg k).length))) h=y0 true:=by
  show y0 (decide _)=_
  congr 1;exact decide_eq_true (by omega)
 have z2:Gz .le (.v (.int ((dg k).length))) (.v (.int 2)) h=y0 true:=by
  show y0 (decide _)=_
  congr 1;exact decide_eq_true (by omega)
 have ln:biD .len [.v (.str (dg k))] h= .ok (.v (.int ((dg k).length))) h:=by
  show(if _ then _ else _)=_
  rw [if_pos (by rw [Gc];omega)]
 have tt:Gp (v8 m) (.or (.not (.chain .le .le (.int 1) (.bi .len (.cons (.var 0) .nil)) (.var 1))) (.not (.bi .all (.cons Wc .nil)))) [y0 (.v (.str (dg k))),y0 (.v (.int 2))] h= .ok u9 h:=by
  have e2:=zaz m k hk (y0 (.v (.int 2))) h
  have e1:eval (v8 m) (.chain .le .le (.int 1) (.bi .len (.cons (.var 0) .nil)) (.var 1)) [y0 (.v (.str (dg k))),y0 (.v (.int 2))] h= .ok (.v (.bl v9)) h:=by
   simp_all [ln,z1,z2]
  have e3:eval (v8 m) (.not (.bi .all (.cons Wc .nil))) [y0 (.v (.str (dg k))),y0 (.v (.int 2))] h= .ok (.v (.bl u9)) h:=by
   rw [eval,e2];rfl
  have e4:eval (v8 m) (.not (.chain .le .le (.int 1) (.bi .len (.cons (.var 0) .nil)) (.var 1))) [y0 (.v (.str (dg k))),y0 (.v (.int 2))] h= .ok (.v (.bl u9)) h:=by
   rw [eval,e1];rfl
  rw [Gp,eval,e4]
  simp only [R.bind_ok,Gk,R.of_some,e3]
 rw [Ja tt]
 rw [qa,Ga _ _ _ rfl]
 refine Je rfl ?_
 have es:eval (v8 m) (.meth .starts (.var 0) (.cons (.str [48]) .nil)) [y0 (.v (.str (dg k))),y0 (.v (.int 2))] h= .ok (.v (.bl (k8 ((dg k).head? =y0 48)))) h:=by
  simp_all [zbk,if_true,zbC,Kw]
  rfl
 have eq0:Gz .eq (.v (.str (dg k))) (.v (.str [48])) h=y0 (dg k== [48]):=Jl _ _ h
 have ec:eval (v8 m) (.cmp .eq (.var 0) (.str [48])) [y0 (.v (.str (dg k))),y0 (.v (.int 2))] h= .ok (.v (.bl (dg k== [48]))) h:=by
  simp_all [eq0]
 rw [eval,ec]
 simp only [R.bind_ok,Gk,R.of_some]
 rcases h4 with h4 | h4
 ·rw [h4]
 ·cases q:(dg k== [48])with
  | true=>rfl
  | false=>
   show eval _ (.not _) _ _=_
   rw [eval,es,h4];rfl
theorem jbz (m k) (hk:k<100) (g) (N T) (p) (ht:tk T p=dg k):call prog (m+3) "Reader.limit" [.v (.ref g.length)] (rh g N T p)= .ok (.v (.int (k:Int))) (rh g N T (p+1)):=by
 rw [Gb rfl _ _ _ rfl]
 simp only [GO]
 rw [za (τ1:= [y0 (.v (.ref g.length)),y0 (.v (.str (dg k)))]) (by rw [exec,jq rfl,ht];rfl)]
 rw [Ja]
 ·rw [qa,Ga _ _ _ (xh ..)]
  refine Je rfl ?_
  simp_all [jaU,jbS k hk,okv]
 ·have e1:eval (v8 (m+2)) (.call "is_written" (.cons (.var 1) (.cons (.con "MOST_FIGURES") .nil))) [some (.v (.ref g.length)),some (.v (.str (dg k)))] (rh g N T (p+1))= .ok (.v (.bl true)) (rh g N T (p+1)):=by
   simp_all [xbg,J1 (m+1) k hk]
  rw [Gp,eval,e1]
  rfl
abbrev Zd:Tx:= [101,97,99,104]
abbrev jcr:List Tx:= [xf,JD,Wa,Qb,Zd,Qh,[91]]
theorem jaN (h:GoodN t):t∉jcr:=λq=>by
 simp only [Aa,Aa2,or_false]at q
 rcases q with rfl | rfl | rfl | rfl | rfl | rfl | rfl
 ·exact h.free (by decide)
 ·exact h.free (by decide)
 ·exact h.free (by decide)
 ·exact h.free (by decide)
 ·exact h.free (by decide)
 ·exact h.free (by decide)
 ·have:=h.let_ 91 (by simp);omega
theorem TE.head (h:TE N l e ts n): ∃x r,ts=x::r/\x∉jcr:=by
 induction h with
 | name h g=>exact⟨_,_,rfl,jaN g⟩
 | same=>exact⟨_,_,rfl,by decide⟩
 | all=>exact⟨_,_,rfl,by decide⟩
 | none=>exact⟨_,_,rfl,by decide⟩
 | turned _ ih=>exact⟨_,_,rfl,by decide⟩
 | closed _ ih=>exact⟨_,_,rfl,by decide⟩
 | par _ ih=>exact⟨_,_,rfl,by decide⟩
 | up hl _ ih=>exact ih
 | plus _ _ ih _=>obtain⟨x,r,rfl,hx⟩:=ih;exact⟨x,_,rfl,hx⟩
 | less _ _ ih _=>obtain⟨x,r,rfl,hx⟩:=ih;exact⟨x,_,rfl,hx⟩
 | both _ _ ih _=>obtain⟨x,r,rfl,hx⟩:=ih;exact⟨x,_,rfl,hx⟩
 | joined _ _ ih _=>obtain⟨x,r,rfl,hx⟩:=ih;exact⟨x,_,rfl,hx⟩
inductive TF (N:List Tx):Fc->List Tx->Nat->Prop
 | inn {a b:Ex}{ts us:List Tx}{n:Nat}(h:TE N 0 a ts n) (k:TE N 0 b us n):TF N (.inn a b) (ts++jt::us) n
 | equ {a b:Ex}{ts us:List Tx}{n:Nat}(h:TE N 0 a ts n) (k:TE N 0 b us n):TF N (.equ a b) (ts++ [61]::us) n
 | som {a:Ex}{ts:List Tx}{n:Nat}(h:TE N 0 a ts n):TF N (.som a) (xf::ts) n
 | non {a:Ex}{ts:List Tx}{n:Nat}(h:TE N 0 a ts n):TF N (.non a) (JD::ts) n
 | one {s:Tx}{k:Nat}{a:Ex}{ts:List Tx}{n:Nat}(hs:s∈ [Wa,Qb]) (hk:k<100) (h:TE N 0 a ts n):TF N (.cnt s k a) (s::dg k::ts) n
 | two {s:Tx}{k:Nat}{a:Ex}{ts:List Tx}{n:Nat}(hs:s∈ [Wa,Qb]) (hk:k<100) (h:TE N 0 a ts n):TF N (.cnt (Zd++s) k a) (Zd::s::dg k::ts) n
theorem zax (t) (ts) (h):Gz .nmem (.v (.str t)) (.v (tsD ts)) h=y0 (!k8 (t∈ts)):=by
 show(KN _ _ _).map _=_
 rw [show KN (.v (.str t)) (.v (tsD ts)) h=y0 (k8 (t∈ts))from Qt t ts h];rfl
theorem ja3 (e:Gm τ i=y0 (.v (.str t))) (a b):Gp F (.cmp .nmem (.var i) (.tup (.cons (.str a) (.cons (.str b) .nil)))) τ h= .ok (!k8 (t∈ [a,b])) h:=by
 rw [Gp,eval,Zh e,R.bind_ok,wG,R.bind_ok,zax];rfl
section
variable {N T:List Tx}{g:AH}{m n w:Nat}{r:List Tx}
theorem wF (hA:RD N "Reader.expression" 0 n M)(ht:TE N 0 e ts n)(hd:T.drop p=ts++r) (st:Stop 0 r) (hw:w+n<=20) (hT:T.length<=90000)(h0:Gm τ 0=some (.v (.ref g.length))) (h1:Gm τ i=some (.v (.int (w:Int)))):
 eval (v8 M) (.mcall 0 "Reader" "expression" "Reader.expression" (.cons (.var i) .nil)) τ (rh g N T p)= .ok (.v (exD e)) (rh g N T (p+ts.length)):=
 (Qq h0 h1 rfl).trans (hA e ts ht g T p w r hd st hw hT)
theorem xbi (x) (hx:x∈ [jt,[61]]) (us):Stop 0 (x::us):=by
 intro k f _ q
 have q:opL k x f:=q
 simp only [Aa,Aa2,or_false]at hx
 rcases hx with rfl | rfl<;>rcases q with⟨_,⟨q,_⟩ | ⟨q,_⟩⟩ | ⟨_,q,_⟩ | ⟨_,q,_⟩<;>exact absurd q (by decide)
theorem zbO (hA:RD N "Reader.expression" 0 n (m+3))(ha:TE N 0 a ts n) (hb:TE N 0 b us n)(hx:(x,s)∈ [(jt,jt),(([61]:Tx),Qd)])(hd:T.drop p=ts++(x::(us++r))) (st:Stop 0 r) (hw:w+n<=20) (hT:T.length<=90000):
 call prog (m+4) "Reader.pair_fact" [.v (.ref g.length),.v (.int (w:Int))] (rh g N T p)= .ok (.v (.tup [.str s,exD a,exD b])) (rh g N T (p+ts.length+1+us.length)):=by
 obtain⟨x1,x2,x3⟩:x∈ [jt,[61]]/\k8 (x∈ [jt,[61]])=v9/\(x,s)∈ [([43],zh),([45],zg),([126],xb),([94],jb),([105,110],jt),([61],Qd)]:=by
  simp only [Aa,Aa2,or_false,Prod.mk.injEq]at hx
  rcases hx with⟨rfl,rfl⟩ | ⟨rfl,rfl⟩<;>exact⟨by decide,by decide,by decide⟩
 obtain⟨d1,d2⟩:=Zb (xj hd)
 rw [Gb rfl _ _ _ rfl]
 simp only [GF]
 show Gw _ (execs _ _ (rs4 g w k9 k9) _)=_
 rw [za (by rw [exec,wF hA ha hd (xbi x x1 _) hw hT rfl rfl];rfl)]
 rw [za (by rw [exec,jq rfl,d1];rfl)]
 rw [Ja (by rw [ja3 rfl,x2];rfl)]
 rw [qa,Ga _ _ _ (xh ..)]
 refine Je rfl ?_
 rw [eval,Gj,qa2 (jK _) (Zh rfl) x3]
 simp only [R.bind_ok,W.d_v,R.of_some,Gj]
 rw [Zh rfl]
 simp only [R.bind_ok,W.d_v,R.of_some]
 rw [wF hA hb d2 st hw hT rfl rfl]
 rfl
theorem jaf (hA:RD N "Reader.expression" 0 n (m+3))(ha:TE N 0 a ts n)(hk:k<100) (hx:x∈ [Wa,Qb]) (hy:y.length<=10)(hd:T.drop p=x::dg k::(ts++r)) (st:Stop 0 r) (hw:w+n<=20) (hT:T.length<=90000):
 call prog (m+4) "Reader.count_fact" [.v (.ref g.length),.v (.str y),.v (.int (w:Int))] (rh g N T p)= .ok (.v (.tup [.str (y++x),.int (k:Int),exD a])) (rh g N T (p+2+ts.length)):=by
 have xl:x.length<=10/\k8 (x∈ [Wa,Qb])=true:=by
  simp only [Aa,Aa2,or_false]at hx
  rcases hx with rfl | rfl<;>exact⟨by decide,by decide⟩
 obtain⟨d1,d2⟩:=Zb hd
 obtain⟨d3,d4⟩:=Zb d2
 rw [Gb rfl _ _ _ rfl]
 simp only [GC]
 show Gw _ (execs _ _ [y0 (.v (.ref g.length)),y0 (.v (.str y)),y0 (.v (.int (w:Int))),k9,k9] _)=_
 rw [za (τ1:= [y0 (.v (.ref g.length)),y0 (.v (.str y)),y0 (.v (.int (w:Int))),y0 (.v (.str x)),k9]) (by rw [exec,jq rfl,d1];rfl)]
 rw [Ja (by rw [ja3 rfl,xl.2];rfl)]
 have e1:=(xav (F:=(v8 (m+3))) (g:=g) (N:=N) (T:=T) (p:=p+1) (τ:= [y0 (.v (.ref g.length)),y0 (.v (.str y)),y0 (.v (.int (w:Int))),y0 (.v (.str x)),k9]) (m:= "limit") (q:= "Reader.limit") (es:= .nil) (ws:= []) rfl rfl rfl).trans (jbz m k hk g N T (p+1) d3)
 rw [za (τ1:= [y0 (.v (.ref g.length)),y0 (.v (.str y)),y0 (.v (.int (w:Int))),y0 (.v (.str x)),y0 (.v (.int (k:Int)))]) (h1:=rh g N T (p+2)) (by rw [exec,e1];rfl)]
 rw [qa (w:= .v (.tup [.str (y++x),.int (k:Int),exD a])) (h1:=rh g N T (p+2+ts.length)),Ga _ _ _ (xh ..)]
 refine Je rfl ?_
 have e2:eval (v8 (m+3)) (.bin .add (.var 1) (.var 3)) [y0 (.v (.ref g.length)),y0 (.v (.str y)),y0 (.v (.int (w:Int))),y0 (.v (.str x)),y0 (.v (.int (k:Int)))] (rh g N T (p+2))= .ok (.v (.str (y++x))) (rh g N T (p+2)):=by
  simp_all [Xg]
  rw [if_pos (by rw [Gc];omega)]
 rw [eval,Gj,e2]
 simp only [R.bind_ok,W.d_v,R.of_some,Gj]
 rw [Zh (d:= .int (k:Int)) rfl]
 simp only [R.bind_ok,W.d_v,R.of_some]
 rw [wF hA ha d4 st hw hT rfl rfl]
 rfl
noncomputable def RF (N:List Tx) (n m:Nat):Prop:= ∀(f:Fc) (ts:List Tx),TF N f ts n-> ∀(g:AH) (T:List Tx) (p w:Nat) (r:List Tx),T.drop p=ts++r->Stop 0 r->w+n<=20->T.length<=90000 →
 call prog m "Reader.fact" [.v (.ref g.length),.v (.int (w:Int))] (rh g N T p)= .ok (.v (fcD f)) (rh g N T (p+ts.length))
noncomputable abbrev fcB:Ss:= .cons (.iff (.cmp .mem (.var 2) (.tup (.cons (.str [115,111,109,101]) (.cons (.str [110,111]) .nil)))) (.cons (.ex (.mcall 0 "Reader" "take" "Reader.take" .nil)) (.cons (.ret (.tup (.cons (.var 2) (.cons (.mcall 0 "Reader" "expression" "Reader.expression" (.cons (.var 1) .nil)) .nil)))) .nil)) .nil) (.cons (.iff (.cmp .mem (.var 2) (.tup (.cons (.str [108,101,97,115,116]) (.cons (.str [109,111,115,116]) .nil)))) (.cons (.ret (.mcall 0 "Reader" "count_fact" "Reader.count_fact" (.cons (.str []) (.cons (.var 1) .nil)))) .nil) .nil) (.cons (.iff (.cmp .eq (.var 2) (.str [101,97,99,104])) (.cons (.ex (.mcall 0 "Reader" "take" "Reader.take" .nil)) (.cons (.ret (.mcall 0 "Reader" "count_fact" "Reader.count_fact" (.cons (.str [101,97,99,104]) (.cons (.var 1) .nil)))) .nil)) .nil) (.cons (.ret (.mcall 0 "Reader" "pair_fact" "Reader.pair_fact" (.cons (.var 1) .nil))) .nil)))
theorem zx (p) (t) (ht:tk T p=t)(hb:execs (v8 (m+4)) fcB (rs g w (y0 (.v (.str t)))) (rh g N T p)= .ret (.v v) (rh g N T q)):
 call prog (m+5) "Reader.fact" [.v (.ref g.length),.v (.int (w:Int))] (rh g N T p)= .ok (.v v) (rh g N T q):=by
 rw [Gb rfl _ _ _ rfl]
 simp only [GS]
 rw [za (τ1:=rs g w (y0 (.v (.str t)))) (by rw [exec,WN rfl,ht];rfl)]
 rw [hb,Ga _ _ _ (xh ..)]
theorem jY (hv:Kn e=k9) (q:eval F e τ h= .ok (.v d) h1) (ss):execs F (.cons (.ret e) ss) τ h= .ret (.v d) h1:=qa (Je hv q)
theorem xbc (hA:RD N "Reader.expression" 0 n (m+3)) (hB:RD N "Reader.expression" 0 n (m+4)):RF N n (m+5):=by
 intro f ts ht g T p w r hd st hw hT
 have pair: ∀ {a b}{ts us}{x s},TE N 0 a ts n->TE N 0 b us n->(x,s)∈ [(jt,jt),(([61]:Tx),Qd)]->T.drop p=(ts++x::us)++r->call prog (m+5) "Reader.fact" [.v (.ref g.length),.v (.int (w:Int))] (rh g N T p)= .ok (.v (.tup [.str s,exD a,exD b])) (rh g N T (p+(ts++x::us).length)):=by
  intro a b ts us x s ha hb hx hd
  have hd:T.drop p=ts++(x::(us++r)):=by rw [hd];simp
  obtain⟨z,q,rfl,hz⟩:=ha.head
  have e:=zbO (g:=g) hA ha hb hx hd st hw hT
  obtain⟨d1,_⟩:=Zb (show T.drop p=z::(q++(x::(us++r)))from hd)
  have n1:k8 (z∈ [xf,JD])=false:=decide_eq_false λq=>hz (by simp only [Aa,Aa2,or_false]at q ⊢;rcases q with q | q<;>simp [q])
  have n2:k8 (z∈ [Wa,Qb])=false:=decide_eq_false λq=>hz (by simp only [Aa,Aa2,or_false]at q ⊢;rcases q with q | q<;>simp [q])
  have n3:(z==Zd)=false:=beq_eq_false_iff_ne.mpr λq=>hz (by rw [q];decide)
  refine zx p z d1 ?_
  rw [Ja (by rw [jj rfl,n1]),Ja (by rw [jj rfl,n2]),Ja (by rw [jaQ rfl,n3])]
  refine jY rfl ((Qq rfl rfl rfl).trans (e.trans ?_)) _
  exact congrArg (λk=>R.ok (W.v (.tup [.str s,exD a,exD b])) (rh g N T k)) (show p+(z::q).length+1+us.length=p+((z::q)++x::us).length by simp only [Aa1,Aa4];omega)
 have word: ∀ {a}{ts}{x},TE N 0 a ts n->x∈ [xf,JD]->T.drop p=x::(ts++r)->call prog (m+5) "Reader.fact" [.v (.ref g.length),.v (.int (w:Int))] (rh g N T p)= .ok (.v (.tup [.str x,exD a])) (rh g N T (p+(ts.length+1))):=by
  intro a ts x ha hx hd
  obtain⟨d1,d2⟩:=Zb hd
  refine zx p x d1 ?_
  refine qa ?_
  rw [Wo (by rw [jj rfl,decide_eq_true hx]),za (Xy rfl)]
  refine jY rfl ?_ _
  rw [eval,Gj,Zh rfl]
  simp only [R.bind_ok,W.d_v,R.of_some,Gj]
  rw [wF hB ha d2 st hw hT rfl rfl,show p+1+ts.length=p+(ts.length+1)by omega]
  rfl
 cases ht with
 | inn ha hb=>exact pair ha hb (by decide) hd
 | equ ha hb=>exact pair ha hb (by decide) hd
 | som ha=>exact word ha (by decide) hd
 | non ha=>exact word ha (by decide) hd
 | @one s k a ts _ hs hk ha=>
  obtain⟨d1,_⟩:=Zb (show T.drop p=s::(dg k::(ts++r))from hd)
  have e:=jaf (g:=g) (y:= []) hA ha hk hs (by decide) (show T.drop p=s::dg k::(ts++r)from hd) st hw hT
  refine zx p s d1 ?_
  have n1:k8 (s∈ [xf,JD])=false:=by
   simp only [Aa,Aa2,or_false]at hs
   rcases hs with rfl | rfl<;>decide
  rw [Ja (by rw [jj rfl,n1])]
  refine qa ?_
  rw [Wo (by rw [jj rfl,decide_eq_true hs])]
  refine jY rfl ((xav rfl rfl rfl).trans (e.trans ?_)) _
  rw [Aa4,Aa4,show p+2+ts.length=p+(ts.length+1+1)by omega]
  rfl
 | @two s k a ts _ hs hk ha=>
  obtain⟨d1,d2⟩:=Zb (show T.drop p=Zd::(s::dg k::(ts++r))from hd)
  have e:=jaf (g:=g) (y:=Zd) hA ha hk hs (by decide) d2 st hw hT
  refine zx p Zd d1 ?_
  rw [Ja (by rw [jj rfl];rfl),Ja (by rw [jj rfl];rfl)]
  refine qa ?_
  rw [Wo (by rw [jaQ rfl];rfl),za (Xy (m:=m+2) rfl)]
  refine jY rfl ((xav (ws:= [.v (.str Zd),.v (.int (w:Int))]) rfl rfl rfl).trans (e.trans ?_)) _
  rw [Aa4,Aa4,Aa4,show p+1+2+ts.length=p+(ts.length+1+1+1)by omega]
  rfl
end
inductive TS (N:List Tx):Nat->Sy->List Tx->Nat->Prop
 | fact {f:Fc}{ts:List Tx}{n:Nat}(h:TF N f ts n):TS N 2 (.fact f) ts n
 | neg {a:Sy}{ts:List Tx}{n:Nat}(h:TS N 2 a ts n):TS N 2 (.neg a) (Qh::ts) (n+1)
 | par {s:Sy}{ts:List Tx}{n:Nat}(h:TS N 0 s ts n):TS N 2 s ([91]::(ts++ [[93]])) (n+1)
 | up {l:Nat}{s:Sy}{ts:List Tx}{n:Nat}(hl:l<2) (h:TS N (l+1) s ts n):TS N l s ts n
 | conj {a b:Sy}{ts us:List Tx}{n:Nat}(h:TS N 1 a ts n) (k:TS N 2 b us n):TS N 1 (.conj a b) (ts++xg::us) n
 | disj {a b:Sy}{ts us:List Tx}{n:Nat}(h:TS N 0 a ts n) (k:TS N 1 b us n):TS N 0 (.disj a b) (ts++Qs::us) n
theorem TF.wk (h:TF N f ts n) (hm:n<=m):TF N f ts m:=by
 cases h with
 | inn a b=>exact .inn (a.wk hm) (b.wk hm)
 | equ a b=>exact .equ (a.wk hm) (b.wk hm)
 | som a=>exact .som (a.wk hm)
 | non a=>exact .non (a.wk hm)
 | one hs hk a=>exact .one hs hk (a.wk hm)
 | two hs hk a=>exact .two hs hk (a.wk hm)
theorem TS.wk (h:TS N l e ts n) (hm:n<=m):TS N l e ts m:=by
 induction h generalizing m with
 | fact h=>exact .fact (h.wk hm)
 | neg _ ih=>obtain⟨k,rfl⟩: ∃k,m=k+1:=⟨m-1,by omega⟩;exact .neg (ih (by omega))
 | par _ ih=>obtain⟨k,rfl⟩: ∃k,m=k+1:=⟨m-1,by omega⟩;exact .par (ih (by omega))
 | up hl _ ih=>exact .up hl (ih hm)
 | conj _ _ i1 i2=>exact .conj (i1 hm) (i2 hm)
 | disj _ _ i1 i2=>exact .disj (i1 hm) (i2 hm)
theorem TF.head (h:TF N f ts n): ∃x r,ts=x::r/\x∉ [Qh,[91]]:=by
 have ex: ∀ {a}{ts us},TE N 0 a ts n-> ∃x r,ts++us=x::r/\x∉ [Qh,[91]]:=λ{a ts us} h=>by
  obtain⟨x,r,rfl,hx⟩:=h.head
  exact⟨x,_,rfl,λq=>hx (by simp only [Aa,Aa2,or_false]at q ⊢;rcases q with q | q<;>simp [q])⟩
 cases h with
 | inn a b=>exact ex a
 | equ a b=>exact ex a
 | som a=>exact⟨_,_,rfl,by decide⟩
 | non a=>exact⟨_,_,rfl,by decide⟩
 | one hs hk a=>
  refine⟨_,_,rfl,?_⟩
  simp only [Aa,Aa2,or_false]at hs
  rcases hs with rfl | rfl<;>decide
 | two hs hk a=>exact⟨_,_,rfl,by decide⟩
def StopS (l:Nat) (r:List Tx):Prop:=Stop 0 r/\(l<=1->r.headD []≠xg)/\(l=0->r.headD []≠Qs)
theorem zz (x) (hx:x∈ [xg,Qs,[93]]) (us):Stop 0 (x::us):=by
 intro k f _ q
 have q:opL k x f:=q
 simp only [Aa,Aa2,or_false]at hx
 rcases hx with rfl | rfl | rfl<;>rcases q with⟨_,⟨q,_⟩ | ⟨q,_⟩⟩ | ⟨_,q,_⟩ | ⟨_,q,_⟩<;>exact absurd q (by decide)
theorem StopS.up (h:StopS l r) (hk:l<=k):StopS k r:=⟨h.1,λq=>h.2.1 (by omega),λq=>h.2.2 (by omega)⟩
theorem StopS.and (us):StopS 2 (xg::us):=⟨zz _ (by decide) us,λq=>by omega,λq=>by omega⟩
theorem StopS.or (us):StopS 1 (Qs::us):=⟨zz _ (by decide) us,λ_=>show Qs≠xg by decide,λq=>by omega⟩
theorem StopS.par (us):StopS 0 ([93]::us):=⟨zz _ (by decide) us,λ_=>show [93]≠xg by decide,λ_=>show [93]≠Qs by decide⟩
theorem StopS.nil (l):StopS l []:=⟨λk f _ q=>by
 have q:=q
 rcases q with⟨_,⟨q,_⟩ | ⟨q,_⟩⟩ | ⟨_,q,_⟩ | ⟨_,q,_⟩<;>exact absurd q (by decide),λ_=>show []≠xg by decide,λ_=>show []≠Qs by decide⟩
def opS:Nat->Tx:=λl=>if l=0 then Qs else xg
def mkS:Nat->Sy->Sy->Sy:=λl=>if l=0 then .disj else .conj
theorem TS.chain (h:TS N l e ts n):l<2-> ∃e0 ts0 cs,TS N (l+1) e0 ts0 n/\ts=ts0++lkT cs/\e=lkE e0 cs/\ ∀c∈cs,(c.1=opS l/\c.2.1=mkS l)/\TS N (l+1) c.2.2.1 c.2.2.2 n:=by
 have snoc: ∀ {l}{a b}{ts us}{n},(∃ e0 ts0 cs,TS N (l+1) e0 ts0 n/\ts=ts0++lkT cs/\a=lkE e0 cs/\ ∀c∈cs,(c.1=opS l/\c.2.1=mkS l)/\TS N (l+1) c.2.2.1 c.2.2.2 n)->TS N (l+1) b us n →
  ∃e0 ts0 cs,TS N (l+1) e0 ts0 n/\ts++opS l::us=ts0++lkT cs/\mkS l a b=lkE e0 cs/\ ∀c∈cs,(c.1=opS l/\c.2.1=mkS l)/\TS N (l+1) c.2.2.1 c.2.2.2 n:=by
  rintro l a b ts us n ⟨e0,ts0,cs,h1,rfl,rfl,h4⟩ hb
  refine⟨e0,ts0,cs++ [(opS l,mkS l,b,us)],h1,?_,?_,λc hc=> ?_⟩
  ·rw [J8];simp [lkT]
  ·rw [jat];rfl
  ·rcases Ad2.mp hc with hc | hc
   ·exact h4 c hc
   ·rw [Ab5.mp hc];exact⟨⟨rfl,rfl⟩,hb⟩
 induction h with
 | fact h=>intro hl;omega
 | neg _ ih=>intro hl;omega
 | par _ ih=>intro hl;omega
 | up hl h ih=>intro _;exact⟨_,_,[],h,by simp [lkT],rfl,λc hc=>by cases hc⟩
 | conj _ k ih _=>intro _;exact snoc (ih (by omega)) k
 | disj _ k ih _=>intro _;exact snoc (ih (by omega)) k
noncomputable def RS (N:List Tx) (k:String) (l n m:Nat):Prop:= ∀(e:Sy) (ts:List Tx),TS N l e ts n-> ∀(g:AH) (T:List Tx) (p w:Nat) (r:List Tx),T.drop p=ts++r->StopS l r->w+n<=20->T.length<=90000 →
 call prog m k [.v (.ref g.length),.v (.int (w:Int))] (rh g N T p)= .ok (.v (syD e)) (rh g N T (p+ts.length))
section
variable {N T:List Tx}{g:AH}{m n w:Nat}
theorem XZ (hA:RS N "Reader.unit" 2 n (m+2)):RS N "Reader.part" 1 n (m+3):=by
 intro e ts ht g T p w r hd st hw hT
 obtain⟨e0,ts0,cs,h1,rfl,rfl,h4⟩:=ht.chain (by decide)
 exact qaD (dD:=syD) (F:= .conj) (Q:=λb us=>TS N 2 b us n) (St:=StopS 1) (St':=StopS 2) rfl (λ_=>rfl) (λ_ _=>rfl) (λb us hb p r hd st=>hA b us hb g T p w r hd st hw hT) (λr st=>st.2.1 (by decide)) (λr s=>s.up (by decide)) (λr=>StopS.and r) hT h1 h4 hd st
theorem XJ (hA:RS N "Reader.part" 1 n (m+2)):RS N "Reader.saying" 0 n (m+3):=by
 intro e ts ht g T p w r hd st hw hT
 obtain⟨e0,ts0,cs,h1,rfl,rfl,h4⟩:=ht.chain (by decide)
 exact qaD (dD:=syD) (F:= .disj) (Q:=λb us=>TS N 1 b us n) (St:=StopS 0) (St':=StopS 1) rfl (λ_=>rfl) (λ_ _=>rfl) (λb us hb p r hd st=>hA b us hb g T p w r hd st hw hT) (λr st=>st.2.2 rfl) (λr s=>s.up (by decide)) (λr=>StopS.or r) hT h1 h4 hd st
theorem qat (hF:RF N n (m+4)) (hA: ∀k,n=k+1->RS N "Reader.unit" 2 k (m+4)/\RS N "Reader.saying" 0 k (m+4)):RS N "Reader.unit" 2 n (m+5):=by
 intro e ts ht g T p w r hd st hw hT
 rw [Gb rfl _ _ _ rfl]
 simp only [GU]
 show Gw _ (execs _ _ (rs g w k9) _)=_
 cases ht with
 | @fact f ts _ h=>
  obtain⟨x,q,rfl,hx⟩:=h.head
  obtain⟨d1,_⟩:=Zb (show T.drop p=x::(q++r)from hd)
  have n1:(x==Qh)=false:=beq_eq_false_iff_ne.mpr λq=>hx (by simp [q])
  have n2:(x==([91]:Tx))=false:=beq_eq_false_iff_ne.mpr λq=>hx (by simp [q])
  have ea:=hF f _ h g T p w r hd st.1 hw hT
  rw [Ja (by rw [WB Qh rfl,d1,n1]),Ja (by rw [WB [91] rfl,d1,n2])]
  rw [jY rfl ((Qq rfl rfl rfl).trans ea),Ga _ _ _ (xh ..)]
  rfl
 | @neg a ts n h=>
  obtain⟨d1,d2⟩:=Zb (show T.drop p=_::(ts++r)from hd)
  have ea:=(hA n rfl).1 a ts h g T (p+1) (w+1) r d2 st (by omega) hT
  have e1:=(zG (τ:=rs g w k9) (k:= "unit") (show w<20 by omega) rfl rfl rfl).trans ea
  rw [qa,Ga _ _ _ (xh ..),Aa4,show p+(ts.length+1)=p+1+ts.length by omega]
  rw [Wo (by rw [WB Qh rfl,d1];rfl),za (Xy rfl)]
  refine jY rfl ?_ _
  rw [eval,Gj,eval]
  simp only [okv,R.bind_ok,W.d_v,R.of_some,Gj]
  rw [show eval (v8 (m+4)) (.mcall 0 "Reader" "unit" "Reader.unit" (.cons (.call "one_deeper" (.cons (.var 1) .nil)) .nil)) (rs g w none) (rh g N T (p+1))= .ok (.v (syD a)) (rh g N T (p+1+ts.length))from e1]
  rfl
 | @par _ ts n h=>
  have hd:T.drop p= [91]::(ts++([93]::r)):=by rw [hd];simp
  obtain⟨d1,d2⟩:=Zb hd
  have ea:=(hA n rfl).2 e ts h g T (p+1) (w+1) _ d2 (StopS.par r) (by omega) hT
  have d3:=(Zb (xj d2)).1
  have e1:=(zG (τ:=rs g w k9) (q:= "Reader.saying") (k:= "saying") (show w<20 by omega) rfl rfl rfl).trans ea
  have e2:=(xav (F:=(v8 (m+4))) (g:=g) (N:=N) (T:=T) (p:=p+1+ts.length) (τ:=rs g w (y0 (.v (syD e)))) (m:= "take_just") (q:= "Reader.take_just") (es:= .cons (.str [93]) .nil) (ws:= [.v (.str [93])]) rfl rfl rfl).trans (qa1 (m+1) g N T _ [93] d3)
  rw [Ja (by rw [WB Qh rfl,d1];rfl)]
  rw [qa (w:= .v (syD e)) (h1:=rh g N T (p+1+ts.length+1)),Ga _ _ _ (xh ..),Aa4,Aa1,Ai1,show p+(ts.length+1+1)=p+1+ts.length+1 by omega]
  rw [Wo (by rw [WB [91] rfl,d1];rfl),za (Xy (m:=m+2) rfl)]
  rw [za (τ1:=rs g w (y0 (.v (syD e)))) (h1:=rh g N T (p+1+ts.length)) (by rw [exec,e1];rfl)]
  rw [za (τ1:=rs g w (y0 (.v (syD e)))) (h1:=rh g N T (p+1+ts.length+1)) (by rw [exec,e2];rfl)]
  exact qa rfl
 | up hl h=>omega
end
theorem xbJ (N): ∀ n m,RS N "Reader.unit" 2 n (4*n+m+11)/\RS N "Reader.part" 1 n (4*n+m+12)/\RS N "Reader.saying" 0 n (4*n+m+13):=by
 have fct:=λn m=>xbc (by have:=(xaZ N n (m+1)).2.2.2;exact this) (by have:=(xaZ N n (m+2)).2.2.2;exact this)
 intro n
 induction n with
 | zero=>
  intro m
  have a:=qat (fct 0 m) λk h=>by omega
  have b:=XZ a
  exact⟨a,b,XJ b⟩
 | succ n ih=>
  intro m
  have a:=by
   refine qat (fct (n+1) m) λk h=> ?_
   obtain rfl:n=k:=by omega
   refine⟨?_,?_⟩
   ·have:=(ih (m+3)).1
    rwa [show 4*n+(m+3)+11=4*(n+1)+m+6+4 by omega]at this
   ·have:=(ih (m+1)).2.2
    rwa [show 4*n+(m+1)+13=4*(n+1)+m+6+4 by omega]at this
  have b:=XZ a
  exact⟨a,b,XJ b⟩
abbrev Wi:Tx:= [108,101,116,116,101,114]
abbrev qu:Tx:= [102,105,103,117,114,101]
abbrev qm:Tx:= [115,105,110,103,108,101]
abbrev qh:Tx:= [98,108,97,110,107]
abbrev F10:Tx:= [48,49,50,51,52,53,54,55,56,57]
abbrev G11:Tx:= [43,45,38,46,126,94,40,41,91,93,61]
noncomputable def srt (c:Nat):Tx:=if L26.contains c=v9 then Wi else if F10.contains c=v9 then qu else if G11.contains c=v9 then qm else qh
def okC (c:Nat):Prop:=srt c≠qh\/c=32
theorem qS (c) (t) (h):Gz .mem (.v (.str [c])) (.v (.str t)) h=y0 (t.contains c):=rfl
theorem xau:prog.con.lookup "LETTERS" =some (.str L26):=rfl
theorem jao:prog.con.lookup "SINGLE_SIGNS" =some (.str G11):=rfl
theorem ZY (hc:F.con.lookup x=y0 (.str t)) (e:Gm τ 0=y0 (.v (.str [c]))):Gp F (.cmp .mem (.var 0) (.con x)) τ h= .ok (t.contains c) h:=by
 rw [Gp,eval,Zh e,R.bind_ok,eval,hc]
 simp only [R.bind_ok,qS,R.of_some,Gk]
theorem jbZ (m c) (h) (hc:okC c):call prog (m+1) "sort_of_sign" [.v (.str [c])] h= .ok (.v (.str (srt c))) h:=by
 rw [Gb rfl _ _ _ rfl]
 simp only [GN]
 unfold srt
 by_cases q1:L26.contains c=v9
 ·rw [if_pos q1,qr (by rw [ZY xau rfl,q1]) (Je rfl rfl),Ga _ _ _ rfl]
 ·rw [if_neg q1,Ja (by rw [ZY xau rfl,eq_false_of_ne_true q1])]
  by_cases q2:F10.contains c=v9
  ·rw [if_pos q2,qr (by rw [ZY zP rfl,q2]) (Je rfl rfl),Ga _ _ _ rfl]
  ·rw [if_neg q2,Ja (by rw [ZY zP rfl,eq_false_of_ne_true q2])]
   by_cases q3:G11.contains c=v9
   ·rw [if_pos q3,qr (by rw [ZY jao rfl,q3]) (Je rfl rfl),Ga _ _ _ rfl]
   ·rw [if_neg q3,Ja (by rw [ZY jao rfl,eq_false_of_ne_true q3])]
    have e:c=32:=by
     rcases hc with z | z
     ·unfold srt at z;rw [if_neg q1,if_neg q2,if_neg q3]at z;exact absurd rfl z
     ·exact z
    subst e
    rw [qr (by rw [jaQ rfl];rfl) (Je rfl rfl),Ga _ _ _ rfl]
def fus (a:Tx) (c:Nat):Prop:=srt c=a/\(srt c=Wi\/srt c=qu)
instance (a:Tx) (c:Nat):Decidable (fus a c):=inferInstanceAs (Decidable (_/\_))
noncomputable def stp (x:List Tx×Tx) (c:Nat):List Tx×Tx:=
 if fus x.2 c then(x.1.dropLast++ [x.1.getLastD []++ [c]],srt c)else if srt c≠qh then(x.1++ [[c]],srt c)else(x.1,srt c)
abbrev sgS (t:Tx) (S:List Tx) (a:Tx) (x y:Option W):Sl:= [y0 (.v (.str t)),y0 (.own (S.map .str)),y0 (.v (.str a)),x,y]
def inv (S:List Tx) (a:Tx) (n:Nat):Prop:=(a=Wi\/a=qu->S≠ [])/\S.length<=n/\ ∀x∈S,x.length<=n
theorem zbf {S:List Tx}(h:inv S a n):inv (stp (S,a) c).1 (stp (S,a) c).2 (n+1):=by
 unfold stp
 split
 ·rename_i q
  have q:fus a c:=q
  have hne:=h.1 (by rcases q.2 with z | z<;>rw [← q.1,z]<;>simp)
  refine⟨λ_=>by simp,?_,λx hx=> ?_⟩
  ·show(S.dropLast++_).length<=_
   have:=h.2.1
   simp;omega
  ·rcases Ad2.mp hx with hx | hx
   ·exact Ak (h.2.2 x ((List.dropLast_prefix S).subset hx))
   ·rw [Ab5.mp hx]
    have:S.getLastD []∈S:=by
     rw [List.getLastD_eq_getLast?,List.getLast?_eq_getLast hne];exact List.getLast_mem hne
    have:=h.2.2 _ this
    rw [Aa1];exact Nat.succ_le_succ this
 ·split
  ·refine⟨λ_=>by simp,by have:=h.2.1;simp;exact this,λx hx=> ?_⟩
   rcases Ad2.mp hx with hx | hx
   ·exact Ak (h.2.2 x hx)
   ·rw [Ab5.mp hx];simp
  ·rename_i q
   refine⟨λz=> ?_,Ak h.2.1,λx hx=>Ak (h.2.2 x hx)⟩
   have q:=Classical.not_not.mp q
   have z:srt c=Wi\/srt c=qu:=z
   rw [q]at z
   rcases z with z | z<;>exact absurd z (by decide)
theorem xaa (xs) (x:α):atI (xs++ [x]) (-1)=y0 x/\ixN (xs++ [x]).length (-1)=y0 xs.length:=by
 have:ixN (xs++ [x]).length (-1)=y0 xs.length:=by
  unfold ixN
  congr 1;simp;omega
 refine⟨?_,this⟩
 unfold atI
 rw [this];simp
theorem zbm (m) (h) (t){S:List Tx}(iv:inv S a n) (hn:n<=900000) (hc:okC c) (y):
 execs (v8 (m+1)) Zj (sgS t S a (y0 (.v (.str [c]))) y) h= .next (sgS t (stp (S,a) c).1 (stp (S,a) c).2 (y0 (.v (.str [c]))) (y0 (.v (.str (srt c))))) h:=by
 have es:=jbZ m c h hc
 simp only [Zj]
 rw [za (τ1:=sgS t S a (y0 (.v (.str [c]))) (y0 (.v (.str (srt c))))) (h1:=h) (by simp_all [es])]
 have t1:Gp (v8 (m+1)) (.and (.cmp .eq (.var 4) (.var 2)) (.cmp .mem (.var 4) (.tup (.cons (.str [108,101,116,116,101,114]) (.cons (.str [102,105,103,117,114,101]) .nil))))) (sgS t S a (y0 (.v (.str [c]))) (y0 (.v (.str (srt c))))) h= .ok (k8 (fus a c)) h:=by
  have e1:eval (v8 (m+1)) (.cmp .eq (.var 4) (.var 2)) (sgS t S a (y0 (.v (.str [c]))) (y0 (.v (.str (srt c))))) h= .ok (.v (.bl (srt c==a))) h:=by
   simp_all [Jl]
  have e2:eval (v8 (m+1)) (.cmp .mem (.var 4) (.tup (.cons (.str [108,101,116,116,101,114]) (.cons (.str [102,105,103,117,114,101]) .nil)))) (sgS t S a (y0 (.v (.str [c]))) (y0 (.v (.str (srt c))))) h= .ok (.v (.bl (k8 (srt c∈ [Wi,qu])))) h:=by
   rw [eval,Zh rfl,R.bind_ok,wG,R.bind_ok,Qt];rfl
  rw [Gp,eval,e1]
  simp only [R.bind_ok,Gk,R.of_some]
  by_cases q:srt c=a
  ·rw [show (srt c==a)=v9 from by simp [q]]
   simp only [e2,R.bind_ok,Gk,R.of_some]
   congr 1
   rw [decide_eq_decide]
   unfold fus
   simp [q]
  ·rw [show (srt c==a)=u9 from by simp [q]]
   have: ¬fus a c:=λz=>q z.1
   simp [Gk,this]
 unfold stp
 by_cases q:fus a c
 ·rw [decide_eq_true q]at t1
  have hne:S≠ []:=iv.1 (by rcases q.2 with z | z<;>rw [← q.1,z]<;>simp)
  obtain⟨S',x,rfl⟩: ∃S' x,S=S'++ [x]:=⟨S.dropLast,S.getLast hne,(List.dropLast_concat_getLast hne).symm⟩
  have hx:=iv.2.2 x (by simp)
  rw [za (τ1:=sgS t (S'++ [x++ [c]]) a (y0 (.v (.str [c]))) (y0 (.v (.str (srt c))))) (h1:=h)]
  ·simp only [if_pos q]
   simp_all []
   simp
  ·rw [Wo t1]
   have l1:=xaa (S'.map D.str) (.str x)
   have e1:eval (v8 (m+1)) (.bin .add (.ix (.var 1) (.neg (.int 1))) (.var 3)) (sgS t (S'++ [x]) a (y0 (.v (.str [c]))) (y0 (.v (.str (srt c))))) h= .ok (.v (.str (x++ [c]))) h:=by
    rw [eval,eval,eval,Gn]
    simp only [Gm,R.bind_ok,eval,okv,int?_int,R.of_some,Ae5,Ac,Af6]
    rw [show ixD (.bor (S'.map D.str++ [D.str x])) (.v (.int (-1))) h=y0 (.str x)from l1.1]
    simp only [R.of_some,R.bind_ok,Gn,Gm,Xg]
    rw [if_pos (by rw [Gc];simp;omega)]
   rw [za (τ1:=sgS t (S'++ [x++ [c]]) a (y0 (.v (.str [c]))) (y0 (.v (.str (srt c))))) (h1:=h)]
   ·rfl
   ·rw [exec,e1,R.toO_ok]
    simp only [Gm,eval,okv,R.bind_ok,R.toO_ok,int?_int,R.of_some,Ae5,Ac,Af6,flat,if_true,l1.2,Kg]
    simp
 ·rw [decide_eq_false q]at t1
  rw [if_neg q]
  by_cases q2:srt c≠qh
  ·rw [if_pos q2]
   rw [za (τ1:=sgS t (S++ [[c]]) a (y0 (.v (.str [c]))) (y0 (.v (.str (srt c))))) (h1:=h)]
   ·simp_all []
   ·rw [QN t1,za (τ1:=sgS t (S++ [[c]]) a (y0 (.v (.str [c]))) (y0 (.v (.str (srt c))))) (h1:=h)]
    ·rfl
    ·have e3:Gp (v8 (m+1)) (.cmp .ne (.var 4) (.str [98,108,97,110,107])) (sgS t S a (y0 (.v (.str [c]))) (y0 (.v (.str (srt c))))) h= .ok v9 h:=by
      have z:Gz .ne (.v (.str (srt c))) (.v (.str qh)) h=y0 true:=by simp [KH,q2]
      simp_all [z]
     rw [Wo e3]
     have:=iv.2.1
     simp_all []
     rw [if_pos (by rw [Gc];simp;omega)]
     simp
  ·rw [if_neg q2]
   rw [za (τ1:=sgS t S a (y0 (.v (.str [c]))) (y0 (.v (.str (srt c))))) (h1:=h)]
   ·simp_all []
   ·rw [QN t1,za (τ1:=sgS t S a (y0 (.v (.str [c]))) (y0 (.v (.str (srt c))))) (h1:=h)]
    ·rfl
    ·have e3:Gp (v8 (m+1)) (.cmp .ne (.var 4) (.str [98,108,97,110,107])) (sgS t S a (y0 (.v (.str [c]))) (y0 (.v (.str (srt c))))) h= .ok u9 h:=by
      have q2:srt c=qh:=Classical.not_not.mp q2
      have z:Gz .ne (.v (.str (srt c))) (.v (.str qh)) h=y0 false:=by rw [q2];simp [KH]
      simp_all [z]
     rw [QN e3];rfl
theorem W4 (m) (h) (t): ∀ cs,(∀ c∈cs,okC c)-> ∀ {S}{a}{n} x y,inv S a n->n+cs.length<=900000 →
 ∃x' y',Kf (GQ [3] v9) (λτ h=>execs (v8 (m+1)) Zj τ h) (chs cs) (sgS t S a x y) h= .next (sgS t (cs.foldl stp (S,a)).1 (cs.foldl stp (S,a)).2 x' y') h
 | [],_,S,a,n,x,y,_,_=>⟨x,y,rfl⟩
 | c::cs,hc,S,a,n,x,y,iv,hn=>by
  have hl:n+(cs.length+1)<=900000:=hn
  have b:=zbm m h t iv (by omega) (hc c Aa8) y
  obtain⟨x',y',ih⟩:=W4 m h t cs (λc q=>hc c (Aa7 _ q)) (y0 (.v (.str [c]))) (y0 (.v (.str (srt c)))) (zbf iv) (by omega)
  refine⟨x',y',?_⟩
  rw [show chs (c::cs)= .str [c]::chs cs from rfl,Qo rfl b]
  exact ih
theorem qbd (m) (h) (t) (hc: ∀c∈t,okC c) (hl:t.length<=900000):call prog (m+2) "signs_of" [.v (.str t)] h= .ok (.own ((t.foldl stp ([],qh)).1.map .str)) h:=by
 rw [Gb rfl _ _ _ rfl]
 simp only [Kk]
 rw [za rfl,za rfl]
 obtain⟨x,y,lp⟩:=W4 m h t t hc k9 k9 (S:= []) (a:=qh) (n:=0) ⟨λz=>absurd z (by decide),Aa6 _,λx hx=>by cases hx⟩ (by omega)
 rw [za (τ1:=sgS t (t.foldl stp ([],qh)).1 (t.foldl stp ([],qh)).2 x y)]
 ·rw [qa rfl,Gu _ _ _ rfl]
 ·rw [exec]
  exact lp
structure Lx (t:Tx) (T:List Tx) (a:Tx):Prop where
 ok: ∀c∈t,okC c
 eq:t.foldl stp ([],qh)=(T,a)
inductive Lex:Tx->Tx->Prop
 | word {t:Tx}(h:t≠ []) (k: ∀c∈t,srt c=Wi):Lex t Wi
 | fig {t:Tx}(h:t≠ []) (k: ∀c∈t,srt c=qu):Lex t qu
 | one {c:Nat}(k:srt c=qm):Lex [c] qm
theorem qy (hk:k=Wi\/k=qu): ∀ t,(∀ c∈t,srt c=k)-> ∀ T (x:Tx),t.foldl stp (T++ [x],k)=(T++ [x++t],k)
 | [],_,T,x=>by simp
 | c::t,h,T,x=>by
  have hc:=h c Aa8
  have:stp (T++ [x],k) c=(T++ [x++ [c]],k):=by
   unfold stp
   rw [if_pos (show fus k c from⟨hc,by rw [hc];exact hk⟩),hc]
   simp
  rw [Ae8,this,qy hk t (λc q=>h c (Aa7 _ q)) T (x++ [c])]
  simp
theorem Lex.fold (h:Lex t k) (ha:a≠k\/k=qm) (T):t.foldl stp (T,a)=(T++ [t],k):=by
 have first: ∀ {c}{k},srt c=k->k≠qh->(a≠k\/k=qm)->stp (T,a) c=(T++ [[c]],k):=λ{c k} hc hk ha=>by
  unfold stp
  rw [if_neg,if_pos (by rw [hc];exact hk),hc]
  rintro ⟨z1,z2⟩
  have z1:srt c=a:=z1
  rcases ha with ha | ha
  ·exact ha (by rw [← z1,hc])
  ·rw [hc,ha]at z2
   rcases z2 with z | z<;>exact absurd z (by decide)
 cases h with
 | word h kk=>
  cases t with
  | nil=>exact absurd rfl h
  | cons c t=>
   rw [Ae8,first (kk c Aa8) (by decide) ha,qy (.inl rfl) t (λc q=>kk c (Aa7 _ q))]
   rfl
 | fig h kk=>
  cases t with
  | nil=>exact absurd rfl h
  | cons c t=>
   rw [Ae8,first (kk c Aa8) (by decide) ha,qy (.inr rfl) t (λc q=>kk c (Aa7 _ q))]
   rfl
 | one kk=>rw [Ae8,first kk (by decide) ha];rfl
theorem Lex.ok (h:Lex t k): ∀c∈t,okC c:=by
 intro c hc
 cases h with
 | word _ kk=>exact .inl (by rw [kk c hc];decide)
 | fig _ kk=>exact .inl (by rw [kk c hc];decide)
 | one kk=>rw [Ab5.mp hc];exact .inl (by rw [kk];decide)
theorem Lx.nil:Lx [] [] qh:=⟨λc h=>(by cases h),rfl⟩
theorem Lx.tok (h:Lx t T a) (x:Lex u k) (ha:a≠k\/k=qm):Lx (t++u) (T++ [u]) k:=by
 refine⟨λc hc=> ?_,by rw [List.foldl_append,h.eq,x.fold ha]⟩
 rcases Ad2.mp hc with hc | hc
 ·exact h.ok c hc
 ·exact x.ok c hc
theorem zbY:srt 32=qh:=by decide
theorem Lx.blank (h:Lx t T a):Lx (t++ [32]) T qh:=by
 refine⟨λc hc=> ?_,?_⟩
 ·rcases Ad2.mp hc with hc | hc
  ·exact h.ok c hc
  ·rw [Ab5.mp hc];exact .inr rfl
 ·rw [List.foldl_append,h.eq]
  show stp (T,a) 32=_
  unfold stp
  rw [if_neg,if_neg (by rw [zbY];simp),zbY]
  rintro ⟨_,z⟩
  rcases z with z | z<;>exact absurd z (by decide)
theorem Lx.blanks : ∀ n {a},Lx t T a-> ∃b,Lx (t++Aa0 n 32) T b/\(n=0->b=a)/\(0<n->b=qh)
 | 0,a,h=>⟨a,by simpa using h,λ_=>rfl,λz=>by omega⟩
 | n+1,a,h=>by
  obtain⟨b,h1,_,_⟩:=Lx.blanks n h
  refine⟨qh,?_,λz=>by omega,λ_=>rfl⟩
  have:=h1.blank
  rwa [Af3,←List.replicate_succ']at this
theorem xi: ∀e:Ex,Gr (exD e)=v9
 | .name _=>rfl
 | .same=>rfl
 | .all=>rfl
 | .none=>rfl
 | .turned a=>by simp [exD,xi a]
 | .closed a=>by simp [exD,xi a]
 | .plus a b=>by simp [exD,xi a,xi b]
 | .less a b=>by simp [exD,xi a,xi b]
 | .both a b=>by simp [exD,xi a,xi b]
 | .joined a b=>by simp [exD,xi a,xi b]
theorem wt: ∀s:Sy,Gr (syD s)=v9
 | .fact f=>by cases f<;>simp [syD,fcD,xi]
 | .neg a=>by simp [syD,wt a]
 | .conj a b=>by simp [syD,wt a,wt b]
 | .disj a b=>by simp [syD,wt a,wt b]
theorem xbF (m) (g) (K L T) (hK:(K++L).length<=100):call prog (m+1) "Reader.__init__" [.v (.ref g.length),.v (wD K L),.v (.lst (T.map .str))] (g++ [Cell.obj "Reader" []])= .ok (.v .non) (rh g (K++L) T 0):=by
 rw [Gb rfl _ _ _ rfl]
 simp only [GI]
 show Gw _ (execs _ _ [y0 (.v (.ref g.length)),y0 (.v (wD K L)),y0 (.v (.lst (T.map .str)))] _)=_
 have ob: ∀fs,Ks (g++ [Cell.obj "Reader" fs]) (some (.v (.ref g.length)))=some (g.length, "Reader",fs):=fun fs=>by simp [Ks]
 have st: ∀fs fs',(g++ [Cell.obj "Reader" fs]).set g.length (.obj "Reader" fs')=g++ [Cell.obj "Reader" fs']:=fun fs fs'=>by simp
 have sf: ∀ f e d fs,(∀ h,eval (v8 m) e [y0 (.v (.ref g.length)),y0 (.v (wD K L)),y0 (.v (.lst (T.map .str)))] h= .ok (.v d) h)->Gr d=v9->fs.length<100 →
  exec (v8 m) (.setfld 0 "Reader" f e) [some (.v (.ref g.length)),some (.v (wD K L)),some (.v (.lst (T.map .str)))] (g++ [Cell.obj "Reader" fs])= .next [some (.v (.ref g.length)),some (.v (wD K L)),some (.v (.lst (T.map .str)))] (g++ [Cell.obj "Reader" (putF f d fs)]):=fun f e d fs he hn hl=>by
  rw [exec,he,R.toO_ok]
  show(match Ks (g++ [Cell.obj "Reader" fs]) (some (.v (.ref g.length)))with | some (r,c',fs)=>_ | none=>_)=_
  rw [ob]
  show(if _ then _ else _)=_
  rw [if_pos ⟨rfl,hn,hl⟩,st]
 have nr: ∀(xs:List Tx),Gg (xs.map D.str)=true:=λxs=>by
  induction xs with
  | nil=>rfl
  | cons x xs ih=>simp [ih]
 have e1: ∀h,eval (v8 m) (.bin .add (.ix (.var 1) (.int 0)) (.ix (.var 1) (.int 1))) [y0 (.v (.ref g.length)),y0 (.v (wD K L)),y0 (.v (.lst (T.map .str)))] h= .ok (.v (tsD (K++L))) h:=λh=>by
  have z0:ixD (.v (wD K L)) (.v (.int 0)) h=y0 (tsD K):=rfl
  have z1:ixD (.v (wD K L)) (.v (.int 1)) h=y0 (tsD L):=rfl
  have zb:GZ .add (.v (tsD K)) (.v (tsD L)) h= .ok (.v (tsD (K++L))) h:=by
   show GZ .add (.v (.tup (K.map .str))) (.v (.tup (L.map .str))) h=_
   rw [ZU,if_pos (by rw [Gc];simp at hK ⊢;omega),←Ae5]
  simp_all [z0,z1,zb]
 rw [za (sf "names" _ (tsD (K++L)) [] e1 (nr (K++L)) (by decide)),
  za (sf "signs" _ (.lst (T.map .str)) _ (fun h=>by simp_all []) (by simp [Gr,nr]) (by show 1<100;decide)),
  za (sf "place" _ (.int 0) _ (fun h=>rfl) rfl (by show 2<100;decide))]
 show Gw _ (.next _ _)=_
 rw [Kp _ _ _ (by simp)]
 rfl
theorem xa4 (n m) (g) (K L) (hK:(K++L).length<=100) (t) (T) (a) (lx:Lx t T a) (hl:t.length<=900000) (hT:T.length<=90000) (s) (ts:TS (K++L) 0 s T n) (hn:n<=20):
 call prog (4*n+m+14) "read_saying" [.v (wD K L),.v (.str t)] g= .ok (.v (syD s)) g:=by
 rw [Gb (d:=GL) rfl _ _ _ rfl]
 simp only [GL]
 show Gw _ (execs _ _ [y0 (.v (wD K L)),y0 (.v (.str t)),k9,k9,k9] g)=_
 rw [Ja (by simp_all [];rfl)]
 have e1:=qbd (4*n+m+11) g t lx.ok hl
 rw [lx.eq]at e1
 rw [za (τ1:= [y0 (.v (wD K L)),y0 (.v (.str t)),y0 (.v (.lst (T.map .str))),k9,k9]) (h1:=g) (by simp_all [e1])]
 have e2:=xbF (4*n+m+12) g K L T hK
 rw [za (τ1:= [y0 (.v (wD K L)),y0 (.v (.str t)),y0 (.v (.lst (T.map .str))),y0 (.v (.ref g.length)),k9]) (h1:=rh g (K++L) T 0) (by simp_all [e2,okv])]
 have e3:=(xbJ (K++L) n m).2.2 s T ts g T 0 0 [] (by simp) (StopS.nil 0) (by omega) hT
 rw [Nat.zero_add]at e3
 have e4:eval (v8 (4*n+m+13)) (.mcall 3 "Reader" "saying" "Reader.saying" (.cons (.int 0) .nil)) [some (.v (wD K L)),some (.v (.str t)),some (.v (.lst (T.map .str))),some (.v (.ref g.length)),none] (rh g (K++L) T 0)= .ok (.v (syD s)) (rh g (K++L) T T.length):=by
  rw [eval]
  show(match Ks (rh g (K++L) T 0) (y0 (.v (.ref g.length)))with | some (r,c',fs)=>_ | none=>_)=_
  rw [zv]
  show(if _ then _ else _)=_
  rw [if_pos ⟨rfl,rfl⟩]
  exact e3
 rw [za (τ1:= [y0 (.v (wD K L)),y0 (.v (.str t)),y0 (.v (.lst (T.map .str))),y0 (.v (.ref g.length)),y0 (.v (syD s))]) (h1:=rh g (K++L) T T.length) (by rw [exec,e4];rfl)]
 rw [Ja]
 ·rw [qa (w:= .v (syD s)) (h1:=rh g (K++L) T T.length) rfl]
  have:Gw g.length (.ret (.v (syD s)) (rh g (K++L) T T.length))= .ok (.v (syD s)) ((rh g (K++L) T T.length).take g.length):=by
   show fin _ _ _=_
   unfold fin
   rw [if_neg (by rw [jb2];omega),if_pos (by exact wt s)]
  rw [this]
  simp [rh]
 ·have z:Gz .lt (.v (.int (T.length:Int))) (.v (.int ((T.map D.str).length:Int))) (rh g (K++L) T T.length)=y0 false:=by
   rw [wu,Ac4,decide_eq_false (Af8 _)]
  have f1:eval (v8 (4*n+m+13)) (.fld 3 "Reader" "place") [some (.v (wD K L)),some (.v (.str t)),some (.v (.lst (T.map .str))),some (.v (.ref g.length)),some (.v (syD s))] (rh g (K++L) T T.length)= .ok (.v (.int (T.length:Int))) (rh g (K++L) T T.length):=by
   rw [eval]
   show(match Ks (rh g (K++L) T T.length) (y0 (.v (.ref g.length)))with | some (_,c',fs)=>_ | none=>_)=_
   rw [zv];rfl
  have f2:eval (v8 (4*n+m+13)) (.bi .len (.cons (.var 2) .nil)) [y0 (.v (wD K L)),y0 (.v (.str t)),y0 (.v (.lst (T.map .str))),y0 (.v (.ref g.length)),y0 (.v (syD s))] (rh g (K++L) T T.length)= .ok (.v (.int ((T.map D.str).length:Int))) (rh g (K++L) T T.length):=by
   simp_all [];rfl
  rw [Gp,eval,f1,R.bind_ok,f2,R.bind_ok,z];rfl
def isL (w:W) (ts:List Tx):Prop:=w= .own (ts.map .str)\/w= .v (.lst (ts.map .str))
theorem isL.d {w:W}{ts:List Tx}(h:isL w ts):w.d=y0 (.lst (ts.map .str)):=by rcases h with rfl | rfl<;>rfl
theorem jX (h:isL w us) (hl:ts.length+us.length<=900000) (k):GZ .add (.v (.lst (ts.map .str))) w k= .ok (.own ((ts++us).map .str)) k:=by
 rcases h with rfl | rfl
 ·rw [xa0,if_pos (by rw [Gc];simp;omega),Ae5]
 ·rw [qbH,if_pos (by rw [Gc];simp;omega),Ae5]
theorem ZG {w:W}{ts us:List Tx}(h:isL w us) (hl:ts.length+us.length<=900000) (k:AH):GZ .add (.own (ts.map .str)) w k= .ok (.own ((ts++us).map .str)) k:=by
 rcases h with rfl | rfl
 ·rw [zal,if_pos (by rw [Gc];simp;omega),Ae5]
 ·rw [jbP,if_pos (by rw [Gc];simp;omega),Ae5]
theorem TE.down : ∀ {k l},TE N k e ts n->l<=k->k<=3->TE N l e ts n
 | k,l,h,hl,h3=>by
  induction k with
  | zero=>obtain rfl:l=0:=by omega
          exact h
  | succ k ih=>
   rcases Nat.lt_or_ge k l with q | q
   ·obtain rfl:l=k+1:=by omega
    exact h
   ·exact ih (.up (by omega) h) q (by omega)
abbrev tkS (e:D) (l r:Nat) (x y z:Option W):Sl:= [y0 (.v e),y0 (.v (.int (l:Int))),y0 (.v (.ref r)),x,y,z]
noncomputable abbrev tkE:Ss:= .cons (.iff (.or (.cmp .lt (.call "_law_level" (.cons (.var 0) .nil)) (.var 1)) (.cmp .eq (.call "_law_next" (.cons (.var 2) (.cons (.int 4) .nil))) (.int 3))) (.cons (.ret (.bin .add (.bin .add (.lst (.cons (.str [40]) .nil)) (.var 4)) (.lst (.cons (.str [41]) .nil)))) .nil) .nil) (.cons (.ret (.var 4)) .nil)
noncomputable abbrev tk4:S:= .iff (.cmp .lt (.call "_law_level" (.cons (.var 0) .nil)) (.int 3)) (.cons (.setf 5 (.call "_law_level" (.cons (.var 0) .nil))) (.cons (.setf 4 (.call "_law_tokens" (.cons (.ix (.var 0) (.int 1)) (.cons (.var 5) (.cons (.var 2) .nil))))) (.cons (.setf 4 (.bin .add (.var 4) (.lst (.cons (.dlit [([112,108,117,115],[43]),([108,101,115,115],[45]),([98,111,116,104],[38]),([106,111,105,110,101,100],[46])] 3) .nil)))) (.cons (.setf 4 (.bin .add (.var 4) (.call "_law_tokens" (.cons (.ix (.var 0) (.int 2)) (.cons (.bin .add (.var 5) (.int 1)) (.cons (.var 2) .nil)))))) .nil)))) .nil
theorem qE (e):lvl e<=3:=by cases e<;>simp [lvl]
section
variable {N:List Tx}{m r:Nat}
theorem qP (e:Gm τ i=y0 (.v (.lst xs))):eval F (.var i) τ h= .ok (.v (.lst xs)) h:=Zh e
theorem xak {e:Ex}{ts:List Tx}{n l:Nat}(ht:TE N (lvl e) e ts n) (hl:l<=3) (hs:ts.length<=800000){h:AH}(P:PH h) (hr:r<h.length) (x z:Option W):
 ∃us w h',TE N l e us (n+1)/\us.length<=ts.length+2/\isL w us/\PH h'/\h'.length=h.length/\Gw h.length (execs (v8 (m+3)) tkE (tkS (exD e) l r x (y0 (.v (.lst (ts.map .str)))) z) h)= .ok w h':=by
 have e1:eval (v8 (m+3)) (.cmp .lt (.call "_law_level" (.cons (.var 0) .nil)) (.var 1)) (tkS (exD e) l r x (some (.v (.lst (ts.map .str)))) z) h= .ok (.v (.bl (decide (lvl e<l)))) h:=by
  simp_all [ZP (m+2),wu]
 have pr: ∀h',eval (v8 (m+3)) (.bin .add (.bin .add (.lst (.cons (.str [40]) .nil)) (.var 4)) (.lst (.cons (.str [41]) .nil))) (tkS (exD e) l r x (y0 (.v (.lst (ts.map .str)))) z) h'= .ok (.own (([40]::(ts++ [[41]])).map .str)) h':=λh'=>by
  have a1:GZ .add (.own ([([40]:Tx)].map D.str)) (.v (.lst (ts.map .str))) h'= .ok (.own (([[40]]++ts).map .str)) h':=ZG (.inr rfl) (by simp;omega) h'
  have a2:GZ .add (.own (([[40]]++ts).map D.str)) (.own ([([41]:Tx)].map D.str)) h'= .ok (.own ((([[40]]++ts)++ [[41]]).map .str)) h':=ZG (.inl rfl) (by simp;omega) h'
  have b1:eval (v8 (m+3)) (.lst (.cons (.str [40]) .nil)) (tkS (exD e) l r x (y0 (.v (.lst (ts.map .str)))) z) h'= .ok (.own ([([40]:Tx)].map D.str)) h':=rfl
  have b2:eval (v8 (m+3)) (.lst (.cons (.str [41]) .nil)) (tkS (exD e) l r x (y0 (.v (.lst (ts.map .str)))) z) h'= .ok (.own ([([41]:Tx)].map D.str)) h':=rfl
  rw [eval,eval,b1,R.bind_ok,qP rfl,R.bind_ok,a1,R.bind_ok,b2,R.bind_ok,a2]
  rfl
 by_cases q:lvl e<l
 ·refine⟨_,_,h,TE.down (.par (TE.down ht (Ae7 _) (qE e))) hl (Aa6 _),by simp,.inl rfl,P,rfl,?_⟩
  rw [qa (w:= .own (([40]::(ts++ [[41]])).map .str)) (h1:=h),Gu _ _ _ rfl]
  rw [Wo (h1:=h)]
  ·exact qa (Qi rfl (pr _))
  ·rw [Gp,eval,e1,decide_eq_true q];rfl
 ·obtain⟨v,h1,hv,P1,l1,e2⟩:=jg (m+2) P hr (show 0<4 by decide) (by decide)
  have e2:call prog (m+3) "_law_next" [.v (.ref r),.v (.int 4)] h= .ok (.v (.int (v:Int))) h1:=e2
  have z3:Gz .eq (.v (.int (v:Int))) (.v (.int 3)) h1=y0 (k8 (v=3)):=Zg v 3 h1
  have tt:Gp (v8 (m+3)) (.or (.cmp .lt (.call "_law_level" (.cons (.var 0) .nil)) (.var 1)) (.cmp .eq (.call "_law_next" (.cons (.var 2) (.cons (.int 4) .nil))) (.int 3))) (tkS (exD e) l r x (some (.v (.lst (ts.map .str)))) z) h= .ok (decide (v=3)) h1:=by
   rw [Gp,eval,e1,decide_eq_false q]
   simp only [R.bind_ok,Gk,R.of_some]
   simp_all [e2,z3]
  by_cases q3:v=3
  ·refine⟨_,_,h1,TE.down (.par (TE.down ht (Ae7 _) (qE e))) hl (Aa6 _),by simp,.inl rfl,P1,l1,?_⟩
   rw [qa (w:= .own (([40]::(ts++ [[41]])).map .str)) (h1:=h1),Gu _ _ _ l1]
   rw [Wo (h1:=h1) (by rw [tt,decide_eq_true q3])]
   exact qa (Qi rfl (pr _))
  ·refine⟨ts,_,h1,(TE.down ht (by omega) (qE e)).wk (Ae _),by omega,.inr rfl,P1,l1,?_⟩
   rw [za (τ1:=tkS (exD e) l r x (y0 (.v (.lst (ts.map .str)))) z) (h1:=h1) (by rw [QN (h1:=h1) (by rw [tt,decide_eq_false q3])];rfl)]
   rw [qa (w:= .v (.lst (ts.map .str))) (h1:=h1) rfl,Ga _ _ _ l1]
end
section
variable {N:List Tx}{m r:Nat}
theorem xbb (e:Ex) (h:AH) (τ:Sl) (h0:Gm τ 0=y0 (.v (exD e))):Gp (v8 (m+3)) (.cmp .lt (.call "_law_level" (.cons (.var 0) .nil)) (.int 3)) τ h= .ok (decide (lvl e<3)) h:=by
 have z:Gz .lt (.v (.int (lvl e:Int))) (.v (.int 3)) h=y0 (k8 (lvl e<3)):=wu (lvl e) 3 h
 simp only [Gp,eval,Gi,Gn,h0,R.bind_ok,R.of_some,Ac,Af6,W.arg_v,ZP (m+2),okv,z,Gk]
theorem qG (he:(∃ s,e= .name s/\t=s/\s∈N/\GoodN s)\/(e= .same/\t=Qp)\/(e= .all/\t=XC)\/(e= .none/\t=xp)) (hl:l<=3)(P:PH h) (hr:r<h.length):
 ∃us w h',TE N l e us 1/\us.length<=3/\isL w us/\PH h'/\h'.length=h.length/\call prog (m+4) "_law_tokens" [.v (exD e),.v (.int (l:Int)),.v (.ref r)] h= .ok w h':=by
 have lv:lvl e=3:=by rcases he with⟨s,rfl,_⟩ | ⟨rfl,_⟩ | ⟨rfl,_⟩ | ⟨rfl,_⟩<;>rfl
 have te:TE N 3 e [t] 0:=by
  rcases he with⟨s,rfl,rfl,h1,h2⟩ | ⟨rfl,rfl⟩ | ⟨rfl,rfl⟩ | ⟨rfl,rfl⟩
  ·exact .name h1 h2
  ·exact .same
  ·exact .all
  ·exact .none
 obtain⟨us,w,h',h1,h2,h3,h4,h5,h6⟩:=xak (by rw [lv];exact te) hl (by simp) P hr (y0 (.v (.str (exS e)))) k9
 refine⟨us,w,h',h1,h2,h3,h4,h5,?_⟩
 rw [Gb rfl _ _ _ rfl]
 simp only [Gx]
 have s4: ∀y,exec (v8 (m+3)) tk4 (tkS (exD e) l r (y0 (.v (.str (exS e)))) y k9) h= .next (tkS (exD e) l r (y0 (.v (.str (exS e)))) y k9) h:=λy=>by
  rw [QN (by rw [xbb e h _ rfl,lv];rfl)];rfl
 rcases he with⟨s,rfl,rfl,_⟩ | ⟨rfl,rfl⟩ | ⟨rfl,rfl⟩ | ⟨rfl,rfl⟩
 ·rw [za rfl,za rfl,
   za rfl,Ja rfl]
  exact(congrArg (Gw h.length) (za (s4 _))).trans h6
 ·rw [za rfl,za rfl,Ja rfl,Ja rfl]
  exact(congrArg (Gw h.length) (za (s4 _))).trans h6
 ·rw [za rfl,za rfl,Ja rfl,Ja rfl]
  exact(congrArg (Gw h.length) (za (s4 _))).trans h6
 ·rw [za rfl,za rfl,Ja rfl,Ja rfl]
  exact(congrArg (Gw h.length) (za (s4 _))).trans h6
theorem qa5 (i:Nat) (c:Nat) (h:AH) (hc:(i,c)∈ [(0,126),(1,94)]):ixD (.v (.str [126,94])) (.v (.int (i:Int))) h=y0 (.str [c]):=by
 rw [XE,if_pos (by rw [Gc];decide)]
 simp only [Aa,Aa2,or_false,Prod.mk.injEq]at hc
 rcases hc with⟨rfl,rfl⟩ | ⟨rfl,rfl⟩<;>rfl
theorem zbR {e a:Ex}{s:Tx}{c n l:Nat}(he:(e= .turned a/\s=xb/\c=126)\/(e= .closed a/\s=jb/\c=94)) (hl:l<=3){h:AH}{ts:List Tx}{w:W}{h1:AH}(ht:TE N 3 a ts n) (hs:ts.length<=700000) (hw:isL w ts) (P1:PH h1) (l1:h1.length=h.length) (hr:r<h.length)
 (ea:call prog (m+3) "_law_tokens" [.v (exD a),.v (.int 3),.v (.ref r)] h= .ok w h1):
 ∃us w h',TE N l e us (n+1+1)/\us.length<=ts.length+3/\isL w us/\PH h'/\h'.length=h.length/\call prog (m+4) "_law_tokens" [.v (exD e),.v (.int (l:Int)),.v (.ref r)] h= .ok w h':=by
 have lv:lvl e=3:=by rcases he with⟨rfl,_⟩ | ⟨rfl,_⟩<;>rfl
 have te:TE N 3 e ([c]::ts) (n+1):=by
  rcases he with⟨rfl,_,rfl⟩ | ⟨rfl,_,rfl⟩
  ·exact .turned ht
  ·exact .closed ht
 obtain⟨us,w',h',h1',h2,h3,h4,h5,h6⟩:=xak (m:=m) (r:=r) (l:=l) (by rw [lv];exact te) hl (by simp;omega) P1 (by omega) (y0 (.v (.str s))) k9
 refine⟨us,w',h',h1',by simp at h2;omega,h3,h4,h5.trans l1,?_⟩
 rw [l1]at h6
 rw [Gb (d:=Gx) rfl _ _ _ rfl]
 simp only [Gx]
 show Gw _ (execs _ _ (tkS (exD e) l r k9 k9 k9) h)=_
 have s4: ∀y,exec (v8 (m+3)) tk4 (tkS (exD e) l r (y0 (.v (.str s))) y k9) h1= .next (tkS (exD e) l r (y0 (.v (.str s))) y k9) h1:=λy=>by
  rw [QN (h1:=h1) (by rw [xbb e h1 _ rfl,lv];rfl)];rfl
 have s3:exec (v8 (m+3)) (.iff (.cmp .mem (.var 3) (.tup (.cons (.str [116,117,114,110,101,100]) (.cons (.str [99,108,111,115,101,100]) .nil)))) (.cons (.setf 4 (.bin .add (.lst (.cons (.ix (.str [126,94]) (.bi .int (.cons (.cmp .eq (.var 3) (.str [99,108,111,115,101,100])) .nil))) .nil)) (.call "_law_tokens" (.cons (.ix (.var 0) (.int 1)) (.cons (.int 3) (.cons (.var 2) .nil)))))) .nil) .nil) (tkS (exD e) l r (some (.v (.str s))) (some (.v (.lst [.str s]))) none) h= .next (tkS (exD e) l r (some (.v (.str s))) (some (.v (.lst (([c]::ts).map .str)))) none) h1:=by
  have a0:eval (v8 (m+3)) (.lst (.cons (.ix (.str [126,94]) (.bi .int (.cons (.cmp .eq (.var 3) (.str [99,108,111,115,101,100])) .nil))) .nil)) (tkS (exD e) l r (y0 (.v (.str s))) (y0 (.v (.lst [.str s]))) k9) h= .ok (.own ([([c]:Tx)].map D.str)) h:=by
   rcases he with⟨rfl,rfl,rfl⟩ | ⟨rfl,rfl,rfl⟩
   ·have i0:eval (v8 (m+3)) (.bi .int (.cons (.cmp .eq (.var 3) (.str [99,108,111,115,101,100])) .nil)) (tkS (exD (.turned a)) l r (y0 (.v (.str xb))) (y0 (.v (.lst [.str xb]))) k9) h= .ok (.v (.int ((0:Nat):Int))) h:=rfl
    rw [eval,Gj,eval,eval,okv,R.bind_ok,i0,R.bind_ok,qa5 0 126 h (by decide)];rfl
   ·have i0:eval (v8 (m+3)) (.bi .int (.cons (.cmp .eq (.var 3) (.str [99,108,111,115,101,100])) .nil)) (tkS (exD (.closed a)) l r (y0 (.v (.str jb))) (y0 (.v (.lst [.str jb]))) k9) h= .ok (.v (.int ((1:Nat):Int))) h:=rfl
    rw [eval,Gj,eval,eval,okv,R.bind_ok,i0,R.bind_ok,qa5 1 94 h (by decide)];rfl
  have a1:eval (v8 (m+3)) (.call "_law_tokens" (.cons (.ix (.var 0) (.int 1)) (.cons (.int 3) (.cons (.var 2) .nil)))) (tkS (exD e) l r (some (.v (.str s))) (some (.v (.lst [.str s]))) none) h= .ok w h1:=by
   have i1:ixD (.v (exD e)) (.v (.int 1)) h=y0 (exD a):=by rcases he with⟨rfl,_⟩ | ⟨rfl,_⟩<;>rfl
   simp_all [i1,ea]
  have hm:k8 (s∈ [xb,jb])=true:=by rcases he with⟨_,rfl,_⟩ | ⟨_,rfl,_⟩<;>decide
  rw [Wo (h1:=h) (by rw [jj rfl,hm])]
  rw [za (τ1:=tkS (exD e) l r (y0 (.v (.str s))) (y0 (.v (.lst (([c]::ts).map .str)))) k9) (h1:=h1)]
  ·rfl
  ·rw [exec,eval,a0,R.bind_ok,a1,R.bind_ok,ZG hw (by simp;omega)];rfl
 rcases he with⟨rfl,rfl,rfl⟩ | ⟨rfl,rfl,rfl⟩
 ·rw [za (τ1:=tkS (exD (.turned a)) l r (y0 (.v (.str xb))) k9 k9) (h1:=h) rfl,za (τ1:=tkS (exD (.turned a)) l r (y0 (.v (.str xb))) (y0 (.v (.lst [.str xb]))) k9) (h1:=h) rfl,Ja rfl,za s3]
  exact(congrArg (Gw h.length) (za (s4 _))).trans h6
 ·rw [za (τ1:=tkS (exD (.closed a)) l r (y0 (.v (.str jb))) k9 k9) (h1:=h) rfl,za (τ1:=tkS (exD (.closed a)) l r (y0 (.v (.str jb))) (y0 (.v (.lst [.str jb]))) k9) (h1:=h) rfl,Ja rfl,za s3]
  exact(congrArg (Gw h.length) (za (s4 _))).trans h6
theorem zbW (he:(s,c,k)∈ [(zh,43,0),(zg,45,0),(Xp,38,1),(zf,46,2)]) (lv:lvl e=k) (ed:exD e= .tup [.str s,exD a,exD b])(te:TE N k e (ts++ [c]::us) n) (hl:l<=3)(hs:ts.length+us.length<=700000) (hw:isL w ts) (hw':isL w' us) (P2:PH h2) (l1:h1.length=h.length) (l2:h2.length=h1.length) (hr:r<h.length)
 (ea:call prog (m+3) "_law_tokens" [.v (exD a),.v (.int (k:Int)),.v (.ref r)] h= .ok w h1) (eb:call prog (m+3) "_law_tokens" [.v (exD b),.v (.int ((k+1:Nat):Int)),.v (.ref r)] h1= .ok w' h2):
 ∃vs w h',TE N l e vs (n+1)/\vs.length<=ts.length+us.length+3/\isL w vs/\PH h'/\h'.length=h.length/\call prog (m+4) "_law_tokens" [.v (exD e),.v (.int (l:Int)),.v (.ref r)] h= .ok w h':=by
 have hk:k<3:=by
  simp only [Aa,Aa2,or_false,Prod.mk.injEq]at he
  omega
 obtain⟨vs,w0,h',h1',h2',h3,h4,h5,h6⟩:=xak (m:=m) (r:=r) (l:=l) (by rw [lv];exact te) hl (by simp;omega) P2 (by omega) (y0 (.v (.str s))) (y0 (.v (.int (k:Int))))
 refine⟨vs,w0,h',h1',by simp at h2';omega,h3,h4,h5.trans (l2.trans l1),?_⟩
 rw [l2,l1]at h6
 rw [Gb (d:=Gx) rfl _ _ _ rfl]
 simp only [Gx]
 show Gw _ (execs _ _ (tkS (exD e) l r k9 k9 k9) h)=_
 have i0: ∀h,ixD (.v (exD e)) (.v (.int 0)) h=y0 (.str s):=λh=>by rw [ed];rfl
 have i1: ∀h,ixD (.v (exD e)) (.v (.int 1)) h=y0 (exD a):=λh=>by rw [ed];rfl
 have i2: ∀h,ixD (.v (exD e)) (.v (.int 2)) h=y0 (exD b):=λh=>by rw [ed];rfl
 have dl: ∀h,KZ [([112,108,117,115],[43]),([108,101,115,115],[45]),([98,111,116,104],[38]),([106,111,105,110,101,100],[46])] (y0 (.v (.str s))) h= .ok (.v (.str [c])) h:=λh=>by
  simp only [Aa,Aa2,or_false,Prod.mk.injEq]at he
  rcases he with⟨rfl,rfl,_⟩ | ⟨rfl,rfl,_⟩ | ⟨rfl,rfl,_⟩ | ⟨rfl,rfl,_⟩<;>rfl
 have nn:(s==wJ)=u9/\k8 (s∈ [xb,jb])=false:=by
  simp only [Aa,Aa2,or_false,Prod.mk.injEq]at he
  rcases he with⟨rfl,_⟩ | ⟨rfl,_⟩ | ⟨rfl,_⟩ | ⟨rfl,_⟩<;>exact⟨by decide,by decide⟩
 rw [za (τ1:=tkS (exD e) l r (y0 (.v (.str s))) k9 k9) (h1:=h) (by simp_all [i0])]
 rw [za (τ1:=tkS (exD e) l r (y0 (.v (.str s))) (y0 (.v (.lst [.str s]))) k9) (h1:=h) rfl]
 rw [Ja (by rw [jaQ rfl,nn.1]),Ja (by rw [jj rfl,nn.2])]
 rw [za (s:=tk4) (τ1:=tkS (exD e) l r (y0 (.v (.str s))) (y0 (.v (.lst ((ts++ [c]::us).map .str)))) (y0 (.v (.int (k:Int))))) (h1:=h2)]
 ·exact h6
 rw [Wo (h1:=h) (by rw [xbb e h _ rfl,lv,decide_eq_true hk])]
 rw [za (τ1:=tkS (exD e) l r (y0 (.v (.str s))) (y0 (.v (.lst [.str s]))) (y0 (.v (.int (k:Int))))) (h1:=h) (by simp_all [ZP (m+2),lv])]
 have a1:eval (v8 (m+3)) (.call "_law_tokens" (.cons (.ix (.var 0) (.int 1)) (.cons (.var 5) (.cons (.var 2) .nil)))) (tkS (exD e) l r (some (.v (.str s))) (some (.v (.lst [.str s]))) (some (.v (.int (k:Int))))) h= .ok w h1:=by
  simp_all [i1,ea]
 rw [za (τ1:=tkS (exD e) l r (y0 (.v (.str s))) (y0 (.v (.lst (ts.map .str)))) (y0 (.v (.int (k:Int))))) (h1:=h1) (by rw [exec,a1,R.toO_ok,hw.d];rfl)]
 have a2:eval (v8 (m+3)) (.lst (.cons (.dlit [([112,108,117,115],[43]),([108,101,115,115],[45]),([98,111,116,104],[38]),([106,111,105,110,101,100],[46])] 3) .nil)) (tkS (exD e) l r (y0 (.v (.str s))) (y0 (.v (.lst (ts.map .str)))) (y0 (.v (.int (k:Int))))) h1= .ok (.own ([([c]:Tx)].map D.str)) h1:=by
  simp_all [dl]<;>rfl
 rw [za (τ1:=tkS (exD e) l r (y0 (.v (.str s))) (y0 (.v (.lst ((ts++ [[c]]).map .str)))) (y0 (.v (.int (k:Int))))) (h1:=h1) (by rw [exec,eval,qP rfl,R.bind_ok,a2,R.bind_ok,jX (.inl rfl) (by simp;omega)];rfl)]
 have a3:eval (v8 (m+3)) (.call "_law_tokens" (.cons (.ix (.var 0) (.int 2)) (.cons (.bin .add (.var 5) (.int 1)) (.cons (.var 2) .nil)))) (tkS (exD e) l r (some (.v (.str s))) (some (.v (.lst ((ts++ [[c]]).map .str)))) (some (.v (.int (k:Int))))) h1= .ok w' h2:=by
  have z:Gf .add (k:Int) 1=y0 ((k+1:Nat):Int):=by rw [jh];rfl
  simp_all [i2,z,eb]
 rw [za (τ1:=tkS (exD e) l r (y0 (.v (.str s))) (y0 (.v (.lst ((ts++ [c]::us).map .str)))) (y0 (.v (.int (k:Int))))) (h1:=h2) (by rw [exec,eval,qP rfl,R.bind_ok,a3,R.bind_ok,jX hw' (by simp;omega),Af3];rfl)]
 rfl
end
theorem zH (N) (gN: ∀t∈N,GoodN t) (r): ∀ e,e.wf N->e.dp<=8-> ∀ m l,l<=3-> ∀ h,PH h->r<h.length →
 ∃us w h',TE N l e us (2*e.dp+1)/\us.length+3<=6*2 ^ e.dp/\isL w us/\PH h'/\h'.length=h.length/\call prog (m+e.dp+4) "_law_tokens" [.v (exD e),.v (.int (l:Int)),.v (.ref r)] h= .ok w h':=by
 intro e
 have pw: ∀d,d<=8->2 ^ d<=256:=λd hd=>Ab8 (by decide) hd
 have two: ∀ {e a b}{s}{c k},(s,c,k)∈ [(zh,43,0),(zg,45,0),(Xp,38,1),(zf,46,2)]->lvl e=k->exD e= .tup [.str s,exD a,exD b]->e.dp=max a.dp b.dp+1->(∀ {ts us}{n},TE N k a ts n->TE N (k+1) b us n->TE N k e (ts++ [c]::us) n) →
  (e.dp<=8-> ∀ m l,l<=3-> ∀ h,PH h->r<h.length-> ∃us w h',TE N l a us (2*a.dp+1)/\us.length+3<=6*2 ^ a.dp/\isL w us/\PH h'/\h'.length=h.length/\call prog (m+a.dp+4) "_law_tokens" [.v (exD a),.v (.int (l:Int)),.v (.ref r)] h= .ok w h') →
  (e.dp<=8-> ∀ m l,l<=3-> ∀ h,PH h->r<h.length-> ∃us w h',TE N l b us (2*b.dp+1)/\us.length+3<=6*2 ^ b.dp/\isL w us/\PH h'/\h'.length=h.length/\call prog (m+b.dp+4) "_law_tokens" [.v (exD b),.v (.int (l:Int)),.v (.ref r)] h= .ok w h') →
  e.dp<=8-> ∀ m l,l<=3-> ∀ h,PH h->r<h.length-> ∃us w h',TE N l e us (2*e.dp+1)/\us.length+3<=6*2 ^ e.dp/\isL w us/\PH h'/\h'.length=h.length/\call prog (m+e.dp+4) "_law_tokens" [.v (exD e),.v (.int (l:Int)),.v (.ref r)] h= .ok w h':=by
  intro e a b s c k he lv ed dp mk iha ihb hd m l hl h P hr
  have hk:k<3:=by
   simp only [Aa,Aa2,or_false,Prod.mk.injEq]at he
   omega
  obtain⟨ts,w,h1,a1,a2,a3,P1,l1,ea⟩:=iha hd (m+(e.dp-1-a.dp)) k (by omega) h P hr
  obtain⟨us,w',h2,b1,b2,b3,P2,l2,eb⟩:=ihb hd (m+(e.dp-1-b.dp)) (k+1) (by omega) h1 P1 (by omega)
  rw [show m+(e.dp-1-a.dp)+a.dp+4=(m+e.dp)+3 by omega]at ea
  rw [show m+(e.dp-1-b.dp)+b.dp+4=(m+e.dp)+3 by omega]at eb
  have pa:2 ^ a.dp<=2 ^ (e.dp-1):=Ab8 (by decide) (by omega)
  have pb:2 ^ b.dp<=2 ^ (e.dp-1):=Ab8 (by decide) (by omega)
  have pe:2 ^ e.dp=2*2 ^ (e.dp-1):=by rw [show e.dp=(e.dp-1)+1 by omega,Ae2];simp;omega
  have p8:=pw (e.dp-1) (by omega)
  have te:=mk (a1.wk (show 2*a.dp+1<=2*e.dp by omega)) (b1.wk (show 2*b.dp+1<=2*e.dp by omega))
  obtain⟨vs,w0,h',v1,v2,v3,v4,v5,v6⟩:=zbW (m:=m+e.dp) (l:=l) he lv ed te hl (by omega) a3 b3 P2 l1 l2 hr ea eb
  exact⟨vs,w0,h',v1,by omega,v3,v4,v5,v6⟩
 have one: ∀ {e a}{s}{c},((e= .turned a/\s=xb/\c=126)\/(e= .closed a/\s=jb/\c=94))->e.dp=a.dp+1 →
  (e.dp<=8-> ∀ m l,l<=3-> ∀ h,PH h->r<h.length-> ∃us w h',TE N l a us (2*a.dp+1)/\us.length+3<=6*2 ^ a.dp/\isL w us/\PH h'/\h'.length=h.length/\call prog (m+a.dp+4) "_law_tokens" [.v (exD a),.v (.int (l:Int)),.v (.ref r)] h= .ok w h') →
  e.dp<=8-> ∀ m l,l<=3-> ∀ h,PH h->r<h.length-> ∃us w h',TE N l e us (2*e.dp+1)/\us.length+3<=6*2 ^ e.dp/\isL w us/\PH h'/\h'.length=h.length/\call prog (m+e.dp+4) "_law_tokens" [.v (exD e),.v (.int (l:Int)),.v (.ref r)] h= .ok w h':=by
  intro e a s c he dp iha hd m l hl h P hr
  obtain⟨ts,w,h1,a1,a2,a3,P1,l1,ea⟩:=iha hd m 3 (Aa6 _) h P hr
  have p8:=pw a.dp (by omega)
  have pe:2 ^ e.dp=2*2 ^ a.dp:=by rw [dp,Ae2];omega
  have p1:1<=2 ^ a.dp:=Ad5
  obtain⟨vs,w0,h',v1,v2,v3,v4,v5,v6⟩:=zbR (m:=m+a.dp+1) (l:=l) he hl a1 (by omega) a3 P1 l1 hr ea
  rw [dp]
  refine⟨vs,w0,h',?_,by rw [← dp];omega,v3,v4,v5,?_⟩
  ·rw [show 2*(a.dp+1)+1=2*a.dp+1+1+1 by omega];exact v1
  ·rw [show m+(a.dp+1)+4=m+a.dp+1+4 by omega];exact v6
 induction e with
 | name t=>intro wf _ m l hl h P hr;obtain⟨us,w,h',v⟩:=qG (N:=N) (m:=m) (e:= .name t) (.inl ⟨t,rfl,rfl,wf,gN t wf⟩) hl P hr;exact⟨us,w,h',v.1,by have:=v.2.1;show _<=6*2 ^ 0;omega,v.2.2⟩
 | same=>intro wf _ m l hl h P hr;obtain⟨us,w,h',v⟩:=qG (N:=N) (m:=m) (e:= .same) (.inr (.inl ⟨rfl,rfl⟩)) hl P hr;exact⟨us,w,h',v.1,by have:=v.2.1;show _<=6*2 ^ 0;omega,v.2.2⟩
 | all=>intro wf _ m l hl h P hr;obtain⟨us,w,h',v⟩:=qG (N:=N) (m:=m) (e:= .all) (.inr (.inr (.inl ⟨rfl,rfl⟩))) hl P hr;exact⟨us,w,h',v.1,by have:=v.2.1;show _<=6*2 ^ 0;omega,v.2.2⟩
 | none=>intro wf _ m l hl h P hr;obtain⟨us,w,h',v⟩:=qG (N:=N) (m:=m) (e:= .none) (.inr (.inr (.inr ⟨rfl,rfl⟩))) hl P hr;exact⟨us,w,h',v.1,by have:=v.2.1;show _<=6*2 ^ 0;omega,v.2.2⟩
 | turned a ih=>intro wf hd;exact one (.inl ⟨rfl,rfl,rfl⟩) rfl (λq=>ih wf (by simp only [Ex.dp]at q;omega)) hd
 | closed a ih=>intro wf hd;exact one (.inr ⟨rfl,rfl,rfl⟩) rfl (λq=>ih wf (by simp only [Ex.dp]at q;omega)) hd
 | plus a b iha ihb=>intro wf hd;exact two (c:=43) (k:=0) (by decide) rfl rfl rfl (λx y=> .plus x y) (λq=>iha wf.1 (by simp only [Ex.dp]at q;omega)) (λq=>ihb wf.2 (by simp only [Ex.dp]at q;omega)) hd
 | less a b iha ihb=>intro wf hd;exact two (c:=45) (k:=0) (by decide) rfl rfl rfl (λx y=> .less x y) (λq=>iha wf.1 (by simp only [Ex.dp]at q;omega)) (λq=>ihb wf.2 (by simp only [Ex.dp]at q;omega)) hd
 | both a b iha ihb=>intro wf hd;exact two (c:=38) (k:=1) (by decide) rfl rfl rfl (λx y=> .both x y) (λq=>iha wf.1 (by simp only [Ex.dp]at q;omega)) (λq=>ihb wf.2 (by simp only [Ex.dp]at q;omega)) hd
 | joined a b iha ihb=>intro wf hd;exact two (c:=46) (k:=2) (by decide) rfl rfl rfl (λx y=> .joined x y) (λq=>iha wf.1 (by simp only [Ex.dp]at q;omega)) (λq=>ihb wf.2 (by simp only [Ex.dp]at q;omega)) hd
abbrev ftS (f:D) (r:Nat) (x y z:Option W):Sl:= [y0 (.v f),y0 (.v (.ref r)),x,y,z]
section
variable {N:List Tx}{m r:Nat}
theorem xac (h0:Gm τ 0=y0 (.v f)) (hi: ∀h,eval F ix τ h= .ok (.v (.int j)) h) (hd:ixD (.v f) (.v (.int j)) h=y0 d) (hr:Gm τ i=y0 (.v (.ref r))) (ea:F.call "_law_tokens" [.v d,.v (.int (l:Int)),.v (.ref r)] h= .ok w h1):
 eval F (.call "_law_tokens" (.cons (.ix (.var 0) ix) (.cons (.int (l:Int)) (.cons (.var i) .nil)))) τ h= .ok w h1:=by
 simp only [eval,Gi,Gn,h0,hr,hi,hd,R.bind_ok,R.of_some,Ac,Af6,W.arg_v,ea]
theorem zbn (hs:(s,x)∈ [(jt,jt),(Qd,([61]:Tx))]) (ef:fcD f= .tup [.str s,exD a,exD b])(hl:ts.length+us.length<=700000) (hw:isL w ts) (hw':isL w' us) (l2:h2.length=h.length)
 (ea:call prog m "_law_tokens" [.v (exD a),.v (.int ((0:Nat):Int)),.v (.ref r)] h= .ok w h1) (eb:call prog m "_law_tokens" [.v (exD b),.v (.int ((0:Nat):Int)),.v (.ref r)] h1= .ok w' h2):
 call prog (m+1) "_law_fact_tokens" [.v (fcD f),.v (.ref r)] h= .ok (.own ((ts++x::us).map .str)) h2:=by
 rw [Gb (d:=Gq) rfl _ _ _ rfl]
 simp only [Gq]
 show Gw _ (execs _ _ (ftS (fcD f) r k9 k9 k9) h)=_
 have i0: ∀h,ixD (.v (fcD f)) (.v (.int 0)) h=y0 (.str s):=λh=>by rw [ef];rfl
 have i1: ∀h,ixD (.v (fcD f)) (.v (.int 1)) h=y0 (exD a):=λh=>by rw [ef];rfl
 have i2: ∀h,ixD (.v (fcD f)) (.v (.int 2)) h=y0 (exD b):=λh=>by rw [ef];rfl
 have hm:k8 (s∈ [jt,Qd])=true:=by
  simp only [Aa,Aa2,or_false,Prod.mk.injEq]at hs
  rcases hs with⟨rfl,_⟩ | ⟨rfl,_⟩<;>decide
 rw [za (τ1:=ftS (fcD f) r (y0 (.v (.str s))) k9 k9) (h1:=h) (by simp_all [i0])]
 rw [qa (w:= .own ((ts++x::us).map .str)) (h1:=h2),Gu _ _ _ l2]
 rw [Wo (h1:=h) (by rw [jj rfl,hm])]
 have a1:eval (v8 m) (.call "_law_tokens" (.cons (.ix (.var 0) (.int 1)) (.cons (.int 0) (.cons (.var 1) .nil)))) (ftS (fcD f) r (some (.v (.str s))) none none) h= .ok w h1:=xac (l:=0) rfl (fun h=>rfl) (i1 h) rfl ea
 have a2:eval (v8 m) (.lst (.cons (.ix (.lst (.cons (.str [61]) (.cons (.str [105,110]) .nil))) (.bi .int (.cons (.cmp .eq (.var 2) (.str [105,110])) .nil))) .nil)) (ftS (fcD f) r (y0 (.v (.str s))) k9 k9) h1= .ok (.own ([x].map D.str)) h1:=by
  simp only [Aa,Aa2,or_false,Prod.mk.injEq]at hs
  rcases hs with⟨rfl,rfl⟩ | ⟨rfl,rfl⟩<;>rfl
 rw [za (τ1:=ftS (fcD f) r (y0 (.v (.str s))) (y0 (.v (.lst ((ts++ [x]).map .str)))) k9) (h1:=h1)]
 ·have a3:eval (v8 m) (.call "_law_tokens" (.cons (.ix (.var 0) (.int 2)) (.cons (.int 0) (.cons (.var 1) .nil)))) (ftS (fcD f) r (some (.v (.str s))) (some (.v (.lst ((ts++ [x]).map .str)))) none) h1= .ok w' h2:=xac (l:=0) rfl (fun h=>rfl) (i2 h1) rfl eb
  refine qa (Qi rfl ?_)
  rw [eval,qP rfl,R.bind_ok,a3,R.bind_ok,jX hw' (by simp;omega),Af3];rfl
 ·rw [exec,eval,a1,R.bind_ok,a2,R.bind_ok]
  have:GZ .add w (.own ([x].map D.str)) h1= .ok (.own ((ts++ [x]).map .str)) h1:=by
   rcases hw with rfl | rfl
   ·exact ZG (.inl rfl) (by simp;omega) h1
   ·exact jX (.inl rfl) (by simp;omega) h1
  rw [this];rfl
theorem qbw (hs:(∃ k:Nat,k<100/\d= .int (k:Int)/\fcD f= .tup [.str s,d,exD a]/\((s∈ [Wa,Qb]/\xs= [s,dg k])\/(∃ u∈ [Wa,Qb],s=Zd++u/\xs= [Zd,u,dg k])))\/(s∈ [xf,JD]/\xs= [s]/\fcD f= .tup [.str s,exD a]))(hl:ts.length<=700000) (hw:isL w ts) (l1:h1.length=h.length)
 (ea:call prog m "_law_tokens" [.v (exD a),.v (.int ((0:Nat):Int)),.v (.ref r)] h= .ok w h1):
 call prog (m+1) "_law_fact_tokens" [.v (fcD f),.v (.ref r)] h= .ok (.own ((xs++ts).map .str)) h1:=by
 rw [Gb (d:=Gq) rfl _ _ _ rfl]
 simp only [Gq]
 show Gw _ (execs _ _ (ftS (fcD f) r k9 k9 k9) h)=_
 have i0: ∀h,ixD (.v (fcD f)) (.v (.int 0)) h=y0 (.str s):=λh=>by rcases hs with⟨k,_,_,e,_⟩ | ⟨_,_,e⟩<;>rw [e]<;>rfl
 have il: ∀h,ixD (.v (fcD f)) (.v (.int (-1))) h=y0 (exD a):=λh=>by rcases hs with⟨k,_,_,e,_⟩ | ⟨_,_,e⟩<;>rw [e]<;>rfl
 have nm:k8 (s∈ [jt,Qd])=false:=by
  rcases hs with⟨k,_,_,_,⟨q,_⟩ | ⟨u,q,rfl,_⟩⟩ | ⟨q,_⟩<;>simp only [Aa,Aa2,or_false]at q<;>rcases q with rfl | rfl<;>decide
 rw [za (τ1:=ftS (fcD f) r (y0 (.v (.str s))) k9 k9) (h1:=h) (by simp_all [i0])]
 rw [Ja (by rw [jj rfl,nm])]
 have a1:eval (v8 m) (.call "_law_tokens" (.cons (.ix (.var 0) (.neg (.int 1))) (.cons (.int 0) (.cons (.var 1) .nil)))) (ftS (fcD f) r (some (.v (.str s))) none none) h= .ok w h1:=xac (l:=0) rfl (fun h=>rfl) (il h) rfl ea
 rw [za (τ1:=ftS (fcD f) r (y0 (.v (.str s))) k9 (y0 (.v (.lst (ts.map .str))))) (h1:=h1) (by rw [exec,a1,R.toO_ok,hw.d];rfl)]
 have fin: ∀ e ys,ys.length<=5->eval (v8 m) e (ftS (fcD f) r (y0 (.v (.str s))) k9 (y0 (.v (.lst (ts.map .str))))) h1= .ok (.own (ys.map .str)) h1->exec (v8 m) (.ret (.bin .add e (.var 4))) (ftS (fcD f) r (y0 (.v (.str s))) k9 (y0 (.v (.lst (ts.map .str))))) h1= .ret (.own ((ys++ts).map .str)) h1:=λe ys hy q=>by
  refine Qi rfl ?_
  rw [eval,q,R.bind_ok,qP rfl,R.bind_ok,ZG (.inr rfl) (by omega)]
 have st: ∀k:Nat,k<100-> ∀i,Gm (ftS (fcD f) r (y0 (.v (.str s))) k9 (y0 (.v (.lst (ts.map .str))))) i=y0 (.v (fcD f))->ixD (.v (fcD f)) (.v (.int 1)) h1=y0 (.int (k:Int))->eval (v8 m) (.strI (.ix (.var i) (.int 1))) (ftS (fcD f) r (y0 (.v (.str s))) k9 (y0 (.v (.lst (ts.map .str))))) h1= .ok (.v (.str (dg k))) h1:=λk hk i e0 i1=>by
  simp only [eval,Gn,e0,R.bind_ok,R.of_some,i1,okv,jaz]
  rw [if_pos (by omega),ju]
 rcases hs with⟨k,hk,rfl,e,hs⟩ | ⟨hs,rfl,e⟩
 ·have i1:ixD (.v (fcD f)) (.v (.int 1)) h1=y0 (.int (k:Int)):=by rw [e];rfl
  have n1:k8 (s∈ [xf,JD])=false:=by
   rcases hs with⟨q,_⟩ | ⟨u,q,rfl,_⟩<;>simp only [Aa,Aa2,or_false]at q<;>rcases q with rfl | rfl<;>decide
  rw [Ja (by rw [jj rfl,n1])]
  rcases hs with⟨hs,rfl⟩ | ⟨u,hu,rfl,rfl⟩
  ·rw [qa (w:= .own (([s,dg k]++ts).map .str)) (h1:=h1),Gu _ _ _ l1]
   rw [Wo (h1:=h1) (by rw [jj rfl,decide_eq_true hs])]
   refine qa (fin _ [s,dg k] (by simp) ?_)
   rw [eval,Gj,Zh (d:= .str s) rfl]
   simp only [R.bind_ok,W.d_v,R.of_some,Gj]
   rw [st k hk 0 rfl i1]
   rfl
  ·have n2:k8 (Zd++u∈ [Wa,Qb])=false:=by
    simp only [Aa,Aa2,or_false]at hu
    rcases hu with rfl | rfl<;>decide
   rw [Ja (by rw [jj rfl,n2])]
   rw [qa (w:= .own (([Zd,u,dg k]++ts).map .str)) (h1:=h1),Gu _ _ _ l1]
   refine fin _ [Zd,u,dg k] (by simp) ?_
   have sl:eval (v8 m) (.slL (.var 2) (.int 4)) (ftS (fcD f) r (y0 (.v (.str (Zd++u)))) k9 (y0 (.v (.lst (ts.map .str))))) h1= .ok (.v (.str u)) h1:=by
    simp only [Aa,Aa2,or_false]at hu
    rcases hu with rfl | rfl<;>(rw [eval,Zh (d:= .str _) rfl];show(if _ then _ else _)=_;rw [if_pos (by rw [Gc];decide)];rfl)
   rw [eval,Gj,eval]
   simp only [okv,R.bind_ok,W.d_v,R.of_some,Gj]
   rw [sl]
   simp only [R.bind_ok,W.d_v,R.of_some]
   rw [st k hk 0 rfl i1]
   rfl
 ·rw [qa (w:= .own (([s]++ts).map .str)) (h1:=h1),Gu _ _ _ l1]
  rw [Wo (h1:=h1) (by rw [jj rfl,decide_eq_true hs])]
  exact qa (fin _ [s] (by simp) rfl)
end
theorem qbG (N) (gN: ∀t∈N,GoodN t) (r) (f) (wf:f.wf N) (hd:f.dp<=8) (m:Nat) (h:AH) (P:PH h) (hr:r<h.length):
 ∃us h',TF N f us (2*f.dp+1)/\us.length+5<=20*2 ^ f.dp/\PH h'/\h'.length=h.length/\call prog (m+f.dp+5) "_law_fact_tokens" [.v (fcD f),.v (.ref r)] h= .ok (.own (us.map .str)) h':=by
 have pw: ∀d,d<=8->2 ^ d<=256:=λd hd=>Ab8 (by decide) hd
 have pair: ∀(f:Fc) (a b:Ex) (s x:Tx),(s,x)∈ [(jt,jt),(Qd,([61]:Tx))]->fcD f= .tup [.str s,exD a,exD b]->f.dp=max a.dp b.dp->f.dp<=8->a.wf N->b.wf N->(∀ {ts us:List Tx}{n:Nat},TE N 0 a ts n->TE N 0 b us n->TF N f (ts++x::us) n) →
  ∃us h',TF N f us (2*f.dp+1)/\us.length+5<=20*2 ^ f.dp/\PH h'/\h'.length=h.length/\call prog (m+f.dp+5) "_law_fact_tokens" [.v (fcD f),.v (.ref r)] h= .ok (.own (us.map .str)) h':=by
  intro f a b s x hs ef dp hd wa wb mk
  obtain⟨ts,w,h1,a1,a2,a3,P1,l1,ea⟩:=zH N gN r a wa (by omega) (m+(f.dp-a.dp)) 0 (by decide) h P hr
  obtain⟨us,w',h2,b1,b2,b3,P2,l2,eb⟩:=zH N gN r b wb (by omega) (m+(f.dp-b.dp)) 0 (by decide) h1 P1 (by omega)
  rw [show m+(f.dp-a.dp)+a.dp+4=m+f.dp+4 by omega]at ea
  rw [show m+(f.dp-b.dp)+b.dp+4=m+f.dp+4 by omega]at eb
  have pa:2 ^ a.dp<=2 ^ f.dp:=Ab8 (by decide) (by omega)
  have pb:2 ^ b.dp<=2 ^ f.dp:=Ab8 (by decide) (by omega)
  have p8:=pw f.dp hd
  have p1:1<=2 ^ f.dp:=Ad5
  refine⟨_,h2,mk (a1.wk (by omega)) (b1.wk (by omega)),?_,P2,l2.trans l1,zbn hs ef (by omega) a3 b3 (l2.trans l1) ea eb⟩
  rw [Aa1,Aa4];omega
 have last: ∀(f:Fc) (a:Ex) (s:Tx) (xs:List Tx) (d:D),((∃ k:Nat,k<100/\d= .int (k:Int)/\fcD f= .tup [.str s,d,exD a]/\((s∈ [Wa,Qb]/\xs= [s,dg k])\/(∃ u∈ [Wa,Qb],s=Zd++u/\xs= [Zd,u,dg k])))\/(s∈ [xf,JD]/\xs= [s]/\fcD f= .tup [.str s,exD a]))->f.dp=a.dp->f.dp<=8->a.wf N->(∀ {ts:List Tx}{n:Nat},TE N 0 a ts n->TF N f (xs++ts) n) →
  ∃us h',TF N f us (2*f.dp+1)/\us.length+5<=20*2 ^ f.dp/\PH h'/\h'.length=h.length/\call prog (m+f.dp+5) "_law_fact_tokens" [.v (fcD f),.v (.ref r)] h= .ok (.own (us.map .str)) h':=by
  intro f a s xs d hs dp hd wa mk
  obtain⟨ts,w,h1,a1,a2,a3,P1,l1,ea⟩:=zH N gN r a wa (by omega) m 0 (by decide) h P hr
  rw [← dp]at ea a2 a1
  have p8:=pw f.dp hd
  have p1:1<=2 ^ f.dp:=Ad5
  have xl:xs.length<=3:=by rcases hs with⟨k,_,_,_,⟨_,rfl⟩ | ⟨u,_,_,rfl⟩⟩ | ⟨_,rfl,_⟩<;>simp
  refine⟨_,h1,mk a1,?_,P1,l1,qbw hs (by omega) a3 l1 ea⟩
  rw [Aa1];omega
 cases f with
 | inn a b=>exact pair _ a b jt jt (by decide) rfl rfl hd wf.1 wf.2 λx y=> .inn x y
 | equ a b=>exact pair _ a b Qd [61] (by decide) rfl rfl hd wf.1 wf.2 λx y=> .equ x y
 | som a=>exact last _ a xf [xf] .non (.inr ⟨by decide,rfl,rfl⟩) rfl hd wf λx=> .som x
 | non a=>exact last _ a JD [JD] .non (.inr ⟨by decide,rfl,rfl⟩) rfl hd wf λx=> .non x
 | cnt s k a=>
  obtain⟨⟨hs,hk⟩,wa⟩:=wf
  simp only [Aa,Aa2,or_false]at hs
  rcases hs with rfl | rfl | rfl | rfl
  ·exact last _ a Wa [Wa,dg k] _ (.inl ⟨k,hk,rfl,rfl,.inl ⟨by decide,rfl⟩⟩) rfl hd wa λx=> .one (by decide) hk x
  ·exact last _ a Qb [Qb,dg k] _ (.inl ⟨k,hk,rfl,rfl,.inl ⟨by decide,rfl⟩⟩) rfl hd wa λx=> .one (by decide) hk x
  ·exact last _ a Jh [Zd,Wa,dg k] _ (.inl ⟨k,hk,rfl,rfl,.inr ⟨Wa,by decide,rfl,rfl⟩⟩) rfl hd wa λx=> .two (s:=Wa) (by decide) hk x
  ·exact last _ a jn [Zd,Qb,dg k] _ (.inl ⟨k,hk,rfl,rfl,.inr ⟨Qb,by decide,rfl,rfl⟩⟩) rfl hd wa λx=> .two (s:=Qb) (by decide) hk x
theorem TS.down : ∀ {k l},TS N k e ts n->l<=k->k<=2->TS N l e ts n
 | k,l,h,hl,h3=>by
  induction k with
  | zero=>obtain rfl:l=0:=by omega
          exact h
  | succ k ih=>
   rcases Nat.lt_or_ge k l with q | q
   ·obtain rfl:l=k+1:=by omega
    exact h
   ·exact ih (.up (by omega) h) q (by omega)
theorem QE (e):slv e<=2:=by cases e<;>simp [slv]
abbrev skS (e:D) (l r:Nat) (x y z:Option W):Sl:= [y0 (.v e),y0 (.v (.int (l:Int))),y0 (.v (.ref r)),x,y,z]
noncomputable abbrev skE:Ss:= .cons (.iff (.or (.cmp .lt (.call "_law_saying_level" (.cons (.var 0) .nil)) (.var 1)) (.cmp .eq (.call "_law_next" (.cons (.var 2) (.cons (.int 4) .nil))) (.int 3))) (.cons (.ret (.bin .add (.bin .add (.lst (.cons (.str [91]) .nil)) (.var 5)) (.lst (.cons (.str [93]) .nil)))) .nil) .nil) (.cons (.ret (.var 5)) .nil)
section
variable {N:List Tx}{m r:Nat}
theorem qar (wf:e.wf N)(ht:TS N (slv e) e ts n) (hl:l<=2) (hs:ts.length<=800000){h:AH}(P:PH h) (hr:r<h.length) (x z):
 ∃us w h',TS N l e us (n+1)/\us.length<=ts.length+2/\isL w us/\PH h'/\h'.length=h.length/\Gw h.length (execs (v8 (m+3)) skE (skS (syD e) l r x z (y0 (.v (.lst (ts.map .str))))) h)= .ok w h':=by
 have e1:eval (v8 (m+3)) (.cmp .lt (.call "_law_saying_level" (.cons (.var 0) .nil)) (.var 1)) (skS (syD e) l r x z (some (.v (.lst (ts.map .str))))) h= .ok (.v (.bl (decide (slv e<l)))) h:=by
  simp_all [XT (m+2) h e wf,wu]
 have pr: ∀h',eval (v8 (m+3)) (.bin .add (.bin .add (.lst (.cons (.str [91]) .nil)) (.var 5)) (.lst (.cons (.str [93]) .nil))) (skS (syD e) l r x z (y0 (.v (.lst (ts.map .str))))) h'= .ok (.own (([91]::(ts++ [[93]])).map .str)) h':=λh'=>by
  have a1:GZ .add (.own ([([91]:Tx)].map D.str)) (.v (.lst (ts.map .str))) h'= .ok (.own (([[91]]++ts).map .str)) h':=ZG (.inr rfl) (by simp;omega) h'
  have a2:GZ .add (.own (([[91]]++ts).map D.str)) (.own ([([93]:Tx)].map D.str)) h'= .ok (.own ((([[91]]++ts)++ [[93]]).map .str)) h':=ZG (.inl rfl) (by simp;omega) h'
  have b1:eval (v8 (m+3)) (.lst (.cons (.str [91]) .nil)) (skS (syD e) l r x z (y0 (.v (.lst (ts.map .str))))) h'= .ok (.own ([([91]:Tx)].map D.str)) h':=rfl
  have b2:eval (v8 (m+3)) (.lst (.cons (.str [93]) .nil)) (skS (syD e) l r x z (y0 (.v (.lst (ts.map .str))))) h'= .ok (.own ([([93]:Tx)].map D.str)) h':=rfl
  rw [eval,eval,b1,R.bind_ok,qP rfl,R.bind_ok,a1,R.bind_ok,b2,R.bind_ok,a2]
  rfl
 by_cases q:slv e<l
 ·refine⟨_,_,h,TS.down (.par (TS.down ht (Ae7 _) (QE e))) hl (Aa6 _),by simp,.inl rfl,P,rfl,?_⟩
  rw [qa,Gu _ _ _ rfl]
  rw [Wo]
  ·exact qa (Qi rfl (pr _))
  ·rw [Gp,eval,e1,decide_eq_true q];rfl
 ·obtain⟨v,h1,hv,P1,l1,e2⟩:=jg (m+2) P hr (show 0<4 by decide) (by decide)
  have e2:call prog (m+3) "_law_next" [.v (.ref r),.v (.int 4)] h= .ok (.v (.int (v:Int))) h1:=e2
  have z3:Gz .eq (.v (.int (v:Int))) (.v (.int 3)) h1=y0 (k8 (v=3)):=Zg v 3 h1
  have tt:Gp (v8 (m+3)) (.or (.cmp .lt (.call "_law_saying_level" (.cons (.var 0) .nil)) (.var 1)) (.cmp .eq (.call "_law_next" (.cons (.var 2) (.cons (.int 4) .nil))) (.int 3))) (skS (syD e) l r x z (some (.v (.lst (ts.map .str))))) h= .ok (decide (v=3)) h1:=by
   rw [Gp,eval,e1,decide_eq_false q]
   simp only [R.bind_ok,Gk,R.of_some]
   simp_all [e2,z3]
  by_cases q3:v=3
  ·refine⟨_,_,h1,TS.down (.par (TS.down ht (Ae7 _) (QE e))) hl (Aa6 _),by simp,.inl rfl,P1,l1,?_⟩
   rw [qa,Gu _ _ _ l1]
   rw [Wo (by rw [tt,decide_eq_true q3])]
   exact qa (Qi rfl (pr _))
  ·refine⟨ts,_,h1,(TS.down ht (by omega) (QE e)).wk (Ae _),by omega,.inr rfl,P1,l1,?_⟩
   rw [za (by rw [QN (by rw [tt,decide_eq_false q3])];rfl)]
   rw [qa rfl,Ga _ _ _ l1]
theorem WO (hw:syD s= .tup (.str w::ds)){ts:List Tx}(l1:h1.length=h.length)
 (hb:exec (v8 (m+3)) (.iff (.cmp .mem (.var 3) (.tup (.cons (.str [97,110,100]) (.cons (.str [111,114]) .nil)))) (.cons (.setf 4 (.call "_law_saying_level" (.cons (.var 0) .nil))) (.cons (.setf 5 (.bin .add (.call "_law_saying_tokens" (.cons (.ix (.var 0) (.int 1)) (.cons (.var 4) (.cons (.var 2) .nil)))) (.lst (.cons (.var 3) .nil)))) (.cons (.setf 5 (.bin .add (.var 5) (.call "_law_saying_tokens" (.cons (.ix (.var 0) (.int 2)) (.cons (.bin .add (.var 4) (.int 1)) (.cons (.var 2) .nil)))))) .nil))) (.cons (.iff (.cmp .eq (.var 3) (.str [110,111,116])) (.cons (.setf 5 (.bin .add (.lst (.cons (.str [110,111,116]) .nil)) (.call "_law_saying_tokens" (.cons (.ix (.var 0) (.int 1)) (.cons (.int 2) (.cons (.var 2) .nil)))))) .nil) (.cons (.setf 5 (.call "_law_fact_tokens" (.cons (.var 0) (.cons (.var 2) .nil)))) .nil)) .nil)) (skS (syD s) l r (some (.v (.str w))) none none) h= .next (skS (syD s) l r (some (.v (.str w))) z (some (.v (.lst (ts.map .str))))) h1)
 (he:Gw h1.length (execs (v8 (m+3)) skE (skS (syD s) l r (y0 (.v (.str w))) z (y0 (.v (.lst (ts.map .str))))) h1)= .ok w0 h2):
 call prog (m+4) "_law_saying_tokens" [.v (syD s),.v (.int (l:Int)),.v (.ref r)] h= .ok w0 h2:=by
 rw [Gb rfl _ _ _ rfl]
 simp only [GA]
 show Gw _ (execs _ _ (skS (syD s) l r k9 k9 k9) h)=_
 have i0: ∀h,ixD (.v (syD s)) (.v (.int 0)) h=y0 (.str w):=λh=>by rw [hw,ix_tup,Jt]
 rw [za (τ1:=skS (syD s) l r (y0 (.v (.str w))) k9 k9) (h1:=h) (by simp_all [i0])]
 rw [za hb]
 rw [l1]at he
 exact he
theorem JQ (h0:Gm τ 0=y0 (.v f)) (hd:ixD (.v f) (.v (.int j)) h=y0 d) (hk:eval F kx τ h= .ok (.v (.int (k:Int))) h) (hr:Gm τ 2=y0 (.v (.ref r))) (ea:F.call "_law_saying_tokens" [.v d,.v (.int (k:Int)),.v (.ref r)] h= .ok w h1):
 eval F (.call "_law_saying_tokens" (.cons (.ix (.var 0) (.int j)) (.cons kx (.cons (.var 2) .nil)))) τ h= .ok w h1:=by
 simp only [eval,Gi,Gn,h0,hr,hd,R.bind_ok,R.of_some,hk,Ac,Af6,W.arg_v,ea]
theorem zb5 (wf:s.wf N) (ho:(o,k)∈ [(xg,1),(Qs,0)]) (lv:slv s=k) (ed:syD s= .tup [.str o,syD a,syD b])(te:TS N k s (ts++o::us) n) (hl:l<=2)(hs:ts.length+us.length<=700000) (hw:isL w ts) (hw':isL w' us) (P2:PH h2) (l1:h1.length=h.length) (l2:h2.length=h1.length) (hr:r<h.length)
 (ea:call prog (m+3) "_law_saying_tokens" [.v (syD a),.v (.int (k:Int)),.v (.ref r)] h= .ok w h1) (eb:call prog (m+3) "_law_saying_tokens" [.v (syD b),.v (.int ((k+1:Nat):Int)),.v (.ref r)] h1= .ok w' h2):
 ∃vs w h',TS N l s vs (n+1)/\vs.length<=ts.length+us.length+3/\isL w vs/\PH h'/\h'.length=h.length/\call prog (m+4) "_law_saying_tokens" [.v (syD s),.v (.int (l:Int)),.v (.ref r)] h= .ok w h':=by
 obtain⟨vs,w0,h',h1',h2',h3,h4,h5,h6⟩:=qar (m:=m) (r:=r) (l:=l) wf (by rw [lv];exact te) hl (by simp;omega) P2 (by omega) (y0 (.v (.str o))) (y0 (.v (.int (k:Int))))
 refine⟨vs,w0,h',h1',by simp at h2';omega,h3,h4,h5.trans (l2.trans l1),?_⟩
 refine WO ed (l2.trans l1) ?_ h6
 have hm:k8 (o∈ [xg,Qs])=true:=by
  simp only [Aa,Aa2,or_false,Prod.mk.injEq]at ho
  rcases ho with⟨rfl,_⟩ | ⟨rfl,_⟩<;>decide
 have i1: ∀h,ixD (.v (syD s)) (.v (.int 1)) h=y0 (syD a):=λh=>by rw [ed];rfl
 have i2: ∀h,ixD (.v (syD s)) (.v (.int 2)) h=y0 (syD b):=λh=>by rw [ed];rfl
 rw [Wo (h1:=h) (by rw [jj rfl,hm])]
 rw [za (τ1:=skS (syD s) l r (y0 (.v (.str o))) (y0 (.v (.int (k:Int)))) k9) (h1:=h) (by simp_all [XT (m+2) h s wf,lv])]
 have a1:eval (v8 (m+3)) (.call "_law_saying_tokens" (.cons (.ix (.var 0) (.int 1)) (.cons (.var 4) (.cons (.var 2) .nil)))) (skS (syD s) l r (some (.v (.str o))) (some (.v (.int (k:Int)))) none) h= .ok w h1:=JQ rfl (i1 h) (Zh rfl) rfl ea
 rw [za (τ1:=skS (syD s) l r (y0 (.v (.str o))) (y0 (.v (.int (k:Int)))) (y0 (.v (.lst ((ts++ [o]).map .str))))) (h1:=h1)]
 ·have z:eval (v8 (m+3)) (.bin .add (.var 4) (.int 1)) (skS (syD s) l r (y0 (.v (.str o))) (y0 (.v (.int (k:Int)))) (y0 (.v (.lst ((ts++ [o]).map .str))))) h1= .ok (.v (.int ((k+1:Nat):Int))) h1:=by
   have z:Gf .add (k:Int) 1=y0 ((k+1:Nat):Int):=by rw [jh];rfl
   simp_all [z]
  have a3:eval (v8 (m+3)) (.call "_law_saying_tokens" (.cons (.ix (.var 0) (.int 2)) (.cons (.bin .add (.var 4) (.int 1)) (.cons (.var 2) .nil)))) (skS (syD s) l r (some (.v (.str o))) (some (.v (.int (k:Int)))) (some (.v (.lst ((ts++ [o]).map .str))))) h1= .ok w' h2:=JQ rfl (i2 h1) z rfl eb
  rw [za (τ1:=skS (syD s) l r (y0 (.v (.str o))) (y0 (.v (.int (k:Int)))) (y0 (.v (.lst ((ts++o::us).map .str))))) (h1:=h2) (by rw [exec,eval,qP rfl,R.bind_ok,a3,R.bind_ok,jX hw' (by simp;omega),Af3];rfl)]
  rfl
 ·have a2:eval (v8 (m+3)) (.lst (.cons (.var 3) .nil)) (skS (syD s) l r (y0 (.v (.str o))) (y0 (.v (.int (k:Int)))) k9) h1= .ok (.own ([o].map D.str)) h1:=rfl
  rw [exec,eval,a1,R.bind_ok,a2,R.bind_ok]
  have:GZ .add w (.own ([o].map D.str)) h1= .ok (.own ((ts++ [o]).map .str)) h1:=by
   rcases hw with rfl | rfl
   ·exact ZG (.inl rfl) (by simp;omega) h1
   ·exact jX (.inl rfl) (by simp;omega) h1
  rw [this];rfl
end
theorem xbN (N) (gN: ∀t∈N,GoodN t) (r): ∀ s,s.wf N->s.dp<=8-> ∀ m l,l<=2-> ∀ h,PH h->r<h.length →
 ∃us w h',TS N l s us (2*s.dp+2)/\us.length+3<=20*2 ^ s.dp/\isL w us/\PH h'/\h'.length=h.length/\call prog (m+s.dp+6) "_law_saying_tokens" [.v (syD s),.v (.int (l:Int)),.v (.ref r)] h= .ok w h':=by
 intro s
 have pw: ∀d,d<=8->2 ^ d<=256:=λd hd=>Ab8 (by decide) hd
 have two: ∀ {s a b}{o}{k},s.wf N->(o,k)∈ [(xg,1),(Qs,0)]->slv s=k->syD s= .tup [.str o,syD a,syD b]->s.dp=max a.dp b.dp+1->(∀ {ts us}{n},TS N k a ts n->TS N (k+1) b us n->TS N k s (ts++o::us) n) →
  (s.dp<=8-> ∀ m l,l<=2-> ∀ h,PH h->r<h.length-> ∃us w h',TS N l a us (2*a.dp+2)/\us.length+3<=20*2 ^ a.dp/\isL w us/\PH h'/\h'.length=h.length/\call prog (m+a.dp+6) "_law_saying_tokens" [.v (syD a),.v (.int (l:Int)),.v (.ref r)] h= .ok w h') →
  (s.dp<=8-> ∀ m l,l<=2-> ∀ h,PH h->r<h.length-> ∃us w h',TS N l b us (2*b.dp+2)/\us.length+3<=20*2 ^ b.dp/\isL w us/\PH h'/\h'.length=h.length/\call prog (m+b.dp+6) "_law_saying_tokens" [.v (syD b),.v (.int (l:Int)),.v (.ref r)] h= .ok w h') →
  s.dp<=8-> ∀ m l,l<=2-> ∀ h,PH h->r<h.length-> ∃us w h',TS N l s us (2*s.dp+2)/\us.length+3<=20*2 ^ s.dp/\isL w us/\PH h'/\h'.length=h.length/\call prog (m+s.dp+6) "_law_saying_tokens" [.v (syD s),.v (.int (l:Int)),.v (.ref r)] h= .ok w h':=by
  intro e a b o k wf he lv ed dp mk iha ihb hd m l hl h P hr
  have hk:k<=1:=by
   simp only [Aa,Aa2,or_false,Prod.mk.injEq]at he
   omega
  obtain⟨ts,w,h1,a1,a2,a3,P1,l1,ea⟩:=iha hd (m+(e.dp-1-a.dp)) k (by omega) h P hr
  obtain⟨us,w',h2,b1,b2,b3,P2,l2,eb⟩:=ihb hd (m+(e.dp-1-b.dp)) (k+1) (by omega) h1 P1 (by omega)
  rw [show m+(e.dp-1-a.dp)+a.dp+6=(m+e.dp+2)+3 by omega]at ea
  rw [show m+(e.dp-1-b.dp)+b.dp+6=(m+e.dp+2)+3 by omega]at eb
  have pa:2 ^ a.dp<=2 ^ (e.dp-1):=Ab8 (by decide) (by omega)
  have pb:2 ^ b.dp<=2 ^ (e.dp-1):=Ab8 (by decide) (by omega)
  have pe:2 ^ e.dp=2*2 ^ (e.dp-1):=by rw [show e.dp=(e.dp-1)+1 by omega,Ae2];simp;omega
  have p8:=pw (e.dp-1) (by omega)
  have te:=mk (a1.wk (show 2*a.dp+2<=2*e.dp+1 by omega)) (b1.wk (show 2*b.dp+2<=2*e.dp+1 by omega))
  obtain⟨vs,w0,h',v1,v2,v3,v4,v5,v6⟩:=zb5 (m:=m+e.dp+2) (l:=l) wf he lv ed te hl (by omega) a3 b3 P2 l1 l2 hr ea eb
  exact⟨vs,w0,h',v1,by omega,v3,v4,v5,v6⟩
 induction s with
 | fact f=>
  intro wf hd m l hl h P hr
  obtain⟨ts,h1,a1,a2,P1,l1,ea⟩:=qbG N gN r f wf hd m h P hr
  have p8:=pw f.dp hd
  obtain⟨sw,ds,es,n1,n2,n3⟩:=xam f wf
  obtain⟨us,w,h',b1,b2,b3,b4,b5,b6⟩:=qar (m:=m+f.dp+2) (r:=r) (l:=l) (e:= .fact f) wf (.fact a1) hl (by omega) P1 (by omega) (y0 (.v (.str sw))) k9
  refine⟨us,w,h',b1,by show _<=20*2 ^ f.dp;omega,b3,b4,b5.trans l1,?_⟩
  refine WO (m:=m+f.dp+2) (s:= .fact f) es l1 ?_ b6
  have nm:k8 (sw∈ [xg,Qs])=false:=decide_eq_false λq=>by
   simp only [Aa,Aa2,or_false]at q
   rcases q with rfl | rfl
   ·exact absurd n2 (by simp)
   ·exact absurd n3 (by simp)
  rw [QN (h1:=h) (by rw [jj rfl,nm])]
  rw [za (τ1:=skS (fcD f) l r (y0 (.v (.str sw))) k9 (y0 (.v (.lst (ts.map .str))))) (h1:=h1)]
  ·rfl
  ·rw [QN (h1:=h) (by rw [jaQ rfl,n1])]
   have ea:call prog (m+f.dp+2+3) "_law_fact_tokens" [.v (fcD f),.v (.ref r)] h= .ok (.own (ts.map .str)) h1:=ea
   rw [za (τ1:=skS (fcD f) l r (y0 (.v (.str sw))) k9 (y0 (.v (.lst (ts.map .str))))) (h1:=h1) (by simp_all [syD,ea])]
   rfl
 | neg a ih=>
  intro wf hd m l hl h P hr
  have hd':a.dp+1<=8:=hd
  obtain⟨ts,w,h1,a1,a2,a3,P1,l1,ea⟩:=ih wf (by omega) m 2 (Aa6 _) h P hr
  have p8:=pw a.dp (by omega)
  have p1:1<=2 ^ a.dp:=Ad5
  have pe:2 ^ (a.dp+1)=2*2 ^ a.dp:=by rw [Ae2];omega
  obtain⟨us,w0,h',b1,b2,b3,b4,b5,b6⟩:=qar (m:=m+a.dp+3) (r:=r) (l:=l) (e:= .neg a) wf (.neg a1) hl (by simp;omega) P1 (by omega) (y0 (.v (.str Qh))) k9
  refine⟨us,w0,h',?_,?_,b3,b4,b5.trans l1,?_⟩
  ·show TS N l (.neg a) us (2*(a.dp+1)+2)
   rw [show 2*(a.dp+1)+2=2*a.dp+2+1+1 by omega];exact b1
  ·show _<=20*2 ^ (a.dp+1)
   simp at b2;omega
  ·show call prog (m+(a.dp+1)+6) _ _ _=_
   rw [show m+(a.dp+1)+6=m+a.dp+3+4 by omega]
   refine WO (m:=m+a.dp+3) (s:= .neg a) rfl l1 ?_ b6
   rw [QN (h1:=h) (by rw [jj rfl];rfl)]
   have a4:eval (v8 (m+a.dp+3+3)) (.call "_law_saying_tokens" (.cons (.ix (.var 0) (.int 1)) (.cons (.int 2) (.cons (.var 2) .nil)))) (skS (syD (.neg a)) l r (some (.v (.str Qh))) none none) h= .ok w h1:=JQ (d:=syD a) (k:=2) rfl rfl rfl rfl ea
   rw [za (τ1:=skS (syD (.neg a)) l r (y0 (.v (.str Qh))) k9 (y0 (.v (.lst ((Qh::ts).map .str))))) (h1:=h1)]
   ·rfl
   ·rw [Wo (h1:=h) (by rw [jaQ rfl];rfl)]
    rw [za (τ1:=skS (syD (.neg a)) l r (y0 (.v (.str Qh))) k9 (y0 (.v (.lst ((Qh::ts).map .str))))) (h1:=h1)]
    ·rfl
    ·have a5:eval (v8 (m+a.dp+3+3)) (.lst (.cons (.str [110,111,116]) .nil)) (skS (syD (.neg a)) l r (y0 (.v (.str Qh))) k9 k9) h= .ok (.own ([Qh].map D.str)) h:=rfl
     rw [exec,eval,a5,R.bind_ok,a4,R.bind_ok,ZG a3 (by simp;omega)];rfl
 | conj a b iha ihb=>intro wf hd;exact two (k:=1) wf (by decide) rfl rfl rfl (λx y=> .conj x y) (λq=>iha wf.1 (by simp only [Sy.dp]at q;omega)) (λq=>ihb wf.2 (by simp only [Sy.dp]at q;omega)) hd
 | disj a b iha ihb=>intro wf hd;exact two (k:=0) wf (by decide) rfl rfl rfl (λx y=> .disj x y) (λq=>iha wf.1 (by simp only [Sy.dp]at q;omega)) (λq=>ihb wf.2 (by simp only [Sy.dp]at q;omega)) hd
theorem Q6: ∀c,97<=c/\c<=122->srt c=Wi:=by
 have: ∀c,c<123->97<=c->srt c=Wi:=by decide +kernel
 exact λc h=>this c (by omega) h.1
theorem zbv: ∀c,48<=c/\c<=57->srt c=qu:=by
 have: ∀c,c<58->48<=c->srt c=qu:=by decide +kernel
 exact λc h=>this c (by omega) h.1
theorem XR (g:GoodN t):Lex t Wi:= .word (λz=>by have:=g.lo;rw [z]at this;simp at this) λc hc=>Q6 c (g.let_ c hc)
theorem WM (hk:k<100):Lex (dg k) qu:=by
 obtain⟨h1,_,h3,_⟩:=xaj k hk
 exact .fig (λz=>by rw [z]at h1;simp at h1) λc hc=>zbv c (h3 c hc)
def fre (a:Tx):Prop:=a=qh\/a=qm
theorem Lx.free (h:Lx t T a) (f:fre a) (x:Lex u k):Lx (t++u) (T++ [u]) k:=by
 refine h.tok x ?_
 cases x with
 | word _ _=>exact .inl (by rcases f with rfl | rfl<;>decide)
 | fig _ _=>exact .inl (by rcases f with rfl | rfl<;>decide)
 | one _=>exact .inr rfl
theorem jp:fre qh:= .inl rfl
theorem xa8:fre qm:= .inr rfl
theorem qp (h:t≠ []) (k: ∀c∈t,97<=c/\c<=122):Lex t Wi:= .word h λc hc=>Q6 c (k c hc)
theorem xbj (l n b) (hl:l<=3) (hx:Lx t T a) (f:fre a) (ih: ∀ t T a,Lx t T a->fre a-> ∃ts k,Lx (t++bT e) (T++ts) k/\TE N (lvl e) e ts n/\ts.length<=b):
 ∃ts k,Lx (t++br (k8 (lvl e<l)) 40 41 (bT e)) (T++ts) k/\TE N l e ts (n+1)/\ts.length<=b+2:=by
 unfold br
 by_cases q:lvl e<l
 ·rw [if_pos (decide_eq_true q)]
  obtain⟨ts,k,h1,h2,h3⟩:=ih (t++ [40]) (T++ [[40]]) qm (hx.free f (.one (by decide))) xa8
  have h4:=h1.tok (u:= [41]) (.one (by decide)) (.inr rfl)
  refine⟨[40]::(ts++ [[41]]),qm,?_,TE.down (.par (TE.down h2 (Ae7 _) (qE e))) hl (Aa6 _),by simp;omega⟩
  simpa using h4
 ·rw [if_neg (by simp;omega)]
  obtain⟨ts,k,h1,h2,h3⟩:=ih t T a hx f
  exact⟨ts,k,h1,(TE.down h2 (by omega) (qE e)).wk (Ae _),by omega⟩
theorem xbs (gN: ∀t∈N,GoodN t): ∀ e,e.wf N-> ∀ t T a,Lx t T a->fre a-> ∃ts k,Lx (t++bT e) (T++ts) k/\TE N (lvl e) e ts (2*e.dp)/\ts.length<=6*2 ^ e.dp-5:=by
 have two: ∀ e a b c k,srt c=qm->k<=2->bT e=br (k8 (lvl a<k)) 40 41 (bT a)++(32::c::32::br (k8 (lvl b<k+1)) 40 41 (bT b))->e.dp=max a.dp b.dp+1->lvl e=k->(∀ {ts us}{n},TE N k a ts n->TE N (k+1) b us n->TE N k e (ts++ [c]::us) n) →
  (∀ t T x,Lx t T x->fre x-> ∃ts k,Lx (t++bT a) (T++ts) k/\TE N (lvl a) a ts (2*a.dp)/\ts.length<=6*2 ^ a.dp-5)->(∀ t T x,Lx t T x->fre x-> ∃ts k,Lx (t++bT b) (T++ts) k/\TE N (lvl b) b ts (2*b.dp)/\ts.length<=6*2 ^ b.dp-5) →
  ∀ t T x,Lx t T x->fre x-> ∃ts k,Lx (t++bT e) (T++ts) k/\TE N (lvl e) e ts (2*e.dp)/\ts.length<=6*2 ^ e.dp-5:=by
  intro e a b c k hc hk eb dp lv mk iha ihb t T x hx f
  obtain⟨ts,k1,a1,a2,a3⟩:=xbj k (2*a.dp) _ (by omega) hx f iha
  have b0:=(a1.blank.free jp (.one hc)).blank
  obtain⟨us,k2,b1,b2,b3⟩:=xbj (k+1) (2*b.dp) _ (by omega) b0 jp ihb
  refine⟨ts++ [c]::us,k2,?_,?_,?_⟩
  ·rw [eb];simpa using b1
  ·rw [lv];exact mk (a2.wk (by omega)) (b2.wk (by omega))
  ·have pa:2 ^ a.dp<=2 ^ (e.dp-1):=Ab8 (by decide) (by omega)
   have pb:2 ^ b.dp<=2 ^ (e.dp-1):=Ab8 (by decide) (by omega)
   have pe:2 ^ e.dp=2*2 ^ (e.dp-1):=by rw [show e.dp=(e.dp-1)+1 by omega,Ae2];simp;omega
   have p1:1<=2 ^ a.dp:=Ad5
   have p2:1<=2 ^ b.dp:=Ad5
   simp;omega
 have one: ∀ e a c,srt c=qm->bT e=c::br (k8 (lvl a<3)) 40 41 (bT a)->e.dp=a.dp+1->lvl e=3->(∀ {ts}{n},TE N 3 a ts n->TE N 3 e ([c]::ts) (n+1)) →
  (∀ t T x,Lx t T x->fre x-> ∃ts k,Lx (t++bT a) (T++ts) k/\TE N (lvl a) a ts (2*a.dp)/\ts.length<=6*2 ^ a.dp-5) →
  ∀ t T x,Lx t T x->fre x-> ∃ts k,Lx (t++bT e) (T++ts) k/\TE N (lvl e) e ts (2*e.dp)/\ts.length<=6*2 ^ e.dp-5:=by
  intro e a c hc eb dp lv mk iha t T x hx f
  obtain⟨ts,k1,a1,a2,a3⟩:=xbj 3 (2*a.dp) _ (by omega) (hx.free f (.one hc)) xa8 iha
  have pe:2 ^ e.dp=2*2 ^ a.dp:=by rw [dp,Ae2];omega
  have p1:1<=2 ^ a.dp:=Ad5
  refine⟨[c]::ts,k1,?_,?_,by simp;omega⟩
  ·rw [eb];simpa using a1
  ·rw [lv,dp,show 2*(a.dp+1)=2*a.dp+1+1 by omega];exact mk a2
 intro e
 induction e with
 | name s=>intro wf t T a hx f;exact⟨[s],Wi,hx.free f (XR (gN s wf)),.name wf (gN s wf),by show 1<=6*2 ^ 0-5;decide⟩
 | same=>intro wf t T a hx f;exact⟨[Qp],Wi,hx.free f (qp (by decide) (by decide)),.same,by show 1<=6*2 ^ 0-5;decide⟩
 | all=>intro wf t T a hx f;exact⟨[XC],Wi,hx.free f (qp (by decide) (by decide)),.all,by show 1<=6*2 ^ 0-5;decide⟩
 | none=>intro wf t T a hx f;exact⟨[xp],Wi,hx.free f (qp (by decide) (by decide)),.none,by show 1<=6*2 ^ 0-5;decide⟩
 | turned a ih=>intro wf;exact one _ a 126 (by decide) rfl rfl rfl (λx=> .turned x) (ih wf)
 | closed a ih=>intro wf;exact one _ a 94 (by decide) rfl rfl rfl (λx=> .closed x) (ih wf)
 | plus a b iha ihb=>intro wf;exact two _ a b 43 0 (by decide) (by decide) rfl rfl rfl (λx y=> .plus x y) (iha wf.1) (ihb wf.2)
 | less a b iha ihb=>intro wf;exact two _ a b 45 0 (by decide) (by decide) rfl rfl rfl (λx y=> .less x y) (iha wf.1) (ihb wf.2)
 | both a b iha ihb=>intro wf;exact two _ a b 38 1 (by decide) (by decide) rfl rfl rfl (λx y=> .both x y) (iha wf.1) (ihb wf.2)
 | joined a b iha ihb=>intro wf;exact two _ a b 46 2 (by decide) (by decide) rfl rfl rfl (λx y=> .joined x y) (iha wf.1) (ihb wf.2)
theorem qcm (gN: ∀t∈N,GoodN t) (f) (wf:f.wf N)(hx:Lx t T a) (fr:fre a): ∃ts k,Lx (t++fT f) (T++ts) k/\TF N f ts (2*f.dp)/\ts.length<=12*2 ^ f.dp:=by
 have dn: ∀ {e}{ts}{n},TE N (lvl e) e ts n->TE N 0 e ts n:=λh=>TE.down h (Ae7 _) (qE _)
 have pair: ∀ f x y u k,Lex u k->fT f=bT x++(32::(u++32::bT y))->f.dp=max x.dp y.dp->x.wf N->y.wf N->(∀ {ts us}{n},TE N 0 x ts n->TE N 0 y us n->TF N f (ts++u::us) n)-> ∃ts k,Lx (t++fT f) (T++ts) k/\TF N f ts (2*f.dp)/\ts.length<=12*2 ^ f.dp:=by
  intro f x y u k lu ef dp wx wy mk
  obtain⟨ts,k1,a1,a2,a3⟩:=xbs gN x wx t T a hx fr
  obtain⟨us,k2,b1,b2,b3⟩:=xbs gN y wy _ _ _ (a1.blank.free jp lu).blank jp
  have pa:2 ^ x.dp<=2 ^ f.dp:=Ab8 (by decide) (by omega)
  have pb:2 ^ y.dp<=2 ^ f.dp:=Ab8 (by decide) (by omega)
  refine⟨ts++u::us,k2,?_,mk ((dn a2).wk (by omega)) ((dn b2).wk (by omega)),?_⟩
  rotate_left
  ·have q1:1<=2 ^ x.dp:=Ad5
   rw [Aa1,Aa4];omega
  rw [ef];simpa using b1
 have lst: ∀ f x v xs,(∃ k,Lx (t++v) (T++xs) k)->xs.length<=3->fT f=v++32::bT x->f.dp=x.dp->x.wf N->(∀ {ts}{n},TE N 0 x ts n->TF N f (xs++ts) n)-> ∃ts k,Lx (t++fT f) (T++ts) k/\TF N f ts (2*f.dp)/\ts.length<=12*2 ^ f.dp:=by
  rintro f x v xs ⟨k,hv⟩ hl ef dp wx mk
  obtain⟨us,k2,b1,b2,b3⟩:=xbs gN x wx _ _ _ hv.blank jp
  have p1:1<=2 ^ x.dp:=Ad5
  refine⟨xs++us,k2,?_,by rw [dp];exact mk (dn b2),by rw [dp];simp;omega⟩
  rw [ef];simpa using b1
 cases f with
 | inn x y=>exact pair _ x y jt Wi (qp (by decide) (by decide)) rfl rfl wf.1 wf.2 λp q=> .inn p q
 | equ x y=>exact pair _ x y [61] qm (.one (by decide)) rfl rfl wf.1 wf.2 λp q=> .equ p q
 | som x=>exact lst _ x xf [xf] ⟨_,hx.free fr (qp (by decide) (by decide))⟩ (by simp) rfl rfl wf λp=> .som p
 | non x=>exact lst _ x JD [JD] ⟨_,hx.free fr (qp (by decide) (by decide))⟩ (by simp) rfl rfl wf λp=> .non p
 | cnt s k x=>
  obtain⟨⟨hs,hk⟩,wx⟩:=wf
  have w1:Lx (t++Wa) (T++ [Wa]) Wi:=hx.free fr (qp (by decide) (by decide))
  have w2:Lx (t++Qb) (T++ [Qb]) Wi:=hx.free fr (qp (by decide) (by decide))
  have we:Lx (t++Zd++ [32]) (T++ [Zd]) qh:=(hx.free fr (qp (by decide) (by decide))).blank
  have w3:=we.free jp (u:=Wa) (qp (by decide) (by decide))
  have w4:=we.free jp (u:=Qb) (qp (by decide) (by decide))
  simp only [Aa,Aa2,or_false]at hs
  rcases hs with rfl | rfl | rfl | rfl
  ·exact lst _ x (Wa++ [32]++dg k) [Wa,dg k] ⟨_,by simpa using w1.blank.free jp (WM hk)⟩ (by simp) (by simp [fT,wd,ju]) rfl wx λp=> .one (by decide) hk p
  ·exact lst _ x (Qb++ [32]++dg k) [Qb,dg k] ⟨_,by simpa using w2.blank.free jp (WM hk)⟩ (by simp) (by simp [fT,wd,ju]) rfl wx λp=> .one (by decide) hk p
  ·exact lst _ x (Zd++ [32]++Wa++ [32]++dg k) [Zd,Wa,dg k] ⟨_,by simpa using w3.blank.free jp (WM hk)⟩ (by simp) (by simp [fT,wd,ju]<;>rfl) rfl wx λp=> .two (s:=Wa) (by decide) hk p
  ·exact lst _ x (Zd++ [32]++Qb++ [32]++dg k) [Zd,Qb,dg k] ⟨_,by simpa using w4.blank.free jp (WM hk)⟩ (by simp) (by simp [fT,wd,ju]<;>rfl) rfl wx λp=> .two (s:=Qb) (by decide) hk p
theorem zaa (l n b) (hl:l<=2) (hx:Lx t T a) (f:fre a) (ih: ∀ t T a,Lx t T a->fre a-> ∃ts k,Lx (t++sT e) (T++ts) k/\TS N (slv e) e ts n/\ts.length<=b):
 ∃ts k,Lx (t++br (k8 (slv e<l)) 91 93 (sT e)) (T++ts) k/\TS N l e ts (n+1)/\ts.length<=b+2:=by
 unfold br
 by_cases q:slv e<l
 ·rw [if_pos (decide_eq_true q)]
  obtain⟨ts,k,h1,h2,h3⟩:=ih (t++ [91]) (T++ [[91]]) qm (hx.free f (.one (by decide))) xa8
  have h4:=h1.tok (u:= [93]) (.one (by decide)) (.inr rfl)
  refine⟨[91]::(ts++ [[93]]),qm,?_,TS.down (.par (TS.down h2 (Ae7 _) (QE e))) hl (Aa6 _),by simp;omega⟩
  simpa using h4
 ·rw [if_neg (by simp;omega)]
  obtain⟨ts,k,h1,h2,h3⟩:=ih t T a hx f
  exact⟨ts,k,h1,(TS.down h2 (by omega) (QE e)).wk (Ae _),by omega⟩
theorem zb8 (gN: ∀t∈N,GoodN t): ∀ s,s.wf N-> ∀ t T a,Lx t T a->fre a-> ∃ts k,Lx (t++sT s) (T++ts) k/\TS N (slv s) s ts (2*s.dp+1)/\ts.length<=20*2 ^ s.dp-5:=by
 have two: ∀ e a b o k,Lex o Wi->k<=1->sT e=br (k8 (slv a<k)) 91 93 (sT a)++(32::(o++32::br (k8 (slv b<k+1)) 91 93 (sT b)))->e.dp=max a.dp b.dp+1->slv e=k->(∀ {ts us}{n},TS N k a ts n->TS N (k+1) b us n->TS N k e (ts++o::us) n) →
  (∀ t T x,Lx t T x->fre x-> ∃ts k,Lx (t++sT a) (T++ts) k/\TS N (slv a) a ts (2*a.dp+1)/\ts.length<=20*2 ^ a.dp-5)->(∀ t T x,Lx t T x->fre x-> ∃ts k,Lx (t++sT b) (T++ts) k/\TS N (slv b) b ts (2*b.dp+1)/\ts.length<=20*2 ^ b.dp-5) →
  ∀ t T x,Lx t T x->fre x-> ∃ts k,Lx (t++sT e) (T++ts) k/\TS N (slv e) e ts (2*e.dp+1)/\ts.length<=20*2 ^ e.dp-5:=by
  intro e a b o k ho hk eb dp lv mk iha ihb t T x hx f
  obtain⟨ts,k1,a1,a2,a3⟩:=zaa k (2*a.dp+1) _ (by omega) hx f iha
  have b0:=(a1.blank.free jp ho).blank
  obtain⟨us,k2,b1,b2,b3⟩:=zaa (k+1) (2*b.dp+1) _ (by omega) b0 jp ihb
  refine⟨ts++o::us,k2,?_,?_,?_⟩
  ·rw [eb];simpa using b1
  ·rw [lv];exact mk (a2.wk (by omega)) (b2.wk (by omega))
  ·have pa:2 ^ a.dp<=2 ^ (e.dp-1):=Ab8 (by decide) (by omega)
   have pb:2 ^ b.dp<=2 ^ (e.dp-1):=Ab8 (by decide) (by omega)
   have pe:2 ^ e.dp=2*2 ^ (e.dp-1):=by rw [show e.dp=(e.dp-1)+1 by omega,Ae2];simp;omega
   have p1:1<=2 ^ a.dp:=Ad5
   have p2:1<=2 ^ b.dp:=Ad5
   simp;omega
 intro s
 induction s with
 | fact f=>
  intro wf t T a hx fr
  obtain⟨ts,k,h1,h2,h3⟩:=qcm gN f wf hx fr
  have p1:1<=2 ^ f.dp:=Ad5
  exact⟨ts,k,h1,.fact (h2.wk (Ae _)),by show _<=20*2 ^ f.dp-5;omega⟩
 | neg a ih=>
  intro wf t T x hx f
  obtain⟨ts,k1,a1,a2,a3⟩:=zaa 2 (2*a.dp+1) _ (by decide) (hx.free f (u:=Qh) (qp (by decide) (by decide))).blank jp (ih wf)
  have pe:2 ^ (a.dp+1)=2*2 ^ a.dp:=by rw [Ae2];omega
  have p1:1<=2 ^ a.dp:=Ad5
  refine⟨Qh::ts,k1,?_,?_,by show _<=20*2 ^ (a.dp+1)-5;simp;omega⟩
  ·simpa [sT]using a1
  ·show TS N 2 (.neg a) (Qh::ts) (2*(a.dp+1)+1)
   rw [show 2*(a.dp+1)+1=2*a.dp+1+1+1 by omega];exact .neg a2
 | conj a b iha ihb=>intro wf;exact two _ a b xg 1 (qp (by decide) (by decide)) (by decide) rfl rfl rfl (λx y=> .conj x y) (iha wf.1) (ihb wf.2)
 | disj a b iha ihb=>intro wf;exact two _ a b Qs 0 (qp (by decide) (by decide)) (by decide) rfl rfl rfl (λx y=> .disj x y) (iha wf.1) (ihb wf.2)
theorem jC (hN: ∀t∈N,t.length<=8): ∀ e,e.wf N->(bT e).length+7<=16*2 ^ e.dp:=by
 intro e
 have dbl: ∀a b c:Nat,a+7<=16*2 ^ b->b<=c->a+7<=16*2 ^ c:=λa b c h1 h2=>Ac7 h1 (Ah3 _ (Ab8 (by decide) h2))
 induction e with
 | name t=>intro wf;have:=hN t wf;simp only [bT,Ex.dp];omega
 | same=>intro _;decide
 | all=>intro _;decide
 | none=>intro _;decide
 | turned a ih=>intro wf;have:=ih wf;have b:=zj (k8 (lvl a<3)) 40 41 (bT a);simp only [bT,Ex.dp,Aa4,Ae2];omega
 | closed a ih=>intro wf;have:=ih wf;have b:=zj (k8 (lvl a<3)) 40 41 (bT a);simp only [bT,Ex.dp,Aa4,Ae2];omega
 | plus a b ia ib=>intro wf;have h1:=dbl _ _ (max a.dp b.dp) (ia wf.1) (by omega);have h2:=dbl _ _ (max a.dp b.dp) (ib wf.2) (by omega);have b1:=zj (k8 (lvl a<0)) 40 41 (bT a);have b2:=zj (k8 (lvl b<1)) 40 41 (bT b);simp only [bT,Ex.dp,Aa1,Aa4,Ae2];omega
 | less a b ia ib=>intro wf;have h1:=dbl _ _ (max a.dp b.dp) (ia wf.1) (by omega);have h2:=dbl _ _ (max a.dp b.dp) (ib wf.2) (by omega);have b1:=zj (k8 (lvl a<0)) 40 41 (bT a);have b2:=zj (k8 (lvl b<1)) 40 41 (bT b);simp only [bT,Ex.dp,Aa1,Aa4,Ae2];omega
 | both a b ia ib=>intro wf;have h1:=dbl _ _ (max a.dp b.dp) (ia wf.1) (by omega);have h2:=dbl _ _ (max a.dp b.dp) (ib wf.2) (by omega);have b1:=zj (k8 (lvl a<1)) 40 41 (bT a);have b2:=zj (k8 (lvl b<2)) 40 41 (bT b);simp only [bT,Ex.dp,Aa1,Aa4,Ae2];omega
 | joined a b ia ib=>intro wf;have h1:=dbl _ _ (max a.dp b.dp) (ia wf.1) (by omega);have h2:=dbl _ _ (max a.dp b.dp) (ib wf.2) (by omega);have b1:=zj (k8 (lvl a<2)) 40 41 (bT a);have b2:=zj (k8 (lvl b<3)) 40 41 (bT b);simp only [bT,Ex.dp,Aa1,Aa4,Ae2];omega
theorem qbC: ∀k:Nat,k<1000->(intT (k:Int)).length<=20:=by
 intro k hk
 have h:(toString (k:Int))=Nat.repr k:=rfl
 unfold intT
 rw [h,Ac4,String.length_toList]
 exact Ac7 ((Nat.length_repr_le_iff (by decide)).mpr (Aj2 hk (by decide))) (Aa6 _)
theorem xbO (hN: ∀t∈N,t.length<=8) (f) (wf:f.wf N):(fT f).length+9<=100*2 ^ f.dp:=by
 have dbl: ∀a b c:Nat,a+7<=16*2 ^ b->b<=c->a+7<=16*2 ^ c:=λa b c h1 h2=>Ac7 h1 (Ah3 _ (Ab8 (by decide) h2))
 cases f with
 | inn a b=>have h1:=dbl _ _ (max a.dp b.dp) (jC hN a wf.1) (by omega);have h2:=dbl _ _ (max a.dp b.dp) (jC hN b wf.2) (by omega);simp only [fT,Fc.dp,Aa1,Aa4];omega
 | equ a b=>have h1:=dbl _ _ (max a.dp b.dp) (jC hN a wf.1) (by omega);have h2:=dbl _ _ (max a.dp b.dp) (jC hN b wf.2) (by omega);simp only [fT,Fc.dp,Aa1,Aa4];omega
 | som a=>have h1:=jC hN a wf;simp only [fT,Fc.dp,Aa1,Aa4,Ag8];omega
 | non a=>have h1:=jC hN a wf;simp only [fT,Fc.dp,Aa1,Aa4,Ag8];omega
 | cnt s k a=>
  have h1:=jC hN a wf.2
  have h2:=qbC k (Aj2 wf.1.2 (by decide))
  have h4:0<2 ^ a.dp:=Nat.pow_pos (by decide)
  have h3:(wd s).length<=10:=by
   have hs:=wf.1.1
   simp only [Aa,Aa2,or_false]at hs
   rcases hs with rfl | rfl | rfl | rfl<;>decide
  simp only [fT,Fc.dp,Aa1,Aa4];omega
theorem zbQ (hN: ∀t∈N,t.length<=8): ∀ s,s.wf N->(sT s).length+9<=100*2 ^ s.dp:=by
 have dbl: ∀a b c:Nat,a+9<=100*2 ^ b->b<=c->a+9<=100*2 ^ c:=λa b c h1 h2=>Ac7 h1 (Ah3 _ (Ab8 (by decide) h2))
 intro s
 induction s with
 | fact f=>exact xbO hN f
 | neg a ih=>intro wf;have:=ih wf;have b:=zj (k8 (slv a<2)) 91 93 (sT a);simp only [sT,Sy.dp,Aa4,Ae2];omega
 | conj a b ia ib=>intro wf;have h1:=dbl _ _ (max a.dp b.dp) (ia wf.1) (by omega);have h2:=dbl _ _ (max a.dp b.dp) (ib wf.2) (by omega);have b1:=zj (k8 (slv a<1)) 91 93 (sT a);have b2:=zj (k8 (slv b<2)) 91 93 (sT b);simp only [sT,Sy.dp,Aa1,Aa4,Ag8,Ae2];omega
 | disj a b ia ib=>intro wf;have h1:=dbl _ _ (max a.dp b.dp) (ia wf.1) (by omega);have h2:=dbl _ _ (max a.dp b.dp) (ib wf.2) (by omega);have b1:=zj (k8 (slv a<0)) 91 93 (sT a);have b2:=zj (k8 (slv b<1)) 91 93 (sT b);simp only [sT,Sy.dp,Aa1,Aa4,Ag8,Ae2];omega
inductive Gd:Nat->D->Prop
 | str {n:Nat}(s:Tx):Gd n (.str s)
 | int {n:Nat}(i:Nat):Gd n (.int (i:Int))
 | tup {n:Nat}{ds:List D}(hl:ds.length<=100) (h: ∀x∈ds,Gd n x):Gd (n+1) (.tup ds)
theorem jbs (n) (h):Gz .ne (.v (.int (n:Int))) (.v (.int (n:Int))) h=y0 false:=by simp [KH]
theorem same_str (m) (s) (h):call prog (m+1) "_law_same" [.v (.str s),.v (.str s)] h= .ok (.v (.bl true)) h:=by
 rw [Gb rfl _ _ _ rfl]
 simp only [GP]
 show Gw _ (execs _ _ [y0 (.v (.str s)),y0 (.v (.str s))] h)=_
 have e1:eval (v8 m) (.cmp .eq (.var 0) (.var 1)) [y0 (.v (.str s)),y0 (.v (.str s))] h= .ok (.v (.bl v9)) h:=by
  simp_all [Jl,beq_self_eq_true]
 rw [Ja rfl,qr rfl (Je rfl ?_),Ga _ _ _ rfl]
 rw [eval,show eval (v8 m) (.isT (.var 0) .str) [y0 (.v (.str s)),y0 (.v (.str s))] h= .ok (.v (.bl v9)) h from rfl]
 simp only [R.bind_ok,Gk,R.of_some,e1]
theorem jR (m i:Nat) (h):call prog (m+1) "_law_same" [.v (.int (i:Int)),.v (.int (i:Int))] h= .ok (.v (.bl true)) h:=by
 rw [Gb rfl _ _ _ rfl]
 simp only [GP]
 show Gw _ (execs _ _ [y0 (.v (.int i)),y0 (.v (.int i))] h)=_
 have e1:eval (v8 m) (.cmp .eq (.var 0) (.var 1)) [y0 (.v (.int i)),y0 (.v (.int i))] h= .ok (.v (.bl v9)) h:=by
  have z:=by
   have:=Zg i i h
   rwa [decide_eq_true rfl]at this
  simp_all [z]
 rw [Ja rfl,Ja rfl,qa (Je rfl ?_),Ga _ _ _ rfl]
 rw [eval,show eval (v8 m) (.isT (.var 0) .int) [y0 (.v (.int i)),y0 (.v (.int i))] h= .ok (.v (.bl v9)) h from rfl]
 simp only [R.bind_ok,Gk,R.of_some]
 rw [eval,show eval (v8 m) (.not (.isT (.var 0) .bool)) [y0 (.v (.int i)),y0 (.v (.int i))] h= .ok (.v (.bl v9)) h from rfl]
 simp only [R.bind_ok,Gk,R.of_some,e1]
theorem xbI (h): ∀ n m d,Gd n d->call prog (m+n+1) "_law_same" [.v d,.v d] h= .ok (.v (.bl true)) h:=by
 intro n
 induction n with
 | zero=>
  intro m d g
  cases g with
  | str s=>exact same_str _ s h
  | int i=>exact jR _ i h
 | succ n ih=>
  intro m d g
  cases g with
  | str s=>exact same_str _ s h
  | int i=>exact jR _ i h
  | @tup _ ds hl hg=>
   rw [show m+(n+1)+1=(m+n+1)+1 by omega,Gb rfl _ _ _ rfl]
   simp only [GP]
   show Gw _ (execs _ _ [y0 (.v (.tup ds)),y0 (.v (.tup ds))] h)=_
   have ln:eval (v8 (m+n+1)) (.bi .len (.cons (.var 1) .nil)) [y0 (.v (.tup ds)),y0 (.v (.tup ds))] h= .ok (.v (.int (ds.length:Int))) h:=rfl
   have ln0:eval (v8 (m+n+1)) (.bi .len (.cons (.var 0) .nil)) [y0 (.v (.tup ds)),y0 (.v (.tup ds))] h= .ok (.v (.int (ds.length:Int))) h:=rfl
   have e1:eval (v8 (m+n+1)) Xj [y0 (.v (.tup ds)),y0 (.v (.tup ds))] h= .ok (.own (((Ac0 ds.length).map λ(i:Nat)=>D.int (i:Int)).map λ_=> .bl v9)) h:=by
    rw [Xj,jo (ds:=(Ac0 ds.length).map λ(i:Nat)=>D.int (i:Int)) (λ_=> .bl v9) ?_ (by rw [Gc];simp;omega)]
    ·intro d hd
     obtain⟨i,hi,rfl⟩:=Ae3.mp hd
     have hi:=Ai0.mp hi
     have ix: ∀h,ixD (.v (.tup ds)) (.v (.int (i:Int))) h=y0 ds[i]:=λh=>by
      rw [ix_tup,zo ds i hi,Aa9 hi]
     refine⟨[y0 (.v (.int (i:Int))),y0 (.v (.tup ds)),y0 (.v (.tup ds))],rfl,.v (.bl v9),?_,rfl⟩
     simp_all [ix,ih m ds[i] (hg _ (Am0 hi))]
    ·rw [Gy,ln]
     simp only [R.bind_ok,int?_int,R.of_some]
     rw [if_pos (by rw [Kx];omega)]
     simp
   have e2:eval (v8 (m+n+1)) (.bi .all (.cons Xj .nil)) [y0 (.v (.tup ds)),y0 (.v (.tup ds))] h= .ok (.v (.bl v9)) h:=by
    rw [eval,Gi,e1]
    have e2:((Ac0 ds.length).map λ(i:Nat)=>D.int (i:Int)).map (λ_=>D.bl v9)=Aa0 ds.length (.bl v9):=by
     rw [List.map_const'];simp
    simp only [R.bind_ok,Gi,e2]
    show((R.of h ((W.lst? h (.own _)).bind KR)).bind _)=_
    rw [show W.lst? h (.own (Aa0 ds.length (D.bl v9)))=y0 (Aa0 ds.length (D.bl v9))from rfl,Ad6,wT]
    have: ∀n,(Aa0 n v9).all id=true:=by intro n;simp
    simp [this,okv]
   rw [qa (w:= .v (.bl v9)) (h1:=h),Ga _ _ _ rfl]
   rw [Wo (h1:=h) rfl,Ja]
   ·exact qa (Je rfl e2)
   ·have c1:eval (v8 (m+n+1)) (.cmp .ne (.bi .len (.cons (.var 0) .nil)) (.bi .len (.cons (.var 1) .nil))) [y0 (.v (.tup ds)),y0 (.v (.tup ds))] h= .ok (.v (.bl u9)) h:=by
     rw [eval,ln0,R.bind_ok,ln,R.bind_ok,jbs];rfl
    rw [Gp,eval,show eval (v8 (m+n+1)) (.not (.isT (.var 0) .tuple)) [y0 (.v (.tup ds)),y0 (.v (.tup ds))] h= .ok (.v (.bl u9)) h from rfl]
    simp only [R.bind_ok,Gk,R.of_some,c1]
theorem Gd.wk (h:Gd n d) (hm:n<=m):Gd m d:=by
 induction h generalizing m with
 | str s=>exact .str s
 | int i=>exact .int i
 | tup hl _ ih=>obtain⟨k,rfl⟩: ∃k,m=k+1:=⟨m-1,by omega⟩;exact .tup hl λx hx=>ih x hx (by omega)
theorem gd1 (h:Gd n x) (s):Gd (n+1) (.tup [.str s,x]):= .tup (by simp) λy hy=>by
 simp only [Aa,Aa2,or_false]at hy
 rcases hy with rfl | rfl
 ·exact .str s
 ·exact h
theorem gd2 (h:Gd n x) (h':Gd m z) (s) (h1:n<=k) (h2:m<=k):Gd (k+1) (.tup [.str s,x,z]):= .tup (by simp) λy hy=>by
 simp only [Aa,Aa2,or_false]at hy
 rcases hy with rfl | rfl | rfl
 ·exact .str s
 ·exact h.wk h1
 ·exact h'.wk h2
theorem Jn: ∀e:Ex,Gd (e.dp+1) (exD e)
 | .name t=>gd1 (.str t) _
 | .same=> .tup (by simp) λy hy=>by rw [Ab5.mp hy];exact .str _
 | .all=> .tup (by simp) λy hy=>by rw [Ab5.mp hy];exact .str _
 | .none=> .tup (by simp) λy hy=>by rw [Ab5.mp hy];exact .str _
 | .turned a=>gd1 (Jn a) _
 | .closed a=>gd1 (Jn a) _
 | .plus a b=>gd2 (Jn a) (Jn b) _ (by simp only [Ex.dp];omega) (by simp only [Ex.dp];omega)
 | .less a b=>gd2 (Jn a) (Jn b) _ (by simp only [Ex.dp];omega) (by simp only [Ex.dp];omega)
 | .both a b=>gd2 (Jn a) (Jn b) _ (by simp only [Ex.dp];omega) (by simp only [Ex.dp];omega)
 | .joined a b=>gd2 (Jn a) (Jn b) _ (by simp only [Ex.dp];omega) (by simp only [Ex.dp];omega)
theorem XX: ∀s:Sy,Gd (s.dp+2) (syD s)
 | .fact f=>by
  cases f with
  | inn a b=>exact gd2 (Jn a) (Jn b) _ (by simp only [Sy.dp,Fc.dp];omega) (by simp only [Sy.dp,Fc.dp];omega)
  | equ a b=>exact gd2 (Jn a) (Jn b) _ (by simp only [Sy.dp,Fc.dp];omega) (by simp only [Sy.dp,Fc.dp];omega)
  | som a=>exact gd1 (Jn a) _
  | non a=>exact gd1 (Jn a) _
  | cnt s k a=>exact gd2 (n:=0) (.int k) (Jn a) _ (by omega) (by simp only [Sy.dp,Fc.dp];omega)
 | .neg a=>gd1 (XX a) _
 | .conj a b=>gd2 (XX a) (XX b) _ (by simp only [Sy.dp];omega) (by simp only [Sy.dp];omega)
 | .disj a b=>gd2 (XX a) (XX b) _ (by simp only [Sy.dp];omega) (by simp only [Sy.dp];omega)
def cod (k:Tx):Nat:=if k=Wi then 1 else if k=qu then 2 else 0
theorem qbA (n):(Aa0 n ([32]:Tx)).flatten=Aa0 n 32:=by
 induction n with
 | zero=>rfl
 | succ n ih=>rw [Ac8,Af2,ih,Ac8];rfl
theorem jbn (n:Nat) (h) (hn:n<=3):GZ .mul (.v (.str [32])) (.v (.int (n:Int))) h= .ok (.v (.str (Aa0 n 32))) h:=by
 rw [mul_str [32] n h (by omega) (by simp;omega),qbA]
theorem Lex.kind (h:Lex t k):k=Wi\/k=qu\/k=qm:=by cases h<;>simp
theorem Lex.ends (h:Lex t k): ∃c d r q,t=c::r/\t=q++ [d]/\cod (srt c)=cod k/\cod (srt d)=cod k:=by
 have ne:t≠ []:=by cases h<;>first | assumption | simp
 have all: ∀c∈t,srt c=k:=by
  cases h with
  | word _ kk=>exact kk
  | fig _ kk=>exact kk
  | one kk=>intro c hc;rw [Ab5.mp hc];exact kk
 refine⟨t.head ne,t.getLast ne,t.tail,t.dropLast,(List.cons_head_tail ne).symm,(List.dropLast_concat_getLast ne).symm,?_,?_⟩
 ·rw [all _ (List.head_mem ne)]
 ·rw [all _ (List.getLast_mem ne)]
theorem jau (m c) (h):call prog (m+1) "_law_sort" [.v (.str [c])] h= .ok (.v (.int (cod (srt c):Nat))) h:=by
 rw [Gb rfl _ _ _ rfl]
 have e:cod (srt c)=(L26.contains c).toNat+2*(F10.contains c).toNat:=by
  unfold srt
  have dis:L26.contains c=v9->F10.contains c=v9->False:=λh1 h2=>by
   have h1:c∈L26:=by simpa using h1
   have: ∀c∈L26,F10.contains c=false:=by decide
   rw [this c h1]at h2;cases h2
  cases q1:L26.contains c with
  | true=>
   cases q2:F10.contains c with
   | true=>exact(dis q1 q2).elim
   | false=>rw [if_pos rfl];rfl
  | false=>
   rw [if_neg (by simp)]
   cases q2:F10.contains c with
   | true=>rw [if_pos rfl];rfl
   | false=>
    rw [if_neg (by simp)]
    split<;>rfl
 have b1: ∀b:Bool,biD .int [.v (.bl b)] h= .ok (.v (.int b.toNat)) h:=λb=>rfl
 have z1:Gf .mul 2 ((F10.contains c).toNat:Int)=y0 ((2*(F10.contains c).toNat:Nat):Int):=Wz 2 _ (by decide)
 have z2:Gf .add ((L26.contains c).toNat:Int) ((2*(F10.contains c).toNat:Nat):Int)=y0 ((cod (srt c):Nat):Int):=by rw [e,jh];rfl
 simp only [Kl]
 show Gw _ (execs _ _ [y0 (.v (.str [c])),k9] h)=_
 rw [za (τ1:= [y0 (.v (.str [c])),y0 (.v (.str L26))]) rfl]
 rw [qa (Je rfl ?_),Ga _ _ _ rfl]
 simp_all [qS,b1,z1,z2]
abbrev spS (w:W) (r:Nat) (t:Tx) (x y z:Option W):Sl:= [y0 w,y0 (.v (.ref r)),y0 (.v (.str t)),x,y,z]
theorem zbl (c) (r) (h) (hl:(c::r).length<=1000):ixD (.v (.str (c::r))) (.v (.int 0)) h=y0 (.str [c]):=by
 rw [XE,if_pos (by rw [Gc];omega)]
 have:atI (c::r) 0=y0 c:=zo (c::r) 0 (by simp)
 rw [this];rfl
theorem xbw (d) (q) (h) (hl:(q++ [d]).length<=1000):ixD (.v (.str (q++ [d]))) (.v (.int (-1))) h=y0 (.str [d]):=by
 rw [XE,if_pos (by rw [Gc];omega),(xaa q d).1];rfl
section
variable {m r:Nat}{w:W}{ts:List Tx}
theorem zbd (hw: ∀h i,ixD w (.v (.int i)) h=atI (ts.map D.str) i) (rd: ∀t x y z,Gn (spS w r t x y z) 0=y0 w)(hk:k<ts.length) (lx: ∀t∈ts,(∃ kd,Lex t kd)/\t.length<=10){t a:Tx}(hx:Lx t (ts.take k) a) (ha:(k=0/\a=qh)\/ ∃p,k=p+1/\ ∃u,ts[p]? =y0 u/\Lex u a) (ht:t.length<=500000){h:AH}(P:PH h) (hr:r<h.length) (z:Option W):
 ∃t' a' z' h',Lx t' (ts.take (k+1)) a'/\(∃ u,ts[k]? =y0 u/\Lex u a')/\t'.length<=t.length+13/\PH h'/\h'.length=h.length ∧
  execs (v8 (m+3)) Wg (spS w r t (y0 (.v (.int (k:Int)))) (y0 (.v (.str ts[k]))) z) h= .next (spS w r t' (y0 (.v (.int (k:Int)))) (y0 (.v (.str ts[k]))) z') h':=by
 obtain⟨⟨kd,lk⟩,ll⟩:=lx ts[k] (Am0 hk)
 obtain⟨v,h1,hv,P1,l1,e1⟩:=jg (m+2) P hr (show 0<3 by decide) (by decide)
 have e1:call prog (m+3) "_law_next" [.v (.ref r),.v (.int 3)] h= .ok (.v (.int (v:Int))) h1:=e1
 obtain⟨c,d,rr,qq,c1,c2,c3,c4⟩:=lk.ends
 simp only [Wg]
 rw [za (τ1:=spS w r t (y0 (.v (.int (k:Int)))) (y0 (.v (.str ts[k]))) (y0 (.v (.int (v:Int))))) (h1:=h1) (by simp_all [e1])]
 have tk1:ts.take (k+1)=ts.take k++ [ts[k]]:=by rw [List.take_succ_eq_append_getElem hk]
 have gt: ∀h,Gz .gt (.v (.int (k:Int))) (.v (.int 0)) h=y0 (k8 (0<k)):=λh=>by
  rw [QV];congr 1;rw [decide_eq_decide];omega
 have fin: ∀g:Nat,g<=3->(k=0\/0<g\/ ∃b,(∃ u,Lex u b)/\b=a/\(cod kd=0\/cod kd≠cod b))-> ∃t' a' z',Lx t' (ts.take (k+1)) a'/\(∃ u,ts[k]? =y0 u/\Lex u a')/\t'.length<=t.length+13 ∧
  execs (v8 (m+3)) (.cons (.iff (.cmp .gt (.var 3) (.int 0)) (.cons (.setf 2 (.bin .add (.var 2) (.bin .mul (.str [32]) (.var 5)))) .nil) .nil) (.cons (.setf 2 (.bin .add (.var 2) (.var 4))) .nil)) (spS w r t (y0 (.v (.int (k:Int)))) (y0 (.v (.str ts[k]))) (y0 (.v (.int (g:Int))))) h1= .next (spS w r t' (y0 (.v (.int (k:Int)))) (y0 (.v (.str ts[k]))) z') h1:=by
  intro g hg hc
  by_cases q:k=0
  ·have f:fre a:=by
    rcases ha with⟨_,rfl⟩ | ⟨p,hp,_⟩
    ·exact jp
    ·omega
   refine⟨t++ts[k],kd,y0 (.v (.int (g:Int))),by rw [tk1];exact hx.free f lk,⟨_,Aa9 hk,lk⟩,by simp;omega,?_⟩
   rw [Ja (by simp_all [gt,decide_eq_false (show ¬0<k by omega)])]
   rw [za (τ1:=spS w r (t++ts[k]) (y0 (.v (.int (k:Int)))) (y0 (.v (.str ts[k]))) (y0 (.v (.int (g:Int))))) (h1:=h1)]
   ·rfl
   ·have bs:GZ .add (.v (.str t)) (.v (.str ts[k])) h1= .ok (.v (.str (t++ts[k]))) h1:=by
     rw [Xg,if_pos (by rw [Gc];omega)]
    simp_all [bs]
  ·obtain⟨b,h2,h3,h4⟩:=hx.blanks g
   have hh:b≠kd\/kd=qm:=by
    rcases Nat.eq_zero_or_pos g with q0 | q0
    ·rw [h3 q0]
     rcases hc with hc | hc | ⟨b',hb,rfl,hc | hc⟩
     ·exact absurd hc q
     ·omega
     ·refine .inr ?_
      rcases lk.kind with rfl | rfl | rfl
      ·exact absurd hc (by decide)
      ·exact absurd hc (by decide)
      ·rfl
     ·exact .inl λz=>hc (by rw [z])
    ·rw [h4 q0]
     refine .inl ?_
     rcases lk.kind with rfl | rfl | rfl<;>decide
   refine⟨t++Aa0 g 32++ts[k],kd,y0 (.v (.int (g:Int))),by rw [tk1];exact h2.tok lk hh,⟨_,Aa9 hk,lk⟩,by simp;omega,?_⟩
   rw [za (τ1:=spS w r (t++Aa0 g 32) (y0 (.v (.int (k:Int)))) (y0 (.v (.str ts[k]))) (y0 (.v (.int (g:Int))))) (h1:=h1)]
   ·rw [za (τ1:=spS w r (t++Aa0 g 32++ts[k]) (y0 (.v (.int (k:Int)))) (y0 (.v (.str ts[k]))) (y0 (.v (.int (g:Int))))) (h1:=h1)]
    ·rfl
    ·have bs:GZ .add (.v (.str (t++Aa0 g 32))) (.v (.str ts[k])) h1= .ok (.v (.str (t++Aa0 g 32++ts[k]))) h1:=by
      rw [Xg,if_pos (by rw [Gc];simp;omega)]
     simp_all [bs]
   ·rw [Wo (h1:=h1) (by simp_all [gt,decide_eq_true (show 0<k by omega)])]
    have bs:GZ .add (.v (.str t)) (.v (.str (Aa0 g 32))) h1= .ok (.v (.str (t++Aa0 g 32))) h1:=by
     rw [Xg,if_pos (by rw [Gc];simp;omega)]
    simp_all [jbn g h1 hg,bs]
 have e0:eval (v8 (m+3)) (.cmp .gt (.var 3) (.int 0)) (spS w r t (y0 (.v (.int (k:Int)))) (y0 (.v (.str ts[k]))) (y0 (.v (.int (v:Int))))) h1= .ok (.v (.bl (k8 (0<k)))) h1:=by simp_all [gt]
 have ev:eval (v8 (m+3)) (.cmp .eq (.var 5) (.int 0)) (spS w r t (y0 (.v (.int (k:Int)))) (y0 (.v (.str ts[k]))) (y0 (.v (.int (v:Int))))) h1= .ok (.v (.bl (k8 (v=0)))) h1:=by
  have z:Gz .eq (.v (.int (v:Int))) (.v (.int 0)) h1=y0 (k8 (v=0)):=Zg v 0 h1
  simp_all [z]
 have es:eval (v8 (m+3)) (.call "_law_sort" (.cons (.ix (.var 4) (.int 0)) .nil)) (spS w r t (some (.v (.int (k:Int)))) (some (.v (.str ts[k]))) (some (.v (.int (v:Int))))) h1= .ok (.v (.int (cod kd:Nat))) h1:=by
  have i0:ixD (.v (.str ts[k])) (.v (.int 0)) h1=y0 (.str [c]):=by rw [c1]at ll ⊢;exact zbl c rr h1 (by omega)
  simp_all [i0,jau (m+2) c h1,c3]
 have step: ∀(b:Bool) (g:Nat),Gp (v8 (m+3)) (.and (.cmp .gt (.var 3) (.int 0)) (.and (.cmp .eq (.var 5) (.int 0)) (.and (.cmp .gt (.call "_law_sort" (.cons (.ix (.var 4) (.int 0)) .nil)) (.int 0)) (.cmp .eq (.call "_law_sort" (.cons (.ix (.var 4) (.int 0)) .nil)) (.call "_law_sort" (.cons (.ix (.ix (.var 0) (.bin .sub (.var 3) (.int 1))) (.neg (.int 1))) .nil)))))) (spS w r t (some (.v (.int (k:Int)))) (some (.v (.str ts[k]))) (some (.v (.int (v:Int))))) h1= .ok b h1->g=(if b then 1 else v)->(k=0\/0<g\/ ∃b,(∃ u,Lex u b)/\b=a/\(cod kd=0\/cod kd≠cod b)) →
  ∃t' a' z' h',Lx t' (ts.take (k+1)) a'/\(∃ u,ts[k]? =some u/\Lex u a')/\t'.length<=t.length+13/\PH h'/\h'.length=h.length/\execs (v8 (m+3)) (.cons (.iff (.and (.cmp .gt (.var 3) (.int 0)) (.and (.cmp .eq (.var 5) (.int 0)) (.and (.cmp .gt (.call "_law_sort" (.cons (.ix (.var 4) (.int 0)) .nil)) (.int 0)) (.cmp .eq (.call "_law_sort" (.cons (.ix (.var 4) (.int 0)) .nil)) (.call "_law_sort" (.cons (.ix (.ix (.var 0) (.bin .sub (.var 3) (.int 1))) (.neg (.int 1))) .nil)))))) (.cons (.setf 5 (.int 1)) .nil) .nil) (.cons (.iff (.cmp .gt (.var 3) (.int 0)) (.cons (.setf 2 (.bin .add (.var 2) (.bin .mul (.str [32]) (.var 5)))) .nil) .nil) (.cons (.setf 2 (.bin .add (.var 2) (.var 4))) .nil))) (spS w r t (some (.v (.int (k:Int)))) (some (.v (.str ts[k]))) (some (.v (.int (v:Int))))) h1= .next (spS w r t' (some (.v (.int (k:Int)))) (some (.v (.str ts[k]))) z') h':=by
  intro b g hb hg hc
  obtain⟨t',a',z',f1,f2,f3,f4⟩:=fin g (by subst hg;split<;>omega) hc
  refine⟨t',a',z',h1,f1,f2,f3,P1,l1,?_⟩
  cases b with
  | true=>
   have hg:g=1:=hg
   subst hg
   rw [za (τ1:=spS w r t (y0 (.v (.int (k:Int)))) (y0 (.v (.str ts[k]))) (y0 (.v (.int ((1:Nat):Int))))) (h1:=h1) (by rw [Wo hb];rfl)]
   exact f4
  | false=>
   have hg:g=v:=hg
   subst hg
   rw [za (τ1:=spS w r t (y0 (.v (.int (k:Int)))) (y0 (.v (.str ts[k]))) (y0 (.v (.int (g:Int))))) (h1:=h1) (by rw [QN hb];rfl)]
   exact f4
 rcases ha with⟨k0,_⟩ | ⟨p,kp,u,up,lu⟩
 ·refine step u9 v ?_ rfl (.inl k0)
  rw [Gp,eval,e0,decide_eq_false (by omega)]
  simp only [R.bind_ok,Gk,R.of_some]
 ·by_cases qv:v=0
  ·have hu:u.length<=10:=(lx u (Ai5 up)).2
   obtain⟨_,d',_,q',_,u2,_,u4⟩:=lu.ends
   have ep:eval (v8 (m+3)) (.call "_law_sort" (.cons (.ix (.ix (.var 0) (.bin .sub (.var 3) (.int 1))) (.neg (.int 1))) .nil)) (spS w r t (some (.v (.int (k:Int)))) (some (.v (.str ts[k]))) (some (.v (.int (v:Int))))) h1= .ok (.v (.int (cod a:Nat))) h1:=by
    have z:Gf .sub (k:Int) 1=y0 ((p:Nat):Int):=by rw [xk];congr 1;omega
    have i1:ixD w (.v (.int (p:Int))) h1=y0 (.str u):=by
     rw [hw,zo _ p (by simp;omega),Ad4,up];rfl
    have i2:ixD (.v (.str u)) (.v (.int (-1))) h1=y0 (.str [d']):=by rw [u2]at hu ⊢;exact xbw d' q' h1 (by omega)
    have i3:eval (v8 (m+3)) (.ix (.ix (.var 0) (.bin .sub (.var 3) (.int 1))) (.neg (.int 1))) (spS w r t (y0 (.v (.int (k:Int)))) (y0 (.v (.str ts[k]))) (y0 (.v (.int (v:Int))))) h1= .ok (.v (.str [d'])) h1:=by
     rw [eval,eval,eval,rd]
     show((((R.ok w h1).bind _).bind _))=_
     simp_all [z,i1,i2]
    rw [eval,Gi,i3]
    simp_all [jau (m+2) d' h1,u4]
   have g2:eval (v8 (m+3)) (.cmp .gt (.call "_law_sort" (.cons (.ix (.var 4) (.int 0)) .nil)) (.int 0)) (spS w r t (some (.v (.int (k:Int)))) (some (.v (.str ts[k]))) (some (.v (.int (v:Int))))) h1= .ok (.v (.bl (decide (0<cod kd)))) h1:=by
    have z:Gz .gt (.v (.int (cod kd:Nat))) (.v (.int 0)) h1=y0 (k8 (0<cod kd)):=by
     rw [QV];congr 1;rw [decide_eq_decide];omega
    rw [eval,es]
    simp_all [z]
   have g3:eval (v8 (m+3)) (.cmp .eq (.call "_law_sort" (.cons (.ix (.var 4) (.int 0)) .nil)) (.call "_law_sort" (.cons (.ix (.ix (.var 0) (.bin .sub (.var 3) (.int 1))) (.neg (.int 1))) .nil))) (spS w r t (some (.v (.int (k:Int)))) (some (.v (.str ts[k]))) (some (.v (.int (v:Int))))) h1= .ok (.v (.bl (decide (cod kd=cod a)))) h1:=by
    rw [eval,es,R.bind_ok,ep,R.bind_ok,Zg];rfl
   by_cases q1:0<cod kd
   ·by_cases q2:cod kd=cod a
    ·refine step v9 1 ?_ rfl (.inr (.inl (by decide)))
     rw [Gp,eval,e0,decide_eq_true (by omega)]
     simp only [R.bind_ok,Gk,R.of_some]
     rw [eval,ev,decide_eq_true qv]
     simp only [R.bind_ok,Gk,R.of_some]
     rw [eval,g2,decide_eq_true q1]
     simp only [R.bind_ok,Gk,R.of_some,g3,decide_eq_true q2]
    ·refine step u9 v ?_ rfl (.inr (.inr ⟨a,⟨u,lu⟩,rfl,.inr q2⟩))
     rw [Gp,eval,e0,decide_eq_true (by omega)]
     simp only [R.bind_ok,Gk,R.of_some]
     rw [eval,ev,decide_eq_true qv]
     simp only [R.bind_ok,Gk,R.of_some]
     rw [eval,g2,decide_eq_true q1]
     simp only [R.bind_ok,Gk,R.of_some,g3,decide_eq_false q2]
   ·refine step u9 v ?_ rfl (.inr (.inr ⟨a,⟨u,lu⟩,rfl,.inl (by omega)⟩))
    rw [Gp,eval,e0,decide_eq_true (by omega)]
    simp only [R.bind_ok,Gk,R.of_some]
    rw [eval,ev,decide_eq_true qv]
    simp only [R.bind_ok,Gk,R.of_some]
    rw [eval,g2,decide_eq_false q1]
    simp only [R.bind_ok,Gk,R.of_some]
  ·refine step u9 v ?_ rfl (.inr (.inl (by omega)))
   rw [Gp,eval,e0,decide_eq_true (by omega)]
   simp only [R.bind_ok,Gk,R.of_some]
   rw [eval,ev,decide_eq_false qv]
   simp only [R.bind_ok,Gk,R.of_some]
end
def Lk2 (x:Tx):Prop:=(∃ k,Lex x k)/\x.length<=10
theorem TE.lex (h:TE N l e ts n): ∀x∈ts,Lk2 x:=by
 have w: ∀ t x,(∀ c∈t,97<=c/\c<=122)->t≠ []->t.length<=10->x∈ [t]->Lk2 x:=λt x h1 h2 h3 hx=>by rw [Ab5.mp hx];exact⟨⟨_,qp h2 h1⟩,h3⟩
 have o: ∀ c,srt c=qm->Lk2 [c]:=λc hc=>⟨⟨_,.one hc⟩,by simp⟩
 have two: ∀ {ts us}{c},srt c=qm->(∀ x∈ts,Lk2 x)->(∀ x∈us,Lk2 x)-> ∀x∈ts++ [c]::us,Lk2 x:=λ{ts us c} hc h1 h2 x hx=>by
  rcases Ad2.mp hx with hx | hx
  ·exact h1 x hx
  ·rcases Aa.mp hx with rfl | hx
   ·exact o c hc
   ·exact h2 x hx
 induction h with
 | name h g=>intro x hx;rw [Ab5.mp hx];exact⟨⟨_,XR g⟩,by have:=g.hi;omega⟩
 | same=>intro x hx;exact w Qp x (by decide) (by decide) (by decide) hx
 | all=>intro x hx;exact w XC x (by decide) (by decide) (by decide) hx
 | none=>intro x hx;exact w xp x (by decide) (by decide) (by decide) hx
 | turned _ ih=>intro x hx;rcases Aa.mp hx with rfl | hx;exact o 126 (by decide);exact ih x hx
 | closed _ ih=>intro x hx;rcases Aa.mp hx with rfl | hx;exact o 94 (by decide);exact ih x hx
 | par _ ih=>
  intro x hx
  rcases Aa.mp hx with rfl | hx
  ·exact o 40 (by decide)
  ·exact two (by decide) ih (λx hx=>by cases hx) x hx
 | up _ _ ih=>exact ih
 | plus _ _ i1 i2=>exact two (by decide) i1 i2
 | less _ _ i1 i2=>exact two (by decide) i1 i2
 | both _ _ i1 i2=>exact two (by decide) i1 i2
 | joined _ _ i1 i2=>exact two (by decide) i1 i2
theorem QS {P:Tx->Prop}(hu:P u) (h1: ∀x∈ts,P x) (h2: ∀x∈us,P x): ∀x∈ts++u::us,P x:=λx hx=>by
 rcases Ad2.mp hx with hx | hx
 ·exact h1 x hx
 ·rcases Aa.mp hx with rfl | hx
  ·exact hu
  ·exact h2 x hx
theorem jaE (t) (h1: ∀c∈t,97<=c/\c<=122) (h2:t≠ []) (h3:t.length<=10):Lk2 t:=⟨⟨_,qp h2 h1⟩,h3⟩
theorem TF.lex (h:TF N f ts n): ∀x∈ts,Lk2 x:=by
 have nl: ∀x∈ [],Lk2 x:=λx hx=>by cases hx
 have hw: ∀s∈ [Wa,Qb],Lk2 s:=λs hs=>by
  simp only [Aa,Aa2,or_false]at hs
  rcases hs with rfl | rfl
  ·exact jaE _ (by decide) (by decide) (by decide)
  ·exact jaE _ (by decide) (by decide) (by decide)
 have hd: ∀k,k<100->Lk2 (dg k):=λk hk=>⟨⟨_,WM hk⟩,by have:=(xaj k hk).2.1;omega⟩
 cases h with
 | inn a b=>exact QS (jaE _ (by decide) (by decide) (by decide)) a.lex b.lex
 | equ a b=>exact QS ⟨⟨_,.one (by decide)⟩,by decide⟩ a.lex b.lex
 | som a=>exact QS (jaE _ (by decide) (by decide) (by decide)) nl a.lex
 | non a=>exact QS (jaE _ (by decide) (by decide) (by decide)) nl a.lex
 | one hs hk a=>exact QS (hw _ hs) nl (QS (hd _ hk) nl a.lex)
 | two hs hk a=>exact QS (jaE _ (by decide) (by decide) (by decide)) nl (QS (hw _ hs) nl (QS (hd _ hk) nl a.lex))
theorem TS.lex (h:TS N l s ts n): ∀x∈ts,Lk2 x:=by
 have nl: ∀x∈ [],Lk2 x:=λx hx=>by cases hx
 induction h with
 | fact h=>exact h.lex
 | neg _ ih=>exact QS (jaE _ (by decide) (by decide) (by decide)) nl ih
 | par _ ih=>exact QS ⟨⟨_,.one (by decide)⟩,by decide⟩ nl (QS ⟨⟨_,.one (by decide)⟩,by decide⟩ ih nl)
 | up _ _ ih=>exact ih
 | conj _ _ i1 i2=>exact QS (jaE _ (by decide) (by decide) (by decide)) i1 i2
 | disj _ _ i1 i2=>exact QS (jaE _ (by decide) (by decide) (by decide)) i1 i2
section
variable {m r:Nat}{w:W}{ts:List Tx}
theorem zab (hw: ∀h i,ixD w (.v (.int i)) h=atI (ts.map D.str) i) (rd: ∀t x y z,Gn (spS w r t x y z) 0=y0 w) (lx: ∀t∈ts,(∃ kd,Lex t kd)/\t.length<=10) (hl:ts.length<=20000): ∀ j k,k+j=ts.length-> ∀ t a x y z h,Lx t (ts.take k) a->((k=0/\a=qh)\/ ∃p,k=p+1/\ ∃u,ts[p]? =y0 u/\Lex u a)->t.length<=13*k+10->PH h->r<h.length →
 ∃t' a' x' y' z' h',Lx t' ts a'/\t'.length<=13*ts.length+10/\PH h'/\h'.length=h.length/\Kf (GQ [3,4] u9) (λτ h=>execs (v8 (m+3)) Wg τ h) (KM k ((ts.drop k).map .str)) (spS w r t x y z) h= .next (spS w r t' x' y' z') h'
 | 0,k,hk,t,a,x,y,z,h,hx,_,ht,P,_=>by
  obtain rfl:k=ts.length:=by omega
  rw [Ai2]at hx
  refine⟨t,a,x,y,z,h,hx,ht,P,rfl,?_⟩
  rw [Am1];rfl
 | j+1,k,hk,t,a,x,y,z,h,hx,ha,ht,P,hr=>by
  have hk':k<ts.length:=by omega
  obtain⟨t1,a1,z1,h1,b1,b2,b3,P1,l1,b4⟩:=zbd hw rd hk' lx hx ha (by omega) P hr z
  obtain⟨t',a',x',y',z',h',c1,c2,c3,c4,c5⟩:=zab hw rd lx hl j (k+1) (by omega) t1 a1 (y0 (.v (.int k))) (y0 (.v (.str ts[k]))) z1 h1 b1 (.inr ⟨k,rfl,b2⟩) (by omega) P1 (by omega)
  refine⟨t',a',x',y',z',h',c1,c2,c3,c4.trans l1,?_⟩
  rw [Aj4 hk',Ac,KM,Qo rfl b4]
  exact c5
theorem qaC (hp:w= .bor (ts.map .str)\/w= .v (.lst (ts.map .str))) (lx: ∀t∈ts,Lk2 t) (hl:ts.length<=20000)(P:PH h) (hr:r<h.length):
 ∃t a h',Lx t ts a/\t.length<=13*ts.length+20/\PH h'/\h'.length=h.length/\call prog (m+4) "_law_spaced" [w,.v (.ref r)] h= .ok (.v (.str t)) h':=by
 have hw: ∀h i,ixD w (.v (.int i)) h=atI (ts.map D.str) i:=λh i=>by rcases hp with rfl | rfl<;>rfl
 have rd: ∀t x y z,Gn (spS w r t x y z) 0=y0 w:=λt x y z=>by rcases hp with rfl | rfl<;>rfl
 have lpl:(y0 w).bind lpL=y0 (ts.map D.str):=by rcases hp with rfl | rfl<;>rfl
 obtain⟨v,h1,hv,P1,l1,e1⟩:=jg (m+2) P hr (show 0<3 by decide) (by decide)
 have e1:call prog (m+3) "_law_next" [.v (.ref r),.v (.int 3)] h= .ok (.v (.int (v:Int))) h1:=e1
 obtain⟨b,hb,b0,b1⟩:=Lx.nil.blanks v
 have eb:b=qh:=by rcases Nat.eq_zero_or_pos v with q | q;exact b0 q;exact b1 q
 subst eb
 obtain⟨t',a',x',y',z',h2,c1,c2,P2,l2,c5⟩:=zab hw rd lx hl ts.length 0 (by omega) (Aa0 v 32) qh k9 k9 k9 h1 (by simpa using hb) (.inl ⟨rfl,rfl⟩) (by simp;omega) P1 (by omega)
 obtain⟨v2,h3,hv2,P3,l3,e3⟩:=jg (m+2) P2 (show r<h2.length by omega) (show 0<3 by decide) (by decide)
 have e3:call prog (m+3) "_law_next" [.v (.ref r),.v (.int 3)] h2= .ok (.v (.int (v2:Int))) h3:=e3
 obtain⟨b2,hb2,_,_⟩:=c1.blanks v2
 refine⟨t'++Aa0 v2 32,b2,h3,hb2,by simp;omega,P3,by omega,?_⟩
 rw [Gb rfl _ _ _ rfl]
 simp only [G6]
 show Gw _ (execs _ _ [y0 w,y0 (.v (.ref r)),k9,k9,k9,k9] h)=_
 rw [za (τ1:=spS w r (Aa0 v 32) k9 k9 k9) (h1:=h1) (by simp_all [e1,jbn v h1 (by omega)])]
 rw [za (τ1:=spS w r t' x' y' z') (h1:=h2)]
 ·rw [qa (w:= .v (.str (t'++Aa0 v2 32))) (h1:=h3),Ga _ _ _ (by omega)]
  refine Je rfl ?_
  have bs:GZ .add (.v (.str t')) (.v (.str (Aa0 v2 32))) h3= .ok (.v (.str (t'++Aa0 v2 32))) h3:=by
   rw [Xg,if_pos (by rw [Gc];simp;omega)]
  simp_all [e3,jbn v2 h3 (by omega),bs]
 ·rw [exec]
  have lp:G8 (v8 (m+3)) (.enumL 0) (spS w r (Aa0 v 32) k9 k9 k9) h1= .ok (KM 0 (ts.map D.str)) h1:=by
   show((R.of h1 ((y0 w).bind lpL)).bind _)=_
   rw [lpl];rfl
  rw [lp,R.toO_ok]
  exact c5
end
abbrev laS (ns:List Int) (K T:List Tx) (x2 x3 x4 x5:Option W):Sl:= [y0 (scD ns),y0 (.v (wD K T)),x2,x3,x4,x5]
theorem qaN (hs:ns.length<=63)(nm:Nm (K++T)) (hl:(K++T).length<=100){j:Nat}{x3 x4 x5:Option W}{h:AH}(P:PH h):
 ∃y3 y4 y5 h',PH h'/\execs (v8 79) ZF (laS ns K T (y0 (.v (.int (j:Int)))) x3 x4 x5) h= .next (laS ns K T (y0 (.v (.int (j:Int)))) y3 y4 y5) h':=by
 have hN: ∀t∈K++T,t.length<=8:=λt ht=>(nm.good t ht).hi
 obtain⟨a1,f1,g1,e1⟩:=xx 77 ns hs j h
 have P1:=P.app a1 f1 g1
 have l1:(h++ [Cell.lst [D.int a1,D.int f1,D.int g1]]).length=h.length+1:=by simp
 obtain⟨v,h2,hv,P2,l2,e2⟩:=jg 78 P1 (show h.length<(h++ [Cell.lst [D.int a1,D.int f1,D.int g1]]).length by omega) (show 0<4 by decide) (by decide)
 have e2:call prog 79 "_law_next" [.v (.ref h.length),.v (.int 4)] (h++ [Cell.lst [D.int a1,D.int f1,D.int g1]])= .ok (.v (.int (v:Int))) h2:=e2
 obtain⟨s,h3,ws,ds,P3,l3,e3⟩:=qI h.length (K++T) hl v (71-v) h2 P2 (by omega)
 rw [show 71-v+v+8=79 by omega]at e3
 have hs7:s.dp<=7:=by omega
 have sl:=zbQ hN s ws
 have hp:100*2 ^ s.dp<=100*2 ^ 7:=Ah3 _ (Ab8 (by decide) hs7)
 have hq:20*2 ^ s.dp<=20*2 ^ 7:=Ah3 _ (Ab8 (by decide) hs7)
 obtain⟨a2,f2,g2,e4⟩:=xx 77 ns hs (j+1) h3
 have P4:=P3.app a2 f2 g2
 have l4:(h3++ [Cell.lst [D.int a2,D.int f2,D.int g2]]).length=h3.length+1:=by simp
 obtain⟨us,w,h5,t1,t2,t3,P5,l5,e5⟩:=xbN (K++T) nm.good h3.length s ws (by omega) (73-s.dp) 0 (by decide) _ P4 (by omega)
 rw [show 73-s.dp+s.dp+6=79 by omega]at e5
 have e5:call prog 79 "_law_saying_tokens" [.v (syD s),.v (.int 0),.v (.ref h3.length)] (h3++ [Cell.lst [D.int a2,D.int f2,D.int g2]])= .ok w h5:=e5
 obtain⟨t,a,h6,s1,s2,P6,l6,e6⟩:=qaC (m:=75) (r:=h3.length) (w:=w.arg) (ts:=us) (by rcases t3 with rfl | rfl;exact .inl rfl;exact .inr rfl) t1.lex (by omega) P5 (by omega)
 have e7:=xa4 16 1 h6 K T hl t us a s1 (by omega) (by omega) s (t1.wk (by omega)) (by decide)
 have e8:=xbI h6 (s.dp+2) (76-s.dp) (syD s) (XX s)
 rw [show 76-s.dp+(s.dp+2)+1=79 by omega]at e8
 obtain⟨ts,k,x1,x2',x3'⟩:=zb8 nm.good s ws [] [] qh Lx.nil jp
 rw [Ae4,Ae4]at x1
 have e9:=zbN h6 s ws (by omega) 78 (by omega)
 have e10:=xa4 16 1 h6 K T hl (sT s) ts k x1 (by omega) (by omega) s ((TS.down x2' (Ae7 _) (QE s)).wk (by omega)) (by decide)
 have p1:=Jk (F:=(v8 79)) (f:= "_law_purse") (es:= .cons (.var 0) (.cons (.var 2) .nil)) (τ:=laS ns K T (some (.v (.int (j:Int)))) x3 x4 x5) (h:=h) (ws:= [scD ns,.v (.int (j:Int))]) (xs:= [D.int a1,D.int f1,D.int g1]) rfl e1 rfl
 have ct: ∀h,GZ .add (.v (tsD K)) (.v (tsD T)) h= .ok (.v (tsD (K++T))) h:=λh=>by
  rw [ZU,if_pos (by rw [Gc];simp at hl ⊢;omega),←Ae5]
 refine⟨y0 (.v (.ref h3.length)),y0 (.v (syD s)),y0 (.v (.str t)),h6,P6,?_⟩
 simp only [ZF]
 rw [za (τ1:=laS ns K T (y0 (.v (.int (j:Int)))) (y0 (.v (.ref h.length))) x4 x5) (h1:=h++ [Cell.lst [D.int a1,D.int f1,D.int g1]]) (by rw [exec,p1];rfl)]
 rw [za (τ1:=laS ns K T (y0 (.v (.int (j:Int)))) (y0 (.v (.ref h.length))) (y0 (.v (syD s))) x5) (h1:=h3) (by simp_all [e2,ix_tup,qck,zcj,ct,e3])]
 have z1:Gf .add (j:Int) 1=y0 ((j+1:Nat):Int):=by rw [jh];rfl
 have w2:Gi (v8 79) (.cons (.var 0) (.cons (.bin .add (.var 2) (.int 1)) .nil)) (laS ns K T (y0 (.v (.int (j:Int)))) (y0 (.v (.ref h.length))) (y0 (.v (syD s))) x5) h3= .ok [scD ns,.v (.int ((j+1:Nat):Int))] h3:=by
  simp_all [z1]<;>rfl
 have p2:=Jk (F:=(v8 79)) (f:= "_law_purse") (es:= .cons (.var 0) (.cons (.bin .add (.var 2) (.int 1)) .nil)) (τ:=laS ns K T (some (.v (.int (j:Int)))) (some (.v (.ref h.length))) (some (.v (syD s))) x5) (h:=h3) (ws:= [scD ns,.v (.int ((j+1:Nat):Int))]) (xs:= [D.int a2,D.int f2,D.int g2]) w2 e4 rfl
 rw [za (τ1:=laS ns K T (y0 (.v (.int (j:Int)))) (y0 (.v (.ref h3.length))) (y0 (.v (syD s))) x5) (h1:=h3++ [Cell.lst [D.int a2,D.int f2,D.int g2]]) (by rw [exec,p2];rfl)]
 have e6:call prog 79 "_law_spaced" [w.arg,.v (.ref h3.length)] h5= .ok (.v (.str t)) h6:=e6
 rw [za (τ1:=laS ns K T (y0 (.v (.int (j:Int)))) (y0 (.v (.ref h3.length))) (y0 (.v (syD s))) (y0 (.v (.str t)))) (h1:=h6) (by simp_all [e5,e6])]
 have e7:call prog 79 "read_saying" [.v (wD K T),.v (.str t)] h6= .ok (.v (syD s)) h6:=e7
 have e10:call prog 79 "read_saying" [.v (wD K T),.v (.str (sT s))] h6= .ok (.v (syD s)) h6:=e10
 have n1:eval (v8 79) (.not (.call "_law_same" (.cons (.call "read_saying" (.cons (.var 1) (.cons (.var 5) .nil))) (.cons (.var 4) .nil)))) (laS ns K T (some (.v (.int (j:Int)))) (some (.v (.ref h3.length))) (some (.v (syD s))) (some (.v (.str t)))) h6= .ok (.v (.bl false)) h6:=by
  simp_all [e7,e8]<;>rfl
 have n2:eval (v8 79) (.not (.call "_law_same" (.cons (.call "read_saying" (.cons (.var 1) (.cons (.call "shown_saying" (.cons (.var 4) .nil)) .nil))) (.cons (.var 4) .nil)))) (laS ns K T (some (.v (.int (j:Int)))) (some (.v (.ref h3.length))) (some (.v (syD s))) (some (.v (.str t)))) h6= .ok (.v (.bl false)) h6:=by
  simp_all [e9,e10,e8]<;>rfl
 have ln:eval (v8 79) (.cmp .lt (.bi .len (.cons (.var 5) .nil)) (.int 3900)) (laS ns K T (y0 (.v (.int (j:Int)))) (y0 (.v (.ref h3.length))) (y0 (.v (syD s))) (y0 (.v (.str t)))) h6= .ok (.v (.bl (k8 (t.length<3900)))) h6:=by
  have b1:biD .len [.v (.str t)] h6= .ok (.v (.int (t.length:Int))) h6:=by
   show(if _ then _ else _)=_
   rw [if_pos (by rw [Gc];omega)]
  have z:Gz .lt (.v (.int (t.length:Int))) (.v (.int 3900)) h6=y0 (k8 (t.length<3900)):=wu t.length 3900 h6
  simp_all [b1,z]
 rw [Ja]
 ·rw [Ja]
  ·rfl
  ·rw [Gp,n2];rfl
 ·rw [Gp,eval,ln]
  simp only [R.bind_ok,Gk,R.of_some]
  cases k8 (t.length<3900)with
  | true=>simp only [n1,R.bind_ok,Gk,R.of_some]
  | false=>simp only [R.bind_ok,Gk,R.of_some]
theorem qaY (hs:ns.length<=63)(nm:Nm (K++T)) (hl:(K++T).length<=100): ∀(js:List Nat) x2 x3 x4 x5 h,PH h-> ∃y2 y3 y4 y5 h',PH h' ∧
 Kf (GQ [2] v9) (λτ h=>execs (v8 79) ZF τ h) (js.map λ(j:Nat)=> .int (j:Int)) (laS ns K T x2 x3 x4 x5) h= .next (laS ns K T y2 y3 y4 y5) h'
 | [],x2,x3,x4,x5,h,P=>⟨x2,x3,x4,x5,h,P,rfl⟩
 | j::js,x2,x3,x4,x5,h,P=>by
  obtain⟨y3,y4,y5,h1,P1,e1⟩:=qaN hs nm hl P
  obtain⟨z2,z3,z4,z5,h2,P2,e2⟩:=qaY hs nm hl js (y0 (.v (.int j))) y3 y4 y5 h1 P1
  refine⟨z2,z3,z4,z5,h2,P2,?_⟩
  rw [Ac,Qo rfl e1,e2]
theorem hlaw (ns:List Int) (hl:ns.length<=63): ∃h',call prog 80 "law" [.v (.lst (ns.map .int))] []= .ok (.v (.bl true)) h':=by
 obtain⟨K,T,h0,hK,hT,nm,P0,l0,e0⟩:=zbu 75 ns hl [] PH.nil
 have hN2:(K++T).length<=100:=by simp;omega
 obtain⟨m,hm,em⟩: ∃m:Nat,4<=m/\m<=27/\ ∀h,(biD .min [.v (.int 27),.v (.int (ns.length:Int))] h).bind (λx h=>biD .max [.v (.int 4),x] h)= .ok (.v (.int (m:Int))) h:=by
  by_cases q:(ns.length:Int)<27
  ·by_cases q2:ns.length>4
   ·exact⟨ns.length,by omega,by omega,λh=>by rw [xH,if_pos q,R.bind_ok,QG,if_pos (by omega)]⟩
   ·exact⟨4,by omega,by omega,λh=>by rw [xH,if_pos q,R.bind_ok,QG,if_neg (by omega)];rfl⟩
  ·exact⟨27,by omega,by omega,λh=>by rw [xH,if_neg q,R.bind_ok,QG,if_pos (by decide)];rfl⟩
 obtain⟨y2,y3,y4,y5,h7,P7,e7⟩:=qaY hl nm hN2 ((Ac0 ((m-2) / 2)).map λk=>3+k*2) k9 k9 k9 k9 h0 P0
 obtain⟨h8,e9,_⟩:=xbS (d:= .bl v9) rfl (Ae7 _)
 refine⟨h8,?_⟩
 rw [Gb rfl _ _ _ rfl]
 simp only [d_law]
 show Gw 0 (execs _ _ [y0 (scD ns),k9,k9,k9,k9,k9] [])=_
 rw [za (τ1:=laS ns K T k9 k9 k9 k9) (h1:=h0) (by simp only [scD]at e0;simp_all [e0])]
 rw [za (τ1:=laS ns K T y2 y3 y4 y5) ?_]
 ·rw [qa (Je rfl rfl),e9]
 ·rw [exec]
  have eb:=em.2 h0
  have ln:biD .len [scD ns] h0= .ok (.v (.int (ns.length:Int))) h0:=by rw [Q8];simp
  have hb: ∀m:Nat,m<=27->(-(B30)<=(3:Int)/\(3:Int)<B30)/\(-(B30)<=(m:Int)/\(m:Int)<B30):=λm hm=>by rw [Kz];omega
  have ev:eval (v8 79) (.bi .max (.cons (.int 4) (.cons (.bi .min (.cons (.int 27) (.cons (.bi .len (.cons (.var 0) .nil)) .nil))) .nil))) (laS ns K T k9 k9 k9 k9) h0= .ok (.v (.int (m:Int))) h0:=by
   simp only [eval,Gi,Gn,Gm,R.bind_ok,ln]
   rw [← eb]
   cases biD .min [.v (.int 27),.v (.int (ns.length:Int))] h0<;>rfl
  show((Gy (v8 79) (.rangeS (.int 3) (.bi .max (.cons (.int 4) (.cons (.bi .min (.cons (.int 27) (.cons (.bi .len (.cons (.var 0) .nil)) .nil))) .nil)))) (laS ns K T k9 k9 k9 k9) h0).toO _)=_
  rw [Gy]
  rw [show eval (v8 79) (.int 3) (laS ns K T k9 k9 k9 k9) h0= .ok (.v (.int 3)) h0 from rfl,R.bind_ok,int?_int,R.of_some,R.bind_ok,ev,R.bind_ok,int?_int,R.of_some,R.bind_ok,if_pos (hb m em.1),R.toO_ok]
  have hr:((Ac0 (((m:Int)-3+1) / 2).toNat).map λ(k:Nat)=>D.int (3+(k:Int)*2))=((Ac0 ((m-2) / 2)).map λk=>3+k*2).map λ(j:Nat)=>D.int (j:Int):=by
   rw [Ak5,show(((m:Int)-3+1) / 2).toNat=(m-2) / 2 by omega]
   rfl
  rw [hr]
  exact e7
end M
namespace L2.MS
open PySem PyProof.Rows
def top (i:Nat):Stmt:=PySem.Challenge.pw_worldfind_k15_texts_read.main.body.getD i (.Pass ⟨0,0,0,0⟩)
noncomputable def fnsL:List String:= ["is_written", "sort_of_sign", "signs_of", "one_deeper", "read_saying", "expression_of_rank", "shown_expression", "saying_of_rank", "shown_fact", "shown_saying", "_law_cell", "_law_purse", "_law_next", "_law_family", "_law_any_names", "_law_words", "_law_leaf", "_law_expression", "_law_fact", "_law_saying", "_law_level", "_law_saying_level", "_law_tokens", "_law_fact_tokens", "_law_saying_tokens", "_law_sort", "_law_spaced", "_law_same", "law"]
def xa6:List String:= []
def qbn:List String:= []
def xbo:List String:= []
noncomputable def obL:ObT:=⟨[("Reader", "names"),("Reader", "signs"),("Reader", "place")],[("Reader", "here", "Reader.here"),("Reader", "take", "Reader.take"),("Reader", "take_just", "Reader.take_just"),("Reader", "saying", "Reader.saying"),("Reader", "part", "Reader.part"),("Reader", "unit", "Reader.unit"),("Reader", "fact", "Reader.fact"),("Reader", "count_fact", "Reader.count_fact"),("Reader", "limit", "Reader.limit"),("Reader", "pair_fact", "Reader.pair_fact"),("Reader", "expression", "Reader.expression"),("Reader", "term", "Reader.term"),("Reader", "factor", "Reader.factor"),("Reader", "atom", "Reader.atom")],[("Reader", "Reader.__init__")],["Reader.__init__", "Reader.here", "Reader.take", "Reader.take_just", "Reader.saying", "Reader.part", "Reader.unit", "Reader.fact", "Reader.count_fact", "Reader.limit", "Reader.pair_fact", "Reader.expression", "Reader.term", "Reader.factor", "Reader.atom"]⟩
abbrev CF (s:Stmt) (N:List Str):Cf:=⟨Wb s,N,fnsL,xa6,qbn,xbo,obL⟩
abbrev XF:Stmt:=top 48
abbrev jbQ:List Str:= ["_law_script", "_law_words_here", "_law_k", "_law_purse_here", "_law_saying_here", "_law_text"]
theorem jbL:xq jbQ ["_law_script"] (Wb XF):=by constructor<;>first | rfl | decide +kernel
theorem xci:chkSs (CF XF jbQ) M.d_law.body (Jf XF)=true:=by decide +kernel
structure FP (K:Aa5) (n:Str) (s:Stmt) (f:Addr) (oc:Value) (od an:Option Addr) (sl:Array (Option Value)) (kV dc pm cd ct:Value):Prop where
 a:PySem.W.nsIn K mainGlobals n=y0 (y0 (.ref f))
 l:K.lookup f=y0 ⟨oc,od,.func (Ag1 n n (Xl s) (Jf s) (Wb s) .none kV dc pm an cd ct),sl⟩
 c:Ai7 K cd n=v9
 k:Ad8 K (.ref f)=v9
structure MP (K:Aa5) (C:Addr) (m n:Str) (s:Stmt) (f:Addr) (oc:Value) (od an:Option Addr) (sl:Array (Option Value)) (kV dc pm cd ct:Value):Prop where
 a:Ah K (.ref C) m=y0 (y0 (.ref f))
 i:Al4 K (.ref f)=v9
 l:K.lookup f=y0 ⟨oc,od,.func (Ag1 m n (Xl s) (Jf s) (Wb s) .none kV dc pm an cd ct),sl⟩
 c:Ai7 K cd n=v9
 k:Ad8 K (.ref f)=v9
theorem ar1 {us:List Value}(h:us.length=1): ∃a0,us= [a0]:=by
 rcases us with _ | ⟨_,_ | ⟨_,_⟩⟩<;>first | exact⟨_,rfl⟩ | (simp at h)
theorem ar2 {us:List Value}(h:us.length=2): ∃a0 a1,us= [a0,a1]:=by
 rcases us with _ | ⟨_,_ | ⟨_,_ | ⟨_,_⟩⟩⟩<;>first | exact⟨_,_,rfl⟩ | (simp at h)
theorem ar3 {us:List Value}(h:us.length=3): ∃a0 a1 a2,us= [a0,a1,a2]:=by
 rcases us with _ | ⟨_,_ | ⟨_,_ | ⟨_,_ | ⟨_,_⟩⟩⟩⟩<;>first | exact⟨_,_,_,rfl⟩ | (simp at h)
theorem mkf {K:Aa5}{mg:Str->Option Value}{h:Heap}(X:K.In h) (G:h.Ns mainGlobals mg){f:String}{st:Stmt}{fa:Addr}{oc:Value}{od an:Option Addr}{sl:Array (Option Value)}{kV dc pm cd ct:Value}(p:FP K (Ze f) st fa oc od an sl kV dc pm cd ct) (N ps:List Str) (d:M.Fn) (hd:M.prog.fns.lookup f=y0 d) (sc:xq N ps (Wb st):=by constructor<;>first | rfl | decide +kernel) (ck:chkSs (CF st N) d.body (Jf st)=true:=by decide +kernel) (n:N.length=d.n:=by rfl) (q:ps.length=d.ps:=by rfl) (le:d.ps<=d.n:=by decide) (hb: ∀(kV doc pm:Value) (an:Option Addr) (cdv ct:Value) (us:List Value),us.length=ps.length->bindArgs (Ag1 (Ze f) (Ze f) (Xl st) (Jf st) (Wb st) .none kV doc pm an cdv ct) ⟨us,[]⟩=pure (ps.zip us):=by intro _ _ _ _ _ _ us hl;first | (obtain ⟨_,rfl⟩:=ar1 hl;rfl) | (obtain ⟨_,_,rfl⟩:=ar2 hl;rfl) | (obtain ⟨_,_,_,rfl⟩:=ar3 hl;rfl)): ∃d,M.prog.fns.lookup f=y0 d/\ ∃t:Txt K mg f,JO t d fnsL xa6 qbn xbo obL/\Ad8 K (.ref t.fa)=v9/\mg (Ze f)=y0 (.ref t.fa):=
 have F:=qae (st:=st) p.l p.c p.k
 ⟨d,hd,⟨st,fa,_,N,ps⟩,⟨⟨_,_,F⟩,F.binds hb,sc,n,q,le,ck⟩,p.k,Ad9 X G p.a⟩
theorem mkm {K:Aa5}{mg:Str->Option Value}{C:Addr}{m f:String}{st:Stmt}{fa:Addr}{oc:Value}{od an:Option Addr}{sl:Array (Option Value)}{kV dc pm cd ct:Value}(p:MP K C (Ze m) (Ze f) st fa oc od an sl kV dc pm cd ct) (N ps:List Str) (d:M.Fn) (hd:M.prog.fns.lookup f=y0 d){z:Addr}(hz:fa=z) (sc:xq N ps (Wb st):=by constructor<;>first | rfl | decide +kernel) (ck:chkSs (CF st N) d.body (Jf st)=true:=by decide +kernel) (n:N.length=d.n:=by rfl) (q:ps.length=d.ps:=by rfl) (le:d.ps<=d.n:=by decide) (hb: ∀(kV doc pm:Value) (an:Option Addr) (cdv ct:Value) (us:List Value),us.length=ps.length->bindArgs (Ag1 (Ze m) (Ze f) (Xl st) (Jf st) (Wb st) .none kV doc pm an cdv ct) ⟨us,[]⟩=pure (ps.zip us):=by intro _ _ _ _ _ _ us hl;first | (obtain ⟨_,rfl⟩:=ar1 hl;rfl) | (obtain ⟨_,_,rfl⟩:=ar2 hl;rfl) | (obtain ⟨_,_,_,rfl⟩:=ar3 hl;rfl)): ∃d,M.prog.fns.lookup f=y0 d/\ ∃t:Txt K mg f,JO t d fnsL xa6 qbn xbo obL/\t.fa=z:=
 have F:=qae (st:=st) p.l p.c p.k
 ⟨d,hd,⟨st,fa,_,N,ps⟩,⟨⟨_,_,F⟩,F.binds hb,sc,n,q,le,ck⟩,hz⟩
theorem jaY {α:Type}: ∀ {l:List (String×α)}{x:String}{d:α},l.lookup x=y0 d->(x,d)∈l
 | (k,v)::l,x,d,h=>by
  rw [Ab7]at h
  by_cases q:(x==k)=v9
  ·rw [q]at h;cases h;rw [eq_of_beq q];exact Aa8
  ·rw [eq_false_of_ne_true q]at h;exact Aa7 _ (jaY h)
theorem all_mk {l:PySem.W.OpenLaw}{w:World}{K:PySem.W.Frag}{h:Heap}{mg:Str->Option Value}{fa:Addr}(X:K.In h) (G:h.Ns mainGlobals mg) (hfa:mg "law" =some (.ref fa))
 {f0 f1 f2 f3 f4 f5 f6 f7 f8 f9 f10 f11 f12 f13 f14 f15 f16 f17 f18 f19 f20 f21 f22 f23 f24 f25 f26 f27 f28 O0 g0 g1 g2 g3 g4 g5 g6 g7 g8 g9 g10 g11 g12 g13 g14:Addr}
 (p0:FP K "is_written" (top 5) f0 oc0 od0 an0 sl0 kV0 dc0 pm0 cd0 ct0)
 (p1:FP K "sort_of_sign" (top 12) f1 oc1 od1 an1 sl1 kV1 dc1 pm1 cd1 ct1)
 (p2:FP K "signs_of" (top 13) f2 oc2 od2 an2 sl2 kV2 dc2 pm2 cd2 ct2)
 (p3:FP K "one_deeper" (top 14) f3 oc3 od3 an3 sl3 kV3 dc3 pm3 cd3 ct3)
 (p4:FP K "read_saying" (top 16) f4 oc4 od4 an4 sl4 kV4 dc4 pm4 cd4 ct4)
 (p5:FP K "expression_of_rank" (top 24) f5 oc5 od5 an5 sl5 kV5 dc5 pm5 cd5 ct5)
 (p6:FP K "shown_expression" (top 25) f6 oc6 od6 an6 sl6 kV6 dc6 pm6 cd6 ct6)
 (p7:FP K "saying_of_rank" (top 26) f7 oc7 od7 an7 sl7 kV7 dc7 pm7 cd7 ct7)
 (p8:FP K "shown_fact" (top 27) f8 oc8 od8 an8 sl8 kV8 dc8 pm8 cd8 ct8)
 (p9:FP K "shown_saying" (top 28) f9 oc9 od9 an9 sl9 kV9 dc9 pm9 cd9 ct9)
 (p10:FP K "_law_cell" (top 30) f10 oc10 od10 an10 sl10 kV10 dc10 pm10 cd10 ct10)
 (p11:FP K "_law_purse" (top 31) f11 oc11 od11 an11 sl11 kV11 dc11 pm11 cd11 ct11)
 (p12:FP K "_law_next" (top 32) f12 oc12 od12 an12 sl12 kV12 dc12 pm12 cd12 ct12)
 (p13:FP K "_law_family" (top 33) f13 oc13 od13 an13 sl13 kV13 dc13 pm13 cd13 ct13)
 (p14:FP K "_law_any_names" (top 34) f14 oc14 od14 an14 sl14 kV14 dc14 pm14 cd14 ct14)
 (p15:FP K "_law_words" (top 35) f15 oc15 od15 an15 sl15 kV15 dc15 pm15 cd15 ct15)
 (p16:FP K "_law_leaf" (top 36) f16 oc16 od16 an16 sl16 kV16 dc16 pm16 cd16 ct16)
 (p17:FP K "_law_expression" (top 37) f17 oc17 od17 an17 sl17 kV17 dc17 pm17 cd17 ct17)
 (p18:FP K "_law_fact" (top 38) f18 oc18 od18 an18 sl18 kV18 dc18 pm18 cd18 ct18)
 (p19:FP K "_law_saying" (top 39) f19 oc19 od19 an19 sl19 kV19 dc19 pm19 cd19 ct19)
 (p20:FP K "_law_level" (top 40) f20 oc20 od20 an20 sl20 kV20 dc20 pm20 cd20 ct20)
 (p21:FP K "_law_saying_level" (top 41) f21 oc21 od21 an21 sl21 kV21 dc21 pm21 cd21 ct21)
 (p22:FP K "_law_tokens" (top 42) f22 oc22 od22 an22 sl22 kV22 dc22 pm22 cd22 ct22)
 (p23:FP K "_law_fact_tokens" (top 43) f23 oc23 od23 an23 sl23 kV23 dc23 pm23 cd23 ct23)
 (p24:FP K "_law_saying_tokens" (top 44) f24 oc24 od24 an24 sl24 kV24 dc24 pm24 cd24 ct24)
 (p25:FP K "_law_sort" (top 45) f25 oc25 od25 an25 sl25 kV25 dc25 pm25 cd25 ct25)
 (p26:FP K "_law_spaced" (top 46) f26 oc26 od26 an26 sl26 kV26 dc26 pm26 cd26 ct26)
 (p27:FP K "_law_same" (top 47) f27 oc27 od27 an27 sl27 kV27 dc27 pm27 cd27 ct27)
 (p28:FP K "law" XF f28 oc28 od28 an28 sl28 kV28 dc28 pm28 cd28 ct28)
 (yn0:PySem.W.nsIn K mainGlobals "Reader" =some (some (.ref O0)))
 (ypg0:Ah9 K O0 Str.empty=v9)
 (yhd0:Al2 K O0=v9)
 (ypo0:PySem.W.plainOver K O0=v9)
 (ysa0:PySem.W.findIn K (.ref O0) "__setattr__" =some (some (.builtin "object.__setattr__")))
 (ymk0:Al8 K O0=v9)
 (ykp0:Ad8 K (.ref O0)=v9)
 (q0:MP K O0 "__init__" "Reader.__init__" (jf (top 15) 0) g0 qoc0 qod0 qan0 qsl0 qkV0 qdc0 qpm0 qcd0 qct0)
 (q1:MP K O0 "here" "Reader.here" (jf (top 15) 1) g1 qoc1 qod1 qan1 qsl1 qkV1 qdc1 qpm1 qcd1 qct1)
 (q2:MP K O0 "take" "Reader.take" (jf (top 15) 2) g2 qoc2 qod2 qan2 qsl2 qkV2 qdc2 qpm2 qcd2 qct2)
 (q3:MP K O0 "take_just" "Reader.take_just" (jf (top 15) 3) g3 qoc3 qod3 qan3 qsl3 qkV3 qdc3 qpm3 qcd3 qct3)
 (q4:MP K O0 "saying" "Reader.saying" (jf (top 15) 4) g4 qoc4 qod4 qan4 qsl4 qkV4 qdc4 qpm4 qcd4 qct4)
 (q5:MP K O0 "part" "Reader.part" (jf (top 15) 5) g5 qoc5 qod5 qan5 qsl5 qkV5 qdc5 qpm5 qcd5 qct5)
 (q6:MP K O0 "unit" "Reader.unit" (jf (top 15) 6) g6 qoc6 qod6 qan6 qsl6 qkV6 qdc6 qpm6 qcd6 qct6)
 (q7:MP K O0 "fact" "Reader.fact" (jf (top 15) 7) g7 qoc7 qod7 qan7 qsl7 qkV7 qdc7 qpm7 qcd7 qct7)
 (q8:MP K O0 "count_fact" "Reader.count_fact" (jf (top 15) 8) g8 qoc8 qod8 qan8 qsl8 qkV8 qdc8 qpm8 qcd8 qct8)
 (q9:MP K O0 "limit" "Reader.limit" (jf (top 15) 9) g9 qoc9 qod9 qan9 qsl9 qkV9 qdc9 qpm9 qcd9 qct9)
 (q10:MP K O0 "pair_fact" "Reader.pair_fact" (jf (top 15) 10) g10 qoc10 qod10 qan10 qsl10 qkV10 qdc10 qpm10 qcd10 qct10)
 (q11:MP K O0 "expression" "Reader.expression" (jf (top 15) 11) g11 qoc11 qod11 qan11 qsl11 qkV11 qdc11 qpm11 qcd11 qct11)
 (q12:MP K O0 "term" "Reader.term" (jf (top 15) 12) g12 qoc12 qod12 qan12 qsl12 qkV12 qdc12 qpm12 qcd12 qct12)
 (q13:MP K O0 "factor" "Reader.factor" (jf (top 15) 13) g13 qoc13 qod13 qan13 qsl13 qkV13 qdc13 qpm13 qcd13 qct13)
 (q14:MP K O0 "atom" "Reader.atom" (jf (top 15) 14) g14 qoc14 qod14 qan14 qsl14 qkV14 qdc14 qpm14 qcd14 qct14)
 (v0:PySem.W.findIn K (.ref O0) "names" =some none)
 (v1:PySem.W.findIn K (.ref O0) "signs" =some none)
 (v2:PySem.W.findIn K (.ref O0) "place" =some none)
 (z0:PySem.W.nsIn K mainGlobals "len" =some none)
 (z1:PySem.W.nsIn K mainGlobals "int" =some none)
 (z2:PySem.W.nsIn K mainGlobals "list" =some none)
 (z3:PySem.W.nsIn K mainGlobals "tuple" =some none)
 (z4:PySem.W.nsIn K mainGlobals "sum" =some none)
 (z5:PySem.W.nsIn K mainGlobals "all" =some none)
 (z6:PySem.W.nsIn K mainGlobals "any" =some none)
 (z7:PySem.W.nsIn K mainGlobals "sorted" =some none)
 (z8:PySem.W.nsIn K mainGlobals "divmod" =some none)
 (z9:PySem.W.nsIn K mainGlobals "str" =some none)
 (z10:PySem.W.nsIn K mainGlobals "min" =some none)
 (z11:PySem.W.nsIn K mainGlobals "max" =some none)
 (z12:PySem.W.nsIn K mainGlobals "abs" =some none)
 (z13:PySem.W.nsIn K mainGlobals "isinstance" =some none)
 (z14:PySem.W.nsIn K mainGlobals "bool" =some none)
 (z15:PySem.W.nsIn K mainGlobals "range" =some none)
 (z16:PySem.W.nsIn K mainGlobals "reversed" =some none)
 (z17:PySem.W.nsIn K mainGlobals "zip" =some none)
 (z18:PySem.W.nsIn K mainGlobals "enumerate" =some none)
 (z19:PySem.W.nsIn K mainGlobals "set" =some none)
 (z20:PySem.W.nsIn K mainGlobals "ValueError" =some none)
 {ck0:Tok}(cn0:PySem.W.nsIn K mainGlobals "FIGURES" =some (some (.str "0123456789" ck0)))
 {ck1:Tok}(cn1:PySem.W.nsIn K mainGlobals "LETTERS" =some (some (.str "abcdefghijklmnopqrstuvwxyz" ck1)))
 {ck2:Tok}(cn2:PySem.W.nsIn K mainGlobals "SINGLE_SIGNS" =some (some (.str "+-&.~^()[]=" ck2)))
 {ck3:Tok}(cn3:PySem.W.nsIn K mainGlobals "MOST_WITHIN" =some (some (.int 20 ck3)))
 {ck4:Tok}(cn4:PySem.W.nsIn K mainGlobals "MOST_FIGURES" =some (some (.int 2 ck4)))
 {ka5:Addr}(cn5:PySem.W.nsIn K mainGlobals "SORTS" =some (some (.ref ka5)))
 {ch5_0 ch5_1 ch5_2 ch5_3 ch5_4 ch5_5:Int}{ck5_0 cv5_0 ck5_1 cv5_1 ck5_2 cv5_2 ck5_3 cv5_3 ck5_4 cv5_4 ck5_5 cv5_5:Tok}{cm5:Nat}(cl5:K.lookup ka5=some ⟨.type "dict",none,.dict #[⟨ch5_0,.str "+" ck5_0,.str "plus" cv5_0⟩,⟨ch5_1,.str "-" ck5_1,.str "less" cv5_1⟩,⟨ch5_2,.str "~" ck5_2,.str "turned" cv5_2⟩,⟨ch5_3,.str "^" ck5_3,.str "closed" cv5_3⟩,⟨ch5_4,.str "in" ck5_4,.str "in" cv5_4⟩,⟨ch5_5,.str "=" ck5_5,.str "equal" cv5_5⟩] cm5, #[]⟩)
 (cy5:(ka5==sysModules)=u9)
 {ck6:Tok}(cn6:PySem.W.nsIn K mainGlobals "ATOM_RANK" =some (some (.int 4 ck6)))
 {ka7:Addr}(cn7:PySem.W.nsIn K mainGlobals "EXPRESSION_RANKS" =some (some (.ref ka7)))
 {ch7_0 ch7_1 ch7_2 ch7_3:Int}{ck7_0 cv7_0 ck7_1 cv7_1 ck7_2 cv7_2 ck7_3 cv7_3:Tok}{cm7:Nat}(cl7:K.lookup ka7=some ⟨.type "dict",none,.dict #[⟨ch7_0,.str "plus" ck7_0,.int 1 cv7_0⟩,⟨ch7_1,.str "less" ck7_1,.int 1 cv7_1⟩,⟨ch7_2,.str "both" ck7_2,.int 2 cv7_2⟩,⟨ch7_3,.str "joined" ck7_3,.int 3 cv7_3⟩] cm7, #[]⟩)
 (cy7:(ka7==sysModules)=u9)
 {ka8:Addr}(cn8:PySem.W.nsIn K mainGlobals "SIGNS" =some (some (.ref ka8)))
 {ch8_0 ch8_1 ch8_2 ch8_3 ch8_4 ch8_5:Int}{ck8_0 cv8_0 ck8_1 cv8_1 ck8_2 cv8_2 ck8_3 cv8_3 ck8_4 cv8_4 ck8_5 cv8_5:Tok}{cm8:Nat}(cl8:K.lookup ka8=some ⟨.type "dict",none,.dict #[⟨ch8_0,.str "plus" ck8_0,.str "+" cv8_0⟩,⟨ch8_1,.str "less" ck8_1,.str "-" cv8_1⟩,⟨ch8_2,.str "both" ck8_2,.str "&" cv8_2⟩,⟨ch8_3,.str "joined" ck8_3,.str "." cv8_3⟩,⟨ch8_4,.str "turned" ck8_4,.str "~" cv8_4⟩,⟨ch8_5,.str "closed" ck8_5,.str "^" cv8_5⟩] cm8, #[]⟩)
 (cy8:(ka8==sysModules)=u9)
 {ck9:Tok}(cn9:PySem.W.nsIn K mainGlobals "UNIT_RANK" =some (some (.int 3 ck9)))
 {ka10:Addr}(cn10:PySem.W.nsIn K mainGlobals "SAYING_RANKS" =some (some (.ref ka10)))
 {ch10_0 ch10_1:Int}{ck10_0 cv10_0 ck10_1 cv10_1:Tok}{cm10:Nat}(cl10:K.lookup ka10=some ⟨.type "dict",none,.dict #[⟨ch10_0,.str "or" ck10_0,.int 1 cv10_0⟩,⟨ch10_1,.str "and" ck10_1,.int 2 cv10_1⟩] cm10, #[]⟩)
 (cy10:(ka10==sysModules)=u9)
 {ka11:Addr}(cn11:PySem.W.nsIn K mainGlobals "WORDS" =some (some (.ref ka11)))
 {ch11_0 ch11_1 ch11_2 ch11_3 ch11_4 ch11_5 ch11_6 ch11_7:Int}{ck11_0 cv11_0 ck11_1 cv11_1 ck11_2 cv11_2 ck11_3 cv11_3 ck11_4 cv11_4 ck11_5 cv11_5 ck11_6 cv11_6 ck11_7 cv11_7:Tok}{cm11:Nat}(cl11:K.lookup ka11=some ⟨.type "dict",none,.dict #[⟨ch11_0,.str "in" ck11_0,.str "in" cv11_0⟩,⟨ch11_1,.str "equal" ck11_1,.str "=" cv11_1⟩,⟨ch11_2,.str "some" ck11_2,.str "some" cv11_2⟩,⟨ch11_3,.str "no" ck11_3,.str "no" cv11_3⟩,⟨ch11_4,.str "least" ck11_4,.str "least" cv11_4⟩,⟨ch11_5,.str "most" ck11_5,.str "most" cv11_5⟩,⟨ch11_6,.str "eachleast" ck11_6,.str "each least" cv11_6⟩,⟨ch11_7,.str "eachmost" ck11_7,.str "each most" cv11_7⟩] cm11, #[]⟩)
 (cy11:(ka11==sysModules)=u9)
 : ∃fd:FuncData,(∀ (s:Shared) (v:Value),BindsTo s fd ⟨[v],[]⟩ [("_law_script",v)])/\ ∀base:Heap,K.In base->base.Ns mainGlobals mg->FnOk l.prog w K mg base CX0 (2*80) fa fd ["_law_script"] (za8 K):=by
 have e:=hfa.symm.trans (Ad9 X G p28.a)
 cases e
 let Γ:Ge:=⟨K,fun c=>([("Reader",O0)].lookup c).getD 0,M.prog.cl,xa6,fun c=>([("Reader.__init__",g0),("Reader.here",g1),("Reader.take",g2),("Reader.take_just",g3),("Reader.saying",g4),("Reader.part",g5),("Reader.unit",g6),("Reader.fact",g7),("Reader.count_fact",g8),("Reader.limit",g9),("Reader.pair_fact",g10),("Reader.expression",g11),("Reader.term",g12),("Reader.factor",g13),("Reader.atom",g14)].lookup c).getD 0⟩
 have pr:jch Γ M.prog mg xa6 qbn xbo obL:=by
  refine⟨rfl,rfl,?_,?_,?_,?_,?_,?_,?_,?_⟩
  ·intro x hx
   simp only [bltN,Aa,Aa2,or_false]at hx
   rcases hx with rfl | rfl | rfl | rfl | rfl | rfl | rfl | rfl | rfl | rfl | rfl | rfl | rfl | rfl | rfl | rfl | rfl | rfl | rfl | rfl | rfl
   ·exact Ab9 X G z0
   ·exact Ab9 X G z1
   ·exact Ab9 X G z2
   ·exact Ab9 X G z3
   ·exact Ab9 X G z4
   ·exact Ab9 X G z5
   ·exact Ab9 X G z6
   ·exact Ab9 X G z7
   ·exact Ab9 X G z8
   ·exact Ab9 X G z9
   ·exact Ab9 X G z10
   ·exact Ab9 X G z11
   ·exact Ab9 X G z12
   ·exact Ab9 X G z13
   ·exact Ab9 X G z14
   ·exact Ab9 X G z15
   ·exact Ab9 X G z16
   ·exact Ab9 X G z17
   ·exact Ab9 X G z18
   ·exact Ab9 X G z19
   ·exact Ab9 X G z20
  ·intro x d hd
   have hm:=jaY hd
   simp only [M.prog,Aa,Aa2,or_false,Prod.mk.injEq]at hm
   rcases hm with⟨rfl,rfl⟩ | ⟨rfl,rfl⟩ | ⟨rfl,rfl⟩ | ⟨rfl,rfl⟩ | ⟨rfl,rfl⟩ | ⟨rfl,rfl⟩ | ⟨rfl,rfl⟩ | ⟨rfl,rfl⟩ | ⟨rfl,rfl⟩ | ⟨rfl,rfl⟩ | ⟨rfl,rfl⟩ | ⟨rfl,rfl⟩
   ·exact⟨_,.str (txS [48,49,50,51,52,53,54,55,56,57]),Ad9 X G cn0,⟨_,rfl⟩,λ_ _=>rfl⟩
   ·exact⟨_,.str (txS [97,98,99,100,101,102,103,104,105,106,107,108,109,110,111,112,113,114,115,116,117,118,119,120,121,122]),Ad9 X G cn1,⟨_,rfl⟩,λ_ _=>rfl⟩
   ·exact⟨_,.str (txS [43,45,38,46,126,94,40,41,91,93,61]),Ad9 X G cn2,⟨_,rfl⟩,λ_ _=>rfl⟩
   ·exact⟨_,.int 20,Ad9 X G cn3,⟨_,rfl⟩,λ_ _=>rfl⟩
   ·exact⟨_,.int 2,Ad9 X G cn4,⟨_,rfl⟩,λ_ _=>rfl⟩
   ·exact⟨_,.ref ka5,Ad9 X G cn5,rfl,λ_ _=> .inr ⟨Ai3 _ _,ka5,rfl,by show JN K ka5 _;unfold JN KTD.tabLook;dsimp only;rw [cy5,cl5];rfl⟩⟩
   ·exact⟨_,.int 4,Ad9 X G cn6,⟨_,rfl⟩,λ_ _=>rfl⟩
   ·exact⟨_,.ref ka7,Ad9 X G cn7,rfl,λ_ _=> .inr ⟨Ai3 _ _,ka7,rfl,by show JN K ka7 _;unfold JN KTD.tabLook;dsimp only;rw [cy7,cl7];rfl⟩⟩
   ·exact⟨_,.ref ka8,Ad9 X G cn8,rfl,λ_ _=> .inr ⟨Ai3 _ _,ka8,rfl,by show JN K ka8 _;unfold JN KTD.tabLook;dsimp only;rw [cy8,cl8];rfl⟩⟩
   ·exact⟨_,.int 3,Ad9 X G cn9,⟨_,rfl⟩,λ_ _=>rfl⟩
   ·exact⟨_,.ref ka10,Ad9 X G cn10,rfl,λ_ _=> .inr ⟨Ai3 _ _,ka10,rfl,by show JN K ka10 _;unfold JN KTD.tabLook;dsimp only;rw [cy10,cl10];rfl⟩⟩
   ·exact⟨_,.ref ka11,Ad9 X G cn11,rfl,λ_ _=> .inr ⟨Ai3 _ _,ka11,rfl,by show JN K ka11 _;unfold JN KTD.tabLook;dsimp only;rw [cy11,cl11];rfl⟩⟩
  ·intro c hc
   simp only [xa6,Af,Aa,Aa2,or_false,decide_eq_true_eq]at hc
  ·intro c hc
   simp only [qbn,Af,Aa,Aa2,or_false,decide_eq_true_eq]at hc
  ·intro c hc
   simp only [xbo,Af,Aa,Aa2,or_false,decide_eq_true_eq]at hc
  ·intro c f hc
   simp only [obL,Af,Aa,Aa2,or_false,decide_eq_true_eq,Prod.mk.injEq]at hc
   rcases hc with⟨rfl,rfl⟩ | ⟨rfl,rfl⟩ | ⟨rfl,rfl⟩
   ·exact⟨⟨ypg0,yhd0,ypo0,ysa0⟩,v0⟩
   ·exact⟨⟨ypg0,yhd0,ypo0,ysa0⟩,v1⟩
   ·exact⟨⟨ypg0,yhd0,ypo0,ysa0⟩,v2⟩
  ·intro c m q hc
   simp only [obL,Af,Aa,Aa2,or_false,decide_eq_true_eq,Prod.mk.injEq]at hc
   rcases hc with⟨rfl,rfl,rfl⟩ | ⟨rfl,rfl,rfl⟩ | ⟨rfl,rfl,rfl⟩ | ⟨rfl,rfl,rfl⟩ | ⟨rfl,rfl,rfl⟩ | ⟨rfl,rfl,rfl⟩ | ⟨rfl,rfl,rfl⟩ | ⟨rfl,rfl,rfl⟩ | ⟨rfl,rfl,rfl⟩ | ⟨rfl,rfl,rfl⟩ | ⟨rfl,rfl,rfl⟩ | ⟨rfl,rfl,rfl⟩ | ⟨rfl,rfl,rfl⟩ | ⟨rfl,rfl,rfl⟩
   ·exact⟨⟨ypg0,yhd0,ypo0,ysa0⟩,rfl,⟨q1.a,q1.i,q1.k⟩⟩
   ·exact⟨⟨ypg0,yhd0,ypo0,ysa0⟩,rfl,⟨q2.a,q2.i,q2.k⟩⟩
   ·exact⟨⟨ypg0,yhd0,ypo0,ysa0⟩,rfl,⟨q3.a,q3.i,q3.k⟩⟩
   ·exact⟨⟨ypg0,yhd0,ypo0,ysa0⟩,rfl,⟨q4.a,q4.i,q4.k⟩⟩
   ·exact⟨⟨ypg0,yhd0,ypo0,ysa0⟩,rfl,⟨q5.a,q5.i,q5.k⟩⟩
   ·exact⟨⟨ypg0,yhd0,ypo0,ysa0⟩,rfl,⟨q6.a,q6.i,q6.k⟩⟩
   ·exact⟨⟨ypg0,yhd0,ypo0,ysa0⟩,rfl,⟨q7.a,q7.i,q7.k⟩⟩
   ·exact⟨⟨ypg0,yhd0,ypo0,ysa0⟩,rfl,⟨q8.a,q8.i,q8.k⟩⟩
   ·exact⟨⟨ypg0,yhd0,ypo0,ysa0⟩,rfl,⟨q9.a,q9.i,q9.k⟩⟩
   ·exact⟨⟨ypg0,yhd0,ypo0,ysa0⟩,rfl,⟨q10.a,q10.i,q10.k⟩⟩
   ·exact⟨⟨ypg0,yhd0,ypo0,ysa0⟩,rfl,⟨q11.a,q11.i,q11.k⟩⟩
   ·exact⟨⟨ypg0,yhd0,ypo0,ysa0⟩,rfl,⟨q12.a,q12.i,q12.k⟩⟩
   ·exact⟨⟨ypg0,yhd0,ypo0,ysa0⟩,rfl,⟨q13.a,q13.i,q13.k⟩⟩
   ·exact⟨⟨ypg0,yhd0,ypo0,ysa0⟩,rfl,⟨q14.a,q14.i,q14.k⟩⟩
  ·intro c q hc
   simp only [obL,Af,Aa,Aa2,or_false,decide_eq_true_eq,Prod.mk.injEq]at hc
   rcases hc with⟨rfl,rfl⟩
   ·exact⟨Ad9 X G yn0,rfl,⟨ymk0,q0.a,q0.i,ykp0⟩⟩
 have all: ∀f,fnsL.contains f=v9-> ∃d,M.prog.fns.lookup f=y0 d/\ ∃t:Txt Γ.K mg f,JO t d fnsL xa6 qbn xbo obL/\Ad8 Γ.K (.ref t.fa)=v9/\mg (Ze f)=y0 (.ref t.fa):=by
  intro f hf
  simp only [fnsL,Af,Aa,Aa2,or_false,decide_eq_true_eq]at hf
  rcases hf with rfl | rfl | rfl | rfl | rfl | rfl | rfl | rfl | rfl | rfl | rfl | rfl | rfl | rfl | rfl | rfl | rfl | rfl | rfl | rfl | rfl | rfl | rfl | rfl | rfl | rfl | rfl | rfl | rfl
  ·exact mkf X G p0 ["text", "most"] ["text", "most"] M.G9 rfl
  ·exact mkf X G p1 ["sign"] ["sign"] M.GN rfl
  ·exact mkf X G p2 ["text", "signs", "ahead", "sign", "sort"] ["text"] M.Kk rfl
  ·exact mkf X G p3 ["within"] ["within"] M.Kb rfl
  ·exact mkf X G p4 ["words", "text", "signs", "reader", "saying"] ["words", "text"] M.GL rfl
  ·exact mkf X G p5 ["expression", "least_rank", "text"] ["expression", "least_rank"] M.Gv rfl
  ·exact mkf X G p6 ["expression", "sort", "sign", "rank", "left", "right"] ["expression"] M.d_shown_expression rfl
  ·exact mkf X G p7 ["saying", "least_rank", "text"] ["saying", "least_rank"] M.GJ rfl
  ·exact mkf X G p8 ["fact", "word", "last", "first", "limit"] ["fact"] M.d_shown_fact rfl
  ·exact mkf X G p9 ["saying", "sort", "rank", "left", "right"] ["saying"] M.d_shown_saying rfl
  ·exact mkf X G p10 ["_law_script", "_law_k"] ["_law_script", "_law_k"] M.Km rfl
  ·exact mkf X G p11 ["_law_script", "_law_k", "_law_cell_here"] ["_law_script", "_law_k"] M.GW rfl
  ·exact mkf X G p12 ["_law_purse_here", "_law_many", "_law_answer", "_law_other"] ["_law_purse_here", "_law_many"] M.Ke rfl
  ·exact mkf X G p13 ["_law_cell_here", "_law_many", "_law_letters", "_law_first", "_law_near", "_law_stem", "_law_at"] ["_law_cell_here", "_law_many"] M.Kc rfl
  ·exact mkf X G p14 ["_law_script", "_law_kinds", "_law_ties", "_law_letters", "_law_taken", "_law_answer", "_law_purse_here", "_law_size", "_law_name", "_law_some"] ["_law_script", "_law_kinds", "_law_ties"] M.GG rfl
  ·exact mkf X G p15 ["_law_script", "_law_purse_here", "_law_kinds", "_law_ties", "_law_number", "_law_names"] ["_law_script"] M.GX rfl
  ·exact mkf X G p16 ["_law_purse_here", "_law_names", "_law_some"] ["_law_purse_here", "_law_names"] M.Kj rfl
  ·exact mkf X G p17 ["_law_purse_here", "_law_depth", "_law_names", "_law_style", "_law_one", "_law_other"] ["_law_purse_here", "_law_depth", "_law_names"] M.Gs rfl
  ·exact mkf X G p18 ["_law_purse_here", "_law_names", "_law_style", "_law_one", "_law_many"] ["_law_purse_here", "_law_names"] M.Kd rfl
  ·exact mkf X G p19 ["_law_purse_here", "_law_depth", "_law_names", "_law_style", "_law_one"] ["_law_purse_here", "_law_depth", "_law_names"] M.GD rfl
  ·exact mkf X G p20 ["_law_expression_here"] ["_law_expression_here"] M.Kq rfl
  ·exact mkf X G p21 ["_law_saying_here"] ["_law_saying_here"] M.GH rfl
  ·exact mkf X G p22 ["_law_expression_here", "_law_level_here", "_law_purse_here", "_law_word", "_law_signs", "_law_here"] ["_law_expression_here", "_law_level_here", "_law_purse_here"] M.Gx rfl
  ·exact mkf X G p23 ["_law_saying_here", "_law_purse_here", "_law_word", "_law_signs", "_law_last"] ["_law_saying_here", "_law_purse_here"] M.Gq rfl
  ·exact mkf X G p24 ["_law_saying_here", "_law_level_here", "_law_purse_here", "_law_word", "_law_here", "_law_signs"] ["_law_saying_here", "_law_level_here", "_law_purse_here"] M.GA rfl
  ·exact mkf X G p25 ["_law_sign", "_law_letters"] ["_law_sign"] M.Kl rfl
  ·exact mkf X G p26 ["_law_signs", "_law_purse_here", "_law_text", "_law_k", "_law_sign", "_law_gap"] ["_law_signs", "_law_purse_here"] M.G6 rfl
  ·exact mkf X G p27 ["_law_answer", "_law_due"] ["_law_answer", "_law_due"] M.GP rfl
  ·exact mkf X G p28 ["_law_script", "_law_words_here", "_law_k", "_law_purse_here", "_law_saying_here", "_law_text"] ["_law_script"] M.d_law rfl
 have allM: ∀q,obL.ms.contains q=v9-> ∃d,M.prog.fns.lookup q=y0 d/\ ∃t:Txt Γ.K mg q,JO t d fnsL xa6 qbn xbo obL/\t.fa=Γ.ma q:=by
  intro f hf
  simp only [obL,Af,Aa,Aa2,or_false,decide_eq_true_eq]at hf
  rcases hf with rfl | rfl | rfl | rfl | rfl | rfl | rfl | rfl | rfl | rfl | rfl | rfl | rfl | rfl | rfl
  ·exact mkm q0 ["self", "words", "signs"] ["self", "words", "signs"] M.GI rfl rfl
  ·exact mkm q1 ["self"] ["self"] M.GT rfl rfl
  ·exact mkm q2 ["self", "sign"] ["self"] M.GV rfl rfl
  ·exact mkm q3 ["self", "asked"] ["self", "asked"] M.GE rfl rfl
  ·exact mkm q4 ["self", "within", "left"] ["self", "within"] M.Ka rfl rfl
  ·exact mkm q5 ["self", "within", "left"] ["self", "within"] M.Kh rfl rfl
  ·exact mkm q6 ["self", "within", "saying"] ["self", "within"] M.GU rfl rfl
  ·exact mkm q7 ["self", "within", "sign"] ["self", "within"] M.GS rfl rfl
  ·exact mkm q8 ["self", "ahead", "within", "word", "limit"] ["self", "ahead", "within"] M.GC rfl rfl
  ·exact mkm q9 ["self", "figures"] ["self"] M.GO rfl rfl
  ·exact mkm q10 ["self", "within", "left", "sign"] ["self", "within"] M.GF rfl rfl
  ·exact mkm q11 ["self", "within", "left", "sort"] ["self", "within"] M.GB rfl rfl
  ·exact mkm q12 ["self", "within", "left"] ["self", "within"] M.Ki rfl rfl
  ·exact mkm q13 ["self", "within", "left"] ["self", "within"] M.G7 rfl rfl
  ·exact mkm q14 ["self", "within", "sign", "expression"] ["self", "within"] M.GR rfl rfl
 refine⟨PySem.W.fnOf "law" "law" (Xl XF) (Jf XF) (Wb XF) .none kV28 dc28 pm28 an28 cd28 ct28,fun s v=> .of_eq rfl,fun base _ _=> ?_⟩
 have F:=qae (st:=XF) p28.l p28.c p28.k
 have ao:=zb2 (P:=l.prog) (w:=w) (base:=base) pr all allM 79
 have z:FnOk l.prog w K mg base (CX1 l.prog w) (2*80) fa _ ["_law_script"] (spW Γ (M.call M.prog 80 "law")):=xbf (t:=⟨XF,fa,_,["_law_script", "_law_words_here", "_law_k", "_law_purse_here", "_law_saying_here", "_law_text"],["_law_script"]⟩) pr ⟨⟨_,_,F⟩,F.binds (fun _ _ _ _ _ _ us hl=>by obtain⟨_,rfl⟩:=ar1 hl;rfl),jbL,rfl,rfl,by decide,xci⟩ rfl 79 ao.1 ao.2
 exact zb3 (Γ:=Γ) z M.hlaw
end L2.MS
theorem PySem.W.Fast.tw6605583244983372462 : True := trivial
theorem PySem.W.Fast.tw16521333857836539434 : True := trivial
theorem PySem.W.Fast.tw14008881752732697271 : True := trivial
theorem PySem.W.Fast.tw16149684731901010620 : True := trivial
theorem PySem.W.Fast.tw10176423832114082273 : True := trivial
theorem PySem.W.Fast.tw3566431327900660403 : True := trivial
theorem PySem.W.Fast.tw10266475423755160296 : True := trivial
theorem PySem.W.Fast.tw16434207291187951310 : True := trivial
theorem PySem.W.Fast.tw483617900292730198 : True := trivial
theorem PySem.W.Fast.tw11299610199826836503 : True := trivial
theorem PySem.W.Fast.tw11641445839152236138 : True := trivial
theorem PySem.W.Fast.tw18053654992600489387 : True := trivial
theorem PySem.W.Fast.tw11056378807341213699 : True := trivial
theorem PySem.W.Fast.tw10452244487459072047 : True := trivial
theorem PySem.W.Fast.tw1397332763634575315 : True := trivial
theorem PySem.W.Fast.tw17890386196620170442 : True := trivial
theorem PySem.W.Fast.tw6885384156914871782 : True := trivial
theorem PySem.W.Fast.tw4389776120414146256 : True := trivial
theorem PySem.W.Fast.tw15622261781962439607 : True := trivial
theorem PySem.W.Fast.tw15218529005848041262 : True := trivial
theorem PySem.W.Fast.tw2298774321454039056 : True := trivial
theorem PySem.W.Fast.tw17586161288151014081 : True := trivial
theorem PySem.W.Fast.tw5118434965638946045 : True := trivial
theorem PySem.W.Fast.tw15260394597398191026 : True := trivial
theorem PySem.W.Fast.tw424116228995167984 : True := trivial
theorem PySem.W.Fast.tw5591594621689814364 : True := trivial
theorem PySem.W.Fast.tw17900339749215484406 : True := trivial
theorem PySem.W.Fast.tw16583797398063881718 : True := trivial
theorem PySem.W.Fast.tw2775580051911615419 : True := trivial
theorem PySem.W.Fast.tw17661030148810324721 : True := trivial
theorem PySem.W.Fast.tw6287279940249985308 : True := trivial
theorem PySem.W.Fast.tw6510081950058497030 : True := trivial
theorem PySem.W.Fast.tw8382237927521072642 : True := trivial
theorem PySem.W.Fast.tw2827834024680135011 : True := trivial
theorem PySem.W.Fast.tw5481332809803255939 : True := trivial
theorem PySem.W.Fast.tw16721343837125060873 : True := trivial
theorem PySem.W.Fast.tw15215186949836322582 : True := trivial
theorem PySem.W.Fast.tw6845247217760495122 : True := trivial
theorem PySem.W.Fast.tw220809421527193571 : True := trivial
theorem PySem.W.Fast.tw7628138006736819543 : True := trivial
theorem PySem.W.Fast.tw16158420936084481686 : True := trivial
theorem PySem.W.Fast.tw4976239737996899208 : True := trivial
theorem PySem.W.Fast.tw4869529734956970045 : True := trivial
theorem PySem.W.Fast.tw6344271988792332252 : True := trivial
theorem PySem.W.Fast.tw5308221030499964417 : True := trivial
theorem PySem.W.Fast.tw2134520636864423520 : True := trivial
theorem PySem.W.Fast.tw8041123208212822141 : True := trivial
theorem PySem.W.Fast.tw4096023247030696881 : True := trivial
theorem PySem.W.Fast.tw639442695625093377 : True := trivial
theorem PySem.W.Fast.tw17636670684989552411 : True := trivial
theorem PySem.W.Fast.tw16098760398829629764 : True := trivial
theorem PySem.W.Fast.tw8187866438844576408 : True := trivial
theorem PySem.W.Fast.tw13250956473671580982 : True := trivial
theorem PySem.W.Fast.tw11223979114503513830 : True := trivial
theorem PySem.W.Fast.tw12207733281321801604 : True := trivial
theorem PySem.W.Fast.tw10057908795774179861 : True := trivial
theorem PySem.W.Fast.tw1152756036540642650 : True := trivial
theorem PySem.W.Fast.tw1588710268320398226 : True := trivial
theorem PySem.W.Fast.tw11863422933906319974 : True := trivial
theorem PySem.W.Fast.tw364614389000403283 : True := trivial
theorem PySem.W.Fast.tw1002148736292665229 : True := trivial
theorem PySem.W.Fast.tw7873666767573803274 : True := trivial
theorem PySem.W.Fast.tw12875414872429009257 : True := trivial
theorem PySem.W.Fast.tw14791772197873557879 : True := trivial
theorem PySem.W.Fast.tw2040077210668097814 : True := trivial
theorem PySem.W.Fast.tw7905683996818862008 : True := trivial
theorem PySem.W.Fast.tw7711913358366133330 : True := trivial
theorem PySem.W.Fast.tw6627080293423596690 : True := trivial
theorem PySem.W.Fast.tw9637858205160976235 : True := trivial
theorem PySem.W.Fast.tw17544392973373682577 : True := trivial
theorem PySem.W.Fast.tw7560634512646556885 : True := trivial
theorem PySem.W.Fast.tw16319197316565256099 : True := trivial
theorem PySem.W.Fast.tw4095537819851538487 : True := trivial
theorem PySem.W.Fast.tw8397682762029689762 : True := trivial
theorem PySem.W.Fast.tw227793961681537623 : True := trivial
theorem PySem.W.Fast.tw13278374227118235402 : True := trivial
theorem PySem.W.Fast.tw13798172051322106050 : True := trivial
theorem PySem.W.Fast.tw15212642628623800981 : True := trivial
theorem PySem.W.Fast.tw18009560239622066263 : True := trivial
theorem PySem.W.Fast.tw225414604864695106 : True := trivial
theorem PySem.W.Fast.tw8998740805143963940 : True := trivial
theorem PySem.W.Fast.tw15786149910372196794 : True := trivial
theorem PySem.W.Fast.tw5669030439721564434 : True := trivial
theorem PySem.W.Fast.tw17629720613971155669 : True := trivial
theorem PySem.W.Fast.tw6089585403984685764 : True := trivial
theorem PySem.W.Fast.tw12751551221012571154 : True := trivial
theorem PySem.W.Fast.tw10371444573770420043 : True := trivial
theorem PySem.W.Fast.tw16942216529317781152 : True := trivial
theorem PySem.W.Fast.tw15329312728589001709 : True := trivial
theorem PySem.W.Fast.tw15664826695739613751 : True := trivial
theorem PySem.W.Fast.tw7318972639809659415 : True := trivial
theorem PySem.W.Fast.tw7850205753668890444 : True := trivial
theorem PySem.W.Fast.tw2866662046909794010 : True := trivial
theorem PySem.W.Fast.tw12356711223487527212 : True := trivial
theorem PySem.W.Fast.tw9420954287973355837 : True := trivial
theorem PySem.W.Fast.tw192954877642406683 : True := trivial
theorem PySem.W.Fast.tw3720284078964589194 : True := trivial
theorem PySem.W.Fast.tw16129744137374174678 : True := trivial
theorem PySem.W.Fast.tw13180926349718056288 : True := trivial
theorem PySem.W.Fast.tw4018503238663783032 : True := trivial
theorem PySem.W.Fast.tw2876635760838978842 : True := trivial
theorem PySem.W.Fast.tw18396735612668501131 : True := trivial
theorem PySem.W.Fast.tw16494123035614588870 : True := trivial
theorem PySem.W.Fast.tw4609330357056656507 : True := trivial
theorem PySem.W.Fast.tw3281648965554300521 : True := trivial
theorem PySem.W.Fast.tw18077075144113022565 : True := trivial
theorem PySem.W.Fast.tw693557151083979214 : True := trivial
theorem PySem.W.Fast.tw13816032017429903492 : True := trivial
theorem PySem.W.Fast.tw15484294157114777131 : True := trivial
theorem PySem.W.Fast.tw6589218927898255938 : True := trivial
theorem PySem.W.Fast.tw17818743297366683159 : True := trivial
theorem PySem.W.Fast.tw7877964049117200653 : True := trivial
theorem PySem.W.Fast.tw249967764912876145 : True := trivial
theorem PySem.W.Fast.tw10657553046142068573 : True := trivial
theorem PySem.W.Fast.tw9663797863651477602 : True := trivial
theorem PySem.W.Fast.tw7361680443552004014 : True := trivial
theorem PySem.W.Fast.tw10814758295504535768 : True := trivial
theorem PySem.W.Fast.tw1424453362155879574 : True := trivial
theorem PySem.W.Fast.tw15928521006753356990 : True := trivial
theorem PySem.W.Fast.tw3240899479112644387 : True := trivial
theorem PySem.W.Fast.tw9773770442268740988 : True := trivial
theorem PySem.W.Fast.tw3437036409821156800 : True := trivial
theorem PySem.W.Fast.tw15438701215996217906 : True := trivial
theorem PySem.W.Fast.tw5271785943101041837 : True := trivial
theorem PySem.W.Fast.tw17531671399278071423 : True := trivial
theorem PySem.W.Fast.tw17048605046320571361 : True := trivial
theorem PySem.W.Fast.tw16785752879078463162 : True := trivial
theorem PySem.W.Fast.tw12243995586932171852 : True := trivial
theorem PySem.W.Fast.tw15477605200342925008 : True := trivial
theorem PySem.W.Fast.tw789467962804260157 : True := trivial
theorem PySem.W.Fast.tw16367920991534208881 : True := trivial
theorem PySem.W.Fast.tw11113319194049255100 : True := trivial
theorem PySem.W.Fast.tw3290063430004904410 : True := trivial
theorem PySem.W.Fast.tw2640993431817592165 : True := trivial
theorem PySem.W.Fast.tw3477259338774907323 : True := trivial
theorem PySem.W.Fast.tw4859162453922502778 : True := trivial
theorem PySem.W.Fast.tw13017979212448684621 : True := trivial
theorem PySem.W.Fast.tw12623972167858970621 : True := trivial
open PySem PySem.W PyProof.Rows
set_option maxRecDepth 100000 in
set_option maxHeartbeats 0 in
theorem PySem.Challenge.cw_worldfind_k15_texts_read_holds : PySem.Challenge.rw_worldfind_k15_texts_read.Holds := by
 w_on;o_law;k_head;(case hw=>w_witness2)
 k_fill
 refine L2.MS.walk (l:=PySem.Challenge.rw_worldfind_k15_texts_read) (x:= "_law_script") (2*80) ⟨rfl,by decide,by decide⟩ rfl rfl (fun w h Y=>PySem.W.kIn_of Y) ?F
 case F=>
  intro w mg fa h KX G hmg
  refine' L2.MS.all_mk KX G hmg ?p0 ?p1 ?p2 ?p3 ?p4 ?p5 ?p6 ?p7 ?p8 ?p9 ?p10 ?p11 ?p12 ?p13 ?p14 ?p15 ?p16 ?p17 ?p18 ?p19 ?p20 ?p21 ?p22 ?p23 ?p24 ?p25 ?p26 ?p27 ?p28 ?yn0 ?ypg0 ?yhd0 ?ypo0 ?ysa0 ?ymk0 ?ykp0 ?q0 ?q1 ?q2 ?q3 ?q4 ?q5 ?q6 ?q7 ?q8 ?q9 ?q10 ?q11 ?q12 ?q13 ?q14 ?v0 ?v1 ?v2 ?z0 ?z1 ?z2 ?z3 ?z4 ?z5 ?z6 ?z7 ?z8 ?z9 ?z10 ?z11 ?z12 ?z13 ?z14 ?z15 ?z16 ?z17 ?z18 ?z19 ?z20 ?cn0 ?cn1 ?cn2 ?cn3 ?cn4 ?cn5 ?cl5 ?cy5 ?cn6 ?cn7 ?cl7 ?cy7 ?cn8 ?cl8 ?cy8 ?cn9 ?cn10 ?cl10 ?cy10 ?cn11 ?cl11 ?cy11
  (case p0 | p1 | p2 | p3 | p4 | p5 | p6 | p7 | p8 | p9 | p10 | p11 | p12 | p13 | p14 | p15 | p16 | p17 | p18 | p19 | p20 | p21 | p22 | p23 | p24 | p25 | p26 | p27 | p28=>constructor<;>k_is)
  (case yn0 | ypg0 | yhd0 | ypo0 | ysa0 | ymk0 | ykp0=>k_is)
  (case q0 | q1 | q2 | q3 | q4 | q5 | q6 | q7 | q8 | q9 | q10 | q11 | q12 | q13 | q14=>constructor<;>k_is)
  (case v0 | v1 | v2 | z0 | z1 | z2 | z3 | z4 | z5 | z6 | z7 | z8 | z9 | z10 | z11 | z12 | z13 | z14 | z15 | z16 | z17 | z18 | z19 | z20 | cn0 | cn1 | cn2 | cn3 | cn4 | cn5 | cl5=>k_is)
  (case cy5=>decide)
  (case cn6 | cn7 | cl7=>k_is)
  (case cy7=>decide)
  (case cn8 | cl8=>k_is)
  (case cy8=>decide)
  (case cn9 | cn10 | cl10=>k_is)
  (case cy10=>decide)
  (case cn11 | cl11=>k_is)
  (case cy11=>decide)
