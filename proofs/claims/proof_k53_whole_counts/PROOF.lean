import PyProof.Rows.All
import Wide.All
import OpenK.AllK
import Wide.FinOn
import Lean
import PyProof.EqAt
import PyProof.EqKinds
import PyProof.TupleCall
import PyProof.NeKinds
import PyProof.NsDelKeeps
import KE.KRevSl
import PyProof.StrWalks
import PyProof.ConsumeWalk
import PyProof.SumWalk
import PyProof.Rows.SortStr
import PyProof.SumWalkG
import PyProof.StrCalls2
import PyProof.StrLawsIdx
import PyProof.WalkInts
import PyProof.StrOps2
import PyProof.SliceStr2
import PyProof.Draws
import PyProof.EnumMake
import PyProof.Rows.SetFrom
import PyProof.SetRoads
import PyProof.WalksMore
import PyProof.ListRange
import PyProof.TupleOfSeq
import PyProof.TupleOfGen
import PyProof.Rows.SortShell
import PyProof.ZipIter
import PyProof.DictStraight
import PyProof.TupleKey
import PyProof.DictRoadsH
import PyProof.DictTruth
import PyProof.Rows.TupTab
import KE.KTabLook
import PyProof.FString
import PyProof.CallStr
import KE.KIntText
import PyProof.Rows.Range3
import PyProof.DictRoads
import PySem.Challenge.RW_worldfind_k53_whole_counts
set_option Elab.async false
set_option linter.all false
set_option maxRecDepth 100000
set_option compiler.extract_closed false
local macro_rules | `(tactic| omega) => `(tactic| lia)
set_option bootstrap.genMatcherCode false
noncomputable section
open List renaming length_map → Aa, range → Aa0, mem_cons_of_mem → Aa1, mem_cons_self → Aa3, getElem?_eq_getElem → Aa4, length_append → Aa8, map_cons → Aa9, size_toArray → Ab, replicate → Ab0, mem_append_right → Ab2, mem_range → Ab3, length_cons → Ab4, mem_cons → Ab7, mem_map → Ab9, not_mem_nil → Ac0, getD_eq_getElem?_getD → Ac1, getElem?_eq_some_iff → Ac2, mem_append_left → Ac5, map_append → Ac6, replicate_succ → Ac7, map_map → Ac8, lookup_cons → Ad, map_nil → Ad0, getElem?_map → Ad1, getElem?_set_ne → Ad3, getElem?_set_self → Ad5, map_congr_left → Ad6, all_eq_true → Ad7, mem_filter → Ad8, mem_singleton → Ad9, length_filter_le → Ae, append_nil → Ae0, mem_append → Ae1, length_set → Ae7, contains_iff_mem → Ae8, isEmpty_iff → Ae9, any_eq_true → Af, append_assoc → Af1, nil_append → Af3, length_singleton → Af4, length_replicate → Af5, sum_cons → Af7, getElem?_append_right → Af9, range_succ_eq_map → Ag, getElem?_append_left → Ag1, any_cons → Ag2, length_take → Ag4, eq_nil_of_length_eq_zero → Ag5, any_eq_false → Ah, nodup_cons → Ah3, filter_cons → Ah7, cons_append → Ah8, foldl_cons → Ai, all_cons → Ai4, contains_eq_mem → Ai5, nodup_range → Ai8, length_drop → Ai9, getElem_map → Aj, replicate_zero → Aj0, getElem_range → Aj2, nodup_append → Aj8, length_range → Aj9, flatten_cons → Ak, Nodup → Ak0, mem_of_getElem? → Ak4, map_eq_nil_iff → Ak6, length_zip → Ak7, filterMap_cons → Ak8, mem_replicate → Al4, map_id → Am4, getElem?_replicate → Am5, Pairwise → Am6, getElem_mem → Am7, ext_getElem → Am8, sum_append → An1, length_nil → An2, count_cons → An3, countP_map → An4, all_map → An5, length_pos_iff → An9, mem_filterMap → Ao3, filter_append → Ao4, pairwise_map → Ao7, take_length → Ap2
open PySem.Heap renaming get?_push_of_some → Aa2, lt_size → Ab5, get?_push_size → Ab8, size_push → Ag3, get?_update_self → Ai0, SameBut → Ai1, get?_update_other → Aj7, FlyingW → Al6, get?_update_ne → Ao
open Nat renaming le_refl → Aa5, lt_of_lt_of_le → Ab1, le_trans → Ac, ne_of_lt → Ac3, pow_le_pow_right → Ac9, mul_le_mul → Ae3, testBit_lt_two_pow → Af2, eq_of_testBit_eq → Af8, lt_succ_self → Ag7, zero_add → Ag8, testBit_or → Ag9, lt_irrefl → Ah1, zero_le → Ah2, le_succ → Ah6, mul_comm → Ai2, le_of_lt → Ai3, lt_pow_two_of_testBit → Ai7, pow_pos → Aj1, two_pow_pos → Aj4, not_lt_zero → Aj5, and_two_pow_sub_one_eq_mod → Ak3, add_assoc → Ak5, testBit_two_pow → Al, testBit_and → Al0, pow_add → Al1, min_eq_left → Al2, div_add_mod → Al3, succ_mul → Al8, ne_of_gt → Al9, add_comm → Am, not_lt → Am2, lt_succ_of_lt → Am3, zero_testBit → Am9, mul_le_mul_right → An7, lt_of_le_of_lt → Ao6, or_lt_two_pow → Ap, not_le → Ap0, mod_lt → Ap1
open PySem.W renaming Frag → Aa6, mg_none_of → Ac4, kitOne → Ad2, keepIn → Ae4, kia_one → Ae6, mg_of → Ag6, fnOf → Ah9, clsIn → Ak2, codeIn → Ak9, cellsFrom_some → Am1, kitCls → An, findIn → An0, subIn → An6, kitx_list → Ao0, instObj → Ao9
open Bool renaming and_eq_true → Aa7, false_ne_true → Ab6, eq_iff_iff → Ad4, false_eq_true → Ae2, true_and → Aj3, eq_false_iff → Ak1, false_and → Am0, not_true → Ao5, not_eq_true' → Ao8, noConfusion → Ap3
open Option renaming some → Ae5, bind_eq_some_iff → Af0, map_eq_some_iff → Ah0, bind_some → Ah5, isSome_iff_exists → Ai6, isSome_map → Ao2
open Int renaming toNat_natCast → Af6, eq_ofNat_of_zero_le → Aj6, fdiv_eq_ediv_of_nonneg → Al5
open Classical renaming choose_spec → Ag0, choose → Ah4, propDecidable → Al7
open Array renaming length_toList → An8, forIn_toList → Ao1
open Decidable renaming decide → v9
open Option renaming some → y0, none → u0
open Bool renaming true → k9, false → y9
namespace L2
open PySem PySem.Spec PyProof.Rows
abbrev qdK:=Sum Int Str
def zbc:qdK->Value->Bool
 | .inl k,v=>Value.isInt k v
 | .inr x,v=>Value.isStrOf x v
def qdk (w:World):qdK->Int
 | .inl k=>hashInt k
 | .inr x=>hashStr w x
def Zc: ∀ {k}{v},zbc k v=k9->(∃ i t,k=Sum.inl i/\v=Value.int i t)\/(∃ x t,k=Sum.inr x/\v=Value.str x t)
 | .inl i,v,h=>by
  obtain⟨t,e⟩:=Value.isInt_shape h
  exact .inl ⟨i,t,rfl,e⟩
 | .inr x,v,h=>by
  obtain⟨t,e⟩:=Value.isStrOf_shape h
  exact .inr ⟨x,t,rfl,e⟩
def qau (i) (t):zbc (.inl i) (.int i t)=true:=by simp [zbc,Value.isInt]
def jcg (a b):v9 ((Sum.inl a:qdK)=Sum.inl b)=(a==b):=by grind
def jcH (a b):v9 ((Sum.inr a:qdK)=Sum.inr b)=v9 (a=b):=by simp
def qcm (a) (b):v9 ((Sum.inl a:qdK)=Sum.inr b)=false:=decide_eq_false (λq=>nomatch q)
def qco (a) (b):v9 ((Sum.inr a:qdK)=Sum.inl b)=false:=decide_eq_false (λq=>nomatch q)
noncomputable def xD (prog:Program) (w:World):PySem.KeyKind prog w qdK where
 is:=zbc
 hash:=qdk w
 inj:=λv a b l f=>by
  rcases Zc l with⟨i,t,rfl,rfl⟩ | ⟨x,t,rfl,rfl⟩
  ·rcases Zc f with⟨j,u,rfl,e⟩ | ⟨y,u,rfl,e⟩
   ·injection e with c _;rw [c]
   ·exact nomatch e
  ·rcases Zc f with⟨j,u,rfl,e⟩ | ⟨y,u,rfl,e⟩
   ·exact nomatch e
   ·injection e with c _;rw [c]
 byValue:=λk v h=>by
  rcases Zc h with⟨i,t,rfl,rfl⟩ | ⟨x,t,rfl,rfl⟩<;>rfl
 pyHash:=λd h=>by
  rcases Zc d with⟨i,t,rfl,rfl⟩ | ⟨x,t,rfl,rfl⟩
  ·exact wpAny_pyHash_int h
  ·exact wpAny_pyHash_str h
 eqBool:=λg d h=>by
  rcases Zc g with⟨i,t,rfl,rfl⟩ | ⟨x,t,rfl,rfl⟩
  ·rcases Zc d with⟨j,u,rfl,rfl⟩ | ⟨y,u,rfl,rfl⟩
   ·rw [jcg]at h;exact wpAny_eqBool_int h
   ·rw [qcm]at h;exact SeqAt.EqAt.int_str i t y u _ _ _ _ h
  ·rcases Zc d with⟨j,u,rfl,rfl⟩ | ⟨y,u,rfl,rfl⟩
   ·rw [qco]at h;exact SeqAt.EqAt.str_int x t j u _ _ _ _ h
   ·rw [jcH]at h;exact wpAny_eqBool_str h
 «strs» :=λk x t v h=>by
  rcases Zc h with⟨i,u,rfl,e⟩ | ⟨y,u,rfl,e⟩
  ·exact nomatch e
  ·injection e with c _
   subst c
   cases v<;>rfl
def Ws (prog) (w) (i) (t):(xD prog w).is (.inl i) (.int i t)=true:=qau i t
inductive V where
 | non | bl (b:Bool) | int (i:Int) | str (x:Str) | byt (b:Array UInt8) | flt (b:UInt64) | ref (a:Addr) | ty (n:String)
 deriving DecidableEq
noncomputable def RelV:V->Value->Prop
 | .non,u=>u=Value.none
 | .bl b,u=>u=Value.bool b
 | .int i,u=> ∃t,u=Value.int i t
 | .str x,u=> ∃t,u=Value.str x t
 | .byt b,u=> ∃t,u=Value.bytes b t
 | .flt b,u=> ∃t,u=Value.float b t
 | .ref a,u=>u=Value.ref a
 | .ty n,u=>u=Value.type n
abbrev Vals:List V->List Value->Prop:=Paired RelV
theorem Vals.length (r:Vals xs us):xs.length=us.length:=Paired.length r
theorem Vals.get: ∀ {xs}{us}{i:Nat}{x},Vals xs us->xs[i]? =y0 x-> ∃u,us[i]? =y0 u/\RelV x u
 | _,_,_,_,.nil,e=>by simp at e
 | _,_,0,_,.cons r _,e=>by simp at e;subst e;exact⟨_,rfl,r⟩
 | _,_,i+1,x,.cons _ t,e=>by
  obtain⟨u,b,a⟩:=Vals.get t (by simpa using e)
  exact⟨u,by simpa using b,a⟩
theorem Vals.set (r:RelV x u): ∀ {xs}{a} i,Vals xs a->Vals (xs.set i x) (a.set i u)
 | _,_,_,.nil=> .nil
 | _,_,0,.cons _ t=> .cons r t
 | _,_,i+1,.cons q t=> .cons q (Vals.set r i t)
theorem Vals.append: ∀ {xs ys}{a ws},Vals xs a->Vals ys ws->Vals (xs++ys) (a++ws)
 | _,_,_,_,.nil,s=>s
 | _,_,_,_,.cons r t,s=> .cons r (Vals.append t s)
theorem Vals.take: ∀ {xs}{a}(n),Vals xs a->Vals (xs.take n) (a.take n)
 | _,_,0,_=> .nil
 | _,_,_+1,.nil=> .nil
 | _,_,n+1,.cons r t=> .cons r (Vals.take n t)
theorem Vals.drop: ∀ {xs}{a}(n),Vals xs a->Vals (xs.drop n) (a.drop n)
 | _,_,0,r=>r
 | _,_,_+1,.nil=> .nil
 | _,_,n+1,.cons _ t=>Vals.drop n t
def RelO:Option V->Option Value->Prop
 | some v,y0 u=>RelV v u
 | none,none=>True
 | _,_=>False
def KV {a:Type}:List (a×V)->List (a×Value)->Prop:=Paired λ(p:a×V) (q:a×Value)=>p.1=q.1/\RelV p.2 q.2
def kV:qdK->V
 | .inl i=> .int i
 | .inr x=> .str x
inductive HO where
 | lst (xs:List V)
 | tup (xs:List V)
 | dK (kvs:List (qdK×V)) | dT (kvs:List (List qdK×V))
 | set (S:Int->Bool) (n:Nat)
 | ins (C dx:Addr) (fs:List (Str×V))
 | own (x:Addr)
 | xd (fs:List (Str×V))
 | met (f x:Addr)
 | rng (lo hi:Int)
 | frz (o:Obj) (u:HO)
 | tbl (ps:Array Value)
 | ext (φ:Heap->Prop)
abbrev Hp:=Addr->Option HO
def jd7 (H:Hp) (a:Addr) (o:HO):Hp:=λb=>if b=a then y0 o else H b
def xb :jd7 H a o a=y0 o:=by unfold jd7;rw [if_pos rfl]
def qa (h:b≠a):jd7 H a o b=H b:=by unfold jd7;rw [if_neg h]
def Xa {H:Hp}(h:H a=y0 o) (h':H b=u0):a≠b:=by
 intro e;subst e;rw [h]at h';cases h'
noncomputable def PTup (h:Heap) (a:Addr) (b:Array Value):Prop:= ∃o,h.get? a=some o/\o.cls= .type "tuple" /\o.dict=none/\ ∃n,o.data= .seq b n
def PTup.is (p:PTup h a y8):IsTup h a y8:=let ⟨o,e,c,_,n,d⟩:=p; ⟨o,e,c,n,d⟩
theorem PTup.lt (p:PTup h a y8):a<h.objs.size:=p.is.lt
def PTup.new (h:Heap) (y8):PTup (h.push { cls:= .type "tuple",data:= .seq y8 }) h.objs.size y8:=⟨_,Heap.get?_push_size _ rfl,rfl,rfl,_,rfl⟩
section
variable (P:Program) (w:World)
noncomputable def ObjOk (H:Hp) (h:Heap) (a:Addr):HO->Prop
 | .lst xs=>xs.length<=sizeLine/\ ∃(c:List Value) (n:Nat),Vals xs c/\h.get? a=y0 { cls:= .type "list",data:= .seq c.toArray n }
 | .tup xs=>xs.length<=sizeLine/\ ∃c:List Value,Vals xs c/\PTup h a c.toArray
 | .dK b=>b.length<=sizeLine/\(a==sysModules)=y9/\ ∃e,KV b e/\h.DictOf (xD P w) a e
 | .dT b=>b.length<=sizeLine/\(a==sysModules)=y9/\ ∃xs:List (List qdK×Addr×Value),
  Paired (λ(p:List qdK×V) (q:List qdK×Addr×Value)=>p.1=q.1/\H q.2.1=y0 (.tup (p.1.map kV))/\RelV p.2 q.2.2) b xs ∧
  ∃o es g,h.get? a=y0 o/\o.ExactDict/\o.data= .dict es g/\es.toList=xs.map (entryOfKey (tupleKind (xD P w)))/\(xs.map (·.1)).Nodup
 | .set S n=>h.SetOf (intKind P w) a S n
 | .ins C dx fs=>H dx=y0 (.own a)/\fs.length<=1000/\dx≠a/\h.get? a=y0 (Ao9 C dx) ∧
  ∃mA,h.Ns1 dx mA/\(∀ f,RelO (fs.lookup f) (mA f))/\PySem.Within mA (fs.map (·.1))
 | .own _=> ∃o,h.get? a=y0 o
 | .xd fs=> ∃mA,h.Ns1 a mA/\ ∀f,RelO (fs.lookup f) (mA f)
 | .rng lo hi=> ∃t u v,h.get? a=y0 { cls:= .type "range",data:= .fields #[.int lo t,.int hi u,.int 1 v] }
 | .frz o u=>h.get? a=y0 o/\ObjOk H h a u
 | .tbl ps=>h.get? a=y0 { cls:= .none,data:= .fields ps }
 | .met f x=>h.get? a=y0 (PySem.W.methodObj (.ref f) (.ref x))
 | .ext d=>d h/\(∃ o,h.get? a=y0 o)/\ ∀h1 h2:Heap,d h1->(∀ o,h1.get? a=y0 o->h2.get? a=y0 o)->d h2
def HOk (H:Hp) (h:Heap):Prop:= ∀a o,H a=y0 o->ObjOk P w H h a o
end
section
variable {P:Program}{w:World}{H H':Hp}{h h':Heap}{a:Addr}{o:HO}
theorem ObjOk.lt (x:ObjOk P w H h a o):a<h.objs.size:=by
 cases o with
 | lst c=>obtain⟨_,_,_,_,e⟩:=x;exact Ab5 e
 | tup c=>obtain⟨_,_,_,p⟩:=x;exact p.lt
 | dK b=>obtain⟨_,_,_,_,o,_,_,e,_⟩:=x;exact Ab5 e
 | dT b=>obtain⟨_,_,_,_,o,_,_,e,_⟩:=x;exact Ab5 e
 | set S n=>obtain⟨o,_,_,_,e,_⟩:=x;exact Ab5 e
 | ins C l fs=>obtain⟨_,_,_,e,_⟩:=x;exact Ab5 e
 | own y=>obtain⟨_,e⟩:=x;exact Ab5 e
 | xd fs=>obtain⟨_,⟨_,_,_,e,_⟩,_⟩:=x;exact Ab5 e
 | rng d g=>obtain⟨_,_,_,e⟩:=x;exact Ab5 e
 | frz j u=>obtain⟨e,_⟩:=x;exact Ab5 e
 | tbl i=>exact Ab5 (x)
 | met f y=>exact Ab5 (x)
 | ext k=>obtain⟨_,⟨_,e⟩,_⟩:=x;exact Ab5 e
theorem Paired.mapP : ∀ {c}{e},Paired F c e->(∀ a b,F a b->G a b)->Paired G c e
 | _,_,.nil,_=> .nil
 | _,_,.cons r t,f=> .cons (f _ _ r) (Paired.mapP t f)
def ObjOk.stay (x:ObjOk P w H h a o) (k: ∀b u,(b=a\/H b=y0 (.own a))->h.get? b=y0 u->h'.get? b=y0 u)
 (E: ∀b,H b=y0 (.own a)->H' b=y0 (.own a)) (G: ∀b xs,H b=y0 (.tup xs)->H' b=y0 (.tup xs)):ObjOk P w H' h' a o:=by
 induction o with
 | lst xs=>obtain⟨z,l,n,r,e⟩:=x;exact⟨z,l,n,r,k _ _ (.inl rfl) e⟩
 | tup xs=>obtain⟨z,l,r,g,e,c⟩:=x;exact⟨z,l,r,g,k _ _ (.inl rfl) e,c⟩
 | dK A=>obtain⟨z,y,D,r,g,i,j,e,c⟩:=x;exact⟨z,y,D,r,g,i,j,k _ _ (.inl rfl) e,c⟩
 | dT A=>
  obtain⟨z,y,xs,r,g,i,j,e,c⟩:=x
  exact⟨z,y,xs,Paired.mapP r λp q z=>⟨z.1,G _ _ z.2.1,z.2.2⟩,g,i,j,k _ _ (.inl rfl) e,c⟩
 | set S n=>obtain⟨g,i,j,t,e,c⟩:=x;exact⟨g,i,j,t,k _ _ (.inl rfl) e,c⟩
 | ins C N fs=>
  obtain⟨d,z,ne,e,m,⟨s,i,j,I,c⟩,r⟩:=x
  exact⟨E _ d,z,ne,k _ _ (.inl rfl) e,m,⟨s,i,j,k _ _ (.inr d) I,c⟩,r⟩
 | own y=>obtain⟨g,e⟩:=x;exact⟨g,k _ _ (.inl rfl) e⟩
 | xd fs=>obtain⟨m,⟨s,i,j,e,c⟩,r⟩:=x;exact⟨m,⟨s,i,j,k _ _ (.inl rfl) e,c⟩,r⟩
 | rng J K=>obtain⟨t,u,v,e⟩:=x;exact⟨t,u,v,k _ _ (.inl rfl) e⟩
 | frz g u F=>obtain⟨e,q⟩:=x;exact⟨k _ _ (.inl rfl) e,F q⟩
 | tbl L=>
  have e:=x
  exact k a _ (.inl rfl) e
 | met f y=>
  have e:=x
  exact k a _ (.inl rfl) e
 | ext M=>obtain⟨p,⟨o,e⟩,B⟩:=x;exact⟨B _ _ p λo q=>k _ _ (.inl rfl) q,⟨o,k _ _ (.inl rfl) e⟩,B⟩
theorem HOk.lt (x:HOk P w H h) (e:H a=y0 o):a<h.objs.size:=(x a o e).lt
def HOk.fresh (x:HOk P w H h) (e:h.objs.size<=a):H a=none:=by
 cases q:H a with
 | none=>rfl
 | some u=>exact absurd (Ab1 (x.lt q) e) (Ah1 _)
def HOk.kept (x:HOk P w H h) (k: ∀b u,h.get? b=y0 u->h'.get? b=y0 u):HOk P w H h':=λa o e=>
 (x a o e).stay (λb u _ q=>k b u q) (λ_ q=>q) λ_ _ q=>q
def HOk.laid (x:HOk P w H h) (k: ∀b u,h.get? b=y0 u->h'.get? b=y0 u) (f:h.objs.size<=a) (new:ObjOk P w (jd7 H a o) h' a o):HOk P w (jd7 H a o) h':=λb u e=>by
 have hn:=x.fresh f
 by_cases d:b=a
 ·subst d;rw [xb]at e;cases e;exact new
 ·rw [qa d]at e
  exact(x b u e).stay (λc v _ q=>k c v q) (λc q=>by rw [qa (Xa q hn)];exact q) λc g q=>by rw [qa (Xa q hn)];exact q
end
def Rd (H:Hp) (a:Addr) (u:HO):Prop:=H a=y0 u\/ ∃o,H a=y0 (.frz o u)
def Rd.ok (r:Rd H a u) (x:HOk P w H h):ObjOk P w H h a u:=by
 rcases r with r | ⟨o,r⟩
 ·exact x a u r
 ·obtain⟨_,q⟩:=x a _ r
  exact q
noncomputable def xdX:Option HO->Prop
 | some (.lst _)=>True
 | some (.dK _)=>True
 | some (.dT _)=>True
 | some (.set _ _)=>True
 | some (.ins _ _ _)=>True
 | some (.ext _)=>True
 | _=>False
section
variable {P:Program}{w:World}{H:Hp}{h h':Heap}{x e:Addr}{o':HO}
def HOk.write (ok:HOk P w H h) (l:xdX (H x)) (o:e=x\/H e=y0 (.own x)) (k: ∀b u,b≠e->h.get? b=y0 u->h'.get? b=y0 u) (m: ∃u,h'.get? e=y0 u)
 (new:ObjOk P w (jd7 H x o') h' x o'):HOk P w (jd7 H x o') h':=λb u q=>by
 have d: ∀c y,H c=y0 (.own y)->c≠x:=λc y r z=>by subst z;rw [r]at l;exact l
 have f: ∀c g,H c=y0 (.tup g)->c≠x:=λc g r z=>by subst z;rw [r]at l;exact l
 by_cases j:b=x
 ·subst j;rw [xb]at q;cases q;exact new
 ·rw [qa j]at q
  by_cases a:b=e
  ·have n:H b=y0 (.own x):=by
    rcases o with z | z
    ·exact absurd (a.trans z) j
    ·rw [a];exact z
   rw [q]at n;cases n
   obtain⟨v,p⟩:=m
   exact⟨v,by rw [a];exact p⟩
  ·refine(ok b u q).stay (λc v i r=>k c v ?_ r) (λc r=>by rw [qa (d c b r)];exact r) λc g r=>by rw [qa (f c g r)];exact r
   rcases i with rfl | i
   ·exact a
   ·rintro rfl
    rcases o with z | z
    ·exact d c b i z
    ·rw [i]at z;cases z;exact j rfl
end
structure Un (fs ex:List Addr) (H H':Hp) (h h':Heap):Prop where
 keep: ∀b o,h.get? b=y0 o->H b=u0->b∉fs->b∉ex->h'.get? b=y0 o
 slot: ∀b o,h.get? b=y0 o->H b=u0->b∈fs->b∉ex-> ∃sl,h'.get? b=y0 { o with slots:=sl }
 free: ∀b o,h.get? b=y0 o->H b=u0->b∉ex->H' b=u0
 there: ∀b o,h.get? b=y0 o->b∉ex-> ∃o',h'.get? b=y0 o'
 tups: ∀b xs,H b=y0 (.tup xs)->H' b=y0 (.tup xs)
 frzs: ∀b o u,H b=y0 (.frz o u)->H' b=y0 (.frz o u)
 tbls: ∀b ps,H b=y0 (.tbl ps)-> ∃more,H' b=y0 (.tbl (ps++more))
section
variable {fs fs' ex ex':List Addr}{H H1 H2:Hp}{h h1 h2 h':Heap}{a x e:Addr}{o:HO}
def Un.any (u:Un fs ex H H1 h h1)(q:h.get? b=y0 ob) (n:H b=u0) (a:b∉ex): ∃sl,h1.get? b=y0 { ob with slots:=sl }:=by
 by_cases c:b∈fs
 ·exact u.slot b ob q n c a
 ·exact⟨ob.slots,u.keep b ob q n c a⟩
def Un.kept (k: ∀b u,h.get? b=y0 u->h'.get? b=y0 u):Un fs ex H H h h':=
 ⟨λb a q _ _ _=>k b a q,λb a q _ _ _=>⟨a.slots,k b a q⟩,λ_ _ _ n _=>n,λb a q _=>⟨a,k b a q⟩,λ_ _ q=>q,λ_ _ _ q=>q,λ_ c q=>⟨#[],by rw [q];simp⟩⟩
def Un.refl:Un fs ex H H h h:=Un.kept λ_ _ q=>q
def Un.laid (k: ∀b u,h.get? b=y0 u->h'.get? b=y0 u) (e:h.objs.size<=a) (c:H a=u0):Un fs ex H (jd7 H a o) h h' where
 keep:=λb u q _ _ _=>k b u q
 slot:=λb u q _ _ _=>⟨u.slots,k b u q⟩
 free:=λb u q n _=>by rw [qa (Ac3 (Ab1 (Ab5 q) e))];exact n
 there:=λb u q _=>⟨u,k b u q⟩
 tups:=λb d q=>by rw [qa (Xa q c)];exact q
 frzs:=λb u d q=>by rw [qa (Xa q c)];exact q
 tbls:=λb f q=>⟨#[],by rw [qa (Xa q c),q];simp⟩
def Un.write (c:xdX (H x)) (j:e=x\/H e=y0 (.own x)) (k: ∀b u,b≠e->h.get? b=y0 u->h'.get? b=y0 u) (f: ∃u,h'.get? e=y0 u):Un fs ex H (jd7 H x o) h h':=by
 have g: ∀b,H b=u0->b≠x:=λb n z=>by subst z;rw [n]at c;exact c
 have i: ∀b,H b=u0->b≠e:=λb n z=>by
  subst z
  rcases j with r | r
  ·exact g b n r
  ·rw [n]at r;cases r
 have d: ∀b u,H b=y0 u-> ¬xdX (y0 u)->b≠x:=λb u q m z=>by subst z;rw [q]at c;exact m c
 refine⟨λb u q n _ _=>k b u (i b n) q,λb u q n _ _=>⟨u.slots,k b u (i b n) q⟩,λb u q n _=>by rw [qa (g b n)];exact n,λb u q _=> ?_,
  λb l q=>by rw [qa (d b _ q λz=>z)];exact q,λb u l q=>by rw [qa (d b _ q λz=>z)];exact q,λb p q=>⟨#[],by rw [qa (d b _ q λz=>z),q];simp⟩⟩
 by_cases a:b=e
 ·subst a;exact f
 ·exact⟨u,k b u a q⟩
end
def jdW (h:Heap) (H:Hp):List Addr:=(Aa0 h.objs.size).filter λa=>(H a).isSome
def jbd (h:Heap) (H:Hp):Heap:=PySem.W.hideAll h (jdW h H)
def qaj (h) (H):(jbd h H).objs.size=h.objs.size:=PySem.W.hideAll_size _ _
def jbe (e:h.get? b=y0 o) (n:H b=u0):(jbd h H).get? b=y0 o:=
 PySem.W.hideAll_get _ e λa=>by
  have q:=(Ad8.mp a).2
  rw [n]at q;simp at q
def zb5 (e:(jbd h H).get? b=y0 o):h.get? b=y0 o/\H b=none:=by
 have a:=PySem.W.of_hideAll (jdW h H) e
 refine⟨a,?_⟩
 cases q:H b with
 | none=>rfl
 | some x=>
  have c:b∈jdW h H:=Ad8.mpr ⟨Ab3.mpr (Ab5 a),by simp [q]⟩
  have z:(jbd h H).get? b=none:=PySem.W.hideAll_none (jdW h H) c
  rw [z]at e;cases e
noncomputable def qb1 (g h:Heap) (L:Addr):List (Addr×Obj):=(Aa0 h.objs.size).filterMap λa=>if a=L\/(g.get? a).isSome=k9 then u0 else(h.get? a).map λo=>(a,o)
def rest (g h:Heap) (L d:Addr):List (Addr×Obj):=(qb1 g h L).filter λp=>v9 (p.1≠d)
structure Mod (K:Aa6) (mg:Str->Option Value) (base:Heap):Prop where
 kin:K.In base
 glob:base.Ns mainGlobals mg
 blt: ∃mb,base.Ns builtinsNs mb/\ ∀x:Str,x≠ "__name__" ->mb x=bootBuiltins x
 nolimit:base.NoLimit
structure Cx where
 prog:Program
 w:World
 K:Aa6
 mg:Str->Option Value
 base:Heap
 A:Around
 N:List Str
 s₀:Shared
 H₀:Hp
 env:Env
 outer:List Env
 stack:List Env
 ex:List Addr
 fn:Str->Bool
 calm:Bool
 pn:List (Addr×Obj)
 xe:Value->Shared->Prop
def qdZ (l:List Env):List Addr:=l.filterMap (·.frame)
abbrev Cx.fs (X:Cx):List Addr:=qdZ X.outer
def xdy (a:Scope) (x:Str):Prop:=a.names.lookup x=y0 .local\/a.names.lookup x=y0 .cell\/a.names.lookup x=y0 .free
def zdP (a:Scope) (x:Str):Prop:=a.names.lookup x=y0 .local\/a.names.lookup x=y0 .cell
noncomputable def xdf (env:Env) (h:Heap) (m:Str->Option Value) (x:Str) (u:Value):Prop:=
 (env.kindOf x=y0 .local/\m x=y0 u)\/((env.kindOf x=y0 .cell\/env.kindOf x=y0 .free)/\ ∃c,env.cells.lookup x=y0 c/\h.IsCell c (y0 u))
structure Cx.Ok (X:Cx):Prop where
 mod:Mod X.K X.mg X.base
 kind:X.env.scope.kind= .function
 glob:X.env.globals=mainGlobals
 blt:X.env.builtins=builtinsNs
 above:X.s₀.heap.objs.size<=X.env.locals
 inj: ∀x y c,X.env.cells.lookup x=y0 c->X.env.cells.lookup y=y0 c->x=y
 has: ∀x,(X.env.kindOf x=y0 .cell\/X.env.kindOf x=y0 .free)-> ∃c,X.env.cells.lookup x=y0 c
 cab: ∀x c,X.fn x=k9->X.env.cells.lookup x=y0 c->X.s₀.heap.objs.size<=c
 hd:X.calm=k9->X.A.handled=u0
 frames:X.A.frames=y0 X.stack
 stk:X.stack=X.outer\/(X.stack=X.env::X.outer/\X.env.frame=y0 X.env.locals)
 exf: ∀b∈X.ex,b≠X.env.locals/\ ∀x c,X.env.cells.lookup x=y0 c->c≠b
 bs: ∀b o,X.base.get? b=y0 o->X.s₀.heap.get? b=y0 o/\X.H₀ b=u0
 bsz:X.base.objs.size<=X.s₀.heap.objs.size
 noex: ∀b o,X.base.get? b=y0 o->b∉X.ex
 exfs: ∀b∈X.ex,b∉X.fs
 funs:X.s₀.heap.FunFrames X.base X.outer
 frf: ∀b∈X.fs,X.H₀ b=u0
structure Inv (X:Cx) (k8:List (Addr×Obj)) (U:List (Option V)) (H:Hp) (s:Shared):Prop where
 ok:X.Ok
 os:s.os=X.s₀.os
 bare:AllBare s.gens
 base:Un X.fs X.ex X.H₀ H X.s₀.heap s.heap
 loc: ∃m,s.heap.Ns X.env.locals m/\ ∀(i:Nat) (x:Str) (v:V),X.N[i]? =y0 x->U[i]? =y0 (y0 v)->xdy X.env.scope x-> ∃u,RelV v u/\xdf X.env s.heap m x u
 cell: ∀x c,X.env.cells.lookup x=y0 c-> ∃v,s.heap.IsCell c v
 free:H X.env.locals=u0
 freeC: ∀x c,X.env.cells.lookup x=y0 c->H c=u0
 pin: ∀p∈X.pn++k8,s.heap.get? p.1=y0 p.2/\H p.1=u0/\p.1≠X.env.locals/\p.1∉X.fs/\ ∀v,p.2.data≠ .cell v
 hok:HOk X.prog X.w H s.heap
 len:U.length=X.N.length
section
variable {X:Cx}{k8:List (Addr×Obj)}{U:List (Option V)}{H H':Hp}{s:Shared}{h':Heap}
def Cx.Ok.nofr (ok:X.Ok)(e:X.base.get? b=y0 o):b∉X.fs:=λa=>by
 have:=(ok.funs.mem a).1
 rw [e]at this;cases this
theorem Inv.bs (I:Inv X k8 U H s): ∀b o,X.base.get? b=y0 o->s.heap.get? b=y0 o/\H b=none:=λb o e=>
 ⟨I.base.keep b o (I.ok.bs b o e).1 (I.ok.bs b o e).2 (I.ok.nofr e) (I.ok.noex b o e),I.base.free b o (I.ok.bs b o e).1 (I.ok.bs b o e).2 (I.ok.noex b o e)⟩
def Inv.bk (I:Inv X k8 U H s): ∀b o,X.base.get? b=y0 o->s.heap.get? b=y0 o:=λb o e=>(I.bs b o e).1
theorem Inv.mod (I:Inv X k8 U H s):Mod X.K X.mg X.base:=I.ok.mod
def Inv.kIn (I:Inv X k8 U H s):X.K.In s.heap:=I.ok.mod.kin.keeps I.bk
theorem Inv.lt (I:Inv X k8 U H s):X.env.locals<s.heap.objs.size:=let ⟨_,hn,_⟩:=I.loc;hn.lt
def Inv.sz (I:Inv X k8 U H s):X.s₀.heap.objs.size<=s.heap.objs.size:=Ac I.ok.above (Ai3 I.lt)
def Inv.nofs (I:Inv X k8 U H s)(h:s.heap.objs.size<=a):a∉X.fs:=λc=>by
 obtain⟨_,o,b,_⟩:=I.ok.funs.mem c
 exact absurd (Ab1 (Ab5 b) (Ac I.sz h)) (Ah1 _)
def Inv.cne (I:Inv X k8 U H s): ∀x c,X.env.cells.lookup x=y0 c->c≠X.env.locals:=λx c e z=>by
 obtain⟨v,o,f,d⟩:=I.cell x c e
 obtain⟨m,⟨i,g,h,b,a,_⟩,_⟩:=I.loc
 rw [z,b]at f;cases f;rw [a]at d;cases d
theorem Inv.funs (I:Inv X k8 U H s):s.heap.FunFrames X.base X.outer:=by
 have all: ∀ l,(∀ b∈qdZ l,b∈X.fs)->X.s₀.heap.FunFrames X.base l->s.heap.FunFrames X.base l:=by
  intro l
  induction l with
  | nil=>intro _ _;trivial
  | cons h r i=>
   intro f m
   obtain⟨n,⟨L,o,c,hn,g,k⟩,j⟩:=m
   have d:=f L (by unfold qdZ;rw [Ak8,c];exact Aa3)
   obtain⟨sl,e⟩:=I.base.slot L o g (I.ok.frf L d) d λz=>I.ok.exfs L z d
   exact⟨n,⟨L,_,c,hn,e,k⟩,i (λb a=>f b (by unfold qdZ;rw [Ak8,c];exact Aa1 _ a)) j⟩
 exact all X.outer (λ_ a=>a) I.ok.funs
theorem Inv.stack (I:Inv X k8 U H s):s.heap.FunFrames X.base X.stack:=by
 rcases I.ok.stk with e | ⟨e,a⟩
 ·rw [e];exact I.funs
 ·rw [e]
  obtain⟨m,hn,_⟩:=I.loc
  refine .cons (by rw [I.ok.kind];decide) a hn ?_ I.funs
  exact Heap.get?_none_of_le (Ac I.ok.bsz I.ok.above)
def Inv.stkSub (I:Inv X k8 U H s): ∀b∈qdZ X.stack,b∈X.env.locals::X.fs:=λb a=>by
 rcases I.ok.stk with e | ⟨e,c⟩
 ·rw [e]at a;exact Aa1 _ a
 ·rw [e]at a
  unfold qdZ at a
  rw [Ak8,c]at a
  exact a
def Inv.stkFree (I:Inv X k8 U H s): ∀b∈qdZ X.stack,H b=none:=λb a=>by
 rcases Ab7.mp (I.stkSub b a)with e | a
 ·rw [e];exact I.free
 ·obtain⟨_,o,c,_⟩:=I.ok.funs.mem a
  exact I.base.free b o c (I.ok.frf b a) λz=>I.ok.exfs b z a
def Inv.step {ch:List Addr}(I:Inv X k8 U H s)
 (h: ∀b∈ch,(b∈X.ex\/X.s₀.heap.objs.size<=b)/\b≠X.env.locals/\(∀ x c,X.env.cells.lookup x=y0 c->c≠b)/\ ∀p∈X.pn++k8,p.1≠b)
 (keep: ∀b o,b≠X.env.locals->b∉X.fs->b∉ch->s.heap.get? b=y0 o->H b=u0->h'.get? b=y0 o)
 (y: ∀b o,b≠X.env.locals->b∈X.fs->b∉ch->s.heap.get? b=y0 o->H b=u0-> ∃sl,h'.get? b=y0 { o with slots:=sl }) (f: ∀b o,b∉ch->s.heap.get? b=y0 o->H b=u0->H' b=u0)
 (there: ∀b o,b∉ch->s.heap.get? b=y0 o-> ∃o',h'.get? b=y0 o')
 (D: ∀b xs,H b=y0 (.tup xs)->H' b=y0 (.tup xs)) (C: ∀b o u,H b=y0 (.frz o u)->H' b=y0 (.frz o u)) (F: ∀b ps,H b=y0 (.tbl ps)-> ∃more,H' b=y0 (.tbl (ps++more)))
 (ns: ∀m,s.heap.Ns X.env.locals m->h'.Ns X.env.locals m) (J:HOk X.prog X.w H' h') (P:AllBare g'):
 Inv X k8 U H' { s with heap:=h',gens:=g',drawn:=d',toks:=t' }:=by
 have E: ∀b o,X.s₀.heap.get? b=y0 o->b≠X.env.locals:=λb o e=>Ac3 (Ab1 (Ab5 e) I.ok.above)
 have w: ∀b o,X.s₀.heap.get? b=y0 o->b∉X.ex->b∉ch:=λb o e a A=>by
  rcases (h b A).1 with z | z
  ·exact a z
  ·exact absurd (Ab1 (Ab5 e) z) (Ah1 _)
 have j: ∀x c,X.env.cells.lookup x=y0 c-> ∀v,s.heap.IsCell c v->h'.IsCell c v:=by
  rintro x c e v ⟨o,B,K⟩
  have g:c∉ch:=λz=>(h c z).2.2.1 x c e rfl
  by_cases M:c∈X.fs
  ·obtain⟨sl,q⟩:=y c o (I.cne x c e) M g B (I.freeC x c e)
   exact⟨_,q,K⟩
  ·exact⟨o,keep c o (I.cne x c e) M g B (I.freeC x c e),K⟩
 refine⟨I.ok,I.os,P,⟨λb o e n A a=> ?_,λb o e n A a=> ?_,λb o e n a=> ?_,λb o e a=> ?_,λb xs e=>D b xs (I.base.tups b xs e),λb o xs e=>C b o xs (I.base.frzs b o xs e),λb ps e=> ?_⟩,?_,λx c e=> ?_,?_,λx c e=> ?_,λp N=> ?_,J,I.len⟩
 ·exact keep b o (E b o e) A (w b o e a) (I.base.keep b o e n A a) (I.base.free b o e n a)
 ·obtain⟨sl,t⟩:=I.base.slot b o e n A a
  obtain⟨L,G⟩:=y b _ (E b o e) A (w b o e a) t (I.base.free b o e n a)
  exact⟨L,G⟩
 ·obtain⟨o',t⟩:=I.base.there b o e a
  exact f b o' (w b o e a) t (I.base.free b o e n a)
 ·obtain⟨o',t⟩:=I.base.there b o e a
  exact there b o' (w b o e a) t
 ·obtain⟨Q,t⟩:=I.base.tbls b ps e
  obtain⟨R,G⟩:=F b _ t
  exact⟨Q++R,by rw [G,Array.append_assoc]⟩
 ·obtain⟨m,hn,S⟩:=I.loc
  refine⟨m,ns m hn,λi x v t G T=> ?_⟩
  obtain⟨u,r,l⟩:=S i x v t G T
  refine⟨u,r,?_⟩
  rcases l with l | ⟨k,c,e,z⟩
  ·exact .inl l
  ·exact .inr ⟨k,c,e,j x c e _ z⟩
 ·obtain⟨v,z⟩:=I.cell x c e
  exact⟨v,j x c e v z⟩
 ·obtain⟨m,⟨o,_,_,B,_⟩,_⟩:=I.loc
  exact f _ o (λz=>(h _ z).2.1 rfl) B I.free
 ·obtain⟨v,o,B,K⟩:=I.cell x c e
  exact f c o (λz=>(h c z).2.2.1 x c e rfl) B (I.freeC x c e)
 ·obtain⟨e,n,ne,O,d⟩:=I.pin p N
  have g:p.1∉ch:=λz=>(h p.1 z).2.2.2 p N rfl
  exact⟨keep p.1 p.2 ne O g e n,f p.1 p.2 g e n,ne,O,d⟩
def Inv.un (I:Inv X k8 U H s) (u:Un X.fs [] H H' s.heap h') (f:HOk X.prog X.w H' h'):Inv X k8 U H' { s with heap:=h',toks:=t' }:=by
 obtain⟨m,⟨o,p,q,h,r⟩,_⟩:=id I.loc
 obtain⟨sl,k⟩:=u.any h I.free (by simp)
 exact I.step (ch:= []) (λ_ z=>nomatch z) (λb o _ c _ e n=>u.keep b o e n c (by simp)) (λb o _ c _ e n=>u.slot b o e n c (by simp)) (λb o _ e n=>u.free b o e n (by simp)) (λb o _ e=>u.there b o e (by simp)) u.tups u.frzs u.tbls (λl i=>by
  obtain⟨t,g,d,a,j⟩:=i
  rw [h]at a;cases a
  exact⟨_,g,d,k,j⟩) f I.bare
def Inv.call (I:Inv X k8 U H s) (u:Un (qdZ X.stack) ch H H' s.heap h') (h:HOk X.prog X.w H' h') (l:AllBare g')
 (f: ∀b∈ch,(b∈X.ex\/X.s₀.heap.objs.size<=b)/\b≠X.env.locals/\(∀ x c,X.env.cells.lookup x=y0 c->c≠b)/\ ∀p∈X.pn++k8,p.1≠b):
 Inv X k8 U H' { s with heap:=h',gens:=g',drawn:=d',toks:=t' }:=by
 obtain⟨m,⟨o,y,A,k,r⟩,_⟩:=id I.loc
 obtain⟨sl,i⟩:=u.any k I.free λz=>(f _ z).2.1 rfl
 exact I.step f (λb o i q a e n=>u.keep b o e n (λz=>(Ab7.mp (I.stkSub b z)).elim i q) a) (λb o _ _ a e n=>u.any e n a) (λb o a e n=>u.free b o e n a) (λb o a e=>u.there b o e a) u.tups u.frzs u.tbls (λw t=>by
  obtain⟨B,j,g,d,v⟩:=t
  rw [k]at d;cases d
  exact⟨_,j,g,i,v⟩) h l
def Inv.turned (I:Inv X k8 U H s) (k: ∀b o,b≠it->s.heap.get? b=y0 o->h'.get? b=y0 o) (l:H it=u0) (f:it≠X.env.locals)
 (h1:it∈X.ex\/X.s₀.heap.objs.size<=it) (h2: ∀x c,X.env.cells.lookup x=y0 c->c≠it) (w: ∀p∈X.pn++k8,p.1≠it):Inv X k8 U H { s with heap:=h',toks:=t' }:=by
 have d: ∀b u,H b=y0 u->b≠it:=λb u e z=>by rw [z,l]at e;cases e
 refine I.step (ch:= [it]) (λb h=> ?_) (λb o _ _ a e _=>k b o (λz=>a (by simp [z])) e) (λb o _ _ a e _=>⟨o.slots,k b o (λz=>a (by simp [z])) e⟩) (λ_ _ _ _ n=>n)
  (λb o a e=>⟨o,k b o (λz=>a (by simp [z])) e⟩) (λ_ _ e=>e) (λ_ _ _ e=>e) (λb y e=>⟨#[],by rw [e];simp⟩) (λm t=> ?_) (λb u e=> ?_) I.bare
 ·have e:=by simpa using h
  subst e
  exact⟨h1,f,h2,w⟩
 ·obtain⟨o,i,j,g,r⟩:=t
  exact⟨o,i,j,k _ o (Ne.symm f) g,r⟩
 ·refine(I.hok b u e).stay (λc v a q=>k c v ?_ q) (λ_ q=>q) λ_ _ q=>q
  rcases a with z | z
  ·rw [z];exact d b u e
  ·exact d c _ z
def Inv.tok (I:Inv X k8 U H s) (t):Inv X k8 U H { s with toks:=t }:=I.un Un.refl I.hok
theorem Inv.kept (I:Inv X k8 U H s) (k: ∀b u,s.heap.get? b=y0 u->h'.get? b=y0 u):Inv X k8 U H { s with heap:=h',toks:=t' }:=I.un (Un.kept k) (I.hok.kept k)
theorem Inv.laid (I:Inv X k8 U H s) (k: ∀b u,s.heap.get? b=y0 u->h'.get? b=y0 u) (c:s.heap.objs.size<=a) (new:ObjOk X.prog X.w (jd7 H a o) h' a o):
 Inv X k8 U (jd7 H a o) { s with heap:=h',toks:=t' }:=I.un (Un.laid k c (I.hok.fresh c)) (I.hok.laid k c new)
theorem Inv.write (I:Inv X k8 U H s) (d:xdX (H x)) (c:e=x\/H e=y0 (.own x)) (k: ∀b u,b≠e->s.heap.get? b=y0 u->h'.get? b=y0 u) (a: ∃u,h'.get? e=y0 u)
 (new:ObjOk X.prog X.w (jd7 H x o) h' x o):Inv X k8 U (jd7 H x o) { s with heap:=h',toks:=t' }:=I.un (Un.write d c k a) (I.hok.write d c k a new)
def Inv.pins_of (I:Inv X k8 U H s) (h: ∀p∈pins',s.heap.get? p.1=y0 p.2/\H p.1=u0/\p.1≠X.env.locals/\p.1∉X.fs/\ ∀v,p.2.data≠ .cell v):Inv X pins' U H s:=
 ⟨I.ok,I.os,I.bare,I.base,I.loc,I.cell,I.free,I.freeC,λp a=>(Ae1.mp a).elim (λz=>I.pin p (Ac5 _ z)) (h p),I.hok,I.len⟩
def wL {N:List Str}(e:N.Nodup){i j:Nat}(a:N[i]? =y0 x) (b:N[j]? =y0 x):i=j:=by
 obtain⟨g,c⟩:=Ac2.mp a
 obtain⟨f,d⟩:=Ac2.mp b
 exact(List.getElem_inj e).mp (c.trans d.symm)
def xad (I:Inv X k8 U H s) (hN:X.N.Nodup) (O:X.N[i]? =y0 x) (w:zdP X.env.scope x) (r:RelV v u)
 (h: ∀s',Inv X k8 (U.set i (y0 v)) H s'->(∃ a,Ai1 a s.heap s'.heap/\(a=X.env.locals\/X.env.cells.lookup x=y0 a))->Q () s') (hf:X.fn x=k9\/X.env.scope.names.lookup x=y0 .local:=by first | exact .inl rfl | exact .inr rfl | assumption):wpAny M A (storeName X.env x u) Q E s:=by
 obtain⟨m,hn,hl⟩:=id I.loc
 have S:(X.env.scope.kind== .class||(X.env.scope.kind== .module&&X.env.locals != X.env.globals))=false:=by rw [I.ok.kind];rfl
 have R:i<U.length:=by rw [I.len];exact(Ac2.mp O).1
 have cne:=I.cne
 have l: ∀ {a}{K},(∃ o,s.heap.get? a=y0 o/\H a=u0)->Ai1 a s.heap K->HOk X.prog X.w H K:=λ{a K} ha f b ob e=>by
  obtain⟨_,_,B⟩:=ha
  refine(I.hok b ob e).stay (λc W t q=>(f.2 c ?_).trans q) (λ_ q=>q) λ_ _ q=>q
  rintro rfl
  rcases t with rfl | t
  ·rw [B]at e;cases e
  ·rw [B]at t;cases t
 rcases w with D | D
 ·refine wpAny_storeName_local D hn (λK Z f=> ?_) S
  obtain⟨oL,_,_,Y,_⟩:=id hn
  refine h _ ⟨I.ok,I.os,I.bare,⟨λb o e n F w=> ?_,λb o e n F w=> ?_,I.base.free,λb o e w=> ?_,I.base.tups,I.base.frzs,I.base.tbls⟩,⟨_,Z,λj y v' g C e3=> ?_⟩,λy c e=> ?_,I.free,I.freeC,λp hp=> ?_,l ⟨oL,Y,I.free⟩ f,by simpa using I.len⟩ ⟨_,f,.inl rfl⟩
  ·exact(f.2 b (Ac3 (Ab1 (Ab5 e) I.ok.above))).trans (I.base.keep b o e n F w)
  ·obtain⟨sl,g⟩:=I.base.slot b o e n F w
   exact⟨sl,(f.2 b (Ac3 (Ab1 (Ab5 e) I.ok.above))).trans g⟩
  ·obtain⟨o',g⟩:=I.base.there b o e w
   exact⟨o',(f.2 b (Ac3 (Ab1 (Ab5 e) I.ok.above))).trans g⟩
  ·by_cases J:j=i
   ·subst J
    rw [O]at g;cases g
    rw [Ad5 R]at C
    cases C
    exact⟨u,r,.inl ⟨D,by simp⟩⟩
   ·rw [Ad3 (Ne.symm J)]at C
    obtain⟨u',r',q⟩:=hl j y v' g C e3
    refine⟨u',r',?_⟩
    rcases q with⟨k,e⟩ | ⟨k,c,e,z⟩
    ·refine .inl ⟨k,?_⟩
     have:y≠x:=λe=>J (wL hN g (e▸O))
     simp [this,e]
    ·exact .inr ⟨k,c,e,z.sameBut f (cne y c e)⟩
  ·obtain⟨W,z⟩:=I.cell y c e
   exact⟨W,z.sameBut f (cne y c e)⟩
  ·obtain⟨e,n,ne,nf,d⟩:=I.pin p hp
   exact⟨(f.2 p.1 ne).trans e,n,ne,nf,d⟩
 ·have G:X.fn x=true:=by
   rcases hf with z | z
   ·exact z
   ·rw [z]at D;cases D
  obtain⟨c,t⟩:=I.ok.has x (.inl D)
  obtain⟨W,z⟩:=I.cell x c t
  refine wpAny_storeName_cell I.ok.kind D t z (λK N f=> ?_)
  obtain⟨oc,T,P⟩:=id z
  refine h { s with heap:=K } ⟨I.ok,I.os,I.bare,⟨λb o e n F w=> ?_,λb o e n F w=> ?_,I.base.free,λb o e w=> ?_,I.base.tups,I.base.frzs,I.base.tbls⟩,⟨m,hn.sameBut f (Ne.symm (cne x c t)),λj y v' g C e3=> ?_⟩,λy V e=> ?_,I.free,I.freeC,λp hp=> ?_,l ⟨oc,T,I.freeC x c t⟩ f,by simpa using I.len⟩ ⟨c,f,.inr t⟩
  ·exact(f.2 b (Ac3 (Ab1 (Ab5 e) (I.ok.cab x c G t)))).trans (I.base.keep b o e n F w)
  ·obtain⟨sl,g⟩:=I.base.slot b o e n F w
   exact⟨sl,(f.2 b (Ac3 (Ab1 (Ab5 e) (I.ok.cab x c G t)))).trans g⟩
  ·obtain⟨o',g⟩:=I.base.there b o e w
   exact⟨o',(f.2 b (Ac3 (Ab1 (Ab5 e) (I.ok.cab x c G t)))).trans g⟩
  ·by_cases J:j=i
   ·subst J
    rw [O]at g;cases g
    rw [Ad5 R]at C
    cases C
    exact⟨u,r,.inr ⟨.inl D,c,t,N⟩⟩
   ·rw [Ad3 (Ne.symm J)]at C
    obtain⟨u',r',q⟩:=hl j y v' g C e3
    refine⟨u',r',?_⟩
    rcases q with q | ⟨k,V,e,z'⟩
    ·exact .inl q
    ·refine .inr ⟨k,V,e,z'.sameBut f ?_⟩
     rintro rfl
     exact J (wL hN g (I.ok.inj _ _ _ e t▸O))
  ·by_cases L:V=c
   ·subst L;exact⟨_,N⟩
   ·obtain⟨w2,z2⟩:=I.cell y V e
    exact⟨w2,z2.sameBut f L⟩
  ·obtain⟨e,n,ne,nf,d⟩:=I.pin p hp
   refine⟨(f.2 p.1 ?_).trans e,n,ne,nf,d⟩
   intro q
   rw [q,T]at e
   have q':=Ae5.inj e
   exact d W (by rw [← q'];exact P)
def zl (I:Inv X k8 U H s) (e:X.N.Nodup) (d:X.N[i]? =y0 x) (b:zdP X.env.scope x) (r:RelV v u)
 (h: ∀s',Inv X k8 (U.set i (y0 v)) H s'->Q () s') (a:X.fn x=k9\/X.env.scope.names.lookup x=y0 .local:=by first | exact .inl rfl | exact .inr rfl | assumption):wpAny M A (storeName X.env x u) Q E s:=
 xad I e d b r (λs' c _=>h s' c) a
def Inv.call' (I:Inv X k8 U H s) (g:s'.os=s.os) (u:Un (qdZ X.stack) ch H H' s.heap s'.heap) (a:HOk X.prog X.w H' s'.heap) (f:AllBare s'.gens)
 (d: ∀b∈ch,(b∈X.ex\/X.s₀.heap.objs.size<=b)/\b≠X.env.locals/\(∀ x c,X.env.cells.lookup x=y0 c->c≠b)/\ ∀p∈X.pn++k8,p.1≠b):Inv X k8 U H' s':=by
 obtain⟨j,k,h,i,l⟩:=s'
 have e:=g
 subst e
 exact I.call u a f d
end
abbrev XK:=Value->Option Addr->Hp->Prop
abbrev St:=List (Option V)
abbrev VK:=V->Hp->Prop
abbrev TE:=St->Hp->VK->Prop
abbrev TT:=St->Hp->(Bool->Hp->Prop)->Prop
abbrev TA:=St->Hp->(List V->Hp->Prop)->Prop
structure qbR where
 nx:St->Hp->Prop
 rt:VK
 bk:St->Hp->Prop:=λ_ _=>False
 ct:St->Hp->Prop:=λ_ _=>False
abbrev TS:=qbR->St->Hp->Prop
def EP (X:Cx) (a:List (Addr×Obj)) (U:St) (Q:VK) (u:Value) (s':Shared):Prop:= ∃v H',Inv X a U H' s'/\RelV v u/\Q v H'
def TP (X:Cx) (a:List (Addr×Obj)) (U:St) (Q:Bool->Hp->Prop) (b:Bool) (s':Shared):Prop:= ∃H',Inv X a U H' s'/\Q b H'
noncomputable def AP (X:Cx) (a:List (Addr×Obj)) (U:St) (Q:List V->Hp->Prop) (c:List Value) (s':Shared):Prop:= ∃b H',Inv X a U H' s'/\Vals b c/\Q b H'
noncomputable def SP (X:Cx) (a:List (Addr×Obj)) (D:qbR) (f:Flow) (s':Shared):Prop:=
 match f with
 | .next=> ∃b H',Inv X a b H' s'/\D.nx b H'
 | .brk=> ∃b H',Inv X a b H' s'/\D.bk b H'
 | .cont=> ∃b H',Inv X a b H' s'/\D.ct b H'
 | .ret u=> ∃v b H',Inv X a b H' s'/\RelV v u/\D.rt v H'
noncomputable def PE (X:Cx) (e:Expr) (t:TE):Prop:=
 ∀(k8:List (Addr×Obj)) (s:Shared) (U:St) (H:Hp) (Q:VK),Inv X k8 U H s->t U H Q->wpAny (model X.prog X.w) X.A (eval e X.env) (EP X k8 U Q) X.xe s
noncomputable def PT (X:Cx) (e:Expr) (t:TT):Prop:=
 ∀(k8:List (Addr×Obj)) (s:Shared) (U:St) (H:Hp) (Q:Bool->Hp->Prop),Inv X k8 U H s->t U H Q->wpAny (model X.prog X.w) X.A (isTrue e X.env (eval e X.env)) (TP X k8 U Q) X.xe s
noncomputable def PW (X:Cx) (e:Expr) (t:TT):Prop:=
 ∀(a:Sem Value) (k8:List (Addr×Obj)) (s:Shared) (U:St) (H:Hp) (Q:Bool->Hp->Prop),Inv X k8 U H s->t U H Q->wpAny (model X.prog X.w) X.A (isTrue e X.env a) (TP X k8 U Q) X.xe s
def PW.pt (h:PW X e t):PT X e t:=h _
noncomputable def PA (X:Cx) (es:List Expr) (t:TA):Prop:=
 ∀(pos:Pos) (k8:List (Addr×Obj)) (s:Shared) (U:St) (H:Hp) (Q:List V->Hp->Prop),Inv X k8 U H s->t U H Q->wpAny (model X.prog X.w) X.A (spliced (backTo pos (starEach es X.env))) (AP X k8 U Q) X.xe s
noncomputable def PS (X:Cx) (st:Stmt) (t:TS):Prop:=
 ∀(k8:List (Addr×Obj)) (s:Shared) (U:St) (H:Hp) (D:qbR),Inv X k8 U H s->t D U H->wpAny (model X.prog X.w) X.A (exec st X.env) (SP X k8 D) X.xe s
noncomputable def PSs (X:Cx) (st:List Stmt) (t:TS):Prop:=
 ∀(k8:List (Addr×Obj)) (s:Shared) (U:St) (H:Hp) (D:qbR),Inv X k8 U H s->t D U H->wpAny (model X.prog X.w) X.A (execs st X.env) (SP X k8 D) X.xe s
def jdF (h:wpAny M A t Q E s) (b: ∀a s,Q a s->Q' a s):wpAny M A t Q' E s:=wpAny_mono h b λ_ _ x=>x
section
variable {X:Cx}
def bin (l:PE X a ta) (j:PE X b tb){R:V->V->Hp->Prop}(I:Inv X k8 U H s) (h:ta U H λx H1=>tb U H1 λy H2=>R x y H2)
 {f:Value->Value->Sem α}
 (k: ∀v u g x y H2,Inv X k8 U H2 g->RelV x v->RelV y u->R x y H2->wpAny (model X.prog X.w) X.A (f v u) Q X.xe g):
 wpAny (model X.prog X.w) X.A (eval a X.env) (λv e=>wpAny (model X.prog X.w) X.A (eval b X.env) (λu c=>wpAny (model X.prog X.w) X.A (f v u) Q X.xe c) X.xe e) X.xe s:=by
 refine jdF (l k8 s U H _ I h) ?_
 rintro v m ⟨x,H1,o,d,i⟩
 refine jdF (j k8 m U H1 _ o i) ?_
 rintro u g ⟨y,H2,q,p,n⟩
 exact k v u g x y H2 q d p n
def xcP (i:Nat):TE:=λU H Q=> ∃v,U[i]? =y0 (y0 v)/\Q v H
def tC (v:V):TE:=λ_ H Q=>Q v H
def Jk (p:X.N[i]? =some x) (k:xdy X.env.scope x) (g:(x==("__debug__" :Str))=false:=by decide) (f:(x==("__classdict__" :Str))=false:=by decide):PE X (.Name x pos) (xcP i):=by
 intro d s U H Q I h
 obtain⟨v,e,h⟩:=h
 obtain⟨m,hn,o⟩:=I.loc
 obtain⟨u,r,l⟩:=o i x v p e k
 have fin:EP X d U Q u s:=⟨v,H,I,r,h⟩
 rcases l with⟨b,n⟩ | ⟨b,c,j,a⟩
 ·exact wpAny_Name (wpAny_loadName_local I.ok.kind b hn n fin) g
 ·rcases b with b | b
  ·exact wpAny_Name (wpAny_loadName_cell I.ok.kind b j a fin) g
  ·exact wpAny_Name (wpAny_loadName_free I.ok.kind b j a fin f) g
def jcr {i j pos}:PE X (.Constant (.int i) j pos) (tC (.int i)):=λ_ _ _ H _ I h=>wpAny_Constant_int ⟨.int i,H,I.tok _,⟨_,rfl⟩,h⟩
def zcV {b j pos}:PE X (.Constant (.bool b) j pos) (tC (.bl b)):=λ_ _ _ H _ I h=>Constant_bool ⟨.bl b,H,I,rfl,h⟩
def xcp {j pos}:PE X (.Constant .none j pos) (tC .non):=λ_ _ _ H _ I h=>Constant_none ⟨.non,H,I,rfl,h⟩
def jcd {x j pos}:PE X (.Constant (.str x) j pos) (tC (.str x)):=λ_ _ _ H _ I h=>Calls.Constant_str ⟨.str x,H,I.tok _,⟨_,rfl⟩,h⟩
def Gl (X:Cx) (x:Str):Prop:=X.env.kindOf x=y0 .globalImplicit
def Zw (I:Inv X k8 U H s) (b:Gl X x) (a:X.mg x=y0 u) (h:Q u s)
 (c:(x==("__debug__" :Str))=false:=by decide):wpAny (model X.prog X.w) X.A (eval (.Name x pos) X.env) Q E s:=
 Calls.Name_function_global I.ok.kind b (Calls.loadGlobal_global (by rw [I.ok.glob];exact I.mod.glob.keeps I.bk) a h) c
def Jx (I:Inv X k8 U H s) (d:Gl X x) (a:X.mg x=u0) (f:bootBuiltins x=y0 u) (h:Q u s)
 (g:x≠ "__name__" :=by decide) (e:(x==("__debug__" :Str))=false:=by decide):wpAny (model X.prog X.w) X.A (eval (.Name x pos) X.env) Q E s:=by
 obtain⟨i,c,b⟩:=I.mod.blt
 exact Calls.Name_function_global I.ok.kind d (Calls.loadGlobal_builtin (by rw [I.ok.glob];exact I.mod.glob.keeps I.bk) a (by rw [I.ok.blt];exact c.keeps I.bk) ((b x g).trans f) h) e
def zbN (b:Gl X x) (a:X.mg x=some u) (r:RelV v u) (c:(x==("__debug__" :Str))=false:=by decide):PE X (.Name x pos) (tC v):=
 λ_ _ _ H _ I h=>Zw I b a ⟨v,H,I,r,h⟩ c
def xb5 (b:Gl X x) (a:X.mg x=none) (e:bootBuiltins x=some u) (r:RelV v u) (c:x≠ "__name__" :=by decide) (d:(x==("__debug__" :Str))=false:=by decide):PE X (.Name x pos) (tC v):=
 λ_ _ _ H _ I h=>Jx I b a e ⟨v,H,I,r,h⟩ c d
variable {a b:Expr}{ta tb:TE}{pos:Pos}
noncomputable def PC (X:Cx) (e:CmpOp) (a b:Expr) (t:TE):Prop:=
 ∀(k8:List (Addr×Obj)) (s:Shared) (U:St) (H:Hp) (Q:VK),Inv X k8 U H s->t U H Q →
  wpAny (model X.prog X.w) X.A (eval a X.env) (λv d=>wpAny (model X.prog X.w) X.A (eval b X.env) (λu c=>wpAny (model X.prog X.w) X.A (compareOp e v u) (EP X k8 U Q) X.xe c) X.xe d) X.xe s
def qY (b)(h:op≠ .In) (h2:op≠ .NotIn):behindInMarks op b=false:=by
 have c:(op==CmpOp.In)=false:=by cases op<;>first | rfl | exact absurd rfl h
 have a:(op==CmpOp.NotIn)=false:=by cases op<;>first | rfl | exact absurd rfl h2
 cases b<;>simp [behindInMarks,c,a]
def jdo (a:TE):TE:=λU H Q=>a U H λx H1=>Q (.bl (v9 (x= .non))) H1
def jc8 (a:TE):TE:=λU H Q=>a U H λx H1=>Q (.bl (!v9 (x= .non))) H1
def RelV.none_iff (r:RelV x v):(v==Value.none)=v9 (x= .non):=by
 cases x with
 | non=>cases r;rfl
 | bl _=>cases r;rfl
 | int _=>obtain⟨t,rfl⟩:=r;rfl
 | str _=>obtain⟨t,rfl⟩:=r;rfl
 | byt _=>obtain⟨t,rfl⟩:=r;rfl
 | flt _=>obtain⟨t,rfl⟩:=r;rfl
 | ref _=>cases r;rfl
 | ty _=>cases r;rfl
def zbv {j pos'}(f:PE X a ta):PC X .Is a (.Constant .none j pos') (jdo ta):=by
 intro b s U H Q I h
 refine jdF (f b s U H _ I h) ?_
 rintro v i ⟨x,c,g,d,e⟩
 exact Constant_none (is_none_gen ⟨.bl _,c,g,by rw [d.none_iff];rfl,e⟩)
def qaz {j pos'}(f:PE X a ta):PC X .IsNot a (.Constant .none j pos') (jc8 ta):=by
 intro b s U H Q I h
 refine jdF (f b s U H _ I h) ?_
 rintro v i ⟨x,c,g,d,e⟩
 exact Constant_none (isnot_none_gen ⟨.bl _,c,g,by rw [d.none_iff];rfl,e⟩)
def tB (t:TE):TT:=λU H Q=>t U H λx H1=> ∃c,x= .bl c/\Q c H1
def jbz (h:PC X op a b t) (h1:behindInMarks op b=false:=by first | exact qY _ (by decide) (by decide) | rfl):PE X (.Compare a [op] [b] pos) t:=λc s U H Q I d=>wpAny_Compare1 (h c s U H Q I d) h1
def qby (h:PC X op a b t) (h1:behindInMarks op b=false:=by first | exact qY _ (by decide) (by decide) | rfl):PT X (.Compare a [op] [b] pos) (tB t):=by
 intro e s U H Q I j
 refine wpAny_isTrue_Compare1 (jdF (h e s U H _ I j) λv o h1=>jdF h1 λu m k=>jdF k λc n ⟨x,f,l,g,i⟩=> ?_) h1
 obtain⟨d,rfl,q⟩:=i
 cases g
 exact wpAny_truthy_bool ⟨f,l,q⟩
variable {tA tB':TT}{rest:List Expr}
def xdr (t u:TT):TT:=λU H Q=>t U H λc H1=>if c=k9 then u U H1 Q else Q y9 H1
def zdZ (t u:TT):TT:=λU H Q=>t U H λc H1=>if c=k9 then Q k9 H1 else u U H1 Q
def jdv (t:TT):TT:=λU H Q=>t U H λc H1=>Q (!c) H1
def xb7 (d:PT X a tA):PW X (.BoolOp .And [a] pos) tA:=by
 intro g b s U H Q I h
 refine isTrue_and (jdF (d b s U H Q I h) λc f e=> ?_)
 cases c with
 | true=>exact isTrue_and_nil e
 | false=>exact e
def zcE (d:PT X a tA):PW X (.BoolOp .Or [a] pos) tA:=by
 intro g b s U H Q I h
 refine isTrue_or (jdF (d b s U H Q I h) λc f e=> ?_)
 cases c with
 | false=>exact isTrue_or_nil e
 | true=>exact e
def qcJ (l:PT X a tA) (k:PW X (.BoolOp .And (b::rest) pos) tB'):PW X (.BoolOp .And (a::b::rest) pos) (xdr tA tB'):=by
 intro j d s U H Q I h
 refine isTrue_and (jdF (l d s U H _ I h) ?_)
 rintro c i ⟨e,g,f⟩
 cases c with
 | true=>exact k j d i U e Q g f
 | false=>exact⟨e,g,f⟩
def qcQ (l:PT X a tA) (k:PW X (.BoolOp .Or (b::rest) pos) tB'):PW X (.BoolOp .Or (a::b::rest) pos) (zdZ tA tB'):=by
 intro j d s U H Q I h
 refine isTrue_or (jdF (l d s U H _ I h) ?_)
 rintro c i ⟨e,g,f⟩
 cases c with
 | true=>exact⟨e,g,f⟩
 | false=>exact k j d i U e Q g f
def jcC (e:PT X a tA):PT X (.UnaryOp .Not a pos) (jdv tA):=by
 intro b s U H Q I h
 exact isTrue_not (e b s U H (λc d=>Q (!c) d) I h)
def xbp {op}(h:PE X a t):PE X (.BoolOp op [a] pos) t:=λb s U H Q I c=>BoolOp_one (h b s U H Q I c)
end
noncomputable def SqL (K:Aa6) (H:Hp) (a:Addr) (xs:List V):Prop:=
 Rd H a (.lst xs) ∨
  ∃(o:Obj) (b:Array Value) (n:Nat),K.lookup a=some o/\o.cls= .type "list" /\o.dict=none/\o.data= .seq b n/\b.size<=sizeLine/\Vals xs b.toList
noncomputable def qdS (K:Aa6) (H:Hp) (a:Addr) (xs:List V):Prop:=
 Rd H a (.tup xs) ∨
  ∃(o:Obj) (b:Array Value) (n:Nat),K.lookup a=y0 o/\o.cls= .type "tuple" /\o.data= .seq b n/\b.size<=sizeLine/\Vals xs b.toList
noncomputable def zdm:Value->Option V
 | .none=>y0 .non
 | .bool b=>y0 (.bl b)
 | .int i _=>y0 (.int i)
 | .str x _=>y0 (.str x)
 | .bytes b _=>y0 (.byt b)
 | .float b _=>y0 (.flt b)
 | .ref a=>y0 (.ref a)
 | .type n=>y0 (.ty n)
 | _=>u0
def RelV.abs (r:RelV x u):zdm u=y0 x:=by
 cases x with
 | non=>cases r;rfl
 | bl _=>cases r;rfl
 | int _=>obtain⟨t,rfl⟩:=r;rfl
 | str _=>obtain⟨t,rfl⟩:=r;rfl
 | byt _=>obtain⟨t,rfl⟩:=r;rfl
 | flt _=>obtain⟨t,rfl⟩:=r;rfl
 | ref _=>cases r;rfl
 | ty _=>cases r;rfl
theorem RelV.inj (r:RelV x u) (q:RelV y u):x=y:=Ae5.inj (r.abs.symm.trans q.abs)
theorem Vals.inj: ∀ {xs ys}{a},Vals xs a->Vals ys a->xs=ys
 | _,_,_,.nil,.nil=>rfl
 | _,_,_,.cons r t,.cons b c=>by rw [r.inj b,Vals.inj t c]
section
variable {X:Cx}{k8:List (Addr×Obj)}{U:St}{H:Hp}{s:Shared}{a:Addr}{xs ys:List V}
def SqL.of {K:Aa6}(h:H a=y0 (.lst xs)):SqL K H a xs:= .inl (.inl h)
def Inv.list (I:Inv X k8 U H s) (h:SqL X.K H a xs): ∃b:List Value,Vals xs b/\PlainL s.heap a b.toArray/\xs.length<=sizeLine:=by
 rcases h with h | ⟨o,b,n,g,f,d,c,i,r⟩
 ·obtain⟨z,b,n,r,e⟩:=h.ok I.hok
  exact⟨b,r,⟨_,n,e,rfl,rfl,rfl⟩,z⟩
 ·refine⟨b.toList,r,⟨o,n,I.kIn a o g,f,d,by simpa using c⟩,?_⟩
  have e:=r.length
  simp only [An8]at e
  omega
def Inv.tuple (I:Inv X k8 U H s) (h:qdS X.K H a xs): ∃b:List Value,Vals xs b/\IsTup s.heap a b.toArray/\xs.length<=sizeLine:=by
 rcases h with h | ⟨o,b,n,f,d,c,g,r⟩
 ·obtain⟨z,b,r,p⟩:=h.ok I.hok
  exact⟨b,r,p.is,z⟩
 ·refine⟨b.toList,r,⟨o,I.kIn a o f,d,n,by simpa using c⟩,?_⟩
  have e:=r.length
  simp only [An8]at e
  omega
def Inv.list_inj (I:Inv X k8 U H s) (h:SqL X.K H a xs) (h':SqL X.K H a ys):xs=ys:=by
 obtain⟨c,r,⟨o,n,e,_,_,d⟩,_⟩:=I.list h
 obtain⟨b,i,⟨l,k,g,_,_,f⟩,_⟩:=I.list h'
 rw [e]at g;cases g
 rw [d]at f
 injection f with j _
 have:c=b:=by simpa using congrArg Array.toList j
 subst this
 exact r.inj i
def Inv.tuple_inj (I:Inv X k8 U H s) (h:qdS X.K H a xs) (h':qdS X.K H a ys):xs=ys:=by
 obtain⟨c,r,⟨o,e,_,n,d⟩,_⟩:=I.tuple h
 obtain⟨b,i,⟨l,g,_,k,f⟩,_⟩:=I.tuple h'
 rw [e]at g;cases g
 rw [d]at f
 injection f with j _
 have:c=b:=by simpa using congrArg Array.toList j
 subst this
 exact r.inj i
end
abbrev Cx.wish (X:Cx) (E:Value->Shared->Prop):Cx:= { X with xe:=E }
abbrev Cx.nox (X:Cx):Cx:=X.wish λ_ _=>False
theorem Cx.Ok.wish {X:Cx}(ok:X.Ok) (E:Value->Shared->Prop):(X.wish E).Ok:=
 ⟨ok.mod,ok.kind,ok.glob,ok.blt,ok.above,ok.inj,ok.has,ok.cab,ok.hd,ok.frames,ok.stk,ok.exf,ok.bs,ok.bsz,ok.noex,ok.exfs,ok.funs,ok.frf⟩
def Cx.Ok.unwish {X:Cx}(ok:(X.wish E).Ok):X.Ok:=
 ⟨ok.mod,ok.kind,ok.glob,ok.blt,ok.above,ok.inj,ok.has,ok.cab,ok.hd,ok.frames,ok.stk,ok.exf,ok.bs,ok.bsz,ok.noex,ok.exfs,ok.funs,ok.frf⟩
section
variable {X:Cx}{k8:List (Addr×Obj)}{U:St}{H:Hp}{s:Shared}{E:Value->Shared->Prop}
theorem Inv.wish (I:Inv X k8 U H s) (E):Inv (X.wish E) k8 U H s:=⟨I.ok.wish E,I.os,I.bare,I.base,I.loc,I.cell,I.free,I.freeC,I.pin,I.hok,I.len⟩
theorem Inv.unwish (I:Inv (X.wish E) k8 U H s):Inv X k8 U H s:=⟨I.ok.unwish,I.os,I.bare,I.base,I.loc,I.cell,I.free,I.freeC,I.pin,I.hok,I.len⟩
theorem SP.unwish (h:SP (X.wish E) k8 D f s'):SP X k8 D f s':=by
 cases f with
 | next=>obtain⟨b,a,I,q⟩:=h;exact⟨b,a,I.unwish,q⟩
 | brk=>obtain⟨b,a,I,q⟩:=h;exact⟨b,a,I.unwish,q⟩
 | cont=>obtain⟨b,a,I,q⟩:=h;exact⟨b,a,I.unwish,q⟩
 | ret u=>obtain⟨v,b,a,I,r,q⟩:=h;exact⟨v,b,a,I.unwish,r,q⟩
end
section
variable {X:Cx}{st:Stmt}{rest:List Stmt}{t u:TS}{e:Expr}{te:TE}{pos:Pos}
def qc8:TS:=λD U H=>D.nx U H
def jdp (t u:TS):TS:=λD U H=>t { D with nx:=u D } U H
def qb8:PSs X [] qc8:=λ_ _ U H _ I h=>wpAny_execs_nil ⟨U,H,I,h⟩
def za4 (h1:PS X st t) (h2:PSs X rest u):PSs X (st::rest) (jdp t u):=by
 intro a s U H D I h
 refine wpAny_execs_cons (jdF (h1 a s U H { D with nx:=u D } I h) λf b q=> ?_)
 cases f with
 | next=>
  obtain⟨e,c,d,q⟩:=q
  exact h2 a b e c D d q
 | ret v=>exact q
 | brk=>exact q
 | cont=>exact q
def zb6 (h1:PS X st t):PSs X [st] t:=by
 intro a s U H D I h
 refine wpAny_execs_cons (jdF (h1 a s U H D I h) λf b q=> ?_)
 cases f with
 | next=>exact wpAny_execs_nil q
 | ret v=>exact q
 | brk=>exact q
 | cont=>exact q
def Inv.quiet (I:Inv X k8 U H s):interactive X.env=false:=by simp [interactive,I.ok.kind]
def xc6 (a:TE):TS:=λD U H=>a U H λ_ H1=>D.nx U H1
def JK (c:PE X e te) (d:swapsWith e u0 pos.line X.env=pure false:=by rfl):PS X (.Expr e pos) (xc6 te):=by
 intro a s U H D I h
 exact wpAny_Expr_any (jdF (c a s U H _ I h) λv i ⟨x,b,g,j,f⟩=>⟨U,b,g,f⟩) I.quiet d
def qdn (a:TE):TS:=λD U H=>a U H D.rt
def qbm (c:PE X e te):PS X (.Return (y0 e) pos) (qdn te):=by
 intro a s U H D I h
 exact wpAny_Return_some (jdF (c a s U H _ I h) λv i ⟨x,b,g,d,f⟩=>⟨x,U,b,g,d,f⟩)
def xdt (c:TT) (t u:TS):TS:=λD U H=>c U H λb H1=>if b=k9 then t D U H1 else u D U H1
def qc6 (l:PT X c tc) (m:PSs X a t) (k:PSs X b u):PS X (.If c a b pos) (xdt tc t u):=by
 intro e s U H D I h
 refine wpAny_If (jdF (l e s U H _ I h) ?_)
 rintro d f ⟨g,j,i⟩
 cases d with
 | true=>exact m e f U g D j i
 | false=>exact k e f U g D j i
end
abbrev TG:=V->St->Hp->(St->Hp->Prop)->Prop
abbrev zdG:=List V->St->Hp->(St->Hp->Prop)->Prop
noncomputable def PG (X:Cx) (a:Expr) (t:TG):Prop:=
 ∀(k8:List (Addr×Obj)) (s:Shared) (U:St) (H:Hp) (v:V) (u:Value) (Q:St->Hp->Prop),Inv X k8 U H s->RelV v u->t v U H Q →
  wpAny (model X.prog X.w) X.A (assign a X.env u) (λ_ s'=> ∃b H',Inv X k8 b H' s'/\Q b H') X.xe s
noncomputable def xd7 (X:Cx) (ts:List Expr) (t:zdG):Prop:=
 ∀(k8:List (Addr×Obj)) (s:Shared) (U:St) (H:Hp) (b:List V) (a:List Value) (Q:St->Hp->Prop),Inv X k8 U H s->Vals b a->t b U H Q →
  wpAny (model X.prog X.w) X.A (assignInOrder ((assignEach ts X.env).map (·.2)) a) (λ_ s'=> ∃c H',Inv X k8 c H' s'/\Q c H') X.xe s
abbrev jdh:=V->V->V->Hp->(Hp->Prop)->Prop
noncomputable def qcP (X:Cx) (t:jdh):Prop:=
 ∀(k8:List (Addr×Obj)) (s:Shared) (U:St) (H:Hp) (o i v:V) (a b u:Value) (Q:Hp->Prop),Inv X k8 U H s->RelV o a->RelV i b->RelV v u->t o i v H Q →
  wpAny (model X.prog X.w) X.A (setItem a b u) (λ_ s'=> ∃H',Inv X k8 U H' s'/\Q H') X.xe s
section
variable {X:Cx}{pos:Pos}
def QR (i:Nat):TG:=λv U H Q=>Q (U.set i (y0 v)) H
def jaL (f:X.N.Nodup) (e:X.N[i]? =y0 x) (c:zdP X.env.scope x) (b:X.fn x=k9\/X.env.scope.names.lookup x=y0 .local:=by first | exact .inl rfl | exact .inr rfl | assumption):PG X (.Name x pos) (QR i):=by
 intro a s U H v u Q I r h
 exact wpAny_assign_Name (zl I f e c r (λg d=>⟨_,H,d,h⟩) b)
def jdr:zdG:=λa U H Q=>a= []/\Q U H
def zc8 (t:TG) (u:zdG):zdG:=λa U H Q=> ∃v r,a=v::r/\t v U H λb H'=>u r b H' Q
def qbG:xd7 X [] jdr:=by
 intro a s U H c b Q I r h
 obtain⟨e,h⟩:=h
 subst e
 cases r
 exact assignInOrder_nil ⟨U,H,I,h⟩
def qa4 (h1:PG X e t) (h2:xd7 X es u)
 (g:(assignEach (e::es) X.env).map (·.2)=assign e X.env::(assignEach es X.env).map (·.2):=by rfl):xd7 X (e::es) (zc8 t u):=by
 intro a s U H l m Q I r h
 obtain⟨v,n,d,h⟩:=h
 subst d
 cases r with
 | cons r i=>
  rw [g]
  refine assignInOrder_cons (jdF (h1 a s U H _ _ _ I r h) ?_)
  rintro _ j ⟨f,b,k,c⟩
  exact h2 a j f b _ _ Q k i c
def xdl (K:Aa6) (n:Nat) (t:zdG):TG:=λv U H Q=> ∃a xs,v= .ref a/\qdS K H a xs/\xs.length=n/\t xs U H Q
def qcB (j:X.calm=k9) (h:xd7 X es t)
 (x:(assignEach es X.env).length=n:=by rfl) (d:(assignEach es X.env).findIdx? (·.1)=none:=by rfl):PG X (.Tuple es k pos) (xdl X.K n t):=by
 intro c s U H v u Q I r f
 obtain⟨a,g,i,l,z,f⟩:=f
 subst i
 cases r
 obtain⟨m,rv,w,A⟩:=I.tuple l
 refine assign_Tuple_tuple (I.ok.hd j) w (by simp [x,←z,rv.length]) d λq p=> ?_
 have y:Inv X c U H { s with heap:=q }:=I.kept λb o e=>p b o (Ac3 (Ab5 e)) e
 exact h c _ U H g _ Q y (by simpa using rv) f
def qds (b a:TE) (t:jdh):TG:=λv U H Q=>b U H λo H1=>a U H1 λi H2=>t o i v H2 λc=>Q U c
def jaz (k:PE X o to) (l:PE X i ti) (m:qcP X t)
 (p: ∀v,assign (.Subscript o i pos) X.env v=(do
   let b ←holding [v] (eval o X.env)
   let c ←holding [v,b] (eval i X.env)
   standAt pos
   holding [v,b,c] (setItem b c v)
   release [v,b,c] []):=by intro _;rfl):PG X (.Subscript o i pos) (qds to ti t):=by
 intro a s U H v u Q I r h
 rw [p]
 refine wpAny_bind (wpAny_holding (jdF (k a s U H _ I h) ?_))
 rintro b q ⟨x,d,A,f,g⟩
 refine wpAny_bind (wpAny_holding (jdF (l a q U d _ A g) ?_))
 rintro c j ⟨y,w,D,C,z⟩
 refine wpAny_bind (wpAny_standAt (wpAny_bind (wpAny_holding (jdF (m a j U w x y v b c u _ D f C r z) ?_))))
 rintro _ E ⟨B,e,n⟩
 exact wpAny_release ⟨U,B,e,n⟩
def zbD (a:TE) (g:TG):TS:=λD U H=>a U H λx H1=>g x U H1 D.nx
def WP (l:PE X e te) (d:PG X tg g) (i:swapsWithSole [tg] e pos.line X.env=pure false:=by rfl) (m:swappedStores [tg] e X.env=pure none:=by rfl)
 (h1:(assignEach [tg] X.env).map (·.2)= [assign tg X.env]:=by rfl):PS X (.Assign [tg] e pos) (zbD te g):=by
 intro a s U H D I h
 refine wpAny_Assign_stores (jdF (l a s U H _ I h) λv k ⟨x,b,j,c,f⟩=> ?_) i m
 rw [h1]
 exact jdF (d a k U b x v _ j c f) λ_ n q=>q
def xaA (o:X.N.Nodup) (f:X.N[i]? =y0 x) (k:zdP X.env.scope x) (l:PE X e te) (g:swapsWith e (y0 (.Name x pos')) pos.line X.env=pure false:=by rfl) (j:X.fn x=k9\/X.env.scope.names.lookup x=y0 .local:=by first | exact .inl rfl | exact .inr rfl | assumption):
 PS X (.Assign [.Name x pos'] e pos) (zbD te (QR i)):=by
 intro a s U H D I h
 refine wpAny_Assign_Name (jdF (l a s U H _ I h) λv q ⟨y,b,m,c,d⟩=> ?_) g
 exact zl m o f k c (λp n=>⟨_,b,n,d⟩) j
end
section
variable {X:Cx}{pos:Pos}
noncomputable def jcp (c:TT) (tb:TS):TS:=λD U H=> ∃W:Nat->St->Hp->Prop,(∃ m,W m U H)/\ ∀m U H,W m U H →
 c U H λb H1=>if b=k9 then ∃N:St->Hp->Prop,(∀ d H',N d H'-> ∃a,a<m/\W a d H')/\tb { D with nx:=N,ct:=N,bk:=D.nx } U H1 else D.nx U H1
def ja5 (t:PassesOwn (model X.prog X.w) X.A X.env X.xe) (E:PT X c tc) (C:PSs X body tb):PS X (.While c body [] pos) (jcp tc tb):=by
 intro a s U H D I h
 obtain⟨W,⟨A,F⟩,d⟩:=h
 refine wpAny_While (codeAny_whileLoop (λn G=> ∃u w,Inv X a u w G/\W n u w) ?_ A ⟨U,H,I,F⟩)
 rintro n K ⟨i,r,L,J⟩
 refine wpAny_passesOwn t (jdF (E a K i r _ L (d n i r J)) ?_)
 rintro b B ⟨x,y,k⟩
 cases b with
 | true=>
  obtain⟨N,z,k⟩:=k
  refine wpAny_passesOwn t (jdF (C a B i x _ y k) λf M j=> ?_)
  cases f with
  | next=>
   obtain⟨e,g,l,p⟩:=j
   obtain⟨m,q,o⟩:=z e g p
   exact⟨m,q,e,g,l,o⟩
  | cont=>
   obtain⟨e,g,l,p⟩:=j
   obtain⟨m,q,o⟩:=z e g p
   exact⟨m,q,e,g,l,o⟩
  | brk=>exact j
  | ret v=>exact j
 | false=>
  exact wpAny_execs_nil ⟨i,x,y,k⟩
end
structure It where
 go:Nat->Hp->Prop
 yld:Nat->Hp->V->Hp->Prop
 stop:Nat->Hp->Prop
noncomputable def j3 (X:Cx) (a:List (Addr×Obj)) (H:Hp) (b:Addr):Prop:=
 H b=u0/\b≠X.env.locals/\b∉X.fs/\(b∈X.ex\/X.s₀.heap.objs.size<=b)/\(∀ x c,X.env.cells.lookup x=y0 c->c≠b)/\ ∀p∈X.pn++a,p.1≠b
def Inv.fpOk (I:Inv X k8 U H s) (a:s.heap.objs.size<=b) (d:H' b=u0):j3 X k8 H' b:=by
 refine⟨d,Al9 (Ab1 I.lt a),I.nofs a,.inr (Ac I.sz a),λx c e z=> ?_,λp f z=> ?_⟩
 ·obtain⟨v,q⟩:=I.cell x c e
  exact absurd (Ab1 q.lt (by rw [z];exact a)) (Ah1 _)
 ·exact absurd (Ab1 (Ab5 (I.pin p f).1) (by rw [z];exact a)) (Ah1 _)
structure xa5 (P:Program) (w:World) (K:Aa6) (tg:Expr) (J:It) (fp:List Addr) (it:Addr) (tn:Nat->Heap->Prop):Prop where
 mem:it∈fp
 obj: ∀i h,tn i h-> ∀b∈fp,∃o,h.get? b=y0 o/\ ∀v,o.data≠ .cell v
 keep: ∀i h h',tn i h->(∀ b∈fp,∀o,h.get? b=y0 o->h'.get? b=y0 o)->tn i h'
 item: ∀(X:Cx),X.prog=P->X.w=w->X.K=K->X.calm=k9-> ∀(i:Nat) (k8:List (Addr×Obj)) (s:Shared) (U:St) (H:Hp) (E:Value->Shared->Prop),Inv X k8 U H s->(∀ b∈fp,j3 X k8 H b)->tn i s.heap->J.go i H →
  wpAny (model P w) X.A (pyNext (.ref it)) (λr s1=> ∃u,r=y0 u ∧
   wpAny (model P w) X.A (letOwnedTupleGo tg (.ref it) u) (λ_ s2=> ∃x H',Inv X k8 U H' s2/\RelV x u/\J.yld i H x H'/\tn (i+1) s2.heap/\ ∀b∈fp,H' b=u0) E s1) E s
 done: ∀(X:Cx),X.prog=P->X.w=w->X.K=K->X.calm=k9-> ∀(i:Nat) (k8:List (Addr×Obj)) (s:Shared) (U:St) (H:Hp) (E:Value->Shared->Prop),Inv X k8 U H s->(∀ b∈fp,j3 X k8 H b)->tn i s.heap->J.stop i H →
  wpAny (model P w) X.A (pyNext (.ref it)) (λr s1=>r=u0/\Inv X k8 U H s1) E s
 self: ∀(A:Around) (i:Nat) (s:Shared) (Q:Value->Shared->Prop) (E:Value->Shared->Prop),tn i s.heap->Q (.ref it) s->wpAny (model P w) A (pyIter (.ref it)) Q E s
abbrev TI:=St->Hp->(It->Hp->Prop)->Prop
noncomputable def jdC (X:Cx) (a:List (Addr×Obj)) (U:St) (g:Expr) (R:It->Hp->Prop) (c:Value) (d:Shared):Prop:=
 ∃(e:Addr) (fp:List Addr) (f:Nat->Heap->Prop) (J:It) (H':Hp),c= .ref e/\Inv X a U H' d/\xa5 X.prog X.w X.K g J fp e f/\f 0 d.heap/\(∀ b∈fp,j3 X a H' b)/\R J H'
noncomputable def PI (X:Cx) (c a:Expr) (d:TI):Prop:=
 ∀(k8:List (Addr×Obj)) (s:Shared) (U:St) (H:Hp) (R:It->Hp->Prop),Inv X k8 U H s->d U H R →
  wpAny (model X.prog X.w) X.A (eval a X.env) (λv b=>wpAny (model X.prog X.w) X.A (pyIter v) (jdC X k8 U c R) X.xe b) X.xe s
def X9 (c:s.heap.get? it=y0 o) (d:o.cls= .type n) (b:o.data= .fields vs)
 (e: ["enumerate", "zip", "dict_itemiterator", "dict_reverseitemiterator", "odict_iterator", "itertools.zip_longest", "itertools.pairwise"].contains n=false) (a:Q () s):wpAny M A (letOwnedTupleGo tg (.ref it) u) Q E s:=by
 unfold letOwnedTupleGo
 cases tg<;>first
  | exact wpAny_pure a
  | (cases u<;>first
      | exact wpAny_pure a
      | (refine wpAny_bind (wpAny_load c ?_)
         rw [d,b]
         show wpAny M A (if (["enumerate", "zip", "dict_itemiterator", "dict_reverseitemiterator", "odict_iterator", "itertools.zip_longest", "itertools.pairwise"].contains n&&vs[0]? ==some (rawInt _))=true then _ else _) Q E s
         rw [if_neg (by intro h;rw [e,Am0]at h;cases h)]
         exact wpAny_pure a))
noncomputable def qdU (K:Aa6) (a:Addr):It:=
 ⟨λi H=> ∃xs x,SqL K H a xs/\xs[i]? =y0 x,λi H x H'=>H'=H/\ ∀xs,SqL K H a xs->xs[i]? =y0 x,λi H=> ∃xs,SqL K H a xs/\xs.length<=i⟩
noncomputable def qdy (K:Aa6) (a:Addr):It:=
 ⟨λi H=> ∃xs x,qdS K H a xs/\xs[i]? =y0 x,λi H x H'=>H'=H/\ ∀xs,qdS K H a xs->xs[i]? =y0 x,λi H=> ∃xs,qdS K H a xs/\xs.length<=i⟩
def qdM (a:Int) (n:Nat):It:=⟨λi _=>i<n,λi H x H'=>H'=H/\x= .int (a+i),λi _=>n<=i⟩
def xar {K:Aa6}(a it):xa5 P w K tg (qdU K a) [it] it (λi h=>h.IsListIter it a i) where
 mem:=by simp
 obj:=λi h f b j=>by
  have e:=by simpa using j
  subst e
  obtain⟨o,e,c,d⟩:=f
  exact⟨o,e,λv z=>by rw [d]at z;cases z⟩
 keep:=λi h D f k=>f.at λo e=>k it (by simp) o e
 item:=by
  intro X hP J G L i g s U H E I m f r
  subst hP J G
  obtain⟨M,x,n,C⟩:=r
  obtain⟨B,rv,p,N⟩:=I.list n
  obtain⟨u,O,Q⟩:=rv.get C
  obtain⟨y,q,R,F,A,t⟩:=m it (by simp)
  refine wpAny_pyNext_list_item f p.isList (by simpa using O) λD l V=> ?_
  have W:Inv X g U H { s with heap:=D }:=I.turned (λb o j e=>(V.2 b j).trans e) y q F A t
  obtain⟨o,e,c,d⟩:=id l
  exact⟨u,rfl,X9 e c d (by decide) ⟨x,H,W,Q,⟨rfl,λY T=>by rw [I.list_inj T n];exact C⟩,l,λb j=>(m b j).1⟩⟩
 done:=by
  intro X hP J G L i g s U H E I m f r
  subst hP J G
  obtain⟨M,n,C⟩:=r
  obtain⟨B,rv,p,N⟩:=I.list n
  obtain⟨y,q,R,F,A,t⟩:=m it (by simp)
  have Z:=rv.length
  exact wpAny_pyNext_list_end (I.ok.hd L) f p.isList (by simp;omega) λD S=>⟨rfl,I.turned (λb o j e=>S b o j e) y q F A t⟩
 self:=λ_ _ _ _ _ f h=>wpAny_pyIter_listiter f h
def Q6 {K:Aa6}(a it):xa5 P w K tg (qdy K a) [it] it (λi h=>h.IsTupleIter it a i) where
 mem:=by simp
 obj:=λi h f b j=>by
  have e:=by simpa using j
  subst e
  obtain⟨o,e,c,d⟩:=f
  exact⟨o,e,λv z=>by rw [d]at z;cases z⟩
 keep:=λi h D f k=>f.at λo e=>k it (by simp) o e
 item:=by
  intro X hP J G L i g s U H E I m f r
  subst hP J G
  obtain⟨M,x,n,C⟩:=r
  obtain⟨B,rv,p,N⟩:=I.tuple n
  obtain⟨u,O,Q⟩:=rv.get C
  obtain⟨y,q,R,F,A,t⟩:=m it (by simp)
  refine wpAny_pyNext_tuple_item f (p) (by simpa using O) λD l V=> ?_
  have W:Inv X g U H { s with heap:=D }:=I.turned (λb o j e=>(V.2 b j).trans e) y q F A t
  obtain⟨o,e,c,d⟩:=id l
  exact⟨u,rfl,X9 e c d (by decide) ⟨x,H,W,Q,⟨rfl,λY T=>by rw [I.tuple_inj T n];exact C⟩,l,λb j=>(m b j).1⟩⟩
 done:=by
  intro X hP J G L i g s U H E I m f r
  subst hP J G
  obtain⟨M,n,C⟩:=r
  obtain⟨B,rv,p,N⟩:=I.tuple n
  obtain⟨y,q,R,F,A,t⟩:=m it (by simp)
  have Z:=rv.length
  exact wpAny_pyNext_tuple_end (I.ok.hd L) f (p) (by simp;omega) λD S=>⟨rfl,I.turned (λb o j e=>S b o j e) y q F A t⟩
 self:=λ_ _ _ _ _ f h=>wpAny_pyIter_tupleiter f h
def W5 {K:Aa6}(it) (lo) (n):xa5 P w K tg (qdM lo n) [it] it (λi h=>IsRangeIter h it (lo+(i:Nat)*1) ((n:Int)-(i:Nat)) 1) where
 mem:=by simp
 obj:=λi h a b d=>by
  have e:=by simpa using d
  subst e
  exact⟨_,a,λv z=>by
   have B:=z
   cases B⟩
 keep:=λi h u a k=>k it (by simp) _ a
 item:=by
  intro X hP y A m i c s U H E I g a l
  subst hP y A
  obtain⟨q,j,C,x,r,p⟩:=g it (by simp)
  have W:=Walks.range (prog:=X.prog) (w:=X.w) (I.ok.hd m) it lo 1 n
  refine W.item i s _ _ l a λv u G D f J=> ?_
  obtain⟨t,rfl⟩:=D
  have L:Inv X c U H { s with heap:=u,toks:=G }:=I.turned (λb o d e=>J b o (by simpa using d) e) q j x r p
  refine⟨_,rfl,X9 f rfl rfl (by decide) ⟨.int (lo+i),H,L,⟨t,?_⟩,⟨rfl,rfl⟩,f,λb d=>(g b d).1⟩⟩
  rw [Int.mul_one]
 done:=by
  intro X hP y A m i c s U H E I g a l
  obtain⟨q,j,C,x,r,p⟩:=g it (by simp)
  exact wpAny_pyNext_range_end (I.ok.hd m) a (by have:n<=i:=l;omega) λu F=>⟨rfl,I.turned (λb o d e=>F b o d e) q j x r p⟩
 self:=λ_ _ _ _ _ a h=>wpAny_pyIter_rangeiter a h
section
variable {X:Cx}{tg:Expr}
def X5 {a c:Int}(I:Inv X k8 U H s) (h1: -(2 ^ 62)<=a) (h2:a<2 ^ 62) (j: -(2 ^ 62)<=c) (f:c<2 ^ 62)
 (q:R (qdM a (c-a).toNat) H):wpAny (model X.prog X.w) X.A (pyIter (.ref s.heap.objs.size)) (jdC X k8 U tg R) E { s with heap:=s.heap.push { cls:= .type "range",data:= .fields #[.int a t,.int c u,.int 1 v] },toks:=tk }:=by
 refine wpAny_pyIter_range (IsRange.new ..) (small_one h1 h2 j f) ?_
 have d:Inv X k8 U H { s with heap:=s.heap.push { cls:= .type "range",data:= .fields #[.int a t,.int c u,.int 1 v] },toks:=tk }:=I.kept fun b o e=>Heap.get?_push_of_some _ e
 refine⟨(s.heap.push { cls:= .type "range",data:= .fields #[.int a t,.int c u,.int 1 v] }).objs.size,[(s.heap.push { cls:= .type "range",data:= .fields #[.int a t,.int c u,.int 1 v] }).objs.size],_,_,H,rfl,
  d.kept λb o e=>Aa2 _ e,W5 _ a (c-a).toNat,?_,λb h=> ?_,q⟩
 ·have i:a+ (0:Nat)*1=a:=by simp
  have g: ((c-a).toNat:Nat)- (0:Nat)=Builtin.Range.rangeSize a c 1:=by rw [rangeSize_one];split<;>omega
  rw [i,g]
  exact Ab8 _ rfl
 ·have e:b=(s.heap.push { cls:= .type "range",data:= .fields #[.int a t,.int c u,.int 1 v] }).objs.size:=by simpa using h
  subst e
  exact d.fpOk (Aa5 _) (d.hok.fresh (Aa5 _))
def qc7 (a:TA):TI:=λU H R=>a U H λb H1=> ∃j:Int,b= [.int j]/\ -(2 ^ 62)<=j/\j<2 ^ 62/\R (qdM 0 j.toNat) H1
noncomputable def jcV (a:TA):TI:=λU H R=>a U H λb H1=> ∃i j:Int,b= [.int i,.int j]/\(-(2 ^ 62)<=i/\i<2 ^ 62/\ -(2 ^ 62)<=j/\j<2 ^ 62)/\R (qdM i (j-i).toNat) H1
def qaJ (f:Gl X "range") (l:X.mg "range" =none) (k:PA X [a] ta) (g:starEach [a] X.env= [(false,eval a X.env)]:=by rfl):PI X tg (.Call (.Name "range" p) [a] [] pos) (qc7 ta):=by
 intro b s U H R I h
 refine Call_ (Jx I f l boot_range (PyProof.Rows.callWith_type1 (jdF (k pos b s U H _ I h) λv w ⟨u,o,n,d,c⟩=> ?_) g rfl))
 obtain⟨j,e,c,m,q⟩:=c
 subst e
 cases d with
 | cons r i=>
  cases i
  obtain⟨t,rfl⟩:=r
  exact call_range_1 (X5 n (by omega) (by omega) c m (by simpa using q))
def qah (l:Gl X "range") (v:X.mg "range" =none) (u:PA X [a,b] ta) (n:starEach [a,b] X.env= [(false,eval a X.env),(false,eval b X.env)]:=by rfl) (d:starEach [b] X.env= [(false,eval b X.env)]:=by rfl):
 PI X tg (.Call (.Name "range" p) [a,b] [] pos) (jcV ta):=by
 intro c s U H R I h
 refine Call_ (Jx I l v boot_range (PyProof.Rows.callWith_type1 (jdF (u pos c s U H _ I h) λC D ⟨A,z,y,k,f⟩=> ?_) (by rw [n,d]) (by rw [d];rfl)))
 obtain⟨i,j,e,⟨f,x,o,m⟩,q⟩:=f
 subst e
 cases k with
 | cons r g=>
  cases g with
  | cons w g=>
   cases g
   obtain⟨t,rfl⟩:=r
   obtain⟨B,rfl⟩:=w
   exact call_range_2 (X5 y f x o m q)
noncomputable def zdj (d:TI) (g:TG) (tb:TS):TS:=λD U H=>d U H λJ H1=> ∃W:Nat->Nat->St->Hp->Prop,(∃ m,W 0 m U H1)/\ ∀i m U H,W i m U H →
 (J.stop i H/\D.nx U H)\/(J.go i H/\ ∃N:St->Hp->Prop,(∀ b H',N b H'-> ∃a,a<m/\W (i+1) a b H')/\ ∀x H',J.yld i H x H'->g x U H' λc H2=>tb { D with nx:=N,ct:=N,bk:=D.nx } c H2)
def jB (a:List Addr) (h:Heap):List (Addr×Obj):=a.filterMap λb=>(h.get? b).map λo=>(b,o)
def Qi (a:b∈fp) (e:h.get? b=y0 o):(b,o)∈jB fp h:=Ao3.mpr ⟨b,a,by rw [e];rfl⟩
def ZP (d:p∈jB fp h):p.1∈fp/\h.get? p.1=y0 p.2:=by
 obtain⟨b,c,e⟩:=Ao3.mp d
 cases q:h.get? b with
 | none=>rw [q]at e;cases e
 | some o=>
  rw [q]at e
  have a:=Ae5.inj e
  subst a
  exact⟨c,q⟩
def Inv.pinned (I:Inv X k8 U H s) (h: ∀b∈fp,j3 X k8 H b) (j: ∀b∈fp,∃o,s.heap.get? b=y0 o/\ ∀v,o.data≠ .cell v):Inv X (k8++jB fp s.heap) U H s:=
 I.pins_of λp k=>(Ae1.mp k).elim (λz=>I.pin p (Ab2 _ z)) λz=>by
  obtain⟨a,e⟩:=ZP z
  obtain⟨f,g,i,_⟩:=h p.1 a
  obtain⟨o,c,d⟩:=j p.1 a
  rw [e]at c;cases c
  exact⟨e,f,g,i,d⟩
def Inv.unpinned (I:Inv X (k8++pl) U H s):Inv X k8 U H s:=I.pins_of λp a=>I.pin p (Ab2 _ (Ac5 _ a))
def zcx (E:PassesOwn (model X.prog X.w) X.A X.env X.xe) (hc:X.calm=k9) (hi:PI X tg iter wi) (hg:PG X tg g) (l:PSs X body tb)
 (hs: ∀x,foldedSetIterable iter X.env x=pure x:=by intro _;rfl):PS X (.For tg iter body [] pos) (zdj wi g tb):=by
 intro a s U H D I h
 refine wpAny_For (jdF (hi a s U H _ I h) λv s1 h1=>jdF h1 λitv s2 h2=> ?_) hs
 obtain⟨it,G,S,J,H2,e,I2,T,M,Z,W,⟨m0,w0⟩,B⟩:=h2
 subst e
 have q: ∀ {t},(∀ b∈G,t b=u0)-> ∀b∈G,j3 X a t b:=λhn b l=>⟨hn b l,(Z b l).2⟩
 refine codeAny_forLoop_any (λn s'=> ∃i z t,Inv X a z t s'/\S i s'.heap/\(∀ b∈G,t b=u0)/\W i n z t) ?_ m0 ⟨0,U,H2,I2,M,λb l=>(Z b l).1,w0⟩
 rintro n Y ⟨i,A,L,V,F,C,w3⟩
 rcases B i n A L w3 with⟨stop,qn⟩ | ⟨go,N,hN,step⟩
 ·refine wpAny_passesOwn E (jdF (T.done X rfl rfl rfl hc i a Y A L X.xe V (q C) F stop) ?_)
  rintro r s4 ⟨P,I4⟩
  subst P
  exact wpAny_execs_nil ⟨A,L,I4,qn⟩
 ·refine wpAny_passesOwn E (jdF (T.item X rfl rfl rfl hc i a Y A L X.xe V (q C) F go) ?_)
  rintro r s4 ⟨u,P,h4⟩
  subst P
  refine wpAny_passesOwn E (jdF h4 ?_)
  rintro _ s5 ⟨x,H5,I5,r5,y5,y,R⟩
  have O:=I5.pinned (q R) (T.obj _ _ y)
  refine wpAny_passesOwn E (jdF (hg _ s5 A H5 x u _ O r5 (step x H5 y5)) ?_)
  rintro _ s6 ⟨U6,H6,I6,q6⟩
  refine wpAny_passesOwn E (jdF (l _ s6 U6 H6 _ I6 q6) λf Q w=> ?_)
  have j: ∀ {k}{c},Inv X (a++jB G s5.heap) k c Q->N k c-> ∃m,m<n/\ ∃i z t,Inv X a z t Q/\S i Q.heap/\(∀ b∈G,t b=u0)/\W i m z t:=λ{k c} p K=>by
   obtain⟨m',hm,w7⟩:=hN k c K
   refine⟨m',hm,i+1,k,c,p.unpinned,T.keep _ _ _ y λb l o e=>(p.pin (b,o) (Ab2 _ (Ab2 _ (Qi l e)))).1,λb l=> ?_,w7⟩
   obtain⟨o,e,d⟩:=T.obj _ _ y b l
   exact(p.pin (b,o) (Ab2 _ (Ab2 _ (Qi l e)))).2.1
  cases f with
  | next=>obtain⟨k,c,p,K⟩:=w;exact j p K
  | cont=>obtain⟨k,c,p,K⟩:=w;exact j p K
  | brk=>obtain⟨k,c,p,w⟩:=w;exact⟨k,c,p.unpinned,w⟩
  | ret v=>obtain⟨x7,k,c,p,r7,w⟩:=w;exact⟨x7,k,c,p.unpinned,r7,w⟩
end
abbrev R2:=V->V->Hp->VK->Prop
noncomputable def qd4 (X:Cx) (f:Value->Value->Sem Value) (r:R2):Prop:=
 ∀(k8:List (Addr×Obj)) (s:Shared) (U:St) (H:Hp) (x y:V) (v u:Value) (Q:VK),Inv X k8 U H s->RelV x v->RelV y u->r x y H Q →
  wpAny (model X.prog X.w) X.A (f v u) (EP X k8 U Q) X.xe s
noncomputable def jdI (X:Cx) (f:Value->Sem Value) (r:V->Hp->VK->Prop):Prop:=
 ∀(k8:List (Addr×Obj)) (s:Shared) (U:St) (H:Hp) (x:V) (v:Value) (Q:VK),Inv X k8 U H s->RelV x v->r x H Q →
  wpAny (model X.prog X.w) X.A (f v) (EP X k8 U Q) X.xe s
noncomputable def Jm (X:Cx) (f:Value) (r:List V->Hp->VK->Prop):Prop:=
 ∀(k8:List (Addr×Obj)) (s:Shared) (U:St) (H:Hp) (xs:List V) (a:List Value) (Q:VK),Inv X k8 U H s->Vals xs a->r xs H Q →
  wpAny (model X.prog X.w) X.A (call f a) (EP X k8 U Q) X.xe s
noncomputable def jdm (X:Cx) (r:V->Hp->(Bool->Hp->Prop)->Prop):Prop:=
 ∀(k8:List (Addr×Obj)) (s:Shared) (U:St) (H:Hp) (x:V) (v:Value) (Q:Bool->Hp->Prop),Inv X k8 U H s->RelV x v->r x H Q →
  wpAny (model X.prog X.w) X.A (truthy v) (TP X k8 U Q) X.xe s
def jdN (r:R2) (a tb:TE):TE:=λU H Q=>a U H λx H1=>tb U H1 λy H2=>r x y H2 Q
def zd3 (r:V->Hp->VK->Prop) (a:TE):TE:=λU H Q=>a U H λx H1=>r x H1 Q
def rI (C:Int->Int->Prop) (g:Int->Int->V):R2:=λx y H Q=> ∃i j,x= .int i/\y= .int j/\C i j/\Q (g i j) H
def xd3 (g:Int->Int->V):R2:=λx y H Q=> ∃i j,x= .int i/\y= .int j/\Q (g i j) H
def rU (g:Int->V):V->Hp->VK->Prop:=λx H Q=> ∃i,x= .int i/\Q (g i) H
section
variable {X:Cx}{a b c:Expr}{ta tb tc:TE}{pos:Pos}
def zcZ (l:PE X a ta) (j:PE X b tb){R:V->V->Hp->Prop}(I:Inv X k8 U H s)
 (h:ta U H λx H1=>tb U H1 λy H2=>R x y H2){f:Value->Value->Sem Value}
 (k: ∀v u g x y H2,Inv X k8 U H2 g->RelV x v->RelV y u->R x y H2->wpAny (model X.prog X.w) X.A (f v u) Q X.xe g):
 wpAny (model X.prog X.w) X.A (eval a X.env) (λv e=>wpAny (model X.prog X.w) X.A (eval b X.env) (λu c=>wpAny (model X.prog X.w) X.A (f v u) Q X.xe c) X.xe e) X.xe s:=by
 refine jdF (l k8 s U H _ I h) ?_
 rintro v m ⟨x,H1,o,d,i⟩
 refine jdF (j k8 m U H1 _ o i) ?_
 rintro u g ⟨y,H2,q,p,n⟩
 exact k v u g x y H2 q d p n
def zc5 (e:qd4 X (binaryOp op) r) (i:PE X a ta) (f:PE X b tb):PE X (.BinOp a op b pos) (jdN r ta tb):=by
 intro c s U H Q I h
 exact wpAny_BinOp (zcZ i f I h λv u d x y j l g k q=>e c d U j x y v u Q l g k q)
def qcu (g:jdI X (unaryOp op) r) (i:PE X a ta):PE X (.UnaryOp op a pos) (zd3 r ta):=by
 intro b s U H Q I h
 exact UnaryOp_ (jdF (i b s U H _ I h) λv c ⟨x,d,j,e,f⟩=>g b c U d x v Q j e f)
def jdB {g:Int->Int->Int}
 (a: ∀ i j t u s Q E,C i j->Q (.int (g i j) s.toks) { s with toks:=s.toks+1 }->wpAny (model X.prog X.w) X.A (f (.int i t) (.int j u)) Q E s):
 qd4 X f (rI C λi j=> .int (g i j)):=by
 intro b s U H x y v u Q I e k h
 obtain⟨i,j,rfl,rfl,d,q⟩:=h
 obtain⟨t,rfl⟩:=e
 obtain⟨c,rfl⟩:=k
 exact a i j t c s _ _ d ⟨.int (g i j),H,I.tok _,⟨_,rfl⟩,q⟩
def xcO {g:Int->Int->Int}
 (a: ∀ i j t u s Q E,Q (.int (g i j) s.toks) { s with toks:=s.toks+1 }->wpAny (model X.prog X.w) X.A (f (.int i t) (.int j u)) Q E s):
 qd4 X f (xd3 λi j=> .int (g i j)):=by
 intro b s U H x y v u Q I d e h
 obtain⟨i,j,rfl,rfl,q⟩:=h
 obtain⟨t,rfl⟩:=d
 obtain⟨c,rfl⟩:=e
 exact a i j t c s _ _ ⟨.int (g i j),H,I.tok _,⟨_,rfl⟩,q⟩
def jcO {g:Int->Int->Bool}
 (a: ∀ i j t u s Q E,Q (.bool (g i j)) s->wpAny (model X.prog X.w) X.A (f (.int i t) (.int j u)) Q E s):
 qd4 X f (xd3 λi j=> .bl (g i j)):=by
 intro b s U H x y v u Q I d e h
 obtain⟨i,j,rfl,rfl,q⟩:=h
 obtain⟨t,rfl⟩:=d
 obtain⟨c,rfl⟩:=e
 exact a i j t c s _ _ ⟨.bl (g i j),H,I,rfl,q⟩
def qda (i j:Int):Prop:=0<j/\j<1073741824
def jdf (i j:Int):Prop:=0<=j/\j<=1000000/\i.natAbs<2 ^ 64
def CMul (i j:Int):Prop:=(-(2 ^ 64)<i/\i<2 ^ 64)\/(-(2 ^ 64)<j/\j<2 ^ 64)
def CMul.ok (h:CMul i j):IntMulOk i j:=by
 rcases h with⟨a,b⟩ | ⟨a,b⟩
 ·exact .of_left (intBits_le_64 a b)
 ·exact .of_right (intBits_le_64 a b)
def J9 (k):(0:Int)<=2 ^ k:=by
 exact Int.natCast_nonneg _
def jcF:qd4 X (binaryOp .Add) (xd3 λi j=> .int (i+j)):=xcO λ_ _ _ _ _ _ _ q=>add_int q
def qcI:qd4 X (binaryOp .Sub) (xd3 λi j=> .int (i-j)):=xcO λ_ _ _ _ _ _ _ q=>sub_int q
def zcG:qd4 X (binaryOp .Mult) (rI CMul λi j=> .int (i*j)):=jdB λ_ _ _ _ _ _ _ a q=>mul_int q a.ok
def jb1:qd4 X (binaryOp .FloorDiv) (rI qda λi j=> .int (i / j)):=jdB λi j _ _ _ _ _ a q=>by
 have c:=a.1
 have b:=a.2
 exact floordiv_int (by omega) (by rw [Al5 i (by omega)];exact q) (.inl (PyProof.noPylong_small (by omega)))
def qcK:qd4 X (binaryOp .Mod) (rI (λ_ j=>0<j) λi j=> .int (i % j)):=jdB λi j _ _ _ _ _ a q=>by
 have b:=a
 exact mod_int' (by omega) (by rw [Int.fmod_eq_emod_of_nonneg i (by omega)];exact q)
def xcM:qd4 X (binaryOp .Pow) (rI jdf λi j=> .int (i ^ j.toNat)):=jdB λ_ _ _ _ _ _ _ a q=>pow_int_small a.1 a.2.1 a.2.2 q
def jcm:qd4 X (binaryOp .LShift) (rI jdf λi j=> .int (i*2 ^ j.toNat)):=jdB λ_ _ _ _ _ _ _ a q=>lshift_int_small a.1 a.2.1 a.2.2 q
def qcj:qd4 X (binaryOp .RShift) (rI (λ_ j=>0<=j) λi j=> .int (i / 2 ^ j.toNat)):=jdB λi j _ _ _ _ _ a q=>
 rshift_int a (by rw [Al5 i (J9 _)];exact q)
def zcr:qd4 X (binaryOp .BitAnd) (xd3 λi j=> .int (Builtin.bitAnd i j)):=xcO λ_ _ _ _ _ _ _ q=>and_int q
def qcR:qd4 X (binaryOp .BitOr) (xd3 λi j=> .int (Builtin.bitOr i j)):=xcO λ_ _ _ _ _ _ _ q=>or_int q
def zdY {g:Int->Int}
 (a: ∀ i t s Q E,Q (.int (g i) s.toks) { s with toks:=s.toks+1 }->wpAny (model X.prog X.w) X.A (f (.int i t)) Q E s):
 jdI X f (rU λi=> .int (g i)):=by
 intro b s U H x v Q I c h
 obtain⟨i,rfl,q⟩:=h
 obtain⟨t,rfl⟩:=c
 exact a i t s _ _ ⟨.int (g i),H,I.tok _,⟨_,rfl⟩,q⟩
def zcq:jdI X (unaryOp .USub) (rU λi=> .int (-i)):=zdY λ_ _ _ _ _ q=>neg_int q
def qcg:jdI X (unaryOp .Invert) (rU λi=> .int (Builtin.bitNot i)):=zdY λ_ _ _ _ _ q=>invert_int q
end
section
variable {X:Cx}{a b c:Expr}{ta tb tc:TE}{pos:Pos}
def zbs (I:Inv X k8 U H s) (q:Q (.bl k) H) (e:k=k'):EP X k8 U Q (.bool k') s:=by
 subst e
 exact⟨.bl k,H,I,rfl,q⟩
def zc0:qd4 X (compareOp .Lt) (xd3 λi j=> .bl (v9 (i<j))):=jcO λ_ _ _ _ _ _ _ q=>lt_int q
def qc2:qd4 X (compareOp .LtE) (xd3 λi j=> .bl (v9 (i<=j))):=jcO λ_ _ _ _ _ _ _ q=>le_int q
def jc3:qd4 X (compareOp .Gt) (xd3 λi j=> .bl (v9 (j<i))):=jcO λ_ _ _ _ _ _ _ q=>gt_int q
def xcW:qd4 X (compareOp .GtE) (xd3 λi j=> .bl (v9 (j<=i))):=jcO λ_ _ _ _ _ _ _ q=>ge_int q
def ZV (e:qd4 X (compareOp op) r) (i:PE X a ta) (f:PE X b tb) (j:behindInMarks op b=y9):PE X (.Compare a [op] [b] pos) (jdN r ta tb):=by
 intro c s U H Q I h
 exact wpAny_Compare1 (zcZ i f I h λv u d x y k m g l q=>e c d U k x y v u Q m g l q) j
def zcj (t:TE):TT:=λU H Q=>t U H λx H'=> ∃k,x= .bl k/\Q k H'
def WU (m:qd4 X (compareOp op) r) (q:PE X a ta) (n:PE X b tb) (t:behindInMarks op b=y9):PT X (.Compare a [op] [b] pos) (zcj (jdN r ta tb)):=by
 intro d s U H Q I h
 refine wpAny_isTrue_Compare1 (jdF (q d s U H _ I h) λv w ⟨x,f,C,i,j⟩=>jdF (n d w U f _ C j) λu l ⟨y,A,F,E,B⟩=>
  jdF (m d l U A x y v u _ F i E B) λc G ⟨z,D,g,p,k,e,o⟩=> ?_) t
 subst e
 cases p
 exact wpAny_truthy_bool ⟨D,g,o⟩
noncomputable def zan (r d:R2) (b tb e:TE):TE:=λU H Q=>b U H λx H1=>tb U H1 λy H2=>r x y H2 λz a=> ∃k,z= .bl k ∧
 (if k=k9 then e U a λc f=>d y c f Q else Q (.bl y9) a)
def za8 (A:qd4 X (compareOp op) r) (g:qd4 X (compareOp op') r') (J:PE X a ta) (B:PE X b tb) (C:PE X c tc)
 (K:lastMarks [op,op'] [b,c]=false:=by with_unfolding_all rfl):PE X (.Compare a [op,op'] [b,c] pos) (zan r r' ta tb tc):=by
 intro f s U H Q I h
 refine Compare_chain (jdF (J f s U H _ I h) λv L ⟨x,n,S,p,q⟩=>chain_link (jdF (B f L U n _ S q) λu t ⟨y,M,T,m,O⟩=>
  jdF (A f t U M x y v u _ T p m O) λd E ⟨z,l,i,G,k,e,j⟩=> ?_)) K
 subst e
 cases G
 refine wpAny_truthy_bool ?_
 cases k with
 | false=>exact ite_ff ⟨.bl y9,l,i,rfl,j⟩
 | true=>exact ite_tt (chain_last (jdF (C f E U l _ i j) λN F ⟨w,R,o,P,D⟩=>g f F U R y w u N Q o m P D))
def ja7 (A:qd4 X (compareOp op) r) (g:qd4 X (compareOp op') r') (N:PE X a ta) (B:PE X b tb) (C:PE X c tc)
 (O:lastMarks [op,op'] [b,c]=false:=by with_unfolding_all rfl):PT X (.Compare a [op,op'] [b,c] pos) (zcj (zan r r' ta tb tc)):=by
 intro f s U H Q I h
 refine isTrue_chain (jdF (N f s U H _ I h) λv P ⟨x,n,I1,p,q⟩=>test_link (jdF (B f P U n _ I1 q) λu t ⟨y,R,I2,m,V⟩=>
  jdF (A f t U R x y v u _ I2 p m V) λd F ⟨z,l,i,M,k,e,j⟩=> ?_)) O
 subst e
 cases M
 refine wpAny_truthy_bool ?_
 cases k with
 | false=>
  obtain⟨k',K,D⟩:=j
  cases K
  exact ite_ff ⟨l,i,D⟩
 | true=>
  refine ite_tt (test_last (jdF (C f F U l _ i j) λS G ⟨w,Y,o,W,E⟩=>jdF (g f G U Y y w u S _ o m W E) ?_))
  rintro d' s5 ⟨z2,J,L,T,k2,Z,q5⟩
  subst Z
  cases T
  exact wpAny_truthy_bool ⟨J,L,q5⟩
noncomputable def xb2 (K:Aa6) (x:V) (H:Hp) (k:Bool):Prop:=
 match x with
 | .non=>k=y9
 | .bl b=>k=b
 | .int i=>k=(i != 0)
 | .str y=>y.length<=sizeLine/\k=((y.length:Int) != 0)
 | .byt y=>y.size<=sizeLine/\k=((y.size:Int) != 0)
 | .ref p=>(∃ xs,SqL K H p xs/\k= !xs.isEmpty)\/(∃ xs,qdS K H p xs/\k= !xs.isEmpty)\/ ∃a,H p=y0 (.dK a)/\k= !a.isEmpty
 | _=>False
def xaa (r:KV kvs vs):(!vs.isEmpty)= !kvs.isEmpty:=by
 cases r<;>rfl
def QG (r:Vals xs its):(!its.toArray.isEmpty)= !xs.isEmpty:=by
 cases r<;>simp
def ZB:(sizeLine:Nat)<2 ^ 63:=by rw [sizeLine_eq];decide
def w4:jdm X (λx H Q=> ∃k,xb2 X.K x H k/\Q k H):=by
 intro o s U H x v Q I d h
 obtain⟨k,e,q⟩:=h
 have B:=ZB
 have A:=sizeLine_eq
 cases x with
 | non=>
  cases d
  have a:=e
  subst a
  exact truthy_none ⟨H,I,q⟩
 | bl b=>
  cases d
  have a:=e
  subst a
  exact wpAny_truthy_bool ⟨H,I,q⟩
 | int i=>
  obtain⟨t,rfl⟩:=d
  have a:=e
  subst a
  exact PySem.P.truthy_int ⟨H,I,q⟩
 | str y=>
  obtain⟨t,rfl⟩:=d
  obtain⟨w,a⟩:y.length<=sizeLine/\k=((y.length:Int) != 0):=e
  subst a
  exact PySem.P.truthy_str (by omega) ⟨H,I.tok _,q⟩
 | byt y=>
  obtain⟨t,rfl⟩:=d
  obtain⟨w,a⟩:y.size<=sizeLine/\k=((y.size:Int) != 0):=e
  subst a
  exact PySem.W.truthy_bytes (by omega) ⟨H,I.tok _,q⟩
 | ref p=>
  cases d
  have a:=e
  rcases a with⟨u,g,a⟩ | ⟨u,g,a⟩ | ⟨f,g,a⟩
  ·subst a
   obtain⟨l,r,pl,n⟩:=I.list g
   have c:=r.length
   exact wpAny_truthy_list pl.isList (by simp only [Ab];omega) ⟨H,I.tok _,by rw [QG r];exact q⟩
  ·subst a
   obtain⟨l,r,pl,n⟩:=I.tuple g
   have c:=r.length
   exact truthy_tuple pl (by simp only [Ab];omega) ⟨H,I.tok _,by rw [QG r];exact q⟩
  ·subst a
   obtain⟨n,z,j,r,m⟩:f.length<=sizeLine/\(p==sysModules)=y9/\ ∃j,KV f j/\s.heap.DictOf (xD X.prog X.w) p j:=I.hok p _ g
   have c:=Paired.length r
   exact wpAny_truthy_dict z m (by omega) ⟨H,I.tok _,by rw [xaa r];exact q⟩
 | _=>exact(e).elim
def xaX (g:PE X a ta) (j: ∀b,isTrue a X.env b=(do let v ←b;standAt a.pos;holding [v] (truthy v))):
 PT X a (λU H Q=>ta U H λx H'=> ∃k,xb2 X.K x H' k/\Q k H'):=by
 intro c s U H Q I h
 exact isTrue_plain (jdF (g c s U H _ I h) λv i ⟨x,d,l,e,f⟩=>w4 c i U d x v Q l e f) (j _)
def qK (r:Vals [x] us): ∃u,us= [u]/\RelV x u:=by
 cases r with
 | cons b a=>cases a;exact⟨_,rfl,b⟩
def xbj (r:Vals [x,y] us): ∃u a,us= [u,a]/\RelV x u/\RelV y a:=by
 cases r with
 | cons c e=>
  cases e with
  | cons d b=>cases b;exact⟨_,_,rfl,c,d⟩
def jaH (c:X.calm=k9):Jm X (.builtin "max") (fun xs H Q=> ∃i j,xs= [.int i,.int j]/\Q (.int (if j>i then j else i)) H):=by
 intro b s U H xs e Q I r h
 obtain⟨i,j,rfl,q⟩:=h
 obtain⟨u,l,rfl,⟨t,rfl⟩,⟨d,rfl⟩⟩:=xbj r
 refine max_two_ints (I.ok.hd c) λg f k=>⟨_,H,I.kept k,?_,q⟩
 by_cases a:j>i
 ·rw [if_pos a,if_pos a];exact⟨_,rfl⟩
 ·rw [if_neg a,if_neg a];exact⟨_,rfl⟩
def xaN (c:X.calm=k9):Jm X (.builtin "min") (fun xs H Q=> ∃i j,xs= [.int i,.int j]/\Q (.int (if j<i then j else i)) H):=by
 intro b s U H xs e Q I r h
 obtain⟨i,j,rfl,q⟩:=h
 obtain⟨u,l,rfl,⟨t,rfl⟩,⟨d,rfl⟩⟩:=xbj r
 refine min_two_ints (I.ok.hd c) λg f k=>⟨_,H,I.kept k,?_,q⟩
 by_cases a:j<i
 ·rw [if_pos a,if_pos a];exact⟨_,rfl⟩
 ·rw [if_neg a,if_neg a];exact⟨_,rfl⟩
def WN:Jm X (.type "int") (fun xs H Q=>(∃ i,xs= [.int i]/\Q (.int i) H)\/ ∃k,xs= [.bl k]/\Q (.int (if k then 1 else 0)) H):=by
 intro a s U H xs c Q I r h
 rcases h with⟨i,rfl,q⟩ | ⟨k,rfl,q⟩
 ·obtain⟨u,rfl,t,rfl⟩:=qK r
  exact call_int_int ⟨.int i,H,I,⟨_,rfl⟩,q⟩
 ·obtain⟨u,rfl,b⟩:=qK r
  cases b
  exact call_int_bool ⟨.int (if k then 1 else 0),H,I.tok _,⟨_,rfl⟩,q⟩
def QT:Jm X (.builtin "divmod") (fun xs H Q=> ∃i j,xs= [.int i,.int j]/\qda i j/\ ∀p,H p=none->Q (.ref p) (jd7 H p (.tup [.int (i / j),.int (i % j)]))):=by
 intro a s U H xs d Q I r h
 obtain⟨i,j,rfl,⟨k,g⟩,q⟩:=h
 obtain⟨u,f,rfl,⟨t,rfl⟩,⟨c,rfl⟩⟩:=xbj r
 refine divmod_int (by omega) ?_ (.inl (PyProof.noPylong_small (by omega)))
 rw [Al5 i (by omega),Int.fmod_eq_emod_of_nonneg i (by omega)]
 have hn:=I.hok.fresh (Aa5 _)
 refine⟨.ref s.heap.objs.size,_,?_,rfl,q _ hn⟩
 refine I.laid (λb o e=>Aa2 _ e) (Aa5 _) ⟨by simp only [Ab4,An2];rw [sizeLine_eq];decide,[.int (i / j) s.toks,.int (i % j) (s.toks+1)],.cons ⟨_,rfl⟩ (.cons ⟨_,rfl⟩ .nil),?_⟩
 exact⟨_,Ab8 s.heap rfl,rfl,rfl,0,rfl⟩
end
structure ObjM (h:Heap) (x dx C:Addr) (mA:Str->Option Value):Prop where
 obj:h.get? x=y0 (Ao9 C dx)
 ns:h.Ns1 dx mA
 ne:dx≠x
def jN {h:Heap}(n:h.Ns1 dx mA): ∃c,h.get? dx=y0 c/\ ∀name,PySem.W.lookIn name c=y0 (mA name):=by
 obtain⟨o,d,m,f,k,l,_,j⟩:=n
 refine⟨o,f,λname=> ?_⟩
 have e:=j name
 unfold nsFind findBy at e
 rw [← Array.find?_toList]at e
 unfold PySem.W.lookIn
 rw [k]
 dsimp only
 split
 ·rename_i y q
  rw [q]at e
  exact congrArg y0 e
 ·rename_i q
  rw [q]at e
  have a:d.toList.any (·.refKey)=false:=by
   rw [Ah]
   intro y i
   obtain⟨z,t,b⟩:=l y (Array.mem_toList_iff.mp i)
   simp [DictEntry.refKey,b]
  have g: ¬d.toList.any (·.refKey)=true:=by rw [a];exact Ab6
  rw [if_neg g]
  exact congrArg y0 e
def ObjM.look (I:ObjM h x dx C mA): ∃a,PySem.W.InstAt h x (Ao9 C dx) C (y0 a)/\ ∀name,PySem.W.lookIn name a=y0 (mA name):=
 let ⟨a,c,b⟩:=jN I.ns
 ⟨a,⟨I.obj,rfl,rfl,c⟩,b⟩
def RelO.some_of (r:RelO (y0 v) o): ∃u,o=y0 u/\RelV v u:=by
 cases o with
 | none=>exact(r).elim
 | some u=>exact⟨u,rfl,r⟩
def xao (r:RelV v u):PySem.W.handedIn u=true:=by
 cases v with
 | non=>cases (r);rfl
 | bl b=>cases (r);rfl
 | int i=>obtain⟨t,e⟩:=(r);cases e;rfl
 | str x=>obtain⟨t,e⟩:=(r);cases e;rfl
 | byt b=>obtain⟨t,e⟩:=(r);cases e;rfl
 | flt b=>obtain⟨t,e⟩:=(r);cases e;rfl
 | ref a=>cases (r);rfl
 | ty n=>cases (r);rfl
section
variable {P:Program}{w:World}{H H':Hp}{h h':Heap}{a C dx:Addr}{fs fs':List (Str×V)}
def jbL (b:HOk P w H h) (e:H a=y0 (.ins C dx fs)): ∃mA,ObjM h a dx C mA/\(∀ f,RelO (fs.lookup f) (mA f))/\PySem.Within mA (fs.map (·.1))/\fs.length<=1000/\H dx=y0 (.own a):=by
 obtain⟨d,z,ne,c,mA,n,r,q⟩:=(show ObjOk P w H h a (.ins C dx fs)from b a _ e)
 exact⟨mA,⟨c,n,ne⟩,r,q,z,d⟩
end
structure Cls (K:Aa6) (C:Addr):Prop where
 pg:PySem.W.plainGet K C Str.empty=k9
 hd:PySem.W.hasDictIn K C=k9
 po:PySem.W.plainOver K C=k9
 sa:PySem.W.findIn K (.ref C) "__setattr__" =some (some (.builtin "object.__setattr__"))
def Cls.get {K:Aa6}(c:Cls K C) (f):PySem.W.plainGet K C f=true:=c.pg
def zbz (K:Aa6) (C:Addr) (f:Str):Prop:=An0 K (.ref C) f=y0 u0
structure xdQ (K:Aa6) (C:Addr) (f:Str) (v:V) (u:Value):Prop where
 at_:An0 K (.ref C) f=y0 (y0 u)
 rel:RelV v u
 get:PySem.W.specialIn K u "__get__" =some none
 cp:PySem.W.copiedNames.contains f=y9
structure qde (K:Aa6) (C:Addr) (m:Str) (f:Addr):Prop where
 at_:An0 K (.ref C) m=y0 (y0 (.ref f))
 fn:PySem.W.isFn K (.ref f)=k9
 kp:Ae4 K (.ref f)=k9
section
variable {X:Cx}{k8:List (Addr×Obj)}{U:St}{H:Hp}{s:Shared}{a C dx:Addr}{fs:List (Str×V)}{f:Str}{v:V}{A:Around}{E:Value->Shared->Prop}
def xbO (b:attributeBase e f env (eval e env)=eval e env)
 (h:wpAny (model prog w) A (eval e env) (λo a=>wpAny (model prog w) A (getAttr o f k9) Q E a) E s):wpAny (model prog w) A (eval (.Attribute e f pos) env) Q E s:=
 Attribute_any_ h (by rw [arm_eval_Attribute,b])
end
section
variable {X:Cx}{k8:List (Addr×Obj)}{U:St}{H:Hp}{s:Shared}{A:Around}{E:Value->Shared->Prop}{Q:Value->Shared->Prop}{c:Value}{b:Bool}
inductive zac (K:Aa6) (H:Hp):V->Value->Prop where
 | non:zac K H .non (.type "NoneType")
 | bl (x:Bool):zac K H (.bl x) (.type "bool")
 | int (i:Int):zac K H (.int i) (.type "int")
 | str (x:Str):zac K H (.str x) (.type "str")
 | flt (x:UInt64):zac K H (.flt x) (.type "float")
 | lst {a:Addr}{xs:List V}(e:H a=y0 (.lst xs)):zac K H (.ref a) (.type "list")
 | frz {a:Addr}{o:Obj}{xs:List V}(e:H a=y0 (.frz o (.lst xs))):zac K H (.ref a) (.type "list")
 | tup {a:Addr}{xs:List V}(e:H a=y0 (.tup xs)):zac K H (.ref a) (.type "tuple")
 | dK {a:Addr}{kvs:List (qdK×V)}(e:H a=y0 (.dK kvs)):zac K H (.ref a) (.type "dict")
 | dT {a:Addr}{kvs:List (List qdK×V)}(e:H a=y0 (.dT kvs)):zac K H (.ref a) (.type "dict")
 | ins {a C dx:Addr}{fs:List (Str×V)}(e:H a=some (.ins C dx fs)) (cl:Cls K C) (ha:PySem.W.findIn K (.ref C) "__class__" =some (some (.builtin "object.__class__")))
  (hn:PySem.W.specialIn K (.builtin "object.__class__") "__get__" =some (some (.builtin "getset_descriptor.__get__"))) (htk:PySem.W.takesIn K (.builtin "object.__class__")=some true)
  (hm:PySem.W.mroIn K C (.type "object")=some true):zac K H (.ref a) (.ref C)
def Ji (I:Inv X k8 U H s) (d:RelV x u) (ty:zac X.K H x t) (e:Ad2 X.K t c=y0 b) (h: ∀tk,Q (.bool b) { s with toks:=tk }):
 wpAny (model X.prog X.w) A (call (.builtin "isinstance") [u,c]) Q E s:=by
 cases ty with
 | non=>cases (show u=Value.none from d);exact Ae6 PySem.W.kitx_none I.kIn True.intro e (λz=>nomatch z) h
 | bl y=>cases (show u=Value.bool y from d);exact Ae6 PySem.W.kitx_bool I.kIn True.intro e (λz=>nomatch z) h
 | int i=>obtain⟨t,q⟩:=(show ∃t,u=Value.int i t from d);cases q;exact Ae6 PySem.W.kitx_int I.kIn True.intro e (λz=>nomatch z) h
 | str y=>obtain⟨t,q⟩:=(show ∃t,u=Value.str y t from d);cases q;exact Ae6 PySem.W.kitx_str I.kIn True.intro e (λz=>nomatch z) h
 | flt y=>obtain⟨t,q⟩:=(show ∃t,u=Value.float y t from d);cases q;exact Ae6 PySem.W.kitx_float I.kIn True.intro e (λz=>nomatch z) h
 | @lst a k f=>
  cases (show u=Value.ref a from d)
  obtain⟨_,_,n,_,g⟩:=(show ObjOk X.prog X.w H s.heap a (.lst k)from I.hok a _ f)
  exact Ae6 Ao0 I.kIn ⟨_,g,rfl⟩ e (λz=>nomatch z) h
 | @frz a B k f=>
  cases (show u=Value.ref a from d)
  obtain⟨_,_,_,n,_,g⟩:=(show ObjOk X.prog X.w H s.heap a (.frz B (.lst k))from I.hok a _ f)
  exact Ae6 Ao0 I.kIn ⟨_,g,rfl⟩ e (λz=>nomatch z) h
 | @tup a k f=>
  cases (show u=Value.ref a from d)
  obtain⟨_,_,_,p⟩:=(show ObjOk X.prog X.w H s.heap a (.tup k)from I.hok a _ f)
  obtain⟨o,g,l,_⟩:=p
  exact Ae6 PySem.W.kitx_tuple I.kIn ⟨o,g,l⟩ e (λz=>nomatch z) h
 | @dK a j f=>
  cases (show u=Value.ref a from d)
  obtain⟨_,_,G,_,p⟩:=(show ObjOk X.prog X.w H s.heap a (.dK j)from I.hok a _ f)
  obtain⟨o,v,w,g,l,_⟩:=p
  exact Ae6 PySem.W.kitx_dict I.kIn ⟨o,g,l.1⟩ e (λz=>nomatch z) h
 | @dT a j f=>
  cases (show u=Value.ref a from d)
  obtain⟨_,_,k,_,o,v,w,g,l,_⟩:=(show ObjOk X.prog X.w H s.heap a (.dT j)from I.hok a _ f)
  exact Ae6 PySem.W.kitx_dict I.kIn ⟨o,g,l.1⟩ e (λz=>nomatch z) h
 | @ins a C M fs f r D hn m F=>
  cases (show u=Value.ref a from d)
  obtain⟨K,O,_⟩:=jbL I.hok f
  obtain⟨L,J,_⟩:=O.look
  exact Ae6 (PySem.W.kitx_own (r.get _) r.hd D hn m F) I.kIn J e (λz=>nomatch z) h
end
structure Room (k:Nat) (A:Around):Prop where
 hd:A.handled=u0
 dp:A.depth+3*k+5<recursionLimit
 un:A.units+16*k+200<cLine
def Room.mono (r:Room k A) (h:j<=k):Room j A:=⟨r.hd,by have:=r.dp;omega,by have:=r.un;omega⟩
theorem Room.deeper (r:Room (k+1) A) (env):Room k (A.deeper env):=
 ⟨r.hd,by have:=r.dp;show A.depth+1+3*k+5<_;omega,by have:=r.un;show A.units+3+16*k+200<_;omega⟩
def X8 {A:Around}:(A.under (.builtin "type.__call__" ⟨.ref C::us,kw⟩)).depth=A.depth+1:=by
 first | rfl | simp [guardIds]
def Q7 {A:Around}:(A.under (.builtin "type.__call__" ⟨.ref C::us,kw⟩)).units=A.units+1:=by
 first | rfl | simp [Code.isFrame]
def Room.make (r:Room (k+1) A) (C) (us) (kw):Room k (A.under (.builtin "type.__call__" ⟨.ref C::us,kw⟩)):=
 ⟨r.hd,by have:=r.dp;rw [X8];omega,by have:=r.un;rw [Q7];omega⟩
theorem Room.depth (r:Room k A):A.depth<recursionLimit:=by have:=r.dp;omega
def xdh:TA:=λ_ H Q=>Q [] H
def xcY (a:TE) (b:TA):TA:=λU H Q=>a U H λx H1=>b U H1 λxs H2=>Q (x::xs) H2
section
variable {X:Cx}{e:Expr}{es:List Expr}{te:TE}{t:TA}{pos:Pos}
def Jh:PA X [] xdh:=λ_ _ _ _ H Q I h=>Calls.spliced_nil ⟨[],H,I,.nil,h⟩
def Jc (j:PE X e te) (n:PA X es t) (i:starEach (e::es) X.env=(y9,eval e X.env)::starEach es X.env:=by rfl):PA X (e::es) (xcY te t):=by
 intro b a s U H Q I h
 rw [i]
 refine Calls.spliced_cons (jdF (j a s U H _ I h) ?_)
 rintro u k ⟨x,c,o,f,g⟩
 exact jdF (n b a k U c _ o g) λv r ⟨d,l,q,p,m⟩=>⟨x::d,l,q,.cons f p,m⟩
def qdo (t:TA):TE:=λU H Q=>t U H λxs H1=>xs.length<=sizeLine/\ ∀p,H1 p=u0->Q (.ref p) (jd7 H1 p (.tup xs))
def zdt (t:TA):TE:=λU H Q=>t U H λxs H1=>xs.length<=sizeLine/\ ∀p,H1 p=u0->Q (.ref p) (jd7 H1 p (.lst xs))
def qck {x1}(h:PA X es t):PE X (.Tuple es x1 pos) (qdo t):=by
 intro a s U H Q I k
 refine wpAny_Tuple_spliced (jdF (h pos a s U H _ I k) λi c ⟨g,f,d,r,z,q⟩=>⟨by rw [← r.length];exact z,?_⟩)
 have j:=d.hok.fresh (Aa5 _)
 refine⟨.ref c.heap.objs.size,jd7 f c.heap.objs.size (.tup g),d.laid (λb u e=>Aa2 _ e) (Aa5 _) ?_,rfl,q _ j⟩
 exact⟨z,i,r,⟨_,Ab8 _ rfl,rfl,rfl,_,rfl⟩⟩
def qcq (h:PA X es t):PE X (.List es pos) (zdt t):=by
 intro a s U H Q I k
 refine wpAny_List_spliced (jdF (h pos a s U H _ I k) λi c ⟨g,f,d,r,z,q⟩=>⟨by rw [← r.length];exact z,?_⟩)
 have j:=d.hok.fresh (Aa5 _)
 refine⟨.ref c.heap.objs.size,jd7 f c.heap.objs.size (.lst g),d.laid (λb u e=>Aa2 _ e) (Aa5 _) ?_,rfl,q _ j⟩
 exact⟨z,i,0,r,Ab8 _ rfl⟩
end
abbrev Sp:=List V->Hp->VK->XK->Prop
abbrev qd5:=List Env->Hp->Shared->XK->Value->Shared->Prop
structure Env0 (P:Program) (w:World) (K:Aa6) (mg:Str->Option Value) (base:Heap) (A:Around) (outer:List Env) (s:Shared) (H:Hp):Prop where
 frames:A.frames=y0 outer
 mod:Mod K mg base
 bs: ∀b o,base.get? b=y0 o->s.heap.get? b=y0 o/\H b=u0
 bsz:base.objs.size<=s.heap.objs.size
 funs:s.heap.FunFrames base outer
 frf: ∀b∈qdZ outer,H b=u0
 hok:HOk P w H s.heap
 bare:AllBare s.gens
noncomputable def CE (a:List Env) (P:Program) (w:World) (H:Hp) (s:Shared) (Q:VK) (u:Value) (s':Shared):Prop:=
 ∃v H',s'.os=s.os/\AllBare s'.gens/\Un (qdZ a) [] H H' s.heap s'.heap/\HOk P w H' s'.heap/\RelV v u/\Q v H'
noncomputable def CR (b:qd5) (a:List Env) (P:Program) (w:World) (H:Hp) (s:Shared) (Q:VK) (E:XK) (r:Result) (s':Shared):Prop:=
 match r with
 | .ok (.ret u)=>CE a P w H s Q u s'
 | .ok _=>False
 | .error e=>b a H s E e s'
structure FnOk (P:Program) (w:World) (K:Aa6) (mg:Str->Option Value) (base:Heap) (CX:qd5) (k:Nat) (f:Addr) (fd:FuncData) (ps:List Str) (sp:Sp):Prop where
 len: ∀vs H Q E,sp vs H Q E->vs.length=ps.length
 run: ∀(A:Around) (outer:List Env) (s:Shared) (H:Hp) (args:Args) (us:List Value) (vs:List V) (Q:VK) (E:XK),Room k A->Env0 P w K mg base A outer s H->BindsTo s fd args (ps.zip us)->Vals vs us->sp vs H Q E →
  codeAny (model P w) A (.call (.ref f) args) (CR CX outer P w H s Q E) s
def Env0.make {K:Aa6}(e:Env0 P w K mg base A outer s H) (C:Addr) (b:List Value) (a:List (Str×Value)):
 Env0 P w K mg base (A.under (.builtin "type.__call__" ⟨.ref C::b,a⟩)) outer s H:=⟨by first | exact e.frames | (simpa [Around.under,Code.envs,Code.isFrame,pushEnvs]using e.frames),e.mod,e.bs,e.bsz,e.funs,e.frf,e.hok,e.bare⟩
section
variable {X:Cx}{k8:List (Addr×Obj)}{U:St}{H:Hp}{s s':Shared}
def Inv.env0 (I:Inv X k8 U H s):Env0 X.prog X.w X.K X.mg X.base X.A X.stack s H:=
 ⟨I.ok.frames,I.ok.mod,I.bs,Ac I.ok.bsz I.sz,I.stack,I.stkFree,I.hok,I.bare⟩
def Inv.after (I:Inv X k8 U H s) (h:CE X.stack X.prog X.w H s Q u s'):EP X k8 U Q u s':=by
 obtain⟨v,f,i,a,un,c,r,q⟩:=h
 obtain⟨j,g,d,t,e⟩:=s'
 obtain rfl:e=s.os:=i
 exact⟨v,f,I.call un c a (λb z=>absurd z (by simp)),r,q⟩
end
def zcz (c:Sp) (a:List V) (E:XK) (t:TA):TE:=λU H Q=>t U H λb H1=>c (b++a) H1 Q E
noncomputable def Binds (K:Aa6) (d:FuncData) (b:List Str) (c:List Value):Prop:=
 ∀(s:Shared) (a:List Value),K.In s.heap->(a++c).length=b.length->BindsTo s d ⟨a,[]⟩ (b.zip (a++c))
def Binds.all {K:Aa6}(h: ∀a:List Value,a.length=ps.length->bindArgs fd ⟨a,[]⟩=pure (ps.zip a)):Binds K fd ps []:=λs a _ b=>by
 rw [Ae0]at b ⊢
 exact .of_eq (h a b)
noncomputable def QS (a:qd5) (X:Cx) (E:XK):Prop:= ∀(k8:List (Addr×Obj)) (U:St) (H:Hp) (s:Shared) (e:Value) (s':Shared),Inv X k8 U H s->a X.stack H s E e s'->X.xe e s'
section
variable {X:Cx}{CX:qd5}{k:Nat}{f C:Addr}{fd:FuncData}{ps:List Str}{sp:Sp}{dvs:List V}{ds:List Value}{E:XK}{x m:Str}{p pos apos:Pos}{e o:Expr}{es:List Expr}{ta:TE}{t:TA}
def qbv (F:FnOk X.prog X.w X.K X.mg X.base CX k f fd ps sp) (d:Room k X.A) (g:Binds X.K fd ps ds) (i:Vals dvs ds) (j:QS CX X E)
 (I:Inv X k8 U H s) (r:Vals vs us) (h:sp (vs++dvs) H Q E):wpAny (model X.prog X.w) X.A (call (.ref f) us) (EP X k8 U Q) X.xe s:=by
 have b:=r.append i
 have l:(us++ds).length=ps.length:=by rw [← b.length];exact F.len _ _ _ _ h
 refine wpAny_call (codeAny_mono (F.run X.A X.stack s H ⟨us,[]⟩ (us++ds) (vs++dvs) Q E d I.env0 (g s us I.kIn l) b h) λr m a=> ?_)
 cases r with
 | error e=>exact j k8 U H s e m I a
 | ok c=>
  cases c with
  | ret u=>exact I.after a
  | next=>exact False.elim a
  | brk=>exact False.elim a
  | cont=>exact False.elim a
def jbU (F:FnOk X.prog X.w X.K X.mg X.base CX k f fd ps sp) (o:Room k X.A) (g:Gl X x) (m:X.mg x=y0 (.ref f)) (v:Ae4 X.K (.ref f)=k9) (i:Binds X.K fd ps ds) (u:Vals dvs ds) (j:QS CX X E)
 (l:PA X (e::es) t) (c:(x==("__debug__" :Str))=false:=by decide) (n:starEach (e::es) X.env=(false,eval e X.env)::starEach es X.env:=by rfl) (b:(backTo pos (starEach es X.env)).any (·.1)=false:=by rfl):
 PE X (.Call (.Name x p) (e::es) [] pos) (zcz sp dvs E t):=by
 intro a s U H Q I h
 refine wpAny_Call_Name_kw (Zw I g m ?_ c)
 refine PySem.W.callWith_K I.ok.mod.kin v (jdF (l pos a s U H _ I h) λz A ⟨y,w,d,r,q⟩=>⟨d.kIn,?_⟩) n b
 exact qbv F o i u j d r q
def qa2 (F:FnOk X.prog X.w X.K X.mg X.base CX k f fd ps sp) (d:Room k X.A) (e:Gl X x) (c:X.mg x=y0 (.ref f)) (l:Ae4 X.K (.ref f)=k9) (j:Binds X.K fd ps ds) (i:Vals dvs ds) (g:QS CX X E)
 (a:(x==("__debug__" :Str))=false:=by decide):PE X (.Call (.Name x p) [] [] pos) (zcz sp dvs E xdh):=by
 intro b s U H Q I h
 refine wpAny_Call_Name_kw (Zw I e c ?_ a)
 exact PySem.W.callWith_K0 I.kIn l (qbv F d j i g I .nil h)
structure Mk (K:Aa6) (C f:Addr):Prop where
 makes:PySem.W.makesIn K C=k9
 init:PySem.W.findIn K (.ref C) "__init__" =some (some (.ref f))
 fn:PySem.W.isFn K (.ref f)=k9
 kp:Ae4 K (.ref C)=k9
end
section
variable {X:Cx}{CX:qd5}{k:Nat}{f C:Addr}{fd:FuncData}{ps ks:List Str}{sp:Sp}{E:XK}{x m:Str}{p pos apos kpos:Pos}{e o:Expr}{es:List Expr}{kws:List Keyword}{te ta:TE}{t tk:TA}{nm:Option Str}
structure qdb (K:Aa6) (fd:FuncData) (ps ks:List Str) (g:List Value->List Value->List Value) (gV:List V->List V->List V):Prop where
 to: ∀(s:Shared) (us ws:List Value),K.In s.heap->(g us ws).length=ps.length->BindsTo s fd ⟨us,ks.zip ws⟩ (ps.zip (g us ws))
 rel: ∀ {vs:List V}{us:List Value}{zs:List V}{ws:List Value},Vals vs us->Vals zs ws->Vals (gV vs zs) (g us ws)
variable {g:List Value->List Value->List Value}{gV:List V->List V->List V}
end
structure Qn (N P:List Str) (sc:Scope):Prop where
 kind:sc.kind= .function
 co:sc.isCoroutine=y9
 gen:sc.isGenerator=y9
 nd:N.Nodup
 pre:N.take P.length=P
 par: ∀x∈P,sc.names.lookup x=y0 .local\/sc.names.lookup x=y0 .cell
 nofree: ∀y∈sc.names,y.2≠ .free
theorem jQ {a:Str->Option NameKind}: ∀ {binds}{m},(∀ v,(x,v)∉binds)->bindL a binds m x=m x
 | [],_,_=>rfl
 | (n,v)::r,m,h=>by
  unfold bindL
  rw [jQ λw b=>h w (Aa1 _ b)]
  split
  ·have:x≠n:=by rintro rfl;exact h v Aa3
   simp [this]
  ·rfl
theorem ZR {a:Str->Option NameKind}: ∀ {binds}{m},(∀ v,(x,v)∉binds)->bindC a binds m x=m x
 | [],_,_=>rfl
 | (n,v)::r,m,h=>by
  unfold bindC
  rw [ZR λw b=>h w (Aa1 _ b)]
  split
  ·rfl
  ·have:x≠n:=by rintro rfl;exact h v Aa3
   simp [this]
theorem zP {a:Str->Option NameKind}: ∀ {P:List Str}{b}{i:Nat}{m},P.Nodup->P[i]? =y0 x->b[i]? =y0 v->a x=y0 .local →
 bindL a (P.zip b) m x=y0 v
 | [],_,_,_,_,h,_,_=>by simp at h
 | _::_,[],_,_,_,_,h,_=>by simp at h
 | p::P,w::b,0,m,e,d,c,f=>by
  simp at d c;subst d;subst c
  show bindL a ((p,w)::P.zip b) m p=_
  unfold bindL
  rw [jQ λv g=>(Ah3.mp e).1 (List.of_mem_zip g).1,if_pos f]
  simp
 | p::P,w::b,i+1,m,e,d,c,f=>by
  unfold bindL
  exact zP (Ah3.mp e).2 (by simpa using d) (by simpa using c) f
theorem zO {a:Str->Option NameKind}: ∀ {P:List Str}{b}{i:Nat}{m},P.Nodup->P[i]? =y0 x->b[i]? =y0 v->a x≠y0 .local →
 bindC a (P.zip b) m x=y0 v
 | [],_,_,_,_,h,_,_=>by simp at h
 | _::_,[],_,_,_,_,h,_=>by simp at h
 | p::P,w::b,0,m,e,d,c,f=>by
  simp at d c;subst d;subst c
  show bindC a ((p,w)::P.zip b) m p=_
  unfold bindC
  rw [ZR λv g=>(Ah3.mp e).1 (List.of_mem_zip g).1,if_neg f]
  simp
 | p::P,w::b,i+1,m,e,d,c,f=>by
  unfold bindC
  exact zO (Ah3.mp e).2 (by simpa using d) (by simpa using c) f
def start (N:List Str) (a:List V):St:=a.map y0++Ab0 (N.length-a.length) u0
noncomputable def JM (CX:qd5) (P:Program) (w:World) (K:Aa6) (mg:Str->Option Value) (base:Heap) (N:List Str) (v8:Str) (scope:Scope) (f:Addr) (cd:Value) (A:Around) (outer:List Env) (s:Shared) (H:Hp) (E:XK):Cx where
 prog:=P
 w:=w
 K:=K
 mg:=mg
 base:=base
 A:=A.deeper (envOfC v8 scope s.heap.objs.size f cd)
 N:=N
 s₀:=s
 H₀:=H
 env:=envOfC v8 scope s.heap.objs.size f cd
 outer:=outer
 stack:=envOfC v8 scope s.heap.objs.size f cd::outer
 ex:= []
 calm:=k9
 fn:=λ_=>k9
 pn:= []
 xe:=λe s'=>wpAny (model P w) (A.deeper (envOfC v8 scope s.heap.objs.size f cd)) (leaving (envOfC v8 scope s.heap.objs.size f cd) e) (λ_ s''=>CX outer H s E e s'') (λe' s''=>CX outer H s E e' s'') s'
def XZ {a:Scope}(h:a.names.lookup x=y0 .cell): ∃c,(cellsFrom n a.names []).lookup x=y0 c:=by
 have q:=Am1 a.names n [] (.inl h)
 exact Ai6.mp q
def zat {K:Aa6}
 (S:Qn N ps scope) (hd:A.handled=u0) (e0:Env0 P w K mg base A outer s H) (hl:vs.length=ps.length) (r:Vals vs us)
 (x:InCallC s s.heap.objs.size (bindL (envOfC v8 scope s.heap.objs.size f cd).kindOf (ps.zip us) λ_=>u0) (cellsFrom (s.heap.objs.size+1) scope.names []) (bindC (envOfC v8 scope s.heap.objs.size f cd).kindOf (ps.zip us) λ_=>u0) s1):
 Inv (JM CX P w K mg base N v8 scope f cd A outer s H E) [] (start N vs) H s1:=by
 have hpl:ps.length<=N.length:=by have:=congrArg List.length S.pre;rw [Ag4]at this;omega
 obtain⟨h1,tk,rfl,hk⟩:=x.done
 have noA: ∀b:Addr,b∉(JM CX P w K mg base N v8 scope f cd A outer s H E).ex:=λb z=>absurd (show b∈([]:List Addr)from z) (by simp)
 refine⟨⟨e0.mod,S.kind,rfl,rfl,Aa5 _,λy z c h1 h2=> ?_,λy hy=> ?_,λy c _ h=> ?_,λ_=>hd,Around.frames_deeper e0.frames,.inr ⟨rfl,rfl⟩,λb z=>absurd z (noA b),e0.bs,e0.bsz,λb _ _=>noA b,λb z=>absurd z (noA b),e0.funs,e0.frf⟩,
  rfl,e0.bare,Un.kept hk,⟨_,x.toInCall.ns,λi y v h1 h2 h3=> ?_⟩,λy c h=>⟨_,x.cell y c h⟩,e0.hok.fresh (Aa5 _),λy c h=> ?_,λp hp=>absurd (show p∈([]:List (Addr×Obj))from hp) (by simp),e0.hok.kept hk,?_⟩
 ·exact name_of_addr x.apart (PySem.mem_of_lookup h1) (PySem.mem_of_lookup h2)
 ·have hy:=hy
  rcases hy with hy | hy
  ·exact XZ hy
  ·exact absurd rfl (S.nofree _ (PySem.mem_of_lookup hy))
 ·exact Ai3 (x.above y c (PySem.mem_of_lookup h))
 ·have hi:i<vs.length:=by
   unfold start at h2
   by_cases hi:i<vs.length
   ·exact hi
   ·rw [Af9 (by simpa using hi)]at h2
    rw [Am5]at h2
    split at h2<;>cases h2
  have ha:vs[i]? =y0 v:=by
   unfold start at h2
   rw [Ag1 (by simpa using hi),Ad1]at h2
   cases e:vs[i]? with
   | none=>rw [e]at h2;cases h2
   | some a=>rw [e]at h2;cases h2;rfl
  obtain⟨u,hu,rv⟩:=r.get ha
  have hp:ps[i]? =y0 y:=by
   rw [← S.pre,List.getElem?_take_of_lt (by omega)];exact h1
  have ndP:ps.Nodup:=by rw [← S.pre];exact S.nd.sublist (List.take_sublist _ _)
  refine⟨u,rv,?_⟩
  rcases S.par y (Ak4 hp)with k | k
  ·exact .inl ⟨k,zP ndP hp hu k⟩
  ·obtain⟨c,e⟩:=XZ k
   refine .inr ⟨.inl k,c,e,?_⟩
   have q:=x.cell y c e
   rw [zO ndP hp hu (by show scope.names.lookup y≠_;rw [k];decide)]at q
   exact q
 ·exact e0.hok.fresh (Ai3 (x.above y c (PySem.mem_of_lookup h)))
 ·unfold start
  show _=N.length
  rw [Aa8,Aa,Af5]
  omega
def xc1 {K:Aa6}{dV kV doc pm cdv ct oc:Value}
 (lk:K.lookup f=y0 ⟨oc,od,.func (Ah9 name v8 params body scope dV kV doc pm an cdv ct),osl⟩) (hcd:Ak9 K cdv v8=k9) (S:Qn N ps scope)
 (len: ∀vs H Q E,sp vs H Q E->vs.length=ps.length)
 (hbody: ∀ A outer s H vs Q E,Room k (A.deeper (envOfC v8 scope s.heap.objs.size f cdv))->sp vs H Q E →
   ∃t,PSs (JM CX P w K mg base N v8 scope f cdv A outer s H E) body t/\t { nx:=λ_ H'=>Q .non H',rt:=Q } (start N vs) H):
 FnOk P w K mg base CX (k+1) f (Ah9 name v8 params body scope dV kV doc pm an cdv ct) ps sp:=by
 refine⟨len,λA outer s H args us vs Q E hr e0 hb r hsp=> ?_⟩
 have hl:=len _ _ _ _ hsp
 have KX:=e0.mod.kin.keeps λb o e=>(e0.bs b o e).1
 have lim:=e0.mod.nolimit.keeps λb o e=>(e0.bs b o e).1
 have hkind: ∀y∈ps.zip us,scope.names.lookup y.1=y0 .local\/(scope.names.lookup y.1=y0 .cell/\((cellsFrom (s.heap.objs.size+1) scope.names []).lookup y.1).isSome=k9):=by
  rintro ⟨n,v⟩ hy
  rcases S.par n (List.of_mem_zip hy).1 with q | q
  ·exact .inl q
  ·exact .inr ⟨q,Am1 _ _ _ (.inl q)⟩
 refine codeAny_call_function hr.depth (KX _ _ lk) rfl S.co S.gen rfl (PySem.W.codeRec_of KX hcd) (hb _ _ _ _ ?_)
 refine wpAny_newFunctionEnv_cells S.kind hkind λenv he s1 x=> ?_
 subst he
 refine⟨lim.keeps x.toInCall.keep,codeAny_func ?_⟩
 obtain⟨t,ht,hq⟩:=hbody A outer s H vs Q E (hr.deeper _) hsp
 have I:Inv (JM CX P w K mg base N v8 scope f cdv A outer s H E) [] (start N vs) H s1:=zat S hr.hd e0 hl r x
 refine wpAny_mono (ht [] s1 (start N vs) H _ I hq) (λfl s' hs=> ?_) λe s' hs=>hs
 have fin: ∀ {U'}{H'}{v}{u},Inv (JM CX P w K mg base N v8 scope f cdv A outer s H E) [] U' H' s'->RelV v u->Q v H'->CE outer P w H s Q u s':=
  λ{U' H' v u} J rv q=>⟨v,H',J.os,J.bare,J.base,J.hok,rv,q⟩
 cases fl with
 | ret u=>
  obtain⟨v,U',H',J,rv,q⟩:=hs
  exact fin J rv q
 | next=>
  obtain⟨U',H',J,q⟩:=hs
  exact fin (v:=V.non) J rfl q
 | brk=>
  obtain⟨_,_,_,q⟩:=hs
  exact False.elim q
 | cont=>
  obtain⟨_,_,_,q⟩:=hs
  exact False.elim q
section
variable {X:Cx}{x:Str}{p pos:Pos}{e:Expr}{es:List Expr}{t:TA}{id T:String}{r:List V->Hp->VK->Prop}
def jd6 (r:List V->Hp->VK->Prop) (t:TA):TE:=λU H Q=>t U H λa H1=>r a H1 Q
def Xh (k:Jm X (.builtin id) r) (i:Gl X x) (u:X.mg x=none) (l:bootBuiltins x=some (.builtin id)) (n:PA X (e::es) t) (o:x≠ "__name__" :=by decide) (b:(x==("__debug__" :Str))=false:=by decide)
 (w:starEach (e::es) X.env=(y9,eval e X.env)::starEach es X.env:=by rfl) (c:(backTo pos (starEach es X.env)).any (·.1)=false:=by rfl):PE X (.Call (.Name x p) (e::es) [] pos) (jd6 r t):=by
 intro a s U H Q I h
 refine wpAny_Call_Name_kw (Jx I i u l ?_ o b)
 exact PyProof.Rows.callWith_builtin1 (jdF (n pos a s U H _ I h) λm v ⟨f,d,q,g,j⟩=>k a v U d f m Q q g j) w c
def WD (k:Jm X (.type T) r) (i:Gl X x) (u:X.mg x=none) (l:bootBuiltins x=some (.type T)) (n:PA X (e::es) t) (o:x≠ "__name__" :=by decide) (b:(x==("__debug__" :Str))=false:=by decide)
 (w:starEach (e::es) X.env=(y9,eval e X.env)::starEach es X.env:=by rfl) (c:(backTo pos (starEach es X.env)).any (·.1)=false:=by rfl):PE X (.Call (.Name x p) (e::es) [] pos) (jd6 r t):=by
 intro a s U H Q I h
 refine wpAny_Call_Name_kw (Jx I i u l ?_ o b)
 exact PyProof.Rows.callWith_type1 (jdF (n pos a s U H _ I h) λm v ⟨f,d,q,g,j⟩=>k a v U d f m Q q g j) w c
end
end L2
namespace HT
open PySem PyProof.Rows
section
variable {prog:Program}{w:World}{A:Around}{E:Value->Shared->Prop}{s:Shared}
def cat_tup (u:IsTup s.heap t vs.toArray) (r:IsTup s.heap b ws.toArray) (m:vs≠ [])
 (h1:ws= []->Q (.ref t) s) (h2:ws≠ []->Q (.ref s.heap.objs.size) { s with heap:=s.heap.push { cls:= .type "tuple",data:= .seq (vs++ws).toArray } })
 (hsz:vs.length+ws.length<=sizeLine):wpAny (model prog w) A (binaryOp .Add (.ref t) (.ref b)) Q E s:=by
 obtain⟨⟨j,dd,c,sl⟩,g,q,n,v⟩:=id u
 obtain⟨⟨o,d,l,f⟩,a,i,p,k⟩:=id r
 subst q v i k
 have e:vs.toArray++ws.toArray=(vs++ws).toArray:=by simp
 by_cases h:ws= []
 ·exact concat_meets ⟨_,g,rfl⟩ ⟨_,a,rfl⟩ noFill_tuple_add seq_tuple_add PySem.F.slot_tuple_add PySem.F.entry_tuple_add (PySem.F.args_tuple_add_2 _ _)
   (tuple_addW1 t b vs.toArray ws.toArray n p dd d sl f (by simpa using m) (by simp [h])) ⟨g,a,h1 h⟩
 ·refine concat_meets ⟨_,g,rfl⟩ ⟨_,a,rfl⟩ noFill_tuple_add seq_tuple_add PySem.F.slot_tuple_add PySem.F.entry_tuple_add (PySem.F.args_tuple_add_2 _ _)
   (tuple_addW2 t b vs.toArray ws.toArray n p dd d sl f (by simpa using m) (by simpa using h) (by rw [Ab,Ab];exact hsz)) ⟨g,a,?_⟩
  rw [e]
  exact h2 h
def sIx (n d:Nat):Option Int->Nat
 | none=>d
 | some v=>if v<0 then(v+(n:Int)).toNat else min v.toNat n
def jcw (n d) (b:d<=n) (o):sIx n d o<=n:=by
 cases o with
 | none=>exact b
 | some v=>
  show(if v<0 then(v+ n).toNat else min v.toNat n)<=n
  by_cases a:v<0
  ·rw [if_pos a];omega
  ·rw [if_neg a];exact Nat.min_le_right _ _
def zag (v) (n d:Nat):(if v<0 then max (v+(n:Int)) 0 else min v (n:Int))=((sIx n d (y0 v):Nat):Int):=by
 show(if v<0 then max (v+ n) 0 else min v n)=(((if v<0 then(v+(n:Int)).toNat else min v.toNat n):Nat))
 by_cases a:v<0
 ·simp only [if_pos a];omega
 ·simp only [if_neg a];omega
def x9 (a b) (n:Nat):Builtin.Slice.sliceAdjust a b 1 (n:Int)=(((sIx n 0 a:Nat):Int),((sIx n n b:Nat):Int)):=by
 have c: ¬(1<0):=by omega
 refine Prod.ext ?_ ?_
 ·cases a with
  | none=>rfl
  | some v=>exact zag v n 0
 ·cases b with
  | none=>rfl
  | some v=>exact zag v n n
def w9 (i j:Nat):Builtin.Slice.slicePlaces (i:Int) (j:Int) 1=j-i:=by
 unfold Builtin.Slice.slicePlaces
 have a:(1:Int)>0:=by omega
 simp only [Int.ediv_one]
 split<;>omega
def ZH (p:IsPart v o) (h:Q o s):wpAny (model prog w) A (Builtin.Slice.slicePartIndex v) Q E s:=by
 cases p with
 | none=>exact slicePart_none h
 | int i t=>exact slicePart_int h
def sliceApplied_gen {a d:Option Int}{Q:Int×Int×Nat->Shared->Prop}(e:s.heap.IsSliceOf sl vl vu .none) (pl:IsPart vl a) (f:IsPart vu d)
 (h:Q (((sIx n 0 a:Nat):Int),1,sIx n n d-sIx n 0 a) s):wpAny (model prog w) A (Builtin.Slice.sliceApplied (.ref sl) (pure (n:Int))) Q E s:=by
 obtain⟨i,c,g,b⟩:=id e
 refine wpAny_bind (wpAny_bind (wpAny_field c b (x:=vl) rfl (wpAny_bind (wpAny_field c b (x:=vu) rfl (wpAny_bind (wpAny_field c b rfl (wpAny_pure ?_)))))))
 refine wpAny_bind (slicePart_none ?_)
 refine wpAny_bind (ZH pl (wpAny_bind (ZH f (wpAny_bind (wpAny_pure ?_)))))
 show wpAny _ _ (match Builtin.Slice.sliceAdjust a d 1 (n:Int)with | (a,d)=>pure (a,(1:Int),Builtin.Slice.slicePlaces a d 1)) _ _ s
 rw [x9 a d n]
 show wpAny _ _ (pure (((sIx n 0 a:Nat):Int),1,Builtin.Slice.slicePlaces ((sIx n 0 a:Nat)) ((sIx n n d:Nat)) 1)) _ _ s
 rw [w9]
 exact wpAny_pure h
def qa0 (xs:Array Value) (i k:Nat):((Aa0 k).filterMap λ(m:Nat)=>xs[((i:Int)+(m:Int)*1).toNat]?).toArray=((xs.toList.drop i).take k).toArray:=by
 have e:(λ(m:Nat)=>xs[(i+(m:Int)*1).toNat]?)=λm=>xs[i+m]? :=by
  funext m
  have:(i+(m:Int)*1).toNat=i+m:=by omega
  rw [this]
 rw [e]
 have:=pick_run xs i k
 rw [List.filterMap_map]at this
 have a:((λx=>xs[x]?)∘λx=>i+x)=λm=>xs[i+m]? :=rfl
 rw [a]at this
 rw [this]
def getItem_tuple_cut {b c:Option Int}(d:IsTup s.heap t y8) (j:s.heap.IsSliceOf sl vl vu .none) (pl:IsPart vl b) (k:IsPart vu c)
 (n: ¬(sIx y8.size 0 b=0/\sIx y8.size y8.size c=y8.size))
 (h:Q (.ref s.heap.objs.size) { s with heap:=s.heap.push { cls:= .type "tuple",data:= .seq ((y8.toList.drop (sIx y8.size 0 b)).take (sIx y8.size y8.size c-sIx y8.size 0 b)).toArray } })
 (hsz:y8.size<=sizeLine):wpAny (model prog w) A (getItem (.ref t) (.ref sl)) Q E s:=by
 have a:=by
  show((y8.toList.drop (sIx y8.size 0 b)).take (sIx y8.size y8.size c-sIx y8.size 0 b)).toArray.size<=sizeLine
  rw [Ab,Ag4,Ai9,An8]
  omega
 have p:sIx y8.size y8.size c<=y8.size:=jcw _ _ (Aa5 _) c
 obtain⟨m,e,f,l⟩:=id j
 have i:s.TypeIs (.ref sl) "slice" :=⟨m,e,f⟩
 unfold getItem
 try with_reducible refine wpAny_holding ?_
 first | refine wpAny_bind (wpAny_pure ?_) | skip
 refine wpAny_bind (wpAny_sequenceKey d.typeIs (by decide) ?_)
 refine wpAny_bind (wpAny_callSpecial?_slot d.typeIs PyProof.Rows.slot_tuple_getitem
  (wpAny_call_entry PyProof.Rows.slot_tuple_getitem d.typeIs entry_tuple_getitem ?_ (args_tuple_getitem _ _)))
 show wpAny _ _ (Builtin.Tuple.tupleItemsOf (.ref t) >>= _) _ _ s
 refine wpAny_bind (tupleItemsOf_ d ?_)
 refine wpAny_bind (wpAny_typeOf i ?_)
 rw [if_pos (by decide)]
 refine wpAny_bind (sliceApplied_gen j pl k ?_)
 have g: ¬((((sIx y8.size 0 b:Nat):Int)==0&&(1:Int)==1&&(sIx y8.size y8.size c-sIx y8.size 0 b)==y8.size)=k9):=by
  intro q
  rw [Aa7,Aa7]at q
  have o:=eq_of_beq q.1.1
  have r:=eq_of_beq q.2
  exact n ⟨by omega,by omega⟩
 show wpAny _ _ (if (((sIx y8.size 0 b:Nat):Int)==0&&(1:Int)==1&&(sIx y8.size y8.size c-sIx y8.size 0 b)==y8.size)=k9 then _ else _) _ _ s
 rw [if_neg g,qa0]
 first
  | exact wpAny_bind (wpAny_newObj_type (wpAny_pure ⟨_,rfl,wpAny_pure h⟩) a)
  | exact wpAny_bind (wpAny_newObj_type (wpAny_bind (wpAny_pure (wpAny_pure ⟨_,rfl,wpAny_pure h⟩))) a)
  | exact wpAny_bind (wpAny_bind (wpAny_newObj_type (wpAny_pure (wpAny_pure ⟨_,rfl,wpAny_pure h⟩)) a))
  | exact wpAny_bind (wpAny_bind (wpAny_newObj_type (wpAny_pure ⟨_,rfl,wpAny_pure h⟩) a))
end
end HT
namespace L2
open PySem PySem.Spec PyProof.Rows
abbrev TO:=St->Hp->(Option Int->Hp->Prop)->Prop
noncomputable def PO (X:Cx) (e:Option Expr) (t:TO):Prop:=
 ∀(k8:List (Addr×Obj)) (s:Shared) (U:St) (H:Hp) (Q:Option Int->Hp->Prop),Inv X k8 U H s->t U H Q →
  wpAny (model X.prog X.w) X.A (evalPart e X.env) (λu s'=> ∃o H',Inv X k8 U H' s'/\IsPart u o/\Q o H') X.xe s
def jbJ:TO:=λ_ H Q=>Q u0 H
def zcR (t:TE):TO:=λU H Q=>t U H λx H1=> ∃i,x= .int i/\Q (y0 i) H1
section
variable {X:Cx}{e:Expr}{te:TE}{lo hi:Option Expr}{tl th:TO}{pos p2:Pos}
def xau:PO X u0 jbJ:=by
 intro a s U H Q I h
 exact wpAny_pure ⟨u0,H,I,.none,h⟩
def jL (h:PE X e te):PO X (y0 e) (zcR te):=by
 intro a s U H Q I g
 refine jdF (h a s U H _ I g) ?_
 rintro u j ⟨x,b,f,c,d⟩
 obtain⟨i,rfl,q⟩:=d
 obtain⟨t,rfl⟩:=c
 exact⟨y0 i,b,f,.int i t,q⟩
noncomputable def SlR (X:Cx) (r:V->Option Int->Option Int->Hp->VK->Prop):Prop:=
 ∀(k8:List (Addr×Obj)) (s:Shared) (U:St) (H:Hp) (x:V) (v a b:Value) (lo hi:Option Int) (sl:Addr) (Q:VK),Inv X k8 U H s->RelV x v->s.heap.IsSliceOf sl a b .none->IsPart a lo->IsPart b hi->r x lo hi H Q →
  ∃T id,typeLookup (.type T) "__getitem__" =pure (some (.builtin id))/\s.TypeIs v T/\wpAny (model X.prog X.w) X.A (getItem v (.ref sl)) (EP X k8 U Q) X.xe s
def SlR.or (h:SlR X r) (h':SlR X r'):SlR X (λx lo hi H Q=>r x lo hi H Q\/r' x lo hi H Q):=by
 intro a s U H x v c e lo hi sl Q I d b pl f q
 rcases q with q | q
 ·exact h a s U H x v c e lo hi sl Q I d b pl f q
 ·exact h' a s U H x v c e lo hi sl Q I d b pl f q
noncomputable def qd1 (r:V->Option Int->Option Int->Hp->VK->Prop) (a:TE) (c b:TO):TE:=λU H Q=>a U H λx H1=>c U H1 λl H2=>b U H2 λu d=>r x l u d Q
def ZM (F:SlR X r) (D:PE X e te) (G:PO X lo tl) (w:PO X hi th):PE X (.Subscript e (.Slice lo hi u0 p2) pos) (qd1 r te tl th):=by
 intro a s U H Q I h
 refine Subscript_ (jdF (D a s U H _ I h) ?_)
 rintro v B ⟨x,i,J,m,o⟩
 refine wpAny_Slice (jdF (G a B U i _ J o) λd p ⟨l,C,K,pl,E⟩=>jdF (w a p U C _ K E) ?_)
 rintro f c ⟨u,g,j,t,y⟩
 refine wpAny_pure ?_
 have k:Inv X a U g { c with heap:=c.heap.push { cls:= .type "slice",data:= .fields #[d,f,.none] } }:=j.kept fun b M q=>Heap.get?_push_of_some _ q
 obtain⟨T,L,A,z,n⟩:=F a { c with heap:=c.heap.push { cls:= .type "slice",data:= .fields #[d,f,.none] } } U g x v d f l u c.heap.objs.size Q k m (Heap.IsSliceOf.new ..) pl t y
 exact tail_any z A n (by with_unfolding_all rfl)
noncomputable def jcq (xs:List V) (a b:Option Int):List V:=(xs.drop (HT.sIx xs.length 0 a)).take (HT.sIx xs.length xs.length b-HT.sIx xs.length 0 a)
def zC (xs) (lo hi):(jcq xs lo hi).length<=xs.length:=by
 unfold jcq
 rw [Ag4,Ai9]
 omega
noncomputable def jc4 (K:Aa6):V->Option Int->Option Int->Hp->VK->Prop:=λx lo hi H Q=> ∃a xs,x= .ref a/\qdS K H a xs ∧
 ¬(HT.sIx xs.length 0 lo=0/\HT.sIx xs.length xs.length hi=xs.length)/\ ∀p,H p=u0->Q (.ref p) (jd7 H p (.tup (jcq xs lo hi)))
def jcu:SlR X (jc4 X.K):=by
 intro j s U H x v t w e i sl Q I n l pl p h
 obtain⟨a,d,rfl,o,m,q⟩:=h
 cases n
 obtain⟨f,r,k,g⟩:=I.tuple o
 have c:f.toArray.size=d.length:=by rw [Ab];exact r.length.symm
 refine⟨"tuple",_,PyProof.Rows.slot_tuple_getitem.lookup,k.typeIs,?_⟩
 refine HT.getItem_tuple_cut k l pl p (by rw [c];exact m) ?_ (by rw [c];exact g)
 rw [c]
 refine⟨.ref s.heap.objs.size,_,I.laid (λb u q=>Aa2 _ q) (Aa5 _) ?_,rfl,q _ (I.hok.fresh (Aa5 _))⟩
 exact⟨Ac (zC d e i) g,_,(r.drop (HT.sIx d.length 0 e)).take (HT.sIx d.length d.length i-HT.sIx d.length 0 e),PTup.new _ _⟩
noncomputable def qcX (K:Aa6):R2:=λx y H Q=> ∃a b xs ys,x= .ref a/\y= .ref b/\qdS K H a xs/\qdS K H b ys/\xs≠ []/\xs.length+ys.length<=sizeLine ∧
 (ys= []->Q (.ref a) H)/\(ys≠ []-> ∀p,H p=u0->Q (.ref p) (jd7 H p (.tup (xs++ys))))
def Vals.nil_iff (r:Vals xs us):us= []↔xs= []:=by
 cases r with
 | nil=>simp
 | cons _ _=>simp
def jbY:qd4 X (binaryOp .Add) (qcX X.K):=by
 intro g s U H x y v u Q I k r h
 obtain⟨a,b,A,C,rfl,rfl,n,j,m,e,i,p⟩:=h
 cases k
 cases r
 obtain⟨l,d,t,_⟩:=I.tuple n
 obtain⟨f,c,o,_⟩:=I.tuple j
 refine HT.cat_tup t o (λz=>m (d.nil_iff.mp z)) (λz=>⟨.ref a,H,I,rfl,i (c.nil_iff.mp z)⟩) (λz=> ?_) (by rw [← d.length,←c.length];exact e)
 refine⟨.ref s.heap.objs.size,_,I.laid (λb B q=>Aa2 _ q) (Aa5 _) ?_,rfl,p (λw=>z (c.nil_iff.mpr w)) _ (I.hok.fresh (Aa5 _))⟩
 exact⟨by rw [Aa8];exact e,_,d.append c,PTup.new _ _⟩
end
noncomputable def ixN (n:Nat) (i:Int):Option Nat:=if 0<=i then(if i<n then y0 i.toNat else u0)else if -(n:Int)<=i then y0 (i+n).toNat else u0
def atI {a:Type}(xs:List a) (i:Int):Option a:=(ixN xs.length i).bind λj=>xs[j]?
def jaw (h:ixN n i=y0 j):seqIndex? i n=y0 j/\j<n/\ -(n:Int)<=i/\i<n:=by
 unfold ixN at h
 by_cases b:0<=i
 ·rw [if_pos b]at h
  by_cases a:i<n
  ·rw [if_pos a]at h
   have e:=Ae5.inj h
   exact⟨by rw [seqIndex_of b a,e],by omega,by omega,a⟩
  ·rw [if_neg a]at h;cases h
 ·rw [if_neg b]at h
  by_cases a: - n<=i
  ·rw [if_pos a]at h
   have e:=Ae5.inj h
   exact⟨by rw [seqIndex_neg (by omega) a,e],by omega,a,by omega⟩
  ·rw [if_neg a]at h;cases h
def jX (h:atI xs i=y0 v): ∃j,seqIndex? i xs.length=y0 j/\xs[j]? =y0 v/\j<xs.length/\ -(xs.length:Int)<=i/\i<xs.length:=by
 unfold atI at h
 cases e:ixN xs.length i with
 | none=>rw [e]at h;cases h
 | some j=>
  rw [e]at h
  obtain⟨b,a,d,c⟩:=jaw e
  exact⟨j,b,h,a,d,c⟩
def Jl {j:Nat}(h:xs[j]? =y0 v):atI xs (j:Int)=y0 v:=by
 have a:=(Ac2.mp h).1
 have e:ixN xs.length j=y0 j:=by
  unfold ixN
  rw [if_pos (by omega),if_pos (by omega)];simp
 unfold atI;rw [e];exact h
def zal (b:Expr):Prop:= ∀o i,subscripted b y9 o i=operate [o,i] (getItem o i)
noncomputable def IxR (X:Cx) (r:R2):Prop:=
 ∀(value a:Expr) (k8:List (Addr×Obj)) (s:Shared) (U:St) (H:Hp) (x y:V) (v u:Value) (Q:VK),Inv X k8 U H s->RelV x v->RelV y u->r x y H Q →
  subscripted a y9 v u=operate [v,u] (getItem v u)->wpAny (model X.prog X.w) X.A (subscriptTail value a v u) (EP X k8 U Q) X.xe s
noncomputable def zdL (X:Cx) (b:String) (r:V->List V->Hp->VK->Prop):Prop:=
 ∀(k8:List (Addr×Obj)) (s:Shared) (U:St) (H:Hp) (x:V) (xs:List V) (v:Value) (a:List Value) (Q:VK),Inv X k8 U H s->RelV x v->Vals xs a->r x xs H Q →
  wpAny (model X.prog X.w) X.A (call (.builtin b) (v::a)) (EP X k8 U Q) X.xe s
section
variable {X:Cx}{a b:Expr}{ta tb:TE}{pos:Pos}
def IxR.or (h:IxR X r) (h':IxR X r'):IxR X (λx y H Q=>r x y H Q\/r' x y H Q):=by
 intro b a c s U H x y v u Q I d f q e
 rcases q with q | q
 ·exact h b a c s U H x y v u Q I d f q e
 ·exact h' b a c s U H x y v u Q I d f q e
def qcY (k:IxR X r) (i:PE X a ta) (e:PE X b tb) (f:zal b):PE X (.Subscript a b pos) (jdN r ta tb):=by
 intro c s U H Q I h
 exact Subscript_ (zcZ i e I h λv u d x y j m g l q=>k a b c d U j x y v u Q m g l q (f _ _))
def zdh (K:Aa6):R2:=λx y H Q=> ∃p xs i v,x= .ref p/\y= .int i/\SqL K H p xs/\atI xs i=y0 v/\Q v H
def zda (K:Aa6):R2:=λx y H Q=> ∃p xs i v,x= .ref p/\y= .int i/\qdS K H p xs/\atI xs i=y0 v/\Q v H
def qdf:R2:=λx y H Q=> ∃z i c,x= .str z/\y= .int i/\z.length<=sizeLine/\atI z.cps.toList i=y0 c/\Q (.str ⟨#[c]⟩) H
def ix_list:IxR X (zdh X.K):=by
 intro f c a s U H x y v u Q I n F h k
 obtain⟨p,G,i,z,rfl,rfl,o,B,q⟩:=h
 cases n
 obtain⟨t,rfl⟩:=F
 obtain⟨e,r,pl,J⟩:=I.list o
 obtain⟨j,b,C,K,A,D⟩:=jX B
 obtain⟨w,l,d⟩:=r.get C
 have E:=r.length
 have hn:=ZB
 have fin:EP X a U Q w s:=⟨z,H,I,d,q⟩
 by_cases m:0<=i
 ·have g:=by
   rw [seqIndex_of m D]at b
   exact Ae5.inj b
  exact item_listR pl.isList m (by omega) (by rw [g];simpa using l) fin k
 ·have g:(i+ e.toArray.size).toNat=j:=by
   rw [seqIndex_neg (by omega) A]at b
   rw [Ab,←E]
   exact Ae5.inj b
  exact subscriptTail_builtinR pl.isList.typeIs slot_list_getitem.lookup
   (wpAny_getItem_list_neg pl.isList (by omega) (by rw [Ab]<;>omega) (by omega) (by rw [g];simpa using l) ⟨rfl,fin⟩) k
def ix_tup:IxR X (zda X.K):=by
 intro d b a s U H x y v u Q I f A h e
 obtain⟨p,C,i,z,rfl,rfl,g,l,q⟩:=h
 cases f
 obtain⟨t,rfl⟩:=A
 obtain⟨k,r,pl,D⟩:=I.tuple g
 obtain⟨j,n,m,G,E,F⟩:=jX l
 obtain⟨w,B,c⟩:=r.get m
 have o:=r.length
 have hn:=ZB
 have fin:EP X a U Q w s:=⟨z,H,I,c,q⟩
 exact subscriptTail_builtinR pl.typeIs slot_tuple_getitem.lookup
  (getItem_tuple pl (by omega) (by omega) (by rw [Ab,←o];exact n) (by simpa using B) ⟨rfl,fin⟩) e
def zcD:IxR X qdf:=by
 intro b a d s U H x y v u Q I k r h g
 obtain⟨z,i,c,rfl,rfl,B,m,q⟩:=h
 obtain⟨t,rfl⟩:=k
 obtain⟨A,rfl⟩:=r
 obtain⟨j,e,n,C,l,o⟩:=jX m
 have p:z.cps.toList.length=z.length:=by simp [Str.length]
 rw [p]at e l o
 have hn:=ZB
 exact tail_any (typeIs_str s z t) slot_str_getitem.lookup (getItem_str (by
  have f:v9 (i< -(2 ^ 63:Int))=false:=decide_eq_false (by omega)
  have w:v9 (i>=2 ^ 63)=false:=decide_eq_false (by omega)
  rw [f,w,Bool.or_false]) (by rw [e];simpa using n) ⟨.str ⟨#[c]⟩,H,I.tok _,⟨_,rfl⟩,q⟩) g
def qdN (K:Aa6):R2:=λx y H Q=>zdh K x y H Q\/zda K x y H Q\/qdf x y H Q
def xcC:IxR X (qdN X.K):=ix_list.or (ix_tup.or zcD)
def j8 (a:List Value) (n j) (u):Obj.mapSeq (·.setIfInBounds j u) { cls:= .type "list",data:= .seq a.toArray n }= { cls:= .type "list",data:= .seq (a.set j u).toArray n }:=by
 simp [Obj.mapSeq]
theorem Inv.lst (I:Inv X k8 U H s) (h:H p=y0 (.lst xs)):
 ∃ a n,Vals xs a/\s.heap.get? p=y0 { cls:= .type "list",data:= .seq a.toArray n }/\xs.length<=sizeLine:=by
 obtain⟨z,a,n,r,e⟩:=I.hok p _ h
 exact⟨a,n,r,e,z⟩
def Inv.lstUpd {a its':List Value}(I:Inv X k8 U H s) (h:H p=y0 (.lst xs))
 (d:s.heap.get? p=y0 { cls:= .type "list",data:= .seq a.toArray n }) (c:f { cls:= .type "list",data:= .seq a.toArray n }= { cls:= .type "list",data:= .seq its'.toArray n' }) (r:Vals ys its') (i:ys.length<=sizeLine) (t):
 Inv X k8 U (jd7 H p (.lst ys)) { s with heap:=s.heap.update p f,toks:=t }:=by
 have e:(s.heap.update p f).get? p=y0 { cls:= .type "list",data:= .seq its'.toArray n' }:=by
  rw [Ai0 f d (by rw [c]<;>rfl),c]
 refine I.write (by rw [h];trivial) (.inl rfl) (λb u g q=>(Aj7 _ _ (Ne.symm g)).trans q) ⟨_,e⟩ ?_
 exact⟨i,its',n',r,e⟩
noncomputable def xc0:V->V->V->Hp->(Hp->Prop)->Prop:=λo i v H Q=> ∃p xs k j,o= .ref p/\i= .int k/\H p=y0 (.lst xs)/\ixN xs.length k=y0 j/\Q (jd7 H p (.lst (xs.set j v)))
def ja0:qcP X xc0:=by
 intro l s U H o i v D F u Q I B z rv h
 obtain⟨p,C,k,j,rfl,rfl,f,A,q⟩:=h
 cases B
 obtain⟨t,rfl⟩:=z
 obtain⟨a,n,r,c,y⟩:=I.lst f
 obtain⟨b,E,w,g⟩:=jaw A
 have e:=r.length
 have hn:=ZB
 have x:=
  I.lstUpd f c (j8 a n j u) (r.set rv j) (by rw [Ae7];exact y) s.toks
 by_cases m:0<=k
 ·have d:=by
   rw [seqIndex_of m g]at b
   exact Ae5.inj b
  exact PySem.W.ki_setAt c m (by omega) (by rw [Ab,←e];exact g) (by rw [d];exact⟨_,x,q⟩)
 ·have d:(k+ a.toArray.size).toNat=j:=by
   rw [seqIndex_neg (by omega) w]at b
   rw [Ab,←e]
   exact Ae5.inj b
  exact PySem.W.ki_setBack c (by omega) (by rw [Ab,←e];exact w) (by omega) (by rw [d];exact⟨_,x,q⟩)
def qP (lo hi) (n):(sliceBounds lo hi u0 n).1=((HT.sIx n 0 lo:Nat):Int)/\(sliceBounds lo hi u0 n).2.1=((HT.sIx n n hi:Nat):Int)/\(sliceBounds lo hi u0 n).2.2=1:=by
 refine⟨?_,?_,rfl⟩
 ·cases lo with
  | none=>simp [sliceBounds,HT.sIx]
  | some i=>
   simp only [sliceBounds,HT.sIx,Option.getD_none,show(1:Int)>0 by decide,if_true]
   by_cases h:i<0
   ·simp only [h,if_true]<;>omega
   ·simp only [h,if_false]<;>omega
 ·cases hi with
  | none=>simp [sliceBounds,HT.sIx]
  | some i=>
   simp only [sliceBounds,HT.sIx,Option.getD_none,show(1:Int)>0 by decide,if_true]
   by_cases h:i<0
   ·simp only [h,if_true]<;>omega
   ·simp only [h,if_false]<;>omega
def zK (a:List Value) (lo hi):slicePick a.toArray lo hi u0=((a.drop (HT.sIx a.length 0 lo)).take (HT.sIx a.length a.length hi-HT.sIx a.length 0 lo)).toArray:=by
 obtain⟨b,d,c⟩:=qP lo hi a.toArray.size
 unfold slicePick
 rw [b,d,c]
 simp only [sliceRange_one,pick_run,Ab]<;>rfl
noncomputable def xcQ (K:Aa6):V->Option Int->Option Int->Hp->VK->Prop:=λx lo hi H Q=> ∃a xs,x= .ref a/\SqL K H a xs/\ ∀p,H p=u0->Q (.ref p) (jd7 H p (.lst (jcq xs lo hi)))
def sl_list:SlR X (xcQ X.K):=by
 intro g s U H x v p u e f sl Q I l k pl o h
 obtain⟨a,c,rfl,n,q⟩:=h
 cases l
 obtain⟨m,r,i,j⟩:=I.list n
 have d:=r.length
 refine⟨"list",_,slot_list_getitem.lookup,i.isList.typeIs,?_⟩
 refine wpAny_getItem_list_slice i.isList k pl o .none (by simp) ?_ (by rw [Ab]<;>omega)
 rw [zK,←d]
 refine⟨.ref s.heap.objs.size,_,I.laid (λb t q=>Aa2 _ q) (Aa5 _) ?_,rfl,q _ (I.hok.fresh (Aa5 _))⟩
 exact⟨Ac (zC c e f) j,_,0,(r.drop (HT.sIx c.length 0 e)).take (HT.sIx c.length c.length f-HT.sIx c.length 0 e),Ab8 _ rfl⟩
def jF:V->Bool
 | .non=>k9
 | .bl _=>k9
 | .int _=>k9
 | .str _=>k9
 | _=>y9
noncomputable def jdE:V->V->Bool
 | .non,.non=>k9
 | .bl a,.bl b=>a==b
 | .bl a,.int b=>(if a then 1 else 0)==b
 | .int a,.bl b=>a==(if b then 1 else 0)
 | .int a,.int b=>a==b
 | .str a,.str b=>a==b
 | _,_=>y9
def xcs (e:RelV y u) (c:RelV x v) (f:jF y=k9) (fx:jF x=k9):SeqAt.EqAt A s u v (jdE y x):=by
 cases y with
 | non=>
  cases e
  cases x with
  | non=>cases c;exact SeqAt.EqAt.same _
  | bl b=>cases c;exact SeqAt.EqAt.none_bool b
  | int b=>obtain⟨t,rfl⟩:=c;exact SeqAt.EqAt.none_int b t
  | str b=>obtain⟨t,rfl⟩:=c;exact SeqAt.EqAt.none_str b t
  | _=>exact absurd (fx) Ab6
 | bl a=>
  cases e
  cases x with
  | non=>cases c;exact SeqAt.EqAt.bool_none a
  | bl b=>cases c;exact SeqAt.EqAt.bool_bool a b
  | int b=>obtain⟨t,rfl⟩:=c;exact SeqAt.EqAt.bool_int a b t
  | str b=>obtain⟨t,rfl⟩:=c;exact SeqAt.EqAt.bool_str a b t
  | _=>exact absurd (fx) Ab6
 | int a=>
  obtain⟨d,rfl⟩:=e
  cases x with
  | non=>cases c;exact SeqAt.EqAt.int_none a d
  | bl b=>cases c;exact SeqAt.EqAt.int_bool a d b
  | int b=>obtain⟨t,rfl⟩:=c;exact SeqAt.EqAt.int_int a d b t
  | str b=>obtain⟨t,rfl⟩:=c;exact SeqAt.EqAt.int_str a d b t
  | _=>exact absurd (fx) Ab6
 | str a=>
  obtain⟨d,rfl⟩:=e
  cases x with
  | non=>cases c;exact SeqAt.EqAt.str_none a d
  | bl b=>cases c;exact SeqAt.EqAt.str_bool a d b
  | int b=>obtain⟨t,rfl⟩:=c;exact SeqAt.EqAt.str_int a d b t
  | str b=>obtain⟨t,rfl⟩:=c;exact SeqAt.EqAt.str_str a d b t
  | _=>exact absurd (fx) Ab6
 | _=>exact absurd (f) Ab6
noncomputable def jdY (x:V) (u:Value):Bool:=match u with
 | .none=>jdE .non x
 | .bool b=>jdE (.bl b) x
 | .int i _=>jdE (.int i) x
 | .str z _=>jdE (.str z) x
 | _=>y9
def qbz (r:RelV y u) (f:jF y=k9):jdY x u=jdE y x:=by
 cases y with
 | non=>cases r;rfl
 | bl b=>cases r;rfl
 | int i=>obtain⟨t,rfl⟩:=r;rfl
 | str z=>obtain⟨t,rfl⟩:=r;rfl
 | _=>exact absurd (f) Ab6
theorem jA : ∀ {xs}{a},Vals xs a->xs.all jF=k9->a.any (jdY x)=xs.any λy=>jdE y x
 | _,_,.nil,_=>rfl
 | y::xs,u::a,.cons r t,f=>by
  rw [Ai4,Aa7]at f
  rw [Ag2,Ag2,qbz r f.1,jA t f.2]
theorem Qu (c:RelV x v) (fx:jF x=k9): ∀ {xs}{b},Vals xs b->xs.all jF=k9-> ∀u∈b,SeqAt.EqAt A s u v (jdY x u)
 | _,_,.nil,_=>λu a=>by cases a
 | y::xs,u::b,.cons r t,f=>λd a=>by
  rw [Ai4,Aa7]at f
  rcases Ab7.mp a with rfl | a
  ·rw [qbz r f.1];exact xcs r c f.1 fx
  ·exact Qu c fx t f.2 d a
def jdT (x:V) (xs:List V):Bool:=xs.any λy=>jdE y x
noncomputable def xdU (K:Aa6) (neg:Bool):R2:=λx y H Q=> ∃p xs,y= .ref p/\(SqL K H p xs\/qdS K H p xs)/\jF x=k9/\xs.all jF=k9/\Q (.bl (if neg then !jdT x xs else jdT x xs)) H
def jam:qd4 X (compareOp .In) (xdU X.K y9):=by
 intro e s U H x y v u Q I d g h
 obtain⟨p,i,rfl,b,fx,fs,q⟩:=h
 cases g
 rcases b with b | b
 ·obtain⟨a,r,pl,f⟩:=I.list b
  refine SeqAt.in_listAt (jdY x) pl.isList (λw c=>Qu d fx r fs w (by simpa using c)) ⟨.bl _,H,I,rfl,?_⟩
  rw [show a.toArray.any (jdY x)=a.any (jdY x)by simp,jA r fs]
  exact q
 ·obtain⟨a,r,pl,f⟩:=I.tuple b
  refine SeqAt.in_tupleAt (jdY x) pl (λw c=>Qu d fx r fs w (by simpa using c)) ⟨.bl _,H,I,rfl,?_⟩
  rw [show a.toArray.any (jdY x)=a.any (jdY x)by simp,jA r fs]
  exact q
def qS:qd4 X (compareOp .NotIn) (xdU X.K k9):=by
 intro e s U H x y v u Q I d g h
 obtain⟨p,i,rfl,b,fx,fs,q⟩:=h
 cases g
 rcases b with b | b
 ·obtain⟨a,r,pl,f⟩:=I.list b
  refine SeqAt.notIn_listAt (jdY x) pl.isList (λw c=>Qu d fx r fs w (by simpa using c)) ⟨.bl _,H,I,rfl,?_⟩
  rw [show a.toArray.any (jdY x)=a.any (jdY x)by simp,jA r fs]
  exact q
 ·obtain⟨a,r,pl,f⟩:=I.tuple b
  refine SeqAt.notIn_tupleAt (jdY x) pl (λw c=>Qu d fx r fs w (by simpa using c)) ⟨.bl _,H,I,rfl,?_⟩
  rw [show a.toArray.any (jdY x)=a.any (jdY x)by simp,jA r fs]
  exact q
def xO:Jm X (.builtin "len") (fun xs H Q=> ∃p ys,xs= [.ref p]/\(SqL X.K H p ys\/qdS X.K H p ys)/\Q (.int ys.length) H):=by
 intro e s U H xs i Q I r h
 obtain⟨p,ys,rfl,b,q⟩:=h
 obtain⟨u,rfl,g⟩:=qK r
 cases g
 have hn:=ZB
 rcases b with b | b
 ·obtain⟨c,d,pl,f⟩:=I.list b
  have a:=d.length
  exact Calls.call_len_list pl.isList (by simp only [Ab]<;>omega) ⟨.int ys.length,H,I.tok _,⟨s.toks+1,by rw [Ab,a]⟩,q⟩
 ·obtain⟨c,d,pl,f⟩:=I.tuple b
  have a:=d.length
  exact len_tuple pl (by simp only [Ab]<;>omega) ⟨.int ys.length,H,I.tok _,⟨s.toks+1,by rw [Ab,a]⟩,q⟩
def qR:Jm X (.builtin "len") (fun xs H Q=> ∃z,xs= [.str z]/\z.length<=sizeLine/\Q (.int z.length) H):=by
 intro a s U H xs b Q I r h
 obtain⟨z,rfl,c,q⟩:=h
 obtain⟨u,rfl,t,rfl⟩:=qK r
 have hn:=ZB
 exact len_str (by omega) ⟨.int z.length,H,I.tok _,⟨_,rfl⟩,q⟩
def Qf:Jm X (.type "tuple") (fun xs H Q=> ∃p ys,xs= [.ref p]/\((SqL X.K H p ys/\ ∀l,H l=none->Q (.ref l) (jd7 H l (.tup ys)))\/(qdS X.K H p ys/\Q (.ref p) H))):=by
 intro a s U H xs v Q I r h
 obtain⟨p,ys,rfl,h⟩:=h
 obtain⟨u,rfl,m⟩:=qK r
 cases m
 rcases h with⟨f,q⟩ | ⟨f,q⟩
 ·obtain⟨c,g,pl,j⟩:=I.list f
  have i:=g.length
  refine call_tuple_list pl.isList (λd t=> ?_) (by simp only [Ab]<;>omega)
  have k:Inv X a U H { s with heap:=d }:=I.kept t
  have n:Inv X a U (jd7 H d.objs.size (.tup ys)) { s with heap:=d.push { cls:= .type "tuple",data:= .seq c.toArray } }:=
   k.laid (λb o e=>Aa2 _ e) (Aa5 _) (show ObjOk X.prog X.w _ _ _ (.tup ys)from⟨j,c,g,PTup.new _ _⟩)
  exact⟨.ref d.objs.size,_,n,rfl,q _ (k.hok.fresh (Aa5 _))⟩
 ·obtain⟨c,g,pl,j⟩:=I.tuple f
  exact call_tuple_same pl ⟨.ref p,H,I,rfl,q⟩
noncomputable def zdJ (K:Aa6) (T:String) (x:V) (H:Hp):Prop:=match x with
 | .str _=>T= "str"
 | .int _=>T= "int"
 | .ref p=>(T= "list" /\ ∃xs,SqL K H p xs)\/(T= "tuple" /\ ∃o,K.lookup p=some o/\o.cls= .type "tuple" /\o.dict=none) ∨
  (T= "dict" /\((∃ a,H p=some (.dK a))\/ ∃a,H p=some (.dT a)))\/(T= "set" /\ ∃S n,H p=some (.set S n))
 | _=>False
def xbB (I:Inv X k8 U H s) (r:RelV x v) (ty:zdJ X.K T x H):
 s.TypeIs v T/\ ∀a,v= .ref a-> ∃ob,s.heap.get? a=y0 ob/\ob.dict=none:=by
 cases x with
 | str z=>
  obtain⟨t,rfl⟩:=r
  cases (ty)
  exact⟨typeIs_str s z t,λ_ e=>nomatch e⟩
 | int i=>
  obtain⟨t,rfl⟩:=r
  cases (ty)
  exact⟨typeIs_int s i t,λ_ e=>nomatch e⟩
 | ref p=>
  cases r
  rcases ty with⟨rfl,l,k⟩ | ⟨rfl,o,b,h,f⟩ | ⟨rfl,b⟩ | ⟨rfl,S,n,b⟩
  ·obtain⟨j,_,pl,_⟩:=I.list k
   refine⟨pl.isList.typeIs,λa e=> ?_⟩
   cases e
   obtain⟨o,n,e,c,f,_⟩:=pl
   exact⟨o,e,f⟩
  ·refine⟨⟨o,I.kIn p o b,h⟩,λa e=> ?_⟩
   cases e
   exact⟨o,I.kIn _ o b,f⟩
  ·have z: ∃o,s.heap.get? p=y0 o/\o.ExactDict:=by
    rcases b with⟨d,b⟩ | ⟨d,b⟩
    ·obtain⟨_,_,_,_,o,_,_,e,ex,_⟩:=I.hok p _ b
     exact⟨o,e,ex⟩
    ·obtain⟨_,_,_,_,o,_,_,e,ex,_⟩:=I.hok p _ b
     exact⟨o,e,ex⟩
   obtain⟨o,e,ex⟩:=z
   refine⟨⟨o,e,ex.1⟩,λa g=> ?_⟩
   cases g
   exact⟨o,e,ex.2.1⟩
  ·obtain⟨o,_,_,_,e,ex,_⟩:=I.hok p _ b
   refine⟨⟨o,e,ex.1⟩,λa g=> ?_⟩
   cases g
   exact⟨o,e,ex.2.1⟩
 | _=>exact False.elim ty
def qdv (K:Aa6) (T:String) (r:V->List V->Hp->VK->Prop) (a:TE):TE:=λU H Q=>a U H λx H1=>zdJ K T x H1/\r x [] H1 Q
noncomputable def qdH (K:Aa6) (T:String) (r:V->List V->Hp->VK->Prop) (a:TE) (t:TA):TE:=λU H Q=>a U H λx H1=>zdJ K T x H1/\t U H1 λxs H2=>r x xs H2 Q
variable {o e:Expr}{es:List Expr}{to:TE}{t:TA}{name:Str}{apos y7:Pos}{T id:String}{r:V->List V->Hp->VK->Prop}
def qbC (j:PlainAttrs T) (d:Slot T name id) (e:typeOf (.builtin id)=pure (.type "method_descriptor")) (m:zdL X id r) (l:PE X o to)
 (c:attributeBase o name X.env (eval o X.env)=eval o X.env:=by rfl) (b:(apos.endLine==y7.line)=true:=by rfl):PE X (.Call (.Attribute o name apos) [] [] y7) (qdv X.K T r to):=by
 intro a s U H Q I h
 refine wpAny_Call_method0_late c b (jdF (l a s U H _ I h) ?_)
 rintro v n ⟨x,i,g,f,ty,k⟩
 obtain⟨q,p⟩:=xbB g f ty
 exact⟨T,id,j,d,e,q,p,Calls.callWith_builtin rfl (PySem.evalArgs_none (m a n U i x [] v [] Q g f .nil k))⟩
def xbJ (n:PlainAttrs T) (g:Slot T name id) (i:typeOf (.builtin id)=pure (.type "method_descriptor")) (A:zdL X id r) (u:PE X o to) (z:PA X (e::es) t)
 (d:attributeBase o name X.env (eval o X.env)=eval o X.env:=by rfl)
 (f:((backTo y7 (starEach (e::es) X.env)).all (λx=> !x.1)&&(backToKw y7 (keywordEach [] X.env)).all (λx=>x.1.isSome)
   &&v9 ((e::es).length+([]:List Keyword).length+(if ([]:List Keyword).isEmpty then 0 else 1)<30))=true:=by rfl)
 (c:(apos.endLine==y7.line)=true:=by rfl) (w:starEach (e::es) X.env=(y9,eval e X.env)::starEach es X.env:=by rfl) (b:(backTo y7 (starEach es X.env)).any (·.1)=false:=by rfl):
 PE X (.Call (.Attribute o name apos) (e::es) [] y7) (qdH X.K T r to t):=by
 intro a s U H Q I h
 refine wpAny_Call_method_late d f c rfl (jdF (u a s U H _ I h) ?_)
 rintro v B ⟨x,l,k,j,ty,p⟩
 obtain⟨E,D⟩:=xbB k j ty
 refine⟨T,id,n,g,i,E,D,?_⟩
 have hA:=z y7 a B U l _ k p
 rw [w]at hA ⊢
 refine Calls.callWith_builtin (by show(y9||(backTo y7 (starEach es X.env)).any (·.1))=y9;rw [b]<;>rfl) (Calls.evalArgs_plain ?_)
 exact jdF hA λy q ⟨m,C,J,G,F⟩=>A a q U C x m v y Q J j G F
end
noncomputable def zdF (X:Cx) (b:String) (r:V->List V->Hp->VK->Prop):Prop:=
 ∀(k8:List (Addr×Obj)) (s:Shared) (U:St) (H:Hp) (x:V) (xs:List V) (v:Value) (a:List Value) (Q:VK),Inv X k8 U H s->RelV x v->Vals xs a->r x xs H Q →
  wpAny (model X.prog X.w) X.A (call (.builtin b) (v::a)) (EP X k8 U Q) X.xe s
def Vals.one: ∀ {x:V}{a:List Value},Vals [x] a-> ∃u,a= [u]/\RelV x u
 | _,_,.cons r .nil=>⟨_,rfl,r⟩
def Vals.zero: ∀ {a:List Value},Vals [] a->a= []
 | _,.nil=>rfl
theorem Vals.dropLast {xs:List V}{a:List Value}(h:Vals xs a):Vals xs.dropLast a.dropLast:=by
 induction h with
 | nil=>exact .nil
 | cons r t b=>
  cases t with
  | nil=>exact .nil
  | cons q c=>exact .cons r b
theorem Vals.rep {xs:List V}{a:List Value}(h:Vals xs a): ∀k:Nat,Vals (Ab0 k xs).flatten (Ab0 k a).flatten
 | 0=> .nil
 | k+1=>by
  rw [Ac7,Ac7,Ak,Ak]
  exact Vals.append h (Vals.rep h k)
def X6 {c:Type}(l:List c):l.eraseIdx (l.length-1)=l.dropLast:=by
 induction l with
 | nil=>rfl
 | cons a r d=>
  cases r with
  | nil=>rfl
  | cons b r=>
   have e:(a::b::r).length-1=((b::r).length-1)+1:=by
    have g:(a::b::r).length=r.length+2:=rfl
    have f:(b::r).length=r.length+1:=rfl
    omega
   rw [e,List.eraseIdx_cons_succ,d]
   all_goals rfl
theorem ZN (a:List Value): ∀(k:Nat) (b:List Value),
 List.foldl (λx1 x2=>x1++x2) b.toArray (Ab0 k a.toArray)=(b++(Ab0 k a).flatten).toArray
 | 0,b=>by simp
 | k+1,b=>by
  have e:b.toArray++a.toArray=(b++a).toArray:=by simp
  have c:(b++a)++(Ab0 k a).flatten=b++(Ab0 (k+1) a).flatten:=by
   rw [Ac7,Ak,Af1]
  rw [← c,←ZN a k (b++a),←e,Ac7,Ai]
section
variable {X:Cx}{k8:List (Addr×Obj)}{U:St}{H:Hp}{s:Shared}{l b:Addr}{xs ys zs:List V}
def Inv.lset {a its':List Value}{n:Nat}{f:Array Value->Array Value}{t':Nat}(I:Inv X k8 U H s) (h:H l=y0 (.lst xs))
 (e:s.heap.get? l=y0 { cls:= .type "list",data:= .seq a.toArray n }) (c:f a.toArray=its'.toArray) (d:Vals ys its') (i:ys.length<=sizeLine):
 Inv X k8 U (jd7 H l (.lst ys)) { s with heap:=s.heap.update l (Obj.mapSeq f),toks:=t' }:=by
 have q:=PySem.IsL.update e f
 rw [c]at q
 refine I.write (x:=l) (e:=l) (by rw [h];exact trivial) (.inl rfl) (λj u g b=>(Aj7 s.heap (Obj.mapSeq f) (Ne.symm g)).trans b) ⟨_,q⟩ ?_
 exact⟨i,its',_,d,q⟩
def Inv.lnew {a:List Value}{t':Nat}(I:Inv X k8 U H s) (b:Vals ys a) (c:ys.length<=sizeLine):
 Inv X k8 U (jd7 H s.heap.objs.size (.lst ys)) { s with heap:=s.heap.push { cls:= .type "list",data:= .seq a.toArray },toks:=t' }:=
 I.laid (λ_ _ q=>Aa2 _ q) (Aa5 _) ⟨c,a,0,b,Ab8 _ rfl⟩
theorem Inv.fresh (I:Inv X k8 U H s):H s.heap.objs.size=none:=I.hok.fresh (Aa5 _)
def Inv.lstM (I:Inv X k8 U H s) (b:H l=y0 (.lst xs)):xs.length<=sizeLine/\ ∃(a:List Value) (n:Nat),Vals xs a/\xs.length=a.length/\s.heap.get? l=y0 { cls:= .type "list",data:= .seq a.toArray n }:=by
 obtain⟨z,a,n,r,e⟩:=I.hok l _ b
 exact⟨z,a,n,r,r.length,e⟩
def xZ {n:Nat}(h:n<=sizeLine):Builtin.List.listTooLong n=false:=by
 unfold Builtin.List.listTooLong
 exact decide_eq_false (by omega)
end
section
variable {X:Cx}
noncomputable def qbP:V->List V->Hp->VK->Prop:=λx a H Q=> ∃l xs y,x= .ref l/\a= [y]/\H l=y0 (.lst xs)/\xs.length<sizeLine/\Q .non (jd7 H l (.lst (xs++ [y])))
def jO:zdF X "list.append" qbP:=by
 intro c s U H x g v k Q I f rv h
 obtain⟨l,i,y,rfl,rfl,b,j,q⟩:=h
 cases f
 obtain⟨u,rfl,d⟩:=rv.one
 obtain⟨z,a,n,r,m,e⟩:=I.lstM b
 refine call_meets F.slot_list_append ⟨_,e,rfl⟩ F.entry_list_append (F.args_list_append_2 _ _) (PySem.list_append l a.toArray n u (by rw [Ab];omega)) ⟨e,?_⟩
 refine⟨.non,_,I.lset (its':=a++ [u]) b e (by simp) (r.append (.cons d .nil)) ?_,rfl,q⟩
 rw [Aa8,Af4]
 omega
noncomputable def jbP:V->List V->Hp->VK->Prop:=λx a H Q=> ∃l b xs zs,x= .ref l/\a= [.ref b]/\H l=y0 (.lst xs)/\H b=y0 (.lst zs)/\xs.length+zs.length<=sizeLine/\Q .non (jd7 H l (.lst (xs++zs)))
def zai:zdF X "list.extend" jbP:=by
 intro i s U H x w v C Q I m rv h
 obtain⟨l,b,y,B,rfl,rfl,g,hB,A,q⟩:=h
 cases m
 obtain⟨u,rfl,j⟩:=rv.one
 cases j
 obtain⟨z,c,n,r,D,e⟩:=I.lstM g
 obtain⟨E,a,o,t,k,p⟩:=I.lstM hB
 have f:c.toArray.size+a.toArray.size<=sizeLine:=by rw [Ab,Ab];omega
 have d: ¬(!c.toArray.isEmpty&&Builtin.List.listTooLong (c.toArray.size+a.toArray.size))=true:=by
  rw [xZ f,Bool.and_false]
  exact Ab6
 refine call_meets F.slot_list_extend ⟨_,e,rfl⟩ F.entry_list_extend (F.args_list_extend_2 _ _)
  (AutoSeq1.list_extend_list_list_0 l c.toArray n b a.toArray o d (by rw [Ab];omega) (by omega)) ⟨e,p,?_⟩
 refine⟨.non,_,I.lset (its':=c++a) g e (by simp) (r.append t) ?_,rfl,q⟩
 rw [Aa8]
 omega
noncomputable def qdm:V->List V->Hp->VK->Prop:=λx a H Q=> ∃l xs y,x= .ref l/\a= []/\H l=y0 (.lst xs)/\xs[xs.length-1]? =y0 y/\Q y (jd7 H l (.lst xs.dropLast))
def jbo:zdF X "list.pop" qdm:=by
 intro f s U H x o v t Q I k rv h
 obtain⟨l,p,y,rfl,rfl,d,j,q⟩:=h
 cases k
 have b:=rv.zero
 subst b
 obtain⟨z,a,n,r,m,e⟩:=I.lstM d
 obtain⟨u,g,i⟩:=r.get j
 have c:a.toArray[a.toArray.size-1]? =y0 u:=by
  show a.toArray[a.length-1]? =y0 u
  rw [← Array.getElem?_toList,←m]
  exact g
 refine call_meets F.slot_list_pop ⟨_,e,rfl⟩ F.entry_list_pop (F.args_list_pop_1 _) (MeetsSeq.list_pop_last l a.toArray n u c (by rw [Ab];omega)) ⟨e,?_⟩
 refine⟨y,_,I.lset (its':=a.dropLast) d e ?_ r.dropLast ?_,i,q⟩
 ·show a.toArray.eraseIdxIfInBounds (a.toArray.size-1)=a.dropLast.toArray
  rw [Ab,List.eraseIdxIfInBounds_toArray,X6]
 ·rw [List.length_dropLast]
  omega
def qbJ {b:Type}(xs:List b) (k:Nat):(Ab0 k xs).flatten.length=k*xs.length:=by
 induction k with
 | zero=>simp
 | succ k a=>rw [Ac7,Ak,Aa8,a,Al8,Am]
end
end L2
namespace Att
open PySem PySem.W PySem.Calls PyProof.Rows
def xE {P:Params}{h:Heap}: ∀(ns:List Int) (c:List Value),WellAll P h c (ns.map WData.int)->IntsAre c ns:=by
 intro ns
 induction ns with
 | nil=>
  intro c w
  rw [Ad0]at w
  cases w
  exact .nil
 | cons n ns d=>
  intro c w
  rw [Aa9]at w
  cases w with
  | cons a b=>
   cases a
   exact .cons _ _ (d _ b)
def xaq {l:OpenLaw}{n:Nat}(v:l.most=y0 n){P:Params}{h:Heap}{b:List WData}{c:List Value}
 (e:l.row.toRowW.claim.pre b=k9) (m:WellAll P h c b):
 ∃a o ns,c= [Value.ref a]/\b= [WData.list (ns.map WData.int)]/\h.get? a=y0 { cls:= .type "list",data:= .seq o.toArray }/\IntsAre o ns/\ns.length<=n:=by
 have k:WShape.hasAll [] b [.list .int]=true:=(pre_splitW e).1
 have p:l.pre.holds [] { args:=b }=true:=(pre_splitW e).2
 obtain⟨d,r,rfl,x,w⟩:=hasAllW_cons k
 obtain rfl:=hasAllW_nil w
 obtain⟨A,rfl,z⟩:=hasW_list x
 obtain⟨ns,rfl⟩:=items_int z
 have f:ns.length<=n:=by
  unfold OpenLaw.pre at p
  have i:(WTm.not (.lt (.lit (.int (n:Int))) (.len (.arg 0)))).holds [] { args:= [.list (ns.map .int)] }=true:=by
   have i:=(holds_andW p).1
   rw [v]at i
   exact i
  have j:=condW_of i (w_not (w_lt w_lit (w_len_list (w_arg rfl))))
  rw [Aa]at j
  refine Nat.le_of_not_lt λq=> ?_
  have t:(n:Int)<((ns.length:Nat):Int):=by omega
  first
   | (rw [decide_eq_true t]at j;exact absurd j (by decide))
   | (simp at j;omega)
 cases m with
 | cons u y=>
  cases y
  cases u with
  | list s g=>exact⟨_,_,ns,rfl,rfl,s,xE ns _ g,f⟩
def zaK (l:OpenLaw) (a:List WData):l.row.toRowW.claim.post a (.bool k9) a=true:=
 postW_of (r:=l.row.toRowW) (X:=(k9==k9))
  (show WShape.has [] (.bool k9) .bool=k9 by first | rfl | decide | simp [WShape.has,WShape.arms,WShape.armsAll])
  (show (WTm.eq .res (.lit (.bool k9))).value [] { args:=a,res:=y0 (.bool k9),after:=a }=y0 (.bool (k9==k9))from w_eq_bool (w_res rfl) w_lit) rfl
def attach_call {l:OpenLaw}{n:Nat}{q:Program}{e:List Str}{B:(Str->Option Value)->Heap->Prop}{z:World->Heap->Prop}{d:DefRec}
 (M:l.most=y0 n) (u:d.params.defaults= [])
 (call: ∀(w:World) (c b:Shared) (mg v:Str->Option Value) (m:Addr) (o:Obj) (pm cd h:Value) (a:Addr) (i:List Value) (ns:List Int),
   Ground q e [] B w c mg v b.heap->z w b.heap →
   b.heap.get? m=y0 o->o.data= .func (docDef d.name d.params d.body d.scope pm cd h)->b.heap.CodeRec cd d.name->mg d.name=y0 (.ref m) →
   b.heap.get? a=y0 { cls:= .type "list",data:= .seq i.toArray }->IntsAre i ns->ns.length<=n->b.gens= #[] →
   codeAny (model l.prog w) callerA (.call (.ref m) ⟨[.ref a],[]⟩) (λr s'=>r= .ok (.ret (.bool k9))/\OldK b.heap s'.heap/\s'.os=b.os/\AllBare s'.gens) b):
 WalkO q e B z l.row.toRowW d [] (λf i=>PySem.call f i):=by
 intro w c b mg v G Y m o pm cd h L kV F P x C s E y A R k D I t H
 obtain rfl:L= .none:=Dflts.none C u
 obtain rfl:kV= .none:=Dflts.noKw C
 obtain⟨a,i,ns,rfl,rfl,p,g,j⟩:=xaq M k t
 refine enter_call (codeAny_mono (call w c b mg v m o pm cd h a i ns G Y F (fd_plain P) x s p g j E) λr s' K=> ?_)
 obtain⟨rfl,O,Q,J⟩:=K
 exact⟨.inl ⟨.bool k9,.bool k9,[],rfl,λ_=>rfl,.bool k9,zaK l _,λ_=>⟨Am6.nil,λ_ N=>(nomatch N)⟩⟩,O,Q,J⟩
end Att
namespace L2
open PySem PySem.Spec PyProof.Rows
theorem wQ: ∀ {a:List Value}{ns:List Int},IntsAre a ns->Vals (ns.map V.int) a
 | _,_,.nil=> .nil
 | _,_,.cons n t h=> .cons ⟨t,rfl⟩ (wQ h)
def zcU (H:Hp):Prop:= ∀b,H b=u0\/ ∃o xs,H b=y0 (.frz o (.lst xs))
def zbg {P:Program}{w:World}{K:Aa6}{mg M:Str->Option Value}{CX:qd5}{k:Nat}{N a:Addr}{U:FuncData}{x:Str}{Z:Sp}{c:Shared}{j:List Value}{ns:List Int}
 (KX:K.In c.heap) (G:c.heap.Ns mainGlobals mg) (f:c.heap.Ns builtinsNs M) (O: ∀x:Str,x≠ "__name__" ->M x=bootBuiltins x) (C:c.heap.NoLimit) (hg:c.gens= #[])
 (J:c.heap.get? a=y0 { cls:= .type "list",data:= .seq j.toArray }) (Y:IntsAre j ns) (W:ns.length<=sizeLine) (hr:Room k callerA)
 (F: ∀base:Heap,K.In base->base.Ns mainGlobals mg->FnOk P w K mg base CX k N U [x] Z) (l: ∀(s:Shared) (u:Value),BindsTo s U ⟨[u],[]⟩ [(x,u)])
 (R: ∀H:Hp,zcU H->SqL K H a (ns.map V.int)->Z [.ref a] H (λv _=>v= .bl k9) λ_ _ _=>False)
 (T: ∀H e s',CX [] H c (λ_ _ _=>False) e s'->False):
 codeAny (model P w) callerA (.call (.ref N) ⟨[.ref a],[]⟩) (λr s'=>r= .ok (.ret (.bool k9))/\OldK c.heap s'.heap/\s'.os=c.os/\AllBare s'.gens) c:=by
 have rv:=wQ Y
 have D:=Y.length
 have i: ∀H:Hp,zcU H->SqL K H a (ns.map V.int)->HOk P w H c.heap->(∀ b,H b≠u0->b=a)->(H a≠u0->K.lookup a=u0) →
  codeAny (model P w) callerA (.call (.ref N) ⟨[.ref a],[]⟩) (λr s'=>r= .ok (.ret (.bool k9))/\OldK c.heap s'.heap/\s'.os=c.os/\AllBare s'.gens) c:=by
  intro H hO hS y hA hK
  have base_of: ∀ {b:Addr}{o:Obj},c.heap.get? b=y0 o->H b=u0->(jbd c.heap H).get? b=y0 o:=λe n=>jbe e n
  have L: ∀ {b:Addr}{o:Obj}{B:Array DictEntry}{E:Nat},c.heap.get? b=y0 o->o.data= .dict B E->H b=none:=λ{b o B E} e d=>by
   cases q:H b with
   | none=>rfl
   | some u=>
    have S:b=a:=hA b (by rw [q];simp)
    subst S
    rw [J]at e;cases e
    have d':Data.seq j.toArray _=Data.dict B E:=d
    cases d'
  have g: ∀ {b:Addr}{m:Str->Option Value},c.heap.Ns b m->(jbd c.heap H).Ns b m:=λ{b m} ⟨o,B,E,e,d,r⟩=>⟨o,B,E,base_of e (L e d),d,r⟩
  have I:K.In (jbd c.heap H):=λb o e=>base_of (KX b o e) (by
   cases q:H b with
   | none=>rfl
   | some u=>
    have S:b=a:=hA b (by rw [q];simp)
    subst S
    rw [hK (by rw [q];simp)]at e;cases e)
  have hM:Mod K mg (jbd c.heap H):=⟨I,g G,⟨M,g f,O⟩,let ⟨mc,h1,h2⟩:=C; ⟨mc,g h1,h2⟩⟩
  have e0:Env0 P w K mg (jbd c.heap H) callerA [] c H:=⟨rfl,hM,λb o e=>zb5 e,Nat.le_of_eq (qaj _ _),trivial,λb f=>absurd (show b∈([]:List Addr)from f) (by simp),y,.of_eq hg⟩
  refine codeAny_mono ((F _ I (g G)).run callerA [] c H ⟨[.ref a],[]⟩ [.ref a] [.ref a] _ _ hr e0 (l c (.ref a)) (.cons rfl .nil) (R H hO hS)) λr s' h=> ?_
  cases r with
  | error e=>exact(T H e s' h).elim
  | ok fl=>
   cases fl with
   | next=>exact False.elim h
   | brk=>exact False.elim h
   | cont=>exact False.elim h
   | ret u=>
    obtain⟨v,H',os,A,un,t,r',q⟩:=h
    have q':v= .bl true:=q
    subst q'
    obtain rfl:u=Value.bool true:=r'
    refine⟨rfl,OldK.of_keep λb o e=> ?_,os,A⟩
    cases q:H b with
    | none=>exact un.keep b o e q (by intro z;exact absurd (show b∈([]:List Addr)from z) (by simp)) (by simp)
    | some u=>
     rcases hO b with z | ⟨ob,xs,z⟩
     ·rw [q]at z;cases z
     ·have z2:=un.frzs b ob _ z
      obtain⟨X,_⟩:=y b _ z
      obtain⟨e2,_⟩:=t b _ z2
      rw [e]at X;cases X
      exact e2
 cases Q:K.lookup a with
 | some o=>
  have e:=KX a o Q
  rw [J]at e
  cases e
  refine i (λ_=>u0) (λ_=> .inl rfl) (.inr ⟨_,j.toArray,_,Q,rfl,rfl,rfl,by rw [Ab,D];exact W,by simpa using rv⟩) (λb u z=>by have p:(none:Option HO)=y0 u:=z;cases p) (λb z=>absurd rfl z) λz=>absurd rfl z
 | none=>
  refine i (fun b=>if b=a then some (.frz { cls:= .type "list",data:= .seq j.toArray } (.lst (ns.map V.int)))else none) (fun b=> ?_) (.inl (.inr ⟨{ cls:= .type "list",data:= .seq j.toArray },if_pos rfl⟩)) (fun b u z=> ?_) (fun b z=> ?_) fun _=>Q
  ·by_cases f:b=a
   ·exact .inr ⟨_,_,if_pos f⟩
   ·exact .inl (if_neg f)
  ·by_cases f:b=a
   ·have p:=(if_pos f).symm.trans z
    cases p
    subst f
    exact⟨J,by rw [Aa];exact W,j,_,rv,J⟩
   ·have p:=(if_neg f).symm.trans z
    cases p
  ·by_cases f:b=a
   ·exact f
   ·exact absurd (if_neg f) z
abbrev jdA {K:Aa6}{h:Heap}(_:K.In h):Aa6:=K
def walk_of {l:PySem.W.OpenLaw}{n k:Nat}{q:Program}{g:List Str}{N:(Str->Option Value)->Heap->Prop}{B:World->Heap->Prop}{d:DefRec}{K:Params->Aa6}{I:World->qd5}{E:World->Sp}{x:Str}
 (Q:l.most=y0 n) (t:n<=sizeLine) (r:d.params.defaults= []) (T:Room k callerA)
 (R: ∀(w:World) (h:Heap),B w h->(K w.params).In h)
 (F: ∀(w:World) (mg:Str->Option Value) (m:Addr) (h:Heap),(K w.params).In h->h.Ns mainGlobals mg->mg d.name=y0 (.ref m) →
   ∃fd:FuncData,(∀ (s:Shared) (u:Value),BindsTo s fd ⟨[u],[]⟩ [(x,u)]) ∧
    ∀base:Heap,(K w.params).In base->base.Ns mainGlobals mg->FnOk l.prog w (K w.params) mg base (I w) k m fd [x] (E w))
 (z: ∀(w:World) (H:Hp) (a:Addr) (ns:List Int),ns.length<=n->zcU H->SqL (K w.params) H a (ns.map V.int)->E w [.ref a] H (λv _=>v= .bl k9) λ_ _ _=>False)
 (y: ∀(w:World) (H:Hp) (s:Shared) (e:Value) (s':Shared),I w [] H s (λ_ _ _=>False) e s'->False):
 PySem.W.WalkO q g N B l.row.toRowW d [] (λf A=>PySem.call f A):=by
 refine Att.attach_call Q r λw D i mg X m o pm cd O a A ns G Y W Z P p j c b J=> ?_
 have C:=R w _ Y
 obtain⟨fd,L,M⟩:=F w mg m _ C G.T.g p
 exact zbg C G.T.g G.T.b G.T.builtins G.T.nolimit J j c (Ac b t) T M L (λH S U=>z w H a ns b S U) λH e s'=>y w H i e s'
noncomputable def xbN (s:Stmt) (j:Nat):Stmt:=match s with
 | .ClassDef _ _ _ a _ _ _ _ _ _ _=>a.getD j (.Pass ⟨0,0,0,0⟩)
 | _=> .Pass ⟨0,0,0,0⟩
noncomputable def wm (s:Stmt):Arguments:=match s with
 | .FunctionDef _ a _ _ _ _ _ _ _ _=>a
 | _=> { posonlyargs:= [],args:= [],vararg:=u0,kwonlyargs:= [],kw_defaults:= [],kwarg:=u0,defaults:= [] }
def We (s:Stmt):List Stmt:=match s with
 | .FunctionDef _ _ b _ _ _ _ _ _ _=>b
 | _=> []
noncomputable def Zb (s:Stmt):Scope:=match s with
 | .FunctionDef _ _ _ _ _ _ a _ _ _=>a
 | _=> { kind:= .function,names:= [],isGenerator:=y9,isCoroutine:=y9 }
abbrev jdD:qd5:=λ_ _ _ _ _ _=>False
abbrev E0:XK:=λ_ _ _=>False
structure Fun (K:Aa6) (x v8:Str) (st:Stmt) (f:Addr) (fd:FuncData):Prop where
 ex: ∃(oc:Value) (od:Option Addr) (kV doc pm:Value) (an:Option Addr) (cdv ct:Value) (osl:Array (Option Value)),
  fd=Ah9 x v8 (wm st) (We st) (Zb st) .none kV doc pm an cdv ct/\K.lookup f=y0 ⟨oc,od,.func fd,osl⟩/\Ak9 K cdv v8=k9
 kp:Ae4 K (.ref f)=k9
section
variable {P:Program}{w:World}{K:Aa6}{mg:Str->Option Value}{base:Heap}
def Fun.binds {st:Stmt}(F:Fun K x v8 st f fd)
 (h: ∀ kV b pm c a e g,g.length=ps.length->bindArgs (Ah9 x v8 (wm st) (We st) (Zb st) .none kV b pm c a e) ⟨g,[]⟩=pure (ps.zip g)):Binds K fd ps []:=by
 obtain⟨j,l,kV,b,pm,c,a,e,d,rfl,k,i⟩:=F.ex
 exact .all (h kV b pm c a e)
def qaK {st:Stmt}{kV b pm a d:Value}(l:K.lookup f=y0 ⟨oc,od,.func (Ah9 x v8 (wm st) (We st) (Zb st) .none kV b pm an a d),osl⟩)
 (c:Ak9 K a v8=k9) (k:Ae4 K (.ref f)=k9):Fun K x v8 st f (Ah9 x v8 (wm st) (We st) (Zb st) .none kV b pm an a d):=⟨⟨oc,od,kV,b,pm,an,a,d,osl,rfl,l,c⟩,k⟩
end
def zo (h:n<=1000):n<sizeLine:=Ao6 h (by decide)
section
variable {X:Cx}
def pv (i)(d:X.N[i]? =some x:=by rfl) (c:xdy X.env.scope x:=by first | exact Or.inl rfl | exact Or.inr (Or.inl rfl) | exact Or.inr (Or.inr rfl)) (b:(x==("__debug__" :Str))=false:=by decide)
 (a:(x==("__classdict__" :Str))=false:=by decide):PE X (.Name x pos) (xcP i):=Jk d c b a
end
def xcZ {A B:Prop}(h:B):if y9=k9 then A else B:=by
 exact h
def qcU {A B:Prop}(h:A):if k9=k9 then A else B:=by
 exact h
end L2
set_option maxHeartbeats 4000000
namespace L2
open PySem PySem.Spec PyProof.Rows
noncomputable def Wd (env:Env) (a:List (Str×Addr)) (y:Str×NameKind):List (Str×Addr):=
 if y.2== .free then(match env.cells.lookup y.1 with | some c=>(y.1,c)::a | none=>a)else a
def Wv (a:Scope) (env:Env):List (Str×Addr):=a.names.foldl (Wd env) []
theorem jao : ∀(b:List (Str×NameKind)) a,(∀ y∈b,y.2= .free-> ∃c,env.cells.lookup y.1=y0 c) →
 (do
   let mut f:=a
   for (name,kind) in b do
    if kind== .free then f:=(name,←cellOf env name)::f
   return f:Sem (List (Str×Addr)))=pure (b.foldl (Wd env) a)
 | [],a,_=>by simp
 | (n,k)::r,a,h=>by
  have i:=λf=>jao r f λy l=>h y (Aa1 _ l)
  by_cases g:k= .free
  ·subst g
   obtain⟨c,d⟩:=h (n,.free) Aa3 rfl
   have d:=d
   have e:Wd env a (n,.free)=(n,c)::a:=by
    show(if (NameKind.free==NameKind.free)=k9 then(match env.cells.lookup n with | some c=>(n,c)::a | none=>a)else a)=_
    rw [if_pos (show (NameKind.free==NameKind.free)=k9 from rfl),d]
   rw [Ai,e,←i]
   simp [cellOf,d]
  ·have j:(k==NameKind.free)=false:=by simpa using g
   have e:Wd env a (n,k)=a:=by
    show(if (k==NameKind.free)=k9 then _ else a)=_
    rw [j,if_neg Ab6]
   rw [Ai,e,←i]
   simp [g]
def QL (h: ∀y∈scope.names,y.2= .free-> ∃c,env.cells.lookup y.1=y0 c):closureFor scope env=pure (Wv scope env):=
 jao scope.names [] h
theorem XA : ∀(a:List (Str×NameKind)) b,(∀ x c,b.lookup x=y0 c->env.cells.lookup x=y0 c)-> ∀x c,(a.foldl (Wd env) b).lookup x=y0 c->env.cells.lookup x=y0 c
 | [],_,h=>h
 | (n,k)::r,b,h=>by
  refine XA r (Wd env b (n,k)) λx c e=> ?_
  unfold Wd at e
  split at e
  ·split at e
   ·rename_i g f
    rw [Ad]at e
    cases d:x==n with
    | true=>
     rw [d]at e
     have:x=n:=by simpa using d
     subst this
     cases e
     exact f
    | false=>rw [d]at e;exact h x c e
   ·exact h x c e
  ·exact h x c e
theorem xN (d:env.cells.lookup x=y0 c): ∀(a:List (Str×NameKind)) f,((x,.free)∈a\/ ∃b,f.lookup x=y0 b)-> ∃b,(a.foldl (Wd env) f).lookup x=y0 b
 | [],f,h=>h.elim (λz=>absurd z (by simp)) id
 | (n,k)::r,f,h=>by
  refine xN d r (Wd env f (n,k)) ?_
  have grow:(∃ b,f.lookup x=y0 b)-> ∃b,(Wd env f (n,k)).lookup x=y0 b:=by
   rintro ⟨b,e⟩
   unfold Wd
   split
   ·split
    ·rw [Ad]
     cases x==n with
     | true=>exact⟨_,rfl⟩
     | false=>exact⟨b,e⟩
    ·exact⟨b,e⟩
   ·exact⟨b,e⟩
  rcases h with h | h
  ·rcases Ab7.mp h with h | h
   ·cases h
    refine .inr ⟨c,?_⟩
    show List.lookup x (if (NameKind.free==NameKind.free)=k9 then(match env.cells.lookup x with | some c=>(x,c)::f | none=>f)else f)=_
    rw [if_pos (show (NameKind.free==NameKind.free)=k9 from rfl),d]
    simp
   ·exact .inl h
  ·exact .inr (grow h)
def XN (I:Nat->Shared->Prop)
 (q: ∀n s,I n s->wpAny (model prog w) A (pyNext it) (λr a=>match r with
   | none=>R (.ok .next) a
   | some v=>wpAny (model prog w) A (letOwnedTupleGo tg it v) (λ_ f=>wpAny (model prog w) A (assign tg env v) (λ_ i=>
    wpAny (model prog w) A (forIn ifs k9 λc r=>if r=k9 then do let ok ←isTrue c env (eval c env);pure (ForInStep.yield ok)else pure (ForInStep.yield r)) (λok b=>
     if ok=k9 then wpAny (model prog w) A (eval elt env) (λx l=>
      wpAny (model prog w) A (call (.builtin "list.append") [acc,x]) (fun _ j=> ∃m,m<n/\I m j) (notedBy (model prog w) A env fun e s'=>R (.error e) s') l) (notedBy (model prog w) A env fun e s'=>R (.error e) s') b
     else ∃m,m<n/\I m b) (notedBy (model prog w) A env λe s'=>R (.error e) s') i) (notedBy (model prog w) A env λe s'=>R (.error e) s') f) (notedBy (model prog w) A env λe s'=>R (.error e) s') a) (notedBy (model prog w) A env λe s'=>R (.error e) s') s)
 (n) (h:I n s):codeAny (model prog w) A (.compLoop (.ListComp elt [⟨tg,iter,ifs,0⟩] scope pos) 0 it acc env) R s:=by
 refine codeAny_loop rfl I (λn s y=> ?_) n h
 refine wpAny_noted ?_
 rw [compTurn_list]
 refine wpAny_bind (wpAny_standAt (wpAny_bind (wpAny_mono (q n s y) (λr a k=> ?_) λ_ _ d=>d)))
 cases r with
 | none=>exact wpAny_pure k
 | some v=>
  refine wpAny_bind (wpAny_mono k (λ_ f o=> ?_) λ_ _ d=>d)
  refine wpAny_bind (wpAny_mono o (λ_ i t=>wpAny_bind (wpAny_mono t (λok b g=> ?_) λ_ _ d=>d)) λ_ _ d=>d)
  cases ok with
  | false=>exact wpAny_pure ⟨rfl,g⟩
  | true=>
   exact wpAny_bind (wpAny_bind (wpAny_mono g (λx l u=>wpAny_bind (wpAny_mono u (λ_ j p=>wpAny_pure (wpAny_pure ⟨rfl,p⟩)) λ_ _ d=>d)) λ_ _ d=>d))
theorem qV : ∀ a n b,(x,NameKind.cell)∉a->(cellsFrom n a b).lookup x=b.lookup x
 | [],_,_,_=>rfl
 | (y,k)::r,n,b,h=>by
  unfold cellsFrom
  split
  ·rename_i c
   have c:=by simpa using c
   subst c
   rw [qV r (n+1) _ λz=>h (Aa1 _ z),Ad]
   cases d:x==y with
   | true=>
    have:x=y:=by simpa using d
    subst this
    exact absurd Aa3 h
   | false=>rfl
  ·exact qV r n b λz=>h (Aa1 _ z)
theorem WW : ∀ a (h:Heap) f g,(f.lookup x=y0 c->g\/(h.IsCell c u0/\(x,NameKind.cell)∈a\/h.IsCell c u0/\g))-> ∀lo,lo<=h.objs.size →
 (cellsFrom h.objs.size a f).lookup x=y0 c->f.lookup x=y0 c\/(lo<=c/\(x,NameKind.cell)∈a/\(pushCells h a).IsCell c u0)
 | [],_,_,_,_,_,_,e=> .inl e
 | (y,k)::r,h,f,g,p,lo,i,e=>by
  unfold cellsFrom at e
  unfold pushCells
  split at e
  ·rename_i d
   rw [if_pos d]
   have d:=by simpa using d
   subst d
   have e:(cellsFrom (h.push { cls:= .type "cell",data:= .cell none }).objs.size r ((y,h.objs.size)::f)).lookup x=some c:=by rw [Heap.size_push];exact e
   rcases WW r (h.push { cls:= .type "cell",data:= .cell none }) _ True (fun _=> .inl trivial) lo (by rw [Heap.size_push];omega) e with q | ⟨j,n,l⟩
   ·rw [Ad]at q
    cases m:x==y with
    | true=>
     rw [m]at q
     have:x=y:=by simpa using m
     subst this
     cases q
     exact .inr ⟨i,List.mem_cons_self,(show (h.push { cls:= .type "cell",data:= .cell none }).IsCell h.objs.size none from⟨_,Heap.get?_push_size _ rfl,rfl⟩).keeps fun b o e=>pushCells_keeps r _ b o e⟩
    | false=>
     rw [m]at q
     exact .inl q
   ·exact .inr ⟨j,Aa1 _ n,l⟩
  ·rename_i d
   rw [if_neg d]
   rcases WW r h f True (λ_=> .inl trivial) lo i e with q | ⟨j,n,l⟩
   ·exact .inl q
   ·exact .inr ⟨j,Aa1 _ n,l⟩
theorem xaL: ∀(b) (n) (a),(∀ x c,a.lookup x=y0 c->c<n)->(∀ x y c,a.lookup x=y0 c->a.lookup y=y0 c->x=y) →
 ∀x y c,(cellsFrom n b a).lookup x=y0 c->(cellsFrom n b a).lookup y=y0 c->x=y
 | [],_,_,_,d=>d
 | (z,k)::r,n,a,f,d=>by
  unfold cellsFrom
  split
  ·have look: ∀x c,((z,n)::a).lookup x=y0 c->(x=z/\c=n)\/(a.lookup x=y0 c):=λx c e=>by
    rw [Ad]at e
    cases g:x==z with
    | true=>
     rw [g]at e
     cases e
     exact .inl ⟨by simpa using g,rfl⟩
    | false=>
     rw [g]at e
     exact .inr e
   refine xaL r (n+1) _ (λx c e=> ?_) λx y c i m=> ?_
   ·rcases look x c e with⟨_,q⟩ | q
    ·exact q▸Ag7 n
    ·exact Am3 (f x c q)
   ·rcases look x c i with⟨o,l⟩ | p<;>rcases look y c m with⟨h,j⟩ | q
    ·rw [o,h]
    ·exact absurd (l▸f y c q) (Ah1 _)
    ·exact absurd (j▸f x c p) (Ah1 _)
    ·exact d x y c p q
  ·exact xaL r n a f d
theorem JG : ∀(a:List (Str×NameKind)) b,(a.foldl (Wd env) b).lookup x=y0 c->b.lookup x=y0 c\/(x,NameKind.free)∈a
 | [],_,h=> .inl h
 | (y,k)::r,b,h=>by
  rcases JG r _ h with q | q
  ·unfold Wd at q
   split at q
   ·rename_i d
    have d:=by simpa using d
    subst d
    split at q
    ·rw [Ad]at q
     cases e:x==y with
     | true=>
      have:x=y:=by simpa using e
      subst this
      exact .inr Aa3
     | false=>
      rw [e]at q
      exact .inl q
    ·exact .inl q
   ·exact .inl q
  ·exact .inr (Aa1 _ q)
theorem WR {env:Env}: ∀ {b:List (Str×NameKind)}{x},
 ((b.map λ(n,k)=>if(k==NameKind.free&&env.scope.kind== .function&&env.kindOf n==y0 .cell)then(n,NameKind.cell)else(n,k)).lookup x=y0 .cell ∨
   (b.map λ(n,k)=>if(k==NameKind.free&&env.scope.kind== .function&&env.kindOf n==y0 .cell)then(n,NameKind.cell)else(n,k)).lookup x=y0 .free)->(x,.free)∈b\/(x,.cell)∈b
 | [],_,h=>by simp at h
 | (n,k)::r,x,h=>by
  have e:= @WR env r x
  rw [Aa9]at h
  by_cases a:(k==NameKind.free&&env.scope.kind== .function&&env.kindOf n==y0 .cell)=k9
  ·have f:=by
    rw [Aa7,Aa7]at a
    simpa using a.1.1
   subst f
   simp only [a,if_true,Ad]at h
   cases c:x==n with
   | true=>
    have:x=n:=by simpa using c
    subst this
    exact .inl Aa3
   | false=>
    rw [c]at h
    exact(e h).imp (Aa1 _) (Aa1 _)
  ·have d:=Ak1.mpr a
   simp only [d,Ae2,if_false,Ad]at h
   cases c:x==n with
   | true=>
    have:x=n:=by simpa using c
    subst this
    rw [c]at h
    rcases h with h | h
    ·have:k= .cell:=by simpa using h
     subst this
     exact .inr Aa3
    ·have:k= .free:=by simpa using h
     subst this
     exact .inl Aa3
   | false=>
    rw [c]at h
    exact(e (by simpa using h)).imp (Aa1 _) (Aa1 _)
theorem zaJ: ∀ {a:List (Str×NameKind)}{x}{k e},(a.map Prod.fst).Nodup->(x,k)∈a->(x,e)∈a->k=e
 | (y,j)::r,x,k,e,d,g,f=>by
  rw [Aa9,Ah3]at d
  rcases Ab7.mp g with b | b<;>rcases Ab7.mp f with c | c
  ·cases b;cases c;rfl
  ·cases b;exact absurd (Ab9.mpr ⟨_,c,rfl⟩) d.1
  ·cases c;exact absurd (Ab9.mpr ⟨_,b,rfl⟩) d.1
  ·exact zaJ d.2 b c
theorem WS: ∀ {a:List (Str×NameKind)}{x}{k},(a.map Prod.fst).Nodup->(x,k)∈a->a.lookup x=y0 k
 | (y,j)::r,x,k,b,h=>by
  rw [Aa9,Ah3]at b
  rw [Ad]
  rcases Ab7.mp h with e | e
  ·cases e;simp
  ·have:(x==y)=false:=by
    cases c:x==y with
    | false=>rfl
    | true=>
     have:x=y:=by simpa using c
     subst this
     exact absurd (Ab9.mpr ⟨_,e,rfl⟩) b.1
   rw [this]
   exact WS b.2 e
def zbC (a:Scope) (C:Addr) (env:Env):List (Str×Addr):=cellsFrom (C+1) a.names (Wv a env)
def Zv 
 (d:Q (newEnv scope s.heap.objs.size globals (cellsFrom (s.heap.objs.size+1) scope.names cl) v8 u0 .none (y0 env) builtinsNs) { s with heap:=pushCells (s.heap.push { cls:= .type "dict",data:= .dict #[] }) scope.names }):
 wpAny M A (newFunctionEnv scope globals cl [] v8 u0 .none (y0 env)) Q E s:=by
 simp only [newFunctionEnv,Option.isSome_some,if_true]
 refine wpAny_bind (wpAny_alloc ?_)
 refine wpAny_bind (wpAny_layCells _ (λname a b=>by cases c:a==NameKind.cell<;>simp [c]) _ _ _ _ ?_)
 rw [show ({ s with heap:=s.heap.push { cls:= .type "dict",data:= .dict #[] } }:Shared).heap.objs.size=s.heap.objs.size+1 from Heap.size_push ..]
 refine wpAny_bind ?_
 exact wpAny_pure (wpAny_pure d)
noncomputable def zd (X:Cx) (N:List Str) (a:Scope) (C:Addr) (b:List Addr) (s:Shared) (H:Hp):Cx where
 prog:=X.prog
 w:=X.w
 K:=X.K
 mg:=X.mg
 base:=X.base
 A:=X.A
 N:=N
 s₀:=s
 H₀:=H
 env:=compEnvC a (zbC a C X.env) C X.env
 outer:=X.stack
 stack:=X.stack
 ex:=b
 fn:=λx=>v9 (a.names.lookup x=y0 .cell)
 calm:=X.calm
 pn:= []
 xe:=λ_ _=>False
noncomputable def CapOk (X:Cx):List Nat->List Str->Prop
 | [],[]=>True
 | j::a,x::xs=>X.N[j]? =y0 x/\(X.env.kindOf x=y0 .cell\/X.env.kindOf x=y0 .free)/\CapOk X a xs
 | _,_=>False
theorem CapOk.get {U:St}: ∀ {cap}{xs}{i:Nat}{x}{v},CapOk X cap xs->xs[i]? =y0 x->(cap.map λj=>(U[j]?).join)[i]? =y0 (y0 v) →
 ∃j:Nat,X.N[j]? =y0 x/\U[j]? =y0 (y0 v)/\(X.env.kindOf x=y0 .cell\/X.env.kindOf x=y0 .free)
 | [],[],_,_,_,_,e,_=>by simp at e
 | [],_::_,_,_,_,h,_,_=>h.elim
 | _::_,[],_,_,_,h,_,_=>h.elim
 | j::f,g::xs,0,x,v,h,b,a=>by
  obtain⟨d,c,_⟩:=h
  simp at b
  subst b
  refine⟨j,d,?_,c⟩
  have a:y0 ((U[j]?).join)=y0 (y0 v):=by simpa using a
  have a:=Ae5.inj a
  cases q:U[j]? with
  | none=>rw [q]at a;cases a
  | some z=>rw [q]at a;have:z=y0 v:=a;rw [this]
 | j::f,g::xs,i+1,x,v,h,b,a=>CapOk.get h.2.2 (by simpa using b) (by simpa using a)
theorem CapOk.length : ∀ {cap}{xs},CapOk X cap xs->cap.length=xs.length
 | [],[],_=>rfl
 | [],_::_,h=>h.elim
 | _::_,[],h=>h.elim
 | _::_,_::_,h=>congrArg (· +1) (CapOk.length h.2.2)
def qas (k:Nat) (cap:List Nat) (U:St):St:=Ab0 k u0++cap.map λ(j:Nat)=>(U[j]?).join
noncomputable def jd3 (X:Cx) (a:List Expr) (t:TT):Prop:=
 ∀(k8:List (Addr×Obj)) (s:Shared) (U:St) (H:Hp) (Q:Bool->Hp->Prop),Inv X k8 U H s->t U H Q →
  wpAny (model X.prog X.w) X.A (forIn a k9 λc r=>if r=k9 then do let ok ←isTrue c X.env (eval c X.env);pure (ForInStep.yield ok)else pure (ForInStep.yield r)) (TP X k8 U Q) X.xe s
def jdq:TT:=λ_ H Q=>Q k9 H
def jac :jd3 X [] jdq:=λ_ _ _ H _ I h=>wpAny_tests_nil ⟨H,I,h⟩
def jaB (h:PT X c t):jd3 X [c] t:=λa s U H Q I b=>wpAny_tests_one (h a s U H Q I b)
noncomputable def xcu (J:It) (g:TG) (l:TT) (k:TE) (j:St) (h:Hp) (Q:VK):Prop:= ∃W:Nat->Nat->List V->St->Hp->Prop,(∃ m,W 0 m [] j h)/\ ∀i m ys Y H,W i m ys Y H →
 (J.stop i H/\ys.length<=sizeLine/\ ∀D,H D=u0->Q (.ref D) (jd7 H D (.lst ys))) ∨
 (J.go i H/\ys.length<sizeLine/\ ∃N:List V->St->Hp->Prop,(∀ a e H',N a e H'-> ∃d,d<m/\W (i+1) d a e H') ∧
   ∀x H',J.yld i H x H'->g x Y H' λc H2=>l c H2 λb f=>if b=k9 then k c f λy n=>N (ys++ [y]) c n else N ys c f)
abbrev zdA (a:Type):=Addr->List Addr->Shared->Hp->a
noncomputable def qaV (k:Nat) (cap:List Nat) (c:TI) (g:zdA TG) (b:zdA TT) (a:zdA TE):TE:=λU H Q=>c U H λJ H1=> ∀C fp s,xcu J (g C fp s H1) (b C fp s H1) (a C fp s H1) (qas k cap U) H1 Q
def Inv.adopt (I:Inv X k8 U H s) (w:j3 X k8 H D) (v:X.s₀.heap.objs.size<=D)
 (e:s.heap.get? D=y0 { cls:= .type "list",data:= .seq its.toArray n }) (r:Vals ys its) (l:ys.length<=sizeLine):Inv X k8 U (jd7 H D (.lst ys)) s:=by
 obtain⟨E,B,F,G,y,C⟩:=w
 have a: ∀b o,H b=y0 o->jd7 H D (.lst ys) b=y0 o:=λb o q=>by rw [qa (Xa q E)];exact q
 have d: ∀b o,X.s₀.heap.get? b=y0 o->b≠D:=λb o q z=>by rw [z]at q;exact absurd (Ab1 (Ab5 q) v) (Ah1 _)
 refine⟨I.ok,I.os,I.bare,⟨I.base.keep,I.base.slot,λb o i m A=> ?_,I.base.there,λb f q=>a b _ (I.base.tups b f q),λb o u q=>a b _ (I.base.frzs b o u q),λb t q=> ?_⟩,I.loc,I.cell,?_,λx c q=> ?_,λp h=> ?_,λb u q=> ?_,I.len⟩
 ·rw [qa (d b o i)];exact I.base.free b o i m A
 ·obtain⟨more,k⟩:=I.base.tbls b t q
  exact⟨more,a b _ k⟩
 ·rw [qa (Ne.symm B)];exact I.free
 ·rw [qa (y x c q)];exact I.freeC x c q
 ·obtain⟨j,a2,a3⟩:=I.pin p h
  exact⟨j,by rw [qa (C p h)];exact a2,a3⟩
 ·by_cases g:b=D
  ·subst g
   rw [xb]at q
   cases q
   exact⟨l,its,n,r,e⟩
  ·rw [qa g]at q
   exact(I.hok b u q).stay (λ_ _ _ z=>z) (λc z=>a c _ z) λc f z=>a c _ z
theorem zi {env:Env}: ∀ {b:List (Str×NameKind)}{x},b.lookup x=y0 .free →
 ((b.map λ(n,k)=>if(k==NameKind.free&&env.scope.kind== .function&&env.kindOf n==y0 .cell)then(n,NameKind.cell)else(n,k)).lookup x=y0 .cell ∨
   (b.map λ(n,k)=>if(k==NameKind.free&&env.scope.kind== .function&&env.kindOf n==y0 .cell)then(n,NameKind.cell)else(n,k)).lookup x=y0 .free)
 | [],_,h=>by simp at h
 | (n,k)::r,x,h=>by
  have e:= @zi env r x
  rw [Aa9]
  rw [Ad]at h
  cases d:x==n with
  | true=>
   rw [d]at h
   have f:=by simpa using h
   subst f
   by_cases a:(NameKind.free==NameKind.free&&env.scope.kind== .function&&env.kindOf n==y0 .cell)=k9
   ·simp only [a,if_true,Ad,d]
    first | exact .inl rfl | exact .inl trivial | simp
   ·have c:=Ak1.mpr a
    simp only [c,Ae2,if_false,Ad,d]
    first | exact .inr rfl | exact .inr trivial | simp
  | false=>
   rw [d]at h
   have q:=e h
   by_cases a:(k==NameKind.free&&env.scope.kind== .function&&env.kindOf n==y0 .cell)=k9
   ·simp only [a,if_true,Ad,d]
    exact q
   ·have c:=Ak1.mpr a
    simp only [c,Ae2,if_false,Ad,d]
    exact q
structure zS (X:Cx) (scope:Scope) (N:List Str) (k:Nat) (cap:List Nat):Prop where
 kind:scope.kind= .function
 nd:(scope.names.map Prod.fst).Nodup
 names: ∀y∈scope.names,y.2= .local->scope.names.lookup y.1=y0 .local
 free: ∀y∈scope.names,y.2= .free->X.env.kindOf y.1=y0 .cell\/X.env.kindOf y.1=y0 .free
 capf: ∀x∈N.drop k,scope.names.lookup x=y0 .free
 cap:CapOk X cap (N.drop k)
 le:k<=N.length
structure zc9 (sc scope:Scope) (N:List Str) (k:Nat):Prop where
 kind:scope.kind= .function
 nd:(scope.names.map Prod.fst).Nodup
 names: ∀y∈scope.names,y.2= .local->scope.names.lookup y.1=y0 .local
 free: ∀y∈scope.names,y.2= .free->sc.names.lookup y.1=y0 .cell\/sc.names.lookup y.1=y0 .free
 capf: ∀x∈N.drop k,scope.names.lookup x=y0 .free
 le:k<=N.length
section
variable {X:Cx}{elt tg iter:Expr}{ifs:List Expr}{scope:Scope}{pos p0:Pos}{N:List Str}{k:Nat}{cap:List Nat}{wi:TI}{g:zdA TG}{tc:zdA TT}{te:zdA TE}
def q9 (ok:zS X scope N k cap) (a:Inv X k8 U H2 s2) (H: ∀b∈fp,j3 X k8 H2 b) (Q: ∀b∈fp,b<s2.heap.objs.size)
 (t:s2.heap.objs.size<=C) (M:h₁.Ns C m) (f: ∀b o,s2.heap.get? b=y0 o->h₁.get? b=y0 o)
 (d: ∀x c,(zbC scope C X.env).lookup x=y0 c->(Wv scope X.env).lookup x=y0 c\/(C+1<=c/\(x,NameKind.cell)∈scope.names/\h₁.IsCell c u0)):
 Inv (zd X N scope C fp s2 H2) [] (qas k cap U) H2 { s2 with heap:=h₁,toks:=tk }:=by
 have sub: ∀x c,(Wv scope X.env).lookup x=y0 c->X.env.cells.lookup x=y0 c:=XA scope.names [] λx c e=>by simp at e
 have B: ∀x,(x,NameKind.free)∈scope.names-> ∃c,(Wv scope X.env).lookup x=y0 c:=λx I=>by
  obtain⟨c,A⟩:=a.ok.has x (ok.free _ I rfl)
  exact xN A scope.names [] (.inl I)
 have lt: ∀x c,(Wv scope X.env).lookup x=y0 c->c<C+1:=λx c e=>by
  obtain⟨v,o,D,_⟩:=a.cell x c (sub x c e)
  exact Nat.lt_succ_of_le (Ac (Ai3 (Ab5 D)) t)
 have inj:=xaL scope.names (C+1) (Wv scope X.env) lt λx y c E J=>a.ok.inj x y c (sub x c E) (sub y c J)
 have keep: ∀x c,(x,NameKind.free)∈scope.names->(Wv scope X.env).lookup x=y0 c->(zbC scope C X.env).lookup x=y0 c:=λx c I e=>by
  unfold zbC
  rw [qV scope.names (C+1) _ λz=>by cases zaJ ok.nd I z]
  exact e
 have F: ∀x,(x,NameKind.free)∈scope.names\/(x,NameKind.cell)∈scope.names-> ∃c,(zbC scope C X.env).lookup x=y0 c:=λx n=>by
  rcases n with n | n
  ·obtain⟨c,A⟩:=B x n
   exact⟨c,keep x c n A⟩
  ·exact Ai6.mp (Am1 scope.names (C+1) (Wv scope X.env) (.inl (WS ok.nd n)))
 refine⟨⟨a.ok.mod,ok.kind,a.ok.glob,a.ok.blt,t,inj,λx n=>F x (WR n),λx c w e=> ?_,a.ok.hd,a.ok.frames,.inl rfl,λb h=>⟨?_,λx c e=> ?_⟩,
  λb o e=>a.bs b o e,Ac a.ok.bsz a.sz,λb o e h=> ?_,λb h z=>(Ab7.mp (a.stkSub b z)).elim (H b h).2.1 (H b h).2.2.1,a.stack,a.stkFree⟩,
  rfl,a.bare,Un.kept f,⟨m,M,λi x v R s e3=> ?_⟩,λx c e=> ?_,a.hok.fresh t,λx c e=> ?_,λp S=>absurd (show p∈([]:List (Addr×Obj))from S) (by simp),a.hok.kept f,?_⟩
 ·have w:=of_decide_eq_true w
  rcases d x c e with q | q
  ·rcases JG scope.names [] q with z | z
   ·simp at z
   ·have:=WS ok.nd z
    rw [w]at this
    cases this
  ·exact Ac t (Ac (Ah6 C) q.1)
 ·show b≠C
  exact Ac3 (Ab1 (Q b h) t)
 ·rcases d x c e with q | q
  ·exact(H b h).2.2.2.2.1 x c (sub x c q)
  ·exact Ne.symm (Ac3 (Ab1 (Q b h) (Ac t (Ac (Ah6 C) q.1))))
 ·rcases (H b h).2.2.2.1 with z | z
  ·exact a.ok.noex b o e z
  ·have E:=Ab5 e
   have J:=a.ok.bsz
   exact absurd (Ab1 E (Ac J z)) (Ah1 _)
 ·have g:k<=i:=by
   by_cases g:i<k
   ·have s:(Ab0 k u0++cap.map λ(j:Nat)=>(U[j]?).join)[i]? =y0 (y0 v):=s
    rw [Ag1 (by simpa using g),Am5,if_pos g]at s
    cases s
   ·omega
  have G:(N.drop k)[i-k]? =y0 x:=by
   rw [List.getElem?_drop,show k+(i-k)=i by omega];exact R
  have L:(cap.map λ(j:Nat)=>(U[j]?).join)[i-k]? =y0 (y0 v):=by
   have s:(Ab0 k u0++cap.map λ(j:Nat)=>(U[j]?).join)[i]? =y0 (y0 v):=s
   rw [Af9 (by simpa using g),Af5]at s
   exact s
  obtain⟨j,T,V,P⟩:=ok.cap.get (U:=U) G L
  obtain⟨m2,hn,Y⟩:=a.loc
  obtain⟨u,r,l⟩:=Y j x v T V (.inr (P.elim (λz=> .inl z) λz=> .inr z))
  refine⟨u,r,.inr ?_⟩
  have w:=ok.capf x (Ak4 G)
  refine⟨zi w,?_⟩
  obtain⟨c,A⟩:=B x (PySem.mem_of_lookup w)
  refine⟨c,keep x c (PySem.mem_of_lookup w) A,?_⟩
  rcases l with⟨W,_⟩ | ⟨_,Z,K,o,D,O⟩
  ·rcases P with z | z<;>(rw [W]at z;cases z)
  ·have d:=sub x c A
   rw [K]at d
   cases d
   exact⟨o,f _ o D,O⟩
 ·rcases d x c e with q | q
  ·obtain⟨v,o,D,O⟩:=a.cell x c (sub x c q)
   exact⟨v,o,f c o D,O⟩
  ·exact⟨u0,q.2.2⟩
 ·rcases d x c e with q | q
  ·exact a.freeC x c (sub x c q)
  ·exact a.hok.fresh (Ac t (Ac (Ah6 C) q.1))
 ·show(Ab0 k u0++cap.map λ(j:Nat)=>(U[j]?).join).length=N.length
  have E:=ok.cap.length
  have J:=ok.le
  rw [Aa8,Af5,Aa,E,Ai9]
  omega
def xQ (use) (hc:X.calm=k9) (ok:zS X scope N k cap) (hi:PI X tg iter wi)
 (hg: ∀C fp s H,PG (zd X N scope C fp s H) tg (g C fp s H)) (ht: ∀C fp s H,jd3 (zd X N scope C fp s H) ifs (tc C fp s H)) (he: ∀C fp s H,PE (zd X N scope C fp s H) elt (te C fp s H))
 (hs: ∀x,foldedSetIterable iter X.env x=pure x)
 (I:Inv X k8 U H s) (h:qaV k cap wi g tc te U H Q)
 (fin: ∀(D C:Addr) (oC:Obj) (m:Str->Option Value) (H4:Hp) (s4:Shared),Inv X (k8++ [(C,oC)]) U H4 s4->j3 X k8 H4 C->Q (.ref D) H4->(∀ h:Heap,h.get? C=y0 oC->h.Ns C m) →
   compPost (model X.prog X.w) X.A X.xe use Q' (.ref D) C (.ok .next) s4):
 wpAny (model X.prog X.w) X.A (comprehension (.ListComp elt [⟨tg,iter,ifs,0⟩] scope pos) scope X.env p0 (newList []) y9 (eval iter X.env) use) Q' X.xe s:=by
 have hcl:closureFor scope X.env=pure (Wv scope X.env):=QL λy hy hf=>I.ok.has y.1 (ok.free y hy hf)
 refine wpAny_comprehension_free (use:=use) rfl hs hcl ok.kind ok.names (jdF (hi k8 s U H _ I h) λv s1 h1=>jdF h1 λitv s2 h2=> ?_)
 obtain⟨it,fp,tn,J,H2,e,I2,T,st2,f2,hW⟩:=h2
 subst e
 refine wpAny_newObj_type (Zv ?_)
 dsimp only
 generalize hHp:s2.heap.push { cls:= .type "list",dict:=none,data:= .seq ([]:List Value).toArray }=HP
 have hCs:HP.objs.size=s2.heap.objs.size+1:=by rw [← hHp,Ag3]
 generalize hDD:s2.heap.objs.size=D at hCs ⊢
 have hns0:(HP.push { cls:= .type "dict",data:= .dict #[] }).Ns HP.objs.size fun _=>none:=Heap.Ns.new HP (.type "dict")
 have hlk: ∀x c,(zbC scope HP.objs.size X.env).lookup x=some c->(Wv scope X.env).lookup x=some c\/(HP.objs.size+1<=c/\(x,NameKind.cell)∈scope.names/\(pushCells (HP.push { cls:= .type "dict",data:= .dict #[] }) scope.names).IsCell c none):=fun x c e=>by
  refine WW scope.names (HP.push { cls:= .type "dict",data:= .dict #[] }) (Wv scope X.env) True (fun _=> .inl trivial) (HP.objs.size+1) (by rw [Heap.size_push];exact Nat.le_refl _) ?_
  rw [Ag3]
  exact e
 generalize hh1:pushCells (HP.push { cls:= .type "dict",data:= .dict #[] }) scope.names=h₁ at hlk ⊢
 have hns₁:h₁.Ns HP.objs.size λ_=>none:=by rw [← hh1];exact hns0.keeps (pushCells_keeps _ _)
 have hk1: ∀b o,HP.get? b=y0 o->h₁.get? b=y0 o:=λb o e=>by
  rw [← hh1]
  exact pushCells_keeps _ _ b o (Aa2 _ e)
 generalize hCC:HP.objs.size=C at hCs hns₁ hlk ⊢
 have hDC:D≠C:=by rw [hCs];exact Ac3 (Ag7 _)
 have hle:s2.heap.objs.size<=C:=by rw [hDD,hCs];exact Ah6 _
 have hleD:s2.heap.objs.size<=D:=Nat.le_of_eq hDD
 have fo: ∀b∈fp,b<D:=λb hb=>by
  obtain⟨o,eo,_⟩:=T.obj _ _ st2 b hb
  rw [← hDD]
  exact Ab5 eo
 have old: ∀b o,s2.heap.get? b=y0 o->h₁.get? b=y0 o:=λb o e=>by
  exact hk1 b o (hHp▸Aa2 _ e)
 have hacc:h₁.get? D=y0 { cls:= .type "list",data:= .seq ([]:List Value).toArray }:=by
  refine hk1 _ _ ?_
  rw [← hHp,←hDD]
  exact Ab8 _ rfl
 obtain⟨W,⟨m0,w0⟩,turn⟩:=hW C fp s2
 have I3:Inv (zd X N scope C fp s2 H2) [] (qas k cap U) H2 { s2 with heap:=h₁,toks:=s2.toks }:=
  q9 ok I2 f2 (λb hb=>by rw [hDD];exact fo b hb) hle hns₁ old hlk
 have st3:tn 0 h₁:=T.keep _ _ _ st2 λb _ o e=>old b o e
 have hch: ∀b∈fp,(b∈X.ex\/X.s₀.heap.objs.size<=b)/\b≠X.env.locals/\(∀ x c,X.env.cells.lookup x=y0 c->c≠b)/\ ∀p∈X.pn++k8,p.1≠b:=λb hb=>⟨(f2 b hb).2.2.2.1,(f2 b hb).2.1,(f2 b hb).2.2.2.2.1,(f2 b hb).2.2.2.2.2⟩
 have FD: ∀ {H':Hp},H' D=u0->j3 X k8 H' D:=λhn=>I2.fpOk hleD hn
 have FC: ∀ {H':Hp},H' C=u0->j3 X k8 H' C:=λhn=>I2.fpOk hle hn
 have sub: ∀x c,(Wv scope X.env).lookup x=y0 c->X.env.cells.lookup x=y0 c:=XA scope.names [] λx c e=>by simp at e
 have hDst:D∉qdZ X.stack:=λz=>(Ab7.mp (I2.stkSub D z)).elim (FD (H':=λ_=>u0) rfl).2.1 (FD (H':=λ_=>u0) rfl).2.2.1
 have hDc: ∀x c,(zbC scope C X.env).lookup x=y0 c->c≠D:=λx c e=>by
  rcases hlk x c e with q | q
  ·exact(FD (H':=λ_=>u0) rfl).2.2.2.2.1 x c (sub x c q)
  ·exact Ne.symm (Ac3 (Ab1 (by rw [hCs];exact Am3 (Ag7 _)) q.1))
 have loop: ∀s₃:Shared,s₃= { s2 with heap:=h₁,toks:=s2.toks } →
  codeAny (model X.prog X.w) X.A (.compLoop (.ListComp elt [⟨tg,iter,ifs,0⟩] scope pos) 0 (.ref it) (.ref D) (compEnvC scope (zbC scope C X.env) C X.env))
   (compPost (model X.prog X.w) X.A X.xe use Q' (.ref D) C) s₃:=by
  rintro s₃ rfl
  refine XN (λn s'=> ∃i ys its kk Y H',Inv (zd X N scope C fp s2 H2) [] Y H' s'/\tn i s'.heap/\(∀ b∈fp,H' b=u0)/\H' D=u0/\s'.heap.get? D=y0 { cls:= .type "list",data:= .seq (its:List Value).toArray kk }/\Vals ys its/\W i n ys Y H')
   ?_ m0 ⟨0,[],[],0,_,H2,I3,st3,λb hb=>(f2 b hb).1,I2.hok.fresh hleD,hacc,.nil,w0⟩
  rintro n s3 ⟨i,ys,its,kk,Y,H3,I3,st3,fr3,hD3,eD3,rv3,w3⟩
  have IP:Inv (zd X N scope C fp s2 H2) [(D,{ cls:= .type "list",data:= .seq its.toArray kk })] Y H3 s3:=I3.pins_of fun p hp=>by
   have e:p=(D,{ cls:= .type "list",data:= .seq its.toArray kk }):=by simpa using hp
   subst e
   exact⟨eD3,hD3,hDC,hDst,λv z=>by cases z⟩
  have fpok: ∀ {H':Hp},(∀ b∈fp,H' b=u0)-> ∀b∈fp,j3 (zd X N scope C fp s2 H2) [(D,{ cls:= .type "list",data:= .seq its.toArray kk })] H' b:=fun {H'} hn b hb=>by
   refine⟨hn b hb,I3.ok.exf b hb |>.1,I3.ok.exfs b hb,.inl hb,I3.ok.exf b hb |>.2,λp hp=> ?_⟩
   have e:p=(D,{ cls:= .type "list",data:= .seq its.toArray kk }):=by
    have hp:p∈([]:List (Addr×Obj))++ [(D,{ cls:= .type "list",data:= .seq its.toArray kk })]:=hp
    simpa using hp
   rw [e]
   exact Ne.symm (Ac3 (fo b hb))
  rcases turn i n ys Y H3 w3 with⟨stop,hz,q⟩ | ⟨go,hz,NN,hN,step⟩
  ·refine jdF (T.done (zd X N scope C fp s2 H2) rfl rfl rfl hc i _ s3 Y H3 _ IP (fpok fr3) st3 stop) ?_
   rintro r s4 ⟨hr,I4⟩
   subst hr
   have eD4:=(I4.pin _ (Ab2 _ Aa3)).1
   have I5:Inv X k8 U H3 s4:=I2.call' (ch:=fp) I4.os I4.base I4.hok I4.bare hch
   have I6:=I5.adopt (FD hD3) (Ac I2.sz hleD) eD4 rv3 hz
   obtain⟨m,⟨oC,es,ep,hoC,hdC,hr⟩,_⟩:=I4.loc
   have fC:j3 X k8 (jd7 H3 D (.lst ys)) C:=FC (by rw [qa (Ne.symm hDC)];exact I4.free)
   have I7:Inv X (k8++ [(C,oC)]) U (jd7 H3 D (.lst ys)) s4:=I6.pins_of λp hp=>(Ae1.mp hp).elim (λz=>I6.pin p (Ab2 _ z)) λz=>by
    have e:p=(C,oC):=by simpa using z
    subst e
    exact⟨hoC,fC.1,fC.2.1,fC.2.2.1,λv z=>by rw [hdC]at z;cases z⟩
   exact fin D C oC m _ s4 I7 fC (q D hD3) λh e=>⟨oC,es,ep,e,hdC,hr⟩
  ·refine jdF (T.item (zd X N scope C fp s2 H2) rfl rfl rfl hc i _ s3 Y H3 _ IP (fpok fr3) st3 go) ?_
   rintro r s4 ⟨u,hr,h4⟩
   subst hr
   refine jdF h4 ?_
   rintro _ s5 ⟨x,H5,I5,r5,y5,st5,fr5⟩
   have I5':=I5.pinned (fpok fr5) (T.obj _ _ st5)
   refine wpAny_mono (hg C fp s2 H2 _ s5 Y H5 x u _ I5' r5 (step x H5 y5)) (λ_ s6 ⟨U6,H6,I6,q6⟩=> ?_) λ_ _ z=>False.elim z
   refine wpAny_mono (ht C fp s2 H2 _ s6 U6 H6 _ I6 q6) (λb s7 ⟨H7,I7,q7⟩=> ?_) λ_ _ z=>False.elim z
   have hp5: ∀b∈fp,∃o,s5.heap.get? b=y0 o:=λb hb=>let ⟨o,e,_⟩:=T.obj _ _ st5 b hb; ⟨o,e⟩
   cases b with
   | false=>
    rw [if_neg Ab6]at q7 ⊢
    obtain⟨m',hm,w7⟩:=hN _ _ _ q7
    refine⟨m',hm,i+1,ys,its,kk,U6,H7,I7.pins_of λp hp=>absurd hp (by simp),T.keep _ _ _ st5 λb hb o e=>(I7.pin (b,o) (Ab2 _ (Ab2 _ (Qi hb e)))).1,λb hb=> ?_,?_,?_,rv3,w7⟩
    ·obtain⟨o,e⟩:=hp5 b hb
     exact(I7.pin (b,o) (Ab2 _ (Ab2 _ (Qi hb e)))).2.1
    ·exact(I7.pin _ (Ab2 _ (Ac5 _ Aa3))).2.1
    ·exact(I7.pin _ (Ab2 _ (Ac5 _ Aa3))).1
   | true=>
    rw [if_pos rfl]at q7 ⊢
    refine wpAny_mono (he C fp s2 H2 _ s7 U6 H7 _ I7 q7) (λy s8 ⟨yv,H8,I8,r8,q8⟩=> ?_) λ_ _ z=>False.elim z
    have pD:=I8.pin _ (Ab2 _ (Ac5 _ Aa3))
    have eD8:s8.heap.get? D=y0 { cls:= .type "list",data:= .seq its.toArray kk }:=pD.1
    have hD8:H8 D=none:=pD.2.1
    have k7:=rv3.length
    refine call_meets F.slot_list_append ⟨_,eD8,rfl⟩ F.entry_list_append (F.args_list_append_2 _ _) (PySem.list_append D its.toArray kk y (by rw [Ab];omega)) ⟨eD8,?_⟩
    obtain⟨m',hm,w8⟩:=hN _ _ _ q8
    have IQ:Inv (zd X N scope C fp s2 H2) (jB fp s5.heap) U6 H8 s8:=I8.pins_of λp hp=>I8.pin p (Ab2 _ (Ab2 _ hp))
    have e9:=PySem.IsL.update eD8 (·.push y)
    rw [show its.toArray.push y=(its++ [y]).toArray by simp]at e9
    have I9:Inv (zd X N scope C fp s2 H2) (jB fp s5.heap) U6 H8 { s8 with heap:=s8.heap.update D (Obj.mapSeq (·.push y)),toks:=s8.toks }:=
     IQ.turned (it:=D) (λb o hb e=>(Aj7 s8.heap (Obj.mapSeq (·.push y)) (Ne.symm hb)).trans e) hD8 hDC (.inr hleD) hDc λp hp=>by
      have hp:p∈([]:List (Addr×Obj))++jB fp s5.heap:=hp
      have:=fo p.1 (ZP (by simpa using hp)).1
      exact Ac3 this
    refine⟨m',hm,i+1,ys++ [yv],its++ [y],_,U6,H8,I9.pins_of λp hp=>absurd hp (by simp),T.keep _ _ _ st5 λb hb o e=>(I9.pin (b,o) (Ab2 _ (Qi hb e))).1,λb hb=> ?_,hD8,e9,rv3.append (.cons r8 .nil),w8⟩
    obtain⟨o,e⟩:=hp5 b hb
    exact(I9.pin (b,o) (Ab2 _ (Qi hb e))).2.1
 exact codeAny_compStart_list (loop _ rfl) (T.self _ 0 _ _ _ st3 (loop _ rfl))
def qbH (ok:zS X scope N k cap) (p:PI X tg iter wi)
 (i: ∀C fp s H,PG (zd X N scope C fp s H) tg (g C fp s H)) (u: ∀C fp s H,jd3 (zd X N scope C fp s H) ifs (tc C fp s H)) (v: ∀C fp s H,PE (zd X N scope C fp s H) elt (te C fp s H))
 (l:X.calm=true:=by rfl) (t: ∀x,foldedSetIterable iter X.env x=pure x:=by intro _;rfl):PE X (.ListComp elt [⟨tg,iter,ifs,0⟩] scope pos) (qaV k cap wi g tc te):=by
 intro f s U H Q I h
 refine xQ u0 l ok p i u v t I h λD C n m w y d fC q c=> ?_
 have r:=d.pin (C,n) (Ab2 _ (Ab2 _ Aa3))
 refine⟨m,c _ r.1,λz a=>⟨.ref D,w,?_,rfl,q⟩⟩
 exact(d.unpinned).turned (λb o j e=>a.extBut b o j e) fC.1 fC.2.1 fC.2.2.2.1 fC.2.2.2.2.1 fC.2.2.2.2.2
def j6 (L:X.N.Nodup) (a:X.N[i]? =y0 x) (E:zdP X.env.scope x) (ok:zS X scope N k cap) (w:PI X tg iter wi)
 (p: ∀C fp s H,PG (zd X N scope C fp s H) tg (g C fp s H)) (F: ∀C fp s H,jd3 (zd X N scope C fp s H) ifs (tc C fp s H)) (G: ∀C fp s H,PE (zd X N scope C fp s H) elt (te C fp s H))
 (f:swapsWith (.ListComp elt [⟨tg,iter,ifs,0⟩] scope p0) (y0 (.Name x pos')) pos.line X.env=pure true:=by rfl)
 (t:X.calm=true:=by rfl) (z: ∀x,foldedSetIterable iter X.env x=pure x:=by intro _;rfl) (A:X.fn x=k9\/X.env.scope.names.lookup x=y0 .local:=by first | exact .inl rfl | exact .inr rfl | assumption):
 PS X (.Assign [.Name x pos'] (.ListComp elt [⟨tg,iter,ifs,0⟩] scope p0) pos) (zbD (qaV k cap wi g tc te) (QR i)):=by
 intro l s U H D I h
 rw [exec_Assign_Name_used _ _ _ _ f]
 refine wpAny_bind (wpAny_standAt (wpAny_bind ?_))
 refine wpAny_bind (wpAny_mono (xQ (y0 (assign (.Name x pos') X.env)) t ok w p F G z I h λJ C u m K M n fC q d=> ?_) (λ_ Q B=>wpAny_pure (wpAny_pure B)) λ_ _ e=>e)
 refine wpAny_assign_Name (zl n L a E (v:= .ref J) rfl (λO j=> ?_) A)
 have y:=j.pin (C,u) (Ab2 _ (Ab2 _ Aa3))
 refine⟨m,d _ y.1,λP c=>⟨_,K,?_,q⟩⟩
 exact(j.unpinned).turned (λb o r e=>c.extBut b o r e) fC.1 fC.2.1 fC.2.2.2.1 fC.2.2.2.2.1 fC.2.2.2.2.2
end
def xf {K:Aa6}(c:Nat->List V->St->Hp->Prop) (v:xs.length<=1000) (u:c 0 [] Y0 H1) (s: ∀i ys Y H,c i ys Y H->ys.length<=i)
 (t: ∀i ys Y H,i<=xs.length->c i ys Y H->SqL K H a xs)
 (j: ∀i ys Y H x,xs[i]? =y0 x->c i ys Y H->g x Y H λY2 H2=>tc Y2 H2 λb f=>if b=k9 then te Y2 f λy o=>c (i+1) (ys++ [y]) Y2 o else c (i+1) ys Y2 f)
 (r: ∀ys Y H,c xs.length ys Y H-> ∀D,H D=u0->Q (.ref D) (jd7 H D (.lst ys))):xcu (qdU K a) g tc te Y0 H1 Q:=by
 refine⟨λi m ys Y H=>m=xs.length-i/\i<=xs.length/\c i ys Y H,⟨xs.length,by simp,Ah2 _,u⟩,?_⟩
 rintro i m ys Y H ⟨rfl,h,p⟩
 have z:=s i ys Y H p
 have q:=t i ys Y H h p
 by_cases d:i<xs.length
 ·refine .inr ⟨⟨xs,xs[i],q,by simp [d]⟩,zo (by omega),c (i+1),λk w n l=>⟨xs.length-(i+1),by omega,rfl,d,l⟩,λx n y=> ?_⟩
  obtain⟨e,y⟩:=y
  subst e
  exact j i ys Y _ x (y xs q) p
 ·have e:i=xs.length:=by omega
  subst e
  exact .inl ⟨⟨xs,q,Aa5 _⟩,Ai3 (zo (by omega)),r ys Y H p⟩
noncomputable def jdX (K:Aa6) (a:Addr) (n:Nat):It:=
 ⟨λi H=> ∃xs,SqL K H a xs/\xs.length=n/\i<n,λi H x H'=>H'=H/\ ∀xs,SqL K H a xs->xs[n-1-i]? =y0 x,λi _=>i=n⟩
def jaZ {K:Aa6}(a it) (n):xa5 P w K tg (jdX K a n) [it] it (λi h=>h.IsRevIter it a ((n:Int)-1-((i:Nat):Int))) where
 mem:=by simp
 obj:=λi h f b j=>by
  have e:=by simpa using j
  subst e
  obtain⟨o,e,c,d⟩:=f
  exact⟨o,e,λv z=>by rw [d]at z;cases z⟩
 keep:=λi h A f k=>f.at λo e=>k it (by simp) o e
 item:=by
  intro X hP D C G i g s U H E I q f m
  subst hP D C
  obtain⟨F,J,hl,Z⟩:=m
  obtain⟨T,rv,p,Y⟩:=I.list J
  have L:F[n-1-i]? =y0 (F[n-1-i]'(by omega)):=Aa4 (by omega)
  obtain⟨u,M,N⟩:=rv.get L
  obtain⟨x,r,O,B,y,t⟩:=q it (by simp)
  have e: n-1- (i:Nat)=((n-1-i:Nat):Int):=by omega
  have f:=f
  rw [e]at f
  refine wpAny_pyNext_rev_item f p.isList (by simpa using M) λA l S=> ?_
  have V:Inv X g U H { s with heap:=A }:=I.turned (λb o j e=>(S.2 b j).trans e) x r B y t
  have W: (n-1-i:Nat)-1= n-1-((i+1:Nat):Int):=by omega
  rw [W]at l
  obtain⟨o,e,c,d⟩:=id l
  exact⟨u,rfl,X9 e c d (by decide) ⟨_,H,V,N,⟨rfl,λys R=>by rw [I.list_inj R J];exact L⟩,l,λb j=>(q b j).1⟩⟩
 done:=by
  intro X hP D C G i g s U H E I q f m
  subst hP D C
  have m:=m
  subst m
  obtain⟨x,r,O,B,y,t⟩:=q it (by simp)
  have e: i-1-((i:Nat):Int)= -1:=by omega
  have f:=f
  rw [e]at f
  exact wpAny_pyNext_rev_end (I.ok.hd G) f λA Q=>⟨rfl,I.turned (λb o j e=>Q b o j e) x r B y t⟩
 self:=λ_ _ _ _ _ f h=>wpAny_pyIter_revIter f h
section
variable {X:Cx}{tg:Expr}
def qdj (K:Aa6) (b:TA):TI:=λU H R=>b U H λc H1=> ∃a xs,c= [.ref a]/\SqL K H1 a xs/\R (jdX K a xs.length) H1
def qaq (t:Gl X "reversed") (A:X.mg "reversed" =none) (z:PA X [a] ta) (w:starEach [a] X.env= [(false,eval a X.env)]:=by rfl):PI X tg (.Call (.Name "reversed" p) [a] [] pos) (qdj X.K ta):=by
 intro g s U H R I h
 refine Call_ (Jx I t A boot_reversed (PyProof.Rows.callWith_type1 (jdF (z pos g s U H _ I h) λD i ⟨B,m,j,n,u⟩=> ?_) w rfl))
 obtain⟨b,d,e,y,q⟩:=u
 subst e
 cases n with
 | cons r x=>
  cases x
  cases r
  obtain⟨k,rv,pl,C⟩:=j.list y
  refine call_reversed_list pl.isList ?_
  have f:k.toArray.size=d.length:=by rw [Ab];exact rv.length.symm
  rw [f]
  have l:(i.heap.push (revObj b (d.length-1))).IsRevIter i.heap.objs.size b (d.length-1- (0:Nat)):=by
   refine⟨_,Ab8 _ rfl,rfl,?_⟩
   rw [show d.length-1- (0:Nat)=(d.length:Int)-1 by omega]<;>rfl
  refine wpAny_pyIter_revIter l ?_
  refine⟨i.heap.objs.size,[i.heap.objs.size],_,_,m,rfl,j.kept λb o e=>Aa2 _ e,jaZ b _ d.length,l,λc v=> ?_,q⟩
  have e:=by simpa using v
  subst e
  exact j.fpOk (Aa5 _) (j.hok.fresh (Aa5 _))
end
structure zdM (P:Program) (w:World) (K:Aa6) (mg:Str->Option Value) (base:Heap) (k:Nat) (x:Str) (ps:List Str) (sp:Sp):Prop where
 ex: ∃f fd,FnOk P w K mg base jdD k f fd ps sp/\Binds K fd ps []/\Ae4 K (.ref f)=k9/\mg x=y0 (.ref f)
open PySem PySem.Spec PySem.Calls PySem.W PyProof.Rows
structure qc9 (K:Frag) (C:Addr):Prop where
 ga:findIn K (.ref C) "__getattribute__" =some (some (.builtin "BaseException.__getattribute__"))
 gn:findIn K (.ref C) "__getattr__" =some none
 cl:findIn K (.ref C) "__class__" =some (some (.builtin "object.__class__"))
 get:specialIn K (.builtin "object.__class__") "__get__" =some (some (.builtin "getset_descriptor.__get__"))
 set:takesIn K (.builtin "object.__class__")=some true
 obj:mroIn K C (.type "object")=some true
 bas:mroIn K C (.type "BaseException")=some true
 slf:kitCls K (.ref C) (.ref C)=y0 k9
 cls:(clsIn K C).isSome=k9
def ExcAt (h:Heap) (x C:Addr):Prop:= ∃o,h.get? x=y0 o/\o.cls= .ref C
def ExcAt.type (e:ExcAt h x C):Looks M h (typeOf (.ref x)) (.ref C):=by
 obtain⟨o,a,b⟩:=e
 rw [← b]
 exact(Looks.ld a).andThen Looks.now
noncomputable def qaG (x C:Addr) (a:Option Addr):HO:= .ext λh=> ∃o,h.get? x=y0 o/\o.cls= .ref C/\notCls o=k9/\ ∀dx,a=y0 dx->o.dict=y0 dx
def qb3 (e:h.get? x=y0 o) (d:o.cls= .ref C) (f:notCls o=k9) (c: ∀dx,od=y0 dx->o.dict=y0 dx):ObjOk P w H h x (qaG x C od):=
 ⟨⟨o,e,d,f,c⟩,⟨o,e⟩,λi g ⟨o,a,b⟩ k=>⟨o,k o a,b⟩⟩
def DK (h h':Heap):Prop:= ∀b o,h.get? b=y0 o-> ∃o',h'.get? b=y0 o'/\o'.dict=o.dict
def DK.refl (h):DK h h:=λ_ o e=>⟨o,e,rfl⟩
theorem DK.trans (x:DK a b) (y:DK b c):DK a c:=λi o e=>
 let ⟨f,h,g⟩:=x i o e
 let ⟨d,j,k⟩:=y i f h
 ⟨d,j,k.trans g⟩
noncomputable def KD {b:Type}:Sem b->Prop
 | .pure _=>True
 | .raise _=>True
 | .unsupported _=>True
 | .finish _=>True
 | .register _ _=>True
 | .rule _ k=>KD (k ())
 | .at _ k=>KD (k ())
 | .load _ _ k=> ∀o,KD (k o)
 | .update _ _ f k=>(∀ o,(f o).dict=o.dict/\(o.isFreed=y9->(f o).isFreed=y9))/\KD (k ())
 | .alloc _ k=> ∀a,KD (k a)
 | .loadIfAlive _ k=> ∀o,KD (k o)
 | .point _ k=>KD (k ())
 | .fresh k=> ∀t,KD (k t)
 | .ask k=> ∀t,KD (k t)
 | .handled _ k=> ∀t,KD (k t)
 | .stack k=> ∀t,KD (k t)
 | .thread k=> ∀t,KD (k t)
 | _=>False
theorem KD.bind (c: ∀a,KD (f a))(h:KD m):KD (m.bind f):=by
 induction m with
 | pure a=>exact c a
 | raise _=>exact trivial
 | unsupported _=>exact trivial
 | finish _=>exact trivial
 | register _ _=>exact trivial
 | rule _ k b=>exact b () h
 | «at» _ k b=>exact b () h
 | load _ _ k b=>exact λo=>b o (h o)
 | update _ _ _ k b=>exact⟨h.1,b () h.2⟩
 | alloc _ k b=>exact λo=>b o (h o)
 | loadIfAlive _ k b=>exact λo=>b o (h o)
 | point _ k b=>exact b () h
 | fresh k b=>exact λo=>b o (h o)
 | ask k b=>exact λo=>b o (h o)
 | handled _ k b=>exact λo=>b o (h o)
 | stack k b=>exact λo=>b o (h o)
 | thread k b=>exact λo=>b o (h o)
 | _=>exact False.elim h
theorem DK.push (h) (o):DK h (h.push o):=λb u e=>⟨u,Aa2 _ e,rfl⟩
theorem DK.update (h) (a)(c: ∀o,(f o).dict=o.dict/\(o.isFreed=y9->(f o).isFreed=y9)):DK h (h.update a f):=λb u e=>by
 by_cases q:a=b
 ·subst q
  exact⟨f u,Ai0 f e ((c u).2 (Heap.get?_some_iff.mp e).2),(c u).1⟩
 ·exact⟨u,by rw [Aj7 _ _ q];exact e,rfl⟩
def xcS : ∀ {p}{s},KD t->DK h0 s.heap->Sem.wp M Γ t Q E p s →
 Sem.wp M Γ t (λa p s'=>Q a p s'/\DK h0 s'.heap) (λe p s'=>E e p s'/\DK h0 s'.heap) p s:=by
 induction t with
 | pure a=>exact λk d h=>⟨h,d⟩
 | raise _=>exact λk d h=>⟨h,d⟩
 | unsupported _=>exact λk d h=>h
 | finish _=>exact λk d h=>h
 | register _ _=>exact λk d h=>h
 | rule _ t b=>exact λk d h=>b () k d h
 | «at» _ t b=>exact λk d h=>b () k d h
 | load _ _ t b=>exact λk d ⟨o,e,h⟩=>⟨o,e,b o (k o) d h⟩
 | update a _ f t b=>exact λk d ⟨e,h⟩=>⟨e,b () k.2 (d.trans (DK.update _ _ k.1)) h⟩
 | alloc o t b=>exact λk d h=>b _ (k _) (d.trans (DK.push _ _)) h
 | loadIfAlive _ t b=>exact λk d h=>b _ (k _) d h
 | point _ t b=>exact λk d h=>b () k d h
 | fresh t b=>exact λk d h=>b _ (k _) d h
 | ask t b=>exact λk d h=>b _ (k _) d h
 | handled _ t b=>exact λk d h=>b _ (k _) d h
 | stack t b=>exact λk d h=>b _ (k _) d h
 | thread t b=>exact λk d h=>b _ (k _) d h
 | _=>exact λk=>False.elim k
def JJ (k:KD t) (h:wpAny M A t Q E s):
 wpAny M A t (λa s'=>Q a s'/\DK s.heap s'.heap) (λe s'=>E e s'/\DK s.heap s'.heap) s:=λc p b=>xcS k (DK.refl _) (h c p b)
def xW (v):KD (fieldsOf v):=by
 cases v<;>first | exact trivial | skip
 refine KD.bind (λo=> ?_) λ_=>trivial
 split<;>exact trivial
def Xz (v) (i):KD (field v i):=by
 refine KD.bind (λo=> ?_) (xW v)
 split<;>exact trivial
def wV {c:Bool}(e:KD a) (d:KD b):KD (if c then a else b):=by cases c<;>assumption
def wt (v) (i) (x):KD (setField v i x):=by
 cases v<;>first | exact trivial | skip
 refine KD.bind (λo=> ?_) λ_=>trivial
 split
 ·split
  ·refine⟨λo=> ?_,trivial⟩
   obtain⟨c,d,a,sl⟩:=o
   cases a<;>exact⟨rfl,λz=>z⟩
  ·exact trivial
 ·exact trivial
def xM (f) (b):KD (entryPlaceOf f b):=by
 refine KD.bind (λo=> ?_) λ_=>trivial
 split<;>exact trivial
def wW (a b c d e) (p):KD (EntryCells.newEntry a b c d e p):=by
 have g: ∀f:Array Value,KD (if f.size>sizeLine+2 then do
  unsupported "record:memory"
  else newObjAsIs (Value.type "traceback") (Data.fields f)):=fun f=>by
  split
  ·exact trivial
  ·unfold newObjAsIs
   exact λ_=>trivial
 exact g _
theorem J2: ∀l:List Env,KD (readyFrames l)
 | []=>trivial
 | env::outer=>by
  unfold readyFrames
  split
  ·refine KD.bind (λo=> ?_) λ_=>trivial
   refine wV trivial ?_
   refine KD.bind (λi=> ?_) ?_
   ·refine KD.bind (λb=> ?_) ?_
    ·refine KD.bind (λ_=>J2 outer) ⟨λo=>⟨rfl,λz=> ?_⟩,trivial⟩
     obtain⟨c,d,a,sl⟩:=o
     cases a<;>exact z
    ·unfold keptBack
     split
     ·refine wV trivial ?_
      refine KD.bind (λ_=> trivial) ?_
      exact λ_=>trivial
     ·exact trivial
   ·unfold behindIsImport
    refine wV trivial (wV trivial ?_)
    exact KD.bind (λ_=> trivial) (Xz _ _)
  ·exact trivial
def X7 (env):KD (PySem.frameOf env):=by
 refine KD.bind (λl=> ?_) λ_=>trivial
 refine KD.bind (λo=> ?_) ?_
 ·split<;>exact trivial
 ·unfold frameObject
  split
  ·exact trivial
  ·exact KD.bind (λ_=> trivial) (J2 _)
def zar (e) (env):KD (noteFrame e env):=by
 unfold noteFrame
 split
 ·refine KD.bind (λf=> ?_) (Xz _ _)
  have d:KD (do setField e 1 (← EntryCells.newEntry f (← PySem.frameOf env) .none (rawInt ‹Addr›) .none (← entryPlaceOf ‹Addr› (f != .none)))):=
   KD.bind (λa=>KD.bind (λb=>KD.bind (λc=>wt _ _ _) (wW _ _ _ _ _ _)) (xM _ _)) (X7 env)
  refine wV ?_ d
  refine KD.bind (λx=> ?_) (Xz _ _)
  refine wV trivial ?_
  exact KD.bind (λ_=>d) (wt _ _ _)
 ·exact trivial
def ZE (e) (f):KD (setFlight e f):=by
 refine KD.bind (λx=> ?_) (Xz _ _)
 exact wV (wt _ _ _) trivial
def WG (env) (e):KD (leaving env e):=KD.bind (λ_=>ZE e u0) (zar e env)
def ObjOk.there (x:ObjOk P w H h a o): ∃u,h.get? a=y0 u:=by
 cases o with
 | lst c=>exact⟨_,x.2.choose_spec.choose_spec.2⟩
 | tup c=>obtain⟨_,_,_,u,e,_⟩:=x;exact⟨u,e⟩
 | dK b=>obtain⟨_,_,_,_,u,_,_,e,_⟩:=x;exact⟨u,e⟩
 | dT b=>obtain⟨_,_,_,_,u,_,_,e,_⟩:=x;exact⟨u,e⟩
 | set S n=>obtain⟨u,_,_,_,e,_⟩:=x;exact⟨u,e⟩
 | ins C k fs=>obtain⟨_,_,_,e,_⟩:=x;exact⟨_,e⟩
 | own y=>exact x
 | xd fs=>obtain⟨_,⟨u,_,_,e,_⟩,_⟩:=x;exact⟨u,e⟩
 | rng g l=>obtain⟨_,_,_,e⟩:=x;exact⟨_,e⟩
 | frz i u=>exact⟨_,x.1⟩
 | tbl d=>exact⟨_,show h.get? a=y0 _ from x⟩
 | met f y=>exact⟨_,show h.get? a=y0 _ from x⟩
 | ext j=>exact x.2.1
noncomputable def zdN (P:Program) (w:World):qd5:=λouter H s E e s'=> ∃(x C t:Addr) (B:Heap) (H':Hp) (a:Option Addr),e= .ref x/\s'.os=s.os/\AllBare s'.gens ∧
 Al6 B outer x (.ref C) (.ref t) s'.heap/\Un (qdZ outer) [] H H' s.heap s'.heap/\HOk P w H' s'.heap ∧
 (∀ b o,s'.heap.get? b=y0 o->((∃ u,H' b=y0 u)\/ ∃u,s.heap.get? b=y0 u)->b∉qdZ outer->B.get? b=y0 o)/\s.heap.get? x=u0/\(∀ dx,a=y0 dx-> ∃o,s'.heap.get? x=y0 o/\o.dict=y0 dx)/\E (.ref C) a H'
noncomputable def xT (C t:Addr) (a:Option Addr):Obj:= { cls:= .ref C,dict:=a,data:= .fields #[.ref t,.none,.none,.none,.bool y9,.none] }
section
variable {P:Program}{w:World}{K:Frag}{mg:Str->Option Value}{base:Heap}{N:List Str}{v8:Str}{scope:Scope}{f:Addr}{cd:Value}{A:Around}{outer:List Env}{s:Shared}{H:Hp}{E:XK}
def XG (I:Inv (JM (zdN P w) P w K mg base N v8 scope f cd A outer s H E) k8 U H1 s2)
 (he:s2.heap.get? e=y0 (xT C t od)) (new:s.heap.get? e=u0) (h0:H1 e=u0) (q:E (.ref C) od H1):(JM (zdN P w) P w K mg base N v8 scope f cd A outer s H E).xe (.ref e) s2:=by
 have ff:=I.stack
 have fb0:=funFrames_hide (as:=e::qdZ (envOfC v8 scope s.heap.objs.size f cd::outer)) ff λenv he a ha=>Aa1 _ (Ao3.mpr ⟨env,he,ha⟩)
 have free:=I.stkFree
 have fe:e∉qdZ (envOfC v8 scope s.heap.objs.size f cd::outer):=λhm=>by
  obtain⟨_,o,ho,nf⟩:=ff.mem hm
  rw [he]at ho
  cases ho
  exact nf _ rfl
 refine wpAny_mono (JJ (WG _ _) (wpAny_leaving_firstW (E:=λ_ _=>False)
  (Q:=λ_ s'=>Heap.LeftW (hideAll s2.heap (e::qdZ (envOfC v8 scope s.heap.objs.size f cd::outer))) (envOfC v8 scope s.heap.objs.size f cd::outer) e (.ref C) (.ref t) s2.heap s'.heap/\s'= { s2 with heap:=s'.heap })
  I.ok.frames fb0 rfl he (λb o z=>of_hideAll _ z) (hideAll_none _ (Aa3 ..)) rfl rfl rfl λh' hL=>⟨hL,rfl⟩)) (λ_ s' ⟨⟨hL,hs⟩,dk⟩=> ?_) (λ_ _ z=>z.1.elim)
 obtain⟨k1,k2,k3,x4⟩:=hL
 obtain⟨h2,g2,d2,t2,o2⟩:=s'
 simp only [Shared.mk.injEq]at hs
 obtain⟨-,rfl,rfl,rfl,rfl⟩:=hs
 have inB: ∀b o,s2.heap.get? b=y0 o->b≠e->b∉qdZ (envOfC v8 scope s.heap.objs.size f cd::outer)->(hideAll s2.heap (e::qdZ (envOfC v8 scope s.heap.objs.size f cd::outer))).get? b=y0 o:=λb o z ne n=>hideAll_get _ z (by rw [Ab7];exact λq=>q.elim ne n)
 have toH: ∀b o,s2.heap.get? b=y0 o->b≠e->b∉qdZ (envOfC v8 scope s.heap.objs.size f cd::outer)->h2.get? b=y0 o:=λb o z ne n=>k1 b o (inB b o z ne n)
 have slotH: ∀b o,b∈qdZ (envOfC v8 scope s.heap.objs.size f cd::outer)->s2.heap.get? b=y0 o-> ∃sl,h2.get? b=y0 { o with slots:=sl }:=λb o hb z=>by
  obtain⟨_,o',z',nf⟩:=ff.mem hb
  rw [z]at z'
  cases z'
  exact x4 b o z nf
 have cut: ∀b,b∉qdZ outer->b≠s.heap.objs.size->b∉qdZ (envOfC v8 scope s.heap.objs.size f cd::outer):=λb n1 n2 hb=>by
  rcases Ab7.mp (show b∈s.heap.objs.size::qdZ outer from hb)with z | z
  ·exact n2 z
  ·exact n1 z
 have old: ∀b o,s.heap.get? b=y0 o->b≠s.heap.objs.size:=λb o z=>Ac3 (Ab5 z)
 have olde: ∀b o,s.heap.get? b=y0 o->b≠e:=λb o z q=>by rw [q,new]at z;cases z
 have jdW: ∀b u,H1 b=y0 u->b≠e/\b∉qdZ (envOfC v8 scope s.heap.objs.size f cd::outer):=λb u z=>⟨λq=>(by rw [q,h0]at z;cases z),λhb=>(by rw [free b hb]at z;cases z)⟩
 refine⟨e,C,t,_,H1,od,rfl,I.os,I.bare,⟨k1,hideAll_none _ (Aa3 ..),k2.2.2,k3⟩,⟨λb o z n hb hx=> ?_,λb o z n hb hx=> ?_,I.base.free,λb o z hx=> ?_,I.base.tups,I.base.frzs,I.base.tbls⟩,λb u z=> ?_,λb o z hc hb=> ?_,new,λdx z=> ?_,q⟩
 ·exact toH b o (I.base.keep b o z n hb hx) (olde b o z) (cut b hb (old b o z))
 ·obtain⟨sl,z1⟩:=I.base.slot b o z n hb hx
  obtain⟨sl2,z2⟩:=slotH b _ (Aa1 _ hb) z1
  exact⟨sl2,z2⟩
 ·obtain⟨o',z1⟩:=I.base.there b o z hx
  by_cases hb:b∈qdZ (envOfC v8 scope s.heap.objs.size f cd::outer)
  ·obtain⟨sl,z2⟩:=slotH b o' hb z1
   exact⟨_,z2⟩
  ·exact⟨o',toH b o' z1 (olde b o z) hb⟩
 ·refine(I.hok b u z).stay (λc v hc z1=> ?_) (λ_ z1=>z1) λ_ _ z1=>z1
  rcases hc with rfl | hc
  ·exact toH c v z1 (jdW c u z).1 (jdW c u z).2
  ·exact toH c v z1 (jdW c _ hc).1 (jdW c _ hc).2
 ·have two: ∃o2,s2.heap.get? b=y0 o2/\b≠e/\b∉qdZ (envOfC v8 scope s.heap.objs.size f cd::outer):=by
   rcases hc with⟨u,hu⟩ | ⟨u,hu⟩
   ·obtain⟨o2,z2⟩:=(I.hok b u hu).there
    exact⟨o2,z2,jdW b u hu⟩
   ·obtain⟨o2,z2⟩:=I.base.there b u hu (by show b∉([]:List Addr);simp)
    exact⟨o2,z2,olde b u hu,cut b hb (old b u hu)⟩
  obtain⟨o2,z2,nb⟩:=two
  have z3:=toH b o2 z2 nb.1 nb.2
  rw [show h2.get? b=y0 o from z]at z3
  cases z3
  exact inB b _ z2 nb.1 nb.2
 ·obtain⟨o',e1,e2⟩:=dk e _ he
  exact⟨o',e1,e2.trans z⟩
def ZT (I:Inv (JM (zdN P w) P w K mg base N v8 scope f cd A outer s H E) k8 U H1 s2)
 (b:Heap.MadeExcOf s2.heap h' e (.ref C) vs) (q:E (.ref C) u0 H1):(JM (zdN P w) P w K mg base N v8 scope f cd A outer s H E).xe (.ref e) { s2 with heap:=h' }:=by
 obtain⟨t,c,_⟩:=b.there
 refine XG (I.kept b.keeps) c ?_ ?_ q
 ·cases z:s.heap.get? e with
  | none=>rfl
  | some u=>
   obtain⟨d,a⟩:=I.base.there e u z (by show e∉ [];simp)
   rw [b.new]at a
   cases a
 ·cases z:H1 e with
  | none=>rfl
  | some u=>
   obtain⟨d,a⟩:=(I.hok e u z).there
   rw [b.new]at a
   cases a
end
def zaX {K:Frag}(X:K.In h) (q:excIn K C bmB newId=k9):
 ∃g i nm a bs b sn sub ab col dd k0 k1 k2 k3 k5 mN,h.get? C=some (excClassObj nm a C i bs g b sn sub ab col dd k0 k1 k2 k3 k5 newId)/\h.Ns i mN/\mN "__init__" =none/\OwnTail h bmB g:=by
 unfold excIn at q
 split at q
 next dd cd sl r=>
  split at q
  next t p k0 k1 k2 k3 nn k5 j o=>
   simp only [Aa7,beq_iff_eq,Ao8]at q
   obtain⟨⟨⟨⟨⟨rfl,rfl⟩,f⟩,s⟩,d⟩,k⟩:=q
   obtain⟨nm,bs,n,e,a,b,sn,sub,ab,col,m⟩:=cd
   dsimp only at j f d k
   subst j f
   have c:sl= #[k0,k1,k2,k3,y0 (.builtin nn),k5]:=by
    cases sl with
    | mk l=>exact congrArg Array.mk o
   subst c
   exact⟨p,e,nm,a,bs,b,sn,sub,ab,col,dd,k0,k1,k2,k3,k5,_,X _ _ r,.of_isNs (isNs_of_in X d),nsMap_none_of_in X d k,tail_of_in X s⟩
  next=>cases q
 next=>cases q
section
variable {P:Program}{w:World}{K:Frag}{mg:Str->Option Value}{base:Heap}{N:List Str}{v8:Str}{scope:Scope}{f:Addr}{cd:Value}{A:Around}{outer:List Env}{s:Shared}{H:Hp}{E:XK}
abbrev Zu:List Value:= [.type "ValueError",.type "Exception",.type "BaseException",.type "object"]
def xbr (C:Addr) (E:XK) (t:TA):TS:=λ_ U H=>t U H λa H1=>a.length<=sizeLine/\E (.ref C) u0 H1
def xbh (R:excIn K C Zu "ValueError.__new__" =true) (V:mg x=some (.ref C)) (L:Gl (JM (zdN P w) P w K mg base N v8 scope f cd A outer s H E) x)
 (S:PA (JM (zdN P w) P w K mg base N v8 scope f cd A outer s H E) (e::es) t)
 (G:starEach (e::es) (envOfC v8 scope s.heap.objs.size f cd)=(y9,eval e (envOfC v8 scope s.heap.objs.size f cd))::starEach es (envOfC v8 scope s.heap.objs.size f cd):=by rfl)
 (m:(backTo y7 (starEach es (envOfC v8 scope s.heap.objs.size f cd))).any (·.1)=false:=by rfl) (Y:(x==("__debug__" :Str))=false:=by decide):
 PS (JM (zdN P w) P w K mg base N v8 scope f cd A outer s H E) (.Raise (y0 (.Call (.Name x np) (e::es) [] y7)) u0 pos) (xbr C E t):=by
 intro c l U J D I h
 obtain⟨bm,M,u,X,bs,j,F,sub,p,b,dd,o,n,r,B,v,y,O,hN,k,T⟩:=zaX I.mod.kin R
 refine wpAny_Raise_call_subT (nm:=u) (q:=X) (N:=M) (bs:=bs) (hdct:=j) (sn:=F) (sub:=sub) (ab:=p) (col:=b) (dd:=dd) (k0:=o) (k1:=n) (k2:=r) (k3:=B) (k5:=v)
  PySem.F.excBase_ValueError (mN:=y) (T.hasType PySem.F.excBase_ValueError.hasBase) (I.ok.hd rfl) ?_ k (Zw I L V ⟨rfl,?_⟩ Y)
 ·show(backTo y7 (starEach (e::es) (envOfC v8 scope s.heap.objs.size f cd))).any (·.1)=y9
  rw [G]
  show(y9||(backTo y7 (starEach es (envOfC v8 scope s.heap.objs.size f cd))).any (·.1))=y9
  rw [m]
  rfl
 ·have hA:=S y7 c l U J _ I h
  show wpAny (model P w) _ (evalArgs (.ref C) k9 (backTo y7 (starEach (e::es) (envOfC v8 scope s.heap.objs.size f cd))) []) _ _ l
  have d:wpAny (model P w) (A.deeper (envOfC v8 scope s.heap.objs.size f cd)) (spliced (backTo y7 (starEach (e::es) (envOfC v8 scope s.heap.objs.size f cd)))) _ _ l:=hA
  rw [G]at d ⊢
  exact Calls.evalArgs_plain (jdF d λQ s2 ⟨vs,H2,g,Z,z,W⟩=>⟨rfl,by show Q.length<=sizeLine;rw [← Z.length];exact z,g.bk _ _ O,hN.keeps g.bk,T.keeps g.bk,λh' a i=>ZT g i W⟩)
def Fun.okX {st:Stmt}(F:Fun K x v8 st f fd) (S:Qn N ps (Zb st)) (len: ∀b H Q E,sp b H Q E->b.length=ps.length)
 (c: ∀ a A outer s H b Q E,Room k (A.deeper (envOfC v8 (Zb st) s.heap.objs.size f a))->sp b H Q E →
   ∃t,PSs (JM (zdN P w) P w K mg base N v8 (Zb st) f a A outer s H E) (We st) t/\t { nx:=λ_ H'=>Q .non H',rt:=Q } (start N b) H):FnOk P w K mg base (zdN P w) (k+1) f fd ps sp:=by
 obtain⟨m,l,kV,h,pm,n,a,o,g,rfl,j,d⟩:=F.ex
 exact xc1 j d S len λA outer s H b Q E i e=>c a A outer s H b Q E i e
def qc5:PassesOwn (model P w) (A.deeper (envOfC v8 scope s.heap.objs.size f cd)) (envOfC v8 scope s.heap.objs.size f cd) (JM (zdN P w) P w K mg base N v8 scope f cd A outer s H E).xe:=
 PassesOwn.leaving
end
section
variable {X:Cx}{k8:List (Addr×Obj)}{U:St}{H:Hp}{s:Shared}
def Inv.reframe (I:Inv X k8 U H s) (f:Ai1 X.env.locals s.heap h') (q:h'.Ns X.env.locals m')
 (t: ∀(i:Nat) (x:Str) (v:V),X.N[i]? =y0 x->U'[i]? =y0 (y0 v)->xdy X.env.scope x-> ∃u,RelV v u/\xdf X.env h' m' x u) (len:U'.length=X.N.length):Inv X k8 U' H { s with heap:=h',toks:=t' }:=by
 have a: ∀b o,X.s₀.heap.get? b=y0 o->b≠X.env.locals:=λb o e=>Ac3 (Ab1 (Ab5 e) I.ok.above)
 refine⟨I.ok,I.os,I.bare,⟨λb o e n k g=>(f.2 b (a b o e)).trans (I.base.keep b o e n k g),λb o e n k g=> ?_,I.base.free,λb o e g=> ?_,I.base.tups,I.base.frzs,I.base.tbls⟩,⟨m',q,t⟩,λy c e=> ?_,I.free,I.freeC,λp l=> ?_,λb u e=> ?_,len⟩
 ·obtain⟨sl,j⟩:=I.base.slot b o e n k g
  exact⟨sl,(f.2 b (a b o e)).trans j⟩
 ·obtain⟨m,j⟩:=I.base.there b o e g
  exact⟨m,(f.2 b (a b o e)).trans j⟩
 ·obtain⟨v,z⟩:=I.cell y c e
  exact⟨v,z.sameBut f (I.cne y c e)⟩
 ·obtain⟨e,n,ne,r⟩:=I.pin p l
  exact⟨(f.2 p.1 ne).trans e,n,ne,r⟩
 ·refine(I.hok b u e).stay (λc v d z=>(f.2 c ?_).trans z) (λ_ z=>z) λ_ _ z=>z
  intro h
  rcases d with d | d
  ·rw [← d,h,I.free]at e;cases e
  ·rw [h,I.free]at d;cases d
def Inv.adoptO (I:Inv X k8 U H s) (t:H D=u0) (h1:D≠X.env.locals) (l: ∀x c,X.env.cells.lookup x=y0 c->c≠D) (r: ∀p∈X.pn++k8,p.1≠D) (d: ∀b u,X.s₀.heap.get? b=y0 u->b≠D)
 (new:ObjOk X.prog X.w (jd7 H D o) s.heap D o):Inv X k8 U (jd7 H D o) s:=by
 have a: ∀b u,H b=y0 u->jd7 H D o b=y0 u:=λb u q=>by rw [qa (Xa q t)];exact q
 refine⟨I.ok,I.os,I.bare,⟨I.base.keep,I.base.slot,λb u e n m=> ?_,I.base.there,λb f q=>a b _ (I.base.tups b f q),λb u v q=>a b _ (I.base.frzs b u v q),λb k q=> ?_⟩,I.loc,I.cell,?_,λx c q=> ?_,λp h=> ?_,λb u q=> ?_,I.len⟩
 ·rw [qa (d b u e)];exact I.base.free b u e n m
 ·obtain⟨more,j⟩:=I.base.tbls b k q
  exact⟨more,a b _ j⟩
 ·rw [qa (Ne.symm h1)];exact I.free
 ·rw [qa (l x c q)];exact I.freeC x c q
 ·obtain⟨i,a2,a3⟩:=I.pin p h
  exact⟨i,by rw [qa (r p h)];exact a2,a3⟩
 ·by_cases g:b=D
  ·subst g
   rw [xb]at q
   cases q
   exact new
  ·rw [qa g]at q
   exact(I.hok b u q).stay (λ_ _ _ z=>z) (λc z=>a c _ z) λc f z=>a c _ z
def jav (I:Inv X k8 U H s) (D:X.N.Nodup) (p:X.N[i]? =y0 n) (q:X.env.scope.names.lookup n=y0 .local)
 (h: ∀s',Inv X k8 (U.set i u0) H s'->Q () s'):wpAny M A (do bindName X.env n .none;unbindBehindTheSuite X.env n hp) Q E s:=by
 have g:(X.env.scope.kind== .class||(X.env.scope.kind== .module&&X.env.locals != X.env.globals))=false:=by rw [I.ok.kind];rfl
 have C:X.env.kindOf n=y0 .local:=q
 have f:i<U.length:=by rw [I.len];exact(Ac2.mp p).1
 refine wpAny_bind (wpAny_bindName (zl I D p (.inl q) (v:= .non) rfl (λJ x=> ?_) (.inr q)))
 obtain⟨m,hn,a⟩:=x.loc
 have b:(m n).isSome=true:=by
  obtain⟨u,_,l⟩:=a i n .non p (Ad5 f) (.inl q)
  rcases l with⟨_,e⟩ | ⟨z,_⟩
  ·rw [e];rfl
  ·rcases z with z | z<;>(rw [C]at z;cases z)
 refine wpAny_onRaise ?_
 refine wpAny_bind (wpAny_point (wpAny_bind ?_))
 unfold deleteName
 simp only [C,g]
 refine wpAny_bind (wpAny_nsDel_keeps hn λK v w o=> ?_)
 rw [b]
 refine wpAny_pure (wpAny_point (h _ ?_))
 refine x.reframe o w (λj y F B t G=> ?_) (by rw [Ae7];exact I.len)
 have d:j≠i:=λz=>by
  subst z
  rw [Ad5 f]at t
  cases t
 rw [Ad3 (Ne.symm d)]at t
 obtain⟨u,r,l⟩:=a j y F B (by rw [Ad3 (Ne.symm d)];exact t) G
 refine⟨u,r,?_⟩
 rcases l with⟨k,e⟩ | ⟨k,c,e,z⟩
 ·refine .inl ⟨k,?_⟩
  have:y≠n:=λe=>d (wL D B (e▸p))
  simp [this,e]
 ·exact .inr ⟨k,c,e,z.sameBut o (x.cne y c e)⟩
end
def JI {j s':Shared}(l:Inv X k8 U H1 j) (A:s'.os=j.os) (h:AllBare s'.gens) (un:Un (qdZ X.stack) [] H1 H' j.heap s'.heap) (q:HOk X.prog X.w H' s'.heap)
 (comp: ∀b o,s'.heap.get? b=y0 o->((∃ u,H' b=y0 u)\/ ∃u,j.heap.get? b=y0 u)->b∉qdZ X.stack->B.get? b=y0 o) (f:Al6 B X.stack x (.ref C) (.ref t) h6) (r:s'.heap.UpToSlots h6):Inv X k8 U H' { s' with heap:=h6 }:=by
 have jdW: ∀c u,H' c=y0 u->c∉qdZ X.stack:=λc u z d=>by
  obtain⟨_,o,e,_⟩:=l.stack.mem d
  have:=un.free c o e (l.stkFree c d) (by simp)
  rw [this]at z
  cases z
 refine l.call' (s':= { s' with heap:=h6 }) (ch:= []) A ⟨λb o e n a g=> ?_,λb o e n a g=> ?_,un.free,λb o e g=> ?_,un.tups,un.frzs,un.tbls⟩ (λb u e=> ?_) h λb a=>absurd a (by simp)
 ·exact f.1 b o (comp b o (un.keep b o e n a g) (.inr ⟨o,e⟩) a)
 ·obtain⟨sl,m⟩:=un.slot b o e n a g
  obtain⟨_,i,k,w⟩:=l.stack.mem a
  rw [e]at k
  cases k
  obtain⟨p,y⟩:=r b _ m w
  exact⟨p,y⟩
 ·obtain⟨i,m⟩:=un.there b o e g
  by_cases a:b∈qdZ X.stack
  ·obtain⟨_,s,k,_⟩:=f.2.2.1.mem a
   exact⟨s,k⟩
  ·exact⟨i,f.1 b i (comp b i m (.inr ⟨o,e⟩) a)⟩
 ·refine(q b u e).stay (λc v d z=> ?_) (λ_ z=>z) λ_ _ z=>z
  rcases d with rfl | d
  ·exact f.1 c v (comp c v z (.inl ⟨u,e⟩) (jdW c u e))
  ·exact f.1 c v (comp c v z (.inl ⟨_,d⟩) (jdW c _ d))
def WT {R:Heap->Prop}(k:KD t) (h: ∀a:Unit->Shared->Prop,(∀ h',R h'->a () { s with heap:=h' })->wpAny M A t a E s) (g: ∀h',R h'->DK s.heap h'->Q () { s with heap:=h' }):wpAny M A t Q E s:=
 wpAny_mono (JJ k (h (λ_ b=> ∃h',b= { s with heap:=h' }/\R h') λh' r=>⟨h',rfl,r⟩)) (λ_ b ⟨⟨h',e,r⟩,c⟩=>by subst e;exact g h' r c) (λ_ _ z=>z.1)
def FnOk.calm {K:Frag}(F:FnOk P w K mg base (zdN P w) k f fd ps sp)
 (h: ∀b H Q E,sp0 b H Q E->sp b H Q (λ_ _ _=>False)):FnOk P w K mg base jdD k f fd ps sp0:=by
 refine⟨λb H Q E q=>F.len b H Q _ (h _ _ _ _ q),λA a s H c m b Q E o n i l j=>codeAny_mono (F.run A a s H c m b Q _ o n i l (h _ _ _ _ j)) λres r d=> ?_⟩
 cases res with
 | ok e=>
  cases e with
  | ret u=>exact d
  | next=>exact d
  | brk=>exact d
  | cont=>exact d
 | error v=>
  obtain⟨x,C,t,B,p,_,_,_,_,_,_,_,_,_,_,g⟩:=d
  exact g
noncomputable def qdQ (x:Str):It:=⟨λi _=> ∃c,x.cps[i]? =y0 c,λi H y H'=>H'=H/\ ∃c,x.cps[i]? =y0 c/\y= .str ⟨#[c]⟩,λi _=>x.cps[i]? =u0⟩
def x8 {K:PySem.W.Frag}(it) (x) (t):xa5 P w K tg (qdQ x) [it] it (λi h=>h.IsStrIter it "str_ascii_iterator" x t i) where
 mem:=by simp
 obj:=λi h a b g=>by
  have e:=by simpa using g
  subst e
  obtain⟨o,e,c,d⟩:=a
  exact⟨o,e,λv z=>by rw [d]at z;cases z⟩
 keep:=λi h u a k=>by
  obtain⟨o,e,c,d⟩:=a
  exact⟨o,k it (by simp) o e,c,d⟩
 item:=by
  intro X hP M L A i f s U H E I l a n
  obtain⟨c,B⟩:=n
  obtain⟨q,m,D,y,r,p⟩:=l it (by simp)
  refine wpAny_pyNext_ascii_item a B λu j G=> ?_
  have J:Inv X f U H { s with heap:=u,toks:=s.toks+1 }:=I.turned (λb o g e=>(G.2 b g).trans e) q m y r p
  obtain⟨o,e,C,d⟩:=id j
  exact⟨_,rfl,X9 e C d (by decide) ⟨.str ⟨#[c]⟩,H,J,⟨_,rfl⟩,⟨rfl,c,B,rfl⟩,j,λb g=>(l b g).1⟩⟩
 done:=by
  intro X hP M L A i f s U H E I l a n
  obtain⟨q,m,D,y,r,p⟩:=l it (by simp)
  exact wpAny_pyNext_ascii_end (I.ok.hd A) a n λu F=>⟨rfl,I.turned (λb o g e=>F b o g e) q m y r p⟩
 self:=λ_ _ _ _ _ a h=>wpAny_pyIter_striter_ascii a h
def xaC {K:PySem.W.Frag}(it) (x) (t):xa5 P w K tg (qdQ x) [it] it (λi h=>h.IsStrIter it "str_iterator" x t i) where
 mem:=by simp
 obj:=λi h a b g=>by
  have e:=by simpa using g
  subst e
  obtain⟨o,e,c,d⟩:=a
  exact⟨o,e,λv z=>by rw [d]at z;cases z⟩
 keep:=λi h u a k=>by
  obtain⟨o,e,c,d⟩:=a
  exact⟨o,k it (by simp) o e,c,d⟩
 item:=by
  intro X hP M L A i f s U H E I l a n
  obtain⟨c,B⟩:=n
  obtain⟨q,m,D,y,r,p⟩:=l it (by simp)
  refine wpAny_pyNext_wide_item a B λu j G=> ?_
  have J:Inv X f U H { s with heap:=u,toks:=s.toks+1 }:=I.turned (λb o g e=>(G.2 b g).trans e) q m y r p
  obtain⟨o,e,C,d⟩:=id j
  exact⟨_,rfl,X9 e C d (by decide) ⟨.str ⟨#[c]⟩,H,J,⟨_,rfl⟩,⟨rfl,c,B,rfl⟩,j,λb g=>(l b g).1⟩⟩
 done:=by
  intro X hP M L A i f s U H E I l a n
  obtain⟨q,m,D,y,r,p⟩:=l it (by simp)
  exact wpAny_pyNext_wide_end (I.ok.hd A) a n λu F=>⟨rfl,I.turned (λb o g e=>F b o g e) q m y r p⟩
 self:=λ_ _ _ _ _ a h=>wpAny_pyIter_striter_wide a h
noncomputable def xdo (K:Aa6) (b:TE):TI:=λU H R=>b U H λx H1=>(∃ a,x= .ref a/\(∃ xs,SqL K H1 a xs)/\R (qdU K a) H1)\/(∃ a,x= .ref a/\(∃ xs,qdS K H1 a xs)/\R (qdy K a) H1)\/ ∃z,x= .str z/\R (qdQ z) H1
def qaw (y:PE X l tl):PI X tg l (xdo X.K tl):=by
 intro g s U H R I h
 refine jdF (y g s U H _ I h) ?_
 rintro v d ⟨x,i,c,j,u⟩
 rcases u with⟨a,e,⟨r,m⟩,q⟩ | ⟨a,e,⟨r,m⟩,q⟩ | ⟨z,e,q⟩
 ·subst e
  cases j
  obtain⟨k,rv,p,w⟩:=c.list m
  refine wpAny_pyIter_list p.isList ?_
  refine⟨d.heap.objs.size,[d.heap.objs.size],_,_,i,rfl,c.kept λb o e=>Aa2 _ e,xar a _,⟨_,Ab8 _ rfl,rfl,rfl⟩,λb f=> ?_,q⟩
  have e:=by simpa using f
  subst e
  exact c.fpOk (Aa5 _) (c.hok.fresh (Aa5 _))
 ·subst e
  cases j
  obtain⟨k,rv,p,w⟩:=c.tuple m
  refine wpAny_pyIter_tuple (p) ?_
  refine⟨d.heap.objs.size,[d.heap.objs.size],_,_,i,rfl,c.kept λb o e=>Aa2 _ e,Q6 a _,⟨_,Ab8 _ rfl,rfl,rfl⟩,λb f=> ?_,q⟩
  have e:=by simpa using f
  subst e
  exact c.fpOk (Aa5 _) (c.hok.fresh (Aa5 _))
 ·subst e
  obtain⟨t,rfl⟩:=j
  cases n:z.cps.all (· <128)with
  | true=>
   refine wpAny_pyIter_ascii n ?_
   refine⟨d.heap.objs.size,[d.heap.objs.size],_,_,i,rfl,c.kept λb o e=>Aa2 _ e,x8 _ z t,⟨_,Ab8 _ rfl,rfl,rfl⟩,λb f=> ?_,q⟩
   have e:=by simpa using f
   subst e
   exact c.fpOk (Aa5 _) (c.hok.fresh (Aa5 _))
  | false=>
   refine wpAny_pyIter_wide n ?_
   refine⟨d.heap.objs.size,[d.heap.objs.size],_,_,i,rfl,c.kept λb o e=>Aa2 _ e,xaC _ z t,⟨_,Ab8 _ rfl,rfl,rfl⟩,λb f=> ?_,q⟩
   have e:=by simpa using f
   subst e
   exact c.fpOk (Aa5 _) (c.hok.fresh (Aa5 _))
section
variable {X:Cx}
def Vals.getI (r:Vals xs us){i:Nat}(h:us[i]? =y0 u): ∃x,xs[i]? =y0 x/\RelV x u:=by
 have e:=r.length
 have f:=(Ac2.mp h).1
 have b:i<xs.length:=by omega
 obtain⟨d,a,c⟩:=r.get (Aa4 b)
 rw [h]at a
 cases a
 exact⟨_,Aa4 b,c⟩
def qay (bs:List Bool):(Aa0 bs.length).all (λi=>bs.getD i y9)=bs.all id:=by
 induction bs with
 | nil=>rfl
 | cons b bs a=>
  rw [Ab4,Ag,Ai4,An5,Ai4,←a]
  rfl
def zav {bs:List Bool}(r:Vals (bs.map V.bl) its):TruthOf P w A (λi v=>its.toArray[i]? =y0 v) (λi=>bs.getD i y9):=by
 intro i v s Q E hP f
 obtain⟨x,a,d⟩:=r.getI (by simpa using hP)
 rw [Ad1]at a
 cases c:bs[i]? with
 | none=>rw [c]at a;cases a
 | some b=>
  rw [c]at a
  cases a
  cases d
  refine wpAny_truthy_bool ?_
  have e:bs.getD i y9=b:=by rw [Ac1,c];rfl
  rw [← e]
  exact f
def zah (j:X.calm=k9):Jm X (.builtin "all") (fun xs H Q=> ∃p,∃bs:List Bool,xs= [.ref p]/\SqL X.K H p (bs.map V.bl)/\Q (.bl (bs.all id)) H):=by
 intro c s U H xs x Q I r h
 obtain⟨p,bs,rfl,m,q⟩:=h
 obtain⟨u,rfl,l⟩:=qK r
 cases l
 obtain⟨d,rv,pl,w⟩:=I.list m
 have a:=rv.length
 rw [Aa]at a
 refine call_all_walk (wpAny_pyIter_list pl.isList ?_)
 have f:p≠s.heap.objs.size:=by
  obtain⟨o,g,_⟩:=pl.isList
  exact Ac3 (Ab5 g)
 refine⟨s.heap.objs.size,_,_,_,_,_,λi=>bs.getD i y9,rfl,Walks.list (A:=X.A.in1) (I.ok.hd j) _ p f d.toArray,⟨⟨_,Ab8 _ rfl,rfl,rfl⟩,pl.isList.at λo e=>Aa2 _ e⟩,zav rv,λn k t=> ?_⟩
 have v:Inv X c U H { s with heap:=n,toks:=k }:=I.kept λb o e=>t b o (by simp;exact Ac3 (Ab5 e)) (Aa2 _ e)
 refine⟨.bl _,H,v,?_,q⟩
 show _=_
 rw [Ab,←a,qay]
def zaP:List Int->Int
 | []=>0
 | i::r=>i+zaP r
theorem XO: ∀(xs) (x),zaP (xs++ [x])=zaP xs+x
 | [],x=>by simp [zaP]
 | y::a,x=>by
  show y+zaP (a++ [x])=y+zaP a+x
  rw [XO a x];omega
theorem zB (ns:List Int): ∀j,j<=ns.length->preSum (λi=>ns.getD i 0) j=zaP (ns.take j)
 | 0,_=>rfl
 | j+1,h=>by
  rw [preSum,zB ns j (by omega),List.take_succ,Aa4 (by omega)]
  show _=zaP (ns.take j++ [ns[j]])
  rw [XO,Ac1,Aa4 (by omega)]
  rfl
end
section
variable {X:Cx}
theorem zL: ∀ {ss}{a},Vals (ss.map V.str) a->StrsAre a ss
 | [],a,r=>by cases r;exact .nil
 | z::ss,a,r=>by
  cases r with
  | cons h t=>
   obtain⟨k,rfl⟩:=h
   exact .cons _ _ (zL t)
end
section
variable {X:Cx}
def zaY:qd4 X (binaryOp .Add) (λx y H Q=> ∃a b ys,x= .ref a/\y= .ref b/\qdS X.K H a []/\qdS X.K H b ys/\Q (.ref b) H):=by
 intro o s U H x y v u Q I z F h
 obtain⟨a,b,ys,rfl,rfl,C,r,q⟩:=h
 cases z
 cases F
 obtain⟨A,p,G,_⟩:=I.tuple C
 obtain⟨c,J,D,_⟩:=I.tuple r
 cases p
 obtain⟨⟨w,dd,k,sl⟩,l,t,n,E⟩:=id G
 obtain⟨⟨m,f,j,g⟩,d,e,B,i⟩:=id D
 subst t E e i
 exact concat_meets ⟨_,l,rfl⟩ ⟨_,d,rfl⟩ noFill_tuple_add seq_tuple_add PySem.F.slot_tuple_add PySem.F.entry_tuple_add (PySem.F.args_tuple_add_2 _ _)
  (tuple_addW0 a b _ c.toArray n B dd f sl g (by simp)) ⟨l,d,.ref b,H,I,rfl,q⟩
def jap (n:X.calm=k9):Jm X (.builtin "sum") (fun xs H Q=> ∃p,∃ns:List Int,xs= [.ref p]/\SqL X.K H p (ns.map V.int)/\Q (.int (zaP ns)) H):=by
 intro g s U H xs J Q I r h
 obtain⟨p,ns,rfl,B,q⟩:=h
 obtain⟨u,rfl,z⟩:=qK r
 cases z
 obtain⟨k,rv,pl,G⟩:=I.list B
 have a:=rv.length
 rw [Aa]at a
 refine call_sum_walkG (wpAny_pyIter_list pl.isList ?_)
 have d:p<s.heap.objs.size:=by
  obtain⟨o,m,_⟩:=pl.isList
  exact Ab5 m
 have f:s.heap.objs.size<(s.heap.push { cls:= .type "list_iterator",data:= .fields #[.ref p,.int 0 0] }).objs.size:=Heap.lt_size (Heap.get?_push_size _ rfl)
 refine⟨s.heap.objs.size,_,_,_,_,_,λi=>ns.getD i 0,rfl,Walks.list (A:=X.A.in1) (I.ok.hd n) _ p (Ac3 d) k.toArray,⟨⟨_,Ab8 _ rfl,rfl,rfl⟩,pl.isList.at λo e=>Aa2 _ e⟩,λb c=> ?_,λi v w=> ?_,λC y l E=> ?_⟩
 ·simp only [Ab7,Ac0,or_false]at c
  rcases c with rfl | rfl
  ·exact f
  ·exact Nat.lt_trans d f
 ·obtain⟨x,j,D⟩:=rv.getI (by simpa using w)
  rw [Ad1]at j
  cases c:ns[i]? with
  | none=>rw [c]at j;cases j
  | some b=>
   rw [c]at j
   cases j
   obtain⟨t,rfl⟩:=D
   exact⟨t,by show Value.int b t=Value.int (ns.getD i 0) t;rw [Ac1,c];rfl⟩
 ·have F:Inv X g U H { s with heap:=C,toks:=y }:=I.kept λb o e=>E b o (by simp;exact Ac3 (Ab5 e)) (Aa2 _ e)
  refine⟨.int (zaP ns),H,F,⟨l,?_⟩,q⟩
  rw [Ab,←a,zB ns _ (Aa5 _),Ap2]
theorem Zp: ∀ {ns}{a},Vals (ns.map V.int) a-> ∃ps:List (Int×Tok),a=ps.map (λp=> .int p.1 p.2)/\ps.map (·.1)=ns
 | [],a,r=>by cases r;exact⟨[],rfl,rfl⟩
 | n::ns,a,r=>by
  cases r with
  | cons h t=>
   obtain⟨k,rfl⟩:=h
   obtain⟨ps,c,b⟩:=Zp t
   exact⟨(n,k)::ps,by rw [c];rfl,by rw [← b];rfl⟩
def jw (f:Int->Int->Bool):List Int->Int->Int
 | [],a=>a
 | b::r,a=>jw f r (if f b a then b else a)
theorem QO (f): ∀ l b a,jw f (l++ [b]) a=if f b (jw f l a)then b else jw f l a
 | [],b,a=>rfl
 | c::l,b,a=>by
  show jw f (l++ [b]) _=_
  rw [QO f l b]
  rfl
theorem X1 (f) (val:Nat->Int): ∀n,val (argBest (λi j=>f (val i) (val j)) n)=jw f ((Aa0 n).map λi=>val (i+1)) (val 0)
 | 0=>rfl
 | n+1=>by
  have a:=X1 f val n
  rw [List.range_succ,Ac6,Aa9,Ad0,QO,←a,argBest]
  by_cases q:f (val (n+1)) (val (argBest (λi j=>f (val i) (val j)) n))=k9
  ·simp only [q,if_true]
  ·simp only [q,if_false,Ae2]
def zaO {c:List (Int×Tok)}(e:c.map (·.1)=n::ns) (f)
 (h:(intItems c.toArray)[argBest (λi j=>f (numAt c.toArray i) (numAt c.toArray j)) (c.toArray.size-1)]? =y0 v): ∃t,v= .int (jw f ns n) t:=by
 obtain⟨t,rfl⟩:=intItems_at h
 refine⟨t,?_⟩
 rw [X1 f (numAt c.toArray)]
 have k:=by
  have:=congrArg List.length e
  simpa using this
 have d: ∀i,numAt c.toArray i=(n::ns).getD i 0:=λi=>by
  rw [← e,Ac1,Ad1]
  unfold numAt
  rw [List.getElem?_toArray]
  all_goals (cases c[i]? )
 have g:(Aa0 (c.toArray.size-1)).map (λi=>numAt c.toArray (i+1))=ns:=by
  rw [Ab,k,Nat.add_sub_cancel]
  apply Am8
  ·simp
  ·intro i a b
   simp only [Aj,Aj2,d]
   rw [Ac1,List.getElem?_cons_succ,Aa4 b]
   rfl
 rw [g,d 0]
 rfl
def qag (g:X.calm=k9):Jm X (.builtin "max") (fun xs H Q=> ∃p n,∃ns:List Int,xs= [.ref p]/\SqL X.K H p ((n::ns).map V.int)/\Q (.int (jw (fun a b=>decide (a>b)) ns n)) H):=by
 intro d s U H xs y Q I r h
 obtain⟨p,n,ns,rfl,k,q⟩:=h
 obtain⟨u,rfl,j⟩:=qK r
 cases j
 obtain⟨l,rv,pl,x⟩:=I.list k
 obtain⟨c,rfl,f⟩:=Zp rv
 have m:s.heap.IsList p (intItems c.toArray):=by
  have e:intItems c.toArray=(c.map λp=>Value.int p.1 p.2).toArray:=by simp [intItems]
  rw [e]
  exact pl.isList
 refine max_intList (I.ok.hd g) m (by have:=congrArg List.length f;simp at this ⊢;omega) λv A z i w=> ?_
 obtain⟨t,rfl⟩:=zaO f (λa b=>v9 (a>b)) i
 exact⟨.int _,H,I.kept λb o e=>w b o e,⟨t,rfl⟩,q⟩
def xaG (g:X.calm=k9):Jm X (.builtin "min") (fun xs H Q=> ∃p n,∃ns:List Int,xs= [.ref p]/\SqL X.K H p ((n::ns).map V.int)/\Q (.int (jw (fun a b=>decide (a<b)) ns n)) H):=by
 intro d s U H xs y Q I r h
 obtain⟨p,n,ns,rfl,k,q⟩:=h
 obtain⟨u,rfl,j⟩:=qK r
 cases j
 obtain⟨l,rv,pl,x⟩:=I.list k
 obtain⟨c,rfl,f⟩:=Zp rv
 have m:s.heap.IsList p (intItems c.toArray):=by
  have e:intItems c.toArray=(c.map λp=>Value.int p.1 p.2).toArray:=by simp [intItems]
  rw [e]
  exact pl.isList
 refine min_intList (I.ok.hd g) m (by have:=congrArg List.length f;simp at this ⊢;omega) λv A z i w=> ?_
 obtain⟨t,rfl⟩:=zaO f (λa b=>v9 (a<b)) i
 exact⟨.int _,H,I.kept λb o e=>w b o e,⟨t,rfl⟩,q⟩
end
open PySem PySem.Spec PyProof.Rows PySem.MeetsSeq
section
variable {X:Cx}
def jas {e:Nat->Bool}(m:IsTup s.heap a y8)
 (p: ∀i y,y8[i]? =y0 y->PySem.SeqAt.EqAt A.in1 s y x (e i)) (u:j<y8.size) (g:e j=k9) (l: ∀i,i<j->e i=y9) (h: ∀t',Q (.int (j:Int) t') { s with toks:=s.toks+1 }):
 wpAny (model prog w) A (call (.builtin "tuple.index") [.ref a,x]) Q E s:=by
 refine wpAny_call_entry F.slot_tuple_index m.typeIs F.entry_tuple_index ?_ (F.args_tuple_index_2 _ _)
 refine wpAny_bind (wpAny_of_eq (show PySem.selfAndSome "tuple.index" "index" 1 3 ⟨[.ref a,x],[]⟩=pure (Value.ref a,[x])from rfl) ?_)
 refine wpAny_bind (tupleItemsOf_ m ?_)
 refine wpAny_bind (wpAny_pure (wpAny_bind (wpAny_pure (wpAny_bind ?_))))
 rw [Nat.min_self,Std.Legacy.Range.forIn_eq_forIn_range']
 refine wpAny_forIn_list _ (λrest b k=>k=s/\b=(u0,())/\ ∃i,i<=j/\rest=List.range' i (y8.size-i)) _ ?_ ?_ _ _ ⟨rfl,rfl,0,Ah2 _,by simp⟩
 ·rintro i rest b k ⟨rfl,rfl,c,o,d⟩
  have f:y8.size-c=(y8.size-(c+1))+1:=by omega
  rw [f,List.range'_succ]at d
  injection d with t r
  subst t
  have n:i<y8.size:=by omega
  rw [Array.getElem?_eq_getElem n]
  refine wpAny_bind (p i y8[i] (Array.getElem?_eq_getElem n) prog w _ _ ?_)
  by_cases q:i=j
  ·subst q
   rw [g,if_pos rfl]
   refine wpAny_bind (wpAny_bind (wpAny_mkInt ?_))
   exact wpAny_pure (wpAny_pure (wpAny_pure ⟨_,rfl,h _⟩))
  ·rw [l i (by omega),if_neg Ab6]
   exact wpAny_pure ⟨rfl,rfl,i+1,by omega,r⟩
 ·rintro b k ⟨rfl,rfl,c,o,d⟩
  have f:y8.size-c=(y8.size-(c+1))+1:=by omega
  rw [f,List.range'_succ]at d
  cases d
abbrev xdF:=V->Hp->Prop
noncomputable def zc2 (X:Cx) (T:String) (ty:xdF):Prop:= ∀(k8:List (Addr×Obj)) (s:Shared) (U:St) (H:Hp) (x:V) (v:Value),Inv X k8 U H s->RelV x v->ty x H->s.TypeIs v T/\ ∀a,v= .ref a-> ∃ob,s.heap.get? a=y0 ob/\ob.dict=u0
def qdq (ty:xdF) (r:V->List V->Hp->VK->Prop) (a:TE) (t:TA):TE:=λU H Q=>a U H λx H1=>ty x H1/\t U H1 λxs H2=>r x xs H2 Q
def jbu {T i:String}(q:PlainAttrs T) (g:Slot T name i) (j:typeOf (.builtin i)=pure (.type "method_descriptor")) (C:zc2 X T ty) (E:zdF X i r) (y:PE X o to) (D:PA X (e::es) t)
 (d:attributeBase o name X.env (eval o X.env)=eval o X.env)
 (f:((backTo y7 (starEach (e::es) X.env)).all (λx=> !x.1)&&(backToKw y7 (keywordEach [] X.env)).all (λx=>x.1.isSome)
   &&v9 ((e::es).length+([]:List Keyword).length+(if ([]:List Keyword).isEmpty then 0 else 1)<30))=k9)
 (c:(apos.endLine==y7.line)=k9) (z:starEach (e::es) X.env=(y9,eval e X.env)::starEach es X.env) (b:(backTo y7 (starEach es X.env)).any (·.1)=y9):
 PE X (.Call (.Attribute o name apos) (e::es) [] y7) (qdq ty r to t):=by
 intro a s U H Q I h
 refine wpAny_Call_method_late d f c rfl (jdF (y a s U H _ I h) ?_)
 rintro v m ⟨x,k,n,l,B,u⟩
 obtain⟨J,G⟩:=C a m U k x v n l B
 refine⟨T,i,q,g,j,J,G,?_⟩
 have hA:=D y7 a m U k _ n u
 rw [z]at hA ⊢
 refine Calls.callWith_builtin (by show(y9||(backTo y7 (starEach es X.env)).any (·.1))=y9;rw [b]<;>rfl) (Calls.evalArgs_plain ?_)
 exact jdF hA λA w ⟨p,F,M,L,K⟩=>E a w U F x p v A Q M l L K
noncomputable def zd0 (K:PySem.W.Frag) (H:Hp) (a:Addr):Prop:=(∃ xs,H a=some (.tup xs))\/ ∃o,K.lookup a=some o/\o.cls= .type "tuple" /\o.dict=none
def zci:zc2 X "tuple" (fun x H=> ∃a,x= .ref a/\zd0 X.K H a):=by
 intro f s U H x v I r h
 obtain⟨a,rfl,h⟩:=h
 cases r
 rcases h with⟨m,h⟩ | ⟨o,g,i,k⟩
 ·obtain⟨_,j,_,o,e,c,d,n,l⟩:=I.hok a _ h
  refine⟨⟨o,e,c⟩,λb z=> ?_⟩
  cases z
  exact⟨o,e,d⟩
 ·refine⟨⟨o,I.kIn a o g,i⟩,λb z=> ?_⟩
  cases z
  exact⟨o,I.kIn _ o g,k⟩
def xbD:zc2 X "list" (fun x H=> ∃a xs,x= .ref a/\SqL X.K H a xs):=by
 intro d s U H x v I r h
 obtain⟨a,xs,rfl,h⟩:=h
 cases r
 obtain⟨f,_,pl,_⟩:=I.list h
 refine⟨pl.isList.typeIs,λb e=> ?_⟩
 cases e
 obtain⟨o,n,e,c,g,_⟩:=pl
 exact⟨o,e,g⟩
def jcb (x:Str):List Str->Option Nat
 | []=>u0
 | y::ys=>if y=x then y0 0 else(jcb x ys).map (· +1)
theorem zad : ∀ {ss}{j},jcb x ss=y0 j->j<ss.length/\ss[j]? =y0 x/\ ∀i,i<j-> ∀y,ss[i]? =y0 y->y≠x
 | [],_,h=>by cases h
 | y::g,j,h=>by
  unfold jcb at h
  split at h
  ·rename_i q
   cases h
   exact⟨Nat.zero_lt_succ _,by simp [q],λi b=>absurd b (Aj5 _)⟩
  ·rename_i q
   obtain⟨k,e,rfl⟩:=Ah0.mp h
   obtain⟨d,c,f⟩:=zad e
   refine⟨Nat.succ_lt_succ d,by simpa using c,λi b z a=> ?_⟩
   cases i with
   | zero=>simp at a;rw [← a];exact q
   | succ i=>exact f i (by omega) z (by simpa using a)
noncomputable def qcE (K:Aa6):V->List V->Hp->VK->Prop:=λx b H Q=> ∃a z j,∃ss:List Str,x= .ref a/\b= [.str z]/\qdS K H a (ss.map V.str)/\jcb z ss=y0 j/\Q (.int (j:Nat)) H
def zbj:zdF X "tuple.index" (qcE X.K):=by
 intro C s U H x O v R Q I G rv h
 obtain⟨a,z,j,k,rfl,rfl,J,M,q⟩:=h
 cases G
 obtain⟨u,rfl,F⟩:=rv.one
 obtain⟨t,rfl⟩:=F
 obtain⟨m,r,p,P⟩:=I.tuple J
 obtain⟨L,K,N⟩:=zad M
 have d:=r.length
 rw [Aa]at d
 have look: ∀(i:Nat) y,m.toArray[i]? =y0 y-> ∃w f,k[i]? =y0 w/\y=Value.str w f:=λi y l=>by
  obtain⟨S,g,n⟩:=r.getI (by simpa using l)
  rw [Ad1]at g
  cases B:k[i]? with
  | none=>rw [B]at g;cases g
  | some b=>
   rw [B]at g
   cases g
   obtain⟨f,rfl⟩:=n
   exact⟨b,f,rfl,rfl⟩
 refine jas (e:=λi=>v9 (k[i]? =y0 z)) p (λi y l=> ?_) (by rw [Ab,←d];exact L) (decide_eq_true K) (λi E=> ?_) λf=>⟨.int j,H,I.kept λb o e=>e,⟨f,rfl⟩,q⟩
 ·obtain⟨w,f,e,rfl⟩:=look i y l
  have:=PySem.SeqAt.EqAt.str_str (A:=X.A.in1) (s:=s) w f z t
  have n:v9 (k[i]? =y0 z)=(w==z):=by
   rw [e]
   by_cases q:w=z
   ·subst q;simp
   ·simp [q]
  rw [n]
  exact this
 ·have D:=by omega
  exact decide_eq_false λc=>N i E z c rfl
noncomputable def jcx (K:Aa6):V->List V->Hp->VK->Prop:=λx c H Q=> ∃a n,∃b:List Int,x= .ref a/\c= [.int n]/\SqL K H a (b.map V.int)/\Q (.int ((b.count n:Nat):Int)) H
def xbk:zdF X "list.count" (jcx X.K):=by
 intro g s U H x E v K Q I w rv h
 obtain⟨a,n,B,rfl,rfl,z,q⟩:=h
 cases w
 obtain⟨u,rfl,l⟩:=rv.one
 obtain⟨t,rfl⟩:=l
 obtain⟨A,r,pl,G⟩:=I.list z
 obtain⟨J,rfl,D⟩:=Zp r
 obtain⟨⟨m,dd,c,sl⟩,d,j,k,C⟩:=id pl.isList
 subst j C
 refine call_meets F.slot_list_count ⟨_,d,rfl⟩ F.entry_list_count (F.args_list_count_2 _ _) (PySem.SeqAt.list_countAt a _ k dd sl (.int n t) (λy=>match y with | .int i _=>i==n | _=>y9)) ⟨d,λy f=> ?_,?_⟩
 ·simp only [List.mem_toArray,Ab9]at f
  obtain⟨p,_,rfl⟩:=f
  exact PySem.SeqAt.EqAt.int_int p.1 p.2 n t
 ·refine⟨.int ((B.count n:Nat)),H,I.kept λb o e=>e,⟨s.toks,?_⟩,q⟩
  rw [← D,List.count_eq_countP,An4]
  simp only [An4]
  rfl
end
section
variable {prog:Program}{w:World}{A:Around}{E:Value->Shared->Prop}{s:Shared}
def nextOf_tup_item (a:s.heap.IsTupleIter it t i) (g:s.heap.IsTuple t y8) (f:y8[i]? =y0 x)
 (j: ∀h',h'.IsTupleIter it t (i+1)->Ai1 it s.heap h'->Q x { s with heap:=h' }):wpAny (model prog w) A (Builtin.SmallTypes.nextOf (.ref it)) Q E s:=by
 obtain⟨o,c,h,b⟩:=id a
 obtain⟨l,d,_,k,e⟩:=g
 refine wpAny_bind (wpAny_callSpecial?_slot a.typeIs F.slot_tuple_iterator_next
  (wpAny_call_entry F.slot_tuple_iterator_next a.typeIs F.entry_tuple_iterator_next ?_ (F.args_tuple_iterator_next_1 _)))
 show wpAny _ _ (field (.ref it) 0 >>= _) _ _ s
 refine wpAny_bind (wpAny_field c b rfl ?_)
 show wpAny _ _ (if (Value.ref t==Value.none)=k9 then _ else _) _ _ s
 refine wpAny_bind (wpAny_field c b rfl ?_)
 refine wpAny_bind (wpAny_seqItems d e ?_)
 simp only [Af6,f]
 refine wpAny_bind (wpAny_setField c b (by simp) (wpAny_pure ⟨x,rfl,wpAny_pure (j _ ?_ (Ai1.update ..))⟩))
 exact⟨_,Ai0 _ c (Obj.isFreed_of_fields (Obj.data_mapFields b _)),(Obj.cls_mapFields ..).trans h,by
  rw [Obj.data_mapFields b];simp [rawInt]⟩
def nextOf_tup_end (g:A.handled=u0) (a:s.heap.IsTupleIter it t i) (k:s.heap.IsTuple t y8) (h:y8[i]? =u0)
 (j: ∀h' e,Heap.ExtBut it s.heap h'->(∃ o,h'.get? e=y0 o/\o.cls= .type "StopIteration")->E (.ref e) { s with heap:=h' }):wpAny (model prog w) A (Builtin.SmallTypes.nextOf (.ref it)) Q E s:=by
 obtain⟨o,d,m,c⟩:=id a
 obtain⟨n,b,_,l,f⟩:=k
 refine wpAny_bind (wpAny_callSpecial?_slot a.typeIs F.slot_tuple_iterator_next
  (wpAny_call_entry F.slot_tuple_iterator_next a.typeIs F.entry_tuple_iterator_next ?_ (F.args_tuple_iterator_next_1 _)))
 show wpAny _ _ (field (.ref it) 0 >>= _) _ _ s
 refine wpAny_bind (wpAny_field d c rfl ?_)
 refine wpAny_bind (wpAny_field d c rfl ?_)
 refine wpAny_bind (wpAny_seqItems b f ?_)
 simp only [Af6,h]
 refine wpAny_bind (wpAny_rule (wpAny_bind (wpAny_setField d c (by simp) ?_)))
 refine wpAny_bind ?_
 refine wpAny_bind (wpAny_newObj_type ?_ (by size_fits))
 refine wpAny_bind (wpAny_of_eq (by first | rfl | (simp only [firstArgMember])) ?_)
 refine wpAny_newObj_type ?_ (by size_fits)
 refine wpAny_bind (wpAny_handled ?_)
 first | rw [show A.in1.handled=u0 from g] | rw [g]
 refine wpAny_bind (wpAny_pure (wpAny_throw ?_))
 exact j _ _ (((Ai1.update ..).extBut.push _).push _) ⟨_,Ab8 _ rfl,rfl⟩
def wO (m:A.handled=u0) (it t) (y8) (b:t≠it):Draws prog w A it [it,t] y8.size (λi x=>y8[i]? =y0 x) (λi h=>h.IsTupleIter it t i/\h.IsTuple t y8) where
 live:=λi h a=>let ⟨o,e,_⟩:=a.1; ⟨o,e⟩
 frame:=λi h g a k=>⟨let ⟨o,e,r⟩:=a.1; ⟨o,k it (by simp) o e,r⟩,let ⟨o,e,r⟩:=a.2; ⟨o,k t (by simp) o e,r⟩⟩
 item:=λi s Q E d a l=>nextOf_tup_item a.1 a.2 (x:=y8[i]) (by simp [d]) λg c f=>l _ g s.toks (by simp [d]) ⟨c,a.2.extBut f.extBut b⟩ f
 done:=λs Q E a j=>nextOf_tup_end m a.1 a.2 (by simp) j
open PySem.AutoSeq1 (wpAny_loadPart') in
theorem zr (l:Addr) (a:Array Value) (n:Nat) (e:Option Addr) (sl:Array (Option Value)):
 Meets (Builtin.«enumerate.__new__» ⟨[.type "enumerate",.ref l],[]⟩) (fun _ R s=>s.heap.get? l=some { cls:= .type "tuple",dict:=e,data:= .seq a n,slots:=sl } ∧
  R (.ok (.ret (.ref (s.heap.push { cls:= .type "tuple_iterator",data:= .fields #[.ref l,.int 0 0] }).objs.size)))
   { s with heap:=(s.heap.push { cls:= .type "tuple_iterator",data:= .fields #[.ref l,.int 0 0] }).push { cls:= .type "enumerate",data:= .fields #[.none,.bool false,.ref s.heap.objs.size,rawInt 0,.none,.none] } }):=
 .of_wp λprog w A R s h=>by
  obtain⟨j,g,d,k,m⟩:=s;obtain⟨b,h⟩:=h
  have i:=sub_enumerate
  have f:Heap.IsTuple (Shared.heap ⟨j,g,d,k,m⟩) l a:=⟨_,b,rfl,n,rfl⟩
  wp_walk using wpAny_loadPart' b
  refine wpAny_stack_any λo=>wpAny_pure ?_
  split
  ·rename_i c _ _ _ _ _
   cases (c==Value.type "enumerate")
   ·wp_walk using wpAny_loadPart' b,wpAny_pyIter_tuple f
    exact⟨_,rfl,h⟩
   ·wp_walk using wpAny_loadPart' b,wpAny_pyIter_tuple f
    exact⟨_,rfl,h⟩
  ·wp_walk using wpAny_loadPart' b,wpAny_pyIter_tuple f
   exact⟨_,rfl,h⟩
def Wu (f:s.heap.IsTuple l y8)
 (h: ∀h',IsEnum h' (s.heap.objs.size+1) s.heap.objs.size 0 .none->h'.IsTupleIter s.heap.objs.size l 0->h'.objs.size=s.heap.objs.size+2 →
   (∀ b o,s.heap.get? b=y0 o->h'.get? b=y0 o)->Q (.ref (s.heap.objs.size+1)) { s with heap:=h' }):
 wpAny (model prog w) A (call (.type "enumerate") [.ref l]) Q E s:=by
 obtain⟨⟨c,a,k,sl⟩,g,j,n,i⟩:=f
 subst j i
 refine callType_new F.called_enumerate (by decide) (F.typeCall_enumerate_1 _) (F.newCall_enumerate_1 _) (λobj=>F.args_object_init_2 obj _) F.entry_enumerate_new
  (zr l y8 n a sl) ⟨g,?_⟩
 have d:(s.heap.push { cls:= .type "tuple_iterator",data:= .fields #[.ref l,.int 0 0] }).objs.size=s.heap.objs.size+1:=Heap.size_push ..
 rw [d]
 have e:IsEnum ((s.heap.push { cls:= .type "tuple_iterator",data:= .fields #[.ref l,.int 0 0] }).push
  { cls:= .type "enumerate",data:= .fields #[.none,.bool false,.ref s.heap.objs.size,rawInt 0,.none,.none] }) (s.heap.objs.size+1) s.heap.objs.size 0 .none:=by
  have:=Heap.get?_push_size (s.heap.push { cls:= .type "tuple_iterator",data:= .fields #[.ref l,.int 0 0] })
   (o:= { cls:= .type "enumerate",data:= .fields #[.none,.bool false,.ref s.heap.objs.size,rawInt 0,.none,.none] }) rfl
  rw [d]at this;exact this
 refine⟨⟨_,e,rfl⟩,h _ e ⟨_,Aa2 _ (Ab8 _ rfl),rfl,rfl⟩ (by rw [Ag3,d]) λb o x=>Aa2 _ (Aa2 _ x)⟩
end
section
variable {X:Cx}{k8:List (Addr×Obj)}{U:St}{H:Hp}{s:Shared}{h':Heap}
def Inv.turned2 (I:Inv X k8 U H s) (k: ∀b o,b≠e->b≠it->s.heap.get? b=y0 o->h'.get? b=y0 o) (D:H it=u0) (g:H e=u0) (t:it≠X.env.locals) (f:e≠X.env.locals)
 (h1:it∈X.ex\/X.s₀.heap.objs.size<=it) (h:e∈X.ex\/X.s₀.heap.objs.size<=e) (h2: ∀x c,X.env.cells.lookup x=y0 c->c≠it) (l: ∀x c,X.env.cells.lookup x=y0 c->c≠e) (F: ∀p∈X.pn++k8,p.1≠it) (i: ∀p∈X.pn++k8,p.1≠e):Inv X k8 U H { s with heap:=h',toks:=t' }:=by
 have d: ∀b u,H b=y0 u->b≠e/\b≠it:=λb u q=>⟨λz=>(by rw [z,g]at q;cases q),λz=>(by rw [z,D]at q;cases q)⟩
 have j: ∀b o,b∉ [e,it]->s.heap.get? b=y0 o->h'.get? b=y0 o:=λb o a q=>k b o (λz=>a (by simp [z])) (λz=>a (by simp [z])) q
 refine I.step (λb A=> ?_) (λb o _ _ a e _=>j b o a e) (λb o _ _ a e _=>⟨o.slots,j b o a e⟩) (λ_ _ _ _ n=>n)
  (λb o a e=>⟨o,j b o a e⟩) (λ_ _ e=>e) (λ_ _ _ e=>e) (λb G e=>⟨#[],by rw [e];simp⟩) (λm E=> ?_) (λb u q=> ?_) I.bare
 ·rcases Ab7.mp A with z | z
  ·rw [z];exact⟨h,f,l,i⟩
  ·rw [Ad9.mp z];exact⟨h1,t,h2,F⟩
 ·obtain⟨o,B,C,w,r⟩:=E
  exact⟨o,B,C,k _ o (Ne.symm f) (Ne.symm t) w,r⟩
 ·refine(I.hok b u q).stay (λc v a y=>k c v ?_ ?_ y) (λ_ q=>q) λ_ _ q=>q
  ·rcases a with z | z
   ·rw [z];exact(d b u q).1
   ·exact(d c _ z).1
  ·rcases a with z | z
   ·rw [z];exact(d b u q).2
   ·exact(d c _ z).2
end
noncomputable def qd7 (K:Aa6) (a:Addr):It:=
 ⟨λi H=> ∃xs x,qdS K H a xs/\xs[i]? =y0 x,λi H x H'=> ∃p y,H p=u0/\x= .ref p/\H'=jd7 H p (.tup [.int (i:Int),y])/\ ∀xs,qdS K H a xs->xs[i]? =y0 y,λi H=> ∃xs,qdS K H a xs/\xs.length=i⟩
def jaF {K:Aa6}(a it e) (n:e≠it):xa5 P w K (.Tuple elts x1 tp) (qd7 K a) [e,it] e (λi h=>(∃ f,IsEnum h e it (i:Int) f)/\h.IsTupleIter it a i) where
 mem:=by simp
 obj:=λi h l b G=>by
  obtain⟨⟨f,q⟩,⟨o,q2,c,d⟩⟩:=l
  rcases Ab7.mp G with z | z
  ·subst z
   exact⟨_,q,λv z=>by cases z⟩
  ·rw [Ad9.mp z]
   exact⟨o,q2,λv z=>by rw [d]at z;cases z⟩
 keep:=λi h h' l k=>⟨let ⟨f,q⟩:=l.1; ⟨f,k e (by simp) _ q⟩,let ⟨o,q,r⟩:=l.2; ⟨o,k it (by simp) o q,r⟩⟩
 item:=by
  intro X hP T hK hc i m s U H E I M l Z
  subst hP T hK
  obtain⟨⟨f,B⟩,g⟩:=l
  obtain⟨xs,x,N,W⟩:=Z
  obtain⟨j,rv,p,hz⟩:=I.tuple N
  obtain⟨u,hu,ru⟩:=rv.get W
  have C:=p
  have A:a≠it:=λz=>by
   obtain⟨o,q,c,_⟩:=C
   obtain⟨o',q',J,_⟩:=g
   rw [z,q']at q;cases q
   rw [c]at J;exact absurd J (by decide)
  have hae:a≠e:=λz=>by
   obtain⟨o,q,c,_⟩:=C
   rw [z,B]at q;cases q
   exact absurd (show Value.type "enumerate" =Value.type "tuple" from c) (by decide)
  obtain⟨f0,f1,f2,f3,f4,f5⟩:=M e (by simp)
  obtain⟨O,R,g2,S,g4,g5⟩:=M it (by simp)
  have Y:=by
   have:=Ac2.mp hu
   simpa using this.1
  have t:X.A.in1.handled=none:=I.ok.hd hc
  refine wpAny_pyNext_enum_itemD (wO t it a j.toArray A) B ⟨g,C⟩ Y n (by simp [n,Ne.symm hae]) λy h1 L D ho V hT hsz hk=> ?_
  have ey:y=u:=by
   rw [List.getElem?_toArray]at D
   rw [hu]at D;cases D;rfl
  subst ey
  refine⟨_,rfl,wpAny_letOwnedTupleGo_enum ho λh2 he2 Q=> ?_⟩
  have Q:=Q
  have hep:=Al9 (Ab5 B)
  have hn:=I.hok.fresh (Aa5 _)
  have I1:Inv X m U (jd7 H s.heap.objs.size (.tup [.int (i:Int),x])) { s with heap:=s.heap.push { cls:= .type "tuple",data:= .seq #[.int i L,y] },toks:=L+1 }:=by
   refine I.laid (λb o q=>Aa2 _ q) (Aa5 _) ⟨by simp only [Ab4,An2];rw [sizeLine_eq];decide,[.int i L,y],.cons ⟨_,rfl⟩ (.cons ru .nil),?_⟩
   exact⟨_,Ab8 s.heap rfl,rfl,rfl,_,rfl⟩
  have F:it<s.heap.objs.size:=by obtain⟨o,q,_⟩:=g;exact Ab5 q
  have ee:=Ab5 B
  have I2:=I1.turned2 (t':=L+1) (λb o b1 b2 q=>by
   refine(Q.2 b b1).trans ?_
   rcases Heap.get?_push_cases (show (s.heap.push { cls:= .type "tuple",data:= .seq #[.int i L,y] }).get? b=some o from q)with⟨z,z2⟩ | z
   ·rw [z,z2];exact hT
   ·exact hk b o b1 b2 z) (by rw [qa (Ac3 F)];exact O) (by rw [qa (Ac3 ee)];exact f0) R f1 S f3 g4 f4 g5 f5
  refine⟨.ref s.heap.objs.size,_,I2,rfl,⟨s.heap.objs.size,x,hn,rfl,rfl,λys D=>by rw [I.tuple_inj D N];exact W⟩,⟨⟨y,by simpa using he2⟩,?_⟩,λb G=> ?_⟩
  ·obtain⟨o,q,r⟩:=V.1
   exact⟨o,(Q.2 it (Ne.symm n)).trans q,r⟩
  ·rcases Ab7.mp G with z | z
   ·rw [z,qa (Ac3 ee)];exact f0
   ·rw [Ad9.mp z,qa (Ac3 F)];exact O
 done:=by
  intro X hP T hK hc i m s U H E I M l Z
  subst hP T hK
  obtain⟨⟨f,B⟩,g⟩:=l
  obtain⟨xs,N,W⟩:=Z
  obtain⟨j,rv,p,hz⟩:=I.tuple N
  have C:s.heap.IsTuple a j.toArray:=p
  have A:a≠it:=λz=>by
   obtain⟨o,q,c,_⟩:=C
   obtain⟨o',q',J,_⟩:=g
   rw [z,q']at q;cases q
   rw [c]at J;exact absurd J (by decide)
  obtain⟨O,R,g2,S,g4,g5⟩:=M it (by simp)
  have hl:=rv.length
  have t:X.A.in1.handled=none:=I.ok.hd hc
  have hi:i=j.toArray.size:=by simp;omega
  subst hi
  exact wpAny_pyNext_enum_endD (wO t it a j.toArray A) B ⟨g,C⟩ λh' eb=>⟨rfl,I.turned (λb o G q=>eb b o G q) O R S g4 g5⟩
 self:=λ_ _ _ _ _ l h=>wpAny_pyIter_enum l.1.choose_spec h
def zcW (K:Aa6) (b:TA):TI:=λU H R=>b U H λc H1=> ∃a xs,c= [.ref a]/\qdS K H1 a xs/\R (qd7 K a) H1
def zF:bootBuiltins "enumerate" =some (.type "enumerate"):=by decide +kernel
def zb4 (m:Gl X "enumerate") (A:X.mg "enumerate" =none) (y:PA X [a] ta) (t:starEach [a] X.env= [(false,eval a X.env)]:=by rfl):PI X (.Tuple elts x1 tp) (.Call (.Name "enumerate" p) [a] [] pos) (zcW X.K ta):=by
 intro f s U H R I h
 refine Call_ (Jx I m A zF (PyProof.Rows.callWith_type1 (jdF (y pos f s U H _ I h) λF g ⟨C,k,d,l,n⟩=> ?_) t rfl))
 obtain⟨b,D,e,v,q⟩:=n
 subst e
 cases l with
 | cons r u=>
  cases u
  cases r
  obtain⟨w,rv,pl,E⟩:=d.tuple v
  refine Wu (pl) λG j i x B=> ?_
  refine wpAny_pyIter_enum j ?_
  refine⟨g.heap.objs.size+1,[g.heap.objs.size+1,g.heap.objs.size],_,_,k,rfl,d.kept B,jaF b g.heap.objs.size (g.heap.objs.size+1) (Nat.succ_ne_self _),⟨⟨_,by simpa using j⟩,i⟩,λc o=> ?_,q⟩
  rcases Ab7.mp o with z | z
  ·rw [z];exact d.fpOk (Ah6 _) (d.hok.fresh (Ah6 _))
  ·rw [Ad9.mp z];exact d.fpOk (Aa5 _) (d.hok.fresh (Aa5 _))
section
variable {prog:Program}{w:World}{A:Around}{E:Value->Shared->Prop}{s:Shared}
def xc8:isSubtype (.type "tuple") (.type "set")=pure false:=by rw [isSubtype_type];kernel_rfl
def jcU:isSubtype (.type "tuple") (.type "frozenset")=pure false:=by rw [isSubtype_type];kernel_rfl
abbrev zaT (a:Bool):Obj:= { cls:= .type "set",dict:=none,data:= .set #[] 0 (.fresh 0 0 a) }
set_option maxHeartbeats 8000000 in
theorem XQ {b:Addr}{f:Array Value}{ns:List Int}{Q:Value->Shared->Prop}
 (hh:A.handled=u0) (ht:s.heap.IsTuple b f) (hi:IntsAre f.toList ns) (hb:f.size+1<scanBound)
 (q: ∀(h':Heap) (z:Nat),h'.SetOf (intKind prog w) s.heap.objs.size (λH=>(firstMet (λi=>ns.getD i 0) f.size).any (· ==H)) (firstMet (λi=>ns.getD i 0) f.size).length →
   (∀ c o,c<s.heap.objs.size->s.heap.get? c=y0 o->h'.get? c=y0 o)->Q (.ref s.heap.objs.size) { s with heap:=h',toks:=z }):
 wpAny (model prog w) A (call (.type "set") [.ref b]) Q E s:=by
 obtain⟨c,tl,P⟩:=F.called_set.mro
 have K:=F.called_set.made
 have U:=F.called_set.sub
 refine wpAny_call (codeAny_of_tree ?_)
 show wpAny _ _ (callAny (.type "set") _) _ _ _
 refine wpAny_pure ⟨Code.quiet_builtin _ (by decide +kernel),codeAny_builtin F.entry_type_call ?_⟩
 rw [Around.under_plain (weight_type_call_type "set" [.ref b] []) rfl]
 have h1:=F.called_set.notType
 have h2:=F.called_set.canCreate
 have hct:=F.typeCall_set_1 (.ref b)
 repeat (any_goals (first | assumption | wp_step))
 refine codeAny_mono (code_set_new_1 (.ref b) (E:=E) (Q₁:=λT h=> ∃a:Bool,T= .ref s.heap.objs.size/\h= { s with heap:=s.heap.push (zaT a) }) λa=>⟨a,rfl,rfl⟩) λr h N=> ?_
 cases r with
 | error e=>exact N
 | ok Y=>
  cases Y with
  | ret T=>
   obtain⟨a,rfl,rfl⟩:=N
   have X:(s.heap.push (zaT a)).get? s.heap.objs.size=y0 (zaT a):=Ab8 _ rfl
   have hT:Shared.TypeIs { s with heap:=s.heap.push (zaT a) } (.ref s.heap.objs.size) "set" :=⟨_,X,rfl⟩
   have hli:=F.called_set.init.lookup
   have hbi:=F.called_set.init.bind (.ref s.heap.objs.size)
   repeat (any_goals (first | assumption | wp_step))
   refine codeAny_mono (codeAny_call_builtin (R:=wants (λr g=>r= .none/\ ∃h' z,g= { s with heap:=h',toks:=z } ∧
    h'.SetOf (intKind prog w) s.heap.objs.size (λH=>(firstMet (λi=>ns.getD i 0) f.size).any (· ==H)) (firstMet (λi=>ns.getD i 0) f.size).length ∧
    (∀ c o,c<s.heap.objs.size->s.heap.get? c=y0 o->h'.get? c=y0 o)) E) F.called_set.init.plain F.entry_set_init (check_set_init_1 hT ?_)) λu g d=> ?_
   ·obtain⟨⟨c1,c2,c3,Z⟩,p,l,L,j⟩:=ht
    replace l:c1= .type "tuple" :=l
    replace j:c3= .seq f L:=j
    subst l;subst j
    have y:(s.heap.push (zaT a)).get? b=y0 { cls:= .type "tuple",dict:=c2,data:= .seq f L,slots:=Z }:=Heap.get?_push_of_some _ p
    have V:=xc8
    have W:=jcU
    have hne:(Value.type "tuple" ==Value.type "dict")=false:=by decide
    have n:(s.heap.push (zaT a)).IsTuple b f:=⟨_,y,rfl,L,rfl⟩
    unfold Builtin.«set.__init__» noKeywords Builtin.Frozenset.updateFrom
    generalize G:pyIter=PI
    wp_walk
    subst G
    refine wpAny_pyIter_tuple n (wpAny_bind (wpAny_runValue ?_))
    have t:b<s.heap.objs.size:=Ab5 p
    have O:A.in1.in1.in1.handled=none:=by simp [hh]
    have J:(s.heap.push (zaT a)).objs.size=s.heap.objs.size+1:=Ag3 ..
    have x:b≠(s.heap.push (zaT a)).objs.size:=by rw [J];exact Ac3 (Am3 t)
    have D:s.heap.objs.size∉ [(s.heap.push (zaT a)).objs.size,b]:=by
     rw [J];simp only [Ab7,Ac0,or_false,not_or];exact⟨Ac3 (Ag7 _),Al9 t⟩
    refine codeAny_set_update_loopS ((Walks.tuple O _ b x f).toS) s.heap.objs.size
     D (λi=>ns.getD i 0) (λi v hv=>IntsAre.int_at hi i v (by rw [Array.getElem?_toList];exact hv)) hb (f.size-0) 0 _ (by omega) (Ah2 _)
     ⟨⟨_,Ab8 _ rfl,rfl,rfl⟩,(n.push _)⟩ ?hS0 ?hR
    case hS0=>exact SetOf_congr ((setObjOf_fresh (knd:=intKind prog w) a).setOf (Aa2 _ X) (by unfold scanBound;omega)) (λ_=>rfl) rfl
    case hR=>
     intro s' B k
     obtain⟨h',g',d',C,M⟩:=s'
     have eg:g'=s.gens:=B.gens
     have ed:d'=s.drawn:=B.drawn
     have eo:M=s.os:=B.os
     subst eg;subst ed;subst eo
     show wpAny _ _ _ _ _ _
     refine wpAny_pure ?_
     show wpAny _ _ (ret Value.none) _ _ _
     refine wpAny_pure ⟨rfl,h',C,rfl,k,λc o S e=>B.heap c o ?_ (Aa2 _ (Aa2 _ e))⟩
     simp only [Ab7,Ac0,or_false,not_or]
     exact⟨Ac3 S,by
      show c≠(s.heap.push (zaT a)).objs.size
      rw [J];exact Ac3 (Am3 S)⟩
   ·cases u with
    | error e=>exact d
    | ok m=>
     cases m with
     | ret r=>
      obtain⟨rfl,h',z,rfl,k,I⟩:=d
      repeat (any_goals (first | assumption | wp_step))
      exact q _ _ k I
     | _=>exact d.elim
  | _=>exact N.elim
end
section
variable {X:Cx}
theorem wZ: ∀ {is}{a},Vals (is.map V.int) a->IntsAre a is
 | [],_,.nil=> .nil
 | i::is,_,.cons r b=>by
  obtain⟨t,rfl⟩:=r
  exact .cons _ _ (wZ b)
def xdJ (is:List Int):Nat:=(firstMet (λi=>is.getD i 0) is.length).length
def qaO:Jm X (.type "set") (fun xs H Q=> ∃p is,xs= [.ref p]/\X.calm=true/\is.length<1000/\qdS X.K H p (is.map V.int)/\ ∀l S,H l=none->Q (.ref l) (jd7 H l (.set S (xdJ is)))):=by
 intro d s U H xs t Q I r h
 obtain⟨p,is,rfl,i,x,k,q⟩:=h
 cases r with
 | cons r j=>
  cases j
  cases r
  obtain⟨c,rv,pl,n⟩:=I.tuple k
  have a:c.length=is.length:=by have:=rv.length;rw [Aa]at this;omega
  refine XQ (I.ok.hd i) pl (by simpa using wZ rv) (by rw [Ab,a];unfold scanBound;omega) λw v f m=> ?_
  have g:c.toArray.size=is.length:=by rw [Ab];exact a
  rw [g]at f
  have hn:=I.hok.fresh (Aa5 _)
  exact⟨.ref s.heap.objs.size,_,I.laid (o:= .set _ (xdJ is)) (λb u e=>m b u (Ab5 e) e) (Aa5 _) f,rfl,q _ _ hn⟩
def jar:Jm X (.builtin "len") (fun xs H Q=> ∃p S n,xs= [.ref p]/\H p=some (.set S n)/\n<1000/\Q (.int (n:Int)) H):=by
 intro b s U H xs l Q I r h
 obtain⟨p,S,n,rfl,d,hn,q⟩:=h
 cases r with
 | cons r f=>
  cases f
  cases r
  obtain⟨o,j,k,t,c,a,i,_,_,_,g,e⟩:s.heap.SetOf (intKind X.prog X.w) p S n:=I.hok p _ d
  subst e
  exact call_len_set c a i g (by omega) ⟨.int _,H,I.tok _,⟨_,rfl⟩,q⟩
end
def qD {b f:Option Int}(a:IsTup s.heap t vs) (g:s.heap.IsSliceOf sl vl vu .none) (pl:IsPart vl b) (k:IsPart vu f)
 (l:HT.sIx vs.size 0 b=0) (h1:HT.sIx vs.size vs.size f=vs.size) (h:Q (.ref t) s):wpAny (model prog w) A (getItem (.ref t) (.ref sl)) Q E s:=by
 obtain⟨j,d,e,i⟩:=id g
 have c:s.TypeIs (.ref sl) "slice" :=⟨j,d,e⟩
 unfold getItem
 try with_reducible refine wpAny_holding ?_
 refine wpAny_bind (wpAny_sequenceKey a.typeIs (by decide) (wpAny_bind (wpAny_callSpecial?_slot a.typeIs PyProof.Rows.slot_tuple_getitem
  (wpAny_call_entry PyProof.Rows.slot_tuple_getitem a.typeIs PyProof.Rows.entry_tuple_getitem ?_ (PyProof.Rows.args_tuple_getitem _ _)))))
 show wpAny _ _ (Builtin.Tuple.tupleItemsOf (.ref t) >>= _) _ _ s
 refine wpAny_bind (tupleItemsOf_ a (wpAny_bind (wpAny_typeOf c ?_)))
 refine wpAny_bind (HT.sliceApplied_gen g pl k ?_)
 show wpAny _ _ (if (((HT.sIx vs.size 0 b:Nat):Int)==0&& 1==1&&(HT.sIx vs.size vs.size f-HT.sIx vs.size 0 b)==vs.size)=k9 then _ else _) _ _ s
 rw [if_pos (by rw [l,h1];simp)]
 refine wpAny_bind (wpAny_bind (wpAny_typeOf a.typeIs (wpAny_pure ?_)))
 exact wpAny_bind (wpAny_rule (wpAny_pure ⟨_,rfl,wpAny_pure h⟩))
section
variable {X:Cx}
noncomputable def zcS (K:Aa6):V->Option Int->Option Int->Hp->VK->Prop:=λx lo hi H Q=> ∃a xs,x= .ref a/\qdS K H a xs/\HT.sIx xs.length 0 lo=0/\HT.sIx xs.length xs.length hi=xs.length/\Q (.ref a) H
def xcH:SlR X (zcS X.K):=by
 intro d s U H x v t u n p sl Q I i g pl l h
 obtain⟨a,f,rfl,j,m,k,q⟩:=h
 cases i
 obtain⟨c,r,e,o⟩:=I.tuple j
 have b:c.toArray.size=f.length:=by rw [Ab];exact r.length.symm
 refine⟨"tuple",_,PyProof.Rows.slot_tuple_getitem.lookup,e.typeIs,?_⟩
 exact qD e g pl l (by rw [b];exact m) (by rw [b];exact k) ⟨.ref a,H,I,rfl,q⟩
end
end L2
namespace PySem
open Sem (wp)
section
variable {prog:Program}{w:World}{A:Around}{E:Value->Shared->Prop}{s:Shared}
def XE {Q:Value->Shared->Prop}(D:ZipApart z TI TO i1 i2 l1 l2)
 (P:IsZip s.heap z TI TO .none) (hTI:IsPair s.heap TI (.ref i1) (.ref i2)) (hTO:IsPair s.heap TO a b)
 (h1:s.heap.IsListIter i1 l1 k1) (h2:s.heap.IsTupleIter i2 l2 k2) (Z:s.heap.IsList l1 xs) (hl2:s.heap.IsTuple l2 ys) (hx:xs[k1]? =y0 x) (hy:ys[k2]? =y0 y)
 (hQ: ∀h',IsZip h' z TI TO (rawInt s.heap.objs.size)->IsPair h' TO x y->h'.IsListIter i1 l1 (k1+1)->h'.IsTupleIter i2 l2 (k2+1)->IsPair h' s.heap.objs.size x y->h'.objs.size=s.heap.objs.size+1 →
   (∀ c o,c≠z->c≠TO->c≠i1->c≠i2->s.heap.get? c=y0 o->h'.get? c=y0 o)->Q (.ref s.heap.objs.size) { s with heap:=h' }):
 wpAny (model prog w) A (Builtin.«zip.__next__» ⟨[.ref z],[]⟩) (λfin s'=> ∃v,fin= .done (.ret v)/\Q v s') E s:=by
 show wpAny _ _ (field (.ref z) 2 >>= _) _ _ _
 refine wpAny_bind (wpAny_field P rfl (x:= .bool y9) rfl ?_)
 show wpAny _ _ (field (.ref z) 3 >>= _) _ _ _
 refine wpAny_bind (wpAny_field P rfl (x:= .ref TI) rfl ?_)
 refine wpAny_bind (wpAny_seqItems hTI rfl ?_)
 show wpAny _ _ (Builtin.SmallTypes.ownedTupleIsFree (.ref z) >>= _) _ _ _
 refine wpAny_bind ?_
 unfold Builtin.SmallTypes.ownedTupleIsFree
 refine wpAny_bind (wpAny_field P rfl (x:= .none) rfl (wpAny_pure ?_))
 simp only [if_true]
 refine wpAny_bind (wpAny_rule ?_)
 refine wpAny_bind (wpAny_field P rfl (x:= .ref TO) rfl ?_)
 refine wpAny_bind (wpAny_setField_rec P (by simp) λR p f=> ?_)
 replace p:IsZip R z TI TO .ellipsis:=p
 refine wpAny_bind ?_
 simp only [List.zipIdx_cons,List.zipIdx_nil,List.forIn_cons,List.forIn_nil]
 refine wpAny_bind (wpAny_bind (wpAny_onRaise ?_))
 show wpAny _ _ (Builtin.SmallTypes.nextOf (.ref i1) >>= _) _ _ _
 refine wpAny_bind (wpAny_nextOf_list_item (h1.extBut f.extBut D.i1z) (Z.extBut f.extBut D.l1z) hx λS N i=>wpAny_pure ?_)
 have B:IsPair S TO a b:=i.extBut _ _ D.TOi1 (f.extBut _ _ D.TOz hTO)
 refine wpAny_bind (wpAny_seqItems B rfl ?_)
 refine wpAny_bind (wpAny_updateSeq_pair B λO l h=> ?_)
 replace l:IsPair O TO x b:=l
 refine wpAny_bind (wpAny_letGo (wpAny_pure ?_))
 refine wpAny_bind (wpAny_bind (wpAny_onRaise ?_))
 show wpAny _ _ (Builtin.SmallTypes.nextOf (.ref i2) >>= _) _ _ _
 refine wpAny_bind (L2.nextOf_tup_item (((h2.extBut f.extBut D.i2z).extBut i.extBut D.i12.symm).extBut h.extBut D.TOi2.symm)
  (((hl2.extBut f.extBut D.l2z).extBut i.extBut D.l2i1).extBut h.extBut D.l2TO) hy λT K k=>wpAny_pure ?_)
 have u:IsPair T TO x b:=k.extBut _ _ D.TOi2 l
 refine wpAny_bind (wpAny_seqItems u rfl ?_)
 refine wpAny_bind (wpAny_updateSeq_pair u λd g j=> ?_)
 replace g:IsPair d TO x y:=g
 refine wpAny_bind (wpAny_letGo (wpAny_pure (wpAny_pure ?_)))
 refine wpAny_bind (wpAny_seqItems g rfl ?_)
 refine wpAny_bind (wpAny_newTuple ?_)
 have V:d.objs.size=s.heap.objs.size:=by rw [j.1,k.1,h.1,i.1,f.1]
 have F:IsZip d z TI TO .ellipsis:=j.extBut _ _ D.TOz.symm (k.extBut _ _ D.i2z.symm (h.extBut _ _ D.TOz.symm (i.extBut _ _ D.i1z.symm p)))
 have L: ∀c o,c≠z->c≠TO->c≠i1->c≠i2->s.heap.get? c=y0 o->d.get? c=y0 o:=λc o M Y c3 c4 e=>
  j.extBut _ _ Y (k.extBut _ _ c4 (h.extBut _ _ Y (i.extBut _ _ c3 (f.extBut _ _ M e))))
 have H:d.IsListIter i1 l1 (k1+1):=((N.extBut h.extBut D.TOi1.symm).extBut k.extBut D.i12).extBut j.extBut D.TOi1.symm
 have C:d.IsTupleIter i2 l2 (k2+1):=K.extBut j.extBut D.TOi2.symm
 have I:z<d.objs.size:=Ab5 F
 have hTOlt:TO<d.objs.size:=Ab5 g
 have hi1lt:i1<d.objs.size:=by obtain⟨_,e,_⟩:=H;exact Ab5 e
 have hi2lt:i2<d.objs.size:=by obtain⟨_,e,_⟩:=C;exact Ab5 e
 show wpAny _ _ (Builtin.SmallTypes.ownedTupleHandOut (.ref z) (.ref d.objs.size) >>= _) _ _ _
 refine wpAny_bind ?_
 unfold Builtin.SmallTypes.ownedTupleHandOut
 have J:IsZip (d.push { cls:= .type "tuple",data:= .seq #[x,y] }) z TI TO .ellipsis:=Heap.get?_push_of_some _ F
 refine wpAny_bind (wpAny_setField_rec J (by simp) λW r q=> ?_)
 replace r:IsZip W z TI TO (rawInt d.objs.size):=r
 refine wpAny_setField_rec r (by simp) λn m t=> ?_
 replace m:IsZip n z TI TO (rawInt d.objs.size):=m
 have X: ∀c o,c≠z->d.get? c=y0 o->n.get? c=y0 o:=λc o M e=>t.extBut _ _ M (q.extBut _ _ M (Aa2 _ e))
 have G:IsPair n d.objs.size x y:=t.extBut _ _ (Al9 I) (q.extBut _ _ (Al9 I) (Ab8 _ rfl))
 have U:n.objs.size=d.objs.size+1:=by rw [t.1,q.1,Ag3]
 rw [V]at m G U
 refine wpAny_pure ⟨_,rfl,?_⟩
 show Q (.ref d.objs.size) _
 rw [V]
 exact hQ n m (X _ _ D.TOz g) (H.at λo e=>X _ o D.i1z e) (C.at λo e=>X _ o D.i2z e) G U λc o M Y c3 c4 e=>X c o M (L c o M Y c3 c4 e)
def JL (T:A.handled=u0) (D:ZipApart z TI TO i1 i2 l1 l2)
 (B:IsZip s.heap z TI TO .none) (J:IsPair s.heap TI (.ref i1) (.ref i2)) (N:IsPair s.heap TO a b)
 (h1:s.heap.IsListIter i1 l1 k1) (h2:s.heap.IsTupleIter i2 l2 k2) (v:s.heap.IsList l1 xs) (K:s.heap.IsTuple l2 ys) (y:xs[k1]? =u0\/ys[k2]? =u0)
 (S: ∀h' e,(∀ c o,c≠z->c≠TO->c≠i1->c≠i2->s.heap.get? c=y0 o->h'.get? c=y0 o)->(∃ o,h'.get? e=y0 o/\o.cls= .type "StopIteration")->E (.ref e) { s with heap:=h' }):
 wpAny (model prog w) A (Builtin.«zip.__next__» ⟨[.ref z],[]⟩) Q E s:=by
 show wpAny _ _ (field (.ref z) 2 >>= _) _ _ _
 refine wpAny_bind (wpAny_field B rfl (x:= .bool y9) rfl ?_)
 show wpAny _ _ (field (.ref z) 3 >>= _) _ _ _
 refine wpAny_bind (wpAny_field B rfl (x:= .ref TI) rfl ?_)
 refine wpAny_bind (wpAny_seqItems J rfl ?_)
 show wpAny _ _ (Builtin.SmallTypes.ownedTupleIsFree (.ref z) >>= _) _ _ _
 refine wpAny_bind ?_
 unfold Builtin.SmallTypes.ownedTupleIsFree
 refine wpAny_bind (wpAny_field B rfl (x:= .none) rfl (wpAny_pure ?_))
 simp only [if_true]
 refine wpAny_bind (wpAny_rule ?_)
 refine wpAny_bind (wpAny_field B rfl (x:= .ref TO) rfl ?_)
 refine wpAny_bind (wpAny_setField_rec B (by simp) λF i d=> ?_)
 replace i:IsZip F z TI TO .ellipsis:=i
 refine wpAny_bind ?_
 simp only [List.zipIdx_cons,List.zipIdx_nil,List.forIn_cons,List.forIn_nil]
 refine wpAny_bind (wpAny_bind (wpAny_onRaise ?_))
 show wpAny _ _ (Builtin.SmallTypes.nextOf (.ref i1) >>= _) _ _ _
 cases M:xs[k1]? with
 | none=>
  refine wpAny_bind (wpAny_nextOf_list_end T (h1.extBut d.extBut D.i1z) (v.extBut d.extBut D.l1z) M λn e f O=> ?_)
  obtain⟨L,j,p⟩:=O
  have q:IsZip n z TI TO .ellipsis:=f _ _ D.i1z.symm i
  have u:e≠z:=λx=>by subst x;rw [q]at j;cases j;simp at p
  refine wpAny_setField_rec q (by simp) λt _ g=>S t e (λc o H _ P _ x=>g.extBut _ _ H (f _ _ P (d.extBut _ _ H x))) ⟨L,g.extBut _ _ u j,p⟩
 | some x=>
  have V:ys[k2]? =none:=by rcases y with h | h;rw [M]at h;cases h;exact h
  refine wpAny_bind (wpAny_nextOf_list_item (h1.extBut d.extBut D.i1z) (v.extBut d.extBut D.l1z) M λn R f=>wpAny_pure ?_)
  have k:IsPair n TO a b:=f.extBut _ _ D.TOi1 (d.extBut _ _ D.TOz N)
  refine wpAny_bind (wpAny_seqItems k rfl ?_)
  refine wpAny_bind (wpAny_updateSeq_pair k λt I g=> ?_)
  refine wpAny_bind (wpAny_letGo (wpAny_pure ?_))
  refine wpAny_bind (wpAny_bind (wpAny_onRaise ?_))
  show wpAny _ _ (Builtin.SmallTypes.nextOf (.ref i2) >>= _) _ _ _
  refine wpAny_bind (L2.nextOf_tup_end T (((h2.extBut d.extBut D.i2z).extBut f.extBut D.i12.symm).extBut g.extBut D.TOi2.symm)
   (((K.extBut d.extBut D.l2z).extBut f.extBut D.l2i1).extBut g.extBut D.l2TO) V λG e r O=> ?_)
  obtain⟨L,j,p⟩:=O
  have l:IsZip G z TI TO .ellipsis:=r _ _ D.i2z.symm (g.extBut _ _ D.TOz.symm (f.extBut _ _ D.i1z.symm i))
  have u:e≠z:=λx=>by subst x;rw [l]at j;cases j;simp at p
  refine wpAny_setField_rec l (by simp) λC _ m=>S C e (λc o H W P U x=>m.extBut _ _ H (r _ _ U (g.extBut _ _ W (f.extBut _ _ P (d.extBut _ _ H x))))) ⟨L,m.extBut _ _ u j,p⟩
def zn (D:ZipApart z TI TO i1 i2 l1 l2)
 (h:IsZip s.heap z TI TO .none) (e:IsPair s.heap TI (.ref i1) (.ref i2)) (g:IsPair s.heap TO a b)
 (h1:s.heap.IsListIter i1 l1 k1) (h2:s.heap.IsTupleIter i2 l2 k2) (d:s.heap.IsList l1 xs) (f:s.heap.IsTuple l2 ys) (m:xs[k1]? =y0 x) (l:ys[k2]? =y0 y)
 (k: ∀h',IsZip h' z TI TO (rawInt s.heap.objs.size)->IsPair h' TO x y->h'.IsListIter i1 l1 (k1+1)->h'.IsTupleIter i2 l2 (k2+1)->IsPair h' s.heap.objs.size x y->h'.objs.size=s.heap.objs.size+1 →
   (∀ c o,c≠z->c≠TO->c≠i1->c≠i2->s.heap.get? c=y0 o->h'.get? c=y0 o)->Q (y0 (.ref s.heap.objs.size)) { s with heap:=h' }):
 wpAny (model prog w) A (pyNext (.ref z)) Q E s:=by
 have i:s.TypeIs (.ref z) "zip" :=⟨_,h,rfl⟩
 exact wpAny_bind (wpAny_attempt (wpAny_callSpecial?_slot i F.slot_zip_next
  (wpAny_call_entry F.slot_zip_next i F.entry_zip_next
    (XE D h e g h1 h2 d f m l λh' j a2 a3 a4 a5 a6 a7=>wpAny_pure (k h' j a2 a3 a4 a5 a6 a7)) (F.args_zip_next_1 _))))
def wn (p:A.handled=u0) (D:ZipApart z TI TO i1 i2 l1 l2)
 (j:IsZip s.heap z TI TO .none) (g:IsPair s.heap TI (.ref i1) (.ref i2)) (i:IsPair s.heap TO a b)
 (h1:s.heap.IsListIter i1 l1 k1) (h2:s.heap.IsTupleIter i2 l2 k2) (f:s.heap.IsList l1 xs) (h:s.heap.IsTuple l2 ys) (d:xs[k1]? =u0\/ys[k2]? =u0)
 (n: ∀h',(∀ c o,c≠z->c≠TO->c≠i1->c≠i2->s.heap.get? c=y0 o->h'.get? c=y0 o)->Q u0 { s with heap:=h' }):wpAny (model prog w) A (pyNext (.ref z)) Q E s:=by
 have k:s.TypeIs (.ref z) "zip" :=⟨_,j,rfl⟩
 refine wpAny_bind (wpAny_attempt (wpAny_callSpecial?_slot k F.slot_zip_next
  (wpAny_call_entry F.slot_zip_next k F.entry_zip_next (JL p D j g i h1 h2 f h d λh' e r q=> ?_) (F.args_zip_next_1 _))))
 obtain⟨o,l,m⟩:=q
 refine wpAny_bind (wpAny_isInstance ⟨o,l,m⟩ isSubtype_stop ?_)
 exact wpAny_pure (n _ r)
end
abbrev za0 (h:Heap) (a:Addr):Heap:=h.push { cls:= .type "list_iterator",data:= .fields #[.ref a,.int 0 0] }
noncomputable abbrev zaZ (h:Heap) (a l2:Addr):Heap:=(za0 h a).push { cls:= .type "tuple_iterator",data:= .fields #[.ref l2,.int 0 0] }
noncomputable abbrev ja1 (h:Heap) (a l2:Addr):Heap:=(zaZ h a l2).push { cls:= .type "tuple",data:= .seq #[.ref h.objs.size,.ref (za0 h a).objs.size] }
abbrev qaT (h:Heap) (a l2:Addr):Heap:=(ja1 h a l2).push { cls:= .type "tuple",data:= .seq #[.none,.none] }
noncomputable abbrev XU (h:Heap) (a l2:Addr):Heap:=(qaT h a l2).push { cls:= .type "zip",data:= .fields #[.none,.bool false,.bool false,.ref (zaZ h a l2).objs.size,.ref (ja1 h a l2).objs.size] }
def qF (a l2:Addr) (xs l:Array Value):
 Meets (Builtin.«zip.__new__» ⟨[.type "zip",.ref a,.ref l2],[]⟩) (fun _ R s=>s.heap.IsList a xs/\s.heap.IsTuple l2 l ∧
  R (.ok (.ret (.ref (qaT s.heap a l2).objs.size))) { s with heap:=XU s.heap a l2 }):=
 .of_wp λprog w A R s h=>by
  obtain⟨i,g,d,j,m⟩:=s;obtain⟨b,e,h⟩:=h
  have k:=sub_zip
  have f:Heap.IsList (Shared.heap ⟨i,g,d,j,m⟩) a xs:=b
  have c:Heap.IsTuple (Shared.heap ⟨i.push { cls:= .type "list_iterator",data:= .fields #[.ref a,.int 0 0] },g,d,j,m⟩) l2 l:=Heap.IsTuple.push e _
  wp_walk using wpAny_pyIter_list f,wpAny_pyIter_tuple c
  exact⟨_,rfl,h⟩
section
variable {prog:Program}{w:World}{A:Around}{E:Value->Shared->Prop}{s:Shared}
def xV (b:s.heap.IsList l1 xs) (f:s.heap.IsTuple l2 ys)
 (h: ∀h',IsZip h' (s.heap.objs.size+4) (s.heap.objs.size+2) (s.heap.objs.size+3) .none->IsPair h' (s.heap.objs.size+2) (.ref s.heap.objs.size) (.ref (s.heap.objs.size+1)) →
   IsPair h' (s.heap.objs.size+3) .none .none->h'.IsListIter s.heap.objs.size l1 0->h'.IsTupleIter (s.heap.objs.size+1) l2 0->h'.objs.size=s.heap.objs.size+5 →
   (∀ c o,s.heap.get? c=y0 o->h'.get? c=y0 o)->Q (.ref (s.heap.objs.size+4)) { s with heap:=h' }):
 wpAny (model prog w) A (call (.type "zip") [.ref l1,.ref l2]) Q E s:=by
 refine callType_new F.called_zip (by decide) (F.typeCall_zip_2 _ _) (F.newCall_zip_2 _ _) (λobj=>F.args_object_init_3 obj _ _) F.entry_zip_new
  (qF l1 l2 xs ys) ⟨b,f,?_⟩
 have i:(za0 s.heap l1).objs.size=s.heap.objs.size+1:=Ag3 ..
 have g:(zaZ s.heap l1 l2).objs.size=s.heap.objs.size+2:=by rw [Ag3,i]
 have e:(ja1 s.heap l1 l2).objs.size=s.heap.objs.size+3:=by rw [Ag3,g]
 have a:(qaT s.heap l1 l2).objs.size=s.heap.objs.size+4:=by rw [Ag3,e]
 have n:(XU s.heap l1 l2).objs.size=s.heap.objs.size+5:=by rw [Ag3,a]
 have d:(XU s.heap l1 l2).get? (qaT s.heap l1 l2).objs.size=y0 _:=Ab8 _ rfl
 have l:(XU s.heap l1 l2).get? (ja1 s.heap l1 l2).objs.size=y0 _:=Aa2 _ (Ab8 _ rfl)
 have k:(XU s.heap l1 l2).get? (zaZ s.heap l1 l2).objs.size=y0 _:=Aa2 _ (Aa2 _ (Ab8 _ rfl))
 have j:(XU s.heap l1 l2).get? (za0 s.heap l1).objs.size=y0 _:=Aa2 _ (Aa2 _ (Aa2 _ (Ab8 _ rfl)))
 have m:(XU s.heap l1 l2).get? s.heap.objs.size=y0 _:=Aa2 _ (Aa2 _ (Aa2 _ (Aa2 _ (Ab8 _ rfl))))
 show _/\_
 rw [g,e,a]at d
 rw [i,g]at k
 rw [e]at l
 rw [i]at j
 rw [a]
 exact⟨⟨_,d,rfl⟩,h _ d k l ⟨_,m,rfl,rfl⟩ ⟨_,j,rfl,rfl⟩ n λc o x=>
  Aa2 _ (Aa2 _ (Aa2 _ (Aa2 _ (Aa2 _ x))))⟩
end
end PySem
namespace L2
open PySem PySem.Spec PyProof.Rows
section
variable {X:Cx}{k8:List (Addr×Obj)}{U:St}{H:Hp}{s:Shared}{h':Heap}
def Inv.turnedL {ch:List Addr}(I:Inv X k8 U H s) (k: ∀b o,b∉ch->s.heap.get? b=y0 o->h'.get? b=y0 o) (f: ∀b∈ch,j3 X k8 H b):Inv X k8 U H { s with heap:=h',toks:=t' }:=by
 have d: ∀b u,H b=y0 u->b∉ch:=λb u q z=>by rw [(f b z).1]at q;cases q
 refine I.step (λb j=> ?_) (λb o _ _ a e _=>k b o a e) (λb o _ _ a e _=>⟨o.slots,k b o a e⟩) (λ_ _ _ _ n=>n)
  (λb o a e=>⟨o,k b o a e⟩) (λ_ _ e=>e) (λ_ _ _ e=>e) (λb A e=>⟨#[],by rw [e];simp⟩) (λm y=> ?_) (λb u q=> ?_) I.bare
 ·obtain⟨C,g,B,x,w,l⟩:=f b j
  exact⟨x,g,w,l⟩
 ·obtain⟨o,p,t,h,r⟩:=y
  exact⟨o,p,t,k _ o (λz=>(f _ z).2.1 rfl) h,r⟩
 ·refine(I.hok b u q).stay (λc v a i=>k c v ?_ i) (λ_ q=>q) λ_ _ q=>q
  rcases a with z | z
  ·rw [z];exact d b u q
  ·exact d c _ z
end
noncomputable def zdQ (K:Aa6) (l a:Addr):It:=
 ⟨λi H=> ∃xs x ys y,SqL K H l xs/\xs[i]? =y0 x/\qdS K H a ys/\ys[i]? =y0 y,
   λi H v H'=> ∃p x y,H p=u0/\v= .ref p/\H'=jd7 H p (.tup [x,y])/\(∀ xs,SqL K H l xs->xs[i]? =y0 x)/\ ∀ys,qdS K H a ys->ys[i]? =y0 y,
   λi H=> ∃xs ys,SqL K H l xs/\qdS K H a ys/\min xs.length ys.length=i⟩
def xaW {K:Aa6}(z TI TO i1 i2 l a) (D:ZipApart z TI TO i1 i2 l a):xa5 P w K (.Tuple elts x1 tp) (zdQ K l a) [z,TI,TO,i1,i2] z
 (λi h=>IsZip h z TI TO .none/\IsPair h TI (.ref i1) (.ref i2)/\(∃ c d,IsPair h TO c d)/\h.IsListIter i1 l i/\h.IsTupleIter i2 a i) where
 mem:=by simp
 obj:=λi h r b g=>by
  obtain⟨A,j,⟨c,d,m⟩,⟨o1,V,c1,d1⟩,⟨o2,Y,c2,d2⟩⟩:=r
  simp only [Ab7,Ac0,or_false]at g
  rcases g with e | e | e | e | e
  ·rw [e];exact⟨_,A,λv z=>by cases z⟩
  ·rw [e];exact⟨_,j,λv z=>by cases z⟩
  ·rw [e];exact⟨_,m,λv z=>by cases z⟩
  ·rw [e];exact⟨o1,V,λv z=>by rw [d1]at z;cases z⟩
  ·rw [e];exact⟨o2,Y,λv z=>by rw [d2]at z;cases z⟩
 keep:=λi h h' r k=>by
  obtain⟨A,j,⟨c,d,m⟩,J,L⟩:=r
  exact⟨k z (by simp) _ A,k TI (by simp) _ j,⟨c,d,k TO (by simp) _ m⟩,J.at λo e=>k i1 (by simp) o e,L.at λo e=>k i2 (by simp) o e⟩
 item:=by
  intro X hP Z hK hc i B s U H E I Q r hg
  subst hP Z hK
  obtain⟨A,j,⟨c,d,m⟩,J,L⟩:=r
  obtain⟨xs,x,ys,y,S,O,t,hy⟩:=hg
  obtain⟨M,rv,p,_⟩:=I.list S
  obtain⟨n,C,T,_⟩:=I.tuple t
  obtain⟨u,hu,ru⟩:=rv.get O
  obtain⟨u2,W,ru2⟩:=C.get hy
  refine zn D A j m J L p.isList (show s.heap.IsTuple a n.toArray from T) (by simpa using hu) (by simpa using W) λh3 a1 a2 a3 a4 a5 a6 R=> ?_
  refine⟨_,rfl,wpAny_letOwnedTupleGo_zip a1 λh4 hz4 F=> ?_⟩
  have F:Ai1 z h3 h4:=F
  have lt: ∀ {c o},s.heap.get? c=y0 o->c≠s.heap.objs.size:=λe=>Ac3 (Ab5 e)
  have hn:=I.hok.fresh (Aa5 _)
  have I1:Inv X B U (jd7 H s.heap.objs.size (.tup [x,y])) { s with heap:=s.heap.push { cls:= .type "tuple",data:= .seq #[u,u2] } }:=by
   refine I.laid (λb o q=>Aa2 _ q) (Aa5 _) ⟨by simp only [Ab4,An2];rw [sizeLine_eq];decide,[u,u2],.cons ru (.cons ru2 .nil),?_⟩
   exact⟨_,Ab8 s.heap rfl,rfl,rfl,_,rfl⟩
  have fz: ∀b∈ [z,TI,TO,i1,i2],b≠s.heap.objs.size:=λb g=>by
   obtain⟨o1,V,_⟩:=J
   obtain⟨o2,Y,_⟩:=L
   simp only [Ab7,Ac0,or_false]at g
   rcases g with e | e | e | e | e
   ·rw [e];exact lt A
   ·rw [e];exact lt j
   ·rw [e];exact lt m
   ·rw [e];exact lt V
   ·rw [e];exact lt Y
  have I2:=I1.turnedL (t':=s.toks) (ch:= [z,TI,TO,i1,i2]) (λb o g q=>by
   simp only [Ab7,Ac0,or_false,not_or]at g
   obtain⟨b1,b2,b3,b4,b5⟩:=g
   refine(F.2 b b1).trans ?_
   rcases Heap.get?_push_cases (show (s.heap.push { cls:= .type "tuple",data:= .seq #[u,u2] }).get? b=some o from q)with⟨e1,e2⟩ | e1
   ·rw [e1,e2];exact a5
   ·exact R b o b1 b3 b4 b5 e1) (λb g=>by
   obtain⟨f0,f⟩:=Q b g
   exact⟨by rw [qa (fz b g)];exact f0,f⟩)
  refine⟨.ref s.heap.objs.size,_,I2,rfl,⟨s.heap.objs.size,x,y,hn,rfl,rfl,λzs G=>by rw [I.list_inj G S];exact O,λzs G=>by rw [I.tuple_inj G t];exact hy⟩,?_,λb g=>by rw [qa (fz b g)];exact(Q b g).1⟩
  exact⟨hz4,(F.2 TI D.TIz).trans (R _ _ D.TIz D.TITO D.TIi1 D.TIi2 j),⟨_,_,(F.2 TO D.TOz).trans a2⟩,a3.at λo e=>(F.2 i1 D.i1z).trans e,a4.at λo e=>(F.2 i2 D.i2z).trans e⟩
 done:=by
  intro X hP Z hK hc i B s U H E I Q r hg
  subst hP Z hK
  obtain⟨A,j,⟨c,d,m⟩,J,L⟩:=r
  obtain⟨xs,ys,S,t,O⟩:=hg
  obtain⟨M,rv,p,_⟩:=I.list S
  obtain⟨n,C,T,_⟩:=I.tuple t
  have hl:=rv.length
  have hl2:=C.length
  have N:M.toArray[i]? =u0\/n.toArray[i]? =none:=by
   rcases Nat.le_total xs.length ys.length with q | q
   ·exact .inl (Array.getElem?_eq_none (by rw [Ab];rw [Al2 q]at O;omega))
   ·exact .inr (Array.getElem?_eq_none (by rw [Ab];rw [Nat.min_eq_right q]at O;omega))
  exact wn (I.ok.hd hc) D A j m J L p.isList (show s.heap.IsTuple a n.toArray from T) N λh3 R=>⟨rfl,I.turnedL (λb o g q=>by
   simp only [Ab7,Ac0,or_false,not_or]at g
   exact R b o g.1 g.2.2.1 g.2.2.2.1 g.2.2.2.2 q) Q⟩
 self:=λ_ _ _ _ _ r h=>wpAny_pyIter_zip r.1 h
def zbb (n l t:Nat) (h1:l<n) (h2:t<n):ZipApart (n+4) (n+2) (n+3) n (n+1) l t:=by
 constructor<;>exact λe=>absurd (show @Eq Nat _ _ from e) (by omega)
noncomputable def jdl (K:Aa6) (b:TA):TI:=λU H R=>b U H λc H1=> ∃l a xs ys,c= [.ref l,.ref a]/\SqL K H1 l xs/\qdS K H1 a ys/\R (zdQ K l a) H1
def xa1:bootBuiltins "zip" =some (.type "zip"):=by decide +kernel
def jcy (B:Gl X "zip") (K:X.mg "zip" =none) (J:PA X [a,b] ta) (C:starEach [a,b] X.env= [(false,eval a X.env),(false,eval b X.env)]:=by rfl) (g:starEach [b] X.env= [(false,eval b X.env)]:=by rfl):PI X (.Tuple elts x1 tp) (.Call (.Name "zip" p) [a,b] [] pos) (jdl X.K ta):=by
 intro f s U H R I h
 refine Call_ (Jx I B K xa1 (PyProof.Rows.callWith_type1 (jdF (J pos f s U H _ I h) λQ d ⟨O,y,i,z,A⟩=> ?_) (by rw [C,g]) (by rw [g];rfl)))
 obtain⟨l,t,P,S,e,F,k,q⟩:=A
 subst e
 cases z with
 | cons r E=>
  cases E with
  | cons L j=>
   cases j
   cases r
   cases L
   obtain⟨G,rv,pl,_⟩:=i.list F
   obtain⟨v,M,pt,_⟩:=i.tuple k
   have x:=pl.isList
   have w:=pt
   have D:l<d.heap.objs.size:=by obtain⟨o,e,_⟩:=x;exact Ab5 e
   have l2:t<d.heap.objs.size:=by obtain⟨o,e,_⟩:=w;exact Ab5 e
   refine xV x w λT m a2 a3 a4 a5 a6 N=> ?_
   refine wpAny_pyIter_zip m ?_
   refine⟨d.heap.objs.size+4,[d.heap.objs.size+4,d.heap.objs.size+2,d.heap.objs.size+3,d.heap.objs.size,d.heap.objs.size+1],_,_,y,rfl,i.kept N,
    xaW (d.heap.objs.size+4) (d.heap.objs.size+2) (d.heap.objs.size+3) d.heap.objs.size (d.heap.objs.size+1) l t (zbb _ l t D l2),⟨m,a2,⟨_,_,a3⟩,a4,a5⟩,λc n=> ?_,q⟩
   have u:d.heap.objs.size<=c:=by
    simp only [Ab7,Ac0,or_false]at n
    rcases n with e | e | e | e | e<;>rw [e]<;>first | exact Aa5 _ | exact Nat.le_add_right _ _
   exact i.fpOk u (i.hok.fresh u)
end L2
set_option maxHeartbeats 8000000
namespace L2
open PySem PySem.Spec PyProof.Rows
open Sem (wp)
abbrev K2:=List (Int ⊕ List Int)
section
variable (prog:Program) (w:World)
inductive Items2 (h:Heap):K2->List Value->Prop
 | nil:Items2 h [] []
 | int {i:Int}{t:Tok}{ks:K2}{vs:List Value}:Items2 h ks vs->Items2 h (.inl i::ks) (.int i t::vs)
 | tup {l:List Int}{a:Addr}{ks:K2}{vs:List Value}:IsTupleKey (intKind prog w) h l a->Items2 h ks vs->Items2 h (.inr l::ks) (.ref a::vs)
noncomputable def IsKey2 (h:Heap) (ks:K2) (a:Addr):Prop:= ∃o b n,h.get? a=y0 o/\o.cls= .type "tuple" /\o.data= .seq b n/\Items2 prog w h ks b.toList
def wF:(Int ⊕ List Int)->Int
 | .inl i=>(intKind prog w).hash i
 | .inr l=>tupleKeyHash (intKind prog w) l
def jab:(Int ⊕ List Int)->Nat
 | .inl _=>1
 | .inr l=>l.length+1
def jbS (ks:K2):Int:=reduceHash (Builtin.Tuple.tupleHashOf (ks.map (wF prog w)))
def qbZ (ks:K2):Nat:=(ks.map jab).sum+1
end
section
variable {prog:Program}{w:World}{h:Heap}
theorem Items2.inj (e:Items2 prog w h x vs) (b:Items2 prog w h y vs):x=y:=by
 induction e generalizing y with
 | nil=>cases b;rfl
 | int _ a=>
  cases b with
  | int t=>rw [a t]
 | tup d _ a=>
  cases b with
  | tup c t=>rw [d.inj c,a t]
theorem IsKey2.inj (i:IsKey2 prog w h x a) (l:IsKey2 prog w h y a):x=y:=by
 obtain⟨o,d,n,k,_,j,p⟩:=i
 obtain⟨m,c,q,f,_,b,e⟩:=l
 obtain rfl:o=m:=Ae5.inj (k.symm.trans f)
 rw [j]at b
 injection b with g _
 subst g
 exact p.inj e
def IsKey2.typeIs {s:Shared}(x:IsKey2 prog w s.heap ks a):s.TypeIs (.ref a) "tuple" :=let ⟨o,_,_,b,c,_⟩:=x; ⟨o,b,c⟩
theorem Items2.keeps {es ep}(c:h.get? d=y0 o) (b:o.data= .dict es ep) (a:Ai1 d h h'): ∀ {ks}{e},Items2 prog w h ks e->Items2 prog w h' ks e
 | _,_,.nil=> .nil
 | _,_,.int t=> .int (t.keeps c b a)
 | _,_,.tup k t=> .tup (k.keeps c b a) (t.keeps c b a)
theorem IsKey2.keeps {es ep}(x:IsKey2 prog w h ks a) (j:h.get? d=y0 o) (i:o.data= .dict es ep) (g:Ai1 d h h'):IsKey2 prog w h' ks a:=by
 obtain⟨k,b,n,e,l,c,m⟩:=x
 have f:a≠d:=by
  rintro rfl
  obtain rfl:k=o:=Ae5.inj (e.symm.trans j)
  rw [i]at c;exact nomatch c
 exact⟨k,b,n,(g.2 a f).trans e,l,c,m.keeps j i g⟩
variable {A:Around}{E:Value->Shared->Prop}{s:Shared}
def zas (r:A.units+1<cLine) (u:IsKey2 prog w s.heap ks a) (h:Q (jbS prog w ks) { s with toks:=s.toks+qbZ ks }):
 wpAny (model prog w) A (pyHash (.ref a)) Q E s:=by
 have g:=u.typeIs
 obtain⟨o,m,n,v,_,B,y⟩:=u
 unfold pyHash
 first | unfold pyHashByItsType | skip
 first | refine wpAny_bind (wpAny_cRoomFor_or (.inr (Nat.lt_of_succ_lt r)) ?_) | skip
 refine wpAny_bind (wpAny_specialOf g PySem.F.slot_tuple_hash.lookup ?_)
 show wpAny _ _ (if (some (Value.builtin "tuple.__hash__")==some Value.none)=true then _ else _) Q E s
 rw [if_neg (by rw [beq_builtin_none];exact Ab6)]
 refine wpAny_bind (wpAny_specialOf g PySem.F.slot_tuple_hash.lookup ?_)
 show wpAny _ _ (callSpecialIfBoundUnlessNone? (.ref a) "__hash__" _ >>= _) Q E s
 refine wpAny_bind (wpAny_callSpecialIfBoundUnlessNone?_slot g PySem.F.slot_tuple_hash (wpAny_call_entry PySem.F.slot_tuple_hash g PySem.F.entry_tuple_hash ?_ (PySem.F.args_tuple_hash_1 _)))
 show wpAny _ _ (Builtin.Tuple.tupleItemsOf (.ref a) >>= _) _ _ s
 refine wpAny_bind (wpAny_tupleItemsOf v B ?_)
 refine wpAny_bind ?_
 rw [← Ao1]
 refine wpAny_forIn_list _
  (λrest b p=> ∃done left,ks=done++left/\Items2 prog w s.heap left rest/\b.toList=done.map (wF prog w)/\p= { s with toks:=s.toks+(done.map jab).sum })
  _ ?_ ?_ _ _ ⟨[],ks,rfl,y,rfl,rfl⟩
 ·rintro x rest b p ⟨done,left,rfl,q,f,rfl⟩
  cases q with
  | @int i t e _ d=>
   refine wpAny_bind ((intKind prog w).pyHash (k:=i) (by simp [intKind,Value.isInt]) ?_)
   first
    | exact wpAny_pure ⟨done++ [.inl i],e,by simp,d,by simp [f,wF],by simp [Ak5,jab]⟩
    | exact wpAny_bind (wpAny_pure (wpAny_pure ⟨done++ [.inl i],e,by simp,d,by simp [f,wF],by simp [Ak5,jab]⟩))
  | @tup l c e _ z d=>
   refine wpAny_bind (wpAny_pyHash_tuple r z ?_)
   first
    | exact wpAny_pure ⟨done++ [.inr l],e,by simp,d,by simp [f,wF],by simp [Ak5,jab]⟩
    | exact wpAny_bind (wpAny_pure (wpAny_pure ⟨done++ [.inr l],e,by simp,d,by simp [f,wF],by simp [Ak5,jab]⟩))
 ·rintro b p ⟨done,left,rfl,q,f,rfl⟩
  cases q
  rw [Ae0]at h
  show wpAny _ _ (retInt (Builtin.Tuple.tupleHashOf b.toList)) _ _ _
  rw [f]
  refine wpAny_ret_mkInt ?_
  show wpAny _ _ (if (v9 (- 2 ^ 63<=Builtin.Tuple.tupleHashOf (done.map (wF prog w)))&&v9 (Builtin.Tuple.tupleHashOf (done.map (wF prog w))<2 ^ 63))=k9 then _ else _) Q E _
  unfold jbS reduceHash qbZ at h
  by_cases j:(v9 (- 2 ^ 63<=Builtin.Tuple.tupleHashOf (done.map (wF prog w)))&&v9 (Builtin.Tuple.tupleHashOf (done.map (wF prog w))<2 ^ 63))=k9
  ·rw [if_pos j]
   rw [if_pos j]at h
   exact wpAny_pure (by simpa [Ak5]using h)
  ·rw [if_neg j]
   rw [if_neg j]at h
   exact wpAny_bind (wpAny_rule (wpAny_pure (by simpa [Ak5]using h)))
def xa3 (hu:A.units<cLine) (hx:IsKey2 prog w s.heap x a) (hy:IsKey2 prog w s.heap y b) (D:x.map Sum.isLeft=y.map Sum.isLeft) (h:P (.done (.ret (.bool (v9 (x=y))))) s):
 wpAny (model prog w) A (Builtin.«tuple.__eq__» ⟨[.ref a,.ref b],[]⟩) P E s:=by
 have Y:=hy.typeIs
 obtain⟨oa,K,na,U,_,V,S⟩:=hx
 obtain⟨ob,N,nb,hob,_,hdb,X⟩:=hy
 show wpAny _ _ (isInstance (.ref b) (.type "tuple") >>= _) _ _ s
 refine wpAny_bind (wpAny_isInstance Y isSubtype_tuple_tuple ?_)
 simp only [Ao5,Ae2,if_false]
 refine wpAny_bind (wpAny_tupleItemsOf U V ?_)
 refine wpAny_bind (wpAny_tupleItemsOf hob hdb ?_)
 refine wpAny_bind ?_
 refine wpAny_forIn_list _
  (λrest r F=>r.1=u0/\F=s/\ ∃M L o p,rest=List.zip o p/\Items2 prog w s.heap M o/\Items2 prog w s.heap L p/\M.map Sum.isLeft=L.map Sum.isLeft/\v9 (M=L)=v9 (x=y)/\(o.length==p.length)=(K.size==N.size))
  _ ?_ ?_ _ _ ⟨rfl,rfl,x,y,K.toList,N.toList,rfl,S,X,D,rfl,by simp⟩
 ·rintro ⟨u,v⟩ rest r F ⟨Z,rfl,M,L,o,p,C,H,B,l,n,m⟩
  obtain⟨R,O,g,e,d,c,W,k,f,I,z,G,he⟩: ∃ R O g e d c,rest=List.zip d c/\Items2 prog w F.heap g d/\Items2 prog w F.heap e c/\g.map Sum.isLeft=e.map Sum.isLeft/\v9 (R::g=O::e)=v9 (x=y)/\(d.length==c.length)=(K.size==N.size) ∧
   (∀ Q:Bool->Shared->Prop,Q (v9 (R=O)) F->wpAny (model prog w) A (eqBool u v) Q E F):=by
   cases H with
   | nil=>simp at C
   | @int i t g d k=>
    cases B with
    | nil=>simp at C
    | @tup l2 c2 e c g2 f=>simp at l
    | @int j u2 e c f=>
     simp only [List.zip_cons_cons,List.cons.injEq,Prod.mk.injEq]at C
     obtain⟨⟨rfl,rfl⟩,rfl⟩:=C
     refine⟨.inl i,.inl j,g,e,d,c,rfl,k,f,by simpa using l,n,by simpa using m,λQ q=> ?_⟩
     refine(intKind prog w).eqBool (a:=i) (b:=j) (by simp [intKind,Value.isInt]) (by simp [intKind,Value.isInt]) ?_
     have:v9 (i=j)=v9 ((Sum.inl i:Int ⊕ List Int)= .inl j):=by simp
     rw [this];exact q
   | @tup T c1 g d g1 k=>
    cases B with
    | nil=>simp at C
    | @int j u2 e c f=>simp at l
    | @tup l2 c2 e c g2 f=>
     simp only [List.zip_cons_cons,List.cons.injEq,Prod.mk.injEq]at C
     obtain⟨⟨rfl,rfl⟩,rfl⟩:=C
     refine⟨.inr T,.inr l2,g,e,d,c,rfl,k,f,by simpa using l,n,by simpa using m,λQ q=> ?_⟩
     refine wpAny_eqBool_tuple hu g1 g2 ?_
     have:v9 (T=l2)=v9 ((Sum.inr T:Int ⊕ List Int)= .inr l2):=by simp
     rw [this];exact q
  refine wpAny_bind (he _ ?_)
  by_cases hk:R=O
  ·subst hk
   rw [decide_eq_true rfl]
   simp only [Ao5,Ae2,if_false]
   refine wpAny_pure ⟨rfl,rfl,g,e,d,c,W,k,f,I,?_,G⟩
   rw [← z]
   by_cases D:g=e
   ·simp [D]
   ·simp [D]
  ·rw [decide_eq_false hk]
   simp only [Bool.not_false,if_true]
   have hf:v9 (x=y)=false:=by rw [← z];simp [hk]
   rw [hf]at h
   exact wpAny_bind (wpAny_pure (wpAny_pure (wpAny_pure h)))
 ·rintro ⟨r1,r2⟩ F ⟨Z,rfl,M,L,o,p,C,H,B,l,n,m⟩
  simp only at Z
  subst Z
  refine wpAny_pure ?_
  have J:(K.size==N.size)=v9 (x=y):=by
   rw [← n,←m]
   cases H with
   | nil=>
    cases B with
    | nil=>simp
    | _=>simp at l
   | _=>
    cases B with
    | nil=>simp at l
    | _=>simp at C
  show P (.done (.ret (.bool (K.size==N.size)))) F
  rw [J];exact h
def xbH (i:A.units+1<cLine) (d:IsKey2 prog w s.heap x a) (g:IsKey2 prog w s.heap y b) (f:x.map Sum.isLeft=y.map Sum.isLeft) (h:Q (v9 (x=y)) s):
 wpAny (model prog w) A (eqBool (.ref a) (.ref b)) Q E s:=by
 unfold eqBool
 try with_reducible refine wpAny_holding ?_
 by_cases c:(Value.ref a==Value.ref b)=k9
 ·rw [if_pos c]
  have e:=by have:=eq_of_beq c;injection this
  subst e
  obtain rfl:=d.inj g
  exact wpAny_bind (wpAny_rule (wpAny_pure (by simpa using h)))
 ·rw [if_neg c]
  exact wpAny_bind (wpAny_richCompare_same_room d.typeIs g.typeIs PySem.F.slot_tuple_eq
   (wpAny_call_entry PySem.F.slot_tuple_eq d.typeIs PySem.F.entry_tuple_eq (xa3 i d g f ⟨_,rfl,(λe=>nomatch e),wpAny_truthy_bool h⟩) (PySem.F.args_tuple_eq_2 _ _)) (Nat.lt_of_succ_lt i))
def zcv (i:IsTupleKey (intKind prog w) s.heap ks a) (h:Q k9 s):wpAny (model prog w) A (eqIsQuiet (n+1) (.ref a)) Q E s:=by
 have f:=i.typeIs
 obtain⟨o,c,m,j,_,l,k⟩:=i
 unfold eqIsQuiet
 refine wpAny_bind (wpAny_specialOf f PySem.F.slot_tuple_eq.lookup ?_)
 refine wpAny_bind (wpAny_isInstance f isSubtype_tuple_tuple ?_)
 refine wpAny_bind (wpAny_seqItems j l ?_)
 refine wpAny_bind ?_
 rw [← Ao1]
 refine wpAny_forIn_list _ (λrest r e=>r.1=u0/\e=s/\ ∀v∈rest,carriedByValue v=k9) _ ?_ ?_ _ _ ⟨rfl,rfl,k.byValue⟩
 ·rintro v rest r e ⟨g,rfl,b⟩
  rw [eqIsQuiet_byValue _ (b v Aa3)]
  refine wpAny_bind (wpAny_pure ?_)
  exact wpAny_pure ⟨rfl,rfl,λu d=>b u (Aa1 _ d)⟩
 ·rintro ⟨p,q⟩ e ⟨g,rfl,_⟩
  subst g
  exact wpAny_pure h
def zcI (p:IsKey2 prog w s.heap ks a) (h:Q k9 s):wpAny (model prog w) A (eqIsQuiet 8 (.ref a)) Q E s:=by
 have k:=p.typeIs
 obtain⟨o,f,m,q,_,y,x⟩:=p
 unfold eqIsQuiet
 refine wpAny_bind (wpAny_specialOf k PySem.F.slot_tuple_eq.lookup ?_)
 refine wpAny_bind (wpAny_isInstance k isSubtype_tuple_tuple ?_)
 refine wpAny_bind (wpAny_seqItems q y ?_)
 refine wpAny_bind ?_
 rw [← Ao1]
 refine wpAny_forIn_list _ (λrest r g=>r.1=u0/\g=s/\ ∃e,Items2 prog w s.heap e rest) _ ?_ ?_ _ _ ⟨rfl,rfl,ks,x⟩
 ·rintro v rest r g ⟨n,rfl,e,b⟩
  cases b with
  | @int i t d _ j=>
   refine wpAny_bind (wpAny_pure ?_)
   exact wpAny_pure ⟨rfl,rfl,_,j⟩
  | @tup l c d _ u j=>
   refine wpAny_bind (zcv u ?_)
   exact wpAny_pure ⟨rfl,rfl,_,j⟩
 ·rintro ⟨z,B⟩ g ⟨n,rfl,_⟩
  subst n
  exact wpAny_pure h
end
abbrev WK:=Int×List Int×List Int
def xd0 (k:WK):K2:= [.inl k.1,.inr k.2.1,.inr k.2.2]
def xas (h:xd0 x=xd0 y):x=y:=by
 obtain⟨a,b,c⟩:=x
 obtain⟨d,e,f⟩:=y
 simp only [xd0,List.cons.injEq,Sum.inl.injEq,Sum.inr.injEq,and_true]at h
 rw [h.1,h.2.1,h.2.2]
def zb8 (x y):v9 (xd0 x=xd0 y)=v9 (x=y):=by
 by_cases c:x=y
 ·subst c;simp
 ·rw [decide_eq_false c,decide_eq_false λz=>c (xas z)]
noncomputable def JA (prog:Program) (w:World):HeapKind prog w WK where
 is:=λh k a=>IsKey2 prog w h (xd0 k) a
 hash:=λk=>jbS prog w (xd0 k)
 draws:=λk=>qbZ (xd0 k)
 room:=λA=>A.units+1<cLine
 inj:=λe d=>xas (e.inj d)
 keeps:=λx g j i=>x.keeps g j i
 pyHash:=λc f h=>zas c f h
 eqBool:=λ{A E s x y a b Q} c e d h=>xbH c e d rfl (by rw [zb8];exact h)
 quiet:=λf h=>zcI f h
def jcE (l:List Int):Int:=reduceHash (Builtin.Tuple.tupleHashOf (l.map hashInt))
def jcX (k:WK):Int:=reduceHash (Builtin.Tuple.tupleHashOf [hashInt k.1,jcE k.2.1,jcE k.2.2])
def xdu (x:WK×Addr×Value):DictEntry:=⟨jcX x.1,.ref x.2.1,x.2.2⟩
noncomputable def DW (a:Addr) (xs:List (WK×Addr×Value)):HO:= .ext λh=>(a==sysModules)=y9/\xs.length<=sizeLine/\(xs.map (·.1)).Nodup/\ ∃o es b,h.get? a=y0 o/\o.ExactDict/\o.data= .dict es b/\es.toList=xs.map xdu
section
variable {P:Program}{w:World}{H:Hp}{h:Heap}{a:Addr}{xs:List (WK×Addr×Value)}
def xcw (x:(a==sysModules)=y9) (h1:xs.length<=sizeLine) (r:h.DictOfH (JA P w) a xs):ObjOk P w H h a (DW a xs):=by
 obtain⟨o,j,l,d,u,s,m,_,q⟩:=r
 refine⟨⟨x,h1,q,o,j,l,d,u,s,m⟩,⟨o,d⟩,λh1 y ⟨f,v,t,e,c,b,g,p,n,i⟩ k=>⟨f,v,t,e,c,b,k e g,p,n,i⟩⟩
def xaV (ok:HOk P w H h) (e:H a=y0 (DW a xs)) (l: ∀x∈xs,IsKey2 P w h (xd0 x.1) x.2.1):(a==sysModules)=y9/\xs.length<=sizeLine/\h.DictOfH (JA P w) a xs:=by
 obtain⟨⟨f,m,k,o,d,g,i,c,j,b⟩,_,_⟩:=(show ObjOk P w H h a (DW a xs)from ok a _ e)
 exact⟨f,m,o,d,g,i,c,j,b,l,k⟩
end
section
variable {X:Cx}{k8:List (Addr×Obj)}{U:St}{H:Hp}{s:Shared}{a b:Addr}{k:WK}{xs:List (WK×Addr×Value)}{r:Value}{A:Around}{E:Value->Shared->Prop}
def qaQ (I:Inv X k8 U H s):sysModules<s.heap.objs.size:=by
 have h:=(I.mod.glob.keeps I.bk).lt
 exact Nat.lt_trans (by decide) h
def qc4 (c:A.units+2<cLine) (I:Inv X k8 U H s) (e:H a=y0 (DW a xs)) (g: ∀x∈xs,IsKey2 X.prog X.w s.heap (xd0 x.1) x.2.1) (f:IsKey2 X.prog X.w s.heap (xd0 k) b) (h: ∀s',Inv X k8 U H s'->Q (.bool (atKey xs k).isSome) s'):
 wpAny (model X.prog X.w) A (compareOp .In (.ref b) (.ref a)) Q E s:=by
 obtain⟨d,_,dd⟩:=xaV I.hok e g
 exact wpAny_in_heap c f d dd (h _ (I.tok _))
def xa2 (c:A.units+2<cLine) (I:Inv X k8 U H s) (e:H a=y0 (DW a xs)) (g: ∀x∈xs,IsKey2 X.prog X.w s.heap (xd0 x.1) x.2.1) (f:IsKey2 X.prog X.w s.heap (xd0 k) b) (h: ∀s',Inv X k8 U H s'->Q (.bool (!(atKey xs k).isSome)) s'):
 wpAny (model X.prog X.w) A (compareOp .NotIn (.ref b) (.ref a)) Q E s:=by
 obtain⟨d,_,dd⟩:=xaV I.hok e g
 exact wpAny_notIn_heap c f d dd (h _ (I.tok _))
def jcK (j:A.units+2<cLine) (I:Inv X k8 U H s) (e:H a=y0 (DW a xs)) (t: ∀x∈xs,IsKey2 X.prog X.w s.heap (xd0 x.1) x.2.1) (i:IsKey2 X.prog X.w s.heap (xd0 k) b) (u:xs.length<sizeLine)
 (h: ∀s',Inv X k8 U (jd7 H a (DW a (storedH xs k b r))) s'->Q () s'):wpAny (model X.prog X.w) A (setItem (.ref a) (.ref b) r) Q E s:=by
 obtain⟨g,v,dd⟩:=xaV I.hok e t
 refine wpAny_setItem_heap j i dd λo c l=>h _ ?_
 have p: ∃q,o.get? a=y0 q:=let ⟨q,_,_,n,_⟩:=c; ⟨q,n⟩
 have f:(storedH xs k b r).length<=sizeLine:=by
  unfold storedH
  split
  ·rw [Aa];omega
  ·rw [Aa8,Af4];omega
 exact I.write (by rw [e];exact True.intro) (.inl rfl) (λm q d z=>(l.2 m d).trans z) p (xcw g f c)
def Z9 (f:(d==sysModules)=y9):
 MeetsIn P w (Builtin.«dict.__len__» ⟨[.ref d],[]⟩) (λ_ R s=> ∃a,s.heap.DictOfH (JA P w) d a/\R (.ok (.ret (.int a.length s.toks))) { s with toks:=s.toks+1 }):=
 .of_wp λA R s ⟨a,c,h⟩=>by
  obtain⟨o,e,j,g,k,b,i,_,_⟩:=c
  show wpAny _ _ (dictSize d >>= _) _ _ s
  refine wpAny_bind (wpAny_bind (wpAny_dictEntries g b (wpAny_pure ?_)))
  refine wpAny_bind (wpAny_pendingCount_other f ?_)
  refine wpAny_ret_mkInt ?_
  have:e.size=a.length:=size_of_entries i
  rw [Nat.add_zero,this];exact h
def xcg (I:Inv X k8 U H s) (e:H a=y0 (DW a xs)) (d: ∀x∈xs,IsKey2 X.prog X.w s.heap (xd0 x.1) x.2.1) (h: ∀t s',Inv X k8 U H s'->Q (.int xs.length t) s'):
 wpAny (model X.prog X.w) A (call (.builtin "len") [.ref a]) Q E s:=by
 obtain⟨f,g,b⟩:=xaV I.hok e d
 have c:(xs.length:Int)<2 ^ 63:=by rw [sizeLine_eq]at g;omega
 refine Calls.call_function_entry kind_len plain_len entry_len (args_len1 _) ?_
 refine wpAny_bind (wpAny_pure ?_)
 refine wpAny_bind (wpAny_callSpecial?_slot b.typeIs PySem.F.slot_dict_len
  (call_meetsIn PySem.F.slot_dict_len b.typeIs PySem.F.entry_dict_len (PySem.F.args_dict_len_1 _) (Z9 f) ⟨xs,b,?_⟩))
 refine wpAny_bind (wpAny_holding (wpAny_pure ?_))
 refine wpAny_bind (wpAny_letGo ?_)
 show wpAny _ _ (if ((xs.length:Nat):Int)>=2 ^ 63 then _ else _) _ _ _
 rw [if_neg (by omega)]
 exact wpAny_bind (wpAny_mkInt (wpAny_pure ⟨_,rfl,h _ _ (I.tok _)⟩))
def zch:TE:=λ_ H Q=> ∀p,H p=u0->Q (.ref p) (jd7 H p (DW p []))
def jbi :PE X (.Dict [] [] pos) zch:=λa s U H Q I h=>
 wpAny_Dict_empty ⟨.ref s.heap.objs.size,_,I.laid (λ_ _ q=>Aa2 _ q) (Aa5 _) (xcw (beq_eq_false_iff_ne.mpr (Ne.symm (Ac3 (qaQ I)))) (Ah2 _) (Heap.DictOfH.new _)),rfl,h _ (I.hok.fresh (Aa5 _))⟩
end
open PySem.AutoSeq1 (wpAny_loadPart')
open MeetsSeq MeetsSeq2 MeetsSeq3 SeqRoads2 PySem.SeqAt
open PySem PySem.Spec PyProof.Rows PyProof.Rows.KTD PyProof.V
def qdi (K:Aa6) (a:Addr) (T:List (Str×PyData)):Prop:=tabLook flatLooks (λb=>K.lookup b) a T=k9
open PySem PySem.Spec PySem.Calls PySem.W PyProof.Rows
def wJ:List Value->Bool
 | []=>y9
 | x::r=>match x with
  | .ref _=>wJ r
  | _=>x::r==Zu
theorem Jo {P:List Value->Prop}(a:P Zu) (h1: ∀c r,P r->P (.ref c::r)): ∀ {l},wJ l=k9->P l
 | [],e=>by cases e
 | x::r,e=>by
  unfold wJ at e
  split at e
  ·exact h1 _ _ (Jo a h1 e)
  ·rw [beq_iff_eq.mp e];exact a
def JQ (self)(e:wJ l=k9):refuseLoop self "__setattr__" l=pure ():=
 Jo (P:=fun l=>refuseLoop self "__setattr__" l=pure ()) (PySem.F.store_ValueError.passes self) (fun c r h=>by rw [refuseLoop_ref];exact h) e
def jP (e:wJ l=true):l.contains (.type "object")=true:=
 Jo (P:=fun l=>l.contains (.type "object")=true) (by decide +kernel) (fun c r h=>by rw [List.contains_cons,h,Bool.or_true]) e
def J8 (e:wJ l=true):l.contains (.type "BaseException")=true:=
 Jo (P:=fun l=>l.contains (.type "BaseException")=true) (by decide +kernel) (fun c r h=>by rw [List.contains_cons,h,Bool.or_true]) e
def j2 (e:wJ l=k9):l.isEmpty=false:=
 Jo (P:=λl=>l.isEmpty=y9) rfl (λc r h=>rfl) e
def zcc (K:Frag) (C:Addr):Bool:=(clsIn K C).any λcd=>wJ cd.mro&&cd.hasDict
def jax {K:Frag}(h:zcc K C=k9): ∃cd,clsIn K C=y0 cd/\wJ cd.mro=k9/\cd.hasDict=true:=by
 obtain⟨cd,b,a⟩:=PySem.W.any_some h
 rw [Aa7]at a
 exact⟨cd,b,a.1,a.2⟩
section
variable {prog:Program}{w:World}{A:Around}{E:Value->Shared->Prop}{s:Shared}{K:Frag}{x C t:Addr}{f:Str}{u:Value}
def qaF (X:K.In s.heap) (j:s.heap.get? x=some (xT C t none)) (v:zcc K C=true) (D:findIn K (.ref C) "__setattr__" =some (some (.builtin "object.__setattr__"))) (G:findIn K (.ref C) f=some none)
 (h: ∀h',(∀ b o,b≠x->s.heap.get? b=y0 o->h'.get? b=y0 o)->h'.get? x=y0 (xT C t (y0 s.heap.objs.size))->h'.Ns1 s.heap.objs.size (λy=>if y=f then y0 u else u0)->Q () { s with heap:=h',toks:=s.toks+2 }):
 wpAny (model prog w) A (setAttr (.ref x) f u) Q E s:=by
 obtain⟨cd,l,q,L⟩:=jax v
 have I:PySem.W.InstAt s.heap x (xT C t u0) C none:=⟨j,rfl,rfl,trivial⟩
 refine PySem.W.set_plain X I D ?_
 have d:=PySem.F.store_object
 have sub:Looks (model prog w) s.heap (isInstance (.ref x) (.type "object")) true:=I.type.andThen (looks_mroIn X (by unfold mroIn;rw [l,Option.bind_some,if_neg (by rw [j2 q];decide),jP q]))
 have B:Looks (model prog w) s.heap (mroOf (.ref C)) cd.mro:=(looks_clsIn X l).andThen .now
 have N:=looks_findIn (M:=model prog w) X G
 refine codeAny_call_builtin d.slot.plain d.entry (@check_slot (model prog w) _ _ { s with toks:=s.toks+1 } "object.__setattr__" "object" "__setattr__" (.ref x) [.str f s.toks,u] [] _ d.kind d.split sub (d.args (.ref x) (.str f s.toks) u) ?_)
 rw [osa_eq,refuse_eq]
 refine wpAny_bind (wpAny_bind (I.type.here (s:= { s with toks:=s.toks+1 }) (wpAny_bind (B.here (s:= { s with toks:=s.toks+1 }) ?_))))
 rw [JQ _ q]
 refine wpAny_pure (wpAny_bind (I.type.here (s:= { s with toks:=s.toks+1 }) (wpAny_bind (N.here (s:= { s with toks:=s.toks+1 }) (wpAny_bind (wpAny_pure ?_))))))
 have i:(s.heap.push { cls:= .type "dict",data:= .dict #[] }).get? x=some (xT C t none):=Heap.get?_push_of_some _ j
 have c:=Ac3 (Ab5 j)
 refine wpAny_bind (wpAny_pure (wpAny_bind (wpAny_bind (wpAny_loadPart j (wpAny_bind (PySem.W.Looks.here (PySem.W.looks_clsIn X l) ?_))))))
 rw [L]
 have p:((s.heap.push { cls:= .type "dict",data:= .dict #[] }).update x fun o=> { o with dict:=some s.heap.objs.size }).get? s.heap.objs.size=some { cls:= .type "dict",data:= .dict #[] }:=
  (Ao _ _ _ _ c.symm).trans (Ab8 _ rfl)
 have r:((s.heap.push { cls:= .type "dict",data:= .dict #[] }).update x fun o=> { o with dict:=some s.heap.objs.size }).Ns s.heap.objs.size (fun _=>none):=
  ⟨_, #[],_,p,rfl,λe H=>absurd H (by simp),λ_=>rfl⟩
 refine wpAny_bind (wpAny_alloc (wpAny_bind (wpAny_update i (wpAny_pure ?_))))
 refine wpAny_bind (wpAny_pure (wpAny_bind (wpAny_nsSet1 (Heap.Ns1.of_empty r) λh' a g=> ?_)))
 obtain⟨O,J,F,n,m,k⟩:=a.count (PySem.Within.cons f u PySem.Within.nil)
 refine wpAny_bind (wpAny_lookBehind n (by rw [m];exact pastItsLine_dict (Ac k (by rw [Ab4,An2,sizeLine_eq];omega))) ?_)
 refine wpAny_pure (h h' (λb o z e=> ?_) ?_ a)
 ·exact(g.2 b (Ac3 (Ab5 e))).trans ((Ao _ _ _ _ z).trans (Aa2 _ e))
 ·exact(g.2 x c).trans (Ai0 _ i rfl)
end
noncomputable def ZG (K:Frag) (C:Addr):Bool:=match K.lookup C with
 | some ⟨.type "type",_,.cls cd,sl⟩=>(match cd.mro,sl.toList with
  | .ref c::a,[_,_,_,_,y0 (.builtin n),_]=>c==C&&(n== "ValueError.__new__" &&(!cd.hasDel&&(tailIn K Zu a&&nsOkIn K cd.ns)))
  | _,_=>y9)
 | _=>y9
def ZC {K:Frag}(X:K.In h) (q:ZG K C=k9):
 ∃f g nm a bs b sn sub ab col dd k0 k1 k2 k3 k5 mN,h.get? C=y0 (excClassObj nm a C g bs f b sn sub ab col dd k0 k1 k2 k3 k5 "ValueError.__new__")/\h.Ns g mN/\OwnTail h Zu f:=by
 unfold ZG at q
 split at q
 next dd cd sl p=>
  split at q
  next s o k0 k1 k2 k3 nn k5 i n=>
   simp only [Aa7,beq_iff_eq,Ao8]at q
   obtain⟨rfl,rfl,e,r,j⟩:=q
   obtain⟨nm,bs,m,d,a,b,sn,sub,ab,col,k⟩:=cd
   dsimp only at i e j
   subst i e
   have c:sl= #[k0,k1,k2,k3,y0 (.builtin "ValueError.__new__"),k5]:=by
    cases sl with
    | mk l=>exact congrArg Array.mk n
   subst c
   exact⟨o,d,nm,a,bs,b,sn,sub,ab,col,dd,k0,k1,k2,k3,k5,_,X _ _ p,.of_isNs (isNs_of_in X j),tail_of_in X r⟩
  next=>cases q
 next=>cases q
section
variable {prog:Program}{w:World}{A:Around}{E:Value->Shared->Prop}{h:Heap}{g:Array GenState}{d:Drawn}{t:Nat}{os:OsState}{K:Frag}{C fI:Addr}
noncomputable def JO (h:Heap) (C:Addr) (rest:List Value):Heap:=(h.push { cls:= .type "tuple",data:= .seq rest.toArray }).push (xT C h.objs.size none)
def xx {rest:List Value}(e:h.get? b=y0 o):(JO h C rest).get? b=y0 o:=Aa2 _ (Aa2 _ e)
def W1 {rest:List Value}:(JO h C rest).get? (h.objs.size+1)=y0 (xT C h.objs.size u0):=by
 have:=Heap.get?_push_size (h.push { cls:= .type "tuple",data:= .seq rest.toArray }) (o:=xT C h.objs.size none) rfl
 rwa [Ag3]at this
def qbe {rest:List Value}{Q:Value->Shared->Prop}(X:K.In h) (n:ZG K C=true) (q:findIn K (.ref C) "__init__" =some (some (.ref fI))) (s:typeIn K (.ref fI)=some (.type "function")) (c:rest.length<=sizeLine)
 (u:wpAny (model prog w) (A.under (.builtin "type.__call__" ⟨.ref C::rest,[]⟩)) (call (.ref fI) (.ref (h.objs.size+1)::rest)) (fun r s'=>r= .none/\Q (.ref (h.objs.size+1)) s') E ⟨JO h C rest,g,d,t,os⟩):
 wpAny (model prog w) A (call (.ref C) rest) Q E ⟨h,g,d,t,os⟩:=by
 obtain⟨m,B,J,S,bs,v,P,sub,H,l,dd,G,U,I,O,L,N,a,V,T⟩:=ZC X n
 have F:=PySem.F.excBase_ValueError
 have z:=tc_lookup
 have D:=tc_bind (.ref C)
 have R:(⟨h,g,d,t,os⟩:Shared).TypeIs (.ref C) "type" :=⟨_,a,rfl⟩
 refine wpAny_call (codeAny_of_tree ?_)
 show wpAny _ _ (callAny (.ref C) _) _ _ _
 repeat (any_goals (first | assumption | with_reducible refine wpAny_loadPart_at a ?_ | wp_step))
 refine⟨rfl,codeAny_call_builtin_at (Code.quiet_builtin _ (by decide +kernel)) entry_typeCall (wpAny_check_type_call_sub a ?_)⟩
 repeat (first | with_reducible refine wpAny_loadPart_at a ?_ | with_reducible refine wpAny_madeBy_exc a ?_ | wp_step)
 refine codeAny_call_builtin_code (Code.quiet_builtin _ F.quiet) (wpAny_check_new_subT F T a (codeAny_exc_new_subT F T a ?_ c))
 show wpAny _ _ _ _ _ ⟨JO h C rest,g,d,t,os⟩
 have k:K.In (JO h C rest):=λb o e=>xx (X b o e)
 have j:=xx (C:=C) (rest:=rest) a
 have f:(JO h C rest).get? (h.objs.size+1)=y0 { cls:= .ref C,data:= .fields #[.ref h.objs.size,.none,.none,.none,.bool y9,.none] }:=W1
 have i:(Value.ref C::m).contains (.ref C)=true:=by simp
 unfold isInstance
 repeat (first | with_reducible refine wpAny_loadPart_at f ?_ | (with_reducible refine wpAny_isSubtype_exc j ?_;rw [i]) | wp_step)
 show wpAny _ _ (typeLookup (.ref C) _) _ _ _
 refine(looks_findIn (M:=model prog w) k q).at ?_
 refine wpAny_holding (wpAny_bind ((bind_fn (M:=model prog w) k (.ref (h.objs.size+1)) s).at ?_))
 refine wpAny_bind (wpAny_mono u (λr s' y=> ?_) λ_ _ x=>x)
 obtain⟨rfl,p⟩:=y
 wp_walk
 exact p
end
def zau (x C t:Addr) (a:Option Addr):HO:= .ext λh=>h.get? x=y0 (xT C t a)
def qak (e:h.get? x=y0 (xT C t od)):ObjOk P w H h x (zau x C t od):=⟨e,⟨_,e⟩,λ_ _ z k=>k _ z⟩
def qdR (H:Hp) (x:Addr):Hp:=λb=>if b=x then u0 else H b
def zaE (h:b≠x):qdR H x b=H b:=if_neg h
def ZZ :qdR H x x=none:=if_pos rfl
section
variable {X:Cx}{k8:List (Addr×Obj)}{U:St}{H:Hp}{s:Shared}
def Inv.forget (I:Inv X k8 U H s) (a:H x=y0 (.ext g)):Inv X k8 U (qdR H x) s:=by
 have ne: ∀b o,H b=y0 o->(∀ g,o≠ .ext g)->qdR H x b=y0 o:=λb o q n=>by
  rw [zaE (λe=>by rw [e,a]at q;cases q;exact n _ rfl)];exact q
 have nn: ∀b,H b=u0->qdR H x b=none:=λb q=>by
  unfold qdR
  split
  ·rfl
  ·exact q
 refine⟨I.ok,I.os,I.bare,⟨I.base.keep,I.base.slot,λb u e n a=>nn b (I.base.free b u e n a),I.base.there,λb d q=>ne b _ (I.base.tups b d q) (λ_ z=>by cases z),λb u v q=>ne b _ (I.base.frzs b u v q) (λ_ z=>by cases z),λb k q=> ?_⟩,
  I.loc,I.cell,nn _ I.free,λy c q=>nn _ (I.freeC y c q),λp j=> ?_,λb u q=> ?_,I.len⟩
 ·obtain⟨more,i⟩:=I.base.tbls b k q
  exact⟨more,ne b _ i (λ_ z=>by cases z)⟩
 ·obtain⟨h,a2,a3⟩:=I.pin p j
  exact⟨h,nn _ a2,a3⟩
 ·by_cases f:b=x
  ·rw [f,ZZ]at q;cases q
  ·rw [zaE f]at q
   exact(I.hok b u q).stay (λ_ _ _ z=>z) (λc z=>ne c _ z (λ_ z=>by cases z)) λc d z=>ne c _ z (λ_ z=>by cases z)
def Inv.stored (I:Inv X k8 U H s) (j:H x=y0 (zau x C t u0)) (n:RelV y u) (k: ∀b o,b≠x->s.heap.get? b=y0 o->h'.get? b=y0 o)
 (e:h'.get? x=y0 (xT C t (y0 s.heap.objs.size))) (m:h'.Ns1 s.heap.objs.size (λz=>if z=f then y0 u else u0)):
 Inv X k8 U (jd7 (jd7 H s.heap.objs.size (.xd [(f,y)])) x (zau x C t (y0 s.heap.objs.size))) { s with heap:=h',toks:=t' }:=by
 have d:=(I.hok x _ j).1
 have c:=Ac3 (Ab5 d)
 have l:(h'.update x λ_=>xT C t u0).get? x=y0 (xT C t u0):=Ai0 _ e rfl
 have i: ∀b,b≠x->(h'.update x λ_=>xT C t u0).get? b=h'.get? b:=λb a=>Ao _ _ _ _ a
 have p:=I.laid (o:= .xd [(f,y)]) (t':=t') (λb o q=>by
  by_cases a:b=x
  ·subst a;rw [d]at q;cases q;exact l
  ·rw [i b a];exact k b o a q) (Aa5 _) ⟨_,m.at λo q=>(by rw [i _ c.symm];exact q),λg=>by
   by_cases h:g=f
   ·rw [if_pos h]
    subst h
    show RelO (match g==g with | true=>y0 y | false=>u0) _
    rw [beq_self_eq_true]
    exact n
   ·rw [if_neg h]
    show RelO (match g==f with | true=>y0 y | false=>u0) _
    rw [beq_eq_false_iff_ne.mpr h]
    exact trivial⟩
 refine p.write (by rw [qa c,j];exact True.intro) (.inl rfl) (λb o a q=> ?_) ⟨_,e⟩ (qak e)
 exact(i b a).symm.trans q
end
structure jcP (K:Frag) (C:Addr) (f:Str):Prop where
 cls:ZG K C=k9
 ov:zcc K C=k9
 sa:findIn K (.ref C) "__setattr__" =some (some (.builtin "object.__setattr__"))
 no:findIn K (.ref C) f=y0 u0
 kp:keepIn K (.ref C)=k9
noncomputable def jdu (K:Frag) (b c:TE) (f:Str):TS:=λD U H=>c U H λy H1=>b U H1 λx H2=> ∃a C t,x= .ref a/\H2 a=y0 (zau a C t u0)/\jcP K C f/\ ∀dx,H2 dx=u0->dx≠a->D.nx U (jd7 (jd7 H2 dx (.xd [(f,y)])) a (zau a C t (y0 dx)))
def jcI (r:PE X o ta) (n:PE X value tv) (l:swapsWith value (y0 (.Attribute o f pos')) pos.line X.env=pure y9):PS X (.Assign [.Attribute o f pos'] value pos) (jdu X.K ta tv f):=by
 intro b s U H D I h
 refine plainObj_wpAny_Assign_Attribute (jdF (n b s U H _ I h) λu v ⟨y,j,A,z,q⟩=>jdF (r b v U j _ A q) λm B ⟨x,F,g,p,a,C,t,ex,i,c,w⟩=> ?_) l
 subst ex
 obtain rfl:m=Value.ref a:=p
 have d:=(g.hok a _ i).1
 exact qaF g.kIn d c.ov c.sa c.no λE k e hn=>⟨U,_,g.stored i z k e hn,w _ (g.hok.fresh (Aa5 _)) (Al9 (Ab5 d))⟩
noncomputable def xcV (K:Frag) (f:Str):Sp:=λb H Q _=> ∃a v C t,b= [.ref a,v]/\H a=y0 (zau a C t u0)/\jcP K C f/\ ∀dx,H dx=u0->dx≠a->Q .non (jd7 (jd7 H dx (.xd [(f,v)])) a (zau a C t (y0 dx)))
structure QX (K:Frag) (f:Str) (fI:Addr) (fd:FuncData) (ps:List Str):Prop where
 ex: ∃x v8 st N n1 n2 p1 p2 p3 p4,Fun K x v8 st fI fd/\ps= [n1,n2]/\N= [n1,n2]/\Qn N ps (Zb st)/\We st= [.Assign [.Attribute (.Name n1 p1) f p2] (.Name n2 p3) p4]/\(n1==("__debug__" :Str))=false/\(n2==("__debug__" :Str))=false ∧
  (n1==("__classdict__" :Str))=false/\(n2==("__classdict__" :Str))=false
 bd:Binds K fd ps []
 fn:typeIn K (.ref fI)=y0 (.type "function")
def xcz {K:Frag}(Z:QX K f fI fd ps):FnOk P w K mg base (zdN P w) 1 fI fd ps (xcV K f):=by
 obtain⟨x,g,d,N,j,h,L,J,I,G,F,rfl,rfl,S,p,o,r,B,D⟩:=Z.ex
 refine Fun.okX F S (λm H Q E ⟨a,v,C,t,e,_⟩=>by subst e;rfl) ?_
 rintro l A b s H m Q E k ⟨a,v,C,t,e,y,c,q⟩
 subst e
 rw [p]
 have n:xdy (Zb d) j:=(S.par j (by simp)).elim .inl λz=> .inr (.inl z)
 have u:xdy (Zb d) h:=(S.par h (by simp)).elim .inl λz=> .inr (.inl z)
 refine⟨_,zb6 (jcI (Jk (i:=0) rfl n o B) (Jk (i:=1) rfl u r D) (by rfl)),?_⟩
 exact⟨v,rfl,.ref a,rfl,a,C,t,rfl,y,c,q⟩
def jaI {M:Model}{A:Around}{E:Value->Shared->Prop}{s:Shared}{env:Env}{v:Sem Value}{K:Frag}{C:Addr}{Q:Flow->Shared->Prop}(m:ZG K C=k9) (n:A.handled=u0)
 (h:wpAny M A v (λv a=> ∃e t b,v= .ref e/\K.In a.heap/\a.heap.get? e=y0 (xT C t b)/\E (.ref e) a) E s):wpAny M A (raiseStmt env (y0 v) u0) Q E s:=by
 unfold raiseStmt
 refine wpAny_bind (wpAny_mono h (λv a q=> ?_) λ_ _ x=>x)
 obtain⟨e,t,b,rfl,X,p,k⟩:=q
 obtain⟨l,u,D,J,bs,o,I,sub,y,j,dd,w,N,B,H,F,G,i,O,T⟩:=ZC X m
 have c:(Value.ref C::l).contains (.type "BaseException")=true:=by rw [List.contains_cons,T.hasType PySem.F.excBase_ValueError.hasBase,Bool.or_true]
 have f:a.heap.get? e=y0 { cls:= .ref C,dict:=b,data:= .fields #[.ref t,.none,.none,.none,.bool y9,.none] }:=p
 obtain⟨r,g,d,z,L⟩:=a
 repeat (first | with_reducible refine wpAny_loadPart_at f ?_ | with_reducible refine wpAny_loadPart_at i ?_ | (with_reducible refine wpAny_isSubtype_exc i ?_;rw [c]) | wp_step)
 exact wpAny_raiseNew_none n k
section
variable {P:Program}{w:World}{K:Frag}{mg:Str->Option Value}{base:Heap}{N:List Str}{v8:Str}{scope:Scope}{f:Addr}{cd:Value}{A:Around}{outer:List Env}{s:Shared}{H:Hp}{E:XK}
noncomputable def jan (C:Addr) (b:Str) (E:XK) (t:TA):TS:=λ_ U H=>t U H λa H1=> ∃v,a= [v]/\ ∀dx,H1 dx=u0->E (.ref C) (y0 dx) (jd7 H1 dx (.xd [(b,v)]))
def xav (p:jcP K C fl) (T:findIn K (.ref C) "__init__" =some (some (.ref fI))) (Z:QX K fl fI fd ps) (Y:mg x=some (.ref C)) (S:Gl (JM (zdN P w) P w K mg base N v8 scope f cd A outer s H E) x)
 (hr:Room 2 (A.deeper (envOfC v8 scope s.heap.objs.size f cd))) (W:PA (JM (zdN P w) P w K mg base N v8 scope f cd A outer s H E) [e] t)
 (he:starEach [e] (envOfC v8 scope s.heap.objs.size f cd)=(false,eval e (envOfC v8 scope s.heap.objs.size f cd))::starEach [] (envOfC v8 scope s.heap.objs.size f cd):=by rfl) (hd:(x==("__debug__" :Str))=false:=by decide):
 PS (JM (zdN P w) P w K mg base N v8 scope f cd A outer s H E) (.Raise (y0 (.Call (.Name x np) [e] [] y7)) u0 pos) (jan C fl E t):=by
 intro j s1 U R D I h
 rw [arm_exec_Raise]
 refine wpAny_bind (wpAny_standAt (jaI p.cls (I.ok.hd rfl) ?_))
 refine wpAny_bind (wpAny_mono (wpAny_Call_Name_kw (Zw I S Y ?_ hd)) (λv s3 h3=>wpAny_bind (wpAny_standAt (wpAny_pure h3))) λ_ _ x=>x)
 refine callWith_K I.ok.mod.kin p.kp (jdF (W y7 j s1 U R _ I h) λV a ⟨vs,l,k,r,v,Q,q⟩=>⟨k.kIn,?_⟩) he rfl
 subst Q
 obtain⟨u,rfl,B⟩: ∃u,V= [u]/\RelV v u:=by
  cases r with
  | cons B r2=>cases r2;exact⟨_,rfl,B⟩
 have y:=k.laid (h':=JO a.heap C [u]) (t':=a.toks) (λb o z=>xx z) (Ah6 _) (qak W1)
 have d:l (a.heap.objs.size+1)=none:=k.hok.fresh (Ah6 _)
 refine qbe k.kIn p.cls T Z.fn (show 1<=sizeLine by rw [sizeLine_eq];decide) ?_
 have F:=xcz (P:=P) (w:=w) (mg:=mg) (base:=base) Z
 have hl:ps.length=2:=by obtain⟨_,_,_,_,_,_,_,_,_,_,_,rfl,_⟩:=Z.ex;rfl
 refine wpAny_call (codeAny_mono (F.run _ (envOfC v8 scope s.heap.objs.size f cd::outer) _ _ ⟨[.ref (a.heap.objs.size+1),u],[]⟩ [.ref (a.heap.objs.size+1),u] [.ref (a.heap.objs.size+1),v]
  (λO L=>O= .non/\ ∃c,l c=u0/\c≠a.heap.objs.size+1/\L=jd7 (jd7 (jd7 l (a.heap.objs.size+1) (zau (a.heap.objs.size+1) C a.heap.objs.size u0)) c (.xd [(fl,v)])) (a.heap.objs.size+1) (zau (a.heap.objs.size+1) C a.heap.objs.size (y0 c)))
  (λ_ _ _=>False) (hr.make C [u] []) (y.env0.make C [u] []) (by
    have:=Z.bd ⟨JO a.heap C [u],a.gens,a.drawn,a.toks,a.os⟩ [.ref (a.heap.objs.size+1),u] y.kIn (by rw [Ae0,hl];rfl)
    rwa [Ae0]at this) (.cons rfl (.cons B .nil)) ⟨_,v,C,a.heap.objs.size,rfl,xb,p,λc z ne=>⟨rfl,c,by rw [qa ne]at z;exact z,ne,rfl⟩⟩) λres s' i=> ?_)
 cases res with
 | error Q=>
  obtain⟨_,_,_,_,_,_,_,_,_,_,_,_,_,_,_,z⟩:=i
  exact z.elim
 | ok G=>
  cases G with
  | ret u'=>
   obtain⟨O,L,m,rv,rfl,c,X,J,rfl⟩:=y.after i
   refine⟨rv,_,a.heap.objs.size,y0 c,rfl,m.kIn,(m.hok _ _ xb).1,?_⟩
   have M:=m.forget xb
   have eH:qdR (jd7 (jd7 (jd7 l (a.heap.objs.size+1) (zau (a.heap.objs.size+1) C a.heap.objs.size u0)) c (.xd [(fl,v)])) (a.heap.objs.size+1) (zau (a.heap.objs.size+1) C a.heap.objs.size (y0 c))) (a.heap.objs.size+1)=jd7 l c (.xd [(fl,v)]):=by
    funext b
    by_cases n:b=a.heap.objs.size+1
    ·rw [n,ZZ,qa (Ne.symm J),d]
    ·rw [zaE n,qa n]
     by_cases g:b=c
     ·rw [g,xb,xb]
     ·rw [qa g,qa g,qa n]
   rw [eH]at M
   refine XG M (m.hok _ _ xb).1 (Heap.get?_none_of_le (Ac k.sz (Ah6 _))) ?_ (q c X)
   rw [qa (Ne.symm J),d]
  | next=>exact False.elim i
  | brk=>exact False.elim i
  | cont=>exact False.elim i
end
section
variable {prog:Program}{w:World}{A:Around}{E:Value->Shared->Prop}{s:Shared}{K:Frag}{x C dx:Addr}{fl:Str}{u:Value}{ox:Obj}{mA:Str->Option Value}
def zbM (X:K.In s.heap) (q:s.heap.get? x=y0 ox) (z:ox.cls= .ref C) (J:notCls ox=k9) (N:ox.dict=y0 dx) (v:s.heap.Ns1 dx mA) (D:mA fl=y0 u) (F:handedIn u=k9) (y:zcc K C=k9) (H:findIn K (.ref C) fl=y0 u0)
 (f:findIn K (.ref C) "__getattribute__" =some (some (.builtin "BaseException.__getattribute__"))) (P:findIn K (.ref C) "__getattr__" =some none)
 (h:Q u { s with toks:=s.toks+1 }):wpAny (model prog w) A (getAttr (.ref x) fl b) Q E s:=by
 obtain⟨cd,c,a,l⟩:=jax y
 obtain⟨e,g,d,t,G⟩:=s
 dsimp only at X q v h
 obtain⟨p,n,k⟩:=jN v
 have I:PySem.W.InstAt e x ox C (y0 p):=⟨q,z,J,by rw [N];exact n⟩
 have i:findObj K C (y0 p) fl=y0 (.value u):=PySem.W.findObj_own (by unfold hasDictIn;rw [c];exact l) H rfl (by rw [k,D])
 have o:=I.type (M:=model prog w)
 have B:=looks_findIn (M:=model prog w) X f
 have O:=looks_findIn (M:=model prog w) X P
 have L:=looks_find (M:=model prog w) X I i
 have sub:Looks (model prog w) e (isInstance (.ref x) (.type "BaseException")) true:=I.type.andThen (looks_mroIn X (by unfold mroIn;rw [c,Option.bind_some,if_neg (by rw [j2 a];decide),J8 a]))
 have r:=PySem.F.attrBase_ValueError
 have R:=r.ga.bind (.ref x)
 have j:(b&&onTheHeap (Value.builtin "BaseException.__getattribute__"))=false:=by cases b<;>rfl
 unfold getAttr getAttrBy
 refine wpAny_bind (wpAny_mkText (wpAny_holding (wpAny_bind (o.at (wpAny_bind (B.at ?_))))))
 have m:(Value.builtin "BaseException.__getattribute__" ==Value.builtin "object.__getattribute__")=false:=by decide +kernel
 dsimp only
 rw [m,Bool.and_false,if_neg (by decide)]
 unfold getAttrByItsOwn hookBefore
 refine wpAny_bind (O.at (wpAny_bind (wpAny_attempt (wpAny_holding ?_))))
 unfold callGetattribute
 rw [j,if_neg (by decide)]
 repeat (any_goals (first | assumption | wp_step))
 refine codeAny_call_builtin r.ga.plain PySem.F.entry_bexc_ga (@check_slot (model prog w) _ _ ⟨e,g,d,t+1,G⟩ "BaseException.__getattribute__" "BaseException" "__getattribute__" (.ref x) [.str fl t] [] _ (by decide +kernel) (by decide +kernel) sub (PySem.F.args_bexc_ga (.ref x) (.str fl t)) ?_)
 refine wpAny_bind (wpAny_pure (wpAny_bind (wpAny_pure (wpAny_bind (o.at (wpAny_bind (L.at ?_)))))))
 refine wpAny_pure ?_
 show wpAny _ _ (handedOut u) _ _ _
 rw [handedOut_of F]
 exact wpAny_pure h
end
structure xcD (K:Frag) (C:Addr) (f:Str):Prop where
 ov:zcc K C=k9
 no:findIn K (.ref C) f=y0 u0
 ga:findIn K (.ref C) "__getattribute__" =some (some (.builtin "BaseException.__getattribute__"))
 gh:findIn K (.ref C) "__getattr__" =some none
def dI (ks:List Int):HO:= .dK (ks.map λk=>(.inl k,.bl k9))
def zdx (ks:List Int):List (qdK×Value):=ks.map λk=>(.inl k,.bool k9)
theorem qcN: ∀ {ks}{c},KV (ks.map λk=>((.inl k:qdK),V.bl k9)) c->c=zdx ks
 | [],_,.nil=>rfl
 | k::ks,(a,b)::c,.cons r t=>by
  obtain⟨d,e⟩:=r
  dsimp only at d e
  subst d
  cases (e)
  rw [qcN t]
  rfl
theorem zcJ: ∀ks:List Int,KV (ks.map λk=>((.inl k:qdK),V.bl k9)) (zdx ks)
 | []=> .nil
 | k::ks=> .cons ⟨rfl,rfl⟩ (zcJ ks)
def zbp (ks) (k):(valueAt (zdx ks) (.inl k)).isSome=ks.contains k:=by
 unfold valueAt zdx
 rw [Ao2,List.find?_map,Ao2]
 induction ks with
 | nil=>rfl
 | cons a ks b=>
  rw [List.find?_cons,List.contains_cons]
  by_cases h:a=k
  ·subst h;simp
  ·have c:=beq_eq_false_iff_ne.mpr λe=>h e.symm
   rw [c,Bool.false_or,←b]
   simp [h]
def qaZ (ks:List Int) (k:Int):List Int:=if ks.contains k then ks else ks++ [k]
def jbM (ks) (k):stored (zdx ks) (.inl k) (.bool k9)=zdx (qaZ ks k):=by
 have e:(zdx ks).any (λb=>b.1= .inl k)=ks.contains k:=by
  unfold zdx
  rw [List.any_map]
  induction ks with
  | nil=>rfl
  | cons a ks c=>
   rw [Ag2,List.contains_cons,c]
   by_cases h:a=k
   ·subst h;simp
   ·have: ¬k=a:=λe=>h e.symm
    simp [h,this]
 unfold stored qaZ
 rw [e]
 by_cases h:ks.contains k=k9
 ·rw [if_pos h,if_pos h]
  unfold zdx
  rw [Ac8]
  refine Ad6 λa _=> ?_
  simp only [Function.comp]
  split<;>rfl
 ·rw [if_neg h,if_neg h]
  simp [zdx]
section
variable {X:Cx}{k8:List (Addr×Obj)}{U:St}{H:Hp}{s:Shared}{a:Addr}{k:Int}{ks:List Int}{u r:Value}{A:Around}{E:Value->Shared->Prop}
def xbL (I:Inv X k8 U H s) (e:H a=y0 (dI ks)):ks.length<=sizeLine/\(a==sysModules)=y9/\s.heap.DictOf (xD X.prog X.w) a (zdx ks):=by
 obtain⟨z,c,d,b,dd⟩:=(show ObjOk X.prog X.w H s.heap a (dI ks)from I.hok a _ e)
 rw [Aa]at z
 rw [qcN b]at dd
 exact⟨z,c,dd⟩
def zcY (I:Inv X k8 U H s) (e:H a=y0 (dI ks)) (b:RelV (.int k) u) (h: ∀s',Inv X k8 U H s'->Q (.bool (ks.contains k)) s'):wpAny (model X.prog X.w) A (compareOp .In u (.ref a)) Q E s:=by
 obtain⟨z,c,dd⟩:=xbL I e
 obtain⟨t,rfl⟩:=b
 refine wpAny_in_of (Ws _ _ k t) c dd.mapOf ?_
 rw [zbp]
 exact h _ (I.tok _)
def jaX (I:Inv X k8 U H s) (e:H a=y0 (dI ks)) (b:RelV (.int k) u) (h: ∀s',Inv X k8 U H s'->Q (.bool (!ks.contains k)) s'):wpAny (model X.prog X.w) A (compareOp .NotIn u (.ref a)) Q E s:=by
 obtain⟨z,c,dd⟩:=xbL I e
 obtain⟨t,rfl⟩:=b
 refine wpAny_notIn_of (Ws _ _ k t) c dd.mapOf ?_
 rw [zbp]
 exact h _ (I.tok _)
def zcs (I:Inv X k8 U H s) (e:H a=y0 (dI ks)) (m:RelV (.int k) u) (n:ks.length<sizeLine) (h: ∀s',Inv X k8 U (jd7 H a (dI (qaZ ks k))) s'->Q () s'):wpAny (model X.prog X.w) A (setItem (.ref a) u (.bool k9)) Q E s:=by
 obtain⟨z,l,dd⟩:=xbL I e
 obtain⟨t,rfl⟩:=m
 refine wpAny_setItem_pairs (hsz:=by unfold zdx;rw [Aa];exact z) (Ws _ _ k t) dd λi b d=>h _ ?_
 rw [jbM]at b
 have j: ∃q,i.get? a=y0 q:=let ⟨q,_,_,g,_⟩:=b; ⟨q,g⟩
 refine I.write (by rw [e];exact True.intro) (.inl rfl) (λf q c z=>(d.2 f c).trans z) j ⟨?_,l,_,zcJ _,b⟩
 rw [Aa]
 unfold qaZ
 split
 ·exact z
 ·rw [Aa8,Af4];omega
def zck:TE:=λ_ H Q=> ∀p,H p=u0->Q (.ref p) (jd7 H p (dI []))
def zaU :PE X (.Dict [] [] pos) zck:=λa s U H Q I h=>
 wpAny_Dict_empty ⟨.ref s.heap.objs.size,_,I.laid (o:=dI []) (λ_ _ q=>Aa2 _ q) (Aa5 _) ⟨Ah2 _,beq_eq_false_iff_ne.mpr (Ne.symm (Ac3 (qaQ I))),[],.nil,Heap.DictOf.new _⟩,rfl,h _ (I.hok.fresh (Aa5 _))⟩
end
def Jn {K:Frag}(X:K.In s.heap) (I:ExcAt s.heap x C) (z:kitCls K (.ref C) (.ref W)=some b) (g:mroIn K W (.type "BaseException")=some true) (a:Q b s):
 wpAny (model prog w) A (excMatches (.ref x) (.ref W)) Q E s:=by
 obtain⟨c,m,dd,k,j⟩:=s
 obtain⟨f,d,n⟩:=kit_cls X z
 have e:=looks_mroIn (M:=model prog w) X g
 have h:=I.type (M:=model prog w)
 have i:Looks (model prog w) c (isInstance (.ref W) (.type "tuple")) false:=f.andThen (Looks.of_pure tc_notTuple)
 have l:Looks (model prog w) c (isExcClass (.ref W)) true:=d.andThen e
 cases b with
 | true=>repeat lk
         exact a
 | false=>repeat lk
          exact a
noncomputable def jcW (K:Frag) (W i:Addr) (g:Sp) (t:TA) (d e:Nat) (b h:Str):TS:=λD U H=>t U H λf H1=>g f H1 (λ_ H2=>D.nx U H2) λa c H2=> ∃C,a= .ref C/\qc9 K C ∧
 ((kitCls K (.ref C) (.ref W)=y0 k9/\ ∃dx y,c=y0 dx/\H2 dx=y0 (.xd [(b,y)])/\xcD K C b/\ ∀x,H2 x=u0->D.nx (((U.set d (y0 (.ref x))).set e (y0 y)).set d u0) (jd7 H2 x (qaG x C c))) ∨
   (kitCls K (.ref C) (.ref W)=y0 y9/\kitCls K (.ref C) (.ref i)=y0 k9/\D.nx (U.set e (y0 (.str h))) H2))
def qbQ 
 (hX: ∀a b, ¬X.xe a b) (A:X.stack=X.env::X.outer) (hf:X.env.frame=y0 X.env.locals) (hex:X.ex= []) (F:FnOk X.prog X.w X.K X.mg X.base (zdN X.prog X.w) k f fd ps sp) (hr:Room k X.A) (hg:Gl X fx) (hm:X.mg fx=y0 (.ref f))
 (hk:keepIn X.K (.ref f)=true) (hb:Binds X.K fd ps []) (ha:PA X (e::es) t) (hW:Gl X wx) (hmW:X.mg wx=some (.ref W)) (hbW:mroIn X.K W (.type "BaseException")=some true) (hW2:Gl X wy) (hmW2:X.mg wy=some (.ref W2)) (hbW2:mroIn X.K W2 (.type "BaseException")=some true)
 (hN:X.N.Nodup) (L:X.N[ie]? =y0 n) (w:X.env.scope.names.lookup n=y0 .local) (hiv:X.N[iv]? =y0 v) (J:X.env.scope.names.lookup v=y0 .local)
 (hs:swapsWith (.Call (.Name fx p) (e::es) [] cp) u0 ep.line X.env=pure false:=by rfl) (hs2:swapsWith (.Attribute (.Name n np) fl fp) (y0 (.Name v vp)) ap.line X.env=pure false:=by rfl) (hs3:swapsWith (.Constant (.str tx) j cq) (y0 (.Name v vq)) aq.line X.env=pure false:=by rfl)
 (hdb:(fx==("__debug__" :Str))=false:=by decide) (hdW:(wx==("__debug__" :Str))=false:=by decide) (hdW2:(wy==("__debug__" :Str))=false:=by decide) (hdn:(n==("__debug__" :Str))=false:=by decide) (he:starEach (e::es) X.env=(false,eval e X.env)::starEach es X.env:=by rfl) (hpl:(backTo cp (starEach es X.env)).any (·.1)=false:=by rfl)
 (hab:attributeBase (.Name n np) fl X.env (eval (.Name n np) X.env)=eval (.Name n np) X.env:=by rfl):
 PS X (.Try [.Expr (.Call (.Name fx p) (e::es) [] cp) ep] [.ExceptHandler (y0 (.Name wx wp0)) (y0 n) [.Assign [.Name v vp] (.Attribute (.Name n np) fl fp) ap] hp,.ExceptHandler (y0 (.Name wy wq)) u0 [.Assign [.Name v vq] (.Constant (.str tx) j cq) aq] hq'] [] [] pos) (jcW X.K W W2 sp t ie iv fl tx):=by
 intro P s U H D I h
 refine wpAny_Try_except ?_
 refine wpAny_execs_cons (wpAny_Expr_any ?_ I.quiet hs)
 refine wpAny_Call_Name_kw (Zw I hg hm ?_ hdb)
 refine callWith_K (h₀:=X.base) I.ok.mod.kin hk (wpAny_mono (ha cp P s U H _ I h) (λus s1 ⟨vs,H1,i,r,q⟩=>⟨i.kIn,?_⟩) λ_ _ z=>(hX _ _ z).elim) he hpl
 have hl:(us++ []).length=ps.length:=by rw [Ae0,←r.length];exact F.len _ _ _ _ q
 refine wpAny_call (codeAny_mono (F.run X.A X.stack s1 H1 ⟨us,[]⟩ (us++ []) vs _ _ hr i.env0 (hb s1 us i.kIn hl) (by rw [Ae0];exact r) q) λres s' hq=> ?_)
 cases res with
 | ok fl=>
  cases fl with
  | ret u=>
   obtain⟨y,H2,I2,_,q2⟩:=i.after hq
   exact wpAny_execs_nil (wpAny_execs_nil ⟨U,H2,I2,q2⟩)
  | next=>exact False.elim hq
  | brk=>exact False.elim hq
  | cont=>exact False.elim hq
 | error ev=>
  obtain⟨x,N,tt,B,H',od,rfl,os,E,fly,un,K,comp,new,dic,C,hC,Z,q2⟩:=hq
  cases hC
  have hfr:X.A.frames=y0 (X.env::X.outer):=by rw [← A];exact i.ok.frames
  have fl0:Al6 B (X.env::X.outer) x (.ref N) (.ref tt) s'.heap:=by rw [← A];exact fly
  refine WT (R:=λh4=>Heap.HeldW B (X.env::X.outer) x (.ref N) (.ref tt) X.env.locals h4/\s'.heap.UpToSlots h4) (zar _ _) (λQ' k=>wpAny_looks_onW hfr hf fl0 λh4 a b=>k h4 ⟨a,b⟩) ?_
  rintro h4 ⟨held,sm4⟩ dk4
  refine WT (R:=λh5=>Al6 B (X.env::X.outer) x (.ref N) (.ref tt) h5/\h4.UpToSlots h5) (ZE _ _) (λQ' k=>wpAny_landsW held λh5 a b=>k h5 ⟨a,b⟩) ?_
  rintro h5 ⟨M,S⟩ dk5
  have l:=JI i os E un K comp (by rw [A];exact M) (sm4.trans S)
  have T:ExcAt h5 x N:=M.there
  refine wpAny_handleBy_cons (codeAny_handlers_test (Calls.Name_function_global l.ok.kind hW (Calls.loadGlobal_global (by rw [l.ok.glob];exact l.mod.glob.keeps l.bk) hmW ?_) hdW)) (λz=>nomatch z)
  rcases q2 with⟨kc,O,y,rfl,hdx,xg,q2⟩ | ⟨kc,kc2,q2⟩
  ·refine Jn l.kIn T kc hbW ?_
   refine codeAny_handlers_suite_as ?_
   refine WT (R:=λQ=>Al6 B (X.env::X.outer) x (.ref N) (.ref tt) Q/\h5.UpToSlots Q) (ZE _ _) (λQ' k=>lands_againW M λQ a b=>k Q ⟨a,b⟩) ?_
   rintro Q ⟨G,V⟩ dk6
   have I6:=JI i os E un K comp (by rw [A];exact G) ((sm4.trans S).trans V)
   have Y:H' x=none:=by
    cases z:H' x with
    | none=>rfl
    | some u=>
     obtain⟨o,e1⟩:=(K x u z).there
     have nf:x∉qdZ X.stack:=λhx=>by
      obtain⟨_,o2,e2,_⟩:=i.stack.mem hx
      rw [new]at e2
      cases e2
     have e3:=comp x o e1 (.inl ⟨u,z⟩) nf
     rw [fly.2.1]at e3
     cases e3
   have d: ∀b o,s1.heap.get? b=y0 o->b≠x:=λb o z e=>by rw [e,new]at z;cases z
   obtain⟨o6,vs6,e6,c6,d6,_⟩:=G.first
   have I7:Inv X P U (jd7 H' x (qaG x N (y0 O))) { s' with heap:=Q }:=by
    refine I6.adoptO Y (λz=> ?_) (λy c z=> ?_) (λp hp=> ?_) (λb u z=> ?_) (qb3 e6 c6 (by unfold notCls;rw [d6]) λdx' z=> ?_)
    ·obtain⟨m,⟨o,_,_,ho,_⟩,_⟩:=i.loc
     exact d _ o ho z.symm
    ·obtain⟨_,o,ho,_⟩:=i.cell y c z
     exact d c o ho
    ·exact d p.1 _ (i.pin p hp).1
    ·obtain⟨o,ho⟩:=i.base.there b u z (by rw [hex];simp)
     exact d b o ho
    ·obtain⟨o,e0,d0⟩:=dic dx' z
     obtain⟨o',e1,d1⟩:=((dk4.trans dk5).trans dk6) x o e0
     have:=e6.symm.trans e1
     cases this
     exact d1.trans d0
   refine zl I7 hN L (.inl w) (v:= .ref x) rfl (λs8 I8=> ?_) (.inr w)
   have hiU:ie<U.length:=by rw [I.len];exact(Ac2.mp L).1
   obtain⟨m8,hn8,hl8⟩:=I8.loc
   obtain⟨u8,r8,l8⟩:=hl8 ie n (.ref x) L (Ad5 hiU) (.inl w)
   cases r8
   have hk8:X.env.kindOf n=y0 .local:=w
   have em:m8 n=y0 (.ref x):=by
    rcases l8 with⟨_,z⟩ | ⟨z,_⟩
    ·exact z
    ·rcases z with z | z<;>(rw [hk8]at z;cases z)
   have ea:jd7 H' x (qaG x N (y0 O)) x=y0 (qaG x N (y0 O)):=xb
   have edx:jd7 H' x (qaG x N (y0 O)) O=y0 (.xd [(fl,y)]):=by rw [qa (Xa hdx Y)];exact hdx
   obtain⟨o8,ho8,hc8,hn8',hd8⟩:=(I8.hok x _ ea).1
   obtain⟨mA,hmA,rA⟩: ∃mA,s8.heap.Ns1 O mA/\ ∀g,RelO (List.lookup g [(fl,y)]) (mA g):=I8.hok O _ edx
   have rf:=rA fl
   rw [show List.lookup fl [(fl,y)]=y0 y by simp [List.lookup]]at rf
   obtain⟨u',hu,ru⟩:=RelO.some_of rf
   refine wpAny_execs_cons (wpAny_Assign_Name (xbO hab (wpAny_Name (wpAny_loadName_local I8.ok.kind hk8 hn8 em ?_) hdn)) hs2)
   refine zbM I8.kIn ho8 hc8 hn8' (hd8 O rfl) hmA hu (xao ru) xg.ov xg.no xg.ga xg.gh ?_
   refine zl (I8.tok _) hN hiv (.inl J) (v:=y) ru (λs9 I9=> ?_) (.inr J)
   refine wpAny_execs_nil ?_
   exact jav I9 hN L w λs10 I10=>⟨_,_,I10,q2 x Y⟩
  ·refine Jn l.kIn T kc hbW ?_
   refine wpAny_handleBy_cons (codeAny_handlers_test (Calls.Name_function_global l.ok.kind hW2 (Calls.loadGlobal_global (by rw [l.ok.glob];exact l.mod.glob.keeps l.bk) hmW2 ?_) hdW2)) (λz=>nomatch z)
   refine Jn l.kIn T kc2 hbW2 ?_
   refine codeAny_handlers_suite ?_
   refine lands_againW M λQ G V=> ?_
   have I6:=JI i os E un K comp (by rw [A];exact G) ((sm4.trans S).trans V)
   refine wpAny_execs_cons (wpAny_Assign_Name (Calls.Constant_str ?_) hs3)
   refine zl (I6.tok _) hN hiv (.inl J) (v:= .str tx) ⟨_,rfl⟩ (λs9 I9=> ?_) (.inr J)
   exact wpAny_execs_nil ⟨_,_,I9,q2⟩
end L2
set_option genSizeOfSpec false
namespace M
abbrev Tx:=List Nat
def zbt: ∃n:Nat,n=1000000:=⟨_,rfl⟩
noncomputable def LIM:Nat:=Ah4 zbt
def Gk:LIM=1000000:=Ag0 zbt
def xby: ∃n:Int,n=1073741824:=⟨_,rfl⟩
noncomputable def xd5:Int:=Ah4 xby
def G8:xd5=1073741824:=Ag0 xby
def xbo: ∃n:Int,n=2 ^ 62:=⟨_,rfl⟩
noncomputable def jdG:Int:=Ah4 xbo
def Pc:jdG=2 ^ 62:=Ag0 xbo
def zbB: ∃n:Int,n=2 ^ 64:=⟨_,rfl⟩
noncomputable def qdz:Int:=Ah4 zbB
def Pa:qdz=2 ^ 64:=Ag0 zbB
def jce: ∃n:Int,n=1000000:=⟨_,rfl⟩
noncomputable def BP:Int:=Ah4 jce
def KR:BP=1000000:=Ag0 jce
def jbD: ∃n:Nat,n=2 ^ 64:=⟨_,rfl⟩
noncomputable def jdz:Nat:=Ah4 jbD
def G9:jdz=2 ^ 64:=Ag0 jbD
inductive D where
 | non
 | bl (b:Bool)
 | int (i:Int)
 | str (s:Tx)
 | tup (xs:List D)
 | lst (xs:List D)
 | ref (r:Nat)
 | exc (c:String) (fs:List (Tx×D))
 | err (c f:String) (d:D)
inductive W where
 | v (d:D)
 | own (xs:List D)
 | bor (xs:List D)
abbrev WK:=Int×List Int×List Int
inductive Cell where
 | lst (xs:List D)
 | dic (ks:List WK)
 | dii (ks:List Int)
 | obj (c:String) (fs:List (String×D))
abbrev AH:=List Cell
abbrev Sl:=List (Option W)
inductive R (α:Type) where
 | ok (a:α) (h:AH)
 | exc (d:D) (h:AH)
 | fail
def R.bind {b c:Type}:R b->(b->AH->R c)->R c
 | .ok a h,f=>f a h
 | .exc d h,_=> .exc d h
 | .fail,_=> .fail
inductive O where
 | next (Y:Sl) (h:AH)
 | ret (w:W) (h:AH)
 | brk (Y:Sl) (h:AH)
 | cont (Y:Sl) (h:AH)
 | exc (d:D) (h:AH)
 | fail
def O.seq:O->(Sl->AH->O)->O
 | .next Y h,f=>f Y h
 | o,_=>o
def R.toO {b:Type}:R b->(b->AH->O)->O
 | .ok a h,f=>f a h
 | .exc d h,_=> .exc d h
 | .fail,_=> .fail
section
variable {α β:Type}
@[simp] theorem R.bind_ok (a) (h) (f:α->AH->R β):(R.ok a h).bind f=f a h:=rfl
@[simp] theorem R.toO_ok (a) (h) (f:α->AH->O):(R.ok a h).toO f=f a h:=rfl
@[simp] theorem O.seq_next (Y) (h) (f):(O.next Y h).seq f=f Y h:=rfl
@[simp] theorem O.seq_ret (w) (h) (f):(O.ret w h).seq f= .ret w h:=rfl
@[simp] theorem O.seq_exc (d) (h) (f):(O.exc d h).seq f= .exc d h:=rfl
end
inductive Op where
 | add | sub | mul | fdiv | mod | pow | shl | shr | band | bor | bxor
 deriving DecidableEq
inductive Cp where
 | eq | ne | lt | le | gt | ge | mem | nmem | isb
 deriving DecidableEq
inductive Ty where
 | non | bool | int | str | list | tuple
 deriving DecidableEq
inductive Mt where
 | index | count
 deriving DecidableEq
inductive Bi where
 | len | int | list | tuple | sum | all | any | sorted | divmod | str | min | max | abs
 deriving DecidableEq
set_option genInjectivity false
mutual
inductive E where
 | var (i:Nat)
 | con (x:String)
 | int (i:Int)
 | bl (b:Bool)
 | non
 | str (s:Tx)
 | tup (es:Es)
 | lst (es:Es)
 | bin (o:Op) (a b:E)
 | cmp (o:Cp) (a b:E)
 | chain (o p:Cp) (a b c:E)
 | isn (neg:Bool) (a:E)
 | neg (a:E)
 | inv (a:E)
 | not (a:E)
 | and (a b:E)
 | or (a b:E)
 | call (f:String) (es:Es)
 | bi (b:Bi) (es:Es)
 | isT (a:E) (t:Ty)
 | ix (a b:E)
 | sl (a lo hi:E)
 | slL (a lo:E)
 | slH (a hi:E)
 | comp (tg:List Nat) (one:Bool) (k:Nat) (cap:List Nat) (it:It) (v7:Bool) (c elt:E)
 | dnew
 | dnewI
 | dinI (neg:Bool) (a:E) (i:Nat)
 | din (neg:Bool) (a:E) (i:Nat)
 | dlen (i:Nat)
 | share (a:E)
 | lenset (a:E)
 | meth (m:Mt) (a:E) (es:Es)
inductive Es where
 | nil
 | cons (e:E) (es:Es)
inductive It where
 | seq (e:E)
 | range1 (a:E)
 | range2 (a b:E)
 | rev (e:E)
 | zip (a b:E)
 | enum (e:E)
end
set_option genInjectivity true
mutual
inductive S where
 | set (i:Nat) (e:E)
 | setf (i:Nat) (e:E)
 | unp (is:List Nat) (e:E)
 | setix (i:Nat) (k e:E)
 | app (i:Nat) (e:E)
 | ext (i:Nat) (e:E)
 | mv (i j:Nat)
 | dput (i:Nat) (e:E)
 | dputI (i:Nat) (e:E)
 | appR (i:Nat) (e:E)
 | popR (i j:Nat)
 | popU (i:Nat) (is:List Nat)
 | freeze (i:Nat)
 | ex (e:E)
 | ret (e:E)
 | iff (c:E) (a b:Ss)
 | whl (n:Nat) (c:E) (b:Ss)
 | for (tg:List Nat) (one:Bool) (it:It) (b:Ss)
 | raise (c:String) (es:Es)
 | tryf (f:String) (es:Es) (c:String) (nm iv:Nat) (fl c2:String) (tx:Tx)
 | raisf (c f:String) (e:E)
 | nope
inductive Ss where
 | nil
 | cons (s:S) (ss:Ss)
end
noncomputable section
mutual
@[simp,reducible] noncomputable def Gc:D->Bool
 | .ref _=>y9
 | .tup xs=>Gf xs
 | .lst xs=>Gf xs
 | .exc _ _=>y9
 | .err _ _ _=>y9
 | _=>k9
@[simp,reducible] noncomputable def Gf:List D->Bool
 | []=>k9
 | x::xs=>Gc x&&Gf xs
end
mutual
@[simp,reducible] noncomputable def dep:D->Nat
 | .tup xs=>KN xs+1
 | .lst xs=>KN xs+1
 | _=>0
@[simp,reducible] noncomputable def KN:List D->Nat
 | []=>0
 | x::xs=>max (dep x) (KN xs)
end
@[reducible] def KP (a b:D):Bool:=Gc a&&Gc b&&v9 (dep a<150)
mutual
@[simp] noncomputable def res (h:AH):D->D
 | .ref r=>match h[r]? with
  | some (.lst xs)=> .lst xs
  | _=> .ref r
 | .tup xs=> .tup (KS h xs)
 | .lst xs=> .lst (KS h xs)
 | d=>d
@[simp] noncomputable def KS (h:AH):List D->List D
 | []=> []
 | x::xs=>res h x::KS h xs
end
mutual
@[simp] noncomputable def eqD:D->D->Bool
 | .non,.non=>k9
 | .bl a,.bl b=>a==b
 | .int i,.int j=>i==j
 | .bl a,.int j=>(a.toNat:Int)==j
 | .int i,.bl b=>i==(b.toNat:Int)
 | .str s,.str t=>s==t
 | .tup xs,.tup ys=>Kv xs ys
 | .lst xs,.lst ys=>Kv xs ys
 | _,_=>y9
@[simp] noncomputable def Kv:List D->List D->Bool
 | [],[]=>k9
 | x::xs,y::ys=>eqD x y&&Kv xs ys
 | _,_=>y9
end
def chs (s:Tx):List D:=s.map λc=> .str [c]
def W.d:W->Option D
 | .v d=>y0 d
 | .own xs=>y0 (.lst xs)
 | .bor _=>u0
def W.arg:W->W
 | .own xs=> .bor xs
 | w=>w
@[simp] theorem W.arg_v (d):(W.v d).arg= .v d:=rfl
@[simp] theorem W.arg_own (xs):(W.own xs).arg= .bor xs:=rfl
@[simp] theorem W.arg_bor (xs):(W.bor xs).arg= .bor xs:=rfl
def W.dd (h:AH):W->D
 | .v d=>res h d
 | .own xs=> .lst (KS h xs)
 | .bor xs=> .lst (KS h xs)
noncomputable def W.lst? (h:AH):W->Option (List D)
 | .v (.lst xs)=>y0 xs
 | .own xs=>y0 xs
 | .bor xs=>y0 xs
 | .v (.ref r)=>match h[r]? with
  | some (.lst xs)=>y0 xs
  | _=>u0
 | _=>u0
noncomputable def W.seq? (h:AH):W->Option (List D)
 | .v (.tup xs)=>y0 xs
 | .v (.lst xs)=>y0 xs
 | .own xs=>y0 xs
 | .bor xs=>y0 xs
 | .v (.ref r)=>match h[r]? with
  | some (.lst xs)=>y0 xs
  | _=>u0
 | _=>u0
def R.of {b:Type}(h:AH):Option b->R b
 | some a=> .ok a h
 | none=> .fail
@[simp] abbrev okv (d:D) (h:AH):R W:= .ok (.v d) h
noncomputable def KW (h:AH):W->Option Bool
 | .v .non=>y0 y9
 | .v (.bl b)=>y0 b
 | .v (.int i)=>y0 (i != 0)
 | .v (.str s)=>if s.length<=LIM then y0 (!s.isEmpty)else u0
 | .v (.tup xs)=>y0 (!xs.isEmpty)
 | .v (.lst xs)=>y0 (!xs.isEmpty)
 | .own xs=>y0 (!xs.isEmpty)
 | .bor xs=>y0 (!xs.isEmpty)
 | _=>u0
@[simp] theorem R.of_some (h) (a:α):R.of h (y0 a)= .ok a h:=rfl
@[simp] theorem W.d_v (d):(W.v d).d=y0 d:=rfl
@[simp] theorem W.d_own (xs):(W.own xs).d=y0 (.lst xs):=rfl
@[simp] theorem W.dd_v (h) (d):(W.v d).dd h=res h d:=rfl
@[simp] theorem W.dd_own (h) (xs):(W.own xs).dd h= .lst (KS h xs):=rfl
@[simp] theorem W.dd_bor (h) (xs):(W.bor xs).dd h= .lst (KS h xs):=rfl
@[simp] theorem GZ (h) (b):KW h (.v (.bl b))=y0 b:=rfl
@[simp] theorem zW (h) (i):KW h (.v (.int i))=y0 (i != 0):=rfl
noncomputable def KZ (i j:Int):Option Int:=
 if 0<=i then(if 0<=j then y0 ((i.toNat &&& j.toNat:Nat):Int)else y0 ((i.toNat-(i.toNat &&& (-j-1).toNat):Nat):Int))else u0
def orI (i j:Int):Option Int:=if 0<=i/\0<=j then y0 ((i.toNat ||| j.toNat:Nat):Int)else u0
def qdu (i j:Int):Option Int:=if 0<=i/\0<=j then y0 ((i.toNat ^^^ j.toNat:Nat):Int)else u0
noncomputable def Gn (o:Op) (i j:Int):Option Int:=match o with
 | .add=>y0 (i+j)
 | .sub=>y0 (i-j)
 | .mul=>if(-(qdz)<i/\i<qdz)\/(-(qdz)<j/\j<qdz)then y0 (i*j)else u0
 | .fdiv=>if 0<j/\j<xd5 then y0 (i / j)else u0
 | .mod=>if 0<j then y0 (i % j)else u0
 | .pow=>if 0<=j/\j<=BP/\i.natAbs<jdz then y0 (i ^ j.toNat)else u0
 | .shl=>if 0<=j/\j<=BP/\i.natAbs<jdz then y0 (i*2 ^ j.toNat)else u0
 | .shr=>if 0<=j then y0 (i / 2 ^ j.toNat)else u0
 | .band=>KZ i j
 | .bor=>orI i j
 | .bxor=>qdu i j
def W.int? :W->Option Int
 | .v (.int i)=>y0 i
 | _=>u0
def W.str? :W->Option Tx
 | .v (.str s)=>y0 s
 | _=>u0
def W.tup? :W->Option (List D)
 | .v (.tup s)=>y0 s
 | _=>u0
def Py (xs a:List D) (h:AH):R W:=if xs.length+a.length<=LIM then .ok (.own (xs++a)) h else .fail
noncomputable def Pt (xs:List D) (j:Int) (h:AH):R W:=if -1000<=j/\j<=1000/\xs.length*j.toNat<=LIM then .ok (.own (Ab0 j.toNat xs).flatten) h else .fail
noncomputable def Pw (a b:W) (h:AH):R W:=match a.tup?,b.tup? with
 | some xs,y0 ys=>if xs.length+ys.length<=LIM then okv (.tup (xs++ys)) h else .fail
 | _,_=>match a.lst? h,b.lst? h with
  | some xs,y0 ys=>Py xs ys h
  | _,_=> .fail
noncomputable def W.lstO? (h:AH):W->Option (List D)
 | .own xs=>y0 xs
 | .bor xs=>y0 xs
 | .v (.ref r)=>match h[r]? with
  | some (.lst xs)=>y0 xs
  | _=>u0
 | _=>u0
def Pv (a b:W) (h:AH):R W:=match a.lstO? h,b.int? with
 | some xs,y0 j=>Pt xs j h
 | _,_=> .fail
noncomputable def Pf (o:Op) (a b:W) (h:AH):R W:=match a.int?,b.int? with
 | some i,y0 j=>(R.of h (Gn o i j)).bind λk h=>okv (.int k) h
 | _,_=>match o with
  | .add=>Pw a b h
  | .mul=>Pv a b h
  | _=> .fail
def inD (x:D) (xs:List D):Bool:=xs.any λy=>eqD y x
@[simp,reducible] def KL:D->Bool
 | .non=>k9
 | .bl _=>k9
 | .int _=>k9
 | .str _=>k9
 | _=>y9
noncomputable def Ps (a b:W) (h:AH):Option Bool:=match b.dd h with
 | .lst ys=>if Gc (a.dd h)&&Gf ys&&v9 (KN ys<140)then y0 (inD (a.dd h) ys)else u0
 | _=>u0
noncomputable def Pe (a b:W) (h:AH):Option Bool:=match a.d,b.seq? h with
 | some d,y0 xs=>if KL d&&xs.all KL then y0 (inD d xs)else Ps a b h
 | _,_=>u0
noncomputable def Pq (o:Cp) (i j:Int):Option Bool:=match o with
 | .lt=>y0 (v9 (i<j))
 | .le=>y0 (v9 (i<=j))
 | .gt=>y0 (v9 (j<i))
 | .ge=>y0 (v9 (j<=i))
 | _=>u0
def Pu:W->W->Option Bool
 | .v .non,.v (.bl _)=>y0 y9
 | .v (.bl b),.v (.bl c)=>y0 (b==c)
 | _,_=>u0
noncomputable def Gz (o:Cp) (a b:W) (h:AH):Option Bool:=match o with
 | .eq=>if KP (a.dd h) (b.dd h)then y0 (eqD (a.dd h) (b.dd h))else u0
 | .ne=>if KP (a.dd h) (b.dd h)then y0 (!eqD (a.dd h) (b.dd h))else u0
 | .mem=>Pe a b h
 | .nmem=>(Pe a b h).map (!·)
 | .isb=>Pu a b
 | o=>match a.int?,b.int? with
  | some i,y0 j=>Pq o i j
  | _,_=>u0
noncomputable def ixN (n:Nat) (i:Int):Option Nat:=if 0<=i then(if i<n then y0 i.toNat else u0)else if -(n:Int)<=i then y0 (i+n).toNat else u0
def atI {a:Type}(xs:List a) (i:Int):Option a:=(ixN xs.length i).bind λj=>xs[j]?
def ixD (a b:W) (h:AH):Option D:=match b.int? with
 | some i=>(a.seq? h).bind λxs=>atI xs i
 | none=>u0
def sIx (n d:Nat):Option Int->Nat
 | none=>d
 | some v=>if v<0 then(v+n).toNat else min v.toNat n
noncomputable def cut {a:Type}(xs:List a) (b c:Option Int):List a:=(xs.drop (sIx xs.length 0 b)).take (sIx xs.length xs.length c-sIx xs.length 0 b)
noncomputable def slD (a:W) (b c:Option Int) (h:AH):R W:=match a.tup? with
 | some xs=>okv (.tup (cut xs b c)) h
 | none=>match a.lst? h with
  | some xs=> .ok (.own (cut xs b c)) h
  | none=> .fail
def Pp:List D->Option Int
 | []=>y0 0
 | .int i::r=>(Pp r).map (i+ ·)
 | _::_=>u0
def GM:List D->Option (List Int)
 | []=>y0 []
 | .int i::r=>(GM r).map (i:: ·)
 | _::_=>u0
def KJ:List D->Option (List Tx)
 | []=>y0 []
 | .str s::r=>(KJ r).map (s:: ·)
 | _::_=>u0
def xds:List Int->Option Int
 | []=>u0
 | i::r=>y0 (r.foldl (λa b=>if b>a then b else a) i)
def zdq:List Int->Option Int
 | []=>u0
 | i::r=>y0 (r.foldl (λa b=>if b<a then b else a) i)
def zdb (x:Tx):List Tx->List Tx
 | []=> [x]
 | y::ys=>if y<x then y::zdb x ys else x::y::ys
def qci:List Tx->List Tx
 | []=> []
 | x::xs=>zdb x (qci xs)
def jde (x:Int):List Int->List Int
 | []=> [x]
 | y::ys=>if y<x then y::jde x ys else x::y::ys
def zbQ:List Int->List Int
 | []=> []
 | x::xs=>jde x (zbQ xs)
noncomputable def jc7:List Int->List Int->Bool
 | [],[]=>y9
 | [],_::_=>k9
 | _::_,[]=>y9
 | x::xs,y::ys=>if x=y then jc7 xs ys else v9 (x<y)
def Pi (x:Tx):List Tx->Option Nat
 | []=>u0
 | y::ys=>if y=x then y0 0 else(Pi x ys).map (· +1)
def Pn:List D->Option (List Bool)
 | []=>y0 []
 | .bl b::r=>(Pn r).map (b:: ·)
 | _::_=>u0
noncomputable def bi1 (b:Bi) (w:W) (h:AH):R W:=match b with
 | .len=>match w.str? with
  | some s=>if s.length<=LIM then okv (.int s.length) h else .fail
  | none=>(R.of h (w.seq? h)).bind λxs h=>okv (.int xs.length) h
 | .int=>match w with
  | .v (.int i)=>okv (.int i) h
  | .v (.bl b)=>okv (.int (b.toNat:Int)) h
  | _=> .fail
 | .list=>(R.of h (w.seq? h)).bind λxs h=> .ok (.own xs) h
 | .tuple=>(R.of h (w.seq? h)).bind λxs h=>okv (.tup xs) h
 | .sum=>(R.of h ((w.lst? h).bind λxs=>if xs.length<=LIM then Pp xs else u0)).bind λi h=>okv (.int i) h
 | .all=>(R.of h ((w.lst? h).bind Pn)).bind λbs h=>okv (.bl (bs.all id)) h
 | .any=>(R.of h ((w.lst? h).bind Pn)).bind λbs h=>okv (.bl (bs.any id)) h
 | .max=>(R.of h (((w.lst? h).bind GM).bind xds)).bind λi h=>okv (.int i) h
 | .min=>(R.of h (((w.lst? h).bind GM).bind zdq)).bind λi h=>okv (.int i) h
 | .sorted=>(R.of h ((w.lst? h).bind KJ)).bind λts h=>if ts.length<64 then .ok (.own ((qci ts).map .str)) h else .fail
 | _=> .fail
def xcT (m:Mt) (x:W) (h:AH):Bool:=match m with
 | .index=>x.tup?.isSome
 | .count=>(x.lst? h).isSome
@[simp] theorem jbq (xs) (h):xcT .index (.v (.tup xs)) h=true:=rfl
def Pg:List Int->List Int->Nat
 | _,[]=>0
 | a,x::xs=>(if a.any (· ==x)then 0 else 1)+Pg (a++ [x]) xs
def KM:Nat->List D->List D
 | _,[]=> []
 | i,d::ds=> .tup [.int (i:Int),d]::KM (i+1) ds
noncomputable def xbT (m:Mt) (x:W) (ws:List W) (h:AH):R W:=match m,ws with
 | .index,[w]=>(R.of h (x.tup?.bind KJ)).bind λts h=>(R.of h w.str?).bind λt h=>(R.of h (Pi t ts)).bind λn h=>if ts.length<=LIM then okv (.int (n:Int)) h else .fail
 | .count,[w]=>(R.of h ((x.lst? h).bind GM)).bind λis h=>(R.of h w.int?).bind λi h=>if is.length<=LIM then okv (.int ((is.count i:Nat):Int)) h else .fail
 | _,_=> .fail
noncomputable def bi2 (b:Bi) (i j:Int) (h:AH):R W:=match b with
 | .divmod=>if 0<j/\j<xd5 then okv (.tup [.int (i / j),.int (i % j)]) h else .fail
 | .min=>okv (.int (if j<i then j else i)) h
 | .max=>okv (.int (if j>i then j else i)) h
 | _=> .fail
noncomputable def biD (b:Bi) (ws:List W) (h:AH):R W:=match ws with
 | [w]=>bi1 b w h
 | [v,w]=>(R.of h v.int?).bind λi h=>(R.of h w.int?).bind λj h=>bi2 b i j h
 | _=> .fail
@[simp] theorem Gy (o) (i j) (h):Pf o (.v (.int i)) (.v (.int j)) h=(R.of h (Gn o i j)).bind λk h=>okv (.int k) h:=rfl
@[simp] theorem Qc (i j):Gn .add i j=y0 (i+j):=rfl
@[simp] theorem jt (i j):Gn .sub i j=y0 (i-j):=rfl
@[simp] theorem Jz (s u) (h):Pf .add (.v (.tup s)) (.v (.tup u)) h=if s.length+u.length<=LIM then okv (.tup (s++u)) h else .fail:=rfl
@[simp] theorem jcv (s u) (h):Pf .add (.own s) (.own u) h=if s.length+u.length<=LIM then .ok (.own (s++u)) h else .fail:=rfl
@[simp] theorem jd (i j) (h):Gz .lt (.v (.int i)) (.v (.int j)) h=y0 (v9 (i<j)):=rfl
@[simp] theorem xck (i j) (h):Gz .le (.v (.int i)) (.v (.int j)) h=y0 (v9 (i<=j)):=rfl
@[simp] theorem xr (i j) (h):Gz .gt (.v (.int i)) (.v (.int j)) h=y0 (v9 (j<i)):=rfl
@[simp] theorem qcs (i j) (h):Gz .ge (.v (.int i)) (.v (.int j)) h=y0 (v9 (j<=i)):=rfl
@[simp] theorem jaM (a b) (h):Gz .eq a b h=if KP (a.dd h) (b.dd h)then y0 (eqD (a.dd h) (b.dd h))else none:=rfl
@[simp] theorem xcJ (a b) (h):Gz .ne a b h=if KP (a.dd h) (b.dd h)then y0 (!eqD (a.dd h) (b.dd h))else none:=rfl
@[simp] theorem int?_int (i):(W.v (.int i)).int? =y0 i:=rfl
@[simp] theorem len_str (s) (h):biD .len [.v (.str s)] h=if s.length<=LIM then okv (.int s.length) h else .fail:=rfl
@[simp] theorem ql (s) (h):biD .len [.v (.tup s)] h=okv (.int s.length) h:=rfl
@[simp] theorem qI (s) (h):biD .len [.v (.lst s)] h=okv (.int s.length) h:=rfl
@[simp] theorem xaD (s) (h):biD .len [.own s] h=okv (.int s.length) h:=rfl
@[simp] theorem int_int (i) (h):biD .int [.v (.int i)] h=okv (.int i) h:=rfl
@[simp] theorem qcp (b) (h):biD .int [.v (.bl b)] h=okv (.int (b.toNat:Int)) h:=rfl
@[simp] theorem JE (s) (h):biD .tuple [.own s] h=okv (.tup s) h:=rfl
@[simp] theorem qQ (s) (h):biD .tuple [.bor s] h=okv (.tup s) h:=rfl
@[simp] theorem xbE (s) (h):biD .all [.own s] h=(R.of h (Pn s)).bind λbs h=>okv (.bl (bs.all id)) h:=rfl
@[simp] theorem qJ (s) (h):biD .sum [.own s] h=(R.of h (if s.length<=LIM then Pp s else u0)).bind λi h=>okv (.int i) h:=rfl
@[simp] theorem Qj (i j) (h):biD .divmod [.v (.int i),.v (.int j)] h=if 0<j/\j<xd5 then okv (.tup [.int (i / j),.int (i % j)]) h else .fail:=rfl
@[simp] theorem ja8 (i j) (h):biD .min [.v (.int i),.v (.int j)] h=okv (.int (if j<i then j else i)) h:=rfl
@[simp] theorem xaT (i j) (h):biD .max [.v (.int i),.v (.int j)] h=okv (.int (if j>i then j else i)) h:=rfl
@[simp] theorem ix_tup (s) (i) (h):ixD (.v (.tup s)) (.v (.int i)) h=atI s i:=rfl
@[simp] theorem Xr (s) (i) (h):ixD (.v (.lst s)) (.v (.int i)) h=atI s i:=rfl
@[simp] theorem Zr (s) (i) (h):ixD (.own s) (.v (.int i)) h=atI s i:=rfl
@[simp] theorem zcL (s) (lo hi) (h):slD (.v (.lst s)) lo hi h= .ok (.own (cut s lo hi)) h:=rfl
@[simp] theorem zcB (s) (lo hi) (h):slD (.bor s) lo hi h= .ok (.own (cut s lo hi)) h:=rfl
abbrev Cls:=List (String×String)
noncomputable def Kx (a:Cls):Nat->String->List String
 | 0,_=> []
 | n+1,c=>c::match a.lookup c with
  | some b=>Kx a n b
  | none=> []
noncomputable def xdx:W->Option Ty
 | .v .non=>y0 .non
 | .v (.bl _)=>y0 .bool
 | .v (.int _)=>y0 .int
 | .v (.str _)=>y0 .str
 | .v (.tup _)=>y0 .tuple
 | .v (.lst _)=>y0 .list
 | .own _=>y0 .list
 | .bor _=>y0 .list
 | .v (.ref _)=>u0
 | .v (.exc _ _)=>u0
 | .v (.err _ _ _)=>u0
def Ty.le:Ty->Ty->Bool
 | .bool,.int=>k9
 | a,b=>v9 (a=b)
def isT (t:Ty) (w:W):Option Bool:=(xdx w).map λu=>u.le t
@[simp] theorem jbX (t) (s):isT t (.v (.tup s))=y0 (Ty.le .tuple t):=rfl
@[simp] theorem Ty.le_self (t):Ty.le t t=true:=by cases t<;>rfl
noncomputable def isX (a:Cls) (w:W) (ts:List String):Option Bool:=match w with
 | .v (.exc c [])=>y0 (ts.any (Kx a 8 c).contains)
 | .v (.err c _ _)=>y0 (ts.any (Kx a 8 c).contains)
 | _=>u0
@[simp] theorem K3 (cl) (c) (ts):isX cl (.v (.exc c [])) ts=y0 (ts.any (Kx cl 8 c).contains):=rfl
@[simp] theorem K6 (cl) (c f) (d) (ts):isX cl (.v (.err c f d)) ts=y0 (ts.any (Kx cl 8 c).contains):=rfl
@[simp] def Gj:Sl->Nat->Option W
 | [],_=>u0
 | x::_,0=>x
 | _::r,n+1=>Gj r n
@[simp] def GD:Sl->Nat->W->Sl
 | [],_,_=> []
 | _::r,0,w=>y0 w::r
 | x::r,n+1,w=>x::GD r n w
def Gi (Y:Sl) (i:Nat):Option W:=match Gj Y i with
 | some (.own xs)=>y0 (.bor xs)
 | o=>o
@[simp] theorem KY (e:Gj Y i=y0 (.own xs)):Gi Y i=y0 (.bor xs):=by simp [Gi,e]
@[simp] theorem K5 (e:Gj Y i=y0 (.v d)):Gi Y i=y0 (.v d):=by simp [Gi,e]
@[simp] theorem K0 (e:Gj Y i=y0 (.bor xs)):Gi Y i=y0 (.bor xs):=by simp [Gi,e]
@[simp] noncomputable def setTup:List Nat->List D->Sl->Option Sl
 | [],[],Y=>y0 Y
 | i::is,d::ds,Y=>setTup is ds (GD Y i (.v d))
 | _,_,_=>u0
noncomputable def Gp (a:List Nat) (one:Bool) (d:D) (Y:Sl):Option Sl:=match one with
 | true=>match a with
  | [i]=>y0 (GD Y i (.v d))
  | _=>u0
 | false=>match d with
  | .tup ds=>setTup a ds Y
  | _=>u0
noncomputable def Gv (step:D->AH->R (Option D)):List D->AH->R (List D)
 | [],h=> .ok [] h
 | d::ds,h=>match step d h with
  | .ok o h1=>match Gv step ds h1 with
   | .ok r h2=> .ok (match o with | some x=>x::r | none=>r) h2
   | _=> .fail
  | _=> .fail
structure Fx where
 call:String->List W->AH->R W
 cl:Cls
 con:List (String×D)
noncomputable def cellD (h:AH):Option W->Option (Nat×List D)
 | some (.v (.ref r))=>match h[r]? with
  | some (.lst xs)=>y0 (r,xs)
  | _=>u0
 | _=>u0
noncomputable def wkD:D->Option WK
 | .tup [.int n,.tup ks,.tup ts]=>match GM ks,GM ts with
  | some a,y0 b=>y0 (n,a,b)
  | _,_=>u0
 | _=>u0
noncomputable def KT (h:AH):Option W->Option (Nat×List WK)
 | some (.v (.ref r))=>match h[r]? with
  | some (.dic ks)=>y0 (r,ks)
  | _=>u0
 | _=>u0
def KI (ks:List WK) (k:WK):List WK:=if ks.contains k then ks else ks++ [k]
noncomputable def Pr (neg:Bool) (w:W) (o:Option (Nat×List WK)) (h:AH):R W:=match w with
 | .v d=>match wkD d,o with
  | some k,y0 (_,ks)=>okv (.bl (if neg then !ks.contains k else ks.contains k)) h
  | _,_=> .fail
 | _=> .fail
noncomputable def K4 (h:AH):Option W->Option (Nat×List Int)
 | some (.v (.ref r))=>match h[r]? with
  | some (.dii ks)=>y0 (r,ks)
  | _=>u0
 | _=>u0
def KU (ks:List Int) (k:Int):List Int:=if ks.contains k then ks else ks++ [k]
noncomputable def dinI (neg:Bool) (w:W) (o:Option (Nat×List Int)) (h:AH):R W:=match w,o with
 | .v (.int k),y0 (_,ks)=>okv (.bl (if neg then !ks.contains k else ks.contains k)) h
 | _,_=> .fail
mutual
@[simp] noncomputable def eval (F:Fx):E->Sl->AH->R W
 | .var i,Y,h=>match Gi Y i with
  | some w=> .ok w h
  | none=> .fail
 | .con x,_,h=>match F.con.lookup x with
  | some d=>okv d h
  | none=> .fail
 | .int i,_,h=>okv (.int i) h
 | .bl b,_,h=>okv (.bl b) h
 | .non,_,h=>okv .non h
 | .str s,_,h=>okv (.str s) h
 | .tup es,Y,h=>(Gq F es Y h).bind λds h=>okv (.tup ds) h
 | .lst es,Y,h=>(Gq F es Y h).bind λds h=> .ok (.own ds) h
 | .bin o a b,Y,h=>(eval F a Y h).bind λx h=>(eval F b Y h).bind λy h=>Pf o x y h
 | .cmp o a b,Y,h=>(eval F a Y h).bind λx h=>(eval F b Y h).bind λy h=>(R.of h (Gz o x y h)).bind λc h=>okv (.bl c) h
 | .chain o p a b c,Y,h=>(eval F a Y h).bind λx h=>(eval F b Y h).bind λy h=>(R.of h (Gz o x y h)).bind λt h=>match t with
  | true=>(eval F c Y h).bind λz h=>(R.of h (Gz p y z h)).bind λc h=>okv (.bl c) h
  | false=>okv (.bl y9) h
 | .isn neg a,Y,h=>(eval F a Y h).bind λx h=>match x with
  | .v .non=>okv (.bl (!neg)) h
  | _=>okv (.bl neg) h
 | .neg a,Y,h=>(eval F a Y h).bind λx h=>(R.of h x.int?).bind λi h=>okv (.int (-i)) h
 | .inv a,Y,h=>(eval F a Y h).bind λx h=>(R.of h x.int?).bind λi h=>okv (.int (-i-1)) h
 | .not a,Y,h=>(eval F a Y h).bind λx h=>(R.of h (KW h x)).bind λc h=>okv (.bl (!c)) h
 | .and a b,Y,h=>(eval F a Y h).bind λx h=>(R.of h (KW h x)).bind λc h=>match c with
  | true=>eval F b Y h
  | false=> .ok x h
 | .or a b,Y,h=>(eval F a Y h).bind λx h=>(R.of h (KW h x)).bind λc h=>match c with
  | true=> .ok x h
  | false=>eval F b Y h
 | .call f es,Y,h=>(Gg F es Y h).bind λws h=>F.call f (ws.map W.arg) h
 | .bi b es,Y,h=>(Gg F es Y h).bind λws h=>biD b ws h
 | .isT a t,Y,h=>(eval F a Y h).bind λx h=>(R.of h (isT t x)).bind λc h=>okv (.bl c) h
 | .ix a b,Y,h=>(eval F a Y h).bind λx h=>(eval F b Y h).bind λy h=>(R.of h (ixD x y h)).bind λd h=>okv d h
 | .sl a lo hi,Y,h=>(eval F a Y h).bind λx h=>(eval F lo Y h).bind λl h=>(R.of h l.int?).bind λl h=>(eval F hi Y h).bind λu h=>(R.of h u.int?).bind λu h=>slD x (y0 l) (y0 u) h
 | .slL a lo,Y,h=>(eval F a Y h).bind λx h=>(eval F lo Y h).bind λl h=>(R.of h l.int?).bind λl h=>slD x (y0 l) u0 h
 | .slH a hi,Y,h=>(eval F a Y h).bind λx h=>(eval F hi Y h).bind λu h=>(R.of h u.int?).bind λu h=>slD x u0 (y0 u) h
 | .comp tg one k cap it v7 c elt,Y,h=>(Gm F it Y h).bind λds h=>
  if ds.length<=LIM then
   (Gv (λd h=>match Gp tg one d (Ab0 k u0++cap.map λj=>Gi Y j)with
     | none=> .fail
     | some Y'=>(if v7 then(eval F c Y' h).bind λx h=>R.of h (KW h x)else .ok k9 h).bind λb h=>match b with
      | true=>(eval F elt Y' h).bind λy h=>(R.of h y.d).bind λy h=> .ok (y0 y) h
      | false=> .ok u0 h) ds h).bind λys h=> .ok (.own ys) h
  else .fail
 | .dnew,_,h=>okv (.ref h.length) (h++ [.dic []])
 | .dnewI,_,h=>okv (.ref h.length) (h++ [.dii []])
 | .dinI neg a i,Y,h=>(eval F a Y h).bind λx h=>dinI neg x (K4 h (Gj Y i)) h
 | .din neg a i,Y,h=>(eval F a Y h).bind λx h=>Pr neg x (KT h (Gj Y i)) h
 | .dlen i,Y,h=>match KT h (Gj Y i)with
  | some (_,ks)=>okv (.int (ks.length:Int)) h
  | none=> .fail
 | .share a,Y,h=>(eval F a Y h).bind λx h=>match x with
  | .own xs=>if Gf xs then okv (.ref h.length) (h++ [.lst xs])else .fail
  | _=> .fail
 | .lenset a,Y,h=>(eval F a Y h).bind λx h=>(R.of h (x.tup?.bind GM)).bind λis h=>if is.length<1000 then okv (.int ((Pg [] is:Nat):Int)) h else .fail
 | .meth m a es,Y,h=>(eval F a Y h).bind λx h=>if xcT m x h then(Gg F es Y h).bind λws h=>xbT m x ws h else .fail
@[simp] noncomputable def Gg (F:Fx):Es->Sl->AH->R (List W)
 | .nil,_,h=> .ok [] h
 | .cons e es,Y,h=>(eval F e Y h).bind λw h=>(Gg F es Y h).bind λws h=> .ok (w::ws) h
@[simp] noncomputable def Gq (F:Fx):Es->Sl->AH->R (List D)
 | .nil,_,h=> .ok [] h
 | .cons e es,Y,h=>(eval F e Y h).bind λw h=>(R.of h w.d).bind λd h=>(Gq F es Y h).bind λds h=> .ok (d::ds) h
@[simp] noncomputable def Gm (F:Fx):It->Sl->AH->R (List D)
 | .seq e,Y,h=>(eval F e Y h).bind λw h=>match w with
  | .v (.str s)=> .ok (chs s) h
  | .v (.tup xs)=> .ok xs h
  | .v (.lst xs)=> .ok xs h
  | .own xs=> .ok xs h
  | .bor xs=> .ok xs h
  | _=> .fail
 | .range1 a,Y,h=>(eval F a Y h).bind λw h=>(R.of h w.int?).bind λn h=>if -(jdG)<=n/\n<jdG then .ok ((Aa0 n.toNat).map λ(i:Nat)=> .int (i:Int)) h else .fail
 | .range2 a b,Y,h=>(eval F a Y h).bind λw h=>(R.of h w.int?).bind λi h=>(eval F b Y h).bind λw h=>(R.of h w.int?).bind λj h=>
  if(-(jdG)<=i/\i<jdG)/\(-(jdG)<=j/\j<jdG)then .ok ((Aa0 (j-i).toNat).map λ(k:Nat)=> .int (i+(k:Int))) h else .fail
 | .rev e,Y,h=>(eval F e Y h).bind λw h=>match w with
  | .v (.lst xs)=> .ok xs.reverse h
  | .own xs=> .ok xs.reverse h
  | .bor xs=> .ok xs.reverse h
  | _=> .fail
 | .enum e,Y,h=>(eval F e Y h).bind λw h=>match w with
  | .v (.tup xs)=> .ok (KM 0 xs) h
  | _=> .fail
 | .zip a b,Y,h=>(eval F a Y h).bind λx h=>(eval F b Y h).bind λy h=>match x,y with
  | .own xs,.v (.tup ys)=> .ok ((xs.zip ys).map λp=> .tup [p.1,p.2]) h
  | _,_=> .fail
end
noncomputable def qdC:W->Option (List D)
 | .v (.str s)=>y0 (chs s)
 | .v (.tup xs)=>y0 xs
 | .v (.lst xs)=>y0 xs
 | .own xs=>y0 xs
 | _=>u0
noncomputable def lpV:W->Option (List D)
 | .v (.str s)=>y0 (chs s)
 | .v (.tup xs)=>y0 xs
 | .v (.lst xs)=>y0 xs
 | .bor xs=>y0 xs
 | _=>u0
def zdv:W->Option (List D)
 | .v (.lst xs)=>y0 xs.reverse
 | .own xs=>y0 xs.reverse
 | _=>u0
def Px:W->Option (List D)
 | .v (.lst xs)=>y0 xs.reverse
 | .bor xs=>y0 xs.reverse
 | _=>u0
@[simp] theorem Pl (xs):qdC (.v (.tup xs))=y0 xs:=rfl
@[simp] theorem Pm (xs):qdC (.v (.lst xs))=y0 xs:=rfl
@[simp] theorem K1 (xs):qdC (.own xs)=y0 xs:=rfl
@[simp] theorem K8 (xs):lpV (.v (.tup xs))=y0 xs:=rfl
@[simp] theorem Pk (xs):lpV (.v (.lst xs))=y0 xs:=rfl
@[simp] theorem Po (xs):lpV (.bor xs)=y0 xs:=rfl
@[simp] def Kd:E->Option Nat
 | .var i=>y0 i
 | _=>u0
@[simp] noncomputable def Gw (F:Fx) (it:It) (Y:Sl) (h:AH):R (List D):=match it with
 | .seq e=>match Kd e with
  | some i=>R.of h ((Gj Y i).bind lpV)
  | none=>(eval F e Y h).bind λw h=>R.of h (qdC w)
 | .rev e=>match Kd e with
  | some i=>R.of h ((Gj Y i).bind Px)
  | none=>(eval F e Y h).bind λw h=>R.of h (zdv w)
 | it=>Gm F it Y h
noncomputable def Gr (b:D->Sl->Option Sl) (a:Sl->AH->O):List D->Sl->AH->O
 | [],Y,h=> .next Y h
 | d::ds,Y,h=>match b d Y with
  | none=> .fail
  | some e=>match a e h with
   | .next c h2=>Gr b a ds c h2
   | .cont c h2=>Gr b a ds c h2
   | .brk c h2=> .next c h2
   | o=>o
noncomputable def KK (c:Sl->AH->R Bool) (a:Sl->AH->O):Nat->Sl->AH->O
 | 0,_,_=> .fail
 | n+1,Y,h=>(c Y h).toO λb h1=>match b with
  | false=> .next Y h1
  | true=>match a Y h1 with
   | .next d h2=>KK c a n d h2
   | .cont d h2=>KK c a n d h2
   | .brk d h2=> .next d h2
   | o=>o
def Gu (F:Fx) (e:E) (Y:Sl) (h:AH):R Bool:=(eval F e Y h).bind λx h=>R.of h (KW h x)
noncomputable def Pj (a:Cls) (c:String) (nm b:Nat) (e i:String) (f:Tx) (d:D) (Y:Sl) (h:AH):O:=match isX a (.v d) [c]with
 | some true=>match d with
  | .err _ g y=>if g=e then .next ((GD (GD Y nm (.v d)) b (.v y)).set nm u0) h else .fail
  | _=> .fail
 | some false=>match isX a (.v d) [i]with
  | some true=> .next (GD Y b (.v (.str f))) h
  | _=> .fail
 | none=> .fail
mutual
@[simp] noncomputable def exec (F:Fx):S->Sl->AH->O
 | .set i e,Y,h=>(eval F e Y h).toO λw h=>match w with
  | .bor _=> .fail
  | w=> .next (GD Y i w) h
 | .setf i e,Y,h=>(eval F e Y h).toO λw h=>match w.d with
  | some d=> .next (GD Y i (.v d)) h
  | none=> .fail
 | .unp is e,Y,h=>(eval F e Y h).toO λw h=>match w with
  | .v (.tup ds)=>match setTup is ds Y with
   | some Y'=> .next Y' h
   | none=> .fail
  | _=> .fail
 | .setix i k e,Y,h=>(eval F e Y h).toO λw h=>match Gj Y i with
  | some (.own xs)=>(eval F k Y h).toO λkw h=>match w,kw with
   | .v d,.v (.int j)=>if KL d then(match ixN xs.length j with
    | some n=> .next (GD Y i (.own (xs.set n d))) h
    | none=> .fail)else .fail
   | _,_=> .fail
  | _=> .fail
 | .app i e,Y,h=>match Gj Y i with
  | some (.own xs)=>(eval F e Y h).toO λw h=>match w.d with
   | some d=>if xs.length<LIM then .next (GD Y i (.own (xs++ [d]))) h else .fail
   | none=> .fail
  | _=> .fail
 | .ext i e,Y,h=>match Gj Y i with
  | some (.own xs)=>(eval F e Y h).toO λw h=>match w with
   | .own ys=>if xs.length+ys.length<LIM then .next (GD Y i (.own (xs++ys))) h else .fail
   | _=> .fail
  | _=> .fail
 | .mv i j,Y,h=>match Gj Y j with
  | some (.own xs)=> .next (GD (Y.set j u0) i (.own xs)) h
  | _=> .fail
 | .dput i e,Y,h=>match KT h (Gj Y i)with
  | some _=>(eval F e Y h).toO λw h=>match w with
   | .v d=>match wkD d,KT h (Gj Y i)with
    | some k,y0 (r,ks)=>if ks.length<LIM then .next Y (h.set r (.dic (KI ks k)))else .fail
    | _,_=> .fail
   | _=> .fail
  | none=> .fail
 | .dputI i e,Y,h=>match K4 h (Gj Y i)with
  | some _=>(eval F e Y h).toO λw h=>match w,K4 h (Gj Y i)with
   | .v (.int k),y0 (r,ks)=>if ks.length<LIM then .next Y (h.set r (.dii (KU ks k)))else .fail
   | _,_=> .fail
  | none=> .fail
 | .appR i e,Y,h=>match cellD h (Gj Y i)with
  | some _=>(eval F e Y h).toO λw h=>match w.d,cellD h (Gj Y i)with
   | some d,y0 (r,xs)=>if xs.length<LIM/\Gc d=k9 then .next Y (h.set r (.lst (xs++ [d])))else .fail
   | _,_=> .fail
  | none=> .fail
 | .popR i j,Y,h=>match cellD h (Gj Y i)with
  | some (r,xs)=>match xs[xs.length-1]? with
   | some d=> .next (GD Y j (.v d)) (h.set r (.lst (xs.take (xs.length-1))))
   | none=> .fail
  | none=> .fail
 | .popU i is,Y,h=>match cellD h (Gj Y i)with
  | some (r,xs)=>match xs[xs.length-1]? with
   | some (.tup ds)=>match setTup is ds Y with
    | some Y'=> .next Y' (h.set r (.lst (xs.take (xs.length-1))))
    | none=> .fail
   | _=> .fail
  | none=> .fail
 | .freeze i,Y,h=>match Gj Y i with
  | some (.own xs)=> .next (GD Y i (.v (.lst xs))) h
  | _=> .next Y h
 | .ex e,Y,h=>(eval F e Y h).toO λ_ h=> .next Y h
 | .ret e,Y,h=>match Kd e with
  | some i=>match Gj Y i with
   | some (.bor _)=> .fail
   | some w=> .ret w h
   | none=> .fail
  | none=>(eval F e Y h).toO λw h=>match w with
   | .bor _=> .fail
   | w=> .ret w h
 | .iff c a b,Y,h=>(Gu F c Y h).toO λt h=>match t with
  | true=>execs F a Y h
  | false=>execs F b Y h
 | .whl n c b,Y,h=>KK (λY h=>Gu F c Y h) (λY h=>execs F b Y h) n Y h
 | .for tg one it b,Y,h=>(Gw F it Y h).toO λds h=>Gr (Gp tg one) (λY h=>execs F b Y h) ds Y h
 | .raise c es,Y,h=>(Gg F es Y h).toO λ_ h=> .exc (.exc c []) h
 | .raisf c f e,Y,h=>(Gq F (.cons e .nil) Y h).toO λds h=>match ds with
  | [d]=> .exc (.err c f d) h
  | _=> .fail
 | .tryf f es c nm iv fl c2 tx,Y,h=>match Gg F es Y h with
  | .ok ws h=>match F.call f (ws.map W.arg) h with
   | .ok _ h=> .next Y h
   | .exc d h=>Pj F.cl c nm iv fl c2 tx d Y h
   | .fail=> .fail
  | _=> .fail
 | .nope,_,_=> .fail
@[simp] noncomputable def execs (F:Fx):Ss->Sl->AH->O
 | .nil,Y,h=> .next Y h
 | .cons s ss,Y,h=>(exec F s Y h).seq λY h=>execs F ss Y h
end
structure Fn where
 ps:Nat
 n:Nat
 body:Ss
structure Prog where
 fns:List (String×Fn)
 cl:Cls
 con:List (String×D)
def W.keep:W->Bool
 | .v d=>Gc d
 | .own xs=>Gf xs
 | .bor _=>k9
def fin (n:Nat) (w:W) (h:AH):R W:=if h.length=n then .ok w h else if w.keep then .ok w (h.take n)else .ok w h
noncomputable def G7 (n:Nat):O->R W
 | .ret w h=>match w with
  | .bor _=> .fail
  | w=>fin n w h
 | .next _ h=>fin n (.v .non) h
 | .exc d h=> .exc d h
 | _=> .fail
@[simp] theorem Gb (d) (h h':AH) (e:h'.length=h.length):G7 h.length (.ret (.v d) h')= .ok (.v d) h':=by simp [G7,fin,e]
@[simp] theorem GC (xs) (h h':AH) (e:h'.length=h.length):G7 h.length (.ret (.own xs) h')= .ok (.own xs) h':=by simp [G7,fin,e]
@[simp] theorem GI (Y) (h h':AH) (e:h'.length=h.length):G7 h.length (.next Y h')= .ok (.v .non) h':=by simp [G7,fin,e]
@[simp] theorem Ph (d) (n) (h):G7 n (.exc d h)= .exc d h:=rfl
noncomputable def run (F:Fx) (d:Fn) (ws:List W) (h:AH):R W:=if ws.length=d.ps then G7 h.length (execs F d.body (ws.map y0++Ab0 (d.n-d.ps) u0) h)else .fail
noncomputable def call (p:Prog):Nat->String->List W->AH->R W
 | 0,_,_,_=> .fail
 | k+1,f,a,h=>match p.fns.lookup f with
  | some d=>run ⟨call p k,p.cl,p.con⟩ d a h
  | none=> .fail
def Ga (e:p.fns.lookup f=y0 d) (k) (ws) (h) (a:ws.length=d.ps):
 call p (k+1) f ws h=G7 h.length (execs ⟨call p k,p.cl,p.con⟩ d.body (ws.map y0++Ab0 (d.n-d.ps) u0) h):=by
 rw [call,e]
 simp [run,a]
end
end M
namespace L2.MS
open PySem PySem.Spec
structure Ge where
 K:Aa6
 ca:String->Addr
 cl:M.Cls
 own:List String
 ma:String->Addr
structure jdZ (Γ:Ge) (c:String):Prop where
 k:qc9 Γ.K (Γ.ca c)
 own: ∀t∈Γ.own,Ad2 Γ.K (.ref (Γ.ca c)) (.ref (Γ.ca t))=y0 ((M.Kx Γ.cl 8 c).contains t)
 ve:PySem.W.kitOne Γ.K (.ref (Γ.ca c)) (.type "ValueError")=some ((M.Kx Γ.cl 8 c).contains "ValueError")
structure Gh where
 fz:Addr->Prop
 rho:Nat->Addr
 n:Nat
noncomputable def StT (d:Ge) (G:Gh) (H:Hp) (a:Addr) (c:List V):Prop:=(G.fz a/\H a=y0 (.tup c)) ∨
 ∃(o:Obj) (b:Array Value) (n:Nat),d.K.lookup a=some o/\o.cls= .type "tuple" /\o.dict=none/\o.data= .seq b n/\b.size<=sizeLine/\Vals c b.toList
noncomputable def qdh (d:Ge) (a:Addr) (c:List V):Prop:= ∃(o:Obj) (b:Array Value) (n:Nat),d.K.lookup a=some o/\o.cls= .type "list" /\o.dict=none/\o.data= .seq b n/\b.size<=sizeLine/\Vals c b.toList
def StL (c:Ge) (G:Gh) (H:Hp) (a:Addr) (b:List V):Prop:=(G.fz a/\Rd H a (.lst b))\/qdh c a b
def StT.sq (h:StT Γ G H a vs):qdS Γ.K H a vs:=h.elim (λz=> .inl (.inl z.2)) λ⟨o,b,n,d,c,_,e⟩=> .inr ⟨o,b,n,d,c,e⟩
def StT.pl (h:StT Γ G H a vs):zd0 Γ.K H a:=h.elim (λz=> .inl ⟨_,z.2⟩) λ⟨o,_,_,c,b,d,_⟩=> .inr ⟨o,c,b,d⟩
def StL.sq (h:StL Γ G H a vs):SqL Γ.K H a vs:=h.elim (λz=> .inl z.2) λz=> .inr z
def zdH (s:M.Tx):Str:=⟨s.toArray⟩
def xdE:M.D->PyData
 | .int i=> .int i
 | .str s=> .str (zdH s)
 | .bl b=> .bool b
 | _=> .none
def jdt (T:List (M.Tx×M.D)):List (Str×PyData):=T.map λp=>(zdH p.1,xdE p.2)
def zc7 (b:Ge) (a:Addr) (T:List (M.Tx×M.D)):Prop:=qdi b.K a (jdt T)
mutual
noncomputable def RelD (Γ:Ge) (G:Gh) (H:Hp):M.D->V->Prop
 | .non,v=>v= .non
 | .bl b,v=>v= .bl b
 | .int i,v=>v= .int i
 | .str s,v=>v= .str (zdH s)
 | .tup ds,v=> ∃a vs,v= .ref a/\StT Γ G H a vs/\RelDs Γ G H ds vs
 | .lst ds,v=> ∃a vs,v= .ref a/\StL Γ G H a vs/\RelDs Γ G H ds vs
 | .ref r,v=>r<G.n/\v= .ref (G.rho r)
 | .exc c fs,v=>(fs= []/\ ∃x,v= .ref x/\G.fz x/\H x=y0 (qaG x (Γ.ca c) u0)/\jdZ Γ c)\/(fs≠ []/\ ∃a,v= .ref a/\zc7 Γ a fs)
 | .err c f d,v=> ∃x dx u,v= .ref x/\G.fz x/\G.fz dx/\H x=y0 (qaG x (Γ.ca c) (y0 dx))/\H dx=y0 (.xd [(Str.ofString f,u)])/\jdZ Γ c/\xcD Γ.K (Γ.ca c) (Str.ofString f)/\RelD Γ G H d u
noncomputable def RelDs (Γ:Ge) (G:Gh) (H:Hp):List M.D->List V->Prop
 | [],vs=>vs= []
 | d::ds,vs=> ∃v r,vs=v::r/\RelD Γ G H d v/\RelDs Γ G H ds r
end
def xd6 (k:M.WK):M.D:= .tup [.int k.1,.tup (k.2.1.map .int),.tup (k.2.2.map .int)]
noncomputable def CellRel (b:Ge) (G:Gh) (H:Hp) (a:Addr):M.Cell->Prop
 | .lst xs=>M.Gf xs=k9/\ ∃d,H a=y0 (.lst d)/\RelDs b G H xs d
 | .dic ks=> ∃xs,H a=y0 (DW a xs)/\xs.map (·.1)=ks/\ ∀x∈xs,RelD b G H (xd6 x.1) (.ref x.2.1)
 | .dii ks=>H a=y0 (dI ks)
 | .obj c fs=>M.Gf (fs.map (·.2))=k9/\ ∃dx e,H a=y0 (.ins (b.ca c) dx ((fs.map λp=>Str.ofString p.1).zip e))/\RelDs b G H (fs.map (·.2)) e
structure HRel (Γ:Ge) (G:Gh) (h:M.AH) (H:Hp):Prop where
 len:h.length=G.n
 any: ∀r c,h[r]? =y0 c-> ¬G.fz (G.rho r)/\CellRel Γ G H (G.rho r) c
 inj: ∀r s,r<G.n->s<G.n->G.rho r=G.rho s->r=s
 live: ∀a,G.fz a-> ∃o,H a=y0 o
def zdW (G:Gh) (a:Addr):Prop:= ∀r,r<G.n->G.rho r≠a
structure Ext (G:Gh) (H:Hp) (G':Gh) (H':Hp):Prop where
 keep: ∀a o,H a=y0 o->zdW G a->H' a=y0 o
 le:G.n<=G'.n
 rho: ∀r,r<G.n->G'.rho r=G.rho r
 new: ∀r,G.n<=r->r<G'.n->H (G'.rho r)=u0
 fz: ∀a,G.fz a->G'.fz a
 old: ∀a,G'.fz a->G.fz a\/H a=u0
 cells: ∀r,r<G.n->(∃ o,H (G.rho r)=y0 o)-> ∃o,H' (G.rho r)=y0 o
noncomputable def RelW (c:Ge) (G:Gh) (H:Hp):M.W->V->Prop
 | .v d,v=>RelD c G H d v
 | .own xs,v=> ∃a b,v= .ref a/\ ¬G.fz a/\zdW G a/\H a=y0 (.lst b)/\RelDs c G H xs b
 | .bor xs,v=> ∃a b,v= .ref a/\zdW G a/\Rd H a (.lst b)/\RelDs c G H xs b
def zdz:M.W->Bool
 | .own _=>k9
 | .bor _=>k9
 | _=>y9
structure StRel (Γ:Ge) (G:Gh) (Y:M.Sl) (h:M.AH) (U:St) (H:Hp):Prop where
 len:Y.length=U.length
 slot: ∀i w,M.Gj Y i=y0 w-> ∃v,U[i]? =y0 (y0 v)/\RelW Γ G H w v
 apart: ∀i j xs w a,i≠j->M.Gj Y i=y0 (.own xs)->M.Gj Y j=y0 w->zdz w=k9->U[i]? =y0 (y0 (.ref a))->U[j]? ≠y0 (y0 (.ref a))
 heap:HRel Γ G h H
section
variable {Γ:Ge}{G G' G1 G2:Gh}{H H' H1 H2:Hp}{h h':M.AH}{Y:M.Sl}{U:St}
def HRel.cell (R:HRel Γ G h H) (r) (xs) (e:h[r]? =y0 (M.Cell.lst xs)): ¬G.fz (G.rho r)/\ ∃a,H (G.rho r)=y0 (.lst a)/\RelDs Γ G H xs a:=⟨(R.any r _ e).1,(R.any r _ e).2.2⟩
def HRel.pure (R:HRel Γ G h H) (r:Nat) (xs) (e:h[r]? =y0 (M.Cell.lst xs)):M.Gf xs=true:=(R.any r _ e).2.1
theorem HRel.dic (R:HRel Γ G h H) (r) (ks) (e:h[r]? =y0 (M.Cell.dic ks)): ¬G.fz (G.rho r)/\ ∃xs,H (G.rho r)=y0 (DW (G.rho r) xs)/\xs.map (·.1)=ks/\ ∀x∈xs,RelD Γ G H (xd6 x.1) (.ref x.2.1):=R.any r _ e
def HRel.lt (R:HRel Γ G h H)(e:h[r]? =y0 c):r<G.n:=by rw [← R.len];exact(Ac2.mp e).1
def HRel.at (R:HRel Γ G h H)(a:i<G.n): ∃c,h[i]? =y0 c:=⟨_,Aa4 (by rw [R.len];exact a)⟩
def CellRel.there (z:CellRel Γ G H a c): ∃o,H a=y0 o:=by
 cases c with
 | lst d=>obtain⟨_,_,z,_⟩:=z;exact⟨_,z⟩
 | dic b=>obtain⟨_,z,_⟩:=z;exact⟨_,z⟩
 | dii b=>exact⟨_,z⟩
 | obj c fs=>obtain⟨_,_,_,z,_⟩:=z;exact⟨_,z⟩
def HRel.nfz (r:HRel Γ G h H)(a:i<G.n): ¬G.fz (G.rho i):=let ⟨_,e⟩:=r.at a;(r.any i _ e).1
def HRel.off (r:HRel Γ G h H)(b:G.fz a):zdW G a:=λi c z=>r.nfz c (z▸b)
theorem HRel.there (r:HRel Γ G h H)(a:i<G.n): ∃o,H (G.rho i)=y0 o:=let ⟨_,e⟩:=r.at a;(r.any i _ e).2.there
def Ext.refl:Ext G H G H:=⟨λ_ _ e _=>e,Aa5 _,λ_ _=>rfl,λr b a=>absurd b (Ap0.mpr a),λ_ z=>z,λ_ z=> .inl z,λ_ _ z=>z⟩
theorem Ext.none (e:Ext G H G' H') (d:HRel Γ G h H)(z:H' a=u0):H a=none:=by
 cases q:H a with
 | none=>rfl
 | some o=>
  by_cases b:zdW G a
  ·rw [e.keep a o q b]at z;cases z
  ·unfold zdW at b
   have: ∃r,r<G.n/\G.rho r=a:=Classical.byContradiction λg=>b λr d z=>g ⟨r,d,z⟩
   obtain⟨r,c,rfl⟩:=this
   obtain⟨i,f⟩:=e.cells r c ⟨o,q⟩
   rw [z]at f;cases f
def Ext.off (e:Ext G H G' H')(d:H a=y0 o) (b:zdW G a):zdW G' a:=λr c z=>by
 by_cases hn:r<G.n
 ·rw [e.rho r hn]at z;exact b r hn z
 ·have:=e.new r (Am2.mp hn) c
  rw [z,d]at this;cases this
def Ext.trans (b:Ext G H G1 H1) (e:HRel Γ G h H) (c:Ext G1 H1 G2 H2):Ext G H G2 H2 where
 keep:=λa o z d=>c.keep a o (b.keep a o z d) (b.off z d)
 le:=Ac b.le c.le
 rho:=λr hn=>by rw [c.rho r (Ab1 hn b.le),b.rho r hn]
 new:=λr g f=>by
  by_cases hn:r<G1.n
  ·rw [c.rho r hn];exact b.new r g hn
  ·exact b.none e (c.new r (Am2.mp hn) f)
 fz:=λa z=>c.fz a (b.fz a z)
 old:=λa z=>(c.old a z).elim (λz=>b.old a z) λz=> .inr (b.none e z)
 cells:=λr hn z=>by
  have:=c.cells r (Ab1 hn b.le) (by rw [b.rho r hn];exact b.cells r hn z)
  rwa [b.rho r hn]at this
def Ext.rd (e:Ext G H G' H')(z:Rd H a u) (b:zdW G a):Rd H' a u:=z.elim (λz=> .inl (e.keep a _ z b)) λ⟨o,z⟩=> .inr ⟨o,e.keep a _ z b⟩
structure Mon (G:Gh) (H:Hp) (G':Gh) (H':Hp):Prop where
 keep: ∀a o,G.fz a->H a=y0 o->H' a=y0 o
 le:G.n<=G'.n
 rho: ∀r,r<G.n->G'.rho r=G.rho r
 fz: ∀a,G.fz a->G'.fz a
def Ext.mon (e:Ext G H G' H') (b:HRel Γ G h H):Mon G H G' H':=⟨λa o z q=>e.keep a o q (b.off z),e.le,e.rho,e.fz⟩
def Mon.rd (e:Mon G H G' H')(z:Rd H a u) (b:G.fz a):Rd H' a u:=z.elim (λz=> .inl (e.keep a _ b z)) λ⟨o,z⟩=> .inr ⟨o,e.keep a _ b z⟩
mutual
theorem RelD.mon (e:Mon G H G' H'): ∀ {d:M.D}{v:V},RelD Γ G H d v->RelD Γ G' H' d v
 | .non,_,z=>z
 | .bl _,_,z=>z
 | .int _,_,z=>z
 | .str _,_,z=>z
 | .tup _,_,⟨a,vs,z1,z2,z3⟩=>⟨a,vs,z1,z2.elim (λz=> .inl ⟨e.fz a z.1,e.keep a _ z.1 z.2⟩) λz=> .inr z,RelDs.mon e z3⟩
 | .lst _,_,⟨a,vs,z1,z2,z3⟩=>⟨a,vs,z1,z2.elim (λz=> .inl ⟨e.fz a z.1,e.rd z.2 z.1⟩) .inr,RelDs.mon e z3⟩
 | .ref r,_,⟨z1,z2⟩=>⟨Ab1 z1 e.le,by rw [e.rho r z1];exact z2⟩
 | .exc c fs,_,z=>z.imp (λ⟨z0,x,z1,z2,z3,z4⟩=>⟨z0,x,z1,e.fz x z2,e.keep x _ z2 z3,z4⟩) id
 | .err c f d,_,⟨x,dx,u,z1,z2,z3,z4,z5,z6,z7,z8⟩=>⟨x,dx,u,z1,e.fz x z2,e.fz dx z3,e.keep x _ z2 z4,e.keep dx _ z3 z5,z6,z7,RelD.mon e z8⟩
theorem RelDs.mon (e:Mon G H G' H'): ∀ {ds:List M.D}{vs:List V},RelDs Γ G H ds vs->RelDs Γ G' H' ds vs
 | [],_,z=>z
 | _::_,_,⟨v,r,z1,z2,z3⟩=>⟨v,r,z1,RelD.mon e z2,RelDs.mon e z3⟩
end
theorem CellRel.mon (e:Mon G H G' H')(k: ∀o,H a=y0 o->H' a=y0 o) (z:CellRel Γ G H a c):CellRel Γ G' H' a c:=by
 cases c with
 | lst g=>obtain⟨f,j,d,b⟩:=z;exact⟨f,j,k _ d,b.mon e⟩
 | dic h=>obtain⟨g,d,b,m⟩:=z;exact⟨g,k _ d,b,λx l=>(m x l).mon e⟩
 | dii h=>exact k _ z
 | obj c fs=>obtain⟨f,n,i,d,b⟩:=z;exact⟨f,n,i,k _ d,b.mon e⟩
def RelD.ext (e:Ext G H G' H') (a:HRel Γ G h H)(z:RelD Γ G H d v):RelD Γ G' H' d v:=z.mon (e.mon a)
def RelDs.ext (e:Ext G H G' H') (a:HRel Γ G h H)(z:RelDs Γ G H d v):RelDs Γ G' H' d v:=z.mon (e.mon a)
theorem RelW.ext (e:Ext G H G' H') (g:HRel Γ G h H)(z:RelW Γ G H w v):RelW Γ G' H' w v:=by
 cases w with
 | v d=>exact RelD.ext e g z
 | own k=>
  obtain⟨a,f,j,l,c,b,i⟩:=z
  refine⟨a,f,j,λq=> ?_,e.off b c,e.keep a _ b c,RelDs.ext e g i⟩
  rcases e.old a q with q | q
  ·exact l q
  ·rw [b]at q;cases q
 | bor k=>
  obtain⟨a,f,j,c,b,i⟩:=z
  refine⟨a,f,j,?_,e.rd b c,RelDs.ext e g i⟩
  rcases b with b | ⟨o,b⟩
  ·exact e.off b c
  ·exact e.off b c
theorem StRel.ext (s:StRel Γ G Y h U H) (e:Ext G H G' H') (a:HRel Γ G' h' H'):StRel Γ G' Y h' U H' where
 len:=s.len
 slot:=λi w z=>let ⟨v,c,b⟩:=s.slot i w z; ⟨v,c,b.ext e s.heap⟩
 apart:=s.apart
 heap:=a
theorem RelDs.length: ∀ {ds}{a},RelDs Γ G H ds a->ds.length=a.length
 | [],_,rfl=>rfl
 | _::_,_,⟨_,_,rfl,_,z⟩=>congrArg (· +1) (RelDs.length z)
theorem RelDs.get: ∀ {ds}{vs}{i:Nat}{d},RelDs Γ G H ds vs->ds[i]? =y0 d-> ∃v,vs[i]? =y0 v/\RelD Γ G H d v
 | [],_,_,_,_,e=>by simp at e
 | _::_,_,0,_,⟨v,_,rfl,z,_⟩,e=>by simp at e;subst e;exact⟨v,rfl,z⟩
 | _::_,_,i+1,_,⟨_,_,rfl,_,z⟩,e=>by
  obtain⟨v,b,a⟩:=RelDs.get z (by simpa using e)
  exact⟨v,by simpa using b,a⟩
theorem RelDs.append: ∀ {ds es}{a b},RelDs Γ G H ds a->RelDs Γ G H es b->RelDs Γ G H (ds++es) (a++b)
 | [],_,_,_,rfl,z=>z
 | _::_,_,_,_,⟨v,r,rfl,c,d⟩,z=>⟨v,r++_,rfl,c,RelDs.append d z⟩
theorem RelDs.drop: ∀ {ds}{a}(n),RelDs Γ G H ds a->RelDs Γ G H (ds.drop n) (a.drop n)
 | _,_,0,z=>z
 | [],_,_+1,rfl=>rfl
 | _::_,_,n+1,⟨_,_,rfl,_,z⟩=>RelDs.drop n z
theorem RelDs.take: ∀ {ds}{a}(n),RelDs Γ G H ds a->RelDs Γ G H (ds.take n) (a.take n)
 | _,_,0,_=>rfl
 | [],_,_+1,rfl=>rfl
 | _::_,_,n+1,⟨v,r,rfl,b,z⟩=>⟨v,r.take n,rfl,b,RelDs.take n z⟩
theorem RelDs.reverse: ∀ {ds}{a},RelDs Γ G H ds a->RelDs Γ G H ds.reverse a.reverse
 | [],_,rfl=>rfl
 | _::_,_,⟨v,r,rfl,b,z⟩=>by
  rw [List.reverse_cons,List.reverse_cons]
  exact(RelDs.reverse z).append ⟨v,[],rfl,b,rfl⟩
theorem RelDs.set (z:RelD Γ G H d v): ∀ {ds}{b} i,RelDs Γ G H ds b->RelDs Γ G H (ds.set i d) (b.set i v)
 | [],_,_,rfl=>rfl
 | _::_,_,0,⟨_,r,rfl,_,a⟩=>⟨v,r,rfl,z,a⟩
 | _::_,_,i+1,⟨u,r,rfl,c,a⟩=>⟨u,r.set i v,rfl,c,RelDs.set z i a⟩
def Gh.more (G:Gh) (a:Addr):Gh:= { G with fz:=λb=>G.fz b\/b=a }
def jv (o) (b:H p=u0):Ext G H G (jd7 H p o) where
 keep:=λa u z _=>by rw [qa (Xa z b)];exact z
 le:=Aa5 _
 rho:=λ_ _=>rfl
 new:=λr d c=>absurd d (Ap0.mpr c)
 fz:=λ_ z=>z
 old:=λ_ z=> .inl z
 cells:=λr _ ⟨u,z⟩=>⟨u,by rw [qa (Xa z b)];exact z⟩
def Wg (o) (b:H p=u0):Ext G H (G.more p) (jd7 H p o) where
 keep:=λa u z _=>by rw [qa (Xa z b)];exact z
 le:=Aa5 _
 rho:=λ_ _=>rfl
 new:=λr d c=>absurd d (Ap0.mpr c)
 fz:=λ_ z=> .inl z
 old:=λa z=>z.elim .inl λe=> .inr (e▸b)
 cells:=λr _ ⟨u,z⟩=>⟨u,by rw [qa (Xa z b)];exact z⟩
def HRel.new (r:HRel Γ G h H)(o) (b:H p=u0):HRel Γ G h (jd7 H p o) where
 len:=r.len
 any:=λi c z=>⟨(r.any i c z).1,(r.any i c z).2.mon ((jv o b).mon r) λu q=>by rw [qa (Xa q b)];exact q⟩
 inj:=r.inj
 live:=λa z=>let ⟨u,q⟩:=r.live a z; ⟨u,by rw [qa (Xa q b)];exact q⟩
def HRel.newF (r:HRel Γ G h H)(o) (b:H p=u0):HRel Γ (G.more p) h (jd7 H p o) where
 len:=r.len
 any:=λi c z=>by
  obtain⟨g,d⟩:=r.any i c z
  obtain⟨u,f⟩:=d.there
  exact⟨λq=>q.elim g (Xa f b),d.mon ((Wg o b).mon r) λu q=>by rw [qa (Xa q b)];exact q⟩
 inj:=r.inj
 live:=λa z=>z.elim (λz=>let ⟨u,q⟩:=r.live a z; ⟨u,by rw [qa (Xa q b)];exact q⟩) λe=>⟨o,by rw [e];exact xb⟩
def Xm (a):Mon G H (G.more a) H:=⟨λ_ _ _ z=>z,Aa5 _,λ_ _=>rfl,λ_ z=> .inl z⟩
theorem Ext.more (e:Ext G H G1 H1)(c:H a=Option.none):Ext G H (G1.more a) H1:=
 ⟨e.keep,e.le,e.rho,e.new,λb z=> .inl (e.fz b z),λb z=>z.elim (λz=>e.old b z) λz=> .inr (z▸c),e.cells⟩
theorem HRel.more (r:HRel Γ G h H)(d:zdW G a) (f: ∃o,H a=y0 o):HRel Γ (G.more a) h H where
 len:=r.len
 any:=λi c z=>⟨λq=>q.elim (r.any i c z).1 λe=>d i (r.lt z) e,(r.any i c z).2.mon (Xm a) λ_ q=>q⟩
 inj:=r.inj
 live:=λb z=>z.elim (λz=>r.live b z) λe=>e▸f
theorem RelW.more (z:RelW Γ G H w v) (k:zdz w=k9->v≠ .ref a):RelW Γ (G.more a) H w v:=by
 cases w with
 | v d=>exact RelD.mon (Xm a) z
 | own j=>
  obtain⟨b,g,c,l,i,f,h⟩:=z
  exact⟨b,g,c,λq=>q.elim l λe=>k rfl (e▸c),i,f,h.mon (Xm a)⟩
 | bor j=>
  obtain⟨b,g,c,i,f,h⟩:=z
  exact⟨b,g,c,i,f,h.mon (Xm a)⟩
theorem StRel.more (s:StRel Γ G Y h U H)(b:zdW G a) (g: ∃o,H a=y0 o) (d: ∀ i w,M.Gj Y i=y0 w->zdz w=k9->U[i]? ≠y0 (y0 (.ref a))):StRel Γ (G.more a) Y h U H where
 len:=s.len
 slot:=λi w z=>by
  obtain⟨v,c,f⟩:=s.slot i w z
  exact⟨v,c,f.more λq e=>d i w z q (e▸c)⟩
 apart:=s.apart
 heap:=s.heap.more b g
noncomputable def FreshW (Y:M.Sl) (U:St) (H:Hp):M.W->V->Prop
 | .v _,_=>True
 | .own _,v=> ∃a,v= .ref a/\H a=u0
 | .bor _,v=> ∃(i:Nat) (w:M.W),M.Gj Y i=y0 w/\zdz w=k9/\U[i]? =y0 (y0 v)
def FreshW.back (e:Ext G H G1 H1) (b:HRel Γ G h H)(z:FreshW Y U H1 w v):FreshW Y U H w v:=by
 cases w with
 | v d=>trivial
 | own c=>obtain⟨a,f,g⟩:=z;exact⟨a,f,e.none b g⟩
 | bor c=>exact z
def StRel.slotThere (s:StRel Γ G Y h U H)(e:M.Gj Y i=y0 w) (l:zdz w=k9) (q:U[i]? =y0 (y0 (.ref a))): ∃o,H a=y0 o:=by
 obtain⟨v,f,g⟩:=s.slot i w e
 rw [q]at f
 cases f
 cases w with
 | v d=>cases l
 | own k=>obtain⟨b,j,f,_,_,c,_⟩:=g;cases f;exact⟨_,c⟩
 | bor k=>
  obtain⟨b,j,f,_,c,_⟩:=g
  cases f
  rcases c with c | ⟨o,c⟩
  ·exact⟨_,c⟩
  ·exact⟨_,c⟩
noncomputable def xc9 (a:Ge) (E:XK) (d:M.D) (G:Gh) (H:Hp):Prop:=(∀ c,d= .exc c []->jdZ a c->E (.ref (a.ca c)) u0 H) ∧
 ∀c f b,d= .err c f b->jdZ a c->xcD a.K (a.ca c) (Str.ofString f)-> ∀dx u,G.fz dx->H dx=y0 (.xd [(Str.ofString f,u)])->RelD a G H b u->E (.ref (a.ca c)) (y0 dx) H
noncomputable def Post {c:Type}(b:Ge) (E:XK) (G:Gh) (H:Hp) (r:M.R c) (P:c->M.AH->Gh->Hp->Prop):Prop:=match r with
 | .ok a h'=> ∀G' H',Ext G H G' H'->HRel b G' h' H'->P a h' G' H'
 | .exc d h'=> ∀G' H',Ext G H G' H'->HRel b G' h' H'->xc9 b E d G' H'
 | .fail=>False
def Post.on (p:Post Γ E G H r P) (e:Ext G H G1 H1) (i:HRel Γ G h H):Post Γ E G1 H1 r P:=by
 cases r with
 | ok a j=>exact λf c g b=>p f c (e.trans i g) b
 | exc d j=>exact λf c g b=>p f c (e.trans i g) b
 | fail=>exact p
noncomputable def tD (a:Ge) (E:XK) (m:M.Sl->M.AH->M.R M.W):TE:=λU H Q=> ∃G Y h,StRel a G Y h U H/\Post a E G H (m Y h) λw h' G' H'=> ∀v,RelW a G' H' w v->FreshW Y U H w v->Q v H'
noncomputable def qd3 (a:Ge) (E:XK) (m:M.Sl->M.AH->M.R Bool):TT:=λU H Q=> ∃G Y h,StRel a G Y h U H/\Post a E G H (m Y h) λb _ _ H'=>Q b H'
def Ja (a:HRel Γ G0 h0 H0) (b:Ext G0 H0 G H) (s:StRel Γ G Y h U H)
 (p:Post Γ E G0 H0 ((m Y h).bind f) P)
 (k: ∀w v h1 G1 H1,Ext G0 H0 G1 H1->Ext G H G1 H1->StRel Γ G1 Y h1 U H1->RelW Γ G1 H1 w v->FreshW Y U H w v->Post Γ E G0 H0 (f w h1) P->Q v H1):tD Γ E m U H Q:=by
 refine⟨G,Y,h,s,?_⟩
 cases q:m Y h with
 | ok w h1=>
  rw [q]at p
  exact λG1 H1 e c v g i=>k w v h1 G1 H1 (b.trans a e) e (s.ext e c) g i p
 | exc d h1=>rw [q]at p;exact Post.on p b a
 | fail=>rw [q]at p;exact p
def ZJ (c:HRel Γ G0 h0 H0) (a:Ext G0 H0 G H) (s:StRel Γ G Y h U H)
 (p:Post Γ E G0 H0 ((m Y h).bind f) P)
 (k: ∀b h1 G1 H1,Ext G0 H0 G1 H1->Ext G H G1 H1->StRel Γ G1 Y h1 U H1->Post Γ E G0 H0 (f b h1) P->Q b H1):qd3 Γ E m U H Q:=by
 refine⟨G,Y,h,s,?_⟩
 cases q:m Y h with
 | ok w h1=>
  rw [q]at p
  exact λG1 H1 e g=>k w h1 G1 H1 (a.trans c e) e (s.ext e g) p
 | exc d h1=>rw [q]at p;exact Post.on p a c
 | fail=>rw [q]at p;exact p
noncomputable def xdM (a:Ge) (E:XK) (m:M.Sl->M.AH->M.R (List M.D)):TA:=λU H Q=> ∃G Y h,StRel a G Y h U H/\Post a E G H (m Y h) λds _ G' H'=> ∀b,RelDs a G' H' ds b->Q b H'
noncomputable def RelWs (b:Ge) (G:Gh) (H:Hp):List M.W->List V->Prop
 | [],a=>a= []
 | w::c,a=> ∃v r,a=v::r/\RelW b G H w v/\RelWs b G H c r
theorem RelWs.length: ∀ {ws}{a},RelWs Γ G H ws a->ws.length=a.length
 | [],_,rfl=>rfl
 | _::_,_,⟨_,_,rfl,_,z⟩=>congrArg (· +1) (RelWs.length z)
noncomputable def xdw (a:Ge) (E:XK) (m:M.Sl->M.AH->M.R (List M.W)):TA:=λU H Q=> ∃G Y h,StRel a G Y h U H/\Post a E G H (m Y h) λc _ G' H'=> ∀b,RelWs a G' H' c b->Q b H'
def wT (c:HRel Γ G0 h0 H0) (b:Ext G0 H0 G H) (s:StRel Γ G Y h U H)
 (p:Post Γ E G0 H0 ((m Y h).bind f) P)
 (k: ∀ds a h1 G1 H1,Ext G0 H0 G1 H1->Ext G H G1 H1->StRel Γ G1 Y h1 U H1->RelDs Γ G1 H1 ds a->Post Γ E G0 H0 (f ds h1) P->Q a H1):xdM Γ E m U H Q:=by
 refine⟨G,Y,h,s,?_⟩
 cases q:m Y h with
 | ok w h1=>
  rw [q]at p
  exact λG1 H1 e g a z=>k w a h1 G1 H1 (b.trans c e) e (s.ext e g) z p
 | exc d h1=>rw [q]at p;exact Post.on p b c
 | fail=>rw [q]at p;exact p
def XB (c:HRel Γ G0 h0 H0) (b:Ext G0 H0 G H) (s:StRel Γ G Y h U H)
 (p:Post Γ E G0 H0 ((m Y h).bind f) P)
 (k: ∀ds a h1 G1 H1,Ext G0 H0 G1 H1->Ext G H G1 H1->StRel Γ G1 Y h1 U H1->RelWs Γ G1 H1 ds a->Post Γ E G0 H0 (f ds h1) P->Q a H1):xdw Γ E m U H Q:=by
 refine⟨G,Y,h,s,?_⟩
 cases q:m Y h with
 | ok w h1=>
  rw [q]at p
  exact λG1 H1 e g a z=>k w a h1 G1 H1 (b.trans c e) e (s.ext e g) z p
 | exc d h1=>rw [q]at p;exact Post.on p b c
 | fail=>rw [q]at p;exact p
theorem Post.of (p:Post Γ E G H ((M.R.of h o).bind f) P): ∃b,o=y0 b/\Post Γ E G H (f b h) P:=by
 cases o with
 | none=>exact p.elim
 | some b=>exact⟨b,rfl,p⟩
def Post.at (p:Post Γ E G H (.ok a h) P) (e:Ext G H G1 H1) (b:HRel Γ G1 h H1):P a h G1 H1:=p G1 H1 e b
def qdT (e:Ext G H G1 H1) (s:StRel Γ G1 Y h U H1) (n:StRel Γ G Y h' U H)(r:RelW Γ G1 H1 w v) (f:FreshW Y U H w v) (c:w.d=y0 d):
 ∃G2,Ext G H G2 H1/\StRel Γ G2 Y h U H1/\RelD Γ G2 H1 d v/\Mon G1 H1 G2 H1:=by
 cases w with
 | v x=>cases c;exact⟨G1,e,s,r,⟨λ_ _ _ z=>z,Aa5 _,λ_ _=>rfl,λ_ z=>z⟩⟩
 | own l=>
  cases c
  obtain⟨a,k,rfl,y,t,j,p⟩:=r
  obtain⟨b,m,hn⟩:=f
  cases m
  refine⟨G1.more a,e.more hn,s.more t ⟨_,j⟩ λi w q u z=> ?_,⟨a,k,rfl,.inl ⟨.inr rfl,.inl j⟩,p.mon (Xm a)⟩,Xm a⟩
  obtain⟨o,g⟩:=n.slotThere q u z
  rw [hn]at g;cases g
 | bor l=>cases c
end
open PySem PySem.Spec PyProof.Rows
mutual
noncomputable def RV (hp:Heap):M.D->Value->Prop
 | .non,u=>u= .none
 | .bl b,u=>u= .bool b
 | .int i,u=> ∃t,u= .int i t
 | .str s,u=> ∃t,u= .str (zdH s) t
 | .tup ds,u=> ∃(a:Addr) (its:List Value),u= .ref a/\IsTup hp a its.toArray/\RVs hp ds its
 | .lst ds,u=> ∃(a:Addr) (its:List Value),u= .ref a/\hp.IsList a its.toArray/\RVs hp ds its
 | .ref _,_=>False
 | .exc _ _,_=>False
 | .err _ _ _,_=>False
noncomputable def RVs (hp:Heap):List M.D->List Value->Prop
 | [],us=>us= []
 | d::ds,us=> ∃u r,us=u::r/\RV hp d u/\RVs hp ds r
end
theorem RVs.length : ∀ {ds}{a},RVs hp ds a->ds.length=a.length
 | [],_,rfl=>rfl
 | _::_,_,⟨_,_,rfl,_,z⟩=>congrArg (· +1) (RVs.length z)
theorem RVs.get : ∀ {ds}{us}{j:Nat}{u},RVs hp ds us->us[j]? =y0 u-> ∃d,ds[j]? =y0 d/\RV hp d u
 | [],_,_,_,rfl,e=>by simp at e
 | d::_,_,0,_,⟨v,_,rfl,z,_⟩,e=>by simp at e;subst e;exact⟨d,rfl,z⟩
 | _::_,_,j+1,_,⟨_,_,rfl,_,z⟩,e=>by
  obtain⟨v,b,a⟩:=RVs.get z (by simpa using e)
  exact⟨v,by simpa using b,a⟩
section
variable {X:Cx}{Γ:Ge}{G:Gh}{H:Hp}{h:M.AH}{k8:List (Addr×Obj)}{U:St}{s:Shared}
mutual
theorem RelD.rv0 (I:Inv X k8 U H s) (hK:X.K=Γ.K): ∀ {d:M.D}{x:V}{u:Value},RelD Γ G H d x->RelV x u->M.Gc d=k9->RV s.heap d u
 | .non,_,_,rfl,r,_=>r
 | .bl _,_,_,rfl,r,_=>r
 | .int _,_,_,rfl,r,_=>r
 | .str _,_,_,rfl,r,_=>r
 | .tup ds,_,_,⟨a,vs,rfl,z2,z3⟩,r,n=>by
  cases r
  obtain⟨its,r1,p1,_⟩:=I.tuple (hK▸z2.sq)
  exact⟨a,its,rfl,p1,RelDs.rv0 I hK z3 r1 (by simpa [M.Gc]using n)⟩
 | .lst ds,_,_,⟨a,vs,rfl,z2,z3⟩,r,n=>by
  cases r
  obtain⟨its,r1,p1,_⟩:=I.list (hK▸z2.sq)
  exact⟨a,its,rfl,p1.isList,RelDs.rv0 I hK z3 r1 (by simpa [M.Gc]using n)⟩
 | .ref _,_,_,_,_,n=>by simp [M.Gc]at n
 | .exc _ _,_,_,_,_,n=>by simp [M.Gc]at n
 | .err _ _ _,_,_,_,_,n=>by simp [M.Gc]at n
theorem RelDs.rv0 (I:Inv X k8 U H s) (hK:X.K=Γ.K): ∀ {ds:List M.D}{xs:List V}{us:List Value},RelDs Γ G H ds xs->Vals xs us->M.Gf ds=k9->RVs s.heap ds us
 | [],_,_,rfl,.nil,_=>rfl
 | d::ds,_,_,⟨v,r,rfl,z1,z2⟩,.cons r1 r2,n=>by
  have n':M.Gc d=k9/\M.Gf ds=true:=by simpa [M.Gf]using n
  exact⟨_,_,rfl,RelD.rv0 I hK z1 r1 n'.1,RelDs.rv0 I hK z2 r2 n'.2⟩
end
mutual
theorem RelD.rv (I:Inv X k8 U H s) (hK:X.K=Γ.K) (hr:HRel Γ G h H): ∀ {d:M.D}{x:V}{u:Value},RelD Γ G H d x->RelV x u->M.Gc (M.res h d)=k9->RV s.heap (M.res h d) u
 | .non,_,_,rfl,r,_=>r
 | .bl _,_,_,rfl,r,_=>r
 | .int _,_,_,rfl,r,_=>r
 | .str _,_,_,rfl,r,_=>r
 | .tup ds,_,_,⟨a,vs,rfl,z2,z3⟩,r,n=>by
  cases r
  obtain⟨its,r1,p1,_⟩:=I.tuple (hK▸z2.sq)
  rw [M.res]at n ⊢
  exact⟨a,its,rfl,p1,RelDs.rv I hK hr z3 r1 (by simpa [M.Gc]using n)⟩
 | .lst ds,_,_,⟨a,vs,rfl,z2,z3⟩,r,n=>by
  cases r
  obtain⟨its,r1,p1,_⟩:=I.list (hK▸z2.sq)
  rw [M.res]at n ⊢
  exact⟨a,its,rfl,p1.isList,RelDs.rv I hK hr z3 r1 (by simpa [M.Gc]using n)⟩
 | .ref i,_,_,⟨hi,e⟩,r,n=>by
  subst e
  cases r
  rw [M.res]at n ⊢
  cases q:h[i]? with
  | none=>rw [q]at n;simp [M.Gc]at n
  | some c=>
   cases c with
   | lst xs=>
    rw [q]at n
    obtain⟨_,vs,z2,z3⟩:=hr.cell i xs q
    obtain⟨its,r1,p1,_⟩:=I.list (SqL.of (K:=X.K) z2)
    exact⟨_,its,rfl,p1.isList,RelDs.rv0 I hK z3 r1 (by simpa [M.Gc]using n)⟩
   | dic ks=>rw [q]at n;simp [M.Gc]at n
   | obj c fs=>rw [q]at n;simp [M.Gc]at n
   | dii ks=>rw [q]at n;simp [M.Gc]at n
 | .exc _ _,_,_,_,_,n=>by simp [M.res,M.Gc]at n
 | .err _ _ _,_,_,_,_,n=>by simp [M.res,M.Gc]at n
theorem RelDs.rv (I:Inv X k8 U H s) (hK:X.K=Γ.K) (hr:HRel Γ G h H): ∀ {ds:List M.D}{xs:List V}{us:List Value},RelDs Γ G H ds xs->Vals xs us->M.Gf (M.KS h ds)=k9->RVs s.heap (M.KS h ds) us
 | [],_,_,rfl,.nil,_=>rfl
 | d::ds,_,_,⟨v,r,rfl,z1,z2⟩,.cons r1 r2,n=>by
  rw [M.KS]at n ⊢
  have n':M.Gc (M.res h d)=k9/\M.Gf (M.KS h ds)=true:=by simpa [M.Gf]using n
  exact⟨_,_,rfl,RelD.rv I hK hr z1 r1 n'.1,RelDs.rv I hK hr z2 r2 n'.2⟩
end
theorem RelW.rv (I:Inv X k8 U H s) (e:X.K=Γ.K) (c:HRel Γ G h H)(z:RelW Γ G H w x) (r:RelV x u) (n:M.Gc (w.dd h)=k9):RV s.heap (w.dd h) u:=by
 cases w with
 | v d=>exact RelD.rv I e c z r n
 | own l=>
  obtain⟨a,k,rfl,_,_,j,f⟩:=z
  cases r
  obtain⟨b,g,i,_⟩:=I.list (SqL.of j)
  exact⟨a,b,rfl,i.isList,RelDs.rv I e c f g (by simpa [M.Gc]using n)⟩
 | bor l=>
  obtain⟨a,k,rfl,_,j,f⟩:=z
  cases r
  obtain⟨b,g,i,_⟩:=I.list (.inl j)
  exact⟨a,b,rfl,i.isList,RelDs.rv I e c f g (by simpa [M.Gc]using n)⟩
end
def zaD (h:zdH a=zdH b):a=b:=by
 have:=congrArg Str.cps h
 simpa [zdH]using this
def wP {xs b:List Value}(h1:IsTup hp a xs.toArray) (h2:IsTup hp a b.toArray):xs=b:=by
 obtain⟨o,f,_,n,e⟩:=h1
 obtain⟨h,c,_,g,d⟩:=h2
 rw [f]at c;cases c
 rw [e]at d;cases d
 rfl
def xG {d:Heap}{xs b:List Value}(h1:d.IsList a xs.toArray) (h2:d.IsList a b.toArray):xs=b:=by
 obtain⟨o,g,_,n,f⟩:=h1
 obtain⟨i,c,_,h,e⟩:=h2
 rw [g]at c;cases c
 rw [f]at e;cases e
 rfl
def Xx (h1:IsTup hp a xs) (h2:hp.IsList a ys):False:=by
 obtain⟨o,d,e,_⟩:=h1
 obtain⟨f,c,b,_⟩:=h2
 rw [d]at c;cases c
 rw [e]at b
 exact absurd b (by decide)
mutual
theorem RV.inj {hp:Heap}: ∀ {d e:M.D}{u:Value},RV hp d u->RV hp e u->d=e
 | .non,e,_,rfl,q=>by cases e<;>first | rfl | (simp [RV]at q)
 | .bl _,e,_,rfl,q=>by cases e<;>first | (simp [RV]at q;done) | (have q:=q;simp [RV]at q;try rw [q])
 | .int _,e,_,⟨t,rfl⟩,q=>by cases e<;>first | (simp [RV]at q;done) | (have q:=q;simp [RV]at q;try rw [q])
 | .str _,e,_,⟨t,rfl⟩,q=>by
  cases e with
  | str z=>
   obtain⟨t',q⟩:=q
   injection q with q1 q2
   rw [zaD q1]
  | _=>simp [RV]at q
 | .tup ds,e,_,⟨a,its,rfl,p,r⟩,q=>by
  cases e with
  | tup es=>
   obtain⟨b,its2,e,p2,r2⟩:=q
   cases e
   cases wP p p2
   rw [RVs.inj r r2]
  | lst es=>
   obtain⟨b,its2,e,p2,r2⟩:=q
   cases e
   exact(Xx p p2).elim
  | _=>simp [RV]at q
 | .lst ds,e,_,⟨a,its,rfl,p,r⟩,q=>by
  cases e with
  | lst es=>
   obtain⟨b,its2,e,p2,r2⟩:=q
   cases e
   cases xG p p2
   rw [RVs.inj r r2]
  | tup es=>
   obtain⟨b,its2,e,p2,r2⟩:=q
   cases e
   exact(Xx p2 p).elim
  | _=>simp [RV]at q
 | .ref _,_,_,q,_=>q.elim
 | .exc _ _,_,_,q,_=>q.elim
 | .err _ _ _,_,_,q,_=>q.elim
theorem RVs.inj {hp:Heap}: ∀ {d e:List M.D}{u:List Value},RVs hp d u->RVs hp e u->d=e
 | [],e,_,rfl,q=>by
  cases e with
  | nil=>rfl
  | cons a b=>obtain⟨_,_,z,_⟩:=q;cases z
 | d::ds,e,_,⟨u,r,rfl,z1,z2⟩,q=>by
  cases e with
  | nil=>cases (show _::_= []from q)
  | cons a b=>
   obtain⟨_,_,z,y1,y2⟩:=q
   cases z
   rw [RV.inj z1 y1,RVs.inj z2 y2]
end
mutual
theorem RV.refl {hp:Heap}: ∀ {d:M.D}{u:Value},RV hp d u->M.eqD d d=k9
 | .non,_,_=>rfl
 | .bl _,_,_=>by simp
 | .int _,_,_=>by simp
 | .str _,_,_=>by simp
 | .tup ds,_,⟨_,_,_,_,r⟩=>by rw [M.eqD];exact RVs.refl r
 | .lst ds,_,⟨_,_,_,_,r⟩=>by rw [M.eqD];exact RVs.refl r
 | .ref _,_,q=>q.elim
 | .exc _ _,_,q=>q.elim
 | .err _ _ _,_,q=>q.elim
theorem RVs.refl {hp:Heap}: ∀ {d:List M.D}{u:List Value},RVs hp d u->M.Kv d d=k9
 | [],_,_=>rfl
 | d::ds,_,⟨_,_,_,z1,z2⟩=>by rw [M.Kv,RV.refl z1,RVs.refl z2];rfl
end
def xdK (xs c:List M.D) (j:Nat):Bool:=match xs[j]?,c[j]? with
 | some a,y0 b=>M.eqD a b
 | _,_=>k9
def WE (n) (e):(Aa0 (n+1)).all e=(e 0&&(Aa0 n).all λj=>e (j+1)):=by
 rw [Ag,Ai4,An5];rfl
theorem JW: ∀(xs ys),xs.length=ys.length->(Aa0 xs.length).all (xdK xs ys)=M.Kv xs ys
 | [],[],_=>rfl
 | [],_::_,h=>by simp at h
 | _::_,[],h=>by simp at h
 | x::xs,y::ys,h=>by
  rw [Ab4,WE,M.Kv]
  have a:=JW xs ys (by simpa using h)
  rw [← a]
  rfl
theorem Q2: ∀(xs ys),M.Kv xs ys=k9->xs.length=ys.length
 | [],[],_=>rfl
 | [],_::_,h=>by simp at h
 | _::_,[],h=>by simp at h
 | x::xs,y::ys,h=>by
  rw [M.Kv,Aa7]at h
  rw [Ab4,Ab4,Q2 xs ys h.2]
def xag (h:xs.length≠ys.length):M.Kv xs ys=false:=by
 cases e:M.Kv xs ys with
 | false=>rfl
 | true=>exact absurd (Q2 xs ys e) h
open SeqAt in
structure Cmp3 (A:Around) (s:Shared) (u v:Value) (b:Bool):Prop where
 rc:RcAt A s u v b
 ne:RcNeAt A s u v (!b)
 eq:EqAt A s u v b
section
open SeqAt
variable {A:Around}{s:Shared}
theorem jy: ∀ {ds}{j:Nat}{d},ds[j]? =y0 d->M.dep d<=M.KN ds
 | [],_,_,e=>by simp at e
 | x::a,0,d,e=>by simp at e;subst e;simp only [M.KN];omega
 | x::a,j+1,d,e=>by
  have:=jy (by simpa using e)
  simp only [M.KN]
  omega
def xdS (b:Bool):((if b then(1:Int)else 0))=((b.toNat:Nat):Int):=by cases b<;>rfl
def jaP (a b):(zdH a==zdH b)=(a==b):=by
 by_cases h:a=b
 ·subst h;simp
 ·have c:=λe=>h (zaD e)
  rw [beq_eq_false_iff_ne.mpr h,beq_eq_false_iff_ne.mpr c]
def jai (h:s.heap.IsList l its.toArray) (g:s.heap.IsList b its2.toArray) (i:RVs s.heap xs its) (o:RVs s.heap ys its2) (k:A.units<cLine)
 (y: ∀(j:Nat) a c u v,xs[j]? =y0 a->ys[j]? =y0 c->RV s.heap a u->RV s.heap c v->EqAt A.in1 s u v (M.eqD a c)):Cmp3 A s (.ref l) (.ref b) (M.Kv xs ys):=by
 have q: ∀ j n (m:j<its2.toArray.size),EqAt A.in1 s its.toArray[j] its2.toArray[j] (xdK xs ys j):=λj n m=>by
  obtain⟨a,t,z⟩:=i.get (j:=j) (u:=its.toArray[j]) (by simp at n;simp [n])
  obtain⟨c,r,w⟩:=o.get (j:=j) (u:=its2.toArray[j]) (by simp at m;simp [m])
  have:=y j a c _ _ t r z w
  unfold xdK
  rw [t,r]
  exact this
 have x:=i.length
 have l2:=o.length
 have two:RcAt A s (.ref l) (.ref b) (M.Kv xs ys)/\RcNeAt A s (.ref l) (.ref b) (!M.Kv xs ys):=by
  by_cases p:xs.length=ys.length
  ·have d:its.toArray.size=its2.toArray.size:=by simp;omega
   have e:(Aa0 its.toArray.size).all (xdK xs ys)=M.Kv xs ys:=by
    rw [Ab,←x];exact JW xs ys p
   have a:=RcAt.lists h g d k q
   have c:=RcNeAt.lists h g d k q
   rw [e]at a c
   exact⟨a,c⟩
  ·have d:(its.toArray.size != its2.toArray.size)=true:=by simp;omega
   rw [xag p]
   exact⟨RcAt.lists_lengths h g d k,RcNeAt.lists_lengths h g d k⟩
 refine⟨two.1,two.2,?_⟩
 by_cases f:l=b
 ·subst f
  cases xG h g
  cases RVs.inj i o
  rw [RVs.refl i]
  exact EqAt.same _
 ·exact EqAt.of_refs f two.1
def qaa (m:IsTup s.heap l its.toArray) (h:IsTup s.heap b its2.toArray) (f:RVs s.heap xs its) (n:RVs s.heap ys its2) (p:A.units<cLine)
 (x: ∀(j:Nat) a c u v,xs[j]? =y0 a->ys[j]? =y0 c->RV s.heap a u->RV s.heap c v->EqAt A.in1 s u v (M.eqD a c)):Cmp3 A s (.ref l) (.ref b) (M.Kv xs ys):=by
 have o: ∀ j k (i:j<its2.toArray.size),EqAt A.in1 s its.toArray[j] its2.toArray[j] (xdK xs ys j):=λj k i=>by
  obtain⟨a,r,y⟩:=f.get (j:=j) (u:=its.toArray[j]) (by simp at k;simp [k])
  obtain⟨c,q,t⟩:=n.get (j:=j) (u:=its2.toArray[j]) (by simp at i;simp [i])
  have:=x j a c _ _ r q y t
  unfold xdK
  rw [r,q]
  exact this
 have w:=f.length
 have l2:=n.length
 have e:((Aa0 (min its.toArray.size its2.toArray.size)).all (xdK xs ys)&&its.toArray.size==its2.toArray.size)=M.Kv xs ys:=by
  rw [Ab,Ab,←w,←l2]
  by_cases g:xs.length=ys.length
  ·rw [← g,Nat.min_self,JW xs ys g];simp
  ·rw [xag g];simp [g]
 have a:=RcAt.tuples m h p o
 have c:=RcNeAt.tuples m h p o
 rw [e]at a c
 refine⟨a,c,?_⟩
 by_cases d:l=b
 ·subst d
  cases wP m h
  cases RVs.inj f n
  rw [RVs.refl f]
  exact EqAt.same _
 ·exact EqAt.of_refs d a
def Cmp3.of (h:Cmp3 A s u v b) (e:b=b'):Cmp3 A s u v b':=e▸h
def zc1: ∀(n:Nat) (d e:M.D) (A:Around) (u v:Value),M.dep d<=n->A.units+n<cLine->RV s.heap d u->RV s.heap e v->Cmp3 A s u v (M.eqD d e):=by
 intro n
 induction n with
 | zero=>
  intro d e A u v B L m f
  have c:A.units<cLine:=by omega
  cases d with
  | non=>
   cases (show u= .none from m)
   cases e with
   | non=>cases (show v= .none from f);exact⟨RcAt.none_none,RcNeAt.none_none,EqAt.same _⟩
   | bl b=>cases (show v= .bool b from f);exact⟨RcAt.none_bool b,RcNeAt.none_bool b,EqAt.none_bool b⟩
   | int i=>obtain⟨t,rfl⟩:=f;exact⟨RcAt.none_int i t,RcNeAt.none_int i t,EqAt.none_int i t⟩
   | str z=>obtain⟨t,rfl⟩:=f;exact⟨RcAt.none_str _ t,RcNeAt.none_str _ t,EqAt.none_str _ t⟩
   | tup o=>obtain⟨a,k,rfl,p,_⟩:=f;exact⟨RcAt.none_tuple p c,RcNeAt.none_tuple p c,EqAt.none_tuple p c⟩
   | lst o=>obtain⟨a,k,rfl,p,_⟩:=f;exact⟨RcAt.none_list p c,RcNeAt.none_list p c,EqAt.none_list p c⟩
   | ref _=>exact f.elim
   | exc _ _=>exact f.elim
   | err _ _ _=>exact f.elim
  | bl x=>
   cases (show u= .bool x from m)
   cases e with
   | non=>cases (show v= .none from f);exact⟨RcAt.bool_none x,RcNeAt.bool_none x,EqAt.bool_none x⟩
   | bl b=>cases (show v= .bool b from f);exact⟨RcAt.bool_bool x b,RcNeAt.bool_bool x b,EqAt.bool_bool x b⟩
   | int i=>obtain⟨t,rfl⟩:=f;exact(Cmp3.mk (RcAt.bool_int x i t) (RcNeAt.bool_int x i t) (EqAt.bool_int x i t)).of (by rw [xdS];rfl)
   | str z=>obtain⟨t,rfl⟩:=f;exact⟨RcAt.bool_str x _ t,RcNeAt.bool_str x _ t,EqAt.bool_str x _ t⟩
   | tup o=>obtain⟨a,k,rfl,p,_⟩:=f;exact⟨RcAt.bool_tuple x p c,RcNeAt.bool_tuple x p c,EqAt.bool_tuple x p c⟩
   | lst o=>obtain⟨a,k,rfl,p,_⟩:=f;exact⟨RcAt.bool_list x p c,RcNeAt.bool_list x p c,EqAt.bool_list x p c⟩
   | ref _=>exact f.elim
   | exc _ _=>exact f.elim
   | err _ _ _=>exact f.elim
  | int x=>
   obtain⟨g,rfl⟩:=m
   cases e with
   | non=>cases (show v= .none from f);exact⟨RcAt.int_none x g,RcNeAt.int_none x g,EqAt.int_none x g⟩
   | bl b=>cases (show v= .bool b from f);exact(Cmp3.mk (RcAt.int_bool x g b) (RcNeAt.int_bool x g b) (EqAt.int_bool x g b)).of (by rw [xdS];rfl)
   | int i=>obtain⟨t,rfl⟩:=f;exact⟨RcAt.int_int x g i t,RcNeAt.int_int x g i t,EqAt.int_int x g i t⟩
   | str z=>obtain⟨t,rfl⟩:=f;exact⟨RcAt.int_str x g _ t,RcNeAt.int_str x g _ t,EqAt.int_str x g _ t⟩
   | tup o=>obtain⟨a,k,rfl,p,_⟩:=f;exact⟨RcAt.int_tuple x g p c,RcNeAt.int_tuple x g p c,EqAt.int_tuple x g p c⟩
   | lst o=>obtain⟨a,k,rfl,p,_⟩:=f;exact⟨RcAt.int_list x g p c,RcNeAt.int_list x g p c,EqAt.int_list x g p c⟩
   | ref _=>exact f.elim
   | exc _ _=>exact f.elim
   | err _ _ _=>exact f.elim
  | str x=>
   obtain⟨g,rfl⟩:=m
   cases e with
   | non=>cases (show v= .none from f);exact⟨RcAt.str_none _ g,RcNeAt.str_none _ g,EqAt.str_none _ g⟩
   | bl b=>cases (show v= .bool b from f);exact⟨RcAt.str_bool _ g b,RcNeAt.str_bool _ g b,EqAt.str_bool _ g b⟩
   | int i=>obtain⟨t,rfl⟩:=f;exact⟨RcAt.str_int _ g i t,RcNeAt.str_int _ g i t,EqAt.str_int _ g i t⟩
   | str z=>obtain⟨t,rfl⟩:=f;exact(Cmp3.mk (RcAt.str_str _ g _ t) (RcNeAt.str_str _ g _ t) (EqAt.str_str _ g _ t)).of (by rw [jaP];rfl)
   | tup o=>obtain⟨a,k,rfl,p,_⟩:=f;exact⟨RcAt.str_tuple _ g p c,RcNeAt.str_tuple _ g p c,EqAt.str_tuple _ g p c⟩
   | lst o=>obtain⟨a,k,rfl,p,_⟩:=f;exact⟨RcAt.str_list _ g p c,RcNeAt.str_list _ g p c,EqAt.str_list _ g p c⟩
   | ref _=>exact f.elim
   | exc _ _=>exact f.elim
   | err _ _ _=>exact f.elim
  | tup y=>simp only [M.dep]at B;omega
  | lst y=>simp only [M.dep]at B;omega
  | ref _=>exact m.elim
  | exc _ _=>exact m.elim
  | err _ _ _=>exact m.elim
 | succ n w=>
  intro d e A u v B L m f
  have c:A.units<cLine:=by omega
  cases d with
  | tup y=>
   obtain⟨l,C,rfl,h,D⟩:=m
   have r:M.KN y<=n:=by simp only [M.dep]at B;omega
   cases e with
   | non=>cases (show v= .none from f);exact⟨RcAt.tuple_none h c,RcNeAt.tuple_none h c,EqAt.tuple_none h c⟩
   | bl b=>cases (show v= .bool b from f);exact⟨RcAt.tuple_bool b h c,RcNeAt.tuple_bool b h c,EqAt.tuple_bool b h c⟩
   | int i=>obtain⟨t,rfl⟩:=f;exact⟨RcAt.tuple_int i t h c,RcNeAt.tuple_int i t h c,EqAt.tuple_int i t h c⟩
   | str z=>obtain⟨t,rfl⟩:=f;exact⟨RcAt.tuple_str _ t h c,RcNeAt.tuple_str _ t h c,EqAt.tuple_str _ t h c⟩
   | tup o=>
    obtain⟨a,k,rfl,p,q⟩:=f
    rw [M.eqD]
    exact qaa h p D q c λj E G H J F N K I=>(w E G A.in1 H J (Ac (jy F) r) (by show A.units+1+n<cLine;omega) K I).eq
   | lst o=>obtain⟨a,k,rfl,p,_⟩:=f;exact⟨RcAt.tuple_list h p c,RcNeAt.tuple_list h p c,EqAt.tuple_list h p c⟩
   | ref _=>exact f.elim
   | exc _ _=>exact f.elim
   | err _ _ _=>exact f.elim
  | lst y=>
   obtain⟨l,C,rfl,h,D⟩:=m
   have r:M.KN y<=n:=by simp only [M.dep]at B;omega
   cases e with
   | non=>cases (show v= .none from f);exact⟨RcAt.list_none h c,RcNeAt.list_none h c,EqAt.list_none h c⟩
   | bl b=>cases (show v= .bool b from f);exact⟨RcAt.list_bool b h c,RcNeAt.list_bool b h c,EqAt.list_bool b h c⟩
   | int i=>obtain⟨t,rfl⟩:=f;exact⟨RcAt.list_int i t h c,RcNeAt.list_int i t h c,EqAt.list_int i t h c⟩
   | str z=>obtain⟨t,rfl⟩:=f;exact⟨RcAt.list_str _ t h c,RcNeAt.list_str _ t h c,EqAt.list_str _ t h c⟩
   | lst o=>
    obtain⟨a,k,rfl,p,q⟩:=f
    rw [M.eqD]
    exact jai h p D q c λj E G H J F N K I=>(w E G A.in1 H J (Ac (jy F) r) (by show A.units+1+n<cLine;omega) K I).eq
   | tup o=>obtain⟨a,k,rfl,p,_⟩:=f;exact⟨RcAt.list_tuple h p c,RcNeAt.list_tuple h p c,EqAt.list_tuple h p c⟩
   | ref _=>exact f.elim
   | exc _ _=>exact f.elim
   | err _ _ _=>exact f.elim
  | non=>exact w .non e A u v (by simp) (by omega) m f
  | bl x=>exact w (.bl x) e A u v (by simp) (by omega) m f
  | int x=>exact w (.int x) e A u v (by simp) (by omega) m f
  | str x=>exact w (.str x) e A u v (by simp) (by omega) m f
  | ref _=>exact m.elim
  | exc _ _=>exact m.elim
  | err _ _ _=>exact m.elim
end
noncomputable def PostW (a:Ge) (E:XK) (G:Gh) (H:Hp) (r:M.R M.W) (Q:VK):Prop:=Post a E G H r λw _ G' H'=> ∀v,RelW a G' H' w v->FreshW [] [] H w v->Q v H'
section
variable {X:Cx}{Γ:Ge}{G:Gh}{H:Hp}{h:M.AH}{k8:List (Addr×Obj)}{U:St}{s:Shared}{Q:VK}{E:XK}
theorem PostW.v (p:PostW Γ E G H (.ok (.v d) h) Q) (a:HRel Γ G h H){v:V}(z:RelD Γ G H d v):Q v H:=p G H Ext.refl a v z trivial
def HRel.nofz (b:HRel Γ G h H)(c:H a=u0): ¬G.fz a:=λq=>by
 obtain⟨o,z⟩:=b.live a q
 rw [c]at z;cases z
def HRel.offN (b:HRel Γ G h H)(c:H a=u0):zdW G a:=λr hn e=>by
 obtain⟨o,q⟩:=b.there hn
 rw [e,c]at q;cases q
theorem PostW.own (p:PostW Γ E G H (.ok (.own xs) h) Q) (c:HRel Γ G h H) (z:RelDs Γ G H xs vs) (a) (b:H a=u0):Q (.ref a) (jd7 H a (.lst vs)):=
 p G (jd7 H a (.lst vs)) (jv _ b) (c.new _ b) (.ref a) ⟨a,vs,rfl,c.nofz b,c.offN b,xb,z.ext (jv _ b) c⟩ ⟨a,rfl,b⟩
theorem PostW.tup (p:PostW Γ E G H (.ok (.v (.tup xs)) h) Q) (c:HRel Γ G h H) (z:RelDs Γ G H xs vs) (a) (b:H a=u0):Q (.ref a) (jd7 H a (.tup vs)):=
 p (G.more a) (jd7 H a (.tup vs)) (Wg _ b) (c.newF _ b) (.ref a) ⟨a,vs,rfl,.inl ⟨.inr rfl,xb⟩,z.ext (Wg _ b) c⟩ trivial
theorem PostW.of (p:PostW Γ E G H ((M.R.of h o).bind f) Q): ∃b,o=y0 b/\PostW Γ E G H (f b h) Q:=Post.of p
def PostW.mk (p:Post Γ E G0 H0 r λw _ G' H'=> ∀v,RelW Γ G' H' w v->FreshW Y U H0 w v->Q v H') (e:Ext G0 H0 G H) (c:HRel Γ G0 h0 H0):PostW Γ E G H r Q:=by
 cases r with
 | ok w k=>
  refine λG' H' f b v l h=>p G' H' (e.trans c f) b v l ?_
  cases w with
  | v d=>trivial
  | own j=>obtain⟨a,g,m⟩:=h;exact⟨a,g,e.none c m⟩
  | bor j=>obtain⟨i,w,g,_⟩:=h;simp at g
 | exc d k=>exact λG' H' f b=>p G' H' (e.trans c f) b
 | fail=>exact p
theorem RelW.lst (l:HRel Γ G h H)(z:RelW Γ G H w v) (e:w.lst? h=y0 xs): ∃a b,v= .ref a/\SqL Γ.K H a b/\RelDs Γ G H xs b:=by
 cases w with
 | v d=>
  cases d with
  | lst j=>cases e;obtain⟨a,b,g,i,f⟩:=z;exact⟨a,b,g,i.sq,f⟩
  | ref r=>
   obtain⟨hn,g⟩:=z
   have e:(match h[r]? with | some (M.Cell.lst zs)=>y0 zs | _=>u0)=y0 xs:=e
   cases q:h[r]? with
   | none=>rw [q]at e;cases e
   | some c=>
    cases c with
    | lst j=>
     rw [q]at e
     cases e
     obtain⟨_,b,i,f⟩:=l.cell r _ q
     exact⟨_,b,g,SqL.of i,f⟩
    | dic k=>rw [q]at e;cases e
    | obj c fs=>rw [q]at e;cases e
    | dii k=>rw [q]at e;cases e
  | non=>cases e
  | bl _=>cases e
  | int _=>cases e
  | str _=>cases e
  | tup _=>cases e
  | exc _ _=>cases e
  | err _ _ _=>cases e
 | own j=>cases e;obtain⟨a,b,g,_,_,i,f⟩:=z;exact⟨a,b,g,SqL.of i,f⟩
 | bor j=>cases e;obtain⟨a,b,g,_,i,f⟩:=z;exact⟨a,b,g,.inl i,f⟩
theorem RelW.lstO (l:HRel Γ G h H)(z:RelW Γ G H w v) (e:w.lstO? h=y0 xs): ∃a b,v= .ref a/\Rd H a (.lst b)/\RelDs Γ G H xs b:=by
 cases w with
 | v d=>
  cases d with
  | ref r=>
   obtain⟨hn,g⟩:=z
   have e:(match h[r]? with | some (M.Cell.lst zs)=>y0 zs | _=>u0)=y0 xs:=e
   cases q:h[r]? with
   | none=>rw [q]at e;cases e
   | some c=>
    cases c with
    | lst j=>
     rw [q]at e
     cases e
     obtain⟨_,b,i,f⟩:=l.cell r _ q
     exact⟨_,b,g,.inl i,f⟩
    | dic k=>rw [q]at e;cases e
    | obj c fs=>rw [q]at e;cases e
    | dii k=>rw [q]at e;cases e
  | _=>cases e
 | own j=>cases e;obtain⟨a,b,g,_,_,i,f⟩:=z;exact⟨a,b,g,.inl i,f⟩
 | bor j=>cases e;obtain⟨a,b,g,_,i,f⟩:=z;exact⟨a,b,g,i,f⟩
theorem RelW.seq (k:HRel Γ G h H)(z:RelW Γ G H w v) (e:w.seq? h=y0 xs): ∃a b,v= .ref a/\(SqL Γ.K H a b\/qdS Γ.K H a b)/\RelDs Γ G H xs b:=by
 have c:w.lst? h=y0 xs-> ∃a b,v= .ref a/\(SqL Γ.K H a b\/qdS Γ.K H a b)/\RelDs Γ G H xs b:=λe=>by
  obtain⟨a,b,i,j,f⟩:=z.lst k e
  exact⟨a,b,i,.inl j,f⟩
 cases w with
 | v d=>
  cases d with
  | tup g=>cases e;obtain⟨a,b,i,j,f⟩:=z;exact⟨a,b,i,.inr j.sq,f⟩
  | lst g=>exact c e
  | ref r=>exact c e
  | non=>cases e
  | bl _=>cases e
  | int _=>cases e
  | str _=>cases e
  | exc _ _=>cases e
  | err _ _ _=>cases e
 | own g=>exact c e
 | bor g=>exact c e
def qcL (I:Inv X k8 U H s)(r:Rd H a (.lst vs)):vs.length<=sizeLine/\ ∃ b n,Vals vs b/\vs.length=b.length/\s.heap.get? a=y0 { cls:= .type "list",data:= .seq b.toArray n }:=by
 obtain⟨z,b,n,r,e⟩:=r.ok I.hok
 exact⟨z,b,n,r,r.length,e⟩
def xi:M.LIM<=sizeLine:=by rw [M.Gk];decide
noncomputable def xcX (K:Aa6):R2:=λx y H Q=> ∃l b xs zs,x= .ref l/\y= .ref b/\SqL K H l xs/\SqL K H b zs/\xs.length+zs.length<=sizeLine/\ ∀p,H p=u0->Q (.ref p) (jd7 H p (.lst (xs++zs)))
def zbL:qd4 X (binaryOp .Add) (xcX X.K):=by
 intro p s U H x y v u Q I B G h
 obtain⟨l,b,K,N,rfl,rfl,z,hB,L,q⟩:=h
 cases B
 cases G
 obtain⟨c,r,J,_⟩:=I.list z
 obtain⟨a,t,E,_⟩:=I.list hB
 have M:=r.length
 have l2:=t.length
 have D:c.toArray++a.toArray=(c++a).toArray:=by simp
 obtain⟨⟨A,dd,k,sl⟩,m,w,n,F⟩:=id J.isList
 obtain⟨⟨o,f,j,g⟩,d,e,C,i⟩:=id E.isList
 subst w F e i
 refine concat_meets ⟨_,m,rfl⟩ ⟨_,d,rfl⟩ noFill_list_add seq_list_add PySem.F.slot_list_add PySem.F.entry_list_add (PySem.F.args_list_add_2 _ _) (list_addW l b c.toArray a.toArray n C dd f sl g (by rw [Ab,Ab];omega)) ⟨m,d,?_⟩
 rw [D]
 exact⟨.ref _,_,I.lnew (r.append t) (by rw [Aa8];omega),rfl,q _ I.fresh⟩
noncomputable def jcY:R2:=λx y H Q=> ∃l k xs,x= .ref l/\y= .int k/\Rd H l (.lst xs)/\ -(2 ^ 63)<=k/\k<2 ^ 63/\xs.length*k.toNat<=sizeLine ∧
 ∀p,H p=u0->Q (.ref p) (jd7 H p (.lst (Ab0 k.toNat xs).flatten))
def xbX:qd4 X (binaryOp .Mult) jcY:=by
 intro o s U H x y v u Q I B J h
 obtain⟨l,k,L,rfl,rfl,w,E,D,j,q⟩:=h
 cases B
 obtain⟨t,rfl⟩:=J
 obtain⟨z,b,n,r,G,e⟩:=qcL I w
 have d:b.toArray.size*k.toNat<=sizeLine:=by rw [Ab,←G];exact j
 have i: ¬b.toArray.size*k.toNat>(2 ^ 63-1) / 8:=by
  have: sizeLine<=(2 ^ 63-1) / 8:=by decide
  omega
 have g: ¬(!Builtin.List.listFitsIndex k)=true:=by
  rw [fitsIndex_both E D]
  exact Ab6
 have c: ¬Builtin.List.listTooLong (b.toArray.size*k.toNat)=true:=by
  rw [xZ d]
  exact Ab6
 have f:List.foldl (λp K=>p++K) #[] (Ab0 (if b.toArray.isEmpty=k9 then 0 else k.toNat) b.toArray)=(Ab0 k.toNat b).flatten.toArray:=by
  have A:=λm=>by
   have:=ZN b m []
   rw [Af3]at this
   exact this
  rw [A]
  cases b with
  | nil=>simp
  | cons a M=>rw [if_neg (by simp)]
 refine wpAny_binaryOp_repeat_ref (by decide) ⟨_,e,rfl⟩ (λC=>typeIs_int C k t) noFill_list_mul F.fills_int_mul F.slot_int_rmul repeat_list F.slot_int_index.lookup
  (call_meets F.slot_int_rmul (typeIs_int s k t) F.entry_int_rmul (F.args_int_rmul_2 _ _) (int___rmul___int_list k t l b.toArray n)
    ⟨e,rfl,⟨_,e,rfl⟩,call_meets F.slot_list_mul ⟨_,e,rfl⟩ F.entry_list_mul (F.args_list_mul_2 _ _) (AutoListH.list___mul___list_int_3 l b.toArray n k t g i c) ⟨e,?_⟩⟩)
 rw [f]
 exact⟨.ref _,_,I.lnew (r.rep k.toNat) (by rw [qbJ,Ai2];exact j),rfl,q _ I.fresh⟩
theorem RelDs.rep (z:RelDs Γ G H ds vs): ∀k:Nat,RelDs Γ G H (Ab0 k ds).flatten (Ab0 k vs).flatten
 | 0=>rfl
 | k+1=>by
  exact z.append (RelDs.rep z k)
def Xn (a b:Nat):Builtin.bitAnd (a:Int) (b:Int)=((a &&& b:Nat):Int):=by
 unfold Builtin.bitAnd
 rfl
def xbS (a:Nat) (j) (b: ¬0<=j):Builtin.bitAnd (a:Int) j=((a-(a &&& (-j-1).toNat):Nat):Int):=by
 have e:(Builtin.bitNot j).toNat=(-j-1).toNat:=by unfold Builtin.bitNot;omega
 unfold Builtin.bitAnd
 rw [decide_eq_true (Int.natCast_nonneg a),decide_eq_false b]
 show a-((a &&& (Builtin.bitNot j).toNat:Nat):Int)=_
 rw [e]
 have:= @Nat.and_le_left a (-j-1).toNat
 omega
def xC (a b:Nat):Builtin.bitOr (a:Int) (b:Int)=((a ||| b:Nat):Int):=by
 have d: ¬ 0<=Builtin.bitNot a:=by unfold Builtin.bitNot;omega
 have c: ¬ 0<=Builtin.bitNot b:=by unfold Builtin.bitNot;omega
 have e:(Builtin.bitNot (Builtin.bitNot a)).toNat=a:=by unfold Builtin.bitNot;omega
 have f:(Builtin.bitNot (Builtin.bitNot b)).toNat=b:=by unfold Builtin.bitNot;omega
 unfold Builtin.bitOr Builtin.bitAnd
 rw [decide_eq_false d,decide_eq_false c]
 show Builtin.bitNot (Builtin.bitNot (((Builtin.bitNot (Builtin.bitNot (a:Int))).toNat ||| (Builtin.bitNot (Builtin.bitNot (b:Int))).toNat:Nat)))=_
 rw [e,f]
 unfold Builtin.bitNot
 omega
def zbE (h:M.KZ i j=y0 k):Builtin.bitAnd i j=k:=by
 unfold M.KZ at h
 split at h
 ·rename_i d
  obtain⟨a,rfl⟩:=Aj6 d
  split at h
  ·rename_i c
   obtain⟨b,rfl⟩:=Aj6 c
   cases h
   exact Xn a b
  ·rename_i c
   cases h
   exact xbS a j c
 ·cases h
def jcL (h:M.orI i j=y0 k):Builtin.bitOr i j=k:=by
 unfold M.orI at h
 split at h
 ·rename_i c
  obtain⟨a,rfl⟩:=Aj6 c.1
  obtain⟨b,rfl⟩:=Aj6 c.2
  cases h
  exact xC a b
 ·cases h
noncomputable def zdX:M.Op->Operator
 | .add=> .Add | .sub=> .Sub | .mul=> .Mult | .fdiv=> .FloorDiv | .mod=> .Mod | .pow=> .Pow | .shl=> .LShift | .shr=> .RShift | .band=> .BitAnd | .bor=> .BitOr | .bxor=> .BitXor
noncomputable def jds (a:Ge) (E:XK) (o:M.Op):R2:=λx y H Q=> ∃G h c b,HRel a G h H/\RelW a G H c x/\RelW a G H b y/\PostW a E G H (M.Pf o c b h) Q
def Zq (s):(zdH s).length=s.length:=by
 show s.toArray.size=s.length
 simp
def xa4:M.Op->Bool
 | .bxor=>y9
 | _=>k9
def jb2 (d:xa4 o=k9)(e:M.Gn o i j=y0 k)(I:Inv X k8 U H s) (a:RelV (.int i) v) (b:RelV (.int j) u) (q:Q (.int k) H):
 wpAny (model X.prog X.w) X.A (binaryOp (zdX o) v u) (EP X k8 U Q) X.xe s:=by
 cases o with
 | add=>cases e;exact jcF k8 s U H _ _ v u Q I a b ⟨i,j,rfl,rfl,q⟩
 | sub=>cases e;exact qcI k8 s U H _ _ v u Q I a b ⟨i,j,rfl,rfl,q⟩
 | mul=>
  simp only [M.Gn,M.Pa,M.G9]at e
  split at e
  ·rename_i c;cases e;exact zcG k8 s U H _ _ v u Q I a b ⟨i,j,rfl,rfl,c,q⟩
  ·cases e
 | fdiv=>
  simp only [M.Gn,M.G8,M.G9]at e
  split at e
  ·rename_i c;cases e;exact jb1 k8 s U H _ _ v u Q I a b ⟨i,j,rfl,rfl,c,q⟩
  ·cases e
 | mod=>
  simp only [M.Gn,M.G9]at e
  split at e
  ·rename_i c;cases e;exact qcK k8 s U H _ _ v u Q I a b ⟨i,j,rfl,rfl,c,q⟩
  ·cases e
 | pow=>
  simp only [M.Gn,M.KR,M.G9]at e
  split at e
  ·rename_i c;cases e;exact xcM k8 s U H _ _ v u Q I a b ⟨i,j,rfl,rfl,c,q⟩
  ·cases e
 | shl=>
  simp only [M.Gn,M.KR,M.G9]at e
  split at e
  ·rename_i c;cases e;exact jcm k8 s U H _ _ v u Q I a b ⟨i,j,rfl,rfl,c,q⟩
  ·cases e
 | shr=>
  simp only [M.Gn,M.G9]at e
  split at e
  ·rename_i c;cases e;exact qcj k8 s U H _ _ v u Q I a b ⟨i,j,rfl,rfl,c,q⟩
  ·cases e
 | band=>exact zcr k8 s U H _ _ v u Q I a b ⟨i,j,rfl,rfl,by dsimp only;rw [zbE e];exact q⟩
 | bor=>exact qcR k8 s U H _ _ v u Q I a b ⟨i,j,rfl,rfl,by dsimp only;rw [jcL e];exact q⟩
 | bxor=>cases d
theorem RelW.int (z:RelW Γ G H w v) (e:w.int? =y0 i):v= .int i:=by
 cases w with
 | v d=>
  cases d with
  | int j=>cases e;exact z
  | _=>cases e
 | _=>cases e
theorem RelW.str (z:RelW Γ G H w v) (e:w.str? =y0 i):v= .str (zdH i):=by
 cases w with
 | v d=>
  cases d with
  | str j=>cases e;exact z
  | _=>cases e
 | _=>cases e
theorem RelW.tup (z:RelW Γ G H w v) (e:w.tup? =y0 xs): ∃a b,v= .ref a/\StT Γ G H a b/\RelDs Γ G H xs b:=by
 cases w with
 | v d=>
  cases d with
  | tup j=>cases e;exact z
  | _=>cases e
 | _=>cases e
def qcy (o:M.Op) (O:xa4 o=k9) (r:X.K=Γ.K):qd4 X (binaryOp (zdX o)) (jds Γ E o):=by
 intro d s U H x y v u Q I B D ⟨G,h,R,P,f,F,K,p⟩
 have S:=xi
 unfold M.Pf at p
 split at p
 ·rename_i i j n q
  obtain⟨k,e,p⟩:=p.of
  cases F.int n
  cases K.int q
  exact jb2 O e I B D (p.v f rfl)
 ·split at p
  · -- add
    unfold M.Pw at p
    ·split at p
     ·rename_i L N n q
      obtain⟨a,l,rfl,m,g⟩:=F.tup n
      obtain⟨b,A,rfl,z,t⟩:=K.tup q
      split at p
      ·rename_i c
       have J:=g.length
       have l2:=t.length
       by_cases ex:l= []
       ·subst ex
        have:L= []:=Ag5 J
        subst this
        rw [Af3]at p
        exact zaY d s U H _ _ v u Q I B D ⟨a,b,A,rfl,rfl,r▸m.sq,r▸z.sq,p.v f ⟨b,A,rfl,z,t⟩⟩
       refine jbY d s U H _ _ v u Q I B D ⟨a,b,l,A,rfl,rfl,r▸m.sq,r▸z.sq,ex,by omega,λe=> ?_,λe C w=>p.tup f (g.append t) C w⟩
       ·subst e
        have:N= []:=Ag5 l2
        subst this
        rw [Ae0]at p
        exact p.v f ⟨a,l,rfl,m,g⟩
      ·exact p.elim
     ·split at p
      ·rename_i L N n q
       obtain⟨a,l,rfl,m,g⟩:=F.lst f n
       obtain⟨b,A,rfl,z,t⟩:=K.lst f q
       unfold M.Py at p
       split at p
       ·have J:=g.length
        have l2:=t.length
        exact zbL d s U H _ _ v u Q I B D ⟨a,b,l,A,rfl,rfl,r▸m,r▸z,by omega,λC w=>p.own f (g.append t) C w⟩
       ·exact p.elim
      ·exact p.elim
  · -- mul
    unfold M.Pv at p
    split at p
    ·rename_i L j n q
     obtain⟨a,l,rfl,m,g⟩:=F.lstO f n
     cases K.int q
     unfold M.Pt at p
     split at p
     ·rename_i c
      have J:=g.length
      exact xbX d s U H _ _ v u Q I B D ⟨a,j,l,rfl,rfl,m,by omega,by omega,by rw [← J];omega,λC w=>p.own f (g.rep j.toNat) C w⟩
     ·exact p.elim
    ·exact p.elim
  ·exact p.elim
noncomputable def xdH:M.Cp->CmpOp
 | .eq=> .Eq | .ne=> .NotEq | .lt=> .Lt | .le=> .LtE | .gt=> .Gt | .ge=> .GtE | .mem=> .In | .nmem=> .NotIn | .isb=> .Is
noncomputable def zbW (a:Ge) (o:M.Cp):R2:=λx y H Q=> ∃G h d c b,HRel a G h H/\RelW a G H d x/\RelW a G H c y/\M.Gz o d c h=y0 b/\Q (.bl b) H
def xF:M.Cp->Bool
 | .mem=>k9
 | .nmem=>k9
 | _=>k9
def zbk (e:M.Pq o i j=y0 b)(I:Inv X k8 U H s) (a:RelV (.int i) v) (c:RelV (.int j) u) (q:Q (.bl b) H):
 wpAny (model X.prog X.w) X.A (compareOp (xdH o) v u) (EP X k8 U Q) X.xe s:=by
 cases o with
 | lt=>cases e;exact zc0 k8 s U H _ _ v u Q I a c ⟨i,j,rfl,rfl,q⟩
 | le=>cases e;exact qc2 k8 s U H _ _ v u Q I a c ⟨i,j,rfl,rfl,q⟩
 | gt=>cases e;exact jc3 k8 s U H _ _ v u Q I a c ⟨i,j,rfl,rfl,q⟩
 | ge=>cases e;exact xcW k8 s U H _ _ v u Q I a c ⟨i,j,rfl,rfl,q⟩
 | _=>cases e
def jcG (g:X.K=Γ.K)(l:Room k X.A):qd4 X (compareOp .Eq) (zbW Γ .eq):=by
 intro f s U H x y v u Q I j m ⟨G,h,p,o,b,a,i,n,e,q⟩
 simp only [M.Gz]at e
 split at e
 ·rename_i c
  cases e
  have d:=by simpa [M.KP]using c
  exact(zc1 150 _ _ X.A v u (by omega) (by have:=l.un;omega) (i.rv I g a j d.1.1) (n.rv I g a m d.1.2)).rc _ _ _ _ ⟨.bl _,H,I,rfl,q⟩
 ·cases e
def qct (g:X.K=Γ.K)(l:Room k X.A):qd4 X (compareOp .NotEq) (zbW Γ .ne):=by
 intro f s U H x y v u Q I j m ⟨G,h,p,o,b,a,i,n,e,q⟩
 simp only [M.Gz]at e
 split at e
 ·rename_i c
  cases e
  have d:=by simpa [M.KP]using c
  exact(zc1 150 _ _ X.A v u (by omega) (by have:=l.un;omega) (i.rv I g a j d.1.1) (n.rv I g a m d.1.2)).ne _ _ _ _ ⟨.bl _,H,I,rfl,q⟩
 ·cases e
end
def PE.imp (h:PE X e t) (k: ∀U H Q,t' U H Q->t U H Q):PE X e t':=λa s U H Q I q=>h a s U H Q I (k _ _ _ q)
def PT.imp (h:PT X e t) (k: ∀U H Q,t' U H Q->t U H Q):PT X e t':=λa s U H Q I q=>h a s U H Q I (k _ _ _ q)
def PA.imp (h:PA X e t) (k: ∀U H Q,t' U H Q->t U H Q):PA X e t':=λb a s U H Q I q=>h b a s U H Q I (k _ _ _ q)
section
variable {X:Cx}{Γ:Ge}{G:Gh}{H:Hp}{h:M.AH}{k8:List (Addr×Obj)}{U:St}{s:Shared}{Q:VK}{E:XK}
def RelWs.one (z:RelWs Γ G H [w] vs): ∃v,vs= [v]/\RelW Γ G H w v:=by
 obtain⟨v,r,rfl,a,b⟩:=z
 cases (show r= []from b)
 exact⟨v,rfl,a⟩
def RelWs.two (z:RelWs Γ G H [w,w'] vs): ∃v a,vs= [v,a]/\RelW Γ G H w v/\RelW Γ G H w' a:=by
 obtain⟨v,r,rfl,c,d⟩:=z
 obtain⟨a,rfl,b⟩:=d.one
 exact⟨v,a,rfl,c,b⟩
noncomputable def zd2 (a:Ge) (E:XK) (b:M.Bi):List V->Hp->VK->Prop:=λxs H Q=> ∃G h c,HRel a G h H/\RelWs a G H c xs/\PostW a E G H (M.biD b c h) Q
def xbY {K:Aa6}(h:SqL K H a vs\/qdS K H a vs):SqL K H a vs\/qdS K H a vs:=h
noncomputable def zcO:M.Bi->Bool
 | .len=>k9 | .int=>k9 | .tuple=>k9 | .divmod=>k9 | .min=>k9 | .max=>k9 | .sum=>k9 | .all=>k9
 | _=>y9
noncomputable def qdP:M.Bi->Value
 | .len=> .builtin "len" | .int=> .type "int" | .list=> .type "list" | .tuple=> .type "tuple" | .sum=> .builtin "sum" | .all=> .builtin "all" | .any=> .builtin "any"
 | .sorted=> .builtin "sorted" | .divmod=> .builtin "divmod" | .str=> .type "str" | .min=> .builtin "min" | .max=> .builtin "max" | .abs=> .builtin "abs"
def PostW.of2 {f:α->β->M.AH->M.R M.W}(p:PostW Γ E G H ((M.R.of h o).bind λa h=>(M.R.of h o').bind λb h=>f a b h) Q): ∃a b,o=y0 a/\o'=y0 b/\PostW Γ E G H (f a b h) Q:=by
 obtain⟨a,e,p⟩:=p.of
 obtain⟨b,c,p⟩:=p.of
 exact⟨a,b,e,c,p⟩
theorem xax : ∀ {xs}{a}{bs},M.Pn xs=y0 bs->RelDs Γ G H xs a->a=bs.map V.bl
 | [],_,_,e,z=>by cases e;exact z
 | x::xs,_,bs,e,⟨v,r,f,g,c⟩=>by
  subst f
  cases x with
  | bl b=>
   obtain⟨h,d,rfl⟩:=Ah0.mp (e)
   cases (g)
   rw [xax d c];rfl
  | _=>cases e
theorem qam : ∀ {xs}{a}{n},M.Pp xs=y0 n->RelDs Γ G H xs a-> ∃ns:List Int,a=ns.map V.int/\n=zaP ns
 | [],_,_,e,z=>by cases e;exact⟨[],z,rfl⟩
 | x::xs,_,n,e,⟨v,r,c,h,g⟩=>by
  subst c
  cases x with
  | int i=>
   have e:=e
   obtain⟨k,b,rfl⟩:=Ah0.mp e
   obtain⟨ns,f,d⟩:=qam b g
   cases (h)
   exact⟨i::ns,by rw [f];rfl,by rw [d];rfl⟩
  | _=>cases e
theorem zp : ∀ {xs}{a}{ns},M.GM xs=y0 ns->RelDs Γ G H xs a->a=ns.map V.int
 | [],_,_,e,z=>by cases e;exact z
 | x::xs,_,ns,e,⟨v,r,f,g,c⟩=>by
  subst f
  cases x with
  | int b=>
   obtain⟨h,d,rfl⟩:=Ah0.mp (e)
   cases (g)
   rw [zp d c];rfl
  | _=>cases e
theorem J3 : ∀ {xs}{a}{ns},M.KJ xs=y0 ns->RelDs Γ G H xs a->a=(ns.map zdH).map V.str
 | [],_,_,e,z=>by cases e;exact z
 | x::xs,_,ns,e,⟨v,r,f,g,c⟩=>by
  subst f
  cases x with
  | str b=>
   obtain⟨h,d,rfl⟩:=Ah0.mp (e)
   cases (show v= .str (zdH b)from g)
   rw [J3 d c];rfl
  | _=>cases e
def xaY (ns): ∀n:Int,jw (λa b=>v9 (a>b)) ns n=ns.foldl (λa b=>if b>a then b else a) n:=by
 induction ns with
 | nil=>intro n;rfl
 | cons m ns c=>
  intro n
  show jw _ ns _=_
  rw [c,Ai]
  simp only [decide_eq_true_eq]
def qaW (ns): ∀n:Int,jw (λa b=>v9 (a<b)) ns n=ns.foldl (λa b=>if b<a then b else a) n:=by
 induction ns with
 | nil=>intro n;rfl
 | cons m ns c=>
  intro n
  show jw _ ns _=_
  rw [c,Ai]
  simp only [decide_eq_true_eq]
def zbO (b) (A:zcO b=k9) (B:X.K=Γ.K) (F:X.calm=k9):Jm X (qdP b) (zd2 Γ E b):=by
 intro f s U H V u Q I r ⟨G,h,W,g,J,p⟩
 have hL:=xi
 unfold M.biD at p
 split at p
 ·rename_i w
  obtain⟨v,rfl,z⟩:=J.one
  cases b with
  | len=>
   simp only [M.bi1]at p
   split at p
   ·rename_i y e
    cases z.str e
    split at p
    ·exact qR f s U H _ u Q I r ⟨_,rfl,by rw [Zq];omega,by rw [Zq];exact p.v g rfl⟩
    ·exact p.elim
   ·obtain⟨K,e,p⟩:=p.of
    obtain⟨a,t,rfl,m,o⟩:=z.seq g e
    refine xO f s U H _ u Q I r ⟨a,t,rfl,B▸xbY m,?_⟩
    rw [← o.length]
    exact p.v g rfl
  | int=>
   simp only [M.bi1]at p
   split at p
   ·cases (z)
    exact WN f s U H _ u Q I r (.inl ⟨_,rfl,p.v g rfl⟩)
   ·rename_i k
    cases (z)
    refine WN f s U H _ u Q I r (.inr ⟨_,rfl,?_⟩)
    have:=p.v g rfl
    cases k<;>exact this
   ·exact p.elim
  | list=>cases A
  | tuple=>
   obtain⟨K,e,L⟩:=p.of
   clear p
   cases w with
   | v d=>
    cases d with
    | tup O=>
     cases e
     obtain⟨a,t,rfl,m,o⟩:=z
     exact Qf f s U H _ u Q I r ⟨a,t,rfl,.inr ⟨B▸m.sq,L.v g ⟨a,t,rfl,m,o⟩⟩⟩
    | lst O=>
     obtain⟨a,t,rfl,m,o⟩:=RelW.lst g z e
     exact Qf f s U H _ u Q I r ⟨a,t,rfl,.inl ⟨B▸m,λl C=>L.tup g o l C⟩⟩
    | ref q=>
     obtain⟨a,t,rfl,m,o⟩:=RelW.lst g z e
     exact Qf f s U H _ u Q I r ⟨a,t,rfl,.inl ⟨B▸m,λl C=>L.tup g o l C⟩⟩
    | non=>cases e
    | bl _=>cases e
    | int _=>cases e
    | str _=>cases e
    | exc _ _=>cases e
    | err _ _ _=>cases e
   | own O=>
    obtain⟨a,t,rfl,m,o⟩:=RelW.lst g z e
    exact Qf f s U H _ u Q I r ⟨a,t,rfl,.inl ⟨B▸m,λl C=>L.tup g o l C⟩⟩
   | bor O=>
    obtain⟨a,t,rfl,m,o⟩:=RelW.lst g z e
    exact Qf f s U H _ u Q I r ⟨a,t,rfl,.inl ⟨B▸m,λl C=>L.tup g o l C⟩⟩
  | divmod=>exact p.elim
  | min=>
   obtain⟨n,e,p⟩:=p.of
   obtain⟨is,D,x⟩:=Af0.mp e
   obtain⟨K,P,N⟩:=Af0.mp D
   obtain⟨a,t,rfl,m,o⟩:=RelW.lst g z P
   cases zp N o
   cases is with
   | nil=>cases x
   | cons i is=>
    cases x
    refine xaG F f s U H _ u Q I r ⟨a,i,is,rfl,B▸m,?_⟩
    rw [qaW]
    exact p.v g rfl
  | max=>
   obtain⟨n,e,p⟩:=p.of
   obtain⟨is,D,x⟩:=Af0.mp e
   obtain⟨K,P,N⟩:=Af0.mp D
   obtain⟨a,t,rfl,m,o⟩:=RelW.lst g z P
   cases zp N o
   cases is with
   | nil=>cases x
   | cons i is=>
    cases x
    refine qag F f s U H _ u Q I r ⟨a,i,is,rfl,B▸m,?_⟩
    rw [xaY]
    exact p.v g rfl
  | sum=>
   simp only [M.bi1]at p
   obtain⟨n,e,p⟩:=p.of
   obtain⟨K,D,x⟩:=Af0.mp e
   split at x
   rotate_left
   ·cases x
   obtain⟨a,t,rfl,m,o⟩:=RelW.lst g z D
   obtain⟨T,rfl,rfl⟩:=qam x o
   exact jap F f s U H _ u Q I r ⟨a,T,rfl,B▸m,p.v g rfl⟩
  | all=>
   simp only [M.bi1]at p
   obtain⟨bs,e,p⟩:=p.of
   obtain⟨K,D,x⟩:=Af0.mp e
   obtain⟨a,t,rfl,m,o⟩:=RelW.lst g z D
   cases xax x o
   exact zah F f s U H _ u Q I r ⟨a,bs,rfl,B▸m,p.v g rfl⟩
  | any=>cases A
  | sorted=>cases A
  | str=>cases A
  | abs=>cases A
 ·rename_i w Y
  obtain⟨v,Z,rfl,z,R⟩:=J.two
  obtain⟨i,j,e,S,p⟩:=p.of2
  cases z.int e
  cases R.int S
  cases b with
  | divmod=>
   simp only [M.bi2,M.G8]at p
   split at p
   ·rename_i c
    exact QT f s U H _ u Q I r ⟨i,j,rfl,c,λl C=>p.tup g ⟨_,_,rfl,rfl,_,_,rfl,rfl,rfl⟩ l C⟩
   ·exact p.elim
  | min=>exact xaN F f s U H _ u Q I r ⟨i,j,rfl,p.v g rfl⟩
  | max=>exact jaH F f s U H _ u Q I r ⟨i,j,rfl,p.v g rfl⟩
  | len=>exact p.elim
  | int=>exact p.elim
  | list=>cases A
  | tuple=>exact p.elim
  | sum=>exact p.elim
  | all=>exact p.elim
  | any=>cases A
  | sorted=>cases A
  | str=>cases A
  | abs=>cases A
 ·exact p.elim
noncomputable def xdT:M.Ty->String
 | .non=> "NoneType" | .bool=> "bool" | .int=> "int" | .str=> "str" | .list=> "list" | .tuple=> "tuple"
def Xu (K): ∀ u t,t≠ .non->Ad2 K (.type (xdT u)) (.type (xdT t))=y0 (M.Ty.le u t):=by
 intro u t a
 cases u<;>cases t<;>first | exact absurd rfl a | kernel_rfl
noncomputable def zdu (a:Ge):List V->Hp->VK->Prop:=λxs H Q=> ∃G h w x t b,xs= [x,.ty (xdT t)]/\t≠ .non/\HRel a G h H/\RelW a G H w x/\M.isT t w=y0 b/\Q (.bl b) H
def jbf (E:X.K=Γ.K):Jm X (.builtin "isinstance") (zdu Γ):=by
 intro k s U H O R Q I r ⟨G,h,w,x,t,b,J,j,T,z,e,q⟩
 subst J
 obtain⟨u,S,rfl,g,N⟩:=xbj r
 cases N
 have fin: ∀p,EP X k U Q (.bool b) { s with toks:=p }:=λp=>⟨.bl b,H,I.tok p,rfl,q⟩
 have lst: ∀ {a}{l},x= .ref a->Rd H a (.lst l)->M.Ty.le .list t=b->wpAny (model X.prog X.w) X.A (call (.builtin "isinstance") [u,.type (xdT t)]) (EP X k U Q) X.xe s:=by
  intro a l ex rd F
  subst ex F
  rcases rd with rd | ⟨o,rd⟩
  ·exact Ji I g (.lst rd) (Xu _ .list t j) fin
  ·exact Ji I g (.frz rd) (Xu _ .list t j) fin
 cases w with
 | v d=>
  cases d with
  | non=>cases e;cases (z);exact Ji I g .non (Xu _ .non t j) fin
  | bl c=>cases e;cases (z);exact Ji I g (.bl c) (Xu _ .bool t j) fin
  | int i=>cases e;cases (z);exact Ji I g (.int i) (Xu _ .int t j) fin
  | str y=>cases e;cases (z);exact Ji I g (.str _) (Xu _ .str t j) fin
  | tup C=>
   cases e
   obtain⟨a,l,rfl,f,L⟩:=z
   rcases f with⟨_,f⟩ | ⟨o,A,n,D,B,K,_⟩
   ·exact Ji I g (.tup f) (Xu _ .tuple t j) fin
   ·cases g
    exact Ae6 PySem.W.kitx_tuple I.kIn ⟨o,I.kIn a o (E▸D),B⟩ (Xu _ .tuple t j) (λz=>nomatch z) fin
  | lst C=>
   cases e
   obtain⟨a,l,m,f,L⟩:=z
   rcases f with f | ⟨o,A,n,D,B,K,_⟩
   ·exact lst m f.2 rfl
   ·subst m
    cases g
    exact Ae6 Ao0 I.kIn ⟨o,I.kIn a o (E▸D),B⟩ (Xu _ .list t j) (λz=>nomatch z) fin
  | ref P=>cases e
  | exc c fs=>cases e
  | err _ _ _=>cases e
 | own C=>cases e;obtain⟨a,l,m,_,_,f,_⟩:=z;exact lst m (.inl f) rfl
 | bor C=>cases e;obtain⟨a,l,m,_,f,_⟩:=z;exact lst m f rfl
def J0 (m:X.K=Γ.K) (p:HRel Γ G h H)(z:RelW Γ G H w x) (e:M.KW h w=y0 b):xb2 X.K x H b:=by
 have lst: ∀ {a}{f}{g},x= .ref a->SqL X.K H a f->RelDs Γ G H g f->(!g.isEmpty)=b->xb2 X.K x H b:=by
  intro a f g ex rd j n
  subst ex n
  refine .inl ⟨f,rd,?_⟩
  cases g with
  | nil=>cases (show f= []from j);rfl
  | cons _ _=>obtain⟨_,_,rfl,_⟩:=j;rfl
 cases w with
 | v d=>
  cases d with
  | non=>cases e;cases (z);exact rfl
  | bl _=>cases e;cases (z);exact rfl
  | int _=>cases e;cases (z);exact rfl
  | str y=>
   cases (z)
   have e:(if y.length<=M.LIM then y0 (!y.isEmpty)else u0)=y0 b:=e
   split at e
   ·rename_i c
    cases e
    refine⟨by rw [Zq];have:=xi;omega,?_⟩
    rw [Zq]
    cases y with
    | nil=>rfl
    | cons a r=>
     have:((((a::r).length:Nat):Int) != 0)=true:=by
      rw [Ab4,bne_iff_ne];omega
     rw [this];rfl
   ·cases e
  | tup g=>
   cases e
   obtain⟨a,f,rfl,i,j⟩:=z
   refine .inr (.inl ⟨f,m▸i.sq,?_⟩)
   cases g with
   | nil=>cases (show f= []from j);rfl
   | cons _ _=>obtain⟨_,_,rfl,_⟩:=j;rfl
  | lst g=>cases e;obtain⟨a,f,k,i,l⟩:=z;exact lst k (m▸i.sq) l rfl
  | ref o=>cases e
  | exc c fs=>cases e
  | err _ _ _=>cases e
 | own g=>cases e;obtain⟨a,f,k,_,_,i,l⟩:=z;exact lst k (SqL.of i) l rfl
 | bor g=>cases e;obtain⟨a,f,k,_,i,l⟩:=z;exact lst k (.inl i) l rfl
end
abbrev zg (x:String):Str:=Str.ofString x
example:("len" :Str)=zg "len" :=rfl
structure jdy where
 fl:List (String×String)
 mt:List (String×String×String)
 mks:List (String×String)
 ms:List String
 er:List (String×String)
structure Cf where
 sc:Scope
 N:List Str
 fns:List String
 own:List String
 rai:List String
 hnd:List String
 ob:jdy
noncomputable def QM (a:Scope) (x:Str):Bool:=match a.names.lookup x with
 | some .local=>k9
 | some .cell=>k9
 | some .free=>k9
 | _=>y9
def jdU (a:Scope) (x:Str):Bool:=match a.names.lookup x with
 | some .globalImplicit=>k9
 | _=>y9
def jbW (a:Scope) (x:Str):Bool:=match a.names.lookup x with
 | some .local=>k9
 | some .cell=>k9
 | _=>y9
def xdB (x:Str):Bool:= !(x==("__debug__" :Str))&& !(x==("__classdict__" :Str))
noncomputable def jd5:M.Bi->String
 | .len=> "len" | .int=> "int" | .list=> "list" | .tuple=> "tuple" | .sum=> "sum" | .all=> "all" | .any=> "any" | .sorted=> "sorted" | .divmod=> "divmod" | .str=> "str" | .min=> "min" | .max=> "max" | .abs=> "abs"
noncomputable def bltN:List String:= ["len", "int", "list", "tuple", "sum", "all", "any", "sorted", "divmod", "str", "min", "max", "abs", "isinstance", "bool", "range", "reversed", "zip", "enumerate", "set", "ValueError"]
def xaO:Expr->Str->Bool
 | .Name y _,x=>y==x
 | _,_=>y9
def zdB (a:Scope) (x:String) (e:Expr):Bool:=xaO e (zg x)&&jdU a (zg x)&&xdB (zg x)
def xdz:M.Mt->String
 | .index=> "index" | .count=> "count"
def xdd:M.Mt->Bool
 | .index=>k9 | .count=>k9
def qbX:Expr->Bool
 | .Call .. =>y9
 | _=>k9
noncomputable def xn (a:Cf):List Nat->List Expr->Bool
 | [],[]=>k9
 | i::is,.Name x _::es=>v9 (a.N[i]? =y0 x)&&jbW a.sc x&&xn a is es
 | _,_=>y9
noncomputable def Qe (b:Cf) (a:List Nat) (one:Bool) (e:Expr):Bool:=match one,e with
 | true,.Name x p=>(match a with | [_]=>k9 | _=>y9)&&xn b a [.Name x p]
 | false,.Tuple es _ _=>xn b a es
 | _,_=>y9
def Qa:Expr->Bool
 | .Starred .. =>y9
 | _=>k9
def Je:Expr->Bool
 | .Slice .. =>y9
 | _=>k9
def Xf:Expr->Bool
 | .Set .. =>y9
 | _=>k9
noncomputable def qE (a:Cf):List Nat->List Str->Bool
 | [],[]=>k9
 | j::b,x::xs=>v9 (a.N[j]? =y0 x)&&v9 (a.sc.names.lookup x=y0 .cell\/a.sc.names.lookup x=y0 .free)&&qE a b xs
 | _,_=>y9
noncomputable def JU (b:Cf) (a:Scope) (N:List Str) (k:Nat) (cap:List Nat):Bool:=
 v9 (a.kind= .function)&&v9 (a.names.map Prod.fst).Nodup&&a.names.all (λy=>v9 (y.2= .local->a.names.lookup y.1=y0 .local))&&
 a.names.all (λy=>v9 (y.2= .free->b.sc.names.lookup y.1=y0 .cell\/b.sc.names.lookup y.1=y0 .free))&&(N.drop k).all (λx=>v9 (a.names.lookup x=y0 .free))&&
 qE b cap (N.drop k)&&v9 (k<=N.length)&&decide N.Nodup&&decide cap.Nodup
def xbR:Expr->List Str
 | .Name x _=> [x]
 | .Tuple es _ _=>es.filterMap λ| .Name x _=>y0 x | _=>u0
 | _=> []
def qr (a:Cf) (t:Expr) (cap:List Nat):List Str:=xbR t++cap.filterMap λj=>a.N[j]?
def zdS:M.E->Bool
 | .share _=>y9
 | .not a=>zdS a
 | .and a b=>zdS a&&zdS b
 | .or a b=>zdS a&&zdS b
 | _=>k9
def xdG (neg:Bool):CmpOp:=if neg then .NotIn else .In
def qdB {P:Prop}(h:y9=k9):P:=nomatch h
set_option backward.match.sparseCases false
def lC {a:Type}(l:List a) (f:a->List a->Bool):Bool:=match l with
 | x::r=>f x r
 | _=>y9
def oS {a:Type}(l:Option a) (f:a->Bool):Bool:=match l with
 | some x=>f x
 | _=>y9
@[elab_as_elim] theorem kC {P:List α->Prop}(k: ∀x r,f x r=k9->P (x::r)): ∀l,lC l f=k9->P l:=by rintro (_|_)<;>first | exact qdB | exact k _ _
@[elab_as_elim] theorem kS {P:Option α->Prop}(k: ∀x,f x=k9->P (y0 x)): ∀l,oS l f=k9->P l:=by rintro (_|_)<;>first | exact qdB | exact k _
def Ql (e:Expr) (f:Str->Bool):Bool:=match e with
 | .Name x _=>f x
 | _=>y9
@[elab_as_elim] theorem Zm {P:Expr->Prop}(k: ∀x p,f x=k9->P (.Name x p)): ∀e,Ql e f=k9->P e:=by rintro (_|_)<;>first | exact qdB | exact k _ _
def ZA (e:Expr) (f:Const->Bool):Bool:=match e with
 | .Constant x _ _=>f x
 | _=>y9
@[elab_as_elim] theorem ZF {P:Expr->Prop}(k: ∀x n p,f x=k9->P (.Constant x n p)): ∀e,ZA e f=k9->P e:=by rintro (_|_)<;>first | exact qdB | exact k _ _ _
def qcO (e:Expr) (f:List Expr->Bool):Bool:=match e with
 | .Tuple x _ _=>f x
 | _=>y9
@[elab_as_elim] theorem jc6 {P:Expr->Prop}(k: ∀x n p,f x=k9->P (.Tuple x n p)): ∀e,qcO e f=k9->P e:=by rintro (_|_)<;>first | exact qdB | exact k _ _ _
def zdd (e:Expr) (f:List Expr->Bool):Bool:=match e with
 | .List x _=>f x
 | _=>y9
@[elab_as_elim] theorem zds {P:Expr->Prop}(k: ∀x p,f x=k9->P (.List x p)): ∀e,zdd e f=k9->P e:=by rintro (_|_)<;>first | exact qdB | exact k _ _
def zde (e:Expr) (f:Expr->Operator->Expr->Bool):Bool:=match e with
 | .BinOp x o y _=>f x o y
 | _=>y9
@[elab_as_elim] theorem xdv {P:Expr->Prop}(k: ∀x o y p,f x o y=k9->P (.BinOp x o y p)): ∀e,zde e f=k9->P e:=by rintro (_|_)<;>first | exact qdB | exact k _ _ _ _
def xca (e:Expr) (f:Expr->List CmpOp->List Expr->Bool):Bool:=match e with
 | .Compare x o y _=>f x o y
 | _=>y9
@[elab_as_elim] theorem zcm {P:Expr->Prop}(k: ∀x o y p,f x o y=k9->P (.Compare x o y p)): ∀e,xca e f=k9->P e:=by rintro (_|_)<;>first | exact qdB | exact k _ _ _ _
def qdA (e:Expr) (f:UnaryOp->Expr->Bool):Bool:=match e with
 | .UnaryOp o x _=>f o x
 | _=>y9
@[elab_as_elim] theorem zd6 {P:Expr->Prop}(k: ∀o x p,f o x=k9->P (.UnaryOp o x p)): ∀e,qdA e f=k9->P e:=by rintro (_|_)<;>first | exact qdB | exact k _ _ _
def zb1 (e:Expr) (f:BoolOp->List Expr->Pos->Bool):Bool:=match e with
 | .BoolOp o x p=>f o x p
 | _=>y9
@[elab_as_elim] theorem xcx {P:Expr->Prop}(k: ∀o x p,f o x p=k9->P (.BoolOp o x p)): ∀e,zb1 e f=k9->P e:=by rintro (_|_)<;>first | exact qdB | exact k _ _ _
def zk (e:Expr) (f:Expr->List Expr->List Keyword->Pos->Bool):Bool:=match e with
 | .Call g x l p=>f g x l p
 | _=>y9
@[elab_as_elim] theorem Wh {P:Expr->Prop}(k: ∀g x l p,f g x l p=k9->P (.Call g x l p)): ∀e,zk e f=k9->P e:=by rintro (_|_)<;>first | exact qdB | exact k _ _ _ _
def jbA (e:Expr) (f:Expr->Expr->Bool):Bool:=match e with
 | .Subscript x y _=>f x y
 | _=>y9
@[elab_as_elim] theorem jb5 {P:Expr->Prop}(k: ∀x y p,f x y=k9->P (.Subscript x y p)): ∀e,jbA e f=k9->P e:=by rintro (_|_)<;>first | exact qdB | exact k _ _ _
def qdG (e:Expr) (f:Option Expr->Option Expr->Option Expr->Bool):Bool:=match e with
 | .Slice x y z _=>f x y z
 | _=>y9
@[elab_as_elim] theorem jdJ {P:Expr->Prop}(k: ∀x y z p,f x y z=k9->P (.Slice x y z p)): ∀e,qdG e f=k9->P e:=by rintro (_|_)<;>first | exact qdB | exact k _ _ _ _
def xct (e:Expr) (f:Expr->List Comprehension->Scope->Bool):Bool:=match e with
 | .ListComp y g s _=>f y g s
 | _=>y9
@[elab_as_elim] theorem jcM {P:Expr->Prop}(k: ∀y g s p,f y g s=k9->P (.ListComp y g s p)): ∀e,xct e f=k9->P e:=by rintro (_|_)<;>first | exact qdB | exact k _ _ _ _
def zaB (e:Expr) (f:Expr->Str->Pos->Bool):Bool:=match e with
 | .Attribute x n p=>f x n p
 | _=>y9
@[elab_as_elim] theorem jbk {P:Expr->Prop}(k: ∀x n p,f x n p=k9->P (.Attribute x n p)): ∀e,zaB e f=k9->P e:=by rintro (_|_)<;>first | exact qdB | exact k _ _ _
def xb8 (e:Expr) (f:List (Option Expr)->List Expr->Bool):Bool:=match e with
 | .Dict x y _=>f x y
 | _=>y9
@[elab_as_elim] theorem jcz {P:Expr->Prop}(k: ∀x y p,f x y=k9->P (.Dict x y p)): ∀e,xb8 e f=k9->P e:=by rintro (_|_)<;>first | exact qdB | exact k _ _ _
def Z7 (e:Stmt) (f:List Expr->Expr->Bool):Bool:=match e with
 | .Assign t v _=>f t v
 | _=>y9
@[elab_as_elim] theorem qac {P:Stmt->Prop}(k: ∀t v p,f t v=k9->P (.Assign t v p)): ∀e,Z7 e f=k9->P e:=by rintro (_|_)<;>first | exact qdB | exact k _ _ _
def jd4 (e:Stmt) (f:Expr->Bool):Bool:=match e with
 | .Expr v _=>f v
 | _=>y9
@[elab_as_elim] theorem zdO {P:Stmt->Prop}(k: ∀v p,f v=k9->P (.Expr v p)): ∀e,jd4 e f=k9->P e:=by rintro (_|_)<;>first | exact qdB | exact k _ _
def qdg (e:Stmt) (f:Option Expr->Bool):Bool:=match e with
 | .Return v _=>f v
 | _=>y9
@[elab_as_elim] theorem jdk {P:Stmt->Prop}(k: ∀v p,f v=k9->P (.Return v p)): ∀e,qdg e f=k9->P e:=by rintro (_|_)<;>first | exact qdB | exact k _ _
def zdg (e:Stmt) (f:Expr->List Stmt->List Stmt->Bool):Bool:=match e with
 | .If x y z _=>f x y z
 | _=>y9
@[elab_as_elim] theorem zdk {P:Stmt->Prop}(k: ∀x y z p,f x y z=k9->P (.If x y z p)): ∀e,zdg e f=k9->P e:=by rintro (_|_)<;>first | exact qdB | exact k _ _ _ _
def qdc (e:Stmt) (f:Expr->List Stmt->List Stmt->Bool):Bool:=match e with
 | .While x y z _=>f x y z
 | _=>y9
@[elab_as_elim] theorem qdp {P:Stmt->Prop}(k: ∀x y z p,f x y z=k9->P (.While x y z p)): ∀e,qdc e f=k9->P e:=by rintro (_|_)<;>first | exact qdB | exact k _ _ _ _
def xde (e:Stmt) (f:Expr->Expr->List Stmt->List Stmt->Bool):Bool:=match e with
 | .For t i y z _=>f t i y z
 | _=>y9
@[elab_as_elim] theorem zdw {P:Stmt->Prop}(k: ∀t i y z p,f t i y z=k9->P (.For t i y z p)): ∀e,xde e f=k9->P e:=by rintro (_|_)<;>first | exact qdB | exact k _ _ _ _ _
def zc6 (e:Stmt) (f:Option Expr->Option Expr->Bool):Bool:=match e with
 | .Raise x y _=>f x y
 | _=>y9
@[elab_as_elim] theorem jdd {P:Stmt->Prop}(k: ∀x y p,f x y=k9->P (.Raise x y p)): ∀e,zc6 e f=k9->P e:=by rintro (_|_)<;>first | exact qdB | exact k _ _ _
set_option backward.match.sparseCases true
def vB (a:Cf) (i:Nat) (x:Str):Bool:=v9 (a.N[i]? =y0 x)&&QM a.sc x&&xdB x
def kZ {a:Type}(l:List a) (b:Bool):Bool:=l.isEmpty&&b
noncomputable def qdd (e:Stmt) (f:List Stmt->List ExceptHandler->Bool):Bool:=match e with
 | .Try a b c d _=>kZ c (kZ d (f a b))
 | _=>y9
noncomputable def qcV (e:ExceptHandler) (f:Option Expr->Option Str->List Stmt->Bool):Bool:=match e with
 | .ExceptHandler a b c _=>f a b c
mutual
noncomputable def xc (cf:Cf):M.E->Expr->Bool
 | .var i,e=>Ql e (vB cf i)
 | .con c,e=>zdB cf.sc c e
 | .int i,e=>ZA e λj=>v9 (j= .int i)
 | .bl i,e=>ZA e λj=>v9 (j= .bool i)
 | .non,e=>ZA e λj=>v9 (j= .none)
 | .str i,e=>ZA e λj=>v9 (j= .str (zdH i))
 | .tup es,e=>qcO e λxs=>v9 (xs.length<=1000)&&chkEs cf es xs
 | .lst es,e=>zdd e λxs=>v9 (xs.length<=1000)&&chkEs cf es xs
 | .bin o a b,e=>zde e λx p y=>v9 (p=zdX o)&&xa4 o&&xc cf a x&&xc cf b y
 | .cmp o a b,e=>xca e λx p y=>lC y λy r=>v9 (p= [xdH o]/\r= [])&&xF o&&Xf y&&xc cf a x&&xc cf b y
 | .chain o q a b c,e=>xca e λx p y=>lC y λy r=>lC r λz r=>v9 (p= [xdH o,xdH q]/\r= [])&&xF o&&xF q&&Xf z&&xc cf a x&&xc cf b y&&xc cf c z
 | .isn neg a,e=>xca e λx p y=>lC y λy r=>ZA y λj=>v9 (p= [if neg then .IsNot else .Is]/\r= [])&&v9 (j= .none)&&xc cf a x
 | .neg a,e=>qdA e λo x=>v9 (o= .USub)&&xc cf a x
 | .inv a,e=>qdA e λo x=>v9 (o= .Invert)&&xc cf a x
 | .not a,e=>qdA e λo x=>v9 (o= .Not)&&xc cf a x
 | .and a b,e=>zb1 e λo x p=>lC x λx r=>lC r λy r=>v9 (o= .And)&&xc cf a x&&bif r.isEmpty then xc cf b y else xc cf b (.BoolOp .And (y::r) p)
 | .or a b,e=>zb1 e λo x p=>lC x λx r=>lC r λy r=>v9 (o= .Or)&&xc cf a x&&bif r.isEmpty then xc cf b y else xc cf b (.BoolOp .Or (y::r) p)
 | .call f es,e=>zk e λg xs l _=>kZ l (zdB cf.sc f g&&cf.fns.contains f&&chkEs cf es xs)
 | .bi b es,e=>zk e λg xs l _=>kZ l (lC xs λx r=>zdB cf.sc (jd5 b) g&&zcO b&&chkEs cf es (x::r))
 | .isT a t,e=>zk e λg xs l _=>kZ l (lC xs λx r=>lC r λy r=>kZ r (zdB cf.sc "isinstance" g&&zdB cf.sc (xdT t) y&&decide (t≠ .non)&&Qa x&&xc cf a x))
 | .ix a b,e=>jbA e λx y=>Je y&&xc cf a x&&xc cf b y
 | .sl a lo hi,e=>jbA e λx y=>qdG y λl u z=>oS l λl=>oS u λu=>z.isNone&&xc cf a x&&xc cf lo l&&xc cf hi u
 | .slL a lo,e=>jbA e λx y=>qdG y λl u z=>oS l λl=>u.isNone&&z.isNone&&xc cf a x&&xc cf lo l
 | .slH a hi,e=>jbA e λx y=>qdG y λl u z=>oS u λu=>l.isNone&&z.isNone&&xc cf a x&&xc cf hi u
 | .comp tg one k cap it v7 c elt,e=>xct e λy g scope=>lC g λg r=>
  v9 (g.is_async=0/\r= [])&&JU cf scope (qr cf g.target cap) k cap&&tg.all (λi=>v9 (i<k))&&Qe { cf with sc:=scope,N:=qr cf g.target cap } tg one g.target&&chkIt cf it g.iter&&xc { cf with sc:=scope,N:=qr cf g.target cap } elt y&&
   bif v7 then(lC g.ifs λz r=>kZ r (zdS c&&xc { cf with sc:=scope,N:=qr cf g.target cap } c z))else g.ifs.isEmpty
 | .dnew,e=>xb8 e λx y=>x.isEmpty&&y.isEmpty
 | .dnewI,e=>xb8 e λx y=>x.isEmpty&&y.isEmpty
 | .dinI neg a i,e=>xca e λx p y=>lC y λy r=>Ql y λy=>v9 (p= [xdG neg]/\r= [])&&vB cf i y&&xc cf a x
 | .din neg a i,e=>xca e λx p y=>lC y λy r=>Ql y λy=>v9 (p= [xdG neg]/\r= [])&&vB cf i y&&xc cf a x
 | .dlen i,e=>zk e λg xs l _=>kZ l (lC xs λx r=>kZ r (zdB cf.sc "len" g&&Ql x (vB cf i)))
 | .share a,e=>xc cf a e
 | .lenset a,e=>zk e λg xs l _=>kZ l (lC xs λx r=>kZ r (zk x λg2 xs l _=>kZ l (lC xs λx r=>kZ r (zdB cf.sc "len" g&&zdB cf.sc "set" g2&&Qa x&&xc cf a x))))
 | .meth m a es,e=>zk e λg xs l q=>kZ l (lC xs λx r=>kZ r (zaB g λo n p=>v9 (n=zg (xdz m))&&xdd m&&(p.endLine==q.line)&&qbX o&&xc cf a o&&chkEs cf es [x]))
noncomputable def chkEs (cf:Cf):M.Es->List Expr->Bool
 | .nil,xs=>xs.isEmpty
 | .cons e es,xs=>lC xs λx xs=>Qa x&&xc cf e x&&chkEs cf es xs
noncomputable def chkIt (cf:Cf):M.It->Expr->Bool
 | .seq a,e=>Xf e&&xc cf a e
 | .range1 a,e=>zk e λg xs l _=>kZ l (lC xs λx r=>kZ r (zdB cf.sc "range" g&&Qa x&&xc cf a x))
 | .range2 a b,e=>zk e λg xs l _=>kZ l (lC xs λx r=>lC r λy r=>kZ r (zdB cf.sc "range" g&&Qa x&&Qa y&&xc cf a x&&xc cf b y))
 | .rev a,e=>zk e λg xs l _=>kZ l (lC xs λx r=>kZ r (zdB cf.sc "reversed" g&&Qa x&&xc cf a x))
 | .zip _ _,_=>y9
 | .enum _,_=>y9
end
def Qo:Expr->Bool
 | .ListComp .. =>y9
 | .SetComp .. =>y9
 | .DictComp .. =>y9
 | _=>k9
def ji:Expr->Bool
 | .Tuple .. =>y9
 | _=>k9
def zy (a:Cf) (i:Nat) (x:Str):Bool:=v9 (a.N[i]? =y0 x)&&v9 (a.sc.names.lookup x=y0 .local)
def Xt (a:Cf) (i:Nat) (x:Str):Bool:=v9 (a.N[i]? =y0 x)&&jbW a.sc x
def Wn (b:Cf) (i:Nat) (m:Str) (e:Expr) (a:Pos):Bool:=zaB e λx n p=>Ql x λx=>vB b i x&&v9 (n=m)&&(p.endLine==a.line)
noncomputable def xbI (c:Cf):M.It->Expr->Bool
 | .seq a,e=>Xf e&&xc c a e
 | .range1 a,e=>chkIt c (.range1 a) e
 | .range2 a b,e=>chkIt c (.range2 a b) e
 | .rev a,e=>chkIt c (.rev a) e
 | .zip a b,e=>zk e λg xs l _=>kZ l (lC xs λx r=>lC r λy r=>kZ r (zdB c.sc "zip" g&&Qa x&&Qa y&&xc c a x&&xc c b y))
 | .enum a,e=>zk e λg xs l _=>kZ l (lC xs λx r=>kZ r (zdB c.sc "enumerate" g&&Qa x&&xc c a x))
def qar:M.It->Expr->Bool
 | .enum _,e=> !ji e
 | .zip _ _,e=> !ji e
 | _,_=>k9
def jbQ:M.S->Bool
 | .freeze _=>k9
 | _=>y9
noncomputable def jdc (d:Cf) (c:String) (nm m:Nat) (h g:String) (k:M.Tx) (j:List ExceptHandler):Bool:=lC j λx r=>lC r λo r=>kZ r (qcV x λw n b=>oS w λw=>oS n λn=>lC b λa r=>kZ r (Z7 a λts y=>lC ts λt r=>kZ r (Ql t λv=>zaB y λz e _=>Ql z λi=>
 qcV o λf n2 b=>oS f λf=>lC b λa r=>kZ r (Z7 a λts y=>lC ts λt r=>kZ r (Ql t λl=>ZA y λs=>n2.isNone&&zdB d.sc c w&&d.hnd.contains c&&zdB d.sc g f&&(d.hnd.contains g&&v9 (i=n)&&zy d nm n&&xdB n&&(zy d m v&&v9 (l=v)&&v9 (e=zg h)&&v9 (s= .str (zdH k)))))))))
noncomputable def xdI (a:Cf) (f:String) (s:Stmt) (q:List Expr->Bool):Bool:=jd4 s λe=>zk e λg xs l _=>kZ l (lC xs λx r=>zdB a.sc f g&&a.fns.contains f&&q (x::r))
mutual
noncomputable def jcZ (cf:Cf):M.S->Stmt->Bool
 | .set i e,st=>Z7 st λts v=>lC ts λt r=>Ql t λx=>kZ r (Xt cf i x&&xc cf e v)
 | .setf i e,st=>Z7 st λts v=>lC ts λt r=>Ql t λx=>kZ r (Xt cf i x&&xc cf e v)
 | .unp is e,st=>Z7 st λts v=>lC ts λt r=>qcO t λts=>kZ r (xn cf is ts&&ji v&&xc cf e v)
 | .setix i kx e,st=>Z7 st λts v=>lC ts λt r=>jbA t λx y=>Ql x λx=>kZ r (vB cf i x&&Je y&&ji v&&Qo v&&xc cf kx y&&xc cf e v)
 | .app i e,st=>jd4 st λc=>zk c λf xs l p=>kZ l (lC xs λv r=>kZ r (Wn cf i "append" f p&&Qa v&&xc cf e v))
 | .ext i e,st=>jd4 st λc=>zk c λf xs l p=>kZ l (lC xs λv r=>kZ r (Wn cf i "extend" f p&&Qa v&&xc cf e v))
 | .mv i j,st=>Z7 st λts c=>lC ts λt r=>Ql t λx=>kZ r (Ql c λy=>Xt cf i x&&vB cf j y)
 | .dputI i e,st=>Z7 st λts v=>lC ts λt r=>jbA t λx y=>Ql x λx=>kZ r (vB cf i x&&Je y&&ji v&&Qo v&&xc cf e y&&xc cf (.bl k9) v)
 | .dput i e,st=>Z7 st λts v=>lC ts λt r=>jbA t λx y=>Ql x λx=>kZ r (vB cf i x&&Je y&&ji v&&Qo v&&xc cf e y&&xc cf (.bl k9) v)
 | .appR i e,st=>jd4 st λc=>zk c λf xs l p=>kZ l (lC xs λv r=>kZ r (Wn cf i "append" f p&&Qa v&&xc cf e v))
 | .popR i j,st=>Z7 st λts c=>lC ts λt r=>Ql t λx=>kZ r (zk c λf xs l p=>kZ l (kZ xs (Xt cf j x&&Wn cf i "pop" f p)))
 | .popU i is,st=>Z7 st λts c=>lC ts λt r=>qcO t λts=>kZ r (zk c λf xs l p=>kZ l (kZ xs (xn cf is ts&&Wn cf i "pop" f p)))
 | .freeze _,_=>y9
 | .ex e,st=>jd4 st λv=>Qo v&&xc cf e v
 | .ret e,st=>qdg st λv=>oS v λv=>xc cf e v
 | .iff c a b,st=>zdg st λx ys zs=>zdS c&&xc cf c x&&chkSs cf a ys&&chkSs cf b zs
 | .whl _ c b,st=>qdc st λx ys zs=>kZ zs (zdS c&&xc cf c x&&chkSs cf b ys)
 | .for tg one it b,st=>xde st λt iter ys zs=>kZ zs (qar it t&&Qe cf tg one t&&xbI cf it iter&&chkSs cf b ys)
 | .raisf c f e,st=>zc6 st λa b=>oS a λa=>zk a λg xs l _=>kZ l (lC xs λx r=>kZ r (b.isNone&&zdB cf.sc c g&&cf.ob.er.contains (c,f)&&chkEs cf (.cons e .nil) [x]))
 | .raise c es,st=>zc6 st λa b=>oS a λa=>zk a λg xs l _=>kZ l (lC xs λx r=>b.isNone&&zdB cf.sc c g&&cf.rai.contains c&&v9 ((x::r).length<=1000)&&chkEs cf es (x::r))
 | .tryf f es c nm iv fl c2 tx,st=>qdd st λb hs=>lC b λs r=>kZ r (xdI cf f s (λxs=>chkEs cf es xs)&&jdc cf c nm iv fl c2 tx hs)
 | .nope,_=>k9
noncomputable def chkSs (cf:Cf):M.Ss->List Stmt->Bool
 | .nil,sts=>sts.isEmpty
 | .cons s ss,sts=>bif jbQ s then chkSs cf ss sts else lC sts λst sts=>jcZ cf s st&&chkSs cf ss sts
end
structure xdn (X:Cx) (k:Nat) (x:Str) (ps:List Str) (sp:Sp):Prop where
 ex: ∃f fd,FnOk X.prog X.w X.K X.mg X.base (zdN X.prog X.w) k f fd ps sp/\Binds X.K fd ps []/\Ae4 X.K (.ref f)=k9/\X.mg x=y0 (.ref f)
def qbi:M.W->Bool
 | .own _=>y9
 | _=>k9
noncomputable def zdC (a:Ge) (m:List M.W->M.AH->M.R M.W):Sp:=λc H Q E=> ∃G h b,HRel a G h H/\RelWs a G H b c/\(∀ w∈b,qbi w=k9)/\PostW a E G H (m b h) Q
structure Go (Γ:Ge) (F:M.Fx) (X:Cx) (E:XK) (k:Nat) (cf:Cf):Prop where
 N:X.N=cf.N
 K:X.K=Γ.K
 cl:F.cl=Γ.cl
 ow:cf.own=Γ.own
 nd:cf.N.Nodup
 vis: ∀x,QM cf.sc x=k9->xdy X.env.scope x
 lcl: ∀x,cf.sc.names.lookup x=y0 .local->X.env.scope.names.lookup x=y0 .local
 sto: ∀x,jbW cf.sc x=k9->zdP X.env.scope x/\(X.fn x=k9\/X.env.scope.names.lookup x=y0 .local)
 cel: ∀x,(cf.sc.names.lookup x=y0 .cell\/cf.sc.names.lookup x=y0 .free)->X.env.kindOf x=y0 .cell\/X.env.kindOf x=y0 .free
 gl: ∀x,jdU cf.sc x=k9->Gl X x
 calm:X.calm=k9
 room:Room k X.A
 room1:Room (k+1) X.A
 pass:QS (zdN X.prog X.w) X E
 blt: ∀x,x∈bltN->X.mg (zg x)=u0
 con: ∀x d,F.con.lookup x=y0 d-> ∃u v,X.mg (zg x)=y0 u/\RelV v u/\ ∀G H,RelD Γ G H d v
 fn: ∀f,cf.fns.contains f=k9-> ∃ps,xdn X k (zg f) ps (zdC Γ (F.call f))
 cls: ∀c,cf.own.contains c=k9->X.mg (zg c)=y0 (.ref (Γ.ca c))
 fld: ∀c f,cf.ob.fl.contains (c,f)=k9->Cls X.K (Γ.ca c)/\zbz X.K (Γ.ca c) (zg f)
 mth: ∀c m q,cf.ob.mt.contains (c,m,q)=k9->Cls X.K (Γ.ca c)/\ ∃fa fd ps,qde X.K (Γ.ca c) (zg m) fa/\FnOk X.prog X.w X.K X.mg X.base (zdN X.prog X.w) k fa fd ps (zdC Γ (F.call q))/\Binds X.K fd ps []
 mks: ∀c q,cf.ob.mks.contains (c,q)=k9->X.mg (zg c)=y0 (.ref (Γ.ca c))/\ ∃fa fd ps,Mk X.K (Γ.ca c) fa/\FnOk X.prog X.w X.K X.mg X.base (zdN X.prog X.w) k fa fd ps (zdC Γ (F.call q))/\Binds X.K fd ps []
@[elab_as_elim] theorem kE {P:List α->Prop}(k:b=k9->P []): ∀l,kZ l b=k9->P l:=by rintro (_|_)<;>first | exact qdB | exact k
@[elab_as_elim] theorem zdp {P:Stmt->Prop}(k: ∀a b p,f a b=k9->P (.Try a b [] [] p)): ∀e,qdd e f=k9->P e:=by
 rintro (_|_)<;>first | exact qdB | exact λh=>kE (λh=>kE (λh=>k _ _ _ h) _ h) _ h
@[elab_as_elim] theorem zdc {P:ExceptHandler->Prop}(k: ∀a b c p,f a b c=k9->P (.ExceptHandler a b c p)): ∀e,qcV e f=k9->P e
 | .ExceptHandler _ _ _ _,h=>k _ _ _ _ h
def a2 (h:(a&&b)=k9):a=k9/\b=true:=Bool.and_eq_true_iff.mp h
def a3 (h:(a&&b&&c)=k9):a=k9/\b=k9/\c=true:=⟨(a2 (a2 h).1).1,(a2 (a2 h).1).2,(a2 h).2⟩
def a4 (h:(a&&b&&c&&d)=k9):a=k9/\b=k9/\c=k9/\d=true:=⟨(a3 (a2 h).1).1,(a3 (a2 h).1).2.1,(a3 (a2 h).1).2.2,(a2 h).2⟩
def a5 (h:(a&&b&&c&&d&&e)=k9):a=k9/\b=k9/\c=k9/\d=k9/\e=true:=⟨(a2 (a4 h).1).1,(a2 (a4 h).1).2,(a4 h).2⟩
def a6 (h:(a&&b&&c&&d&&e&&f)=k9):a=k9/\b=k9/\c=k9/\d=k9/\e=k9/\f=true:=⟨(a2 (a5 h).1).1,(a2 (a5 h).1).2,(a5 h).2⟩
def a7 (h:(a&&b&&c&&d&&e&&f&&g)=k9):a=k9/\b=k9/\c=k9/\d=k9/\e=k9/\f=k9/\g=true:=⟨(a2 (a6 h).1).1,(a2 (a6 h).1).2,(a6 h).2⟩
def nn (h:o.isNone=k9):o=none:=Option.isNone_iff_eq_none.mp h
def xaS (h:vB cf i x=k9):cf.N[i]? =y0 x/\QM cf.sc x=k9/\xdB x=true:=⟨of_decide_eq_true (a3 h).1,(a3 h).2⟩
def Qb (h:zdB sc x e=true): ∃p,e= .Name (zg x) p/\jdU sc (zg x)=true/\(zg x==("__debug__" :Str))=false:=by
 unfold zdB at h
 rw [Aa7,Aa7]at h
 obtain⟨⟨b,c⟩,a⟩:=h
 unfold xdB at a
 rw [Aa7]at a
 cases e with
 | Name y p=>
  have:y=zg x:=by simpa [xaO]using b
  subst this
  exact⟨p,rfl,c,by simpa using a.1⟩
 | _=>simp [xaO]at b
def xp (h:x∈bltN):zg x≠("__name__" :Str):=by
 have:(bltN.all λx=>decide (zg x≠ "__name__"))=true:=by decide +kernel
 exact of_decide_eq_true (Ad7.mp this x h)
section
variable {Γ:Ge}{F:M.Fx}{X:Cx}{E:XK}{k:Nat}{cf:Cf}
section
variable {G:Gh}{H:Hp}{h:M.AH}{Y:M.Sl}{U:St}{Q:VK}
def Post.val (p:Post Γ E G0 H0 (.ok w h) λw _ G' H'=> ∀v,RelW Γ G' H' w v->FreshW Y U H0 w v->Q v H') (e:Ext G0 H0 G H) (a:HRel Γ G h H) (z:RelW Γ G H w v) (f:FreshW Y U H0 w v):Q v H:=
 p G H e a v z f
end
def zbG (go:Go Γ F X E k cf)(t:cf.N[i]? =y0 x) (g:QM cf.sc x=k9) (b:xdB x=k9):PE X (.Name x pos) (tD Γ E (M.eval F (.var i))):=by
 unfold xdB at b
 rw [Aa7]at b
 refine PE.imp (Jk (by rw [go.N];exact t) (go.vis x g) (by simpa using b.1) (by simpa using b.2)) λU H Q l=> ?_
 obtain⟨G,Y,h,s,p⟩:=l
 rw [M.eval]at p
 cases q:M.Gj Y i with
 | none=>simp [M.Gi,q]at p;exact p.elim
 | some w=>
  obtain⟨v,e,r⟩:=s.slot i w q
  refine⟨v,e,?_⟩
  cases w with
  | v d=>
   rw [M.K5 q]at p
   exact Post.val p Ext.refl s.heap r trivial
  | own f=>
   rw [M.KY q]at p
   obtain⟨a,c,m,u,o,n,j⟩:=r
   exact Post.val p Ext.refl s.heap ⟨a,c,m,o,.inl n,j⟩ ⟨i,_,q,rfl,e⟩
  | bor f=>
   rw [M.K0 q]at p
   exact Post.val p Ext.refl s.heap r ⟨i,_,q,rfl,e⟩
def qbO (go:Go Γ F X E k cf)(g:zdB cf.sc c e=k9):PE X e (tD Γ E (M.eval F (.con c))):=by
 obtain⟨p,rfl,l,m⟩:=Qb g
 cases q:F.con.lookup c with
 | none=>
  intro f s U H Q I ⟨G,Y,h,b,a⟩
  rw [M.eval,q]at a
  exact a.elim
 | some d=>
  obtain⟨u,v,j,rv,rd⟩:=go.con c d q
  refine PE.imp (zbN (go.gl _ l) j rv m) λU H Q i=> ?_
  obtain⟨G,Y,h,b,a⟩:=i
  rw [M.eval,q]at a
  exact Post.val a Ext.refl b.heap (rd G H) trivial
def zbK :PE X (.Constant (.int i) j pos) (tD Γ E (M.eval F (.int i))):=PE.imp jcr λU H Q ⟨G,Y,h,s,p⟩=>Post.val p Ext.refl s.heap rfl trivial
def jcB :PE X (.Constant (.bool i) j pos) (tD Γ E (M.eval F (.bl i))):=PE.imp zcV λU H Q ⟨G,Y,h,s,p⟩=>Post.val p Ext.refl s.heap rfl trivial
def qbI :PE X (.Constant .none j pos) (tD Γ E (M.eval F .non)):=PE.imp xcp λU H Q ⟨G,Y,h,s,p⟩=>Post.val p Ext.refl s.heap rfl trivial
def xb9 :PE X (.Constant (.str (zdH i)) j pos) (tD Γ E (M.eval F (.str i))):=PE.imp jcd λU H Q ⟨G,Y,h,s,p⟩=>Post.val p Ext.refl s.heap rfl trivial
section
variable {a b c:M.E}{x y z:Expr}{pos:Pos}
def qb4 (go:Go Γ F X E k cf)(g:xa4 o=k9) (q:PE X x (tD Γ E (M.eval F a))) (j:PE X y (tD Γ E (M.eval F b))):PE X (.BinOp x (zdX o) y pos) (tD Γ E (M.eval F (.bin o a b))):=by
 refine PE.imp (zc5 (qcy (E:=E) o g go.K) q j) λU H Q m=> ?_
 obtain⟨G,Y,h,s,p⟩:=m
 refine Ja s.heap Ext.refl s p λn D L N B i v d e C A=> ?_
 refine Ja s.heap i d A λw J r u K z c f l I t=> ?_
 exact⟨u,r,n,w,f.heap,e.ext c d.heap,l,PostW.mk t z s.heap⟩
def XW (z:RelD Γ G H d v) (f:M.KL d=k9):jF v=true:=by
 cases d with
 | non=>cases (z);rfl
 | bl _=>cases (z);rfl
 | int _=>cases (z);rfl
 | str _=>cases (z);rfl
 | _=>exact absurd (f) Ab6
theorem zI : ∀ {ds}{a},RelDs Γ G H ds a->ds.all M.KL=k9->a.all jF=k9
 | [],_,rfl,_=>rfl
 | d::ds,_,⟨v,r,rfl,b,c⟩,f=>by
  rw [Ai4,Aa7]at f ⊢
  exact⟨XW b f.1,zI c f.2⟩
def jcc (z:RelD Γ G H d v) (y:RelD Γ G H e u) (f:M.KL d=k9) (c:M.KL e=k9):jdE v u=M.eqD d e:=by
 cases d with
 | non=>
  cases (z)
  cases e with
  | non=>cases (y);rfl
  | bl _=>cases (y);rfl
  | int _=>cases (y);rfl
  | str _=>cases (y);rfl
  | _=>exact absurd (c) Ab6
 | bl a=>
  cases (z)
  cases e with
  | non=>cases (y);rfl
  | bl _=>cases (y);rfl
  | int j=>cases (y);show((if a then(1:Int)else 0)==j)=(a.toNat==j);rw [xdS]
  | str _=>cases (y);rfl
  | _=>exact absurd (c) Ab6
 | int i=>
  cases (z)
  cases e with
  | non=>cases (y);rfl
  | bl b=>cases (y);show(i==(if b then(1:Int)else 0))=(i== b.toNat);rw [xdS]
  | int _=>cases (y);rfl
  | str _=>cases (y);rfl
  | _=>exact absurd (c) Ab6
 | str i=>
  cases (z)
  cases e with
  | non=>cases (y);rfl
  | bl _=>cases (y);rfl
  | int _=>cases (y);rfl
  | str j=>cases (y);exact jaP i j
  | _=>exact absurd (c) Ab6
 | _=>exact absurd (f) Ab6
theorem xbu (z:RelD Γ G H d v) (b:M.KL d=k9): ∀ {ds}{a},RelDs Γ G H ds a->ds.all M.KL=k9->jdT v a=M.inD d ds
 | [],_,rfl,_=>rfl
 | e::ds,_,⟨u,r,rfl,g,h⟩,f=>by
  rw [Ai4,Aa7]at f
  have c:=xbu z b h f.2
  unfold jdT M.inD at c ⊢
  rw [Ag2,Ag2,c,jcc g z f.1 b]
def RelW.dflat (z:RelW Γ G H w v) (e:w.d=y0 d) (f:M.KL d=k9):RelD Γ G H d v:=by
 cases w with
 | v b=>cases e;exact z
 | own a=>cases e;exact absurd (f) Ab6
 | bor a=>cases e
theorem xbC (a: ∀c y,RV hp c y->ee y=M.eqD c d): ∀ {ys}{e},RVs hp ys e->e.any ee=M.inD d ys
 | [],_,rfl=>rfl
 | c::ys,_,⟨u,r,rfl,f,g⟩=>by
  have b:=xbC a g
  unfold M.inD at b ⊢
  rw [Ag2,Ag2,b,a c u f]
def xbM (B:X.K=Γ.K)(i:Room k X.A) (neg:Bool){x y:V}(I:Inv X k8 U H s) (J:RelV x v) (O:RelV y u){b:Bool}(A:HRel Γ G h H)
 (E:RelW Γ G H w1 x) (R:RelW Γ G H w2 y) (e:M.Ps w1 w2 h=y0 b) (q:Q (.bl (if neg then !b else b)) H):wpAny (model X.prog X.w) X.A (compareOp (if neg then .NotIn else .In) v u) (EP X k8 U Q) X.xe s:=by
 unfold M.Ps at e
 split at e
 ·rename_i N D
  split at e
  ·rename_i c
   cases e
   have n:=by simpa using c
   have P:=E.rv I B A J n.1.1
   have t:=R.rv I B A O (by rw [D];exact n.1.2)
   rw [D]at t
   obtain⟨a,g,rfl,C,m⟩:=t
   have l: ∃f:Value->Bool,∀c y,RV s.heap c y->f y=M.eqD c (w1.dd h):=⟨λy=> @v9 (∃ d,RV s.heap d y/\M.eqD d (w1.dd h)=k9) (Al7 _),λc y z=>by
    cases q:M.eqD c (w1.dd h)with
    | true=>exact @decide_eq_true _ (Al7 _) ⟨c,z,q⟩
    | false=>exact @decide_eq_false _ (Al7 _) λ⟨d,S,w⟩=>by rw [RV.inj S z,q]at w;cases w⟩
   obtain⟨f,r⟩:=l
   have o: ∀y,y∈g.toArray->SeqAt.EqAt X.A.in1 s y v (f y):=λy F=>by
    obtain⟨j,K⟩:=List.getElem?_of_mem (List.mem_toArray.mp F)
    obtain⟨d,L,rd⟩:=m.get K
    rw [r d y rd]
    exact(zc1 140 d _ X.A.in1 y v (by have:=jy L;omega) (by show X.A.units+1+140<cLine;have:=i.un;omega) rd P).eq
   have p:g.toArray.any f=M.inD (w1.dd h) N:=by rw [List.any_toArray];exact xbC r m
   cases neg with
   | true=>exact SeqAt.notIn_listAt f C o ⟨.bl _,H,I,rfl,by rw [p];exact q⟩
   | false=>exact SeqAt.in_listAt f C o ⟨.bl _,H,I,rfl,by rw [p];exact q⟩
  ·cases e
 ·cases e
def qbt (j:X.K=Γ.K){k:Nat}(g:Room k X.A) (neg:Bool){f:List (Addr×Obj)}{s:Shared}{U:St}{H:Hp}{x y:V}{v u:Value}{Q:VK}(I:Inv X f U H s) (i:RelV x v) (m:RelV y u){G:Gh}{h:M.AH}{r p:M.W}{b:Bool}(t:HRel Γ G h H)
 (o:RelW Γ G H r x) (w:RelW Γ G H p y) (e:M.Pe r p h=y0 b) (q:Q (.bl (if neg then !b else b)) H):wpAny (model X.prog X.w) X.A (compareOp (if neg then .NotIn else .In) v u) (EP X f U Q) X.xe s:=by
 unfold M.Pe at e
 ·split at e
  ·rename_i d D B C
   split at e
   ·rename_i c
    rw [Aa7]at c
    cases e
    have z:=o.dflat B c.1
    obtain⟨a,n,rfl,A,l⟩:=w.seq t C
    rw [← xbu z c.1 l c.2]at q
    cases neg with
    | true=>exact qS f s U H _ _ v u Q I i m ⟨a,n,rfl,j▸xbY A,XW z c.1,zI l c.2,q⟩
    | false=>exact jam f s U H _ _ v u Q I i m ⟨a,n,rfl,j▸xbY A,XW z c.1,zI l c.2,q⟩
   ·exact xbM j g neg I i m t o w e q
  ·cases e
def zH (go:Go Γ F X E k cf) (o:M.Cp) (D:xF o=k9):qd4 X (compareOp (xdH o)) (zbW Γ o):=by
 have f: ∀ {o:M.Cp},(∀ a d h b,M.Gz o a d h=y0 b-> ∃i j,M.W.int? a=y0 i/\M.W.int? d=y0 j/\M.Pq o i j=y0 b)->qd4 X (compareOp (xdH o)) (zbW Γ o):=by
  intro o A g s U H x y v u Q I m n ⟨G,h,a,d,b,w,l,p,e,q⟩
  obtain⟨i,j,z,r,B⟩:=A a d h b e
  cases l.int z
  cases p.int r
  exact zbk B I m n q
 have mk: ∀ {o:M.Cp}{a d:M.W}{h:M.AH}{b:Bool},(match M.W.int? a,M.W.int? d with
  | some i,y0 j=>M.Pq o i j
  | _,_=>u0)=y0 b-> ∃i j,M.W.int? a=y0 i/\M.W.int? d=y0 j/\M.Pq o i j=y0 b:=by
  intro o a d h b e
  split at e
  ·rename_i i j z r;exact⟨i,j,z,r,e⟩
  ·cases e
 cases o with
 | eq=>exact jcG go.K go.room
 | ne=>exact qct go.K go.room
 | lt=>exact f λa d h b e=>mk (h:=h) e
 | le=>exact f λa d h b e=>mk (h:=h) e
 | gt=>exact f λa d h b e=>mk (h:=h) e
 | ge=>exact f λa d h b e=>mk (h:=h) e
 | mem=>
  intro g s U H x y v u Q I m n ⟨G,h,a,d,b,w,l,p,e,q⟩
  exact qbt go.K go.room y9 I m n w l p e q
 | nmem=>
  intro g s U H x y v u Q I m n ⟨G,h,a,d,b,w,l,p,e,q⟩
  have e:(M.Pe a d h).map (!·)=y0 b:=e
  cases r:M.Pe a d h with
  | none=>rw [r]at e;cases e
  | some c=>
   rw [r]at e
   cases e
   exact qbt go.K go.room k9 I m n w l p r q
 | isb=>
  intro g s U H x y v u Q I m n ⟨G,h,a,d,b,w,l,p,e,q⟩
  have e:M.Pu a d=y0 b:=e
  unfold M.Pu at e
  split at e
  ·cases e
   cases l
   cases p
   cases m
   obtain⟨t,rfl⟩:=n
   exact wpAny_is_plain rfl (zbs I q rfl)
  ·cases e
   cases l
   cases p
   obtain⟨t,rfl⟩:=m
   obtain⟨C,rfl⟩:=n
   exact PyProof.Rows.is_bool (zbs I q rfl)
  ·cases e
def qj (h:Xf e=k9):behindInMarks o e=false:=by
 cases e<;>first | rfl | (simp [Xf]at h)
def zbn (go:Go Γ F X E k cf)(s:StRel Γ G Y h U H)
 (p:Post Γ E G H ((M.eval F a Y h).bind λx h=>(M.eval F b Y h).bind λy h=>(M.R.of h (M.Gz o x y h)).bind λc h=> .ok c h) λc _ _ H'=>R (.bl c) H'):
 jdN (zbW Γ o) (tD Γ E (M.eval F a)) (tD Γ E (M.eval F b)) U H R:=by
 refine Ja s.heap Ext.refl s p λn B J K z j t g i A w=> ?_
 refine Ja s.heap j g w λu D q r I v d f l C e=> ?_
 obtain⟨c,m,e⟩:=e.of
 exact⟨r,q,n,u,c,f.heap,i.ext d g.heap,l,m,e.at v f.heap⟩
def Post.map {f:α->β}(p:Post Γ E G H (r.bind λa h=> .ok (f a) h) P):Post Γ E G H r λa h G' H'=>P (f a) h G' H':=by
 cases r with
 | ok a h=>exact p
 | exc d h=>exact p
 | fail=>exact p
def zf (r:M.R α) (f) (g:β->M.AH->M.R γ):(r.bind f).bind g=r.bind λa h=>(f a h).bind g:=by cases r<;>rfl
def qbK (go:Go Γ F X E k cf)(j:xF o=k9) (m:Xf y=k9) (t:PE X x (tD Γ E (M.eval F a))) (l:PE X y (tD Γ E (M.eval F b))):PE X (.Compare x [xdH o] [y] pos) (tD Γ E (M.eval F (.cmp o a b))):=by
 refine PE.imp (ZV (zH go o j) t l (qj m)) λU H Q n=> ?_
 obtain⟨G,Y,h,s,p⟩:=n
 rw [M.eval]at p
 refine zbn go s ?_
 have z:Post Γ E G H (((M.eval F a Y h).bind λx h=>(M.eval F b Y h).bind λy h=>(M.R.of h (M.Gz o x y h)).bind λc h=> .ok c h).bind λc h=> .ok (M.W.v (.bl c)) h) λw _ i g=> ∀v,RelW Γ i g w v->FreshW Y U H w v->Q v g:=by
  simpa only [zf,M.R.bind_ok]using p
 have f:=z.map
 cases q:(M.eval F a Y h).bind λx h=>(M.eval F b Y h).bind λy h=>(M.R.of h (M.Gz o x y h)).bind λc h=> .ok c h with
 | ok c r=>rw [q]at f;exact λi g e u=>f i g e u (.bl c) rfl trivial
 | exc d r=>rw [q]at f;exact f
 | fail=>rw [q]at f;exact f
def qbd (go:Go Γ F X E k cf)(g:xF o=k9) (j:Xf y=k9) (r:PE X x (tD Γ E (M.eval F a))) (i:PE X y (tD Γ E (M.eval F b))):PT X (.Compare x [xdH o] [y] pos) (qd3 Γ E (M.Gu F (.cmp o a b))):=by
 refine PT.imp (WU (zH go o g) r i (qj j)) λU H Q m=> ?_
 obtain⟨G,Y,h,s,p⟩:=m
 unfold M.Gu at p
 rw [M.eval]at p
 refine zbn go s ?_
 have f:=by
  simpa only [zf,M.R.bind_ok,M.GZ,M.R.of_some]using p
 cases q:(M.eval F a Y h).bind λx h=>(M.eval F b Y h).bind λy h=>(M.R.of h (M.Gz o x y h)).bind λc h=> .ok c h with
 | ok c n=>rw [q]at f;exact λu l e t=>⟨c,rfl,f u l e t⟩
 | exc d n=>rw [q]at f;exact f
 | fail=>rw [q]at f;exact f
end
end
section
variable {Γ:Ge}{F:M.Fx}{X:Cx}{E:XK}{k:Nat}{cf:Cf}{a b c:M.E}{x y z:Expr}{pos:Pos}
def Wy (r:M.R α):(r.bind λw h=> .ok w h)=r:=by cases r<;>rfl
def qba (go:Go Γ F X E k cf) (l:PE X x (tD Γ E (M.eval F a))) (m: ∀b,isTrue x X.env b=(do let v ←b;standAt x.pos;holding [v] (truthy v))):PT X x (qd3 Γ E (M.Gu F a)):=by
 refine PT.imp (xaX l m) λU H Q i=> ?_
 obtain⟨G,Y,h,s,p⟩:=i
 refine Ja s.heap Ext.refl s p λj w n r e g o d f u c=> ?_
 cases q:M.KW n j with
 | none=>rw [q]at c;exact c.elim
 | some t=>
  rw [q]at c
  exact⟨t,J0 go.K d.heap f q,c r e g d.heap⟩
def xbF (f:PE X x ta):PE X (.UnaryOp .Not x pos) (λU H Q=>ta U H λv H1=> ∃t,xb2 X.K v H1 t/\Q (.bl (!t)) H1):=by
 intro a s U H Q I h
 refine UnaryOp_ (jdF (f a s U H _ I h) ?_)
 rintro v g ⟨x,H1,k,b,t,d,j⟩
 exact not_of (jdF (w4 a g U H1 x v (λc e=>Q (.bl (!c)) e) k b ⟨t,d,j⟩) λc m ⟨i,l,q⟩=>⟨.bl (!c),i,l,rfl,q⟩)
def jbO (go:Go Γ F X E k cf) (g:PE X x (tD Γ E (M.eval F a))):PE X (.UnaryOp .Not x pos) (tD Γ E (M.eval F (.not a))):=by
 refine PE.imp (xbF g) λU H Q f=> ?_
 obtain⟨G,Y,h,s,p⟩:=f
 refine Ja s.heap Ext.refl s p λn m o r j e i c d l b=> ?_
 obtain⟨t,q,b⟩:=b.of
 exact⟨t,J0 go.K c.heap d q,Post.val b e c.heap rfl trivial⟩
def jaW (d:PT X x (qd3 Γ E (M.Gu F a))):PT X (.UnaryOp .Not x pos) (qd3 Γ E (M.Gu F (.not a))):=by
 refine PT.imp (jcC d) λU H Q e=> ?_
 obtain⟨G,Y,h,s,p⟩:=e
 unfold M.Gu at p
 rw [M.eval]at p
 have f:Post Γ E G H ((M.Gu F a Y h).bind λt h=> .ok (!t) h) λb _ _ c=>Q b c:=by
  unfold M.Gu
  simpa only [zf,M.R.bind_ok,M.GZ,M.R.of_some]using p
 exact⟨G,Y,h,s,f.map⟩
def jbE {rest:List Expr}(l:PE X x ta) (j:PE X (.BoolOp .And (y::rest) pos) tb):PE X (.BoolOp .And (x::y::rest) pos) (λU H Q=>ta U H λv H1=> ∃t,xb2 X.K v H1 t/\if t=k9 then tb U H1 Q else Q v H1):=by
 intro a s U H Q I h
 refine BoolOp_and (jdF (l a s U H _ I h) ?_)
 rintro v m ⟨x,H1,o,b,t,g,n⟩
 refine jdF (w4 a m U H1 x v (λc d=>if c=k9 then tb U d Q else Q x d) o b ⟨t,g,n⟩) λc i k=> ?_
 obtain⟨e,f,q⟩:=k
 cases c with
 | true=>exact j a i U e Q f q
 | false=>exact⟨x,e,f,b,q⟩
def xci {rest:List Expr}(l:PE X x ta) (j:PE X (.BoolOp .Or (y::rest) pos) tb):PE X (.BoolOp .Or (x::y::rest) pos) (λU H Q=>ta U H λv H1=> ∃t,xb2 X.K v H1 t/\if t=k9 then Q v H1 else tb U H1 Q):=by
 intro a s U H Q I h
 refine BoolOp_or (jdF (l a s U H _ I h) ?_)
 rintro v m ⟨x,H1,o,b,t,g,n⟩
 refine jdF (w4 a m U H1 x v (λc d=>if c=k9 then Q x d else tb U d Q) o b ⟨t,g,n⟩) λc i k=> ?_
 obtain⟨e,f,q⟩:=k
 cases c with
 | false=>exact j a i U e Q f q
 | true=>exact⟨x,e,f,b,q⟩
def qat (go:Go Γ F X E k cf){rest:List Expr}(r:PE X x (tD Γ E (M.eval F a))) (j:PE X (.BoolOp .And (y::rest) pos) (tD Γ E (M.eval F b))):PE X (.BoolOp .And (x::y::rest) pos) (tD Γ E (M.eval F (.and a b))):=by
 refine PE.imp (jbE r j) λU H Q o=> ?_
 obtain⟨G,Y,h,s,p⟩:=o
 refine Ja s.heap Ext.refl s p λC A J N z d v e f g c=> ?_
 obtain⟨t,q,c⟩:=c.of
 refine⟨t,J0 go.K e.heap f q,?_⟩
 cases t with
 | true=>
  exact Ja s.heap d e (by rw [Wy];exact c) λL B I K D w l i n m u=>Post.val u w i.heap n (m.back d s.heap)
 | false=>
  exact Post.val c d e.heap f g
def jbn (go:Go Γ F X E k cf){rest:List Expr}(r:PE X x (tD Γ E (M.eval F a))) (j:PE X (.BoolOp .Or (y::rest) pos) (tD Γ E (M.eval F b))):PE X (.BoolOp .Or (x::y::rest) pos) (tD Γ E (M.eval F (.or a b))):=by
 refine PE.imp (xci r j) λU H Q o=> ?_
 obtain⟨G,Y,h,s,p⟩:=o
 refine Ja s.heap Ext.refl s p λC A J N z d v e f g c=> ?_
 obtain⟨t,q,c⟩:=c.of
 refine⟨t,J0 go.K e.heap f q,?_⟩
 cases t with
 | false=>
  exact Ja s.heap d e (by rw [Wy];exact c) λL B I K D w l i n m u=>Post.val u w i.heap n (m.back d s.heap)
 | true=>
  exact Post.val c d e.heap f g
def xbK :M.Gu F (.and a b) Y h=(M.Gu F a Y h).bind λt h=>match t with
 | true=>M.Gu F b Y h
 | false=> .ok y9 h:=by
 unfold M.Gu
 rw [M.eval]
 simp only [zf]
 congr 1
 funext w h1
 cases q:M.KW h1 w with
 | none=>rfl
 | some t=>
  cases t with
  | true=>rfl
  | false=>simp [q]
def xcl :M.Gu F (.or a b) Y h=(M.Gu F a Y h).bind λt h=>match t with
 | true=> .ok k9 h
 | false=>M.Gu F b Y h:=by
 unfold M.Gu
 rw [M.eval]
 simp only [zf]
 congr 1
 funext w h1
 cases q:M.KW h1 w with
 | none=>rfl
 | some t=>
  cases t with
  | false=>rfl
  | true=>simp [q]
def j4 {rest:List Expr}(o:PT X x (qd3 Γ E (M.Gu F a))) (k:PW X (.BoolOp .And (y::rest) pos) (qd3 Γ E (M.Gu F b))):PW X (.BoolOp .And (x::y::rest) pos) (qd3 Γ E (M.Gu F (.and a b))):=by
 intro n c m U H Q I ⟨G,Y,h,s,p⟩
 refine qcJ o k n c m U H Q I ?_
 rw [xbK]at p
 refine ZJ s.heap Ext.refl s p λt D A i d u e g=> ?_
 cases t with
 | true=>
  exact ZJ s.heap d e (f:=λw h=> .ok w h) (by rw [Wy];exact g) λB C r q z l j v=>v r q z j.heap
 | false=>
  exact g A i d e.heap
def zaf {rest:List Expr}(o:PT X x (qd3 Γ E (M.Gu F a))) (k:PW X (.BoolOp .Or (y::rest) pos) (qd3 Γ E (M.Gu F b))):PW X (.BoolOp .Or (x::y::rest) pos) (qd3 Γ E (M.Gu F (.or a b))):=by
 intro n c m U H Q I ⟨G,Y,h,s,p⟩
 refine qcQ o k n c m U H Q I ?_
 rw [xcl]at p
 refine ZJ s.heap Ext.refl s p λt D A i d u e g=> ?_
 cases t with
 | false=>
  exact ZJ s.heap d e (f:=λw h=> .ok w h) (by rw [Wy];exact g) λB C r q z l j v=>v r q z j.heap
 | true=>
  exact g A i d e.heap
def qb5 (f:PE X x (tD Γ E (M.eval F a))):PE X (.UnaryOp .USub x pos) (tD Γ E (M.eval F (.neg a))):=by
 refine PE.imp (qcu zcq f) λU H Q e=> ?_
 obtain⟨G,Y,h,s,p⟩:=e
 refine Ja s.heap Ext.refl s p λm l n o j d i g c k b=> ?_
 obtain⟨t,q,b⟩:=b.of
 exact⟨t,c.int q,Post.val b d g.heap rfl trivial⟩
def jbF (g:PE X x (tD Γ E (M.eval F a))):PE X (.UnaryOp .Invert x pos) (tD Γ E (M.eval F (.inv a))):=by
 refine PE.imp (qcu qcg g) λU H Q f=> ?_
 obtain⟨G,Y,h,s,p⟩:=f
 refine Ja s.heap Ext.refl s p λn m o r k d j i c l b=> ?_
 obtain⟨t,q,b⟩:=b.of
 refine⟨t,c.int q,?_⟩
 have e:Builtin.bitNot t= -t-1:=by unfold Builtin.bitNot;omega
 exact Post.val b d i.heap rfl trivial
def qaA (r:RelW Γ G H w v):(v= .non)↔w= .v .non:=by
 constructor
 ·intro e
  subst e
  cases w with
  | v d=>
   cases d with
   | non=>rfl
   | bl _=>cases (r)
   | int _=>cases (r)
   | str _=>cases (r)
   | tup _=>obtain⟨_,_,e,_⟩:=r;cases e
   | lst _=>obtain⟨_,_,e,_⟩:=r;cases e
   | ref _=>obtain⟨_,e⟩:=r;cases e
   | exc _ _=>rcases r with⟨_,_,e,_⟩ | ⟨_,_,e,_⟩<;>cases e
   | err _ _ _=>obtain⟨_,_,_,e,_⟩:=r;cases e
  | own _=>obtain⟨_,_,e,_⟩:=r;cases e
  | bor _=>obtain⟨_,_,e,_⟩:=r;cases e
 ·intro e
  subst e
  exact r
def qcZ (neg:Bool):M.W->Bool
 | .v .non=> !neg
 | _=>neg
def jad :M.eval F (.isn neg a) Y h=(M.eval F a Y h).bind λw h=>M.okv (.bl (qcZ neg w)) h:=by
 rw [M.eval]
 congr 1
 funext w h1
 cases w with
 | v d=>cases d<;>rfl
 | own _=>rfl
 | bor _=>rfl
def jbr (r:RelW Γ G H w v) (neg:Bool):(if neg then !v9 (v= .non)else v9 (v= .non))=qcZ neg w:=by
 by_cases a:v= .non
 ·have b:=(qaA r).mp a
  subst b a
  cases neg<;>rfl
 ·have b:=λe=>a ((qaA r).mpr e)
  have c:=decide_eq_false a
  rw [c]
  have f:qcZ neg w=neg:=by
   cases w with
   | v d=>cases d<;>first | rfl | exact absurd rfl b
   | own _=>rfl
   | bor _=>rfl
  rw [f]
  cases neg<;>rfl
def jb4 (d:PE X x (tD Γ E (M.eval F a))):PE X (.Compare x [if neg then .IsNot else .Is] [.Constant .none j pos'] pos) (tD Γ E (M.eval F (.isn neg a))):=by
 have b: ∀U H Q,tD Γ E (M.eval F (.isn neg a)) U H Q->tD Γ E (M.eval F a) U H λv c=>Q (.bl (if neg then !v9 (v= .non)else v9 (v= .non))) c:=λU H Q g=>by
  obtain⟨G,Y,h,s,p⟩:=g
  rw [jad]at p
  refine Ja s.heap Ext.refl s p λo n q r c f k i e m l=> ?_
  rw [jbr e neg]
  exact Post.val l f i.heap rfl trivial
 cases neg with
 | true=>exact PE.imp (jbz (qaz d)) b
 | false=>exact PE.imp (jbz (zbv d)) b
def ja6 (i:PE X x (tD Γ E (M.eval F a))):PT X (.Compare x [if neg then .IsNot else .Is] [.Constant .none j pos'] pos) (qd3 Γ E (M.Gu F (.isn neg a))):=by
 have g: ∀U H Q,qd3 Γ E (M.Gu F (.isn neg a)) U H Q->tD Γ E (M.eval F a) U H λv b=>Q (if neg then !v9 (v= .non)else v9 (v= .non)) b:=λU H Q n=>by
  obtain⟨G,Y,h,s,p⟩:=n
  unfold M.Gu at p
  rw [jad,zf]at p
  refine Ja s.heap Ext.refl s p λJ I K C b l A u k D B=> ?_
  rw [jbr k neg]
  exact B C b l u.heap
 have fin: ∀U H Q,qd3 Γ E (M.Gu F (.isn neg a)) U H Q->tD Γ E (M.eval F a) U H λv b=> ∃c,V.bl (if neg then !v9 (v= .non)else v9 (v= .non))= .bl c/\Q c b:=λU H Q t=>by
  obtain⟨G,Y,h,s,p⟩:=g U H Q t
  refine⟨G,Y,h,s,?_⟩
  cases q:M.eval F a Y h with
  | ok w o=>rw [q]at p;exact λz m e y v r f=>⟨_,rfl,p z m e y v r f⟩
  | exc d o=>rw [q]at p;exact p
  | fail=>rw [q]at p;exact p
 cases neg with
 | true=>exact PT.imp (qby (qaz i)) fin
 | false=>exact PT.imp (qby (zbv i)) fin
def QY (h:Xf e'=k9):lastMarks [o,o'] [e,e']=false:=qj h
def W4 (go:Go Γ F X E k cf)(s:StRel Γ G Y h U H)
 (hP: ∀b h' G' H',P (.v (.bl b)) h' G' H'->R (.bl b) H') (p:Post Γ E G H (M.eval F (.chain o o' a b c) Y h) P):
 zan (zbW Γ o) (zbW Γ o') (tD Γ E (M.eval F a)) (tD Γ E (M.eval F b)) (tD Γ E (M.eval F c)) U H R:=by
 refine Ja s.heap Ext.refl s p λz O Z G1 K w D n u N J=> ?_
 refine Ja s.heap w n J λq T B C W r f d m S e=> ?_
 obtain⟨t,g,e⟩:=e.of
 refine⟨C,B,z,q,t,d.heap,u.ext f n.heap,m,g,t,rfl,?_⟩
 cases t with
 | true=>
  refine Ja s.heap r d e λv L x y Q I i l A V j=> ?_
  obtain⟨t,g,j⟩:=j.of
  exact⟨y,x,q,v,t,l.heap,m.ext i d.heap,A,g,hP _ _ _ _ (j.at I l.heap)⟩
 | false=>
  exact hP _ _ _ _ (e.at r d.heap)
def zaH (go:Go Γ F X E k cf)(e:xF o=k9) (d:xF o'=k9) (g:Xf z=k9) (j:PE X x (tD Γ E (M.eval F a))) (f:PE X y (tD Γ E (M.eval F b))) (i:PE X z (tD Γ E (M.eval F c))):
 PE X (.Compare x [xdH o,xdH o'] [y,z] pos) (tD Γ E (M.eval F (.chain o o' a b c))):=
 PE.imp (za8 (zH go o e) (zH go o' d) j f i (QY g)) λU H Q ⟨G,Y,h,s,p⟩=>W4 go s (λb m n l q=>q (.bl b) rfl trivial) p
def W6 (go:Go Γ F X E k cf)(l:xF o=k9) (g:xF o'=k9) (n:Xf z=k9) (v:PE X x (tD Γ E (M.eval F a))) (m:PE X y (tD Γ E (M.eval F b))) (r:PE X z (tD Γ E (M.eval F c))):
 PT X (.Compare x [xdH o,xdH o'] [y,z] pos) (qd3 Γ E (M.Gu F (.chain o o' a b c))):=by
 refine PT.imp (ja7 (zH go o l) (zH go o' g) v m r (QY n)) λU H Q u=> ?_
 obtain⟨G,Y,h,s,p⟩:=u
 refine W4 go s (P:=λw _ _ f=> ∀b,w= .v (.bl b)->Q b f) (λb i j f q=>⟨b,rfl,q b rfl⟩) ?_
 unfold M.Gu at p
 cases q:M.eval F (.chain o o' a b c) Y h with
 | ok w i=>rw [q]at p;exact λj f e A b t=>by subst t;exact p j f e A
 | exc d i=>rw [q]at p;exact p
 | fail=>rw [q]at p;exact p
end
def ja (h:Qa e=k9):starEach (e::es) env=(y9,eval e env)::starEach es env:=by
 cases e<;>first | rfl | (simp [Qa]at h)
def zu (h: ∀e∈es,Qa e=k9):(backTo pos (starEach es env)).any (·.1)=false:=by
 induction es with
 | nil=>rfl
 | cons e r b=>
  rw [ja (h e Aa3)]
  show(y9||(backTo pos (starEach r env)).any (·.1))=y9
  rw [b λc a=>h c (Aa1 _ a)]
  rfl
section
variable {Γ:Ge}{F:M.Fx}{X:Cx}{E:XK}{k:Nat}{cf:Cf}{a b c:M.E}{x y z:Expr}{pos:Pos}{es:M.Es}{xs:List Expr}
def xaZ:PA X [] (xdM Γ E (M.Gq F .nil)):=PA.imp Jh λU H Q ⟨G,Y,h,s,p⟩=>p G H Ext.refl s.heap [] rfl
def xap (r:Qa x=k9) (v:PE X x (tD Γ E (M.eval F a))) (z:PA X xs (xdM Γ E (M.Gq F es))):PA X (x::xs) (xdM Γ E (M.Gq F (.cons a es))):=by
 refine PA.imp (Jc v z (ja r)) λU H Q t=> ?_
 obtain⟨G,Y,h,s,p⟩:=t
 refine Ja s.heap Ext.refl s p λD f I N C k A w j i b=> ?_
 obtain⟨d,q,b⟩:=b.of
 obtain⟨J,n,g,rd,_⟩:=qdT k w s j i q
 refine wT s.heap n g b λK e L o l B c m u y=> ?_
 exact y o l B m.heap (f::e) ⟨f,e,rfl,rd.ext c g.heap,u⟩
def jaU:PA X [] (xdw Γ E (M.Gg F .nil)):=PA.imp Jh λU H Q ⟨G,Y,h,s,p⟩=>p G H Ext.refl s.heap [] rfl
def jaj (m:Qa x=k9) (q:PE X x (tD Γ E (M.eval F a))) (t:PA X xs (xdw Γ E (M.Gg F es))):PA X (x::xs) (xdw Γ E (M.Gg F (.cons a es))):=by
 refine PA.imp (Jc q t (ja m)) λU H Q n=> ?_
 obtain⟨G,Y,h,s,p⟩:=n
 refine Ja s.heap Ext.refl s p λz d A D w i u e g y f=> ?_
 refine XB s.heap i e f λB c C l j v b k o r=> ?_
 exact r l j v k.heap (d::c) ⟨d,c,rfl,g.ext b e.heap,o⟩
def qbL (D:xs.length<=1000) (a: ∀Y h ds h',M.Gq F es Y h= .ok ds h'->ds.length=xs.length) (t:PA X xs (xdM Γ E (M.Gq F es))):PE X (.Tuple xs n pos) (tD Γ E (M.eval F (.tup es))):=by
 refine PE.imp (qck t) λU H Q r=> ?_
 obtain⟨G,Y,h,s,p⟩:=r
 rw [M.eval]at p
 cases q:M.Gq F es Y h with
 | ok b k=>
  have o:=a _ _ _ _ q
  refine wT s.heap Ext.refl s (f:=λds h=>if ds.length=xs.length then M.okv (.tup ds) h else .fail) (P:=λw h' x i=> ∀v,RelW Γ x i w v->FreshW Y U H w v->Q v i) ?_ λds A C I z m y u g c=> ?_
  ·rw [q]at p ⊢
   show Post Γ E G H (if b.length=xs.length then M.okv (.tup b) k else .fail) _
   rw [if_pos o]
   exact p
  ·by_cases j:ds.length=xs.length
   ·rw [if_pos j]at c
    have B:=g.length
    exact⟨Ai3 (zo (by omega)),λl e=>PostW.tup (PostW.mk c m s.heap) u.heap g l e⟩
   ·rw [if_neg j]at c;exact c.elim
 | exc d k=>rw [q]at p;exact⟨G,Y,h,s,by rw [q];exact p⟩
 | fail=>rw [q]at p;exact p.elim
def qb9 (C:xs.length<=1000) (a: ∀Y h ds h',M.Gq F es Y h= .ok ds h'->ds.length=xs.length) (r:PA X xs (xdM Γ E (M.Gq F es))):PE X (.List xs pos) (tD Γ E (M.eval F (.lst es))):=by
 refine PE.imp (qcq r) λU H Q o=> ?_
 obtain⟨G,Y,h,s,p⟩:=o
 rw [M.eval]at p
 cases q:M.Gq F es Y h with
 | ok b k=>
  have n:=a _ _ _ _ q
  refine wT s.heap Ext.refl s (f:=λds h=>if ds.length=xs.length then .ok (.own ds) h else .fail) (P:=λw h' u i=> ∀v,RelW Γ u i w v->FreshW Y U H w v->Q v i) ?_ λds z B D y m x t g c=> ?_
  ·rw [q]at p ⊢
   show Post Γ E G H (if b.length=xs.length then .ok (M.W.own b) k else .fail) _
   rw [if_pos n]
   exact p
  ·by_cases j:ds.length=xs.length
   ·rw [if_pos j]at c
    have A:=g.length
    exact⟨Ai3 (zo (by omega)),λl e=>PostW.own (PostW.mk c m s.heap) t.heap g l e⟩
   ·rw [if_neg j]at c;exact c.elim
 | exc d k=>rw [q]at p;exact⟨G,Y,h,s,by rw [q];exact p⟩
 | fail=>rw [q]at p;exact p.elim
def qbE (r:RelW Γ G H w v):RelW Γ G H w.arg v:=by
 cases w with
 | v d=>exact r
 | own c=>obtain⟨a,b,g,_,f,h,e⟩:=r;exact⟨a,b,g,f,.inl h,e⟩
 | bor c=>exact r
theorem wz : ∀ {ws}{a},RelWs Γ G H ws a->RelWs Γ G H (ws.map M.W.arg) a
 | [],_,z=>z
 | _::_,_,⟨v,r,c,d,b⟩=>⟨v,r,c,qbE d,wz b⟩
def xB (ws:List M.W): ∀w∈ws.map M.W.arg,qbi w=true:=λw a=>by
 obtain⟨u,_,rfl⟩:=Ab9.mp a
 cases u<;>rfl
def za9 (go:Go Γ F X E k cf)(d:zdB cf.sc f g=k9) (m:cf.fns.contains f=k9) (b: ∀e∈x::xs,Qa e=k9) (r:PA X (x::xs) (xdw Γ E (M.Gg F es))):PE X (.Call g (x::xs) [] pos) (tD Γ E (M.eval F (.call f es))):=by
 obtain⟨p,rfl,y,o⟩:=Qb d
 obtain⟨j,J,K,a,l,t,v⟩:=(go.fn f m).imp λj h=>h.ex
 refine PE.imp (jbU a go.room (go.gl _ y) v t l .nil go.pass r o (ja (b _ Aa3)) (zu λe w=>b e (Aa1 _ w))) λU H Q q=> ?_
 obtain⟨G,Y,h,s,p⟩:=q
 refine XB s.heap Ext.refl s p λn I z C D i A u c B=> ?_
 rw [Ae0]
 exact⟨C,z,_,u.heap,wz c,xB n,PostW.mk B i s.heap⟩
def zaI (go:Go Γ F X E k cf)(b:zdB cf.sc f g=k9) (e:cf.fns.contains f=k9):PE X (.Call g [] [] pos) (tD Γ E (M.eval F (.call f .nil))):=by
 obtain⟨p,rfl,l,m⟩:=Qb b
 obtain⟨c,o,q,a,d,n,j⟩:=(go.fn f e).imp λc h=>h.ex
 refine PE.imp (qa2 a go.room (go.gl _ l) j n d .nil go.pass m) λU H Q i=> ?_
 obtain⟨G,Y,h,s,p⟩:=i
 have p:=p
 exact⟨G,h,_,s.heap,wz (ws:= []) rfl,xB [],PostW.mk p Ext.refl s.heap⟩
def qcr (b:M.Bi) (a:zcO b=k9):bootBuiltins (zg (jd5 b))=y0 (qdP b):=by
 cases b<;>first | (exact absurd (show y9=k9 from a) Ab6) | decide +kernel
def xda (b):jd5 b∈bltN:=by cases b<;>decide
def xcA (go:Go Γ F X E k cf){b:M.Bi}(o:zcO b=k9) (t:zdB cf.sc (jd5 b) g=k9) (q: ∀e∈x::xs,Qa e=k9) (j:PA X (x::xs) (xdw Γ E (M.Gg F es))):PE X (.Call g (x::xs) [] pos) (tD Γ E (M.eval F (.bi b es))):=by
 obtain⟨p,rfl,m,f⟩:=Qb t
 have l:=go.blt _ (xda b)
 have hn:=xp (xda b)
 have n:=qcr b o
 have i:Jm X (qdP b) (zd2 Γ E b):=zbO b o go.K go.calm
 have a: ∀U H Q,tD Γ E (M.eval F (.bi b es)) U H Q->jd6 (zd2 Γ E b) (xdw Γ E (M.Gg F es)) U H Q:=λU H Q w=>by
  obtain⟨G,Y,h,s,p⟩:=w
  refine XB s.heap Ext.refl s p λv I z C D u A c r B=> ?_
  exact⟨C,z,v,c.heap,r,PostW.mk B u s.heap⟩
 have c:=ja (env:=X.env) (es:=xs) (q _ Aa3)
 have d:=zu (env:=X.env) (pos:=pos) λe y=>q e (Aa1 _ y)
 cases b with
 | len=>exact PE.imp (Xh i (go.gl _ m) l n j hn f c d) a
 | divmod=>exact PE.imp (Xh i (go.gl _ m) l n j hn f c d) a
 | min=>exact PE.imp (Xh i (go.gl _ m) l n j hn f c d) a
 | max=>exact PE.imp (Xh i (go.gl _ m) l n j hn f c d) a
 | int=>exact PE.imp (WD i (go.gl _ m) l n j hn f c d) a
 | list=>cases o
 | tuple=>exact PE.imp (WD i (go.gl _ m) l n j hn f c d) a
 | sum=>exact PE.imp (Xh i (go.gl _ m) l n j hn f c d) a
 | all=>exact PE.imp (Xh i (go.gl _ m) l n j hn f c d) a
 | any=>cases o
 | sorted=>cases o
 | str=>cases o
 | abs=>cases o
def base_of (h:qbX o=k9) (w):attributeBase o n env w=w:=by
 cases o<;>first | rfl | exact absurd (h) Ab6
theorem zae (t): ∀ {ts}{n},M.Pi t ts=y0 n->jcb (zdH t) (ts.map zdH)=y0 n
 | [],_,e=>by cases e
 | y::ys,n,e=>by
  unfold M.Pi at e
  rw [Aa9,jcb]
  split at e
  ·rename_i q
   cases e
   rw [if_pos (by rw [q])]
  ·rename_i q
   obtain⟨k,e1,rfl⟩:=Ah0.mp e
   rw [if_neg (λc=>q (by
    have:=congrArg (λs:Str=>s.cps.toList) c
    simpa [zdH]using this)),zae t e1]
   rfl
def xbd (go:Go Γ F X E k cf){m:M.Mt}{a:M.E}{o:Expr}{d e:Pos}(hm:xdd m=k9) (hl:(d.endLine==e.line)=k9) (hc:qbX o=k9) (z:Qa x=k9) (ha:PE X o (tD Γ E (M.eval F a))) (hw:PA X [x] (xdw Γ E (M.Gg F es))):
 PE X (.Call (.Attribute o (zg (xdz m)) d) [x] [] e) (tD Γ E (M.eval F (.meth m a es))):=by
 cases m with
 | index=>
  refine PE.imp (jbu PySem.F.plainAttrs_tuple PySem.F.slot_tuple_index PySem.F.type_tuple_index zci zbj ha hw (base_of hc _) (by rw [ja z];rfl) hl (ja z) rfl) λU H Q S=> ?_
  obtain⟨G,Y,h,s,p⟩:=S
  rw [M.eval]at p
  refine Ja s.heap Ext.refl s p λl v1 h1 G1 H1 D W j q f1 g=> ?_
  split at g
  ·rename_i T
   obtain⟨xs,ex⟩:=Ai6.mp (show l.tup?.isSome=k9 from T)
   obtain⟨b,C,rfl,v,z3⟩:=q.tup ex
   refine⟨⟨b,rfl,go.K▸v.pl⟩,?_⟩
   refine XB s.heap D j g λL us A G2 H2 Z f r N c=> ?_
   obtain⟨b',I,K,O,R⟩:=RelW.ext (w:= .v (.tup xs)) f j.heap ⟨b,C,rfl,v,z3⟩
   cases K
   cases L with
   | nil=>exact c.elim
   | cons w wr=>
    cases wr with
    | cons _ _=>exact c.elim
    | nil=>
     obtain⟨u,rfl,J⟩:=N.one
     have c:Post Γ E G H ((M.R.of A (l.tup?.bind M.KJ)).bind λB h=>(M.R.of h w.str?).bind λt h=>(M.R.of h (M.Pi t B)).bind λn h=>if B.length<=M.LIM then M.okv (.int (n:Int)) h else .fail) _:=c
     obtain⟨B,y,c⟩:=c.of
     obtain⟨t,V,c⟩:=c.of
     obtain⟨n,P,c⟩:=c.of
     cases J.str V
     rw [ex,Ah5]at y
     cases J3 y R
     split at c
     ·exact⟨b,zdH t,n,B.map zdH,rfl,rfl,go.K▸StT.sq O,zae t P,(PostW.mk c Z s.heap).v r.heap rfl⟩
     ·exact c.elim
  ·exact g.elim
 | count=>
  refine PE.imp (jbu PySem.F.plainAttrs_list PySem.F.slot_list_count PySem.F.type_list_count xbD xbk ha hw (base_of hc _) (by rw [ja z];rfl) hl (ja z) rfl) λU H Q S=> ?_
  obtain⟨G,Y,h,s,p⟩:=S
  rw [M.eval]at p
  refine Ja s.heap Ext.refl s p λl v1 h1 G1 H1 D W j q f1 g=> ?_
  split at g
  ·rename_i T
   obtain⟨ys,ey⟩:=Ai6.mp (show (l.lst? h1).isSome=k9 from T)
   obtain⟨b,C,rfl,v,z3⟩:=RelW.lst j.heap q ey
   refine⟨⟨b,C,rfl,go.K▸v⟩,?_⟩
   refine XB s.heap D j g λL us A G2 H2 Z f r N c=> ?_
   cases L with
   | nil=>exact c.elim
   | cons w wr=>
    cases wr with
    | cons _ _=>exact c.elim
    | nil=>
     obtain⟨u,rfl,J⟩:=N.one
     have c:Post Γ E G H ((M.R.of A ((l.lst? A).bind M.GM)).bind λis h=>(M.R.of h w.int?).bind λi h=>if is.length<=M.LIM then M.okv (.int ((is.count i:Nat):Int)) h else .fail) _:=c
     obtain⟨is,y,c⟩:=c.of
     obtain⟨i,V,c⟩:=c.of
     obtain⟨ys2,P,q4⟩:=Af0.mp y
     obtain⟨b',I,K,y2,y3⟩:=RelW.lst r.heap (q.ext f j.heap) P
     cases K
     cases zp q4 y3
     cases J.int V
     split at c
     ·exact⟨b,i,is,rfl,rfl,go.K▸y2,(PostW.mk c Z s.heap).v r.heap rfl⟩
     ·exact c.elim
  ·exact g.elim
def xcK: "set" ∈bltN:=by decide
def zbl: "len" ∈bltN:=by decide
def xcd (is):xdJ is=M.Pg [] is:=by
 have go: ∀ n a rest,is=a++rest->a.length=n->(firstMet (λi=>is.getD i 0) n).length+M.Pg a rest=(firstMet (λi=>is.getD i 0) is.length).length:=by
  intro n a rest
  induction rest generalizing n a with
  | nil=>
   intro b c
   rw [Ae0]at b
   rw [M.Pg,Nat.add_zero,←c,b]
  | cons x l j=>
   intro b c
   have g:is.getD n 0=x:=by
    rw [Ac1,b,Af9 (by omega),c,Nat.sub_self]
    rfl
   have d:=j (n+1) (a++ [x]) (by rw [b,Af1];rfl) (by simp [c])
   rw [← d,M.Pg,firstMet_succ,g]
   have h:(Aa0 n).map (λi=>is.getD i 0)=a:=by
    refine Am8 (by simp [c]) λi k e=> ?_
    rw [Aj,Aj2,Ac1,b,Ag1 e,Aa4 e]
    rfl
   have f:=firstMet_any (λi=>is.getD i 0) n x
   rw [h]at f
   rw [PyProof.Rows.step_length,f]
   split<;>omega
 have:=go 0 [] is rfl rfl
 rw [show (firstMet (λi=>is.getD i 0) 0).length=0 from rfl,Ag8]at this
 exact this.symm
def Q8 (go:Go Γ F X E k cf)(q:zdB cf.sc "len" g=true) (i:zdB cf.sc "set" g2=true) (n:Qa x=true) (z:PE X x (tD Γ E (M.eval F a))):PE X (.Call g [.Call g2 [x] [] pos2] [] pos) (tD Γ E (M.eval F (.lenset a))):=by
 obtain⟨p,rfl,B,v⟩:=Qb q
 obtain⟨u,rfl,j,f⟩:=Qb i
 have d:=WD (p:=u) (pos:=pos2) qaO (go.gl _ j) (go.blt _ xcK) (by decide +kernel) (Jc z Jh (ja n)) (xp xcK) f (ja n) rfl
 refine PE.imp (Xh jar (go.gl _ B) (go.blt _ zbl) (by decide +kernel) (Jc d Jh rfl) (xp zbl) v rfl rfl) λU H Q y=> ?_
 obtain⟨G,Y,h,s,p⟩:=y
 rw [M.eval]at p
 refine Ja s.heap Ext.refl s p λT P V J L t I A o O e=> ?_
 obtain⟨is,r,e⟩:=e.of
 obtain⟨R,C,w⟩:=Af0.mp r
 obtain⟨l,N,rfl,K,D⟩:=o.tup C
 cases zp w D
 split at e
 ·rename_i c
  refine⟨l,is,rfl,go.calm,c,go.K▸K.sq,λb S m=>⟨b,S,xdJ is,rfl,xb,?_,?_⟩⟩
  ·exact Ao6 (firstMet_length_le _ _) c
  ·rw [xcd]
   exact e J _ (t.trans s.heap (jv _ m)) (A.heap.new _ m) (.int _) rfl trivial
 ·exact e.elim
def zca (go:Go Γ F X E k cf)(e:t≠ .non) (o:zdB cf.sc "isinstance" g=true) (w:zdB cf.sc (xdT t) y=true) (j:Qa x=true) (D:PE X x (tD Γ E (M.eval F a))):PE X (.Call g [x,y] [] pos) (tD Γ E (M.eval F (.isT a t))):=by
 obtain⟨p,rfl,I,z⟩:=Qb o
 obtain⟨q,rfl,A,K⟩:=Qb w
 have d:xdT t∈bltN:=by cases t<;>first | exact absurd rfl e | decide
 have L:bootBuiltins (zg (xdT t))=y0 (.type (xdT t)):=by cases t<;>first | exact absurd rfl e | decide +kernel
 have bi:bootBuiltins (zg "isinstance")=some (.builtin "isinstance"):=boot_isinstance
 have b: "isinstance" ∈bltN:=by decide
 have f:PE X (.Name (zg (xdT t)) q) (tC (.ty (xdT t))):=xb5 (go.gl _ A) (go.blt _ d) L rfl (xp d) K
 refine PE.imp (Xh (jbf go.K) (go.gl _ I) (go.blt _ b) bi (Jc D (Jc f Jh) (ja j)) (xp b) z (ja j) rfl) λU H Q B=> ?_
 obtain⟨G,Y,h,s,p⟩:=B
 rw [M.eval]at p
 refine Ja s.heap Ext.refl s p λC m J O P r N l n R i=> ?_
 obtain⟨c,u,i⟩:=i.of
 exact⟨O,J,C,m,t,c,rfl,e,l.heap,n,u,Post.val i r l.heap (v:= .bl c) rfl trivial⟩
theorem RelDs.atI (z:RelDs Γ G H ds vs) (e:M.atI ds i=y0 d): ∃v,L2.atI vs i=y0 v/\RelD Γ G H d v:=by
 unfold M.atI at e
 unfold L2.atI
 rw [z.length]at e
 cases q:M.ixN vs.length i with
 | none=>rw [q]at e;cases e
 | some j=>
  rw [q]at e
  obtain⟨v,b,a⟩:=z.get (e)
  refine⟨v,?_,a⟩
  have c:L2.ixN vs.length i=y0 j:=q
  rw [c]
  exact b
def ja2 (a:Je y=k9):zal y:=by
 intro o i
 cases y<;>first | rfl | (simp [Je]at a)
def zcf (go:Go Γ F X E k cf) (A:Je y=k9) (I:PE X x (tD Γ E (M.eval F a))) (w:PE X y (tD Γ E (M.eval F b))):PE X (.Subscript x y pos) (tD Γ E (M.eval F (.ix a b))):=by
 refine PE.imp (qcY xcC I w (ja2 A)) λU H Q C=> ?_
 obtain⟨G,Y,h,s,p⟩:=C
 rw [M.eval]at p
 refine Ja s.heap Ext.refl s p λD T h1 G1 R u N t f S P=> ?_
 refine Ja s.heap u t P λw2 W K G2 Z O g o B V j=> ?_
 obtain⟨d,q,j⟩:=j.of
 have f:=f.ext g t.heap
 unfold M.ixD at q
 split at q
 ·rename_i i J
  cases B.int J
  ·cases m:D.seq? K with
   | none=>rw [m]at q;cases q
   | some z=>
    rw [m]at q
    obtain⟨l,n,rfl,c,L⟩:=f.seq o.heap m
    obtain⟨v,e,rd⟩:=L.atI (show M.atI z i=y0 d from q)
    have r:=Post.val j O o.heap rd trivial
    rcases c with c | c
    ·exact .inl ⟨l,n,i,v,rfl,rfl,go.K▸c,e,r⟩
    ·exact .inr (.inl ⟨l,n,i,v,rfl,rfl,go.K▸c,e,r⟩)
 ·cases q
end
section
variable {Γ:Ge}{F:M.Fx}{X:Cx}{E:XK}{k:Nat}{cf:Cf}{a b c:M.E}{x y z:Expr}{pos p2:Pos}
def xbs (xs:List α) (lo hi):M.cut xs lo hi=(xs.drop (HT.sIx xs.length 0 lo)).take (HT.sIx xs.length xs.length hi-HT.sIx xs.length 0 lo):=by
 unfold M.cut
 have e: ∀d o,M.sIx xs.length d o=HT.sIx xs.length d o:=λd o=>by cases o<;>rfl
 rw [e,e]
theorem RelDs.cut (z:RelDs Γ G H ds vs) (lo hi):RelDs Γ G H (M.cut ds lo hi) (jcq vs lo hi):=by
 rw [xbs]
 rw [z.length]
 exact(z.drop _).take _
def qbY {m G:Gh}{j H:Hp}{u h:M.AH}{Y:M.Sl}{U:St}{Q:VK}{w:M.W}{v:V}{d f:Option Int}(s:HRel Γ m u j) (e:Ext m j G H) (k:HRel Γ G h H) (r:RelW Γ G H w v)
 (p:Post Γ E m j (M.slD w d f h) λw _ G' H'=> ∀v,RelW Γ G' H' w v->FreshW Y U j w v->Q v H'):(xcQ Γ.K v d f H Q\/jc4 Γ.K v d f H Q)\/zcS Γ.K v d f H Q:=by
 unfold M.slD at p
 ·split at p
  ·rename_i n q
   obtain⟨l,b,rfl,i,g⟩:=r.tup q
   by_cases c:HT.sIx b.length 0 d=0/\HT.sIx b.length b.length f=b.length
   ·have t:M.cut n d f=n:=by
     rw [xbs,g.length,c.1,c.2,List.drop_zero,Nat.sub_zero,←g.length,Ap2]
    rw [t]at p
    exact .inr ⟨l,b,rfl,i.sq,c.1,c.2,p G H e k _ ⟨l,b,rfl,i,g⟩ trivial⟩
   ·exact .inl (.inr ⟨l,b,rfl,i.sq,c,λa o=>PostW.tup (PostW.mk p e s) k (g.cut d f) a o⟩)
  ·split at p
   ·rename_i n q
    obtain⟨l,b,rfl,i,g⟩:=r.lst k q
    exact .inl <| .inl ⟨l,b,rfl,i,λa o=>PostW.own (PostW.mk p e s) k (g.cut d f) a o⟩
   ·exact p.elim
noncomputable def qdF (K:Aa6):V->Option Int->Option Int->Hp->VK->Prop:=λx lo hi H Q=>(xcQ K x lo hi H Q\/jc4 K x lo hi H Q)\/zcS K x lo hi H Q
def xae:SlR X (qdF X.K):=(sl_list.or jcu).or xcH
def xcm (go:Go Γ F X E k cf){e g:M.E}(A:PE X x (tD Γ E (M.eval F a))) (B:PE X l (tD Γ E (M.eval F e))) (r:PE X u (tD Γ E (M.eval F g))):PE X (.Subscript x (.Slice (y0 l) (y0 u) u0 p2) pos) (tD Γ E (M.eval F (.sl a e g))):=by
 refine PE.imp (ZM xae A (jL B) (jL r)) λU H Q y=> ?_
 obtain⟨G,Y,h,s,p⟩:=y
 refine Ja s.heap Ext.refl s p λZ O h1 G1 K o C m n N J=> ?_
 refine Ja s.heap o m J λw2 T h2 G2 H2 D b f w S p2=> ?_
 obtain⟨i,q,p2⟩:=p2.of
 refine⟨i,w.int q,?_⟩
 refine Ja s.heap D f p2 λP L V W R I c t z f3 d=> ?_
 obtain⟨j,v,d⟩:=d.of
 exact⟨j,z.int v,go.K▸qbY s.heap I t.heap ((n.ext b m.heap).ext c f.heap) d⟩
def zbI (go:Go Γ F X E k cf){c:M.E}(o:PE X x (tD Γ E (M.eval F a))) (q:PE X l (tD Γ E (M.eval F c))):PE X (.Subscript x (.Slice (y0 l) u0 u0 p2) pos) (tD Γ E (M.eval F (.slL a c))):=by
 refine PE.imp (ZM xae o (jL q) xau) λU H Q n=> ?_
 obtain⟨G,Y,h,s,p⟩:=n
 refine Ja s.heap Ext.refl s p λB y I L v g r d e w u=> ?_
 refine Ja s.heap g d u λK A D J C t b f m z p2=> ?_
 obtain⟨i,j,p2⟩:=p2.of
 exact⟨i,m.int j,go.K▸qbY s.heap t f.heap (e.ext b d.heap) p2⟩
def qca (go:Go Γ F X E k cf)(n:PE X x (tD Γ E (M.eval F a))) (j:PE X u (tD Γ E (M.eval F hi))):PE X (.Subscript x (.Slice u0 (y0 u) u0 p2) pos) (tD Γ E (M.eval F (.slH a hi))):=by
 refine PE.imp (ZM xae n xau (jL j)) λU H Q m=> ?_
 obtain⟨G,Y,h,s,p⟩:=m
 refine Ja s.heap Ext.refl s p λA w D K t f o c d v r=> ?_
 refine Ja s.heap f c r λJ z C I B q b e l y p2=> ?_
 obtain⟨i,g,p2⟩:=p2.of
 exact⟨i,l.int g,go.K▸qbY s.heap q e.heap (d.ext b c.heap) p2⟩
def Gh.cell (G:Gh) (a:Addr):Gh:= { G with rho:=λr=>if r=G.n then a else G.rho r,n:=G.n+1 }
def W0 (a):Mon G H (G.cell a) H:=⟨λ_ _ _ z=>z,Ah6 _,λr b=>by show(if r=G.n then a else G.rho r)=_;rw [if_neg (by omega)],λ_ z=>z⟩
def ZI {a:Addr}{c:M.Cell}(d:HRel Γ G h H) (m: ¬G.fz a) (l:zdW G a) (z:CellRel Γ G H a c):HRel Γ (G.cell a) (h++ [c]) H where
 len:=by rw [Aa8,d.len];rfl
 any:=λr g q=>by
  show ¬G.fz (if r=G.n then a else G.rho r)/\CellRel Γ (G.cell a) H (if r=G.n then a else G.rho r) g
  by_cases hn:r=G.n
  ·rw [if_pos hn]
   rw [hn,←d.len,Af9 (Aa5 _),Nat.sub_self]at q
   cases q
   exact⟨m,z.mon (W0 a) λ_ e=>e⟩
  ·rw [if_neg hn]
   have i:r<G.n:=by
    have:=(Ac2.mp q).1
    rw [Aa8,d.len]at this
    simp at this
    omega
   rw [Ag1 (by rw [d.len];exact i)]at q
   exact⟨(d.any r g q).1,(d.any r g q).2.mon (W0 a) λ_ e=>e⟩
 inj:=λr s k j e=>by
  have k:r<G.n+1:=k
  have j:s<G.n+1:=j
  have e:(if r=G.n then a else G.rho r)=(if s=G.n then a else G.rho s):=e
  by_cases f:r=G.n
  ·by_cases b:s=G.n
   ·omega
   ·rw [if_pos f,if_neg b]at e
    exact absurd e.symm (l s (by omega))
  ·by_cases b:s=G.n
   ·rw [if_neg f,if_pos b]at e
    exact absurd e (l r (by omega))
   ·rw [if_neg f,if_neg b]at e
    exact d.inj r s (by omega) (by omega) e
 live:=d.live
def ZO {a:Addr}(c:HRel Γ G h H) (d: ¬G.fz a) (b:zdW G a) (e:H a=y0 (.lst vs)) (z:RelDs Γ G H xs vs) (f:M.Gf xs=k9):HRel Γ (G.cell a) (h++ [.lst xs]) H:=ZI c d b ⟨f,vs,e,z⟩
def qa1 {a:Addr}(c:HRel Γ G h H) (d: ¬G.fz a) (b:zdW G a) (e:H a=y0 (DW a [])):HRel Γ (G.cell a) (h++ [.dic []]) H:=ZI c d b ⟨[],e,rfl,λx f=>absurd f Ac0⟩
def xy {a:Addr}(e:Ext G0 H0 G H) (f:H0 a=u0):Ext G0 H0 (G.cell a) H where
 keep:=e.keep
 le:=Ac e.le (Ah6 _)
 rho:=λr d=>by show(if r=G.n then a else G.rho r)=_;rw [if_neg (by have:=e.le;omega)];exact e.rho r d
 new:=λr c b=>by
  have b:r<G.n+1:=b
  show H0 (if r=G.n then a else G.rho r)=u0
  by_cases hn:r=G.n
  ·rw [if_pos hn];exact f
  ·rw [if_neg hn];exact e.new r c (by omega)
 fz:=e.fz
 old:=e.old
 cells:=e.cells
def ja3:PE X (.Dict [] [] pos) (tD Γ E (M.eval F .dnew)):=by
 refine PE.imp jbi λU H Q d=> ?_
 obtain⟨G,Y,h,s,p⟩:=d
 intro a b
 have p:=p
 have e:Ext G H G (jd7 H a (DW a [])):=jv _ b
 have c:=s.heap.new (DW a []) b
 refine Post.val p (xy e b) (qa1 c (λz=>by obtain⟨o,q⟩:=s.heap.live a z;rw [b]at q;cases q) (s.heap.offN b) xb) ?_ trivial
 show h.length<G.n+1/\V.ref a= .ref (if h.length=G.n then a else G.rho h.length)
 rw [s.heap.len,if_pos rfl]
 exact⟨Ag7 _,rfl⟩
def zaF:PE X (.Dict [] [] pos) (tD Γ E (M.eval F .dnewI)):=by
 refine PE.imp zaU λU H Q d=> ?_
 obtain⟨G,Y,h,s,p⟩:=d
 intro a b
 have p:=p
 have e:Ext G H G (jd7 H a (dI [])):=jv _ b
 have c:=s.heap.new (dI []) b
 refine Post.val p (xy e b) (ZI c (λz=>by obtain⟨o,q⟩:=s.heap.live a z;rw [b]at q;cases q) (s.heap.offN b) xb) ?_ trivial
 show h.length<G.n+1/\V.ref a= .ref (if h.length=G.n then a else G.rho h.length)
 rw [s.heap.len,if_pos rfl]
 exact⟨Ag7 _,rfl⟩
theorem JD: ∀ {ds}{is},M.GM ds=y0 is->ds=is.map .int
 | [],_,rfl=>rfl
 | .int i::r,is,e=>by
  rw [M.GM]at e
  cases q:M.GM r with
  | none=>rw [q]at e;cases e
  | some a=>rw [q]at e;cases e;rw [JD q];rfl
 | .non::_,_,e=>by cases e
 | .bl _::_,_,e=>by cases e
 | .str _::_,_,e=>by cases e
 | .tup _::_,_,e=>by cases e
 | .lst _::_,_,e=>by cases e
 | .ref _::_,_,e=>by cases e
 | .exc _ _::_,_,e=>by cases e
 | .err _ _ _::_,_,e=>by cases e
def ZU {k:M.WK}(e:M.wkD d=y0 k):d=xd6 k:=by
 unfold M.wkD at e
 split at e
 ·split at e
  ·rename_i a b f c
   cases e
   rw [JD f,JD c];rfl
  ·cases e
 ·cases e
theorem xw : ∀ {is}{a},RVs hp (is.map .int) a->ItemsAre (intKind P w) is a
 | [],_,rfl=> .nil
 | i::is,_,⟨u,r,rfl,⟨t,e⟩,z⟩=>by subst e;exact .cons (by simp [intKind,Value.isInt]) (xw z)
def qaR {P:Program}{w:World}{d:Heap}{k:M.WK}{u:Value}(z:RV d (xd6 k) u): ∃b,u= .ref b/\IsKey2 P w d (xd0 k) b:=by
 obtain⟨a,q,rfl,⟨o,B,A,n,D⟩,I,E,rfl,⟨t,rfl⟩,J,G,rfl,x,F,K,rfl,g,rfl⟩:=z
 obtain⟨H,e,rfl,⟨C,i,y,s,m⟩,l⟩:=x
 obtain⟨a2,c,rfl,⟨r,f,j,p,v⟩,h⟩:=g
 exact⟨a,rfl,o,_,n,B,A,D,.int (.tup ⟨C,_,s,i,y,m,by simpa using xw l⟩ (.tup ⟨r,_,p,f,j,v,by simpa using xw h⟩ .nil))⟩
theorem jV: ∀l:List Int,M.Gf (l.map M.D.int)=k9
 | []=>rfl
 | _::l=>jV l
def qan (k:M.WK):M.Gc (xd6 k)=true:=by
 show(k9&&(M.Gf (k.2.1.map M.D.int)&&(M.Gf (k.2.2.map M.D.int)&&k9)))=k9
 rw [jV,jV];rfl
def qN {xs:List (M.WK×Addr×Value)}{k:M.WK}:(atKey xs k).isSome=(xs.map (·.1)).contains k:=by
 unfold atKey
 rw [Ao2,List.isSome_find?,Ad4,Af,Ae8,Ab9]
 exact⟨λ⟨x,b,a⟩=>⟨x,b,of_decide_eq_true a⟩,λ⟨x,b,a⟩=>⟨x,b,decide_eq_true a⟩⟩
def zq (e:M.KT h o=y0 (r,ks)):o=y0 (.v (.ref r))/\h[r]? =y0 (.dic ks):=by
 unfold M.KT at e
 split at e
 ·split at e
  ·rename_i q
   cases e
   exact⟨rfl,q⟩
  ·cases e
 ·cases e
def wu (s:StRel Γ G Y h U H)(e:M.KT h (M.Gj Y i)=y0 (r,ks)):U[i]? =y0 (y0 (.ref (G.rho r))):=by
 obtain⟨b,g⟩:=zq e
 obtain⟨v,c,d⟩:=s.slot i _ b
 obtain⟨f,a⟩:=(d)
 subst a
 exact c
def XV {a:List (Addr×Obj)}{U:St}{H:Hp}{st:Shared}{G:Gh}{xs:List (M.WK×Addr×Value)}(I:Inv X a U H st) (c:X.K=Γ.K) (f: ∀x∈xs,RelD Γ G H (xd6 x.1) (.ref x.2.1)): ∀x∈xs,IsKey2 X.prog X.w st.heap (xd0 x.1) x.2.1:=λx d=>by
 obtain⟨b,e,z⟩:=qaR (P:=X.prog) (w:=X.w) (RelD.rv0 I c (f x d) (show RelV (.ref x.2.1) (.ref x.2.1)from rfl) (qan x.1))
 cases e
 exact z
def jY (e:M.K4 h o=y0 (r,ks)):o=y0 (.v (.ref r))/\h[r]? =y0 (.dii ks):=by
 unfold M.K4 at e
 split at e
 ·split at e
  ·rename_i q
   cases e
   exact⟨rfl,q⟩
  ·cases e
 ·cases e
def Qq (s:StRel Γ G Y h U H)(e:M.K4 h (M.Gj Y i)=y0 (r,ks)):U[i]? =y0 (y0 (.ref (G.rho r)))/\H (G.rho r)=y0 (dI ks):=by
 obtain⟨b,c⟩:=jY e
 obtain⟨v,d,f⟩:=s.slot i _ b
 obtain⟨g,a⟩:=(f)
 subst a
 exact⟨d,(s.heap.any r _ c).2⟩
noncomputable def jdn (neg:Bool):R2:=λx y H Q=> ∃k a ks,x= .int k/\y= .ref a/\H a=y0 (dI ks)/\Q (.bl (if neg then !ks.contains k else ks.contains k)) H
def qbs (neg):qd4 X (compareOp (xdG neg)) (jdn neg):=by
 intro d i U H x y v u Q I c h ⟨k,a,j,ex,g,e,q⟩
 subst ex g
 cases h
 cases neg with
 | false=>exact zcY I e c λf b=>⟨.bl _,H,b,rfl,q⟩
 | true=>exact jaX I e c λf b=>⟨.bl _,H,b,rfl,q⟩
noncomputable def jc5:V->V->V->Hp->(Hp->Prop)->Prop:=λo i v H Q=> ∃k a ks,i= .int k/\o= .ref a/\v= .bl k9/\H a=y0 (dI ks)/\ks.length<sizeLine/\Q (jd7 H a (dI (M.KU ks k)))
def qbg:qcP X jc5:=by
 intro b m U H o i v n s u Q I g c rv ⟨k,a,p,f,d,h,e,j,q⟩
 subst f d h
 cases g
 cases rv
 exact zcs I e c j λr l=>⟨_,l,q⟩
noncomputable def jdi (a:Ge) (neg:Bool):R2:=λx y H Q=> ∃G h k r ks,HRel a G h H/\RelD a G H (xd6 k) x/\y= .ref (G.rho r)/\h[r]? =y0 (.dic ks)/\Q (.bl (if neg then !ks.contains k else ks.contains k)) H
def qbB (j:X.K=Γ.K) (d:X.A.units+2<cLine) (neg:Bool):qd4 X (compareOp (xdG neg)) (jdi Γ neg):=by
 intro i C U H x y v u Q I o A ⟨G,h,k,r,e,z,rd,t,s,q⟩
 subst t
 cases A
 obtain⟨b,rfl,c⟩:=qaR (P:=X.prog) (w:=X.w) (RelD.rv0 I j rd o (qan k))
 obtain⟨_,m,g,B,n⟩:=z.dic r e s
 have l:=XV I j n
 have f:(atKey m k).isSome=e.contains k:=by rw [qN,B]
 cases neg with
 | false=>exact qc4 d I g l c λp a=>⟨.bl _,H,a,rfl,by rw [f];exact q⟩
 | true=>exact xa2 d I g l c λp a=>⟨.bl _,H,a,rfl,by rw [f];exact q⟩
noncomputable def jcR (b:Ge):List V->Hp->VK->Prop:=λa H Q=> ∃G h r ks,HRel b G h H/\a= [.ref (G.rho r)]/\h[r]? =y0 (.dic ks)/\Q (.int (ks.length:Int)) H
def zaz (j:X.K=Γ.K):Jm X (.builtin "len") (jcR Γ):=by
 intro b p U H o s Q I rv ⟨G,h,r,a,i,k,g,q⟩
 subst k
 cases rv with
 | cons d m=>
  cases m
  cases d
  obtain⟨_,c,f,l,e⟩:=i.dic r a g
  refine xcg I f (XV I j e) λt u n=>⟨.int _,H,n,⟨t,rfl⟩,?_⟩
  have:c.length=a.length:=by rw [← l,Aa]
  rw [this];exact q
noncomputable def zc3 (a:Ge):V->V->V->Hp->(Hp->Prop)->Prop:=λo i v H Q=> ∃G h k r ks,HRel a G h H/\RelD a G H (xd6 k) i/\o= .ref (G.rho r)/\h[r]? =y0 (.dic ks)/\ks.length<sizeLine ∧
 ∀xs:List (M.WK×Addr×Value),xs.map (·.1)=M.KI ks k->(∀ x∈xs,RelD a G H (xd6 x.1) (.ref x.2.1))->Q (jd7 H (G.rho r) (DW (G.rho r) xs))
def jaT (n:X.K=Γ.K) (s:X.A.units+2<cLine):qcP X (zc3 Γ):=by
 intro m K U H o i v L R u Q I D j rv ⟨G,h,k,r,g,C,rd,z,B,O,q⟩
 subst z
 cases D
 obtain⟨b,rfl,E⟩:=qaR (P:=X.prog) (w:=X.w) (RelD.rv0 I n rd j (qan k))
 obtain⟨_,p,A,e,f⟩:=C.dic r g B
 have t:i= .ref b:=by
  obtain⟨a,J,rfl,_,_⟩:=rd
  cases j
  rfl
 subst t
 refine jcK s I A (XV I n f) E (by have:p.length=g.length:=(by rw [← e,Aa]);omega) λN F=>⟨_,F,q _ ?_ ?_⟩
 ·unfold storedH M.KI
  rw [qN,e]
  by_cases c:g.contains k=k9
  ·rw [if_pos c,if_pos c,keys_map_putAt,e]
  ·rw [if_neg c,if_neg c,Ac6,e];rfl
 ·intro x d
  unfold storedH at d
  split at d
  ·obtain⟨y,l,rfl⟩:=Ab9.mp d
   unfold putAt
   split
   ·exact f y l
   ·exact f y l
  ·rcases Ae1.mp d with d | d
   ·exact f x d
   ·rw [Ad9.mp d];exact rd
def qad (r:PE X x (tD Γ E (M.eval F a))):PE X x (tD Γ E (M.eval F (.share a))):=by
 refine PE.imp r λU H Q o=> ?_
 obtain⟨G,Y,h,s,p⟩:=o
 refine Ja s.heap Ext.refl s p λq D c g B m z i k j b=> ?_
 cases q with
 | own e=>
  obtain⟨l,C,rfl,A,u,t,n⟩:=k
  obtain⟨I,y,w⟩:=j
  cases y
  have b:Post Γ E G H (if M.Gf e=k9 then M.okv (.ref c.length) (c++ [.lst e])else .fail) _:=b
  by_cases f:M.Gf e=k9
  rotate_left
  ·rw [if_neg f]at b;exact b.elim
  rw [if_pos f]at b
  refine Post.val b (xy m w) (ZO i.heap A u t n f) ?_ trivial
  show c.length<g.n+1/\V.ref l= .ref (if c.length=g.n then l else g.rho c.length)
  rw [i.heap.len,if_pos rfl]
  exact⟨Ag7 _,rfl⟩
 | v d=>exact b.elim
 | bor e=>exact b.elim
end
structure Wm (Γ:Ge) (J:It) (ds:List M.D) (C:Gh->Hp->Prop):Prop where
 go: ∀i G H,C G H->i<ds.length->J.go i H
 yld: ∀i G H x H',C G H->i<ds.length->J.yld i H x H'-> ∃G',Ext G H G' H'/\(∀ h,HRel Γ G h H->HRel Γ G' h H')/\ ∃d,ds[i]? =y0 d/\RelD Γ G' H' d x
 stop: ∀i G H,C G H->ds.length<=i->i<=ds.length->J.stop i H
 keep: ∀G H G' H' h,C G H->Ext G H G' H'->HRel Γ G h H->C G' H'
noncomputable def qh (Y:M.Sl) (U:St) (H:Hp):Hp:=λa=>open Classical in if ∃(i:Nat) (xs:List M.D),M.Gj Y i=y0 (.own xs)/\U[i]? =y0 (y0 (.ref a))then u0 else H a
noncomputable def jdO (a:Ge) (E:XK) (b:Bool) (m:M.Sl->M.AH->M.R (List M.D)):TI:=λU H R=> ∃G Y h,StRel a G Y h U H/\Post a E G H (m Y h) λds _ G' H'=> ∀J C,Wm a J ds C->C G' H'->(b=k9->C G' (qh Y U H'))->R J H'
def PI.imp (h:PI X tg e t) (k: ∀U H R,t' U H R->t U H R):PI X tg e t':=λa s U H R I q=>h a s U H R I (k _ _ _ q)
section
variable {Γ:Ge}{F:M.Fx}{X:Cx}{E:XK}{k:Nat}{cf:Cf}{a b c:M.E}{x y z tg:Expr}{pos p2:Pos}{lp:Bool}
def LOk (b:Ge) (G:Gh) (H:Hp) (l:Addr) (a:List V):Prop:=(Rd H l (.lst a)/\zdW G l)\/qdh b l a
def CL (b:Ge) (c:List M.D) (l:Addr) (a:List V) (G:Gh) (H:Hp):Prop:=LOk b G H l a/\RelDs b G H c a
def LOk.sq (z:LOk Γ G H l vs):SqL Γ.K H l vs:=z.elim (λz=> .inl z.1) .inr
def StL.lok (z:StL Γ G H l vs) (a:HRel Γ G h H):LOk Γ G H l vs:=z.elim (λz=> .inl ⟨z.2,a.off z.1⟩) .inr
def CL.keep (z:CL Γ ds l vs G H) (e:Ext G H G' H') (c:HRel Γ G h H):CL Γ ds l vs G' H':=by
 obtain⟨a,d⟩:=z
 refine⟨?_,d.ext e c⟩
 rcases a with⟨a,b⟩ | a
 ·refine .inl ⟨e.rd a b,?_⟩
  rcases a with a | ⟨o,a⟩
  ·exact e.off a b
  ·exact e.off a b
 ·exact .inr a
def CL.walk {K:Aa6}(d:K=Γ.K):Wm Γ (qdU K l) ds (CL Γ ds l vs) where
 go:=by
  rintro i G H ⟨b,c⟩ a
  obtain⟨v,e,_⟩:=c.get (Aa4 a)
  exact⟨vs,v,d▸b.sq,e⟩
 yld:=by
  rintro i G H x f ⟨b,c⟩ a ⟨e,y⟩
  subst e
  obtain⟨v,e,rd⟩:=c.get (Aa4 a)
  have:=y vs (d▸b.sq)
  rw [e]at this
  cases this
  exact⟨G,Ext.refl,λ_ q=>q,_,Aa4 a,rd⟩
 stop:=λi G H ⟨b,c⟩ a _=>⟨vs,d▸b.sq,by rw [← c.length];exact a⟩
 keep:=λG H j f h z e g=>z.keep e g
def CT (b:Ge) (c:List M.D) (l:Addr) (a:List V) (G:Gh) (H:Hp):Prop:=StT b G H l a/\RelDs b G H c a
def StT.mon (z:StT Γ G H l vs) (e:Mon G H G' H'):StT Γ G' H' l vs:=z.elim (λz=> .inl ⟨e.fz l z.1,e.keep l _ z.1 z.2⟩) λz=> .inr z
def CT.walk {K:Aa6}(d:K=Γ.K):Wm Γ (qdy K l) ds (CT Γ ds l vs) where
 go:=by
  rintro i G H ⟨b,c⟩ a
  obtain⟨v,e,_⟩:=c.get (Aa4 a)
  exact⟨vs,v,d▸b.sq,e⟩
 yld:=by
  rintro i G H x g ⟨b,c⟩ a ⟨e,y⟩
  subst e
  obtain⟨v,e,rd⟩:=c.get (Aa4 a)
  have:=y vs (d▸b.sq)
  rw [e]at this
  cases this
  exact⟨G,Ext.refl,λ_ q=>q,_,Aa4 a,rd⟩
 stop:=λi G H ⟨b,c⟩ a _=>⟨vs,d▸b.sq,by rw [← c.length];exact a⟩
 keep:=λG H j g h z e f=>⟨z.1.mon (e.mon f),z.2.ext e f⟩
def CL.walkR {K:Aa6}(d:K=Γ.K):Wm Γ (jdX K l vs.length) ds.reverse (CL Γ ds l vs) where
 go:=λi G H ⟨c,b⟩ a=>⟨vs,d▸c.sq,rfl,by rw [← b.length];simpa using a⟩
 yld:=by
  rintro i G H x f ⟨c,b⟩ a ⟨e,y⟩
  subst e
  obtain⟨v,e,rd⟩:=b.reverse.get (Aa4 a)
  have:=y vs (d▸c.sq)
  have k:i<vs.length:=by rw [← b.length];simpa using a
  rw [List.getElem?_reverse k,this]at e
  cases e
  exact⟨G,Ext.refl,λ_ q=>q,_,Aa4 a,rd⟩
 stop:=by
  rintro i G H ⟨c,b⟩ a g
  have m:=b.length
  rw [List.length_reverse]at a g
  show i=vs.length
  omega
 keep:=λG H n f h z e j=>z.keep e j
def QH {b:Int}:Wm Γ (qdM b n) ((Aa0 n).map λ(i:Nat)=>M.D.int (b+(i:Int))) (λ_ _=>True) where
 go:=λi G H _ a=>show i<n by simpa using a
 yld:=λi G H x d _ a c=>by
  obtain⟨e,y⟩:=c
  subst e y
  have a:=by simpa using a
  exact⟨G,Ext.refl,λ_ q=>q,.int (b+i),by simp [a],rfl⟩
 stop:=λi G H _ a _=>show n<=i by simpa using a
 keep:=λ_ _ _ _ _ _ _ _=>trivial
def qB {z:M.Tx}:Wm Γ (qdQ (zdH z)) (M.chs z) (λ_ _=>True) where
 go:=λi G H _ a=>by
  have a:=by simpa [M.chs]using a
  exact⟨z[i],by simp [zdH,a]⟩
 yld:=λi G H x g _ a d=>by
  obtain⟨e,c,b,f⟩:=d
  subst e f
  have a:=by simpa [M.chs]using a
  have b:=by simpa [zdH]using b
  exact⟨G,Ext.refl,λ_ q=>q,.str [c],by simp [M.chs,b],rfl⟩
 stop:=λi G H _ a _=>by
  have a:=by simpa [M.chs]using a
  show(zdH z).cps[i]? =u0
  simp [zdH,a]
 keep:=λ_ _ _ _ _ _ _ _=>trivial
def zj (a: ¬ ∃ i xs,M.Gj Y i=y0 (.own xs)/\U[i]? =y0 (y0 (.ref l))):qh Y U H l=H l:=by
 unfold qh
 rw [if_neg a]
def jo (s:StRel Γ G Y h U H)(e:M.Gj Y i=y0 (.own xs)) (k:U[i]? =y0 (y0 (.ref l))): ¬G.fz l/\zdW G l/\ ∃b,H l=y0 (.lst b)/\RelDs Γ G H xs b:=by
 obtain⟨v,c,a,b,m,j,f,g,d⟩:=s.slot i _ e
 rw [k]at c
 cases c
 cases m
 exact⟨j,f,b,g,d⟩
def xu (s:StRel Γ G Y h U H):Mon G H G (qh Y U H):=by
 refine⟨λa o z e=> ?_,Aa5 _,λ_ _=>rfl,λ_ z=>z⟩
 rw [zj λ⟨i,d,c,b⟩=>(jo s c b).1 z]
 exact e
def xaU (go:Go Γ F X E k cf) (I:PE X x (tD Γ E (M.eval F a))):PI X tg x (jdO Γ E y9 (M.Gm F (.seq a))):=by
 refine PI.imp (qaw I) λU H R B=> ?_
 obtain⟨G,Y,h,s,p⟩:=B
 refine Ja s.heap Ext.refl s p λD m K q e u L r n N c=> ?_
 have lst: ∀ {f},Post Γ E G H (.ok f K) (λf x A w=> ∀J C,Wm Γ J f C->C A w->(y9=k9->C A (qh Y U w))->R J w)->(∃ l b,m= .ref l/\LOk Γ q e l b/\RelDs Γ q e f b) →
  (∃ a,m= .ref a/\(∃ t,SqL X.K e a t)/\R (qdU X.K a) e)\/(∃ a,m= .ref a/\(∃ t,qdS X.K e a t)/\R (qdy X.K a) e)\/ ∃z,m= .str z/\R (qdQ z) e:=λ{f} p ⟨l,b,g,j,o⟩=>
  .inl ⟨l,g,⟨b,go.K▸j.sq⟩,p q e u r.heap _ _ (CL.walk go.K) ⟨j,o⟩ λz=>absurd z Ab6⟩
 cases D with
 | v d=>
  cases d with
  | tup f=>
   obtain⟨l,b,rfl,j,i⟩:=n
   exact .inr (.inl ⟨l,rfl,⟨b,go.K▸j.sq⟩,c q e u r.heap _ _ (CT.walk go.K) ⟨j,i⟩ λz=>absurd z Ab6⟩)
  | lst f=>obtain⟨l,b,g,j,i⟩:=n;exact lst c ⟨l,b,g,j.lok r.heap,i⟩
  | non=>exact c.elim
  | bl _=>exact c.elim
  | int _=>exact c.elim
  | str z=>
   cases (show m= .str (zdH z)from n)
   exact .inr (.inr ⟨_,rfl,c q e u r.heap _ _ qB trivial λz=>absurd z Ab6⟩)
  | ref _=>exact c.elim
  | exc _ _=>exact c.elim
  | err _ _ _=>exact c.elim
 | own f=>obtain⟨l,b,g,_,i,o,y⟩:=n;exact lst c ⟨l,b,g,.inl ⟨.inl o,i⟩,y⟩
 | bor f=>obtain⟨l,b,g,i,o,y⟩:=n;exact lst c ⟨l,b,g,.inl ⟨o,i⟩,y⟩
def jaY (n:Int):((Aa0 n.toNat).map λ(i:Nat)=>M.D.int (i:Int))=(Aa0 n.toNat).map λ(i:Nat)=>M.D.int (0+(i:Int)):=by
 congr 1;funext i;rw [Int.zero_add]
def jau: "range" ∈bltN:=by decide
def jC (go:Go Γ F X E k cf)(i:zdB cf.sc "range" g=true) (d:Qa x=true) (m:PE X x (tD Γ E (M.eval F a))):PI X tg (.Call g [x] [] pos) (jdO Γ E lp (M.Gm F (.range1 a))):=by
 obtain⟨p,rfl,r,y⟩:=Qb i
 refine PI.imp (qaJ (go.gl _ r) (go.blt _ jau) (Jc m Jh (ja d)) (ja d)) λU H R l=> ?_
 obtain⟨G,Y,h,s,p⟩:=l
 refine Ja s.heap Ext.refl s p λz w A u e j t o f v b=> ?_
 obtain⟨n,q,b⟩:=b.of
 split at b
 ·rename_i c
  rw [M.Pc]at c
  cases f.int q
  rw [jaY]at b
  exact⟨n,rfl,c.1,c.2,b u e j o.heap _ _ QH trivial λ_=>trivial⟩
 ·exact b.elim
def JC (go:Go Γ F X E k cf)(o:zdB cf.sc "range" g=true) (i:Qa x=true) (e:Qa y=true) (A:PE X x (tD Γ E (M.eval F a))) (u:PE X y (tD Γ E (M.eval F b))):PI X tg (.Call g [x,y] [] pos) (jdO Γ E lp (M.Gm F (.range2 a b))):=by
 obtain⟨p,rfl,j,S⟩:=Qb o
 refine PI.imp (qah (go.gl _ j) (go.blt _ jau) (Jc A (Jc u Jh (ja e)) (ja i)) (by rw [ja i,ja e];rfl) (ja e)) λU H R z=> ?_
 obtain⟨G,Y,h,s,p⟩:=z
 refine Ja s.heap Ext.refl s p λT O V Z L t J B l N f=> ?_
 obtain⟨n,q,f⟩:=f.of
 refine Ja s.heap t B f λW Q j I C K v r w P d=> ?_
 obtain⟨m,D,d⟩:=d.of
 split at d
 ·rename_i c
  rw [M.Pc]at c
  cases l.int q
  cases w.int D
  exact⟨n,m,rfl,⟨c.1.1,c.1.2,c.2.1,c.2.2⟩,d I C K r.heap _ _ QH trivial λ_=>trivial⟩
 ·exact d.elim
def xbZ: "reversed" ∈bltN:=by decide
def qbj (go:Go Γ F X E k cf)(D:zdB cf.sc "reversed" g=true) (y:Qa x=true) (N:PE X x (tD Γ E (M.eval F a))):PI X tg (.Call g [x] [] pos) (jdO Γ E false (M.Gm F (.rev a))):=by
 obtain⟨p,rfl,O,T⟩:=Qb D
 refine PI.imp (qaq (go.gl _ O) (go.blt _ xbZ) (Jc N Jh (ja y)) (ja y)) λU H R K=> ?_
 obtain⟨G,Y,h,s,p⟩:=K
 refine Ja s.heap Ext.refl s p λL u P t i I Q A o S b=> ?_
 have lst: ∀ {e},Post Γ E G H (.ok e.reverse P) (λe x B q=> ∀J C,Wm Γ J e C->C B q->(y9=k9->C B (qh Y U q))->R J q)->(∃ l c,u= .ref l/\LOk Γ t i l c/\RelDs Γ t i e c) →
  ∃a w,[u]= [.ref a]/\SqL X.K i a w/\R (jdX X.K a w.length) i:=λ{e} p ⟨l,c,f,n,j⟩=>
  ⟨l,c,by rw [f],go.K▸n.sq,p t i I A.heap _ _ (CL.walkR go.K) ⟨n,j⟩ λz=>absurd z Ab6⟩
 cases L with
 | v d=>
  cases d with
  | lst e=>obtain⟨l,c,f,n,m⟩:=o;exact lst b ⟨l,c,f,n.lok A.heap,m⟩
  | tup _=>exact b.elim
  | non=>exact b.elim
  | bl _=>exact b.elim
  | int _=>exact b.elim
  | str _=>exact b.elim
  | ref _=>exact b.elim
  | exc _ _=>exact b.elim
  | err _ _ _=>exact b.elim
 | own e=>obtain⟨l,c,f,_,m,j,r⟩:=o;exact lst b ⟨l,c,f,.inl ⟨.inl j,m⟩,r⟩
 | bor e=>obtain⟨l,c,f,m,j,r⟩:=o;exact lst b ⟨l,c,f,.inl ⟨j,m⟩,r⟩
end
section
variable {Γ:Ge}{F:M.Fx}{X:Cx}{E:XK}{k:Nat}{cf:Cf}
theorem Qd: ∀(Y) (i j) (w),M.Gj (M.GD Y i w) j=if j=i/\i<Y.length then y0 w else M.Gj Y j
 | [],i,j,w=>by simp
 | x::r,0,0,w=>by simp
 | x::r,0,j+1,w=>by simp
 | x::r,i+1,0,w=>by simp
 | x::r,i+1,j+1,w=>by
  have:=Qd r i j w
  simp only [M.GD,M.Gj,this,Ab4]
  by_cases h:j=i/\i<r.length
  ·rw [if_pos h,if_pos (by omega)]
  ·rw [if_neg h,if_neg (by omega)]
theorem jj: ∀(Y) (i) (w),(M.GD Y i w).length=Y.length
 | [],_,_=>rfl
 | _::_,0,_=>rfl
 | _::r,i+1,w=>by simp [jj r i w]
theorem zm: ∀ {Y}{i}{w},M.Gj Y i=y0 w->i<Y.length
 | [],_,_,e=>by simp at e
 | _::_,0,_,_=>by simp
 | _::r,i+1,w,e=>by
  have:=zm (by simpa using e)
  simp;omega
theorem StRel.set (s:StRel Γ G Y h U H)(r:RelW Γ G H w v)
 (t:zdz w=k9-> ∀ j g,j≠i->M.Gj Y j=y0 g->zdz g=k9-> ∀a,v= .ref a->U[j]? ≠y0 (y0 (.ref a))):StRel Γ G (M.GD Y i w) h (U.set i (y0 v)) H where
 len:=by rw [jj,Ae7];exact s.len
 slot:=λj g e=>by
  rw [Qd]at e
  by_cases c:j=i/\i<Y.length
  ·rw [if_pos c]at e
   cases e
   obtain⟨rfl,c⟩:=c
   exact⟨v,Ad5 (by rw [← s.len];exact c),r⟩
  ·rw [if_neg c]at e
   have B:=λz=>c ⟨z,by subst z;exact zm e⟩
   obtain⟨A,y,C⟩:=s.slot j g e
   exact⟨A,by rw [Ad3 (Ne.symm B)];exact y,C⟩
 apart:=λp q u g a b f d n m=>by
  rw [Qd]at f d
  by_cases k:p=i/\i<Y.length
  ·rw [if_pos k]at f
   cases f
   obtain⟨rfl,k⟩:=k
   rw [if_neg (λz=>b z.1.symm)]at d
   rw [Ad5 (by rw [← s.len];exact k)]at m
   cases m
   rw [Ad3 b]
   exact t rfl q g (Ne.symm b) d n a rfl
  ·rw [if_neg k]at f
   have o:=λz=>k ⟨z,by subst z;exact zm f⟩
   rw [Ad3 (Ne.symm o)]at m
   by_cases l:q=i/\i<Y.length
   ·rw [if_pos l]at d
    cases d
    obtain⟨rfl,l⟩:=l
    rw [Ad5 (by rw [← s.len];exact l)]
    intro z
    cases z
    exact t n p _ o f rfl a rfl m
   ·rw [if_neg l]at d
    have x:=λz=>l ⟨z,by subst z;exact zm d⟩
    rw [Ad3 (Ne.symm x)]
    exact s.apart p q u g a b f d n m
 heap:=s.heap
def StRel.setD (s:StRel Γ G Y h U H)(r:RelD Γ G H d v):StRel Γ G (M.GD Y i (.v d)) h (U.set i (y0 v)) H:=s.set r λz=>by cases z
def xa7:List Nat->List V->St->St
 | i::is,v::a,U=>xa7 is a (U.set i (y0 v))
 | _,_,U=>U
theorem jG : ∀ {is}{ds}{a}{Y b}{U},M.setTup is ds Y=y0 b->RelDs Γ G H ds a->StRel Γ G Y h U H->StRel Γ G b h (xa7 is a U) H/\is.length=a.length
 | [],[],_,_,_,_,e,rfl,s=>by cases e;exact⟨s,rfl⟩
 | [],_::_,_,_,_,_,e,_,_=>by simp [M.setTup]at e
 | _::_,[],_,_,_,_,e,_,_=>by simp [M.setTup]at e
 | i::is,d::ds,_,_,_,_,e,⟨v,r,rfl,c,j⟩,s=>by
  obtain⟨g,f⟩:=jG (by simpa [M.setTup]using e) j (s.setD c)
  exact⟨g,congrArg (· +1) f⟩
noncomputable def gM (d:Ge) (c:List Nat) (one:Bool):TG:=λv U H Q=>match one with
 | true=> ∃i,c= [i]/\Q (U.set i (y0 v)) H
 | false=> ∃G ds b a,v= .ref a/\StT d G H a b/\RelDs d G H ds b/\c.length=b.length/\Q (xa7 c b U) H
theorem xR (go:Go Γ F X E k cf): ∀ {is}{es},xn cf is es=k9->xd7 X es (λb U H Q=>b.length=is.length/\Q (xa7 is b U) H)
 | [],[],_=>λa s U H b d Q I r h=>by
  have c:=Ag5 h.1
  subst c
  exact qbG a s U H [] d Q I r ⟨rfl,h.2⟩
 | [],_::_,h=>by simp [xn]at h
 | _::_,[],h=>by simp [xn]at h
 | i::is,e::es,h=>by
  cases e with
  | Name x p=>
   simp only [xn,Aa7,decide_eq_true_eq]at h
   obtain⟨⟨l,j⟩,m⟩:=h
   have g:=xR go m
   have c:=go.sto x j
   have f:=qa4 (jaL (pos:=p) (by rw [go.N];exact go.nd) (by rw [go.N];exact l) c.1 c.2) g
   intro a s U H b d Q I r q
   refine f a s U H b d Q I r ?_
   cases b with
   | nil=>simp at q
   | cons v b=>
    refine⟨v,b,rfl,?_⟩
    exact⟨by simpa using q.1,q.2⟩
  | _=>simp [xn]at h
theorem jaD : ∀ {is}{es},xn cf is es=k9->(assignEach es env).length=is.length/\(assignEach es env).findIdx? (·.1)=u0
 | [],[],_=>⟨rfl,rfl⟩
 | [],_::_,h=>by simp [xn]at h
 | _::_,[],h=>by simp [xn]at h
 | i::is,e::es,h=>by
  cases e with
  | Name x p=>
   simp only [xn,Aa7]at h
   obtain⟨b,a⟩:=jaD h.2
   have c:assignEach (.Name x p::es) env=(y9,assign (.Name x p) env)::assignEach es env:=rfl
   rw [c]
   refine⟨congrArg (· +1) b,?_⟩
   rw [List.findIdx?_cons]
   simp [a]
  | _=>simp [xn]at h
def Zo (go:Go Γ F X E k cf)(h:Qe cf tg one e=k9):PG X e (gM Γ tg one):=by
 cases one with
 | true=>
  cases e with
  | Name x p=>
   simp only [Qe,Aa7]at h
   cases tg with
   | nil=>simp at h
   | cons i r=>
    cases r with
    | cons _ _=>simp at h
    | nil=>
     simp only [xn,Aa7,decide_eq_true_eq]at h
     obtain⟨_,⟨t,o⟩,_⟩:=h
     have g:=go.sto x o
     have c:=jaL (pos:=p) (by rw [go.N];exact go.nd) (by rw [go.N];exact t) g.1 g.2
     intro b s U H v u Q I r q
     obtain⟨j,e,q⟩:=q
     cases e
     exact c b s U H v u Q I r q
  | _=>simp [Qe]at h
 | false=>
  cases e with
  | Tuple w n p=>
   have h:=h
   obtain⟨hn,d⟩:=jaD h
   have c:=qcB (k:=n) (pos:=p) go.calm (xR go h) hn d
   intro b s U H v u Q I r q
   obtain⟨G,y,l,a,rfl,m,z,f,q⟩:=q
   exact c b s U H _ u Q I r ⟨a,l,rfl,go.K▸m.sq,f.symm,f.symm,q⟩
  | _=>simp [Qe]at h
def Xk (k) (l): ∀ i,M.Gj (Ab0 k u0++l) (k+i)=M.Gj l i:=by
 induction k with
 | zero=>intro i;simp
 | succ k a=>intro i;rw [Ac7,show k+1+i=(k+i)+1 by omega];exact a i
def Jr (k) (l): ∀ {i},i<k->M.Gj (Ab0 k u0++l) i=none:=by
 induction k with
 | zero=>intro i h;omega
 | succ k a=>
  intro i h
  cases i with
  | zero=>rfl
  | succ i=>rw [Ac7];exact a (by omega)
theorem Jy: ∀(l) (i),M.Gj l i=(l[i]?).join
 | [],_=>by simp
 | _::_,0=>by simp
 | _::r,i+1=>by simpa using Jy r i
def xH (s:StRel Γ G Y h U H)(e:M.Gi Y j=y0 w): ∃v,U[j]? =y0 (y0 v)/\RelW Γ G H w v/\(zdz w=k9-> ∃b,M.Gj Y j=y0 b/\zdz b=k9)/\qbi w=true:=by
 unfold M.Gi at e
 cases q:M.Gj Y j with
 | none=>rw [q]at e;cases e
 | some b=>
  obtain⟨v,c,f⟩:=s.slot j b q
  rw [q]at e
  cases b with
  | v d=>cases e;exact⟨v,c,f,λz=>(by cases z),rfl⟩
  | own l=>cases e;obtain⟨a,g,n,o,i,k,m⟩:=f;exact⟨v,c,⟨a,g,n,i,.inl k,m⟩,λ_=>⟨_,rfl,rfl⟩,rfl⟩
  | bor l=>cases e;exact⟨v,c,f,λ_=>⟨_,rfl,rfl⟩,rfl⟩
def xbi (k:Nat) (cap:List Nat) (Y:M.Sl):M.Sl:=Ab0 k u0++cap.map λj=>M.Gi Y j
def zbY (s:StRel Γ G Y h U H) (kk) (cap)(d:Ub.length=kk+cap.length) (f: ∀i,i<cap.length->Ub[kk+i]? =y0 ((U[cap.getD i 0]?).join)):
 StRel Γ G (xbi kk cap Y) h Ub H where
 len:=by unfold xbi;rw [Aa8,Af5,Aa,d]
 slot:=λi w e=>by
  unfold xbi at e
  by_cases g:i<kk
  ·rw [Jr kk _ g]at e;cases e
  ·obtain⟨j,rfl⟩: ∃j,i=kk+j:=⟨i-kk,by omega⟩
   rw [Xk,Jy,Ad1]at e
   cases q:cap[j]? with
   | none=>rw [q]at e;cases e
   | some c=>
    rw [q]at e
    have e:=e
    obtain⟨v,n,l,_⟩:=xH s e
    have o:=(Ac2.mp q).1
    refine⟨v,?_,l⟩
    rw [f j o,Ac1,q]
    show y0 ((U[c]?).join)=_
    rw [n]
    rfl
 apart:=λi j p w a m b u r t=>by
  exfalso
  unfold xbi at b
  by_cases g:i<kk
  ·rw [Jr kk _ g]at b;cases b
  ·obtain⟨k,rfl⟩: ∃j,i=kk+j:=⟨i-kk,by omega⟩
   rw [Xk,Jy,Ad1]at b
   cases q:cap[k]? with
   | none=>rw [q]at b;cases b
   | some c=>
    rw [q]at b
    have b:=b
    obtain⟨_,_,_,_,z⟩:=xH s b
    cases z
 heap:=s.heap
end
theorem Xd {env:Env}{d:NameKind}(g:d≠ .free): ∀ {b:List (Str×NameKind)}{x},b.lookup x=y0 d →
 (b.map λ(n,k)=>if(k==NameKind.free&&env.scope.kind== .function&&env.kindOf n==y0 .cell)then(n,NameKind.cell)else(n,k)).lookup x=y0 d
 | [],_,h=>by simp at h
 | (n,k)::r,x,h=>by
  have i:= @Xd env d g r x
  rw [Aa9]
  rw [Ad]at h
  cases c:x==n with
  | true=>
   rw [c]at h
   have e:=by simpa using h
   subst e
   have j:(k==NameKind.free)=false:=by simpa using g
   simp only [j,Am0,Ae2,if_false,Ad,c]
  | false=>
   rw [c]at h
   have q:=i h
   by_cases a:(k==NameKind.free&&env.scope.kind== .function&&env.kindOf n==y0 .cell)=k9
   ·simp only [a,if_true,Ad,c]
    exact q
   ·have f:=Ak1.mpr a
    simp only [f,Ae2,if_false,Ad,c]
    exact q
section
variable {Γ:Ge}{F:M.Fx}{X:Cx}{E:XK}{k:Nat}{cf:Cf}
structure zcb (cf:Cf) (scope:Scope) (N:List Str) (k:Nat) (cap:List Nat):Prop where
 kind:scope.kind= .function
 ndn:(scope.names.map Prod.fst).Nodup
 names: ∀y∈scope.names,y.2= .local->scope.names.lookup y.1=y0 .local
 free: ∀y∈scope.names,y.2= .free->cf.sc.names.lookup y.1=y0 .cell\/cf.sc.names.lookup y.1=y0 .free
 capf: ∀x∈N.drop k,scope.names.lookup x=y0 .free
 cap:qE cf cap (N.drop k)=k9
 le:k<=N.length
 nd:N.Nodup
def ZD (h:JU cf scope N kk cap=k9):zcb cf scope N kk cap:=by
 simp only [JU,Aa7,decide_eq_true_eq,Ad7]at h
 obtain⟨⟨⟨⟨⟨⟨⟨⟨e,d⟩,k⟩,f⟩,g⟩,c⟩,i⟩,b⟩,l⟩:=h
 exact⟨e,d,λy a=>k y a,λy a=>f y a,λx j=>g x j,c,i,b⟩
theorem qO (go:Go Γ F X E k cf): ∀ {cap}{xs},qE cf cap xs=k9->CapOk X cap xs
 | [],[],_=>trivial
 | [],_::_,h=>by simp [qE]at h
 | _::_,[],h=>by simp [qE]at h
 | j::d,x::xs,h=>by
  simp only [qE,Aa7,decide_eq_true_eq]at h
  obtain⟨⟨b,a⟩,c⟩:=h
  exact⟨by rw [go.N];exact b,go.cel x a,qO go c⟩
def xS (go:Go Γ F X E k cf)(h:zcb cf scope N kk cap):zS X scope N kk cap:=
 ⟨h.kind,h.ndn,h.names,λy a b=>go.cel y.1 (h.free y a b),h.capf,qO go h.cap,h.le⟩
def W3 (h:QM sc x=k9):sc.names.lookup x=y0 .local\/sc.names.lookup x=y0 .cell\/sc.names.lookup x=y0 .free:=by
 unfold QM at h
 split at h
 ·rename_i q;exact .inl q
 ·rename_i q;exact .inr (.inl q)
 ·rename_i q;exact .inr (.inr q)
 ·cases h
def xY (h:jbW sc x=k9):sc.names.lookup x=y0 .local\/sc.names.lookup x=y0 .cell:=by
 unfold jbW at h
 split at h
 ·rename_i q;exact .inl q
 ·rename_i q;exact .inr q
 ·cases h
def wI (h:jdU sc x=k9):sc.names.lookup x=y0 .globalImplicit:=by
 unfold jdU at h
 split at h
 ·rename_i q;exact q
 ·cases h
def Xw (go:Go Γ F X E k cf)(h:zcb cf scope N kk cap) (C:Addr) (m:List Addr) (s:Shared) (H:Hp):Go Γ F (zd X N scope C m s H) E0 k { cf with sc:=scope,N:=N } where
 N:=rfl
 K:=go.K
 cl:=go.cl
 ow:=go.ow
 nd:=h.nd
 vis:=λx a=>by
  rcases W3 a with q | q | q
  ·exact .inl (Xd (by decide) q)
  ·exact .inr (.inl (Xd (by decide) q))
  ·exact .inr (zi q)
 lcl:=λx a=>Xd (by decide) a
 sto:=λx a=>by
  rcases xY a with q | q
  ·exact⟨.inl (Xd (by decide) q),.inr (Xd (by decide) q)⟩
  ·exact⟨.inr (Xd (by decide) q),.inl (decide_eq_true q)⟩
 cel:=λx a=>by
  rcases a with q | q
  ·exact .inl (Xd (by decide) q)
  ·exact zi q
 gl:=λx a=>Xd (by decide) (wI a)
 calm:=go.calm
 room:=go.room
 room1:=go.room1
 pass:=λc U w y e r _ j=>by
  obtain⟨x,v,t,B,z,_,_,_,_,_,_,_,_,_,_,d⟩:=j
  exact d.elim
 blt:=go.blt
 con:=go.con
 fn:=λf g=>by
  obtain⟨b,l,p,o,n,u,i⟩:=(go.fn f g).imp λb h=>h.ex
  exact⟨b,⟨l,p,o,n,u,i⟩⟩
 cls:=go.cls
 fld:=go.fld
 mth:=go.mth
 mks:=go.mks
theorem X4: ∀(is) (a) (U) (j),j∉is->(xa7 is a U)[j]? =U[j]?
 | [],_,_,_,_=>rfl
 | _::_,[],_,_,_=>rfl
 | i::is,v::a,U,j,h=>by
  show(xa7 is a (U.set i (y0 v)))[j]? =U[j]?
  rw [X4 is a _ j λz=>h (Aa1 _ z),Ad3 (λz:i=j=>h (by rw [z];exact Aa3))]
theorem zE: ∀(is) (a) (U),(xa7 is a U).length=U.length
 | [],_,_=>rfl
 | _::_,[],_=>rfl
 | i::is,v::a,U=>by
  show(xa7 is a (U.set i (y0 v))).length=U.length
  rw [zE is a,Ae7]
def bind_ok (e:M.Gp tg one d Y=y0 Y') (r:RelD Γ G H d x) (s:StRel Γ G Y h U H)
 (g: ∀b,StRel Γ G Y' h b H->(∀ j,j∉tg->b[j]? =U[j]?)->b.length=U.length->Q b H):gM Γ tg one x U H Q:=by
 cases one with
 | true=>
  cases tg with
  | nil=>cases e
  | cons i m=>
   cases m with
   | cons _ _=>cases e
   | nil=>
    cases e
    exact⟨i,rfl,g _ (s.setD r) (λj f=>Ad3 λz=>f (by simp [z])) (Ae7 ..)⟩
 | false=>
  cases d with
  | tup o=>
   obtain⟨a,c,rfl,p,k⟩:=r
   obtain⟨l,n⟩:=jG (e) k s
   exact⟨G,o,c,a,rfl,p,k,n,g _ l (λj f=>X4 tg c U j f) (zE tg c U)⟩
  | _=>cases e
def xP {step:M.D->M.AH->M.R (Option M.D)}: ∀ {ds}{h}{d}{h'},M.Gv step ds h≠ .exc d h'
 | [],_,_,_=>λe=>by cases e
 | x::ds,h,d,h'=>λe=>by
  rw [M.Gv]at e
  split at e
  ·split at e<;>cases e
  ·cases e
def qX {step:M.D->M.AH->M.R (Option M.D)}(e:M.Gv step (x::ds) h= .ok ys hf): ∃o h1 r,step x h= .ok o h1/\M.Gv step ds h1= .ok r hf/\ys=(match o with | some y=>y::r | none=>r):=by
 rw [M.Gv]at e
 split at e
 ·rename_i o h1 b
  split at e
  ·rename_i r c a
   cases e
   exact⟨o,h1,r,b,a,rfl⟩
  ·cases e
 ·cases e
noncomputable def zaL (F:M.Fx) (f:List Nat) (one:Bool) (g:M.Sl) (a:Bool) (c elt:M.E):M.D->M.AH->M.R (Option M.D):=λd h=>match M.Gp f one d g with
 | none=> .fail
 | some e=>(if a then(M.eval F c e h).bind λx h=>M.R.of h (M.KW h x)else .ok k9 h).bind λb h=>match b with
  | true=>(M.eval F elt e h).bind λy h=>(M.R.of h y.d).bind λy h=> .ok (y0 y) h
  | false=> .ok u0 h
def xal :M.eval F (.comp tg one kk cap it v7 c elt) Y h=(M.Gm F it Y h).bind λds h=>
 if ds.length<=M.LIM then(M.Gv (zaL F tg one (xbi kk cap Y) v7 c elt) ds h).bind λys h=> .ok (.own ys) h else .fail:=by
 rw [M.eval];rfl
noncomputable def Q9 (F:M.Fx) (a:Bool) (c:M.E):M.Sl->M.AH->M.R Bool:=λY h=>if a then M.Gu F c Y h else .ok k9 h
def Zd {r:M.R α}(e:r.bind f= .ok b h): ∃a h1,r= .ok a h1/\f a h1= .ok b h:=by
 cases r with
 | ok a h1=>exact⟨a,h1,rfl,e⟩
 | exc d h1=>cases e
 | fail=>cases e
def QW (a:Xf iter=k9): ∀v,foldedSetIterable iter env v=pure v:=λv=>by cases iter<;>first | rfl | (simp [Xf]at a)
def zaN (htk: ∀i∈tg,i<kk)(h0:tD Γ E (M.eval F (.comp tg one kk cap it v7 c elt)) U H Q):
 qaV kk cap (jdO Γ E y9 (M.Gm F it)) (λ_ _ _ _=>gM Γ tg one) (λ_ _ _ _=>qd3 Γ E0 (Q9 F v7 c)) (λ_ _ _ _=>tD Γ E0 (M.eval F elt)) U H Q:=by
 obtain⟨G,Y,h,s,p⟩:=h0
 rw [xal]at p
 refine⟨G,Y,h,s,?_⟩
 cases qi:M.Gm F it Y h with
 | exc d n=>rw [qi]at p;exact p
 | fail=>rw [qi]at p;exact p
 | ok f h1=>
  rw [qi]at p
  intro G1 H1 e1 y J C N c0 _ Ca fp st
  have p:Post Γ E G H (if f.length<=M.LIM then(M.Gv (zaL F tg one (xbi kk cap Y) v7 c elt) f h1).bind λX h=> .ok (.own X) h else .fail) λw n q k=> ∀v,RelW Γ q k w v->FreshW Y U H w v->Q v k:=p
  by_cases hL:f.length<=M.LIM
  rotate_left
  ·rw [if_neg hL]at p;exact p.elim
  rw [if_pos hL]at p
  cases qc:M.Gv (zaL F tg one (xbi kk cap Y) v7 c elt) f h1 with
  | exc d n=>exact absurd qc xP
  | fail=>rw [qc]at p;exact p.elim
  | ok X hf=>
   rw [qc]at p
   have p:=p
   have hLs:=xi
   refine⟨λi m yv Ub k=> ∃q n done rest,(m=f.length-i/\i<=f.length/\done.length<=i)/\Ext G1 H1 q k/\HRel Γ q n k/\C q k/\RelDs Γ q k done yv ∧
    M.Gv (zaL F tg one (xbi kk cap Y) v7 c elt) (f.drop i) n= .ok rest hf/\X=done++rest/\Ub.length=kk+cap.length/\ ∀j,j<cap.length->Ub[kk+j]? =y0 ((U[cap.getD j 0]?).join),⟨f.length,?_⟩,?_⟩
   ·refine⟨G1,h1,[],X,⟨by simp,Ah2 _,Aa5 _⟩,Ext.refl,y,c0,rfl,qc,rfl,?_,λj Z=> ?_⟩
    ·unfold qas;rw [Aa8,Af5,Aa]
    ·unfold qas
     rw [Af9 (by simp),Af5,Nat.add_sub_cancel_left,Ad1,Aa4 Z,Ac1,Aa4 Z]
     rfl
   ·rintro i m yv Ub k ⟨q,n,done,rest,⟨rfl,hi',hd⟩,L,e,K,rd,W,t,g,A⟩
    have ldone:=rd.length
    by_cases u:i<f.length
    ·refine .inr ⟨N.go i q k K u,by omega,_,λyv' Ub' O w=>⟨f.length-(i+1),by omega,w⟩,λx O hy=> ?_⟩
     obtain⟨G4,x4,hx4,d,ed,rdx⟩:=N.yld i q k x O K u hy
     have K:=N.keep _ _ _ _ n K x4 e
     have rd:=rd.ext x4 e
     have L:=L.trans y x4
     have e:=hx4 _ e
     have edr:f.drop i=d::f.drop (i+1):=by
      rw [List.drop_eq_getElem_cons u]
      rw [Aa4 u]at ed
      cases ed
      rfl
     rw [edr]at W
     obtain⟨o,h2,r,S,P,er⟩:=qX W
     unfold zaL at S
     cases qb:M.Gp tg one d (xbi kk cap Y)with
     | none=>rw [qb]at S;cases S
     | some Y'=>
      rw [qb]at S
      have so:=s.ext (e1.trans s.heap L) e
      have sb:=zbY so kk cap g A
      refine bind_ok qb rdx sb λU2 s2 same T=> ?_
      have l: ∀j,j<cap.length->U2[kk+j]? =y0 ((U[cap.getD j 0]?).join):=λj Z=>by
       rw [same _ λz=>by have:=htk _ z;omega];exact A j Z
      obtain⟨b,h3,B,a⟩:=Zd (show (Q9 F v7 c Y' n).bind _=_ from S)
      refine⟨G4,Y',n,s2,?_⟩
      rw [B]
      intro G3 H3 V R
      have s3:=s2.ext V R
      cases b with
      | false=>
       refine xcZ ?_
       have a:=a
       cases a
       exact⟨G3,_,done,r,⟨rfl,by omega,by omega⟩,L.trans y V,R,N.keep _ _ _ _ n K V e,rd.ext V e,P,by rw [t,er],by rw [T];exact g,l⟩
      | true=>
       refine qcU ?_
       obtain⟨w,h4,qe,a⟩:=Zd (a)
       refine⟨G3,Y',h3,s3,?_⟩
       rw [qe]
       intro G4 H4 e4 hr4 v rw' fw
       obtain⟨dd,h5,qd,a⟩:=Zd (a)
       cases qw:w.d with
       | none=>rw [qw]at qd;cases qd
       | some d'=>
        rw [qw]at qd
        cases qd
        cases (a)
        have s4:=s3.ext e4 hr4
        obtain⟨G5,e5,s5,rdv,m5⟩:=qdT e4 s4 s3 rw' fw qw
        have I:=V.trans e e5
        refine⟨G5,_,done++ [dd],r,⟨rfl,by omega,by rw [Aa8,Af4];omega⟩,L.trans y I,s5.heap,N.keep _ _ _ _ n K I e,(rd.ext I e).append ⟨v,[],rfl,rdv,rfl⟩,P,?_,by rw [T];exact g,l⟩
        rw [t,er]
        simp
    ·have ei:i=f.length:=by omega
     subst ei
     rw [List.drop_length]at W
     cases (W)
     rw [Ae0]at t
     subst t
     exact .inl ⟨N.stop _ q k K (Aa5 _) (Aa5 _),by omega,λD hD=>PostW.own (PostW.mk p (e1.trans s.heap L) s.heap) e rd D hD⟩
def zbe (go:Go Γ F X E k cf)(a:zcb cf scope N kk cap)
 (h:cap.length=(N.drop kk).length) (e:Qe { cf with sc:=scope,N:=N } tg one t=k9) (d: ∀i∈tg,i<kk) (b:Xf iter=k9)
 (l:PI X t iter (jdO Γ E y9 (M.Gm F it)))
 (f: ∀C fp s H,PE (zd X N scope C fp s H) y (tD Γ E0 (M.eval F elt)))
 (j: ∀C fp s H,jd3 (zd X N scope C fp s H) ifs (qd3 Γ E0 (Q9 F v7 c))):
 PE X (.ListComp y [⟨t,iter,ifs,0⟩] scope pos) (tD Γ E (M.eval F (.comp tg one kk cap it v7 c elt))):=
 PE.imp (qbH (xS go a) l (λC fp s H=>Zo (Xw go a C fp s H) e) j f go.calm (QW b)) λU H Q g=>zaN d g
def jU (go:Go Γ F X E k cf)(m:cf.N[i]? =y0 x) (n:jbW cf.sc x=k9)(h:swapsWith (.ListComp y [⟨t,iter,ifs,0⟩] scope p0) (y0 (.Name x pos2)) pos.line X.env=pure k9) (b:zcb cf scope N kk cap)
 (p:cap.length=(N.drop kk).length) (f:Qe { cf with sc:=scope,N:=N } tg one t=k9) (e: ∀i∈tg,i<kk) (d:Xf iter=k9)
 (l:PI X t iter (jdO Γ E y9 (M.Gm F it)))
 (r: ∀C fp s H,PE (zd X N scope C fp s H) y (tD Γ E0 (M.eval F elt)))
 (o: ∀C fp s H,jd3 (zd X N scope C fp s H) ifs (qd3 Γ E0 (Q9 F v7 c))):
 PS X (.Assign [.Name x pos2] (.ListComp y [⟨t,iter,ifs,0⟩] scope p0) pos) (zbD (tD Γ E (M.eval F (.comp tg one kk cap it v7 c elt))) (QR i)):=by
 have j:=go.sto x n
 have g:=j6 (by rw [go.N];exact go.nd) (by rw [go.N];exact m) j.1 (xS go b) l (λC fp s H=>Zo (Xw go b C fp s H) f) o r h go.calm (QW d) j.2
 exact λa s U H D I q=>g a s U H D I (zaN e q)
def ju (e:M.cellD h o=y0 (r,xs)):o=y0 (.v (.ref r))/\h[r]? =y0 (.lst xs):=by
 unfold M.cellD at e
 split at e
 ·split at e
  ·rename_i q
   cases e
   exact⟨rfl,q⟩
  ·cases e
 ·cases e
def Jt (s:StRel Γ G Y h U H)(e:M.cellD h (M.Gj Y i)=y0 (r,xs)):U[i]? =y0 (y0 (.ref (G.rho r)))/\ ∃a,H (G.rho r)=y0 (.lst a)/\RelDs Γ G H xs a:=by
 obtain⟨d,f⟩:=ju e
 obtain⟨v,g,j⟩:=s.slot i _ d
 obtain⟨k,b⟩:=(j)
 subst b
 obtain⟨_,a,c,rv⟩:=s.heap.cell r xs f
 exact⟨g,a,c,rv⟩
def xt (go:Go Γ F X E k cf)(h1:cf.N[i]? =y0 x) (h2:QM cf.sc x=k9) (a:xdB x=k9):PE X (.Name x p) (xcP i):=by
 unfold xdB at a
 rw [Aa7]at a
 exact Jk (by rw [go.N];exact h1) (go.vis x h2) (by simpa using a.1) (by simpa using a.2)
def qb6 (go:Go Γ F X E k cf)(h1:cf.N[i]? =y0 y) (h2:QM cf.sc y=k9) (q:xdB y=k9) (m:PE X x (tD Γ E (M.eval F a))):PE X (.Compare x [xdG neg] [.Name y p1] pos) (tD Γ E (M.eval F (.din neg a i))):=by
 refine PE.imp (ZV (qbB go.K (by have:=go.room.un;omega) neg) m (xt go h1 h2 q) (qj rfl)) λU H Q l=> ?_
 obtain⟨G,Y,h,s,p⟩:=l
 refine Ja s.heap Ext.refl s p λz w h1 e u g n b f v p1=> ?_
 unfold M.Pr at p1
 split at p1
 ·rename_i d
  split at p1
  ·rename_i t r j o c
   refine⟨_,wu b c,e,h1,t,r,j,b.heap,ZU o▸f,rfl,(zq c).2,?_⟩
   exact p1 e _ g b.heap (.bl _) rfl trivial
  ·exact p1.elim
 ·exact p1.elim
def zba (go:Go Γ F X E k cf)(h1:cf.N[i]? =y0 y) (h2:QM cf.sc y=k9) (q:xdB y=k9) (m:PE X x (tD Γ E (M.eval F a))):PT X (.Compare x [xdG neg] [.Name y p1] pos) (qd3 Γ E (M.Gu F (.din neg a i))):=by
 refine PT.imp (WU (qbB go.K (by have:=go.room.un;omega) neg) m (xt go h1 h2 q) (qj rfl)) λU H Q l=> ?_
 obtain⟨G,Y,h,s,p⟩:=l
 unfold M.Gu at p
 rw [M.eval,zf]at p
 refine Ja s.heap Ext.refl s p λz w h1 e u g n b f v p1=> ?_
 unfold M.Pr at p1
 split at p1
 ·rename_i d
  split at p1
  ·rename_i t r j o c
   refine⟨_,wu b c,e,h1,t,r,j,b.heap,ZU o▸f,rfl,(zq c).2,?_⟩
   exact⟨_,rfl,p1 e _ g b.heap⟩
  ·exact p1.elim
 ·exact p1.elim
def zbf (go:Go Γ F X E k cf)(h1:cf.N[i]? =y0 y) (h2:QM cf.sc y=k9) (m:xdB y=k9) (j:PE X x (tD Γ E (M.eval F a))):PE X (.Compare x [xdG neg] [.Name y p1] pos) (tD Γ E (M.eval F (.dinI neg a i))):=by
 refine PE.imp (ZV (qbs neg) j (xt go h1 h2 m) (qj rfl)) λU H Q g=> ?_
 obtain⟨G,Y,h,s,p⟩:=g
 refine Ja s.heap Ext.refl s p λv u h1 n q e l b d t p1=> ?_
 unfold M.dinI at p1
 split at p1
 ·rename_i o r f c
  cases d
  exact⟨_,(Qq b c).1,o,_,f,rfl,rfl,(Qq b c).2,p1 n _ e b.heap (.bl _) rfl trivial⟩
 ·exact p1.elim
def zaG (go:Go Γ F X E k cf)(h1:cf.N[i]? =y0 y) (h2:QM cf.sc y=k9) (m:xdB y=k9) (j:PE X x (tD Γ E (M.eval F a))):PT X (.Compare x [xdG neg] [.Name y p1] pos) (qd3 Γ E (M.Gu F (.dinI neg a i))):=by
 refine PT.imp (WU (qbs neg) j (xt go h1 h2 m) (qj rfl)) λU H Q g=> ?_
 obtain⟨G,Y,h,s,p⟩:=g
 unfold M.Gu at p
 rw [M.eval,zf]at p
 refine Ja s.heap Ext.refl s p λv u h1 n q e l b d t p1=> ?_
 unfold M.dinI at p1
 split at p1
 ·rename_i o r f c
  cases d
  exact⟨_,(Qq b c).1,o,_,f,rfl,rfl,(Qq b c).2,_,rfl,p1 n _ e b.heap⟩
 ·exact p1.elim
def xbe (go:Go Γ F X E k cf)(a:zdB cf.sc "len" g=true) (h1:cf.N[i]? =some y) (h2:QM cf.sc y=true) (j:xdB y=true):PE X (.Call g [.Name y p1] [] pos) (tD Γ E (M.eval F (.dlen i))):=by
 obtain⟨p,rfl,f,c⟩:=Qb a
 refine PE.imp (Xh (zaz go.K) (go.gl _ f) (go.blt _ zbl) (by decide +kernel) (Jc (xt go h1 h2 j) Jh rfl) (xp zbl) c rfl rfl) λU H Q e=> ?_
 obtain⟨G,Y,h,s,p⟩:=e
 rw [M.eval]at p
 cases q:M.KT h (M.Gj Y i)with
 | none=>rw [q]at p;exact p.elim
 | some d=>
  obtain⟨r,b⟩:=d
  rw [q]at p
  exact⟨_,wu s q,G,h,r,b,s.heap,rfl,(zq q).2,p G _ Ext.refl s.heap (.int _) rfl trivial⟩
end
def PW.of_bool (h:PT X (.BoolOp op vs pos) t):PW X (.BoolOp op vs pos) t:=λb a s U H Q I q=>by
 have:=h a s U H Q I q
 exact this
theorem Qw : ∀ {es}{xs}{Y}{h}{ds}{h'},chkEs cf es xs=k9->M.Gq F es Y h= .ok ds h'->ds.length=xs.length
 | .nil,xs,_,_,_,_,c,e=>by
  cases Ae9.mp c
  rw [M.Gq]at e;cases e;rfl
 | .cons a es,xs,Y,h,ds,h',c,e=>by
  refine kC (λx r c=> ?_) xs c
  obtain⟨w,i,f,e⟩:=Zd e
  obtain⟨d,g,j,e⟩:=Zd e
  obtain⟨r,k,b,e⟩:=Zd e
  cases e
  rw [Ab4,Ab4,Qw (a2 c).2 b]
theorem Xe : ∀ {es}{xs},chkEs cf es xs=k9-> ∀e∈xs,Qa e=k9
 | .nil,xs,c=>by
  cases Ae9.mp c
  intro e b;cases b
 | .cons a es,xs,c=>by
  refine kC (λx r c=> ?_) xs c
  intro e b
  rcases Ab7.mp b with rfl | b
  ·exact(a3 c).1
  ·exact Xe (a2 c).2 e b
theorem zD : ∀ {cap}{xs},qE cf cap xs=k9->cap.length=xs.length
 | [],[],_=>rfl
 | [],_::_,h=>by simp [qE]at h
 | _::_,[],h=>by simp [qE]at h
 | j::a,x::xs,h=>by
  simp only [qE,Aa7]at h
  exact congrArg (· +1) (zD h.2)
def WL (h:zk e f=k9):Xf e=true:=by
 refine Wh (λg x l p h=> ?_) e h
 rfl
def XS {c:Cf}{it:M.It}{e:Expr}(h:chkIt c it e=k9):Xf e=true:=by
 cases it with
 | seq a=>exact(a2 h).1
 | range1 a=>exact WL h
 | range2 a b=>exact WL h
 | rev a=>exact WL h
 | zip a b=>exact qdB h
 | enum a=>exact qdB h
section
variable {Γ:Ge}{F:M.Fx}{k:Nat}
def bo (go:Go Γ F X E k cf) (r:PE X x (tD Γ E (M.eval F m))) (b: ∀a,isTrue x X.env a=(do let v ←a;standAt x.pos;holding [v] (truthy v))):PE X x (tD Γ E (M.eval F m))/\(zdS m=k9->PT X x (qd3 Γ E (M.Gu F m))):=⟨r,λ_=>qba go r b⟩
mutual
theorem jc: ∀(m:M.E){X:Cx}{E:XK}{cf:Cf}{e:Expr},Go Γ F X E k cf->xc cf m e=k9->PE X e (tD Γ E (M.eval F m))/\(zdS m=k9->PT X e (qd3 Γ E (M.Gu F m)))
 | .var i,X,E,cf,e,go,h=>by
  refine Zm (λx p h=> ?_) e h
  obtain⟨h1,h2,h3⟩:=xaS h
  exact bo go (zbG go h1 h2 h3) λ_=>rfl
 | .con c,X,E,cf,e,go,h=>by
  have r:=qbO go h
  obtain⟨p,rfl,_,_⟩:=Qb h
  exact bo go r λ_=>rfl
 | .int i,X,E,cf,e,go,h=>by
  refine ZF (λx n p h=> ?_) e h
  cases of_decide_eq_true h;exact bo go zbK λ_=>rfl
 | .bl i,X,E,cf,e,go,h=>by
  refine ZF (λx n p h=> ?_) e h
  cases of_decide_eq_true h;exact bo go jcB λ_=>rfl
 | .non,X,E,cf,e,go,h=>by
  refine ZF (λx n p h=> ?_) e h
  cases of_decide_eq_true h;exact bo go qbI λ_=>rfl
 | .str i,X,E,cf,e,go,h=>by
  refine ZF (λx n p h=> ?_) e h
  cases of_decide_eq_true h;exact bo go xb9 λ_=>rfl
 | .tup es,X,E,cf,e,go,h=>by
  refine jc6 (λx n p h=> ?_) e h
  obtain⟨h1,h2⟩:=a2 h
  exact bo go (qbL (of_decide_eq_true h1) (λY hh ds h' q=>Qw h2 q) (sndA es go h2)) λ_=>rfl
 | .lst es,X,E,cf,e,go,h=>by
  refine zds (λx p h=> ?_) e h
  obtain⟨h1,h2⟩:=a2 h
  exact bo go (qb9 (of_decide_eq_true h1) (λY hh ds h' q=>Qw h2 q) (sndA es go h2)) λ_=>rfl
 | .bin o a b,X,E,cf,e,go,h=>by
  refine xdv (λx o y p h=> ?_) e h
  obtain⟨h0,ho,h1,h2⟩:=a4 h
  cases of_decide_eq_true h0
  exact bo go (qb4 go ho (jc a go h1).1 (jc b go h2).1) λ_=>rfl
 | .cmp o a b,X,E,cf,e,go,h=>by
  refine zcm (λx o y p h=> ?_) e h
  refine kC (λy r h=> ?_) y h
  obtain⟨h0,ho,hs,h1,h2⟩:=a5 h
  obtain⟨rfl,rfl⟩:=of_decide_eq_true h0
  exact⟨qbK go ho hs (jc a go h1).1 (jc b go h2).1,λ_=>qbd go ho hs (jc a go h1).1 (jc b go h2).1⟩
 | .chain o q a b c,X,E,cf,e,go,h=>by
  refine zcm (λx o y p h=> ?_) e h
  refine kC (λy r h=> ?_) y h
  refine kC (λz r h=> ?_) r h
  obtain⟨h0,ho,hq,hs,h1,h2,h3⟩:=a7 h
  obtain⟨rfl,rfl⟩:=of_decide_eq_true h0
  exact⟨zaH go ho hq hs (jc a go h1).1 (jc b go h2).1 (jc c go h3).1,λ_=>W6 go ho hq hs (jc a go h1).1 (jc b go h2).1 (jc c go h3).1⟩
 | .isn neg a,X,E,cf,e,go,h=>by
  refine zcm (λx o y p h=> ?_) e h
  refine kC (λy r h=> ?_) y h
  refine ZF (λj n p h=> ?_) y h
  obtain⟨h0,h1,h2⟩:=a3 h
  obtain⟨rfl,rfl⟩:=of_decide_eq_true h0
  cases of_decide_eq_true h1
  exact⟨jb4 (jc a go h2).1,λ_=>ja6 (jc a go h2).1⟩
 | .neg a,X,E,cf,e,go,h=>by
  refine zd6 (λo x p h=> ?_) e h
  cases of_decide_eq_true (a2 h).1
  exact bo go (qb5 (jc a go (a2 h).2).1) λ_=>rfl
 | .inv a,X,E,cf,e,go,h=>by
  refine zd6 (λo x p h=> ?_) e h
  cases of_decide_eq_true (a2 h).1
  exact bo go (jbF (jc a go (a2 h).2).1) λ_=>rfl
 | .not a,X,E,cf,e,go,h=>by
  refine zd6 (λo x p h=> ?_) e h
  cases of_decide_eq_true (a2 h).1
  exact⟨jbO go (jc a go (a2 h).2).1,λt=>jaW ((jc a go (a2 h).2).2 t)⟩
 | .and a b,X,E,cf,e,go,h=>by
  refine xcx (λo x p h=> ?_) e h
  refine kC (λx r h=> ?_) x h
  refine kC (λy r h=> ?_) r h
  obtain⟨h0,h1,h2⟩:=a3 h
  cases of_decide_eq_true h0
  cases r with
  | nil=>exact⟨qat go (jc a go h1).1 (xbp (jc b go h2).1),λt=>(j4 ((jc a go h1).2 (a2 t).1) (xb7 ((jc b go h2).2 (a2 t).2))).pt⟩
  | cons z r=>exact⟨qat go (jc a go h1).1 (jc b go h2).1,λt=>(j4 ((jc a go h1).2 (a2 t).1) (PW.of_bool ((jc b go h2).2 (a2 t).2))).pt⟩
 | .or a b,X,E,cf,e,go,h=>by
  refine xcx (λo x p h=> ?_) e h
  refine kC (λx r h=> ?_) x h
  refine kC (λy r h=> ?_) r h
  obtain⟨h0,h1,h2⟩:=a3 h
  cases of_decide_eq_true h0
  cases r with
  | nil=>exact⟨jbn go (jc a go h1).1 (xbp (jc b go h2).1),λt=>(zaf ((jc a go h1).2 (a2 t).1) (zcE ((jc b go h2).2 (a2 t).2))).pt⟩
  | cons z r=>exact⟨jbn go (jc a go h1).1 (jc b go h2).1,λt=>(zaf ((jc a go h1).2 (a2 t).1) (PW.of_bool ((jc b go h2).2 (a2 t).2))).pt⟩
 | .call f es,X,E,cf,e,go,h=>by
  refine Wh (λg x l p h=> ?_) e h
  refine kE (λh=> ?_) l h
  obtain⟨h1,h2,h3⟩:=a3 h
  cases x with
  | nil=>
   cases es with
   | cons _ _=>exact qdB h3
   | nil=>
    have r:=zaI (pos:=p) go h1 h2
    obtain⟨p,rfl,_,_⟩:=Qb h1
    exact bo go r λ_=>rfl
  | cons x r=>
   have r:=za9 (pos:=p) go h1 h2 (Xe h3) (sndWs es go h3)
   obtain⟨p,rfl,_,_⟩:=Qb h1
   exact bo go r λ_=>rfl
 | .bi b es,X,E,cf,e,go,h=>by
  refine Wh (λg x l p h=> ?_) e h
  refine kE (λh=> ?_) l h
  refine kC (λx r h=> ?_) x h
  obtain⟨h1,h2,h3⟩:=a3 h
  have r:=xcA (pos:=p) go h2 h1 (Xe h3) (sndWs es go h3)
  obtain⟨p,rfl,_,_⟩:=Qb h1
  exact bo go r λ_=>rfl
 | .isT a t,X,E,cf,e,go,h=>by
  refine Wh (λg x l p h=> ?_) e h
  refine kE (λh=> ?_) l h
  refine kC (λx r h=> ?_) x h
  refine kC (λy r h=> ?_) r h
  refine kE (λh=> ?_) r h
  obtain⟨h1,h2,h3,h4,h5⟩:=a5 h
  have r:=zca (pos:=p) go (of_decide_eq_true h3) h1 h2 h4 (jc a go h5).1
  obtain⟨p,rfl,_,_⟩:=Qb h1
  exact bo go r λ_=>rfl
 | .ix a b,X,E,cf,e,go,h=>by
  refine jb5 (λx y p h=> ?_) e h
  obtain⟨h1,h2,h3⟩:=a3 h
  exact bo go (zcf go h1 (jc a go h2).1 (jc b go h3).1) λ_=>rfl
 | .sl a lo hi,X,E,cf,e,go,h=>by
  refine jb5 (λx y p h=> ?_) e h
  refine jdJ (λl u z p2 h=> ?_) y h
  refine kS (λl h=> ?_) l h
  refine kS (λu h=> ?_) u h
  obtain⟨h0,h1,h2,h3⟩:=a4 h
  cases nn h0
  exact bo go (xcm go (jc a go h1).1 (jc lo go h2).1 (jc hi go h3).1) λ_=>rfl
 | .slL a lo,X,E,cf,e,go,h=>by
  refine jb5 (λx y p h=> ?_) e h
  refine jdJ (λl u z p2 h=> ?_) y h
  refine kS (λl h=> ?_) l h
  obtain⟨h0,h1,h2,h3⟩:=a4 h
  cases nn h0;cases nn h1
  exact bo go (zbI go (jc a go h2).1 (jc lo go h3).1) λ_=>rfl
 | .slH a hi,X,E,cf,e,go,h=>by
  refine jb5 (λx y p h=> ?_) e h
  refine jdJ (λl u z p2 h=> ?_) y h
  refine kS (λu h=> ?_) u h
  obtain⟨h0,h1,h2,h3⟩:=a4 h
  cases nn h0;cases nn h1
  exact bo go (qca go (jc a go h2).1 (jc hi go h3).1) λ_=>rfl
 | .comp tg one kk cap it v7 c elt,X,E,cf,e,go,h=>by
  refine jcM (λy g s p h=> ?_) e h
  refine kC (λg r h=> ?_) g h
  obtain⟨t,iter,ifs,z⟩:=g
  obtain⟨h0,h1,h2,h3,h4,h5,h6⟩:=a7 h
  obtain⟨rfl,rfl⟩:=of_decide_eq_true h0
  simp only [Ad7,decide_eq_true_eq]at h2
  have sc:=ZD h1
  have ht: ∀C fp w H,jd3 (zd X (qr cf t cap) s C fp w H) ifs (qd3 Γ E0 (Q9 F v7 c)):=λC fp w H=>by
   have gc:=Xw go sc C fp w H
   cases v7 with
   | true=>
    refine kC (λz r h=> ?_) ifs h6
    refine kE (λh=> ?_) r h
    exact jaB ((jc c gc (a2 h).2).2 (a2 h).1)
   | false=>
    cases Ae9.mp h6
    intro k8 s1 U H1 Q I ⟨G,Y,h,st,p⟩
    exact jac k8 s1 U H1 Q I (p G H1 Ext.refl st.heap)
  exact bo go (zbe go sc (zD sc.cap) h3 h2 (XS h4) (sndI it go h4) (λC fp s H=>(jc elt (Xw go sc C fp s H) h5).1) ht) λ_=>rfl
 | .dnew,X,E,cf,e,go,h=>by
  refine jcz (λx y p h=> ?_) e h
  cases Ae9.mp (a2 h).1
  cases Ae9.mp (a2 h).2
  exact bo go ja3 λ_=>rfl
 | .dnewI,X,E,cf,e,go,h=>by
  refine jcz (λx y p h=> ?_) e h
  cases Ae9.mp (a2 h).1
  cases Ae9.mp (a2 h).2
  exact bo go zaF λ_=>rfl
 | .dinI neg a i,X,E,cf,e,go,h=>by
  refine zcm (λx o y p h=> ?_) e h
  refine kC (λy r h=> ?_) y h
  refine Zm (λy p1 h=> ?_) y h
  obtain⟨h0,h1,h4⟩:=a3 h
  obtain⟨rfl,rfl⟩:=of_decide_eq_true h0
  obtain⟨h1,h2,h3⟩:=xaS h1
  exact⟨zbf go h1 h2 h3 (jc a go h4).1,λ_=>zaG go h1 h2 h3 (jc a go h4).1⟩
 | .din neg a i,X,E,cf,e,go,h=>by
  refine zcm (λx o y p h=> ?_) e h
  refine kC (λy r h=> ?_) y h
  refine Zm (λy p1 h=> ?_) y h
  obtain⟨h0,h1,h4⟩:=a3 h
  obtain⟨rfl,rfl⟩:=of_decide_eq_true h0
  obtain⟨h1,h2,h3⟩:=xaS h1
  exact⟨qb6 go h1 h2 h3 (jc a go h4).1,λ_=>zba go h1 h2 h3 (jc a go h4).1⟩
 | .dlen i,X,E,cf,e,go,h=>by
  refine Wh (λg x l p h=> ?_) e h
  refine kE (λh=> ?_) l h
  refine kC (λx r h=> ?_) x h
  refine kE (λh=> ?_) r h
  obtain⟨h1,h⟩:=a2 h
  refine Zm (λy p1 h=> ?_) x h
  obtain⟨h2,h3,h4⟩:=xaS h
  have r:=xbe (p1:=p1) (pos:=p) go h1 h2 h3 h4
  obtain⟨p,rfl,_,_⟩:=Qb h1
  exact bo go r λ_=>rfl
 | .share a,X,E,cf,e,go,h=>⟨qad (jc a go h).1,λt=>qdB t⟩
 | .lenset a,X,E,cf,e,go,h=>by
  refine Wh (λg x l p h=> ?_) e h
  refine kE (λh=> ?_) l h
  refine kC (λx r h=> ?_) x h
  refine kE (λh=> ?_) r h
  refine Wh (λg2 x l p2 h=> ?_) x h
  refine kE (λh=> ?_) l h
  refine kC (λx r h=> ?_) x h
  refine kE (λh=> ?_) r h
  obtain⟨h1,h2,h3,h4⟩:=a4 h
  exact bo go (Q8 go h1 h2 h3 (jc a go h4).1) λ_=>rfl
 | .meth m a es,X,E,cf,e,go,h=>by
  refine Wh (λg x l p h=> ?_) e h
  refine kE (λh=> ?_) l h
  refine kC (λx r h=> ?_) x h
  refine kE (λh=> ?_) r h
  refine jbk (λo n q h=> ?_) g h
  obtain⟨h1,h2,h3,h4,h5,h6⟩:=a6 h
  cases of_decide_eq_true h1
  exact bo go (xbd go h2 h3 h4 (Xe h6 _ Aa3) (jc a go h5).1 (sndWs es go h6)) λ_=>rfl
theorem sndA: ∀(es:M.Es){X:Cx}{E:XK}{cf:Cf}{xs:List Expr},Go Γ F X E k cf->chkEs cf es xs=k9->PA X xs (xdM Γ E (M.Gq F es))
 | .nil,X,E,cf,xs,go,h=>by
  cases Ae9.mp h
  exact xaZ
 | .cons a es,X,E,cf,xs,go,h=>by
  refine kC (λx r h=> ?_) xs h
  obtain⟨h1,h2,h3⟩:=a3 h
  exact xap h1 (jc a go h2).1 (sndA es go h3)
theorem sndWs: ∀(es:M.Es){X:Cx}{E:XK}{cf:Cf}{xs:List Expr},Go Γ F X E k cf->chkEs cf es xs=k9->PA X xs (xdw Γ E (M.Gg F es))
 | .nil,X,E,cf,xs,go,h=>by
  cases Ae9.mp h
  exact jaU
 | .cons a es,X,E,cf,xs,go,h=>by
  refine kC (λx r h=> ?_) xs h
  obtain⟨h1,h2,h3⟩:=a3 h
  exact jaj h1 (jc a go h2).1 (sndWs es go h3)
theorem sndI: ∀(it:M.It){X:Cx}{E:XK}{cf:Cf}{tg e:Expr},Go Γ F X E k cf->chkIt cf it e=k9->PI X tg e (jdO Γ E y9 (M.Gm F it))
 | .seq a,X,E,cf,tg,e,go,h=>xaU go (jc a go (a2 h).2).1
 | .range1 a,X,E,cf,tg,e,go,h=>by
  refine Wh (λg x l p h=> ?_) e h
  refine kE (λh=> ?_) l h
  refine kC (λx r h=> ?_) x h
  refine kE (λh=> ?_) r h
  obtain⟨h1,h2,h3⟩:=a3 h
  exact jC go h1 h2 (jc a go h3).1
 | .range2 a b,X,E,cf,tg,e,go,h=>by
  refine Wh (λg x l p h=> ?_) e h
  refine kE (λh=> ?_) l h
  refine kC (λx r h=> ?_) x h
  refine kC (λy r h=> ?_) r h
  refine kE (λh=> ?_) r h
  obtain⟨h1,h2,h3,h4,h5⟩:=a5 h
  exact JC go h1 h2 h3 (jc a go h4).1 (jc b go h5).1
 | .rev a,X,E,cf,tg,e,go,h=>by
  refine Wh (λg x l p h=> ?_) e h
  refine kE (λh=> ?_) l h
  refine kC (λx r h=> ?_) x h
  refine kE (λh=> ?_) r h
  obtain⟨h1,h2,h3⟩:=a3 h
  exact qbj go h1 h2 (jc a go h3).1
 | .zip a b,X,E,cf,tg,e,go,h=>qdB h
 | .enum a,X,E,cf,tg,e,go,h=>qdB h
end
end
structure Bs where
 G:Gh
 H:Hp
 h:M.AH
structure StS (Γ:Ge) (B:Bs) (G:Gh) (Y:M.Sl) (h:M.AH) (U:St) (H:Hp):Prop where
 st:StRel Γ G Y h U H
 ext:Ext B.G B.H G H
 hr:HRel Γ B.G B.h B.H
 own: ∀i xs a,M.Gj Y i=y0 (.own xs)->U[i]? =y0 (y0 (.ref a))->B.H a=u0
noncomputable def PostO (a:Ge) (E:XK) (B:Bs) (o:M.O) (D:qbR):Prop:=match o with
 | .next Y h=> ∀G U H,StS a B G Y h U H->D.nx U H
 | .ret w h=> ∀G v H,Ext B.G B.H G H->HRel a G h H->RelW a G H w v->FreshW [] [] B.H w v->D.rt v H
 | .brk Y h=> ∀G U H,StS a B G Y h U H->D.bk U H
 | .cont Y h=> ∀G U H,StS a B G Y h U H->D.ct U H
 | .exc d h=> ∀G H,Ext B.G B.H G H->HRel a G h H->xc9 a E d G H
 | .fail=>False
def qdX (a:Ge) (E:XK) (m:M.Sl->M.AH->M.O):TS:=λD U H=> ∃B G Y h,StS a B G Y h U H/\PostO a E B (m Y h) D
def PS.imp {st:Stmt}(h:PS X st t) (k: ∀D U H,t' D U H->t D U H):PS X st t':=λa s U H D I q=>h a s U H D I (k _ _ _ q)
def PSs.imp {st:List Stmt}(h:PSs X st t) (k: ∀D U H,t' D U H->t D U H):PSs X st t':=λa s U H D I q=>h a s U H D I (k _ _ _ q)
section
variable {Γ:Ge}{E:XK}{B:Bs}{G G1:Gh}{Y:M.Sl}{h h1:M.AH}{U:St}{H H1:Hp}{D:qbR}
def StS.on (s:StS Γ B G Y h U H) (e:Ext G H G1 H1) (a:HRel Γ G1 h1 H1):StS Γ B G1 Y h1 U H1:=⟨s.st.ext e a,s.ext.trans s.hr e,s.hr,s.own⟩
theorem PostO.exc (s:StS Γ B G Y h U H) (p:PostO Γ E B (.exc d h1) D):Post Γ E G H (.exc d h1) P:=λc a e b=>p c a (s.ext.trans s.hr e) b
def wh (s:StS Γ B G Y h U H) (p:PostO Γ E B ((m Y h).toO f) D)
 (k: ∀w v h1 G1 H1,Ext G H G1 H1->StS Γ B G1 Y h1 U H1->RelW Γ G1 H1 w v->FreshW Y U H w v->PostO Γ E B (f w h1) D->Q v H1):tD Γ E m U H Q:=by
 refine⟨G,Y,h,s.st,?_⟩
 cases q:m Y h with
 | ok w h1=>rw [q]at p;exact λG1 H1 e a v b c=>k w v h1 G1 H1 e (s.on e a) b c p
 | exc d h1=>rw [q]at p;exact PostO.exc s p
 | fail=>rw [q]at p;exact p
def X0 (s:StS Γ B G Y h U H) (p:PostO Γ E B ((m Y h).toO f) D)
 (k: ∀b h1 G1 H1,Ext G H G1 H1->StS Γ B G1 Y h1 U H1->PostO Γ E B (f b h1) D->Q b H1):qd3 Γ E m U H Q:=by
 refine⟨G,Y,h,s.st,?_⟩
 cases q:m Y h with
 | ok w h1=>rw [q]at p;exact λG1 H1 e a=>k w h1 G1 H1 e (s.on e a) p
 | exc d h1=>rw [q]at p;exact PostO.exc s p
 | fail=>rw [q]at p;exact p
theorem StS.set (l:StS Γ B G Y h U H) (e:Ext G H G1 H1) (s:StS Γ B G1 Y h1 U H1) (r:RelW Γ G1 H1 w v) (f:FreshW Y U H w v) (t: ∀xs,w≠ .bor xs):StS Γ B G1 (M.GD Y i w) h1 (U.set i (y0 v)) H1:=by
 refine⟨s.st.set r λx j y q g n a u z=> ?_,s.ext,s.hr,λj xs a g k=> ?_⟩
 ·cases w with
  | v d=>cases x
  | bor xs=>exact t xs rfl
  | own xs=>
   obtain⟨b,m,hn⟩:=f
   subst u
   cases m
   obtain⟨o,p⟩:=l.st.slotThere g n z
   rw [hn]at p;cases p
 ·rw [Qd]at g
  by_cases c:j=i/\i<Y.length
  ·rw [if_pos c]at g
   cases g
   obtain⟨rfl,c⟩:=c
   rw [Ad5 (by rw [← s.st.len];exact c)]at k
   cases k
   obtain⟨b,m,hn⟩:=f
   cases m
   exact l.ext.none l.hr hn
  ·rw [if_neg c]at g
   have q:=λz=>c ⟨z,by subst z;exact zm g⟩
   rw [Ad3 (Ne.symm q)]at k
   exact s.own j xs a g k
def StS.fz (a:StS Γ B G Y h U H) (e:Ext G H G1 H1) (s:StS Γ B G1 Y h1 U H1) (r:RelW Γ G1 H1 w v) (f:FreshW Y U H w v) (g:w.d=y0 d): ∃G2,Ext G H G2 H1/\StS Γ B G2 Y h1 U H1/\RelD Γ G2 H1 d v:=by
 obtain⟨G2,b,c,rd,_⟩:=qdT e s.st a.st r f g
 exact⟨G2,b,⟨c,a.ext.trans a.hr b,s.hr,s.own⟩,rd⟩
def StS.setD (s:StS Γ B G Y h U H) (r:RelD Γ G H d v):StS Γ B G (M.GD Y i (.v d)) h (U.set i (y0 v)) H:=StS.set s Ext.refl s r trivial λa z=>by cases z
theorem StS.setTup: ∀ {is}{ds}{a}{Y b}{U},M.setTup is ds Y=y0 b->RelDs Γ G H ds a->StS Γ B G Y h U H->StS Γ B G b h (xa7 is a U) H/\is.length=a.length
 | [],[],_,_,_,_,e,rfl,s=>by cases e;exact⟨s,rfl⟩
 | [],_::_,_,_,_,_,e,_,_=>by simp [M.setTup]at e
 | _::_,[],_,_,_,_,e,_,_=>by simp [M.setTup]at e
 | i::is,d::ds,_,_,_,_,e,⟨v,r,rfl,c,j⟩,s=>by
  obtain⟨g,f⟩:=StS.setTup (by simpa [M.setTup]using e) j (s.setD c)
  exact⟨g,congrArg (· +1) f⟩
def zb9 (e:M.Gp tg one d Y=y0 Y') (r:RelD Γ G H d x) (s:StS Γ B G Y h U H) (b: ∀f,StS Γ B G Y' h f H->Q f H):gM Γ tg one x U H Q:=by
 cases one with
 | true=>
  cases tg with
  | nil=>cases e
  | cons i g=>
   cases g with
   | cons _ _=>cases e
   | nil=>
    cases e
    exact⟨i,rfl,b _ (s.setD r)⟩
 | false=>
  cases d with
  | tup l=>
   obtain⟨a,j,rfl,n,c⟩:=r
   obtain⟨m,k⟩:=StS.setTup (e) c s
   exact⟨G,l,j,a,rfl,n,c,k,b _ m⟩
  | _=>cases e
def StS.write (s:StS Γ B G Y h U H) (g:M.Gj Y i=y0 (.own xs)) (n:U[i]? =y0 (y0 (.ref a))) (r:RelDs Γ G H ys us):StS Γ B G (M.GD Y i (.own ys)) h U (jd7 H a (.lst us)):=by
 obtain⟨O,of,X,Z,_⟩:=jo s.st g n
 have hB:=s.own i xs a g n
 have mon:Mon G H G (jd7 H a (.lst us)):=⟨λb o z q=>by rw [qa (λe:b=a=>O (e▸z))];exact q,Aa5 _,λ_ _=>rfl,λ_ z=>z⟩
 have T:=zm g
 have I:HRel Γ G h (jd7 H a (.lst us)):=by
  refine⟨s.st.heap.len,λq c e=>⟨(s.st.heap.any q c e).1,(s.st.heap.any q c e).2.mon mon λo z=>by rw [qa (of q (s.st.heap.lt e))];exact z⟩,s.st.heap.inj,λb z=> ?_⟩
  obtain⟨o,q⟩:=s.st.heap.live b z
  exact⟨o,by rw [qa (λe:b=a=>O (e▸z))];exact q⟩
 refine⟨⟨by rw [jj];exact s.st.len,λj w e=> ?_,λp q E w b L f l W V=> ?_,I⟩,⟨λb o q A=> ?_,s.ext.le,s.ext.rho,s.ext.new,s.ext.fz,s.ext.old,λq J z=> ?_⟩,s.hr,λj E b f l=> ?_⟩
 ·rw [Qd]at e
  by_cases c:j=i/\i<Y.length
  ·rw [if_pos c]at e
   cases e
   obtain⟨rfl,_⟩:=c
   exact⟨.ref a,n,a,us,rfl,O,of,xb,r.mon mon⟩
  ·rw [if_neg c]at e
   have Q:=λz=>c ⟨z,by subst z;exact zm e⟩
   obtain⟨v,N,y⟩:=s.st.slot j w e
   refine⟨v,N,?_⟩
   cases w with
   | v d=>exact RelD.mon mon y
   | own F=>
    obtain⟨b,bs,rfl,S,P,k,C⟩:=y
    have t:b≠a:=λz=>s.st.apart i j xs (.own F) a (Ne.symm Q) g e rfl n (z▸N)
    exact⟨b,bs,rfl,S,P,by rw [qa t];exact k,C.mon mon⟩
   | bor F=>
    obtain⟨b,bs,rfl,P,k,C⟩:=y
    have t:b≠a:=λz=>s.st.apart i j xs (.bor F) a (Ne.symm Q) g e rfl n (z▸N)
    refine⟨b,bs,rfl,P,?_,C.mon mon⟩
    rcases k with k | ⟨o,k⟩
    ·exact .inl (by rw [qa t];exact k)
    ·exact .inr ⟨o,by rw [qa t];exact k⟩
 ·rw [Qd]at f l
  have x: ∃m,M.Gj Y p=y0 (.own m):=by
   by_cases c:p=i/\i<Y.length
   ·exact⟨xs,by rw [c.1];exact g⟩
   ·rw [if_neg c]at f;exact⟨E,f⟩
  have D: ∃u,M.Gj Y q=y0 u/\zdz u=true:=by
   by_cases c:q=i/\i<Y.length
   ·exact⟨.own xs,by rw [c.1];exact g,rfl⟩
   ·rw [if_neg c]at l;exact⟨w,l,W⟩
  obtain⟨m,x⟩:=x
  obtain⟨u,D,K⟩:=D
  exact s.st.apart p q m u b L x D K V
 ·rw [qa (λe:b=a=>by rw [e,hB]at q;cases q)]
  exact s.ext.keep b o q A
 ·obtain⟨o,R⟩:=s.ext.cells q J z
  have:B.G.rho q≠a:=λe=>by
   have:=of q (Ab1 J s.ext.le)
   rw [s.ext.rho q J]at this
   exact this e
  exact⟨o,by rw [qa this];exact R⟩
 ·rw [Qd]at f
  by_cases c:j=i/\i<Y.length
  ·obtain⟨rfl,_⟩:=c
   rw [n]at l
   cases l
   exact hB
  ·rw [if_neg c]at f;exact s.own j E b f l
def StS.acell (s:StS Γ B G Y h U H) (p:h[r]? =y0 c0) (z:CellRel Γ G (jd7 H (G.rho r) o1) (G.rho r) c1):StS Γ B G Y (h.set r c1) U (jd7 H (G.rho r) o1):=by
 have E:=(Ac2.mp p).1
 have f:=s.st.heap.lt p
 have n:=s.st.heap.nfz f
 have mon:Mon G H G (jd7 H (G.rho r) o1):=⟨λb o w q=>by rw [qa (λe:b=G.rho r=>n (e▸w))];exact q,Aa5 _,λ_ _=>rfl,λ_ w=>w⟩
 have m:HRel Γ G (h.set r c1) (jd7 H (G.rho r) o1):=by
  refine⟨by rw [Ae7];exact s.st.heap.len,λq c e=> ?_,s.st.heap.inj,λb w=> ?_⟩
  ·by_cases c:q=r
   ·subst c
    rw [Ad5 E]at e
    cases e
    exact⟨n,z⟩
   ·rw [Ad3 (Ne.symm c)]at e
    exact⟨(s.st.heap.any q _ e).1,(s.st.heap.any q _ e).2.mon mon λo w=>by rw [qa λA=>c (s.st.heap.inj q r (s.st.heap.lt e) f A)];exact w⟩
  ·obtain⟨o,q⟩:=s.st.heap.live b w
   exact⟨o,by rw [qa (λe:b=G.rho r=>n (e▸w))];exact q⟩
 refine⟨⟨s.st.len,λj w e=> ?_,s.st.apart,m⟩,⟨λb o q i=> ?_,s.ext.le,s.ext.rho,s.ext.new,s.ext.fz,s.ext.old,λq y w=> ?_⟩,s.hr,s.own⟩
 ·obtain⟨v,C,k⟩:=s.st.slot j w e
  refine⟨v,C,?_⟩
  cases w with
  | v d=>exact RelD.mon mon k
  | own x=>
   obtain⟨b,bs,rfl,u,g,a,l⟩:=k
   exact⟨b,bs,rfl,u,g,by rw [qa (Ne.symm (g r f))];exact a,l.mon mon⟩
  | bor x=>
   obtain⟨b,bs,rfl,g,a,l⟩:=k
   refine⟨b,bs,rfl,g,?_,l.mon mon⟩
   rcases a with a | ⟨o,a⟩
   ·exact .inl (by rw [qa (Ne.symm (g r f))];exact a)
   ·exact .inr ⟨o,by rw [qa (Ne.symm (g r f))];exact a⟩
 ·have t:b≠G.rho r:=λe=>by
   by_cases c:r<B.G.n
   ·exact i r c (by rw [← s.ext.rho r c];exact e.symm)
   ·have:=s.ext.new r (Am2.mp c) f
    rw [← e,q]at this
    cases this
  rw [qa t]
  exact s.ext.keep b o q i
 ·by_cases c:B.G.rho q=G.rho r
  ·exact⟨_,by rw [c];exact xb⟩
  ·obtain⟨o,D⟩:=s.ext.cells q y w
   exact⟨o,by rw [qa c];exact D⟩
def Q1 (a:HRel Γ G h H) (c:r<G.n) (o):Mon G H G (jd7 H (G.rho r) o):=⟨λb o w q=>by rw [qa (λe:b=G.rho r=>a.nfz c (e▸w))];exact q,Aa5 _,λ_ _=>rfl,λ_ w=>w⟩
def StS.cell (s:StS Γ B G Y h U H) (a:h[r]? =y0 (.lst xs)) (b:M.Gf ys=k9) (z:RelDs Γ G H ys us):StS Γ B G Y (h.set r (.lst ys)) U (jd7 H (G.rho r) (.lst us)):=
 s.acell a ⟨b,us,xb,z.mon (Q1 s.st.heap (s.st.heap.lt a) _)⟩
def StS.dcell (s:StS Γ B G Y h U H) (a:h[r]? =y0 (.dic xs)) (c:us.map (·.1)=ys) (z: ∀x∈us,RelD Γ G H (xd6 x.1) (.ref x.2.1)):StS Γ B G Y (h.set r (.dic ys)) U (jd7 H (G.rho r) (DW (G.rho r) us)):=
 s.acell a ⟨us,xb,c,λx b=>(z x b).mon (Q1 s.st.heap (s.st.heap.lt a) _)⟩
def StS.freeze (s:StS Γ B G Y h U H) (k:M.Gj Y i=y0 (.own xs)): ∃G',StS Γ B G' (M.GD Y i (.v (.lst xs))) h U H:=by
 obtain⟨v,n,a,u,rfl,E,of,r,x⟩:=s.st.slot i _ k
 have hB:=s.own i xs a k n
 refine⟨G.more a,⟨⟨by rw [jj];exact s.st.len,λj w e=> ?_,λp q l w b m d f g y=> ?_,s.st.heap.more of ⟨_,r⟩⟩,s.ext.more hB,s.hr,λj l b d f=> ?_⟩⟩
 ·rw [Qd]at e
  by_cases c:j=i/\i<Y.length
  ·rw [if_pos c]at e
   cases e
   obtain⟨rfl,_⟩:=c
   exact⟨.ref a,n,a,u,rfl,.inl ⟨.inr rfl,.inl r⟩,x.mon (Xm a)⟩
  ·rw [if_neg c]at e
   have A:=λz=>c ⟨z,by subst z;exact zm e⟩
   obtain⟨v,t,D⟩:=s.st.slot j w e
   exact⟨v,t,D.more λg C=>s.st.apart i j xs w a (Ne.symm A) k e g n (C▸t)⟩
 ·rw [Qd]at d f
  by_cases c:p=i/\i<Y.length
  ·rw [if_pos c]at d;cases d
  ·rw [if_neg c]at d
   by_cases o:q=i/\i<Y.length
   ·rw [if_pos o]at f;cases f;cases g
   ·rw [if_neg o]at f;exact s.st.apart p q l w b m d f g y
 ·rw [Qd]at d
  by_cases c:j=i/\i<Y.length
  ·rw [if_pos c]at d;cases d
  ·rw [if_neg c]at d;exact s.own j l b d f
end
structure xdW (Γ:Ge) (F:M.Fx) (X:Cx) (E:XK) (k:Nat) (cf:Cf):Prop extends Go Γ F X E k cf where
 pown:PassesOwn (model X.prog X.w) X.A X.env X.xe
 stk:X.stack=X.env::X.outer
 frm:X.env.frame=y0 X.env.locals
 ex:X.ex= []
 rai: ∀c,cf.rai.contains c=true->jdU cf.sc (zg c)=true->(zg c==("__debug__" :Str))=false->jdZ Γ c/\ ∀(np y7 pos:Pos) (e:Expr) (es:List Expr) (t:TA),PA X (e::es) t->(∀ e'∈e::es,Qa e'=true) →
  PS X (.Raise (y0 (.Call (.Name (zg c) np) (e::es) [] y7)) u0 pos) (xbr (Γ.ca c) E t)
 rfi: ∀c f,cf.ob.er.contains (c,f)=true->jdU cf.sc (zg c)=true->(zg c==("__debug__" :Str))=false->jdZ Γ c/\xcD Γ.K (Γ.ca c) (zg f)/\ ∀(np y7 pos:Pos) (e:Expr) (t:TA),PA X [e] t->Qa e=true →
  PS X (.Raise (y0 (.Call (.Name (zg c) np) [e] [] y7)) u0 pos) (jan (Γ.ca c) (zg f) E t)
 hnd: ∀c,cf.hnd.contains c=true->PySem.W.mroIn X.K (Γ.ca c) (.type "BaseException")=some true/\cf.own.contains c=true
section
variable {Γ:Ge}{F:M.Fx}{X:Cx}{E:XK}{k:Nat}{cf:Cf}
def Wt (h:Xt cf i x=k9):cf.N[i]? =y0 x/\jbW cf.sc x=true:=by
 simpa [Xt]using h
def qG (h:zy cf i x=k9):cf.N[i]? =y0 x/\cf.sc.names.lookup x=y0 .local:=by
 simpa [zy]using h
def xbb (y:tD Γ E (M.eval F (.share a)) U H Q):tD Γ E (M.eval F a) U H Q:=by
 obtain⟨G,Y,h,s,p⟩:=y
 refine Ja s.heap Ext.refl s p λo B c g z m w i k j b=> ?_
 cases o with
 | own e=>
  obtain⟨l,A,rfl,x,r,q,n⟩:=k
  obtain⟨C,u,t⟩:=j
  cases u
  have b:Post Γ E G H (if M.Gf e=k9 then M.okv (.ref c.length) (c++ [.lst e])else .fail) _:=b
  by_cases f:M.Gf e=k9
  rotate_left
  ·rw [if_neg f]at b;exact b.elim
  rw [if_pos f]at b
  refine Post.val b (xy m t) (ZO i.heap x r q n f) ?_ trivial
  show c.length<g.n+1/\V.ref l= .ref (if c.length=g.n then l else g.rho c.length)
  rw [i.heap.len,if_pos rfl]
  exact⟨Ag7 _,rfl⟩
 | v d=>exact b.elim
 | bor e=>exact b.elim
def zc (h:Qo v=k9):swapsWith v t l env=pure false:=by
 cases v<;>first | rfl | (simp [Qo]at h)
def QQ (go:Go Γ F X E k cf)(a:Xt cf i x=k9) (d:PE X v (tD Γ E (M.eval F m))) (e:swapsWith v (y0 (.Name x p)) pos.line X.env=pure y9):
 PS X (.Assign [.Name x p] v pos) (zbD (tD Γ E (M.eval F m)) (QR i)):=by
 obtain⟨c,b⟩:=Wt a
 have a:=go.sto x b
 exact xaA (by rw [go.N];exact go.nd) (by rw [go.N];exact c) a.1 d e a.2
def jda:M.E->Bool
 | .share _=>k9
 | .comp .. =>k9
 | _=>y9
def jaV (h:xc cf m v=k9) (a:jda m=y9):Qo v=true:=by
 cases v with
 | ListComp _ _ _ _=>cases m<;>first | exact qdB h | (exact absurd (a) Ap3)
 | SetComp _ _ _ _=>cases m<;>first | exact qdB h | (exact absurd (a) Ap3)
 | DictComp _ _ _ _ _=>cases m<;>first | exact qdB h | (exact absurd (a) Ap3)
 | _=>rfl
def qdt (d:Cf) (a:Bool) (b:List Expr) (c:M.E):Bool:=bif a then(lC b λz r=>kZ r (zdS c&&xc d c z))else b.isEmpty
def qa7 (h:xc cf (.comp tg one kk cap it v7 c elt) v=k9): ∃y t iter ifs scope p0,v= .ListComp y [⟨t,iter,ifs,0⟩] scope p0 ∧
 zcb cf scope (qr cf t cap) kk cap/\(∀ i∈tg,i<kk)/\Qe { cf with sc:=scope,N:=qr cf t cap } tg one t=k9/\chkIt cf it iter=k9/\xc { cf with sc:=scope,N:=qr cf t cap } elt y=k9 ∧
 qdt { cf with sc:=scope,N:=qr cf t cap } v7 ifs c=true:=by
 refine jcM (λy g s p h=> ?_) v h
 refine kC (λg r h=> ?_) g h
 obtain⟨t,iter,ifs,z⟩:=g
 obtain⟨k,e,a,j,d,f,b⟩:=a7 h
 obtain⟨rfl,rfl⟩:=of_decide_eq_true k
 simp only [Ad7,decide_eq_true_eq]at a
 exact⟨y,t,iter,ifs,s,p,rfl,ZD e,a,j,d,f,b⟩
def qbf (go:Go Γ F X E k cf)(q:Xt cf i x=k9)(h:xc cf (.comp tg one kk cap it v7 c elt) v=k9):
 PS X (.Assign [.Name x p] v pos) (zbD (tD Γ E (M.eval F (.comp tg one kk cap it v7 c elt))) (QR i)):=by
 have B:=(jc (.comp tg one kk cap it v7 c elt) go h).1
 obtain⟨y,t,e,d,a,u,rfl,j,N,P,o,O,n⟩:=qa7 h
 obtain⟨b,m⟩: ∃b,swapsWith (.ListComp y [⟨t,e,d,0⟩] a u) (y0 (.Name x p)) pos.line X.env=pure b:=⟨_,rfl⟩
 cases b with
 | false=>exact QQ go q B m
 | true=>
  obtain⟨w,K⟩:=Wt q
  have D: ∀C g s H,jd3 (zd X (qr cf t cap) a C g s H) d (qd3 Γ E0 (Q9 F v7 c)):=λC g s H=>by
   have J:=Xw go j C g s H
   cases v7 with
   | true=>
    refine kC (λz r h=> ?_) d n
    refine kE (λh=> ?_) r h
    exact jaB ((jc c J (a2 h).2).2 (a2 h).1)
   | false=>
    cases Ae9.mp n
    intro f L U l Q I ⟨G,Y,h,A,p⟩
    exact jac f L U l Q I (p G l Ext.refl A.heap)
  exact jU go w K m j (zD j.cap) P N (XS o) (sndI it go o) (λC g s H=>(jc elt (Xw go j C g s H) O).1) D
def Xb (go:Go Γ F X E k cf)(b:Xt cf i x=k9)(h:xc cf m v=k9) (a:jda m=y9):PS X (.Assign [.Name x p] v pos) (zbD (tD Γ E (M.eval F m)) (QR i)):=
 QQ go b (jc m go h).1 (zc (jaV h a))
theorem zam (go:Go Γ F X E k cf)(b:Xt cf i x=k9): ∀ m,xc cf m v=k9->PS X (.Assign [.Name x p] v pos) (zbD (tD Γ E (M.eval F m)) (QR i))
 | .share a,h=>PS.imp (zam go b a h) λD U H q=>xbb q
 | .comp ..,h=>qbf go b h
 | .dnew,h=>Xb go b h rfl
 | .din ..,h=>Xb go b h rfl
 | .dnewI,h=>Xb go b h rfl
 | .dinI ..,h=>Xb go b h rfl
 | .dlen _,h=>Xb go b h rfl
 | .var _,h=>Xb go b h rfl
 | .con _,h=>Xb go b h rfl
 | .int _,h=>Xb go b h rfl
 | .bl _,h=>Xb go b h rfl
 | .non,h=>Xb go b h rfl
 | .str _,h=>Xb go b h rfl
 | .tup _,h=>Xb go b h rfl
 | .lst _,h=>Xb go b h rfl
 | .bin ..,h=>Xb go b h rfl
 | .cmp ..,h=>Xb go b h rfl
 | .chain ..,h=>Xb go b h rfl
 | .isn ..,h=>Xb go b h rfl
 | .neg _,h=>Xb go b h rfl
 | .inv _,h=>Xb go b h rfl
 | .not _,h=>Xb go b h rfl
 | .and ..,h=>Xb go b h rfl
 | .or ..,h=>Xb go b h rfl
 | .call ..,h=>Xb go b h rfl
 | .bi ..,h=>Xb go b h rfl
 | .isT ..,h=>Xb go b h rfl
 | .ix ..,h=>Xb go b h rfl
 | .sl ..,h=>Xb go b h rfl
 | .slL ..,h=>Xb go b h rfl
 | .slH ..,h=>Xb go b h rfl
 | .lenset _,h=>Xb go b h rfl
 | .meth ..,h=>Xb go b h rfl
def qa8 (go:Go Γ F X E k cf)(o:Xt cf i x=k9)(h:xc cf m v=k9):PS X (.Assign [.Name x p] v pos) (qdX Γ E (M.exec F (.set i m))):=by
 refine PS.imp (zam go o m h) λD U H n=> ?_
 obtain⟨B,G,Y,h,s,p⟩:=n
 refine wh s p λw v q l b g j f c a=> ?_
 cases w with
 | bor e=>exact a.elim
 | v d=>exact a l _ b (StS.set s g j f c λe z=>by cases z)
 | own r=>exact a l _ b (StS.set s g j f c λe z=>by cases z)
def jak (go:Go Γ F X E k cf)(o:Xt cf i x=k9)(h:xc cf m v=k9):PS X (.Assign [.Name x p] v pos) (qdX Γ E (M.exec F (.setf i m))):=by
 refine PS.imp (zam go o m h) λD U H j=> ?_
 obtain⟨B,G,Y,h,s,p⟩:=j
 refine wh s p λw v r u b g l e c a=> ?_
 cases q:w.d with
 | none=>rw [q]at a;exact a.elim
 | some d=>
  rw [q]at a
  obtain⟨n,t,f,rd⟩:=StS.fz s g l e c q
  exact a n _ b (f.setD rd)
def XR :swapsWithSole [.Tuple ts n p] v l env=pure false:=by
 cases v<;>rfl
def WA (h:ji v=k9):swappedStores [.Tuple ts n p] v env=pure none:=by
 cases v<;>first | rfl | (simp [ji]at h)
def qa5 (go:Go Γ F X E k cf)(j:xn cf is ts=k9) (o:ji v=k9)(h:xc cf m v=k9):PS X (.Assign [.Tuple ts n p] v pos) (qdX Γ E (M.exec F (.unp is m))):=by
 refine PS.imp (WP (jc m go h).1 (Zo go (one:=y9) j) XR (WA o) rfl) λD U H i=> ?_
 obtain⟨B,G,Y,h,s,p⟩:=i
 refine wh s p λw v t u e y r f x a=> ?_
 cases w with
 | v d=>
  cases d with
  | tup c=>
   have a:PostO Γ E B (match M.setTup is c Y with | some b=> .next b t | none=> .fail) D:=a
   cases q:M.setTup is c Y with
   | none=>rw [q]at a;exact a.elim
   | some b=>
    rw [q]at a
    exact zb9 (show M.Gp is y9 (.tup c) Y=y0 b from q) f r λg l=>a u g e l
  | _=>exact a.elim
 | own _=>exact a.elim
 | bor _=>exact a.elim
def QD :swapsWithSole [.Subscript x y p] v l env=pure false:=by
 cases v<;>rfl
def Jv :swappedStores [.Subscript x y p] v env=pure none:=by
 cases v<;>rfl
def JV (c:Je y=k9) (v):assign (.Subscript x y p) env v=(do
 let a ←holding [v] (eval x env)
 let b ←holding [v,a] (eval y env)
 standAt p
 holding [v,a,b] (setItem a b v)
 release [v,a,b] []):=by
 cases y<;>first | rfl | (simp [Je]at c)
def jba (a:M.KL d=k9) (z:RelD Γ G H d v):RelD Γ G' H' d v:=by
 cases d with
 | non=>exact z
 | bl _=>exact z
 | int _=>exact z
 | str _=>exact z
 | _=>exact absurd (a) Ab6
def qu (h:Wn cf i m e y7=k9): ∃x p apos,e= .Attribute (.Name x p) m apos/\cf.N[i]? =y0 x/\QM cf.sc x=k9/\xdB x=k9/\(apos.endLine==y7.line)=true:=by
 refine jbk (λx n q h=> ?_) e h
 refine Zm (λx p h=> ?_) x h
 obtain⟨h,f,c⟩:=a3 h
 obtain⟨b,a,d⟩:=xaS h
 cases of_decide_eq_true f
 exact⟨_,_,_,rfl,b,a,d,c⟩
def qbl (go:Go Γ F X E k cf)(L:Wn cf i "append" f y7=true) (j:Qa v=true)(h:xc cf m v=true):PS X (.Expr (.Call f [v] [] y7) pos) (qdX Γ E (M.exec F (.app i m))):=by
 obtain⟨x,p,o,rfl,n,S,c,N⟩:=qu L
 unfold xdB at c
 rw [Aa7]at c
 have pv:=Jk (pos:=p) (by rw [go.N];exact n) (go.vis x S) (by simpa using c.1) (by simpa using c.2)
 refine PS.imp (JK (xbJ PySem.F.plainAttrs_list PySem.F.slot_list_append PySem.F.type_list_append jO pv (Jc (jc m go h).1 Jh (ja j)) rfl (by rw [ja j];rfl) N (ja j) rfl) (zc rfl)) λD U H O=> ?_
 obtain⟨B,G,Y,h,s,p⟩:=O
 rw [M.exec]at p
 cases q:M.Gj Y i with
 | none=>rw [q]at p;exact p.elim
 | some J=>
  rw [q]at p
  cases J with
  | v d=>exact p.elim
  | bor e=>exact p.elim
  | own e=>
   obtain⟨v0,g,a,z,rfl,z2,z3,Q,W⟩:=s.st.slot i _ q
   refine⟨.ref a,g,.inl ⟨rfl,z,SqL.of Q⟩,?_⟩
   refine wh s p λw v n G1 V I R C A b=> ?_
   cases l:w.d with
   | none=>rw [l]at b;exact b.elim
   | some d=>
    rw [l]at b
    obtain⟨T,e2,r,rd⟩:=StS.fz s I R C A l
    have b:PostO Γ E B (if e.length<M.LIM then .next (M.GD Y i (.own (e++ [d]))) n else .fail) D:=b
    by_cases y:e.length<M.LIM
    ·rw [if_pos y]at b
     obtain⟨Z,of,K,P,t⟩:=jo r.st q g
     have u:=t.length
     exact⟨a,K,v,rfl,rfl,P,by have:=xi;omega,b T U _ (r.write q g (t.append ⟨v,[],rfl,rd,rfl⟩))⟩
    ·rw [if_neg y]at b;exact b.elim
def xa9 (go:Go Γ F X E k cf)(P:Wn cf i "extend" f y7=true) (o:Qa v=true)(h:xc cf m v=true):PS X (.Expr (.Call f [v] [] y7) pos) (qdX Γ E (M.exec F (.ext i m))):=by
 obtain⟨x,p,y,rfl,u,V,j,Q⟩:=qu P
 unfold xdB at j
 rw [Aa7]at j
 have pv:=Jk (pos:=p) (by rw [go.N];exact u) (go.vis x V) (by simpa using j.1) (by simpa using j.2)
 refine PS.imp (JK (xbJ PySem.F.plainAttrs_list PySem.F.slot_list_extend PySem.F.type_list_extend zai pv (Jc (jc m go h).1 Jh (ja o)) rfl (by rw [ja o];rfl) Q (ja o) rfl) (zc rfl)) λD U H R=> ?_
 obtain⟨B,G,Y,h,s,p⟩:=R
 rw [M.exec]at p
 cases q:M.Gj Y i with
 | none=>rw [q]at p;exact p.elim
 | some N=>
  rw [q]at p
  cases N with
  | v d=>exact p.elim
  | bor l=>exact p.elim
  | own l=>
   obtain⟨v0,n,a,J,rfl,z2,z3,T,z5⟩:=s.st.slot i _ q
   refine⟨.ref a,n,.inl ⟨rfl,J,SqL.of T⟩,?_⟩
   refine wh s p λw v u W Z e1 C K f1 c=> ?_
   cases w with
   | v d=>exact c.elim
   | bor g=>exact c.elim
   | own g=>
    obtain⟨b,t,rfl,_,_,L,e⟩:=K
    have c:PostO Γ E B (if l.length+g.length<M.LIM then .next (M.GD Y i (.own (l++g))) u else .fail) D:=c
    by_cases I:l.length+g.length<M.LIM
    ·rw [if_pos I]at c
     obtain⟨nf,of,O,S,z⟩:=jo C.st q n
     have A:=z.length
     have r:=e.length
     exact⟨a,b,O,t,rfl,rfl,S,L,by have:=xi;omega,c W U _ (C.write q n (z.append e))⟩
    ·rw [if_neg I]at c;exact c.elim
def xay (r:RelDs Γ G H D vs)(e:D[D.length-1]? =y0 d): ∃v,vs[vs.length-1]? =y0 v/\RelD Γ G H d v/\RelDs Γ G H (D.take (D.length-1)) vs.dropLast:=by
 obtain⟨v,a,c⟩:=RelDs.get r e
 have b:=r.length
 rw [b]at a
 refine⟨v,a,c,?_⟩
 rw [List.dropLast_eq_take,←b]
 exact r.take _
theorem Jq: ∀ {xs ys},M.Gf xs=k9->M.Gf ys=k9->M.Gf (xs++ys)=k9
 | [],_,_,h=>h
 | x::xs,ys,h,a=>by
  have h:=h
  rw [Aa7]at h
  show(M.Gc x&&M.Gf (xs++ys))=k9
  rw [h.1,Jq h.2 a];rfl
theorem js: ∀ {xs}(n),M.Gf xs=k9->M.Gf (xs.take n)=k9
 | _,0,_=>by rw [List.take_zero]
 | [],n+1,_=>rfl
 | x::xs,n+1,h=>by
  have h:=h
  rw [Aa7]at h
  show(M.Gc x&&M.Gf (xs.take n))=k9
  rw [h.1,js n h.2];rfl
def zak (go:Go Γ F X E k cf)(Q:Wn cf i "append" f y7=true) (j:Qa v=true)(h:xc cf m v=true):PS X (.Expr (.Call f [v] [] y7) pos) (qdX Γ E (M.exec F (.appR i m))):=by
 obtain⟨x,p,o,rfl,A,h2,c,S⟩:=qu Q
 unfold xdB at c
 rw [Aa7]at c
 have pv:=Jk (pos:=p) (by rw [go.N];exact A) (go.vis x h2) (by simpa using c.1) (by simpa using c.2)
 refine PS.imp (JK (xbJ PySem.F.plainAttrs_list PySem.F.slot_list_append PySem.F.type_list_append jO pv (Jc (jc m go h).1 Jh (ja j)) rfl (by rw [ja j];rfl) S (ja j) rfl) (zc rfl)) λD U H V=> ?_
 obtain⟨B,G,Y,h,s,p⟩:=V
 rw [M.exec]at p
 cases q:M.cellD h (M.Gj Y i)with
 | none=>rw [q]at p;exact p.elim
 | some T=>
  obtain⟨r0,O⟩:=T
  rw [q]at p
  obtain⟨z,l,e,_⟩:=Jt s.st q
  refine⟨_,z,.inl ⟨rfl,l,SqL.of e⟩,?_⟩
  refine wh s p λw v A G1 H1 L Z K J a=> ?_
  split at a
  ·rename_i d r u R I
   obtain⟨G2,e2,g,rd⟩:=StS.fz s L Z K J R
   by_cases n:u.length<M.LIM/\M.Gc d=k9
   ·rw [if_pos n]at a
    obtain⟨b,P,N,y⟩:=Jt g.st I
    obtain⟨q1,C⟩:=ju I
    have t:=y.length
    have W:=by rw [z]at b;exact Ae5.inj (Ae5.inj b)
    exact⟨_,P,v,W,rfl,N,by have:=xi;omega,a G2 U _ (g.cell C (Jq (g.st.heap.pure r u C) (by show(M.Gc d&&k9)=k9;rw [n.2];rfl)) (y.append ⟨v,[],rfl,rd,rfl⟩))⟩
   ·rw [if_neg n]at a;exact a.elim
  ·exact a.elim
def StS.cellD (s:StS Γ B G Y h U H)(a:h[r]? =y0 (.lst xs))(rd:RelD Γ G H d v):RelD Γ G (jd7 H (G.rho r) (.lst us)) d v:=by
 obtain⟨c,f,g,_⟩:=s.st.heap.cell r xs a
 exact rd.mon ⟨λb o w q=>by rw [qa (λe:b=G.rho r=>c (e▸w))];exact q,Aa5 _,λ_ _=>rfl,λ_ w=>w⟩
def qai (go:Go Γ F X E k cf)(a:Xt cf j x0=true) (w:Wn cf i "pop" f y7=true):PS X (.Assign [.Name x0 p0] (.Call f [] [] y7) pos) (qdX Γ E (M.exec F (.popR i j))):=by
 obtain⟨x,p,l,rfl,K,J,b,z⟩:=qu w
 unfold xdB at b
 rw [Aa7]at b
 have pv:=Jk (pos:=p) (by rw [go.N];exact K) (go.vis x J) (by simpa using b.1) (by simpa using b.2)
 obtain⟨t,I⟩:=Wt a
 have a:=go.sto x0 I
 refine PS.imp (xaA (by rw [go.N];exact go.nd) (by rw [go.N];exact t) a.1 (qbC PySem.F.plainAttrs_list PySem.F.slot_list_pop PySem.F.type_list_pop jbo pv rfl z) (zc rfl) a.2) λD U H C=> ?_
 obtain⟨B,G,Y,h,s,p⟩:=C
 rw [M.exec]at p
 cases q:M.cellD h (M.Gj Y i)with
 | none=>rw [q]at p;exact p.elim
 | some A=>
  obtain⟨r,g⟩:=A
  rw [q]at p
  obtain⟨u,m,n,rv⟩:=Jt s.st q
  obtain⟨L,e⟩:=ju q
  refine⟨_,u,.inl ⟨rfl,m,SqL.of n⟩,?_⟩
  cases c:g[g.length-1]? with
  | none=>simp only [c]at p;exact p.elim
  | some d=>
   simp only [c]at p
   obtain⟨y,v,rd,o⟩:=xay rv c
   exact⟨_,m,y,rfl,rfl,n,v,p G _ _ ((s.cell e (js _ (s.st.heap.pure r g e)) o).setD (s.cellD e rd))⟩
def xaJ (go:Go Γ F X E k cf)(K:xn cf is ts=true) (z:Wn cf i "pop" f y7=true):PS X (.Assign [.Tuple ts n p0] (.Call f [] [] y7) pos) (qdX Γ E (M.exec F (.popU i is))):=by
 obtain⟨x,p,m,rfl,O,N,b,C⟩:=qu z
 unfold xdB at b
 rw [Aa7]at b
 have pv:=Jk (pos:=p) (by rw [go.N];exact O) (go.vis x N) (by simpa using b.1) (by simpa using b.2)
 refine PS.imp (WP (qbC PySem.F.plainAttrs_list PySem.F.slot_list_pop PySem.F.type_list_pop jbo pv rfl C) (Zo go (one:=y9) K) XR (WA rfl) rfl) λD U H J=> ?_
 obtain⟨B,G,Y,h,s,p⟩:=J
 rw [M.exec]at p
 cases q:M.cellD h (M.Gj Y i)with
 | none=>rw [q]at p;exact p.elim
 | some I=>
  obtain⟨r,a⟩:=I
  rw [q]at p
  obtain⟨v,o,t,rv⟩:=Jt s.st q
  obtain⟨P,g⟩:=ju q
  refine⟨_,v,.inl ⟨rfl,o,SqL.of t⟩,?_⟩
  cases c:a[a.length-1]? with
  | none=>simp only [c]at p;exact p.elim
  | some d=>
   simp only [c]at p
   cases d with
   | tup l=>
    have p:PostO Γ E B (match M.setTup is l Y with
     | some j=> .next j (h.set r (.lst (a.take (a.length-1))))
     | none=> .fail) D:=p
    cases e:M.setTup is l Y with
    | none=>rw [e]at p;exact p.elim
    | some j=>
     rw [e]at p
     obtain⟨y,w,rd,u⟩:=xay rv c
     refine⟨_,o,y,rfl,rfl,t,w,?_⟩
     exact zb9 (show M.Gp is y9 (.tup l) Y=y0 j from e) (s.cellD g rd) (s.cell g (js _ (s.st.heap.pure r a g)) u) λA L=>p G A _ L
   | non=>exact p.elim
   | bl _=>exact p.elim
   | int _=>exact p.elim
   | str _=>exact p.elim
   | lst _=>exact p.elim
   | ref _=>exact p.elim
   | exc _ _=>exact p.elim
   | err _ _ _=>exact p.elim
def zap (go:Go Γ F X E k cf)(h1:cf.N[i]? =y0 x) (h2:QM cf.sc x=k9) (A:xdB x=k9) (u:Je y=k9)(K:xc cf kx y=k9) (h:xc cf (.bl k9) v=k9):PS X (.Assign [.Subscript (.Name x p) y p2] v pos) (qdX Γ E (M.exec F (.dput i kx))):=by
 refine PS.imp (WP (jc (.bl k9) go h).1 (jaz (xt go h1 h2 A) (jc kx go K).1 (jaT go.K (by have:=go.room.un;omega)) (JV u)) QD Jv rfl) λD U H J=> ?_
 obtain⟨B,G,Y,h,s,p⟩:=J
 rw [M.exec]at p
 refine⟨G,Y,h,s.st,?_⟩
 intro T V t e W rv0 _
 have j:=s.on t e
 cases q:M.KT h (M.Gj Y i)with
 | none=>rw [q]at p;exact p.elim
 | some C=>
  obtain⟨R,o⟩:=C
  rw [q]at p
  have sl:=wu j.st q
  refine⟨_,sl,?_⟩
  refine wh j p λw iv h1 l O S g m P a=> ?_
  split at a
  ·rename_i d
   split at a
   ·rename_i N r z L f
    split at a
    ·rename_i Z
     have b:=wu g.st f
     have c:=by rw [sl]at b;exact Ae5.inj (Ae5.inj b)
     refine⟨l,h1,N,r,z,g.st.heap,ZU L▸m,c,(zq f).2,by have:=xi;omega,λQ I n=> ?_⟩
     exact a l U _ (g.dcell (zq f).2 I n)
    ·exact a.elim
   ·exact a.elim
  ·exact a.elim
def zaa (go:Go Γ F X E k cf)(h1:cf.N[i]? =y0 x) (h2:QM cf.sc x=k9) (u:xdB x=k9) (o:Je y=k9)(C:xc cf kx y=k9) (h:xc cf (.bl k9) v=k9):PS X (.Assign [.Subscript (.Name x p) y p2] v pos) (qdX Γ E (M.exec F (.dputI i kx))):=by
 refine PS.imp (WP (jc (.bl k9) go h).1 (jaz (xt go h1 h2 u) (jc kx go C).1 qbg (JV o)) QD Jv rfl) λD U H A=> ?_
 obtain⟨B,G,Y,h,s,p⟩:=A
 rw [M.exec]at p
 refine⟨G,Y,h,s.st,?_⟩
 intro P Q n e R rv0 _
 have f:=s.on n e
 cases q:M.K4 h (M.Gj Y i)with
 | none=>rw [q]at p;exact p.elim
 | some z=>
  obtain⟨N,m⟩:=z
  rw [q]at p
  have sl:=(Qq f.st q).1
  refine⟨_,sl,?_⟩
  refine wh f p λw T h1 I K O j l L b=> ?_
  split at b
  ·rename_i J r t g
   split at b
   ·rename_i S
    obtain⟨a,c⟩:=Qq j.st g
    have d:=by rw [sl]at a;exact Ae5.inj (Ae5.inj a)
    cases l
    exact⟨J,_,t,rfl,d,rv0,c,by have:=xi;omega,b I U _ (j.acell (jY g).2 xb)⟩
   ·exact b.elim
  ·exact b.elim
def W9 (go:Go Γ F X E k cf)(h1:cf.N[i]? =y0 x) (h2:QM cf.sc x=k9) (c:xdB x=k9) (u:Je y=k9)(L:xc cf kx y=k9) (h:xc cf m v=k9):PS X (.Assign [.Subscript (.Name x p) y p2] v pos) (qdX Γ E (M.exec F (.setix i kx m))):=by
 unfold xdB at c
 rw [Aa7]at c
 have pv:=Jk (pos:=p) (by rw [go.N];exact h1) (go.vis x h2) (by simpa using c.1) (by simpa using c.2)
 refine PS.imp (WP (jc m go h).1 (jaz pv (jc kx go L).1 ja0 (JV u)) QD Jv rfl) λD U H I=> ?_
 obtain⟨B,G,Y,h,s,p⟩:=I
 refine wh s p λw v h1 G1 P S l r R b=> ?_
 cases q:M.Gj Y i with
 | none=>rw [q]at b;exact b.elim
 | some t=>
  rw [q]at b
  cases t with
  | v d=>exact b.elim
  | bor O=>exact b.elim
  | own O=>
   obtain⟨v0,e,a,Q,rfl,z2,z3,W,V⟩:=l.st.slot i _ q
   refine⟨.ref a,e,?_⟩
   refine wh l b λkw iv h2 o K e2 f C T p2=> ?_
   split at p2
   ·rename_i d j
    split at p2
    ·rename_i A
     split at p2
     ·rename_i n N
      cases (C)
      have rd:RelD Γ o K d v:=jba A r
      obtain⟨Z,of,z,J,g⟩:=jo f.st q e
      refine⟨_,z,j,n,rfl,rfl,J,by rw [← g.length];exact N,?_⟩
      exact p2 o U _ (f.write q e (RelDs.set rd n g))
     ·exact p2.elim
    ·exact p2.elim
   ·exact p2.elim
end
section
variable {Γ:Ge}{E:XK}{B:Bs}{G:Gh}{Y:M.Sl}{h:M.AH}{U:St}{H:Hp}{D:qbR}
def jaR (c:M.Gj Y i=y0 (.own xs)) (b:U[i]? =y0 (y0 (.ref a))):qh Y U H a=none:=by
 unfold qh
 rw [if_pos ⟨i,xs,c,b⟩]
def Q0 (e:qh Y U H a=y0 o):H a=y0 o:=by
 unfold qh at e
 split at e
 ·cases e
 ·exact e
def jah (s:StRel Γ G Y h U H):HRel Γ G h (qh Y U H) where
 len:=s.heap.len
 any:=λr c e=>⟨(s.heap.any r c e).1,(s.heap.any r c e).2.mon (xu s) λo z=>by rw [zj λ⟨i,f,d,b⟩=>(jo s d b).2.1 r (s.heap.lt e) rfl];exact z⟩
 inj:=s.heap.inj
 live:=λa z=>by
  obtain⟨o,q⟩:=s.heap.live a z
  exact⟨o,by rw [zj λ⟨i,f,d,b⟩=>(jo s d b).1 z];exact q⟩
noncomputable def qdO (G:Gh) (Y:M.Sl) (h:M.AH) (U:St) (H:Hp):Bs:=⟨G,qh Y U H,h⟩
def xA (s:StS Γ B G Y h U H):Ext B.G B.H G (qh Y U H) where
 keep:=λa o e f=>by
  rw [zj λ⟨i,b,d,c⟩=>by rw [s.own i b a d c]at e;cases e]
  exact s.ext.keep a o e f
 le:=s.ext.le
 rho:=s.ext.rho
 new:=s.ext.new
 fz:=s.ext.fz
 old:=s.ext.old
 cells:=λr g z=>by
  obtain⟨o,q⟩:=s.ext.cells r g z
  refine⟨o,?_⟩
  rw [zj λj=>by
   obtain⟨i,b,d,c⟩:=j
   obtain⟨u,z⟩:=z
   rw [s.own i b _ d c]at z
   cases z]
  exact q
def jcD (s:StS Γ B G Y h U H):StS Γ (qdO G Y h U H) G Y h U H where
 st:=s.st
 ext:=⟨λa o e _=>Q0 e,Aa5 _,λ_ _=>rfl,λr h1 h2=>absurd h1 (Ap0.mpr h2),λ_ z=>z,λ_ z=> .inl z,λr hr ⟨o,z⟩=>⟨o,Q0 z⟩⟩
 hr:=jah s.st
 own:=λi xs a e1 e2=>jaR e1 e2
def jK (s:StS Γ B G Y h U H)(b:StS Γ (qdO G Y h U H) G2 Y2 h2 U2 H2):StS Γ B G2 Y2 h2 U2 H2:=
 ⟨b.st,(xA s).trans s.hr b.ext,s.hr,λi c a d e=>(xA s).none s.hr (b.own i c a d e)⟩
def za3 (s:StS Γ B G Y h U H)(p:PostO Γ E B o D):PostO Γ E (qdO G Y h U H) o D:=by
 cases o with
 | next l j=>exact λc g b i=>p c g b (jK s i)
 | brk l j=>exact λc g b i=>p c g b (jK s i)
 | cont l j=>exact λc g b i=>p c g b (jK s i)
 | ret w j=>
  refine λc v b e k r f=>p c v b ((xA s).trans s.hr e) k r ?_
  cases w with
  | v d=>trivial
  | own m=>obtain⟨a,n,q⟩:=f;exact⟨a,n,(xA s).none s.hr q⟩
  | bor m=>exact f
 | exc d j=>exact λc b e k=>p c b ((xA s).trans s.hr e) k
 | fail=>exact p
end
section
variable {Γ:Ge}{F:M.Fx}{X:Cx}{E:XK}{k:Nat}{cf:Cf}
def CL.hide (s:StRel Γ G Y h U H) (c:CL Γ ds l vs G H) (b: ¬ ∃ i xs,M.Gj Y i=y0 (.own xs)/\U[i]? =y0 (y0 (.ref l))):CL Γ ds l vs G (qh Y U H):=by
 obtain⟨a,d⟩:=c
 refine⟨?_,d.mon (xu s)⟩
 rcases a with⟨a,e⟩ | a
 ·refine .inl ⟨?_,e⟩
  rcases a with a | ⟨o,a⟩
  ·exact .inl (by rw [zj b];exact a)
  ·exact .inr ⟨o,by rw [zj b];exact a⟩
 ·exact .inr a
def CL.hideS (s:StRel Γ G Y h U H) (a:StL Γ G H l vs) (b:RelDs Γ G H ds vs):CL Γ ds l vs G (qh Y U H):=by
 refine⟨?_,b.mon (xu s)⟩
 rcases a with a | a
 ·exact(CL.hide s ⟨.inl ⟨a.2,s.heap.off a.1⟩,b⟩ λ⟨j,e,d,c⟩=>(jo s d c).1 a.1).1
 ·exact .inr a
def CT.hide (s:StRel Γ G Y h U H) (c:CT Γ ds l vs G H):CT Γ ds l vs G (qh Y U H):=⟨c.1.mon (xu s),c.2.mon (xu s)⟩
def QB (h:M.Kd a=y0 i):a= .var i:=by
 cases a<;>first | (cases h;rfl) | cases h
def qbS (h:xc cf (.var i) e=k9): ∃x p,e= .Name x p/\cf.N[i]? =y0 x/\QM cf.sc x=k9/\xdB x=true:=by
 refine Zm (λx p h=> ?_) e h
 exact⟨_,_,rfl,xaS h⟩
def jbV (go:Go Γ F X E k cf)(h:xc cf (.var i) e=k9):PE X e (xcP i):=by
 obtain⟨x,p,rfl,c,b,a⟩:=qbS h
 unfold xdB at a
 rw [Aa7]at a
 exact Jk (by rw [go.N];exact c) (go.vis x b) (by simpa using a.1) (by simpa using a.2)
def JN (s:StRel Γ G Y h U H)(e:M.Gj Y i=y0 w) (p:w= .v (.lst xs)\/w= .bor xs):
 ∃l a,U[i]? =y0 (y0 (.ref l))/\CL Γ xs l a G H/\CL Γ xs l a G (qh Y U H):=by
 obtain⟨v,k,r⟩:=s.slot i w e
 rcases p with rfl | rfl
 ·obtain⟨l,a,rfl,d,b⟩:=r
  exact⟨l,a,k,⟨d.lok s.heap,b⟩,CL.hideS s d b⟩
 ·obtain⟨l,a,rfl,d,b,m⟩:=r
  have c:CL Γ xs l a G H:=⟨.inl ⟨b,d⟩,m⟩
  refine⟨l,a,k,c,c.hide s λ⟨j,o,f,n⟩=> ?_⟩
  have g:j≠i:=λz=>by rw [z,e]at f;cases f
  exact s.apart j i o _ l g f e rfl n k
def QC (g:StRel Γ G0 Y h0 U H0) (s:StRel Γ G Y h U H)(r:RelW Γ G H w v) (f:FreshW Y U H0 w v) (p:w= .v (.lst xs)\/w= .own xs):
 ∃l a,v= .ref l/\CL Γ xs l a G H/\CL Γ xs l a G (qh Y U H):=by
 rcases p with rfl | rfl
 ·obtain⟨l,a,rfl,d,b⟩:=r
  exact⟨l,a,rfl,⟨d.lok s.heap,b⟩,CL.hideS s d b⟩
 ·obtain⟨l,a,rfl,d,b,k,i⟩:=r
  obtain⟨q,n,hn⟩:=f
  cases n
  have c:CL Γ xs l a G H:=⟨.inl ⟨.inl k,b⟩,i⟩
  refine⟨l,a,rfl,c,c.hide s λ⟨j,t,e,m⟩=> ?_⟩
  obtain⟨o,z⟩:=g.slotThere e rfl m
  rw [hn]at z;cases z
def qbb (go:Go Γ F X E k cf)(S:xc cf a e=k9):PI X tg e (jdO Γ E k9 (M.Gw F (.seq a))):=by
 cases q:M.Kd a with
 | some i=>
  cases QB q
  refine PI.imp (qaw (jbV go S)) λU H R L=> ?_
  obtain⟨G,Y,h,s,p⟩:=L
  have p:Post Γ E G H (M.R.of h ((M.Gj Y i).bind M.lpV)) λy _ n f=> ∀J C,Wm Γ J y C->C n f->(k9=k9->C n (qh Y U f))->R J f:=p
  cases t:M.Gj Y i with
  | none=>rw [t]at p;exact p.elim
  | some w=>
   rw [t]at p
   have lst: ∀ {b},(w= .v (.lst b)\/w= .bor b)->Post Γ E G H (.ok b h) (λy _ n f=> ∀J C,Wm Γ J y C->C n f->(k9=k9->C n (qh Y U f))->R J f) →
    ∃v,U[i]? =y0 (y0 v)/\((∃ a,v= .ref a/\(∃ b,SqL X.K H a b)/\R (qdU X.K a) H)\/(∃ a,v= .ref a/\(∃ b,qdS X.K H a b)/\R (qdy X.K a) H)\/ ∃z,v= .str z/\R (qdQ z) H):=λ{b} Q p=>by
    obtain⟨l,m,o,u,O⟩:=JN s t Q
    exact⟨_,o,.inl ⟨l,rfl,⟨m,go.K▸u.1.sq⟩,p G H Ext.refl s.heap _ _ (CL.walk go.K) u λ_=>O⟩⟩
   cases w with
   | v d=>
    cases d with
    | lst b=>exact lst (.inl rfl) p
    | tup b=>
     obtain⟨v,o,l,m,rfl,A,P⟩:=s.slot i _ t
     have c:CT Γ b l m G H:=⟨A,P⟩
     exact⟨_,o,.inr (.inl ⟨l,rfl,⟨m,go.K▸A.sq⟩,p G H Ext.refl s.heap _ _ (CT.walk go.K) c λ_=>c.hide s⟩)⟩
    | non=>exact p.elim
    | bl _=>exact p.elim
    | int _=>exact p.elim
    | str z=>
     obtain⟨v,o,r⟩:=s.slot i _ t
     cases (show v= .str (zdH z)from r)
     exact⟨_,o,.inr (.inr ⟨_,rfl,p G H Ext.refl s.heap _ _ qB trivial λ_=>trivial⟩)⟩
    | ref _=>exact p.elim
    | exc _ _=>exact p.elim
    | err _ _ _=>exact p.elim
   | bor b=>exact lst (.inr rfl) p
   | own b=>exact p.elim
 | none=>
  refine PI.imp (qaw (jc a go S).1) λU H R L=> ?_
  obtain⟨G,Y,h,s,p⟩:=L
  have p:=by
   unfold M.Gw at p
   dsimp only at p
   rw [q]at p
   exact p
  refine Ja s.heap Ext.refl s p λN B V D j K W x I T g=> ?_
  have lst: ∀ {b},(N= .v (.lst b)\/N= .own b)->Post Γ E G H (.ok b V) (λy _ n f=> ∀J C,Wm Γ J y C->C n f->(k9=k9->C n (qh Y U f))->R J f) →
   ((∃ a,B= .ref a/\(∃ b,SqL X.K j a b)/\R (qdU X.K a) j)\/(∃ a,B= .ref a/\(∃ b,qdS X.K j a b)/\R (qdy X.K a) j)\/ ∃z,B= .str z/\R (qdQ z) j):=λ{b} Q p=>by
   obtain⟨l,m,o,u,O⟩:=QC s x I T Q
   exact .inl ⟨l,o,⟨m,go.K▸u.1.sq⟩,p D j K x.heap _ _ (CL.walk go.K) u λ_=>O⟩
  cases N with
  | v d=>
   cases d with
   | lst b=>exact lst (.inl rfl) g
   | tup b=>
    obtain⟨l,m,rfl,A,P⟩:=I
    have c:CT Γ b l m D j:=⟨A,P⟩
    exact .inr (.inl ⟨l,rfl,⟨m,go.K▸A.sq⟩,g D j K x.heap _ _ (CT.walk go.K) c λ_=>c.hide x⟩)
   | non=>exact g.elim
   | bl _=>exact g.elim
   | int _=>exact g.elim
   | str z=>
    cases (show B= .str (zdH z)from I)
    exact .inr (.inr ⟨_,rfl,g D j K x.heap _ _ qB trivial λ_=>trivial⟩)
   | ref _=>exact g.elim
   | exc _ _=>exact g.elim
   | err _ _ _=>exact g.elim
  | own b=>exact lst (.inr rfl) g
  | bor b=>exact g.elim
def qaX (go:Go Γ F X E k cf)(P:zdB cf.sc "reversed" g=true) (n:Qa x=true) (D:xc cf a x=true):PI X tg (.Call g [x] [] pos) (jdO Γ E true (M.Gw F (.rev a))):=by
 obtain⟨W,rfl,K,Z⟩:=Qb P
 cases q:M.Kd a with
 | some i=>
  cases QB q
  refine PI.imp (qaq (go.gl _ K) (go.blt _ xbZ) (Jc (jbV go D) Jh (ja n)) (ja n)) λU H R y=> ?_
  obtain⟨G,Y,h,s,p⟩:=y
  have p:Post Γ E G H (M.R.of h ((M.Gj Y i).bind M.Px)) λm _ f c=> ∀J C,Wm Γ J m C->C f c->(k9=k9->C f (qh Y U c))->R J c:=p
  cases t:M.Gj Y i with
  | none=>rw [t]at p;exact p.elim
  | some w=>
   rw [t]at p
   have lst: ∀ {b},(w= .v (.lst b)\/w= .bor b)->Post Γ E G H (.ok b.reverse h) (λm _ f c=> ∀J C,Wm Γ J m C->C f c->(k9=k9->C f (qh Y U c))->R J c) →
    ∃v,U[i]? =y0 (y0 v)/\ ∃a b,[v]= [.ref a]/\SqL X.K H a b/\R (jdX X.K a b.length) H:=λ{b} B p=>by
    obtain⟨l,r,u,j,A⟩:=JN s t B
    exact⟨_,u,l,r,rfl,go.K▸j.1.sq,p G H Ext.refl s.heap _ _ (CL.walkR go.K) j λ_=>A⟩
   cases w with
   | v d=>
    cases d with
    | lst b=>exact lst (.inl rfl) p
    | tup _=>exact p.elim
    | non=>exact p.elim
    | bl _=>exact p.elim
    | int _=>exact p.elim
    | str _=>exact p.elim
    | ref _=>exact p.elim
    | exc _ _=>exact p.elim
    | err _ _ _=>exact p.elim
   | bor b=>exact lst (.inr rfl) p
   | own b=>exact p.elim
 | none=>
  refine PI.imp (qaq (go.gl _ K) (go.blt _ xbZ) (Jc (jc a go D).1 Jh (ja n)) (ja n)) λU H R y=> ?_
  obtain⟨G,Y,h,s,p⟩:=y
  have p:=by
   unfold M.Gw at p
   dsimp only at p
   rw [q]at p
   exact p
  refine Ja s.heap Ext.refl s p λz L S V o Q T I O N e=> ?_
  have lst: ∀ {b},(z= .v (.lst b)\/z= .own b)->Post Γ E G H (.ok b.reverse S) (λm _ f c=> ∀J C,Wm Γ J m C->C f c->(k9=k9->C f (qh Y U c))->R J c) →
   ∃a b,[L]= [.ref a]/\SqL X.K o a b/\R (jdX X.K a b.length) o:=λ{b} B p=>by
   obtain⟨l,r,u,j,A⟩:=QC s I O N B
   exact⟨l,r,by rw [u],go.K▸j.1.sq,p V o Q I.heap _ _ (CL.walkR go.K) j λ_=>A⟩
  cases z with
  | v d=>
   cases d with
   | lst b=>exact lst (.inl rfl) e
   | tup _=>exact e.elim
   | non=>exact e.elim
   | bl _=>exact e.elim
   | int _=>exact e.elim
   | str _=>exact e.elim
   | ref _=>exact e.elim
   | exc _ _=>exact e.elim
   | err _ _ _=>exact e.elim
  | own b=>exact lst (.inr rfl) e
  | bor b=>exact e.elim
theorem Zz: ∀(ds) (i),(M.KM i ds).length=ds.length
 | [],_=>rfl
 | d::ds,i=>congrArg (· +1) (Zz ds (i+1))
theorem ZX: ∀(ds) (j i) (h:i<ds.length),(M.KM j ds)[i]? =y0 (.tup [.int ((j+i:Nat):Int),ds[i]])
 | d::ds,j,0,_=>rfl
 | d::ds,j,i+1,h=>by
  have:=ZX ds (j+1) i (by simpa using h)
  rw [show j+1+i=j+(i+1)by omega]at this
  simpa [M.KM]using this
def zcN: "enumerate" ∈bltN:=by decide
def CT.walkE {K:Aa6}(j:K=Γ.K):Wm Γ (qd7 K l) (M.KM 0 ds) (CT Γ ds l vs) where
 go:=by
  rintro i G H ⟨c,d⟩ b
  rw [Zz]at b
  obtain⟨v,e,_⟩:=d.get (Aa4 b)
  exact⟨vs,v,j▸c.sq,e⟩
 yld:=by
  rintro i G H x m ⟨c,d⟩ b ⟨p,y,g,ex,s,k⟩
  rw [Zz]at b
  subst ex s
  obtain⟨v,e,rd⟩:=d.get (Aa4 b)
  have:=k vs (j▸c.sq)
  rw [e]at this
  cases this
  refine⟨G.more p,Wg _ g,λh f=>f.newF _ g,.tup [.int i,ds[i]],by rw [ZX ds 0 i b,Ag8],⟨p,[.int i,y],rfl,.inl ⟨.inr rfl,xb⟩,⟨.int i,[y],rfl,rfl,⟨y,[],rfl,?_,rfl⟩⟩⟩⟩
  have t:Mon G H (G.more p) (jd7 H p (.tup [.int i,y])):=⟨λa o u q=>by rw [qa (Xa q g)];exact q,Aa5 _,λ_ _=>rfl,λ_ z=>Or.inl z⟩
  exact rd.mon t
 stop:=by
  rintro i G H ⟨c,d⟩ r n
  rw [Zz]at r n
  exact⟨vs,j▸c.sq,by rw [← d.length];omega⟩
 keep:=λG H w m h z e f=>⟨z.1.mon (e.mon f),z.2.ext e f⟩
def xaK (go:Go Γ F X E k cf)(u:zdB cf.sc "enumerate" g=true) (m:Qa x=true) (B:PE X x (tD Γ E (M.eval F a))):PI X (.Tuple elts x1 tp) (.Call g [x] [] pos) (jdO Γ E true (M.Gw F (.enum a))):=by
 obtain⟨P,rfl,D,Q⟩:=Qb u
 refine PI.imp (zb4 (go.gl _ D) (go.blt _ zcN) (Jc B Jh (ja m)) (ja m)) λU H R z=> ?_
 obtain⟨G,Y,h,s,p⟩:=z
 have p:Post Γ E G H ((M.eval F a Y h).bind λw h=>match w with
  | .v (.tup e)=> .ok (M.KM 0 e) h
  | _=> .fail) λL _ o f=> ∀J C,Wm Γ J L C->C o f->(k9=k9->C o (qh Y U f))->R J f:=p
 refine Ja s.heap Ext.refl s p λA O S q i y K n t N b=> ?_
 cases A with
 | v d=>
  cases d with
  | tup e=>
   obtain⟨l,j,rfl,r,I⟩:=t
   have c:CT Γ e l j q i:=⟨r,I⟩
   exact⟨l,j,rfl,go.K▸r.sq,b q i y n.heap _ _ (CT.walkE go.K) c λ_=>c.hide n⟩
  | non=>exact b.elim
  | bl _=>exact b.elim
  | int _=>exact b.elim
  | str _=>exact b.elim
  | lst _=>exact b.elim
  | ref _=>exact b.elim
  | exc _ _=>exact b.elim
  | err _ _ _=>exact b.elim
 | own e=>exact b.elim
 | bor e=>exact b.elim
def qc1: "zip" ∈bltN:=by decide
theorem CZ.walk {K:Aa6}(d:K=Γ.K):Wm Γ (zdQ K l a) ((xs.zip ys).map λp=> .tup [p.1,p.2]) (λG H=>CL Γ xs l vs G H/\CT Γ ys a us G H) where
 go:=by
  rintro i G H ⟨c,b⟩ g
  rw [Aa,Ak7]at g
  obtain⟨v,e,_⟩:=c.2.get (Aa4 (show i<xs.length by omega))
  obtain⟨w,t,_⟩:=b.2.get (Aa4 (show i<ys.length by omega))
  exact⟨vs,v,us,w,d▸c.1.sq,e,d▸b.1.sq,t⟩
 yld:=by
  rintro i G H x y ⟨c,b⟩ g ⟨p,k,j,m,ex,D,s,r⟩
  rw [Aa,Ak7]at g
  subst ex D
  have C:i<xs.length:=by omega
  have F:i<ys.length:=by omega
  obtain⟨v,e,rd⟩:=c.2.get (Aa4 C)
  obtain⟨w,t,n⟩:=b.2.get (Aa4 F)
  have u:=s vs (d▸c.1.sq)
  rw [e]at u
  cases u
  have A:=r us (d▸b.1.sq)
  rw [t]at A
  cases A
  have B:Mon G H (G.more p) (jd7 H p (.tup [k,j])):=⟨λa o I q=>by rw [qa (Xa q m)];exact q,Aa5 _,λ_ _=>rfl,λ_ z=>Or.inl z⟩
  refine⟨G.more p,Wg _ m,λh f=>f.newF _ m,.tup [xs[i],ys[i]],?_,⟨p,[k,j],rfl,.inl ⟨.inr rfl,xb⟩,⟨k,[j],rfl,rd.mon B,⟨j,[],rfl,n.mon B,rfl⟩⟩⟩⟩
  rw [Ad1,Aa4 (by rw [Ak7];exact g),List.getElem_zip]
  rfl
 stop:=by
  rintro i G H ⟨c,b⟩ s r
  rw [Aa,Ak7]at s r
  exact⟨vs,us,d▸c.1.sq,d▸b.1.sq,by rw [← c.2.length,←b.2.length];omega⟩
 keep:=λG H E y h ⟨c,b⟩ e f=>⟨(CL.walk d).keep G H E y h c e f,⟨b.1.mon (e.mon f),b.2.ext e f⟩⟩
def zaW (go:Go Γ F X E k cf)(O:zdB cf.sc "zip" g=true) (r:Qa x=true) (j:Qa y=true) (Z:PE X x (tD Γ E (M.eval F a))) (Q:PE X y (tD Γ E (M.eval F b))):PI X (.Tuple elts x1 tp) (.Call g [x,y] [] pos) (jdO Γ E true (M.Gw F (.zip a b))):=by
 obtain⟨p0,rfl,A,h3⟩:=Qb O
 refine PI.imp (jcy (go.gl _ A) (go.blt _ qc1) (Jc Z (Jc Q Jh (ja j)) (ja r)) (by rw [ja r,ja j];rfl) (by rw [ja j];rfl)) λU H R V=> ?_
 obtain⟨G,Y,h,s,p⟩:=V
 have p:Post Γ E G H ((M.eval F a Y h).bind λx h=>(M.eval F b Y h).bind λy h=>match x,y with
  | .own e,.v (.tup o)=> .ok ((e.zip o).map λp=>M.D.tup [p.1,p.2]) h
  | _,_=> .fail) λds _ D m=> ∀J C,Wm Γ J ds C->C D m->(k9=k9->C D (qh Y U m))->R J m:=p
 refine Ja s.heap Ext.refl s p λW v1 h1 G1 H1 P e1' w N L p1=> ?_
 refine Ja s.heap P w p1 λw2 v2 A B z T i f S f2 c=> ?_
 cases W with
 | v d=>exact c.elim
 | bor e=>exact c.elim
 | own e=>
  cases w2 with
  | own _=>exact c.elim
  | bor _=>exact c.elim
  | v d=>
   cases d with
   | tup o=>
    obtain⟨l,K,rfl,t,n⟩:=QC s f (N.ext i w.heap) L (.inr rfl)
    obtain⟨l2,q,rfl,I,z3⟩:=S
    have u:CT Γ o l2 q B z:=⟨I,z3⟩
    exact⟨l,l2,K,q,rfl,go.K▸t.1.sq,go.K▸I.sq,c B z T f.heap _ _ (CZ.walk go.K) ⟨t,u⟩ λ_=>⟨n,u.hide f⟩⟩
   | non=>exact c.elim
   | bl _=>exact c.elim
   | int _=>exact c.elim
   | str _=>exact c.elim
   | lst _=>exact c.elim
   | ref _=>exact c.elim
   | exc _ _=>exact c.elim
   | err _ _ _=>exact c.elim
def qdr (go:Go Γ F X E k cf){it:M.It}{e j:Expr}(o:qar it j=k9) (h:xbI cf it e=k9):PI X j e (jdO Γ E k9 (M.Gw F it))/\Xf e=true:=by
 cases it with
 | seq a=>exact⟨qbb go (a2 h).2,(a2 h).1⟩
 | range1 a=>
  refine Wh (λg x l p h=> ?_) e h
  refine kE (λh=> ?_) l h
  refine kC (λx r h=> ?_) x h
  refine kE (λh=> ?_) r h
  obtain⟨d,c,f⟩:=a3 h
  exact⟨jC go d c (jc a go f).1,rfl⟩
 | range2 a b=>
  refine Wh (λg x l p h=> ?_) e h
  refine kE (λh=> ?_) l h
  refine kC (λx r h=> ?_) x h
  refine kC (λy r h=> ?_) r h
  refine kE (λh=> ?_) r h
  obtain⟨d,c,f,m,n⟩:=a5 h
  exact⟨JC go d c f (jc a go m).1 (jc b go n).1,rfl⟩
 | rev a=>
  refine Wh (λg x l p h=> ?_) e h
  refine kE (λh=> ?_) l h
  refine kC (λx r h=> ?_) x h
  refine kE (λh=> ?_) r h
  obtain⟨d,c,f⟩:=a3 h
  exact⟨qaX go d c f,rfl⟩
 | zip a b=>
  cases j with
  | Tuple i q s=>
   refine Wh (λg x l p h=> ?_) e h
   refine kE (λh=> ?_) l h
   refine kC (λx r h=> ?_) x h
   refine kC (λy r h=> ?_) r h
   refine kE (λh=> ?_) r h
   obtain⟨d,c,f,m,n⟩:=a5 h
   exact⟨zaW go d c f (jc a go m).1 (jc b go n).1,rfl⟩
  | _=>exact qdB o
 | enum a=>
  cases j with
  | Tuple i q s=>
   refine Wh (λg x l p h=> ?_) e h
   refine kE (λh=> ?_) l h
   refine kC (λx r h=> ?_) x h
   refine kE (λh=> ?_) r h
   obtain⟨d,c,f⟩:=a3 h
   exact⟨xaK go d c (jc a go f).1,rfl⟩
  | _=>exact qdB o
end
section
variable {Γ:Ge}{F:M.Fx}{X:Cx}{E:XK}{k:Nat}{cf:Cf}
def qb7 (go:Go Γ F X E k cf)(c:Qo v=k9)(h:xc cf m v=k9):PS X (.Expr v pos) (qdX Γ E (M.exec F (.ex m))):=by
 refine PS.imp (JK (jc m go h).1 (zc c)) λD U H b=> ?_
 obtain⟨B,G,Y,h,s,p⟩:=b
 exact wh s p λw v l f a j d i g e=>e f U a d
def qax (s:StS Γ B G Y h U H)(f:FreshW Y U H w v) (b: ∀xs,w≠ .bor xs):FreshW [] [] B.H w v:=by
 cases w with
 | v d=>trivial
 | own xs=>obtain⟨a,c,e⟩:=f;exact⟨a,c,s.ext.none s.hr e⟩
 | bor xs=>exact absurd rfl (b xs)
def za7 (go:Go Γ F X E k cf)(h:xc cf m v=k9):PS X (.Return (y0 v) pos) (qdX Γ E (M.exec F (.ret m))):=by
 cases q:M.Kd m with
 | some i=>
  cases QB q
  refine PS.imp (qbm (jbV go h)) λD U H f=> ?_
  obtain⟨B,G,Y,h,s,p⟩:=f
  rw [M.exec,q]at p
  dsimp only at p
  cases c:M.Gj Y i with
  | none=>rw [c]at p;exact p.elim
  | some w=>
   rw [c]at p
   obtain⟨v,n,r⟩:=s.st.slot i w c
   refine⟨v,n,?_⟩
   cases w with
   | bor b=>exact p.elim
   | v d=>exact p G v H s.ext s.st.heap r trivial
   | own b=>
    have u:=r
    obtain⟨a,x,rfl,_⟩:=u
    exact p G _ H s.ext s.st.heap r ⟨a,rfl,s.own i b a c n⟩
 | none=>
  refine PS.imp (qbm (jc m go h).1) λD U H f=> ?_
  obtain⟨B,G,Y,h,s,p⟩:=f
  have p:PostO Γ E B ((M.eval F m Y h).toO λw h=>match w with
   | .bor _=> .fail
   | w=> .ret w h) D:=by
   rw [M.exec,q]at p;exact p
  refine wh s p λw v A o j y e l t g=> ?_
  cases w with
  | bor b=>exact g.elim
  | v d=>exact g o v j e.ext e.st.heap l trivial
  | own b=>exact g o v j e.ext e.st.heap l (qax s t λb z=>by cases z)
def xa8 (j:PT X x (qd3 Γ E (M.Gu F c))) (l:PSs X ys (qdX Γ E (M.execs F a))) (i:PSs X zs (qdX Γ E (M.execs F b))):PS X (.If x ys zs pos) (qdX Γ E (M.exec F (.iff c a b))):=by
 refine PS.imp (qc6 j l i) λD U H k=> ?_
 obtain⟨B,G,Y,h,s,p⟩:=k
 refine X0 s p λt e g m n d f=> ?_
 cases t with
 | true=>exact qcU ⟨B,g,Y,e,d,f⟩
 | false=>exact xcZ ⟨B,g,Y,e,d,f⟩
def Z8 {st:Stmt}(h1:PS X st (qdX Γ E (M.exec F s))) (h2:PSs X sts (qdX Γ E (M.execs F ss))):PSs X (st::sts) (qdX Γ E (M.execs F (.cons s ss))):=by
 refine PSs.imp (za4 h1 h2) λD U H e=> ?_
 obtain⟨B,G,Y,h,f,p⟩:=e
 rw [M.execs]at p
 refine⟨B,G,Y,h,f,?_⟩
 cases q:M.exec F s Y h with
 | next b a=>rw [q]at p;exact λg i j c=>⟨B,g,b,a,c,p⟩
 | ret w a=>rw [q]at p;exact p
 | brk b a=>rw [q]at p;exact p
 | cont b a=>rw [q]at p;exact p
 | exc d a=>rw [q]at p;exact p
 | fail=>rw [q]at p;exact p
def xaH:PSs X [] (qdX Γ E (M.execs F .nil)):=PSs.imp qb8 λD U H ⟨B,G,Y,h,s,p⟩=>p G U H s
def WM (h2:PSs X sts (qdX Γ E (M.execs F ss))):PSs X sts (qdX Γ E (M.execs F (.cons (.freeze i) ss))):=by
 refine PSs.imp h2 λD U H b=> ?_
 obtain⟨B,G,Y,h,s,p⟩:=b
 rw [M.execs,M.exec]at p
 cases q:M.Gj Y i with
 | none=>rw [q]at p;exact⟨B,G,Y,h,s,p⟩
 | some w=>
  rw [q]at p
  cases w with
  | v d=>exact⟨B,G,Y,h,s,p⟩
  | bor a=>exact⟨B,G,Y,h,s,p⟩
  | own a=>
   obtain⟨e,c⟩:=s.freeze q
   exact⟨B,e,_,h,c,p⟩
def qbh (go:xdW Γ F X E k cf)(C:PT X x (qd3 Γ E (M.Gu F c))) (I:PSs X ys (qdX Γ E (M.execs F b))):PS X (.While x ys [] pos) (qdX Γ E (M.exec F (.whl n c b))):=by
 refine PS.imp (ja5 go.pown C I) λD U H J=> ?_
 obtain⟨B,G,Y,h,s,p⟩:=J
 refine⟨λm U H=> ∃G Y h,StS Γ B G Y h U H/\PostO Γ E B (M.KK (λY h=>M.Gu F c Y h) (λY h=>M.execs F b Y h) m Y h) D,⟨n,G,Y,h,s,p⟩,?_⟩
 rintro m U H ⟨G,Y,h,s,p⟩
 cases m with
 | zero=>exact p.elim
 | succ m=>
  refine X0 s p λt l z A K y a=> ?_
  cases t with
  | false=>exact xcZ (a z U A y)
  | true=>
   refine qcU ⟨_,λu v w=>⟨m,Ag7 _,w⟩,B,z,Y,l,y,?_⟩
   have a:PostO Γ E B (match M.execs F b Y l with
    | .next f g=>M.KK (λY h=>M.Gu F c Y h) (λY h=>M.execs F b Y h) m f g
    | .cont f g=>M.KK (λY h=>M.Gu F c Y h) (λY h=>M.execs F b Y h) m f g
    | .brk f g=> .next f g
    | o=>o) D:=a
   cases q:M.execs F b Y l with
   | next i e=>rw [q]at a;exact λr u v j=>⟨r,i,e,j,a⟩
   | cont i e=>rw [q]at a;exact λr u v j=>⟨r,i,e,j,a⟩
   | ret w e=>rw [q]at a;exact a
   | brk i e=>rw [q]at a;exact a
   | exc d e=>rw [q]at a;exact a
   | fail=>rw [q]at a;exact a
def za1 (go:xdW Γ F X E k cf)(he:qar it t=k9) (ht:Qe cf tg one t=k9) (hi:xbI cf it iter=k9) (hb:PSs X ys (qdX Γ E (M.execs F b))):
 PS X (.For t iter ys [] pos) (qdX Γ E (M.exec F (.for tg one it b))):=by
 obtain⟨li,ls⟩:=qdr go.toGo he hi
 refine PS.imp (zcx go.pown go.calm li (Zo go.toGo ht) hb (QW ls)) λD U H qq=> ?_
 obtain⟨B,G,Y,h,s,p⟩:=qq
 rw [M.exec]at p
 refine⟨G,Y,h,s.st,?_⟩
 cases q:M.Gw F it Y h with
 | exc d v=>rw [q]at p;exact PostO.exc s p
 | fail=>rw [q]at p;exact p
 | ok f v=>
  rw [q]at p
  intro A I e hr J C y c0 K
  have s1:=s.on e hr
  have p1:=za3 s1 p
  have cB:=K rfl
  have s2:=jcD s1
  refine⟨λi m R n=> ∃u z r,(m=f.length-i/\i<=f.length)/\StS Γ (qdO A Y v U I) u z r R n/\PostO Γ E (qdO A Y v U I) (M.Gr (M.Gp tg one) (λY h=>M.execs F b Y h) (f.drop i) z r) D,
   ⟨f.length,A,Y,v,⟨by simp,Ah2 _⟩,s2,p1⟩,?_⟩
  rintro i m R n ⟨u,z,r,⟨rfl,hi'⟩,l,a⟩
  have P:=y.keep _ _ _ _ _ cB l.ext l.hr
  by_cases j:i<f.length
  ·refine .inr ⟨y.go i u n P j,_,λU2 H2 w=>⟨f.length-(i+1),by omega,w⟩,λx V hy=> ?_⟩
   obtain⟨G4,x4,N,d,Z,W⟩:=y.yld i u n x V P j hy
   have l:=l.on x4 (N _ l.st.heap)
   have Q:f.drop i=d::f.drop (i+1):=by
    rw [List.drop_eq_getElem_cons j]
    rw [Aa4 j]at Z
    cases Z
    rfl
   rw [Q,M.Gr]at a
   cases L:M.Gp tg one d z with
   | none=>rw [L]at a;exact a.elim
   | some S=>
    rw [L]at a
    refine zb9 L W l λU2 s3=>⟨_,G4,S,r,s3,?_⟩
    have a:PostO Γ E (qdO A Y v U I) (match M.execs F b S r with
     | .next g c=>M.Gr (M.Gp tg one) (λY h=>M.execs F b Y h) (f.drop (i+1)) g c
     | .cont g c=>M.Gr (M.Gp tg one) (λY h=>M.execs F b Y h) (f.drop (i+1)) g c
     | .brk g c=> .next g c
     | o=>o) D:=a
    cases q:M.execs F b S r with
    | next g c=>rw [q]at a;exact λT U3 H3 O=>⟨T,g,c,⟨rfl,by omega⟩,O,a⟩
    | cont g c=>rw [q]at a;exact λT U3 H3 O=>⟨T,g,c,⟨rfl,by omega⟩,O,a⟩
    | ret w c=>rw [q]at a;exact a
    | brk g c=>rw [q]at a;exact a
    | exc d c=>rw [q]at a;exact a
    | fail=>rw [q]at a;exact a
  ·have ei:i=f.length:=by omega
   subst ei
   rw [List.drop_length]at a
   exact .inl ⟨y.stop _ u n P (Aa5 _) (Aa5 _),a u R n l⟩
theorem XF: ∀ {es}{xs}{Y}{h}{ds}{h'},chkEs cf es xs=k9->M.Gg F es Y h= .ok ds h'->ds.length=xs.length
 | .nil,xs,_,_,_,_,c,e=>by
  cases Ae9.mp c
  rw [M.Gg]at e;cases e;rfl
 | .cons a es,xs,Y,h,ds,h',c,e=>by
  refine kC (λx r c=> ?_) xs c
  obtain⟨w,d,f,e⟩:=Zd e
  obtain⟨r,g,b,e⟩:=Zd e
  cases e
  rw [Ab4,Ab4,XF (a2 c).2 b]
theorem Zx: ∀(Y) (i j),M.Gj (Y.set i u0) j=if j=i then u0 else M.Gj Y j
 | [],i,j=>by simp
 | x::r,0,0=>by simp
 | x::r,0,j+1=>by simp
 | x::r,i+1,0=>by simp
 | x::r,i+1,j+1=>by simpa using Zx r i j
def StS.clear (s:StS Γ B G Y h U H):StS Γ B G (Y.set i u0) h (U.set i u0) H:=by
 have ne: ∀ {j w},M.Gj (Y.set i u0) j=y0 w->j≠i/\M.Gj Y j=y0 w:=λ{j w} e=>by
  rw [Zx]at e
  split at e
  ·cases e
  ·rename_i c;exact⟨c,e⟩
 have f: ∀ {j},j≠i->(U.set i u0)[j]? =U[j]? :=λ{j} c=>Ad3 (Ne.symm c)
 refine⟨⟨by rw [Ae7,Ae7];exact s.st.len,λj w e=> ?_,λp q g w a k b d r l=> ?_,s.st.heap⟩,s.ext,s.hr,λj g a b d=> ?_⟩
 ·obtain⟨c,e⟩:=ne e
  obtain⟨v,o,t⟩:=s.st.slot j w e
  exact⟨v,by rw [f c];exact o,t⟩
 ·obtain⟨m,b⟩:=ne b
  obtain⟨n,d⟩:=ne d
  rw [f m]at l
  rw [f n]
  exact s.st.apart p q g w a k b d r l
 ·obtain⟨c,b⟩:=ne b
  rw [f c]at d
  exact s.own j g a b d
def StS.mv (s:StS Γ B G Y h U H)(e:M.Gj Y j=y0 (.own xs)) (y:U[j]? =y0 (y0 (.ref a))):StS Γ B G (M.GD (Y.set j u0) i (.own xs)) h (U.set i (y0 (.ref a))) H:=by
 have d: ∀ {k w},M.Gj (M.GD (Y.set j u0) i (.own xs)) k=y0 w->(k=i/\i<Y.length/\w= .own xs)\/(k≠i/\k≠j/\M.Gj Y k=y0 w):=λ{k w} q=>by
  rw [Qd]at q
  by_cases c:k=i/\i<(Y.set j u0).length
  ·rw [if_pos c]at q
   cases q
   exact .inl ⟨c.1,by have:=c.2;rw [Ae7]at this;exact this,rfl⟩
  ·rw [if_neg c,Zx]at q
   split at q
   ·cases q
   ·rename_i D
    refine .inr ⟨λz=>c ⟨z,?_⟩,D,q⟩
    rw [Ae7,←z]
    exact zm q
 have l: ∀ {k},k≠i->(U.set i (y0 (V.ref a)))[k]? =U[k]? :=λ{k} D=>Ad3 (Ne.symm D)
 have u:i<Y.length->(U.set i (y0 (V.ref a)))[i]? =y0 (y0 (.ref a)):=λf=>Ad5 (by rw [← s.st.len];exact f)
 refine⟨⟨by rw [jj,Ae7,Ae7];exact s.st.len,λk w q=> ?_,λp q x w b n A g K m=> ?_,s.st.heap⟩,s.ext,s.hr,λk x b A g=> ?_⟩
 ·rcases d q with⟨rfl,f,rfl⟩ | ⟨o,C,q⟩
  ·obtain⟨v,t,I⟩:=s.st.slot j _ e
   rw [y]at t
   cases t
   exact⟨_,u f,I⟩
  ·obtain⟨v,t,I⟩:=s.st.slot k w q
   exact⟨v,by rw [l o];exact t,I⟩
 ·rcases d A with⟨rfl,f,z⟩ | ⟨o,C,r⟩
  ·rcases d g with⟨rfl,_,_⟩ | ⟨E,J,F⟩
   ·exact absurd rfl n
   ·rw [u f]at m
    cases m
    rw [l E]
    exact s.st.apart j q xs w a (Ne.symm J) e F K y
  ·rw [l o]at m
   rcases d g with⟨rfl,f,z⟩ | ⟨E,J,F⟩
   ·rw [u f]
    intro L
    cases L
    exact s.st.apart p j x (.own xs) a C r e rfl m y
   ·rw [l E]
    exact s.st.apart p q x w b n r F K m
 ·rcases d A with⟨rfl,f,z⟩ | ⟨o,C,r⟩
  ·rw [u f]at g
   cases g
   exact s.own j xs a e y
  ·rw [l o]at g
   exact s.own k x b r g
def zb2 (go:Go Γ F X E k cf)(b:Xt cf i x=k9) (h1:cf.N[j]? =y0 y) (h2:QM cf.sc y=k9) (c:xdB y=k9):PS X (.Assign [.Name x p] (.Name y p') pos) (qdX Γ E (M.exec F (.mv i j))):=by
 unfold xdB at c
 rw [Aa7]at c
 have pv:=Jk (pos:=p') (by rw [go.N];exact h1) (go.vis y h2) (by simpa using c.1) (by simpa using c.2)
 obtain⟨g,n⟩:=Wt b
 have b:=go.sto x n
 refine PS.imp (xaA (by rw [go.N];exact go.nd) (by rw [go.N];exact g) b.1 pv (zc rfl) b.2) λD U H m=> ?_
 obtain⟨B,G,Y,h,s,q⟩:=m
 rw [M.exec]at q
 cases e:M.Gj Y j with
 | none=>rw [e]at q;exact q.elim
 | some l=>
  rw [e]at q
  cases l with
  | v d=>exact q.elim
  | bor o=>exact q.elim
  | own o=>
   obtain⟨w,f,a,r,rfl,A,z,u,t⟩:=s.st.slot j _ e
   exact⟨.ref a,f,q G _ H (s.mv e f)⟩
def qab (go:xdW Γ F X E k cf)(f:zdB cf.sc c g=k9) (i:cf.rai.contains c=k9) (u:(x::xs).length<=1000) (a:chkEs cf es (x::xs)=k9):
 PS X (.Raise (y0 (.Call g (x::xs) [] y7)) u0 pos) (qdX Γ E (M.exec F (.raise c es))):=by
 obtain⟨z,rfl,n,v⟩:=Qb f
 obtain⟨j,l⟩:=go.rai c i n v
 refine PS.imp (l _ _ _ _ _ _ (sndWs es go.toGo a) (Xe a)) λD U H m=> ?_
 obtain⟨B,G,Y,h,s,p⟩:=m
 rw [M.exec]at p
 refine⟨G,Y,h,s.st,?_⟩
 cases q:M.Gg F es Y h with
 | exc d o=>rw [q]at p;exact PostO.exc s p
 | fail=>rw [q]at p;exact p
 | ok A o=>
  rw [q]at p
  intro w b e t y r
  refine⟨?_,(p w b (s.ext.trans s.hr e) t).1 c rfl j⟩
  rw [← r.length,XF a q]
  exact Ai3 (zo u)
def W7 (go:xdW Γ F X E k cf)(m:zdB cf.sc c g=k9) (o:cf.ob.er.contains (c,f)=k9) (i:chkEs cf (.cons e .nil) [x]=k9):
 PS X (.Raise (y0 (.Call g [x] [] y7)) u0 pos) (qdX Γ E (M.exec F (.raisf c f e))):=by
 obtain⟨L,rfl,z,C⟩:=Qb m
 obtain⟨t,w,u⟩:=go.rfi c f o z C
 refine PS.imp (u _ _ _ _ _ (sndA _ go.toGo i) (Xe i _ Aa3)) λD U H y=> ?_
 obtain⟨B,G,Y,h,s,p⟩:=y
 rw [M.exec]at p
 refine⟨G,Y,h,s.st,?_⟩
 cases q:M.Gq F (.cons e .nil) Y h with
 | exc d A=>rw [q]at p;exact PostO.exc s p
 | fail=>rw [q]at p;exact p
 | ok b A=>
  rw [q]at p
  intro I J n j K r
  cases b with
  | nil=>exact p.elim
  | cons d b=>
   cases b with
   | cons _ _=>exact p.elim
   | nil=>
    obtain⟨v,N,rfl,rd,rfl⟩:=r
    refine⟨v,rfl,λl a=> ?_⟩
    exact(p (I.more l) _ ((s.ext.trans s.hr n).trans s.hr (Wg (.xd [(zg f,v)]) a)) (j.newF _ a)).2 c f d rfl t w l v (.inr rfl) xb (rd.ext (Wg _ a) j)
def wN (a:jdZ Γ c) (d:w∈Γ.own) (b:(M.Kx Γ.cl 8 c).contains w=k9):An Γ.K (.ref (Γ.ca c)) (.ref (Γ.ca w))=y0 true:=by
 have h:=a.own w d
 rw [b]at h
 unfold Ad2 at h
 split at h
 ·rename_i e
  have e:=by simpa using e
  rw [← e]
  exact a.k.slf
 ·exact h
theorem Go.nox (go:Go Γ F X E k cf):Go Γ F X.nox E0 k cf:=⟨go.N,go.K,go.cl,go.ow,go.nd,go.vis,go.lcl,go.sto,go.cel,go.gl,go.calm,go.room,go.room1,λb U H s e q _ i=>by
 obtain⟨x,p,t,B,r,_,_,_,_,_,_,_,_,_,_,c⟩:=i
 exact c.elim,go.blt,go.con,λf d=>by
 obtain⟨a,j,n,m,l,o,g⟩:=(go.fn f d).imp λa h=>h.ex
 exact⟨a,⟨j,n,m,l,o,g⟩⟩,go.cls,go.fld,go.mth,go.mks⟩
theorem PS.nox {st:Stmt}(h:PS X.nox st t):PS X st t:=λa s U H D I q=>wpAny_mono (h a s U H D (I.wish _) q) (λ_ _ z=>SP.unwish z) λ_ _ z=>False.elim z
def xdp (h:xdI cf f s q=k9): ∃g x xs b a,s= .Expr (.Call g (x::xs) [] b) a/\zdB cf.sc f g=k9/\cf.fns.contains f=k9/\q (x::xs)=true:=by
 refine zdO (λe p h=> ?_) s h
 refine Wh (λg xs l p h=> ?_) e h
 refine kE (λh=> ?_) l h
 refine kC (λx r h=> ?_) xs h
 exact⟨_,_,_,_,_,rfl,a3 h⟩
def xab (d:jdZ Γ c) (b:w∈Γ.own) (a:(M.Kx Γ.cl 8 c).contains w=y9):An Γ.K (.ref (Γ.ca c)) (.ref (Γ.ca w))=y0 false:=by
 have h:=d.own w b
 rw [a]at h
 unfold Ad2 at h
 split at h
 ·cases h
 ·exact h
def jck (h:jdc cf c nm iv fl c2 tx hs=k9): ∃w n v e l I fp o m B j G q F,hs= [.ExceptHandler (y0 w) (y0 n) [.Assign [.Name v l] (.Attribute (.Name n I) (zg fl) fp) o] m,.ExceptHandler (y0 e) u0 [.Assign [.Name v B] (.Constant (.str (zdH tx)) j G) q] F]/\zdB cf.sc c w=k9/\cf.hnd.contains c=k9/\zdB cf.sc c2 e=k9/\cf.hnd.contains c2=k9/\zy cf nm n=k9/\xdB n=k9/\zy cf iv v=true:=by
 refine kC (λx r h=> ?_) hs h
 refine kC (λM r h=> ?_) r h
 refine kE (λh=> ?_) r h
 refine zdc (λw n b p h=> ?_) x h
 refine kS (λw h=> ?_) w h
 refine kS (λn h=> ?_) n h
 refine kC (λa r h=> ?_) b h
 refine kE (λh=> ?_) r h
 refine qac (λi y p h=> ?_) a h
 refine kC (λt r h=> ?_) i h
 refine kE (λh=> ?_) r h
 refine Zm (λv p h=> ?_) t h
 refine jbk (λz E p h=> ?_) y h
 refine Zm (λO p h=> ?_) z h
 refine zdc (λe C b p h=> ?_) M h
 refine kS (λe h=> ?_) e h
 refine kC (λa r h=> ?_) b h
 refine kE (λh=> ?_) r h
 refine qac (λi y p h=> ?_) a h
 refine kC (λt r h=> ?_) i h
 refine kE (λh=> ?_) r h
 refine Zm (λP p h=> ?_) t h
 refine ZF (λs j p h=> ?_) y h
 obtain⟨K,J,N,D,h⟩:=a5 h
 obtain⟨L,u,A,k,h⟩:=a5 h
 obtain⟨H,d,g,f⟩:=a4 h
 cases of_decide_eq_true u
 cases of_decide_eq_true d
 cases of_decide_eq_true g
 cases of_decide_eq_true f
 cases C with
 | some _=>cases K
 | none=>exact⟨_,_,_,_,_,_,_,_,_,_,_,_,_,_,rfl,J,N,D,L,A,k,H⟩
def zaq (go:xdW Γ F X E k cf)(hg:zdB cf.sc f g=k9) (hf:cf.fns.contains f=k9) (Q:chkEs cf es (x::xs)=k9)
 (hw:zdB cf.sc c w=k9) (hc:cf.hnd.contains c=k9) (Z:zdB cf.sc c2 w2=k9) (W:cf.hnd.contains c2=k9) (hn:zy cf nm n=k9) (o:xdB n=k9) (hv:zy cf A v=k9):
 PS X (.Try [.Expr (.Call g (x::xs) [] cp) ep] [.ExceptHandler (y0 w) (y0 n) [.Assign [.Name v vp] (.Attribute (.Name n np) (zg fl) fp) ap] hp,.ExceptHandler (y0 w2) u0 [.Assign [.Name v vq] (.Constant (.str (zdH tx)) j cq) aq] hq] [] [] pos) (qdX Γ E (M.exec F (.tryf f es c nm A fl c2 tx))):=by
 obtain⟨p0,rfl,R,h3⟩:=Qb hg
 obtain⟨p1,rfl,h4,h5⟩:=Qb hw
 obtain⟨p2,rfl,h6,h7⟩:=Qb Z
 obtain⟨ps,fa,fd,fok,bd,kp,hm⟩:=(go.fn f hf).imp λps h=>h.ex
 obtain⟨hb,ho⟩:=go.hnd c hc
 obtain⟨T,I⟩:=go.hnd c2 W
 obtain⟨n1,n2⟩:=qG hn
 obtain⟨v1,v2⟩:=qG hv
 have J:=Xe Q
 unfold xdB at o
 rw [Aa7]at o
 refine PS.nox (PS.imp (qbQ (λ_ _ z=>z) go.stk go.frm go.ex fok go.room (go.gl _ R) hm kp bd (sndWs es go.toGo.nox Q) (go.gl _ h4) (go.cls c ho) hb (go.gl _ h6) (go.cls c2 I) T (by show X.N.Nodup;rw [go.N];exact go.nd) (by show X.N[nm]? =_;rw [go.N];exact n1) (go.lcl n n2) (by show X.N[A]? =_;rw [go.N];exact v1) (go.lcl v v2)
  (zc rfl) (zc rfl) (zc rfl) h3 h5 h7 (by simpa using o.1) (ja (J _ Aa3)) (zu λe Q=>J e (Aa1 _ Q)) rfl) λD U H ⟨B,G,Y,h,s,p⟩=> ?_)
 rw [M.exec]at p
 refine⟨G,Y,h,s.st,?_⟩
 cases q:M.Gg F es Y h with
 | exc d O=>rw [q]at p;exact p.elim
 | fail=>rw [q]at p;exact p.elim
 | ok ws O=>
  rw [q]at p
  intro G1 H1 e1 N vs r1
  have s1:=s.on e1 N
  refine⟨G1,O,_,N,wz r1,xB ws,?_⟩
  have p:PostO Γ E B (match F.call f (ws.map M.W.arg) O with
   | .ok _ h=> .next Y h
   | .exc d h=>M.Pj F.cl c nm A fl c2 tx d Y h
   | .fail=> .fail) D:=p
  cases qc:F.call f (ws.map M.W.arg) O with
  | fail=>rw [qc]at p;exact p.elim
  | ok w' R=>
   rw [qc]at p
   intro S L P i v' _ _
   exact p S U L (s1.on P i)
  | exc d R=>
   rw [qc]at p
   intro S L P i
   have m:c∈Γ.own:=by rw [← go.ow];exact Ae8.mp ho
   have K:c2∈Γ.own:=by rw [← go.ow];exact Ae8.mp I
   have b:PostO Γ E B (M.Pj F.cl c nm A fl c2 tx d Y R) D:=p
   clear p
   have two: ∀ a (od:Option Addr),M.isX F.cl (.v d) [c]=y0 ([c].any (M.Kx F.cl 8 a).contains)->M.isX F.cl (.v d) [c2]=y0 ([c2].any (M.Kx F.cl 8 a).contains)->jdZ Γ a-> [c].any (M.Kx F.cl 8 a).contains=y9 →
    An X.nox.K (.ref (Γ.ca a)) (.ref (Γ.ca c))=y0 y9/\An X.nox.K (.ref (Γ.ca a)) (.ref (Γ.ca c2))=y0 k9/\D.nx (U.set A (y0 (.str (zdH tx)))) L:=λa od i1 i2 l z=>by
    have V:(M.Kx Γ.cl 8 a).contains c=false:=by rw [← go.cl];simpa using z
    unfold M.Pj at b
    rw [i1,z]at b
    dsimp only at b
    rw [i2]at b
    cases r: [c2].any (M.Kx F.cl 8 a).contains with
    | false=>rw [r]at b;exact b.elim
    | true=>
     rw [r]at b
     have k2:(M.Kx Γ.cl 8 a).contains c2=true:=by rw [← go.cl];simpa using r
     refine⟨go.K▸xab l m V,go.K▸wN l K k2,?_⟩
     exact b _ _ _ ((s1.on P i).setD (show RelD Γ S L (.str tx) (.str (zdH tx))from rfl))
   refine⟨λa ed l=> ?_,λa f' d' ed l xg t u z1 r z3=> ?_⟩
   ·subst ed
    refine⟨_,rfl,go.K▸l.k,?_⟩
    cases z: [c].any (M.Kx F.cl 8 a).contains with
    | false=>exact .inr (two a u0 rfl rfl l z)
    | true=>
     exfalso
     unfold M.Pj at b
     rw [M.K3,z]at b
     exact b.elim
   ·subst ed
    refine⟨_,rfl,go.K▸l.k,?_⟩
    cases z: [c].any (M.Kx F.cl 8 a).contains with
    | false=>exact .inr (two a (y0 t) rfl rfl l z)
    | true=>
     have V:(M.Kx Γ.cl 8 a).contains c=true:=by rw [← go.cl];simpa using z
     unfold M.Pj at b
     rw [M.K6,z]at b
     dsimp only at b
     split at b
     ·rename_i hg
      subst hg
      refine .inl ⟨go.K▸wN l m V,t,u,rfl,r,go.K▸xg,λy C=> ?_⟩
      have s2:=(s1.on P i).on (Wg (qaG y (Γ.ca a) (y0 t)) C) (i.newF (qaG y (Γ.ca a) (y0 t)) C)
      have rd:RelD Γ (S.more y) (jd7 L y (qaG y (Γ.ca a) (y0 t))) (.err a f' d') (.ref y):=⟨y,t,u,rfl,.inr rfl,.inl z1,xb,by rw [qa (Xa r C)];exact r,l,xg,z3.ext (Wg _ C) i⟩
      exact b _ _ _ ((s2.setD rd).setD (z3.ext (Wg _ C) i)).clear
     ·exact b.elim
end
section
variable {Γ:Ge}{F:M.Fx}{k:Nat}{X:Cx}{E:XK}{cf:Cf}
mutual
theorem zdo (go:xdW Γ F X E k cf): ∀(m:M.S){st:Stmt},jcZ cf m st=k9->PS X st (qdX Γ E (M.exec F m))
 | .set i e,st,h=>by
  refine qac (λts v p h=> ?_) st h
  refine kC (λt r h=> ?_) ts h
  refine Zm (λx p1 h=> ?_) t h
  refine kE (λh=> ?_) r h
  exact qa8 go.toGo (a2 h).1 (a2 h).2
 | .setf i e,st,h=>by
  refine qac (λts v p h=> ?_) st h
  refine kC (λt r h=> ?_) ts h
  refine Zm (λx p1 h=> ?_) t h
  refine kE (λh=> ?_) r h
  exact jak go.toGo (a2 h).1 (a2 h).2
 | .unp is e,st,h=>by
  refine qac (λts v p h=> ?_) st h
  refine kC (λt r h=> ?_) ts h
  refine jc6 (λx n p1 h=> ?_) t h
  refine kE (λh=> ?_) r h
  obtain⟨h1,h2,h3⟩:=a3 h
  exact qa5 go.toGo h1 h2 h3
 | .setix i kx e,st,h=>by
  refine qac (λts v p h=> ?_) st h
  refine kC (λt r h=> ?_) ts h
  refine jb5 (λx y p1 h=> ?_) t h
  refine Zm (λx p2 h=> ?_) x h
  refine kE (λh=> ?_) r h
  obtain⟨h0,h4,_,h5,h6,h7⟩:=a6 h
  obtain⟨h1,h2,h3⟩:=xaS h0
  exact W9 go.toGo h1 h2 h3 h4 h6 h7
 | .dputI i e,st,h=>by
  refine qac (λts v p h=> ?_) st h
  refine kC (λt r h=> ?_) ts h
  refine jb5 (λx y p1 h=> ?_) t h
  refine Zm (λx p2 h=> ?_) x h
  refine kE (λh=> ?_) r h
  obtain⟨h0,h4,_,h5,h6,h7⟩:=a6 h
  obtain⟨h1,h2,h3⟩:=xaS h0
  exact zaa go.toGo h1 h2 h3 h4 h6 h7
 | .dput i e,st,h=>by
  refine qac (λts v p h=> ?_) st h
  refine kC (λt r h=> ?_) ts h
  refine jb5 (λx y p1 h=> ?_) t h
  refine Zm (λx p2 h=> ?_) x h
  refine kE (λh=> ?_) r h
  obtain⟨h0,h4,_,h5,h6,h7⟩:=a6 h
  obtain⟨h1,h2,h3⟩:=xaS h0
  exact zap go.toGo h1 h2 h3 h4 h6 h7
 | .app i e,st,h=>by
  refine zdO (λc p h=> ?_) st h
  refine Wh (λf x l q h=> ?_) c h
  refine kE (λh=> ?_) l h
  refine kC (λv r h=> ?_) x h
  refine kE (λh=> ?_) r h
  obtain⟨h1,h2,h3⟩:=a3 h
  exact qbl go.toGo h1 h2 h3
 | .ext i e,st,h=>by
  refine zdO (λc p h=> ?_) st h
  refine Wh (λf x l q h=> ?_) c h
  refine kE (λh=> ?_) l h
  refine kC (λv r h=> ?_) x h
  refine kE (λh=> ?_) r h
  obtain⟨h1,h2,h3⟩:=a3 h
  exact xa9 go.toGo h1 h2 h3
 | .appR i e,st,h=>by
  refine zdO (λc p h=> ?_) st h
  refine Wh (λf x l q h=> ?_) c h
  refine kE (λh=> ?_) l h
  refine kC (λv r h=> ?_) x h
  refine kE (λh=> ?_) r h
  obtain⟨h1,h2,h3⟩:=a3 h
  exact zak go.toGo h1 h2 h3
 | .popR i j,st,h=>by
  refine qac (λts v p h=> ?_) st h
  refine kC (λt r h=> ?_) ts h
  refine Zm (λx p1 h=> ?_) t h
  refine kE (λh=> ?_) r h
  refine Wh (λf x l q h=> ?_) v h
  refine kE (λh=> ?_) l h
  refine kE (λh=> ?_) x h
  exact qai go.toGo (a2 h).1 (a2 h).2
 | .popU i is,st,h=>by
  refine qac (λts v p h=> ?_) st h
  refine kC (λt r h=> ?_) ts h
  refine jc6 (λx n p1 h=> ?_) t h
  refine kE (λh=> ?_) r h
  refine Wh (λf y l q h=> ?_) v h
  refine kE (λh=> ?_) l h
  refine kE (λh=> ?_) y h
  exact xaJ go.toGo (a2 h).1 (a2 h).2
 | .mv i j,st,h=>by
  refine qac (λts v p h=> ?_) st h
  refine kC (λt r h=> ?_) ts h
  refine Zm (λx p1 h=> ?_) t h
  refine kE (λh=> ?_) r h
  refine Zm (λy p2 h=> ?_) v h
  obtain⟨h1,h2,h3⟩:=xaS (a2 h).2
  exact zb2 go.toGo (a2 h).1 h1 h2 h3
 | .nope,st,h=>λk8 s U H D I ⟨B,G,Y,h,s',p⟩=>p.elim
 | .freeze _,st,h=>qdB h
 | .ex e,st,h=>by
  refine zdO (λv p h=> ?_) st h
  exact qb7 go.toGo (a2 h).1 (a2 h).2
 | .ret e,st,h=>by
  refine jdk (λv p h=> ?_) st h
  refine kS (λv h=> ?_) v h
  exact za7 go.toGo h
 | .iff c a b,st,h=>by
  refine zdk (λx y z p h=> ?_) st h
  obtain⟨h0,h1,h2,h3⟩:=a4 h
  exact xa8 ((jc c go.toGo h1).2 h0) (sndSs go a h2) (sndSs go b h3)
 | .whl n c b,st,h=>by
  refine qdp (λx y z p h=> ?_) st h
  refine kE (λh=> ?_) z h
  obtain⟨h0,h1,h2⟩:=a3 h
  exact qbh go ((jc c go.toGo h1).2 h0) (sndSs go b h2)
 | .for tg one it b,st,h=>by
  refine zdw (λt i y z p h=> ?_) st h
  refine kE (λh=> ?_) z h
  obtain⟨h1,h2,h3,h4⟩:=a4 h
  exact za1 go h1 h2 h3 (sndSs go b h4)
 | .raisf c f e,st,h=>by
  refine jdd (λx y p h=> ?_) st h
  refine kS (λx h=> ?_) x h
  refine Wh (λg x l q h=> ?_) x h
  refine kE (λh=> ?_) l h
  refine kC (λx r h=> ?_) x h
  refine kE (λh=> ?_) r h
  obtain⟨h0,h1,h2,h3⟩:=a4 h
  cases nn h0
  exact W7 go h1 h2 h3
 | .raise c es,st,h=>by
  refine jdd (λx y p h=> ?_) st h
  refine kS (λx h=> ?_) x h
  refine Wh (λg x l q h=> ?_) x h
  refine kE (λh=> ?_) l h
  refine kC (λx r h=> ?_) x h
  obtain⟨h0,h1,h2,h3,h4⟩:=a5 h
  cases nn h0
  exact qab go h1 h2 (of_decide_eq_true h3) h4
 | .tryf f es c nm iv fl c2 tx,st,h=>by
  refine zdp (λb hs p h=> ?_) st h
  refine kC (λa r h=> ?_) b h
  refine kE (λh=> ?_) r h
  obtain⟨h0,h1⟩:=a2 h
  obtain⟨g,x,xs,cp,ep,rfl,k1,k2,k3⟩:=xdp h0
  obtain⟨w,n,v,w2,vp,np,fp,ap,hp,vq,j,cq,aq,hq,rfl,g1,g2,g3,g4,g5,g6,g7⟩:=jck h1
  exact zaq go k1 k2 k3 g1 g2 g3 g4 g5 g6 g7
theorem sndSs (go:xdW Γ F X E k cf): ∀(m:M.Ss){sts:List Stmt},chkSs cf m sts=k9->PSs X sts (qdX Γ E (M.execs F m))
 | .nil,sts,h=>by
  cases Ae9.mp h
  exact xaH
 | .cons s ss,sts,h=>by
  cases q:jbQ s with
  | true=>
   cases s with
   | freeze i=>exact WM (sndSs go ss h)
   | _=>cases q
  | false=>
   have h:(bif jbQ s then chkSs cf ss sts else lC sts λst sts=>jcZ cf s st&&chkSs cf ss sts)=true:=h
   rw [q]at h
   refine kC (λst r h=> ?_) sts h
   exact Z8 (zdo go s (a2 h).1) (sndSs go ss (a2 h).2)
end
end
section
variable {P:Program}{w:World}{K:Aa6}{mg:Str->Option Value}{base:Heap}{N:List Str}{v8:Str}{scope:Scope}{f:Addr}{cd:Value}{A:Around}{outer:List Env}{s:Shared}{H:Hp}{E:XK}
def j9:QS (zdN P w) (JM (zdN P w) P w K mg base N v8 scope f cd A outer s H E) E:=by
 intro k8 U H1 s1 ev s' I hq
 obtain⟨x,C,t,B,H',od,rfl,os,bare,fl,un,hok,comp,new,hd,hE⟩:=hq
 have I':=JI I os bare un hok comp fl λb o z _=>⟨o.slots,z⟩
 have ff:=fl.2.2.1
 refine wpAny_mono (JJ (WG _ _) (wpAny_leaves_onW (Q:=λ_ s2=> ∃h2,s2= { s' with heap:=h2 }/\Al6 B outer x (.ref C) (.ref t) h2/\s'.heap.UpToSlots h2) (E:=λ_ _=>False) I.ok.frames rfl fl λh2 x1 x4=>⟨h2,rfl,x1,x4⟩)) (λ_ s2 z=> ?_) λ_ _ z=>z.1.elim
 obtain⟨⟨h2,rfl,x1,x4⟩,dk⟩:=z
 have free:=I'.stkFree
 have slotH: ∀b o,b∈qdZ (envOfC v8 scope s.heap.objs.size f cd::outer)->s'.heap.get? b=y0 o-> ∃sl,h2.get? b=y0 { o with slots:=sl }:=λb o hb z=>by
  obtain⟨_,o',z',nf⟩:=ff.mem hb
  rw [z]at z'
  cases z'
  exact x4 b o z nf
 have toH:=λb o z c n=>x1.1 b o (comp b o z c n)
 have cut: ∀b,b∉qdZ outer->b≠s.heap.objs.size->b∉qdZ (envOfC v8 scope s.heap.objs.size f cd::outer):=λb n1 n2 hb=>by
  rcases Ab7.mp (hb)with z | z
  ·exact n2 z
  ·exact n1 z
 have old: ∀b o,s.heap.get? b=y0 o->b≠s.heap.objs.size:=λb o z=>Ac3 (Ab5 z)
 have jdW: ∀b u,H' b=y0 u->b∉qdZ (envOfC v8 scope s.heap.objs.size f cd::outer):=λb u z hb=>by rw [free b hb]at z;cases z
 have in1:=λb o z=>I.base.there b o z (by show b∉ [];simp)
 refine⟨x,C,t,B,H',od,rfl,os.trans I.os,bare,x1,⟨λb o z n hb hx=> ?_,λb o z n hb hx=> ?_,I'.base.free,λb o z hx=> ?_,I'.base.tups,I'.base.frzs,I'.base.tbls⟩,λb u z=> ?_,λb o z hc hb=> ?_,?_,λdx z=> ?_,hE⟩
 ·exact toH b o (I'.base.keep b o z n hb hx) (.inr (in1 b o z)) (cut b hb (old b o z))
 ·obtain⟨sl,z1⟩:=I'.base.slot b o z n hb hx
  obtain⟨sl2,z2⟩:=slotH b _ (Aa1 _ hb) z1
  exact⟨sl2,z2⟩
 ·obtain⟨o',z1⟩:=I'.base.there b o z hx
  by_cases hb:b∈qdZ (envOfC v8 scope s.heap.objs.size f cd::outer)
  ·obtain⟨sl,z2⟩:=slotH b o' hb z1
   exact⟨_,z2⟩
  ·exact⟨o',toH b o' z1 (.inr (in1 b o z)) hb⟩
 ·refine(hok b u z).stay (λc v hc z1=> ?_) (λ_ z1=>z1) λ_ _ z1=>z1
  rcases hc with rfl | hc
  ·exact toH c v z1 (.inl ⟨u,z⟩) (jdW c u z)
  ·exact toH c v z1 (.inl ⟨_,hc⟩) (jdW c _ hc)
 ·have two: ∃o2,s'.heap.get? b=y0 o2/\((∃ u,H' b=y0 u)\/ ∃u,s1.heap.get? b=y0 u)/\b∉qdZ (envOfC v8 scope s.heap.objs.size f cd::outer):=by
   rcases hc with⟨u,hu⟩ | ⟨u,hu⟩
   ·obtain⟨o2,z2⟩:=(hok b u hu).there
    exact⟨o2,z2,.inl ⟨u,hu⟩,jdW b u hu⟩
   ·obtain⟨o2,z2⟩:=I'.base.there b u hu (by show b∉ [];simp)
    exact⟨o2,z2,.inr (in1 b u hu),cut b hb (old b u hu)⟩
  obtain⟨o2,z2,c2,nb⟩:=two
  have z3:=toH b o2 z2 c2 nb
  rw [show h2.get? b=y0 o from z]at z3
  cases z3
  exact comp b _ z2 c2 nb
 ·cases z:s.heap.get? x with
  | none=>rfl
  | some u=>
   obtain⟨o2,z2⟩:=in1 x u z
   rw [new]at z2
   cases z2
 ·obtain⟨o,e1,e2⟩:=hd dx z
  obtain⟨o',e3,e4⟩:=dk x o e1
  exact⟨o',e3,e4.trans e2⟩
end
section
variable {Γ:Ge}{G G0:Gh}{H H0:Hp}{h:M.AH}
def Gh.cut (G:Gh) (n:Nat):Gh:= { G with n:=n }
mutual
theorem RelD.cut (n:Nat): ∀ {d:M.D}{v:V},M.Gc d=k9->RelD Γ G H d v->RelD Γ (G.cut n) H d v
 | .non,_,_,z=>z
 | .bl _,_,_,z=>z
 | .int _,_,_,z=>z
 | .str _,_,_,z=>z
 | .tup _,_,q,⟨a,vs,z1,z2,z3⟩=>⟨a,vs,z1,z2,RelDs.cutR n (by simpa [M.Gc]using q) z3⟩
 | .lst _,_,q,⟨a,vs,z1,z2,z3⟩=>⟨a,vs,z1,z2,RelDs.cutR n (by simpa [M.Gc]using q) z3⟩
 | .ref r,_,q,_=>by simp [M.Gc]at q
 | .exc c fs,_,q,z=>by simp [M.Gc]at q
 | .err c f d,_,q,z=>by simp [M.Gc]at q
theorem RelDs.cutR (n:Nat): ∀ {ds:List M.D}{vs:List V},M.Gf ds=k9->RelDs Γ G H ds vs->RelDs Γ (G.cut n) H ds vs
 | [],_,_,z=>z
 | d::ds,_,q,⟨v,r,z1,z2,z3⟩=>by
  have q':M.Gc d=k9/\M.Gf ds=true:=by simpa [M.Gf]using q
  exact⟨v,r,z1,RelD.cut n q'.1 z2,RelDs.cutR n q'.2 z3⟩
end
theorem zJ: ∀l:List Int,M.Gf (l.map M.D.int)=k9
 | []=>rfl
 | _::l=>zJ l
def jb8 (k):M.Gc (xd6 k)=true:=by
 show(k9&&(M.Gf (k.2.1.map M.D.int)&&(M.Gf (k.2.2.map M.D.int)&&k9)))=k9
 rw [zJ,zJ];rfl
theorem HRel.cut (r:HRel Γ G h H)(g:n<=G.n):HRel Γ (G.cut n) (h.take n) H where
 len:=by rw [Ag4,r.len];exact Al2 g
 any:=λi c e=>by
  have m:i<n:=by
   have:=(Ac2.mp e).1
   rw [Ag4]at this
   omega
  rw [List.getElem?_take_of_lt m]at e
  obtain⟨t,f⟩:=r.any i c e
  refine⟨t,?_⟩
  cases c with
  | lst k=>obtain⟨a,l,d,b⟩:=f;exact⟨a,l,d,RelDs.cutR n a b⟩
  | dic p=>obtain⟨k,d,b,q⟩:=f;exact⟨k,d,b,λx s=>RelD.cut n (jb8 x.1) (q x s)⟩
  | dii p=>exact f
  | obj c fs=>obtain⟨a,w,o,d,b⟩:=f;exact⟨a,w,o,d,RelDs.cutR n a b⟩
 inj:=λi j v u e=>r.inj i j (Ab1 v g) (Ab1 u g) e
 live:=r.live
theorem Ext.cut (e:Ext G0 H0 G H):Ext G0 H0 (G.cut G0.n) H:=⟨e.keep,Aa5 _,e.rho,λr a b=>absurd a (Ap0.mpr b),e.fz,e.old,e.cells⟩
theorem RelW.cut (n) (i:n<=G.n)(q:w.keep=k9) (h: ∀xs,w≠ .bor xs) (z:RelW Γ G H w v):RelW Γ (G.cut n) H w v:=by
 cases w with
 | v d=>exact RelD.cut n q z
 | own xs=>
  obtain⟨a,c,j,k,g,b,f⟩:=z
  exact⟨a,c,j,k,λr e=>g r (Ab1 e i),b,RelDs.cutR n q f⟩
 | bor xs=>exact absurd rfl (h xs)
end
structure jdQ (K:Aa6) (mg:Str->Option Value) (f:String) where
 st:Stmt
 fa:Addr
 fd:FuncData
 N:List Str
 ps:List Str
structure jag {K:Aa6}{mg:Str->Option Value}{f:String}(t:jdQ K mg f) (d:M.Fn) (fns own rai hnd:List String) (ob:jdy):Prop where
 fn: ∃x v8,Fun K x v8 t.st t.fa t.fd
 bd:Binds K t.fd t.ps []
 sc:Qn t.N t.ps (Zb t.st)
 n:t.N.length=d.n
 p:t.ps.length=d.ps
 le:d.ps<=d.n
 chk:chkSs ⟨Zb t.st,t.N,fns,own,rai,hnd,ob⟩ d.body (We t.st)=k9
structure xc2 (Γ:Ge) (p:M.Prog) (mg:Str->Option Value) (own rai hnd:List String) (ob:jdy):Prop where
 cl:p.cl=Γ.cl
 ow:own=Γ.own
 blt: ∀x,x∈bltN->mg (zg x)=u0
 con: ∀x d,p.con.lookup x=y0 d-> ∃u v,mg (zg x)=y0 u/\RelV v u/\ ∀G H,RelD Γ G H d v
 cls: ∀c,own.contains c=k9->mg (zg c)=y0 (.ref (Γ.ca c))
 rai: ∀c,rai.contains c=true->jdZ Γ c/\PySem.W.excIn Γ.K (Γ.ca c) Zu "ValueError.__new__" =true/\mg (zg c)=some (.ref (Γ.ca c))
 rfi: ∀c f,ob.er.contains (c,f)=true->jdZ Γ c/\xcD Γ.K (Γ.ca c) (zg f)/\jcP Γ.K (Γ.ca c) (zg f)/\mg (zg c)=some (.ref (Γ.ca c))/\ ∃fI fd ps,PySem.W.findIn Γ.K (.ref (Γ.ca c)) "__init__" =some (some (.ref fI))/\QX Γ.K (zg f) fI fd ps
 hnd: ∀c,hnd.contains c=true->PySem.W.mroIn Γ.K (Γ.ca c) (.type "BaseException")=some true/\own.contains c=true
 fld: ∀c f,ob.fl.contains (c,f)=k9->Cls Γ.K (Γ.ca c)/\zbz Γ.K (Γ.ca c) (zg f)
 mth: ∀c m q,ob.mt.contains (c,m,q)=k9->Cls Γ.K (Γ.ca c)/\ob.ms.contains q=k9/\qde Γ.K (Γ.ca c) (zg m) (Γ.ma q)
 mks: ∀c q,ob.mks.contains (c,q)=k9->mg (zg c)=y0 (.ref (Γ.ca c))/\ob.ms.contains q=k9/\Mk Γ.K (Γ.ca c) (Γ.ma q)
section
variable {P:Program}{w:World}{Γ:Ge}{mg:Str->Option Value}{base:Heap}{p:M.Prog}{own rai hnd fns:List String}{ob:jdy}
def jaG (m:HRel Γ G h H) (r:RelWs Γ G H ws c) (p: ∀w∈ws,qbi w=k9) (u:N.length=n):StS Γ ⟨G,H,h⟩ G (ws.map y0++Ab0 (n-ws.length) u0) h (start N c) H:=by
 have B:=r.length
 have get: ∀ {i}{w},M.Gj (ws.map y0++Ab0 (n-ws.length) u0) i=y0 w->ws[i]? =y0 w:=λ{i w} e=>by
  rw [Jy]at e
  by_cases g:i<ws.length
  ·rw [Ag1 (by simpa using g),Ad1]at e
   cases q:ws[i]? with
   | none=>rw [q]at e;cases e
   | some E=>rw [q]at e;exact e
  ·rw [Af9 (by simpa using g),Am5]at e
   split at e<;>cases e
 have l: ∀ {ws}{c}{i:Nat}{w},RelWs Γ G H ws c->ws[i]? =y0 w-> ∃v,c[i]? =y0 v/\RelW Γ G H w v:=by
  intro ws
  induction ws with
  | nil=>intro c i w _ e;simp at e
  | cons a r t=>
   intro c i w ⟨v,D,d,x,C⟩ e
   subst d
   cases i with
   | zero=>simp at e;subst e;exact⟨v,rfl,x⟩
   | succ i=>
    obtain⟨y,A,z⟩:=t C (by simpa using e)
    exact⟨y,by simpa using A,z⟩
 have b: ∀ {i}{f},M.Gj (ws.map y0++Ab0 (n-ws.length) u0) i≠y0 (.own f):=λ{i f} e=>by
  have:=p _ (Ak4 (get e))
  cases this
 refine⟨⟨?_,λi w e=> ?_,λi j f w a s d=>absurd d b,m⟩,Ext.refl,m,λi f a d=>absurd d b⟩
 ·unfold start
  rw [Aa8,Aa8,Aa,Aa,Af5,Af5,u,B]
 ·obtain⟨v,o,k⟩:=l r (get e)
  refine⟨v,?_,k⟩
  unfold start
  have g:=(Ac2.mp o).1
  rw [Ag1 (by simpa using g),Ad1,o]
  rfl
def jbh (m:HRel Γ G h H) (p:PostW Γ E G H (M.G7 h.length o) Q):PostO Γ E ⟨G,H,h⟩ o { nx:=λ_ H'=>Q .non H',rt:=Q }:=by
 have g: ∀ {w}{c}{b}{H'}{v},(∀ i,w≠ .bor i)->PostW Γ E G H (M.fin h.length w c) Q->Ext G H b H'->HRel Γ b c H'->RelW Γ b H' w v->FreshW [] [] H w v->Q v H':=λ{w c b H' v} k p e a r f=>by
  unfold M.fin at p
  split at p
  ·exact p b H' e a v r f
  ·split at p
   ·rename_i n
    have l:=e.cut
    rw [m.len]at p
    exact p (b.cut G.n) H' l (a.cut e.le) v (r.cut G.n e.le n k) f
   ·exact p b H' e a v r f
 cases o with
 | next Y c=>exact λb q H' j=>g (λi z=>by cases z) p j.ext j.st.heap rfl trivial
 | ret w c=>
  cases w with
  | bor i=>exact p.elim
  | v d=>exact λb v H' e a r f=>g (λi z=>by cases z) p e a r f
  | own i=>exact λb v H' e a r f=>g (λi z=>by cases z) p e a r f
 | exc d c=>exact p
 | brk Y c=>exact p.elim
 | cont Y c=>exact p.elim
 | fail=>exact p.elim
end
section
variable {P:Program}{w:World}{Γ:Ge}{mg:Str->Option Value}{base:Heap}{p:M.Prog}{own rai hnd fns:List String}{ob:jdy}
noncomputable def qcd (P:Program) (w:World) (a:Ge) (mg:Str->Option Value) (base:Heap) (p:M.Prog) (k:Nat) (f:String):Prop:=
 ∃ps b fd,FnOk P w a.K mg base (zdN P w) (2*k+1) b fd ps (zdC a (M.call p k f))/\Binds a.K fd ps []/\Ae4 a.K (.ref b)=k9/\mg (zg f)=y0 (.ref b)
noncomputable def zdf (P:Program) (w:World) (a:Ge) (mg:Str->Option Value) (base:Heap) (p:M.Prog) (k:Nat) (q:String):Prop:=
 ∃ps fd,FnOk P w a.K mg base (zdN P w) (2*k+1) (a.ma q) fd ps (zdC a (M.call p k q))/\Binds a.K fd ps []
def jb0 (pr:xc2 Γ p mg own rai hnd ob){t:jdQ Γ.K mg f}(ok:jag t d fns own rai hnd ob) (hf:p.fns.lookup f=y0 d) (k) (ih: ∀g,fns.contains g=k9->qcd P w Γ mg base p k g) (im: ∀q,ob.ms.contains q=k9->zdf P w Γ mg base p k q):
 FnOk P w Γ.K mg base (zdN P w) (2*(k+1)+1) t.fa t.fd t.ps (zdC Γ (M.call p (k+1) f)):=by
 have a: ∀ {i}{h},i.length≠d.ps->M.call p (k+1) f i h= .fail:=λ{i h} hn=>by
  rw [M.call,hf]
  simp [M.run,hn]
 have l:=λ{i h} hn=>M.Ga hf k i h hn
 obtain⟨x,v8,F⟩:=ok.fn
 refine Fun.okX F ok.sc (λvs H Q E ⟨G,h,i,U,D,Y,q⟩=> ?_) λcdv A J s H vs Q E b ⟨G,h,i,U,D,Y,q⟩=> ?_
 ·by_cases r:i.length=d.ps
  ·rw [← D.length,r,ok.p]
  ·rw [a r]at q;exact q.elim
 ·by_cases r:i.length=d.ps
  rotate_left
  ·rw [a r]at q;exact q.elim
  rw [l r]at q
  refine⟨qdX Γ E (M.execs ⟨M.call p k,p.cl,p.con⟩ d.body),sndSs (k:=2*k+1) ?_ d.body ok.chk,?_⟩
  ·refine { N:=rfl,K:=rfl,cl:=pr.cl,ow:=pr.ow,nd:=ok.sc.nd,vis:=λx j=>W3 j,lcl:=λx j=>j,sto:=λx j=>⟨xY j,.inl rfl⟩,cel:=λx j=>j,gl:=λx j=>wI j,calm:=rfl,room:=b.mono (by omega),room1:=b,pass:=j9,blt:=pr.blt,con:=pr.con,fn:=λg u=> ?_,cls:=pr.cls,fld:=pr.fld,mth:=λc m q O=> ?_,mks:=λc q O=> ?_,pown:=qc5,stk:=rfl,frm:=rfl,ex:=rfl,rai:=λc I u W=> ?_,rfi:=λc f I u W=> ?_,hnd:=pr.hnd }
   ·obtain⟨n,fa,o,z,y,h3,h4⟩:=ih g u
    exact⟨n,⟨fa,o,z,y,h3,h4⟩⟩
   ·obtain⟨S,X,V⟩:=pr.mth c m q O
    obtain⟨n,o,z,y⟩:=im q X
    exact⟨S,_,o,n,V,z,y⟩
   ·obtain⟨S,X,V⟩:=pr.mks c q O
    obtain⟨n,o,z,y⟩:=im q X
    exact⟨S,_,o,n,V,z,y⟩
   ·obtain⟨L,ei,T⟩:=pr.rai c I
    refine⟨L,λnp v C e es t R B=> ?_⟩
    exact xbh ei T (wI u) R (ja (B _ Aa3)) (zu λe he=>B e (Aa1 _ he)) W
   ·obtain⟨L,xg,xe,T,fI,o,n,hi,Z⟩:=pr.rfi c f I
    exact⟨L,xg,λnp v C e t R B=>xav xe hi Z T (wI u) (b.mono (by omega)) R (ja B) W⟩
  ·refine⟨⟨G,H,h⟩,G,i.map y0++Ab0 (d.n-d.ps) u0,h,?_,jbh U q⟩
   have:=jaG U D Y ok.n
   rw [r]at this
   exact this
def qao (f) (fa) (fd) (ps):FnOk P w Γ.K mg base (zdN P w) (2*0+1) fa fd ps (zdC Γ (M.call p 0 f)):=
 ⟨λd H Q E ⟨G,h,i,e,g,c,q⟩=>q.elim,λA a s H b j d Q E _ _ _ _ ⟨G,h,i,e,g,c,q⟩=>q.elim⟩
def qcx (pr:xc2 Γ p mg own rai hnd ob) (all: ∀f,fns.contains f=k9-> ∃d,p.fns.lookup f=y0 d/\ ∃t:jdQ Γ.K mg f,jag t d fns own rai hnd ob/\Ae4 Γ.K (.ref t.fa)=k9/\mg (zg f)=y0 (.ref t.fa))
 (a: ∀q,ob.ms.contains q=k9-> ∃d,p.fns.lookup q=y0 d/\ ∃t:jdQ Γ.K mg q,jag t d fns own rai hnd ob/\t.fa=Γ.ma q): ∀k,(∀ f,fns.contains f=k9->qcd P w Γ mg base p k f)/\ ∀q,ob.ms.contains q=k9->zdf P w Γ mg base p k q:=by
 intro k
 induction k with
 | zero=>
  refine⟨λf i=> ?_,λq h=> ?_⟩
  ·obtain⟨d,b,t,ok,e,g⟩:=all f i
   exact⟨t.ps,t.fa,t.fd,qao f _ _ _,ok.bd,e,g⟩
  ·obtain⟨d,b,t,ok,j⟩:=a q h
   exact⟨t.ps,t.fd,qao q _ _ _,ok.bd⟩
 | succ k c=>
  refine⟨λf i=> ?_,λq h=> ?_⟩
  ·obtain⟨d,b,t,ok,e,g⟩:=all f i
   exact⟨t.ps,t.fa,t.fd,jb0 pr ok b k c.1 c.2,ok.bd,e,g⟩
  ·obtain⟨d,b,t,ok,j⟩:=a q h
   exact⟨t.ps,t.fd,j▸jb0 pr ok b k c.1 c.2,ok.bd⟩
def jz {K:Aa6}(h:Ak2 K C=y0 ci):(Ak2 K C).isSome=true:=by rw [h];rfl
def Zy {K:PySem.W.Frag}(h1:PySem.W.clsIn K C=some ci) (h2:PySem.W.typeIn K (.ref C)=some (.type "type")) (a:PySem.W.subIn K (.ref C) (.ref C)=some true):PySem.W.kitCls K (.ref C) (.ref C)=some true:=by
 show(if _ then _ else _)=_
 rw [h1,h2,if_pos (by first | rfl | simp | decide),a]
noncomputable def zb3 (K:Aa6):Sp:=λc H Q _=> ∃(a:Addr) (b:List Int),c= [.ref a]/\SqL K H a (b.map V.int)/\b.length<=63/\ ∀H',Q (.bl k9) H'
theorem X2 : ∀(ns:List Int),RelDs Γ G H (ns.map M.D.int) (ns.map V.int)
 | []=>rfl
 | n::ns=>⟨_,_,rfl,rfl,X2 ns⟩
def xcB (F:FnOk P w Γ.K mg base (zdN P w) n fa fd ps (zdC Γ (M.call p k "law"))) (hlaw: ∀ns:List Int,ns.length<=63-> ∃h',M.call p k "law" [.v (.lst (ns.map .int))] []= .ok (.v (.bl true)) h'):
 FnOk P w Γ.K mg base jdD n fa fd ps (zb3 Γ.K):=by
 refine FnOk.calm F ?_
 rintro u H Q E ⟨a,ns,j,d,hn,q⟩
 subst j
 obtain⟨h',h⟩:=hlaw ns hn
 have fin: ∀G:Gh,HRel Γ G [] H->StL Γ G H a (ns.map V.int)->zdC Γ (M.call p k "law") [.ref a] H Q (fun _ _ _=>False):=fun G m i=>by
  refine⟨G,[],[.v (.lst (ns.map .int))],m,⟨.ref a,[],rfl,⟨a,ns.map V.int,rfl,i,X2 ns⟩,rfl⟩,λw t=> ?_,?_⟩
  ·cases Ad9.mp t;rfl
  ·rw [h]
   intro x l _ _ v r _
   cases (r)
   exact q l
 rcases d with d | d
 ·refine fin ⟨λb=>b=a,λ_=>0,0⟩ ⟨rfl,λr c e=>by simp at e,λr s g=>absurd g (Aj5 _),λb f=> ?_⟩ (.inl ⟨rfl,d⟩)
  subst f
  rcases d with z | ⟨o,z⟩
  ·exact⟨_,z⟩
  ·exact⟨_,z⟩
 ·exact fin ⟨λ_=>False,λ_=>0,0⟩ ⟨rfl,λr c e=>by simp at e,λr s g=>absurd g (Aj5 _),λb f=>f.elim⟩ (.inr d)
def walk {l:PySem.W.OpenLaw}{K:Params->Aa6}(k) (o:Room k callerA) (g:l.most=y0 63) (b:d.params.defaults= [])
 (i: ∀ w h,YP w h->(K w.params).In h)
 (F: ∀ w mg c h,(K w.params).In h->h.Ns mainGlobals mg->mg d.name=y0 (.ref c) →
   ∃fd:FuncData,(∀ s u,BindsTo s fd ⟨[u],[]⟩ [(x,u)])/\ ∀base:Heap,(K w.params).In base->base.Ns mainGlobals mg->FnOk l.prog w (K w.params) mg base jdD k c fd [x] (zb3 (K w.params))):
 PySem.W.WalkO q loose XP YP l.row.toRowW d [] (λf e=>PySem.call f e):=
 L2.walk_of g (by decide) b o i F (λ_ _ a j n _ m=>⟨a,j,rfl,m,n,λ_=>rfl⟩) λ_ _ _ _ _ z=>z
end
end L2.MS
namespace Wf
def bitsB (t n:Nat):List Bool:=(Aa0 n).map t.testBit
def bitsB_length (t n):(bitsB t n).length=n:=by simp [bitsB]
def bitsB_get (h:k<n):(bitsB t n)[k]? =y0 (t.testBit k):=by
 unfold bitsB;rw [Ad1,List.getElem?_range h];rfl
def bit_nat (t k):t / 2 ^ k % 2=(t.testBit k).toNat:=(Nat.toNat_testBit t k).symm
theorem qH: ∀(n a b:Nat),a<=n->(a ||| b)+(a &&& b)=a+b
 | 0,a,b,h=>by
  have:a=0:=by omega
  subst this;simp
 | n+1,a,b,h=>by
  by_cases c:a=0
  ·subst c;simp
  have j:=qH n (a / 2) (b / 2) (by omega)
  have g:=Al3 (a ||| b) 2
  have i:=Al3 (a &&& b) 2
  rw [Nat.or_div_two]at g
  rw [Nat.and_div_two]at i
  have f:(a ||| b) % 2=1↔a % 2=1\/b % 2=1:=Nat.or_mod_two_eq_one
  have d:(a &&& b) % 2=1↔a % 2=1/\b % 2=1:=Nat.and_mod_two_eq_one
  have l:=Al3 a 2
  have k:=Al3 b 2
  have m:(a ||| b) % 2<2:=Ap1 _ (by decide)
  have o:(a &&& b) % 2<2:=Ap1 _ (by decide)
  generalize (a ||| b) % 2=p at*
  generalize (a &&& b) % 2=q at*
  by_cases c:a % 2=1<;>by_cases e:b % 2=1
  ·have:p=1:=f.mpr (.inl c)
   have:q=1:=d.mpr ⟨c,e⟩
   omega
  ·have:p=1:=f.mpr (.inl c)
   have: ¬q=1:=λh=>e (d.mp h).2
   omega
  ·have:p=1:=f.mpr (.inr e)
   have: ¬q=1:=λh=>c (d.mp h).1
   omega
  ·have: ¬p=1:=λh=>(f.mp h).elim c e
   have: ¬q=1:=λh=>c (d.mp h).1
   omega
def qb2 (a b:Nat):a-(a &&& b)=a ^^^ (a &&& b):=by
 have h:=qH _ (a ^^^ (a &&& b)) (a &&& b) (Aa5 _)
 have c:(a ^^^ (a &&& b)) ||| (a &&& b)=a:=Af8 λk=>by
  simp only [Ag9,Nat.testBit_xor,Al0]
  cases a.testBit k<;>cases b.testBit k<;>rfl
 have d:(a ^^^ (a &&& b)) &&& (a &&& b)=0:=Af8 λk=>by
  simp only [Nat.testBit_xor,Al0,Am9]
  cases a.testBit k<;>cases b.testBit k<;>rfl
 omega
def sub_and_bit (a b k:Nat):(a-(a &&& b)).testBit k=(a.testBit k&& !b.testBit k):=by
 rw [qb2]
 simp only [Nat.testBit_xor,Al0]
 cases a.testBit k<;>cases b.testBit k<;>rfl
def pairsM (n t:Nat):List (Nat×Nat):=((Aa0 (n*n)).filter t.testBit).map λk=>(k / n,k % n)
def tieM (n:Nat) (a:List (Nat×Nat)):Nat:=a.foldl (λt p=>t ||| 2 ^ (p.1*n+p.2)) 0
def inB (n:Nat) (a:List (Nat×Nat)):Prop:= ∀p∈a,p.1<n/\p.2<n
def place_lt {n a b:Nat}(c:a<n) (d:b<n):a*n+b<n*n:=by
 have:a*n+n<=n*n:=by
  have:=An7 n (Nat.succ_le_of_lt c)
  rwa [Al8]at this
 omega
def place_div {n a b:Nat}(c:b<n):(a*n+b) / n=a:=by
 rw [Ai2,Nat.mul_add_div (by omega),Nat.div_eq_of_lt c,Nat.add_zero]
def place_mod {n a b:Nat}(c:b<n):(a*n+b) % n=b:=by
 rw [Ai2,Nat.mul_add_mod,Nat.mod_eq_of_lt c]
def div_lt_n {n k:Nat}(h:k<n*n):k / n<n:=Nat.div_lt_of_lt_mul h
def mod_lt_n {n k:Nat}(h:k<n*n):k % n<n:=Ap1 _ (by
 cases n with
 | zero=>simp at h
 | succ m=>omega)
def place_eq (n k:Nat):k / n*n+k % n=k:=by rw [Ai2];exact Al3 k n
theorem qaL (n): ∀(a:List (Nat×Nat)) (t k:Nat),(a.foldl (λt p=>t ||| 2 ^ (p.1*n+p.2)) t).testBit k=(t.testBit k||a.any λp=>v9 (p.1*n+p.2=k))
 | [],t,k=>by simp
 | p::r,t,k=>by
  rw [Ai,qaL n r,Ag9,Al,Ag2,Bool.or_assoc]
def tieM_bit (n) (ps) (k):(tieM n ps).testBit k=ps.any λp=>v9 (p.1*n+p.2=k):=by
 unfold tieM;rw [qaL];simp
def tieM_lt (h:inB n ps):tieM n ps<2 ^ (n*n):=by
 refine Ai7 _ λi b=> ?_
 rw [tieM_bit,Ah]
 intro p a
 have:=h p a
 have:=place_lt this.1 this.2
 simp;omega
def mem_pairsM :p∈pairsM n t↔ ∃k,k<n*n/\t.testBit k=k9/\p=(k / n,k % n):=by
 unfold pairsM
 simp only [Ab9,Ad8,Ab3]
 constructor
 ·rintro ⟨k,⟨b,a⟩,rfl⟩;exact⟨k,b,a,rfl⟩
 ·rintro ⟨k,b,a,rfl⟩;exact⟨k,⟨b,a⟩,rfl⟩
def inB_pairsM (n t):inB n (pairsM n t):=λp b=>by
 obtain⟨k,a,c,rfl⟩:=mem_pairsM.mp b
 exact⟨div_lt_n a,mod_lt_n a⟩
def swp (a:List (Nat×Nat)):List (Nat×Nat):=a.map λp=>(p.2,p.1)
def inB_swp (h:inB n ps):inB n (swp ps):=λp b=>by
 obtain⟨q,a,rfl⟩:=Ab9.mp b
 exact⟨(h q a).2,(h q a).1⟩
def turnM (n t:Nat):Nat:=tieM n (swp (pairsM n t))
def turnM_lt (n t):turnM n t<2 ^ (n*n):=tieM_lt (inB_swp (inB_pairsM n t))
def turnM_bit (g:k<n*n):(turnM n t).testBit k=t.testBit (k % n*n+k / n):=by
 unfold turnM
 rw [tieM_bit]
 have c:=div_lt_n g
 have i:=mod_lt_n g
 by_cases h:t.testBit (k % n*n+k / n)=k9
 ·rw [h,Af]
  refine⟨(k / n,k % n),?_,?_⟩
  ·refine Ab9.mpr ⟨(k % n,k / n),mem_pairsM.mpr ⟨k % n*n+k / n,place_lt i c,h,?_⟩,rfl⟩
   rw [place_div c,place_mod c]
  ·simp only [decide_eq_true_eq];exact place_eq n k
 ·have d:=by simpa using h
  rw [d,Ah]
  intro p m
  obtain⟨q,l,rfl⟩:=Ab9.mp m
  obtain⟨j,b,a,rfl⟩:=mem_pairsM.mp l
  simp only [decide_eq_true_eq]
  intro e
  subst e
  have f:=div_lt_n b
  have a2:=mod_lt_n b
  rw [place_div f,place_mod f,place_eq]at d
  rw [d]at a
  cases a
def sameM (n:Nat):Nat:=tieM n ((Aa0 n).map λa=>(a,a))
def inB_same (n):inB n ((Aa0 n).map λa=>(a,a)):=λp c=>by
 obtain⟨a,b,rfl⟩:=Ab9.mp c
 exact⟨Ab3.mp b,Ab3.mp b⟩
def xat (c:k<n*n):(sameM n).testBit k=v9 (k / n=k % n):=by
 unfold sameM
 rw [tieM_bit]
 have d:=div_lt_n c
 have g:=mod_lt_n c
 by_cases h:k / n=k % n
 ·rw [decide_eq_true h,Af]
  refine⟨(k / n,k / n),Ab9.mpr ⟨k / n,Ab3.mpr d,rfl⟩,?_⟩
  simp only [decide_eq_true_eq]
  have:=place_eq n k
  rw [← h]at this
  exact this
 ·rw [decide_eq_false h,Ah]
  intro p f
  obtain⟨a,b,rfl⟩:=Ab9.mp f
  simp only [decide_eq_true_eq]
  intro e
  subst e
  have b:=Ab3.mp b
  exact h (by rw [place_div b,place_mod b])
def rowM (n p b:Nat):Nat:=p / 2 ^ (b*n) % 2 ^ n
def joinM (n o p:Nat):Nat:=(pairsM n o).foldl (λt q=>t ||| rowM n p q.2*2 ^ (q.1*n)) 0
def rowM_lt (n p b):rowM n p b<2 ^ n:=Ap1 _ (Aj1 (by decide))
def qZ (a:c<n):(rowM n p b).testBit c=p.testBit (b*n+c):=by
 unfold rowM
 rw [Nat.testBit_mod_two_pow,decide_eq_true a,Aj3,Nat.testBit_div_two_pow,Am]
def qbF (d:x<2 ^ n) (f:0<n):(x*2 ^ (a*n)).testBit k=(v9 (k / n=a)&&x.testBit (k % n)):=by
 rw [Nat.testBit_mul_two_pow]
 have e:=place_eq n k
 by_cases h:k / n=a
 ·subst h
  rw [decide_eq_true rfl,Aj3]
  have:k / n*n<=k:=by omega
  rw [decide_eq_true (this),Aj3]
  rw [show k-k / n*n=k % n by omega]
 ·rw [decide_eq_false h,Am0]
  by_cases b:k>=a*n
  ·rw [decide_eq_true b,Aj3]
   refine Af2 (Ab1 d (Ac9 (by decide) ?_))
   have g:a<k / n:=by
    have:a<=k / n:=(Nat.le_div_iff_mul_le f).mpr b
    omega
   have c:=An7 n g
   rw [Al8]at c
   omega
  ·rw [decide_eq_false b,Am0]
theorem X3 (n p) (b:0<n): ∀(a:List (Nat×Nat)) t k,(a.foldl (λt q=>t ||| rowM n p q.2*2 ^ (q.1*n)) t).testBit k=(t.testBit k||a.any λq=>v9 (k / n=q.1)&&(rowM n p q.2).testBit (k % n))
 | [],t,k=>by simp
 | q::r,t,k=>by
  rw [Ai,X3 n p b r,Ag9,qbF (rowM_lt n p q.2) b,Ag2,Bool.or_assoc]
def pos_of_lt (h:k<n*n):0<n:=by
 cases n with
 | zero=>simp at h
 | succ m=>omega
def JB (n o p k:Nat):Bool:=(Aa0 n).any λb=>o.testBit (k / n*n+b)&&p.testBit (b*n+k % n)
def joinM_bit (g:k<n*n):(joinM n o p).testBit k=JB n o p k:=by
 have hn:=pos_of_lt g
 have l:=div_lt_n g
 have h:=mod_lt_n g
 unfold joinM JB
 rw [X3 n p hn]
 simp only [Am9,Bool.false_or]
 rw [Ad4,Af,Af]
 constructor
 ·rintro ⟨q,i,a⟩
  obtain⟨j,f,c,rfl⟩:=mem_pairsM.mp i
  rw [Aa7,decide_eq_true_eq]at a
  obtain⟨e,a⟩:=a
  refine⟨j % n,Ab3.mpr (mod_lt_n f),?_⟩
  rw [qZ h]at a
  have e:=e
  rw [e,place_eq,c,a];rfl
 ·rintro ⟨b,a,d⟩
  have a:=Ab3.mp a
  rw [Aa7]at d
  refine⟨(k / n,b),mem_pairsM.mpr ⟨k / n*n+b,place_lt l a,d.1,by rw [place_div a,place_mod a]⟩,?_⟩
  rw [qZ h,d.2]
  simp
def joinM_lt (n o p):joinM n o p<2 ^ (n*n):=by
 have c: ∀(a:List (Nat×Nat)) t,(∀ q∈a,q.1<n)->t<2 ^ (n*n)->a.foldl (λt q=>t ||| rowM n p q.2*2 ^ (q.1*n)) t<2 ^ (n*n):=by
  intro a
  induction a with
  | nil=>intro t _ h;exact h
  | cons q r g=>
   intro t d f
   refine g _ (λz i=>d z (Aa1 _ i)) (Ap f ?_)
   have b:=d q Aa3
   have:=rowM_lt n p q.2
   have e:2 ^ n*2 ^ (q.1*n)<=2 ^ (n*n):=by
    rw [← Al1]
    refine Ac9 (by decide) ?_
    have:=An7 n (Nat.succ_le_of_lt b)
    rw [Al8]at this
    omega
   exact Ab1 (Nat.mul_lt_mul_of_pos_right this (Aj1 (by decide))) e
 exact c _ _ (λq b=>(inB_pairsM n o q b).1) (Aj1 (by decide))
def eq_of_bits (a:s<2 ^ n) (b:t<2 ^ n) (h: ∀k,k<n->s.testBit k=t.testBit k):s=t:=
 Af8 λk=>by
  by_cases c:k<n
  ·exact h k c
  ·rw [Af2 (Ab1 a (Ac9 (by decide) (by omega))),Af2 (Ab1 b (Ac9 (by decide) (by omega)))]
def same_place (d:a<n) (c:b<n):(sameM n).testBit (a*n+b)=v9 (a=b):=by
 rw [xat (place_lt d c),place_div c,place_mod c]
def sameM_lt (n):sameM n<2 ^ (n*n):=tieM_lt (inB_same n)
inductive TC (n t a:Nat):Nat->Prop
 | step {b:Nat}:a<n->b<n->t.testBit (a*n+b)=k9->TC n t a b
 | more {b c:Nat}:TC n t a b->b<n->c<n->t.testBit (b*n+c)=k9->TC n t a c
def TC.trans (h1:TC n t a b) (h2:TC n t b c):TC n t a c:=by
 induction h2 with
 | step x y z=>exact .more h1 x y z
 | more _ x y z d=>exact .more d x y z
structure IsTC (n t r:Nat):Prop where
 lt:r<2 ^ (n*n)
 bit: ∀a b,a<n->b<n->(r.testBit (a*n+b)=k9↔TC n t a b)
structure Clo (n t r:Nat):Prop where
 lt:r<2 ^ (n*n)
 sub: ∀a b,a<n->b<n->r.testBit (a*n+b)=k9->TC n t a b
 sup: ∀k,t.testBit k=k9->r.testBit k=k9
def Clo.start (h:t<2 ^ (n*n)):Clo n t t:=⟨h,λ_ _ b a h=> .step b a h,λ_ h=>h⟩
def JB_place (d:c<n):JB n o p (a*n+c)=(Aa0 n).any λb=>o.testBit (a*n+b)&&p.testBit (b*n+c):=by
 unfold JB
 rw [place_div d,place_mod d]
def Clo.next (h:Clo n t r):Clo n t (r ||| joinM n r r):=by
 refine⟨Ap h.lt (joinM_lt _ _ _),λa b g f d=> ?_,λk i=> ?_⟩
 ·rw [Ag9,Bool.or_eq_true]at d
  rcases d with d | d
  ·exact h.sub a b g f d
  ·rw [joinM_bit (place_lt g f),JB_place f,Af]at d
   obtain⟨c,e,d⟩:=d
   have e:=Ab3.mp e
   rw [Aa7]at d
   exact(h.sub a c g e d.1).trans (h.sub c b e f d.2)
 ·rw [Ag9,h.sup k i,Bool.true_or]
def zcA {a b:Nat}(h:a ||| b=a) (k) (c:b.testBit k=k9):a.testBit k=true:=by
 rw [← h,Ag9,c,Bool.or_true]
def Clo.done (h:Clo n t r) (e:r ||| joinM n r r=r):IsTC n t r:=by
 refine⟨h.lt,λa b j k=>⟨h.sub a b j k,λi=> ?_⟩⟩
 induction i with
 | step f c g=>exact h.sup _ g
 | more i f c g d=>
  have d:=d f
  refine zcA e _ ?_
  rw [joinM_bit (place_lt j c),JB_place c,Af]
  exact⟨_,Ab3.mpr f,by rw [d,h.sup _ g];rfl⟩
def Clo.grow (h:Clo n t r) (ne:r ||| joinM n r r≠r):r<r ||| joinM n r r:=by
 have:= @Nat.left_le_or r (joinM n r r)
 omega
structure qdw (n t a:Nat) (re wa:List Nat):Prop where
 an:a<n
 nd:re.Nodup
 tc: ∀x∈re,TC n t a x
 wl: ∀x∈wa,x<n/\(x=a\/x∈re)
 cl: ∀x,(x=a\/x∈re)->x∉wa-> ∀b,b<n->t.testBit (x*n+b)=k9->b∈re
structure Lk (n t a:Nat) (re wa:List Nat) (h b:Nat):Prop where
 an:a<n
 nd:re.Nodup
 tc: ∀x∈re,TC n t a x
 wl: ∀x∈wa,x<n/\(x=a\/x∈re)
 cl: ∀x,(x=a\/x∈re)->x∉wa->x≠h-> ∀b,b<n->t.testBit (x*n+b)=k9->b∈re
 hn:h<n
 hr:h=a\/h∈re
 hb: ∀b',b'<b->t.testBit (h*n+b')=k9->b'∈re
end Wf
namespace M
def Ky:Fn:=⟨1,1,.cons (.ret (.and (.isT (.var 0) .int) (.not (.isT (.var 0) .bool)))) .nil⟩
noncomputable def GX:Fn:=⟨2,2,.cons (.ret (.and (.call "is_whole" (.cons (.var 0) .nil)) (.chain .le .lt (.int 0) (.var 0) (.var 1)))) .nil⟩
noncomputable def Wx:E:= .comp [0] k9 1 [1,0] (.range1 (.bin .mul (.var 0) (.var 0))) k9 (.bin .band (.bin .shr (.var 1) (.var 0)) (.int 1)) (.bi .divmod (.cons (.var 0) (.cons (.var 2) .nil)))
def Kh:Fn:=⟨2,2,.cons (.ret Wx) .nil⟩
noncomputable def zh:Ss:= .cons (.setf 2 (.bin .bor (.var 2) (.bin .shl (.int 1) (.bin .add (.bin .mul (.var 3) (.var 0)) (.var 4))))) .nil
def Kf:Fn:=⟨2,5,.cons (.setf 2 (.int 0)) (.cons (.for [3,4] y9 (.seq (.var 1)) zh) (.cons (.ret (.var 2)) .nil))⟩
def Kz:Fn:=⟨2,2,.cons (.ret (.bin .band (.var 0) (.var 1))) .nil⟩
def KH:Fn:=⟨2,2,.cons (.ret (.bin .bor (.var 0) (.var 1))) .nil⟩
def Km:Fn:=⟨2,2,.cons (.ret (.bin .band (.var 0) (.inv (.var 1)))) .nil⟩
noncomputable def xv:E:= .comp [0,1] false 2 [] (.seq (.call "pairs_of" (.cons (.var 0) (.cons (.var 1) .nil)))) false (.bl true) (.tup (.cons (.var 1) (.cons (.var 0) .nil)))
def KA:Fn:=⟨2,2,.cons (.ret (.call "gathered" (.cons (.var 0) (.cons xv .nil)))) .nil⟩
noncomputable def Wp:Ss:= .cons (.setf 7 (.bin .band (.bin .shr (.var 2) (.bin .mul (.var 6) (.var 0))) (.var 3))) (.cons (.setf 4 (.bin .bor (.var 4) (.bin .shl (.var 7) (.bin .mul (.var 5) (.var 0))))) .nil)
noncomputable def KC:Fn:=⟨3,8,.cons (.setf 3 (.bin .sub (.bin .shl (.int 1) (.var 0)) (.int 1))) (.cons (.setf 4 (.int 0)) (.cons (.for [5,6] y9 (.seq (.call "pairs_of" (.cons (.var 0) (.cons (.var 1) .nil)))) Wp) (.cons (.ret (.var 4)) .nil)))⟩
def Jp:E:= .cmp .ne (.var 3) (.var 2)
noncomputable def Wq:Ss:= .cons (.setf 2 (.var 3)) (.cons (.setf 3 (.call "either" (.cons (.var 2) (.cons (.call "joined" (.cons (.var 0) (.cons (.var 2) (.cons (.var 2) .nil)))) .nil)))) .nil)
noncomputable def KF:Fn:=⟨2,4,.cons (.setf 2 (.var 1)) (.cons (.setf 3 (.call "either" (.cons (.var 2) (.cons (.call "joined" (.cons (.var 0) (.cons (.var 2) (.cons (.var 2) .nil)))) .nil)))) (.cons (.whl 100000 Jp Wq) (.cons (.ret (.var 2)) .nil)))⟩
def xJ:E:= .comp [0] k9 1 [] (.range1 (.var 0)) y9 (.bl k9) (.tup (.cons (.var 0) (.cons (.var 0) .nil)))
def Pd:Fn:=⟨1,1,.cons (.ret (.call "gathered" (.cons (.var 0) (.cons xJ .nil)))) .nil⟩
def KO:Fn:=⟨1,1,.cons (.ret (.bin .sub (.bin .shl (.int 1) (.bin .mul (.var 0) (.var 0))) (.int 1))) .nil⟩
noncomputable def Kr:Fn:=⟨1,1,.cons (.ret (.call "is_below" (.cons (.var 0) (.cons (.bin .add (.con "GREATEST_SIZE") (.int 1)) .nil)))) .nil⟩
noncomputable def KB:Fn:=⟨2,2,.cons (.ret (.bin .add (.bin .mul (.lst (.cons (.var 1) .nil)) (.bi .len (.cons (.ix (.var 0) (.int 0)) .nil))) (.bin .mul (.lst (.cons (.bin .mul (.var 1) (.var 1)) .nil)) (.bi .len (.cons (.ix (.var 0) (.int 1)) .nil))))) .nil⟩
def K9:Fn:=⟨2,2,.cons (.ret (.bi .sum (.cons (.call "widths" (.cons (.var 0) (.cons (.var 1) .nil))) .nil))) .nil⟩
noncomputable def GG:Fn:=⟨1,1,.cons (.iff (.not (.call "is_size" (.cons (.var 0) .nil))) (.cons (.raise "NoSize" (.cons (.str [97,32,115,105,122,101,32,105,115,32,97,32,119,104,111,108,101,32,110,117,109,98,101,114,32,102,114,111,109,32,48,32,116,111,32,52]) .nil)) .nil) .nil) .nil⟩
noncomputable def GF:Fn:=⟨3,4,.cons (.ex (.call "check_size" (.cons (.var 1) .nil))) (.cons (.setf 3 (.call "bits" (.cons (.var 0) (.cons (.var 1) .nil)))) (.cons (.iff (.cmp .gt (.var 3) (.var 2)) (.cons (.raisf "TooBig" "bits" (.var 3)) .nil) .nil) .nil))⟩
noncomputable def qM:Ss:= .cons (.setf 2 (.bin .bor (.var 2) (.bin .shl (.var 5) (.var 3)))) (.cons (.setf 3 (.bin .add (.var 3) (.var 4))) .nil)
noncomputable def Pb:Fn:=⟨2,6,.cons (.setf 2 (.int 0)) (.cons (.setf 3 (.int 0)) (.cons (.for [4,5] y9 (.zip (.call "widths" (.cons (.var 0) (.cons (.ix (.var 1) (.int 0)) .nil))) (.bin .add (.ix (.var 1) (.int 1)) (.ix (.var 1) (.int 2)))) qM) (.cons (.ret (.var 2)) .nil)))⟩
noncomputable def qp:Ss:= .cons (.app 3 (.bin .band (.var 4) (.bin .sub (.bin .shl (.int 1) (.var 5)) (.int 1)))) (.cons (.setf 4 (.bin .shr (.var 4) (.var 5))) .nil)
noncomputable def Kg:Fn:=⟨3,7,.cons (.ex (.call "check_size" (.cons (.var 1) .nil))) (.cons (.iff (.not (.call "is_below" (.cons (.var 2) (.cons (.bin .shl (.int 1) (.call "bits" (.cons (.var 0) (.cons (.var 1) .nil)))) .nil)))) (.cons (.raise "NoCode" (.cons (.str [97,32,99,111,100,101,32,105,115,32,97,32,119,104,111,108,101,32,110,117,109,98,101,114,32,102,114,111,109,32,48,32,116,111,32,50,32,116,111,32,116,104,101,32,98,105,116,115,32,108,101,115,115,32,49]) .nil)) .nil) .nil) (.cons (.set 3 (.lst .nil)) (.cons (.setf 4 (.var 2)) (.cons (.for [5] true (.seq (.call "widths" (.cons (.var 0) (.cons (.var 1) .nil)))) qp) (.cons (.setf 6 (.bi .len (.cons (.ix (.var 0) (.int 0)) .nil))) (.cons (.ret (.tup (.cons (.var 1) (.cons (.bi .tuple (.cons (.slH (.var 3) (.var 6)) .nil)) (.cons (.bi .tuple (.cons (.slL (.var 3) (.var 6)) .nil)) .nil))))) .nil))))))⟩
noncomputable def jg:E:= .comp [0] k9 1 [3] (.range1 (.var 1)) k9 (.cmp .nmem (.var 0) (.var 1)) (.bin .add (.var 1) (.tup (.cons (.var 0) .nil)))
def Zg:Ss:= .cons (.ext 2 jg) .nil
def GU:Fn:=⟨2,4,.cons (.set 2 (.lst .nil)) (.cons (.for [3] k9 (.seq (.var 0)) Zg) (.cons (.ret (.var 2)) .nil))⟩
def qm:Ss:= .cons (.set 1 (.call "longer_by_one" (.cons (.var 1) (.cons (.var 0) .nil)))) .nil
noncomputable def Kw:Fn:=⟨1,3,.cons (.ex (.call "check_size" (.cons (.var 0) .nil))) (.cons (.set 1 (.lst (.cons (.tup .nil) .nil))) (.cons (.for [2] true (.range1 (.var 0)) qm) (.cons (.ret (.var 1)) .nil)))⟩
def jf:E:= .comp [0] k9 1 [1] (.seq (.var 0)) y9 (.bl k9) (.call "is_below" (.cons (.var 0) (.cons (.var 1) .nil)))
noncomputable def GP:Fn:=⟨2,2,.cons (.iff (.or (.not (.isT (.var 0) .tuple)) (.cmp .ne (.bi .len (.cons (.var 0) .nil)) (.var 1))) (.cons (.ret (.bl y9)) .nil) .nil) (.cons (.ret (.and (.bi .all (.cons jf .nil)) (.cmp .eq (.lenset (.var 0)) (.var 1)))) .nil)⟩
noncomputable def xh:Ss:= .cons (.iff (.bin .band (.bin .shr (.var 0) (.var 3)) (.int 1)) (.cons (.setf 2 (.bin .bor (.var 2) (.bin .shl (.int 1) (.var 4)))) .nil) .nil) .nil
def G6:Fn:=⟨2,5,.cons (.setf 2 (.int 0)) (.cons (.for [3,4] y9 (.enum (.var 1)) xh) (.cons (.ret (.var 2)) .nil))⟩
noncomputable def Jj:E:= .comp [0,1] false 2 [1] (.seq (.call "pairs_of" (.cons (.var 2) (.cons (.var 0) .nil)))) false (.bl true) (.tup (.cons (.ix (.var 2) (.var 0)) (.cons (.ix (.var 2) (.var 1)) .nil)))
noncomputable def GS:Fn:=⟨2,3,.cons (.setf 2 (.bi .len (.cons (.var 1) .nil))) (.cons (.ret (.call "gathered" (.cons (.var 2) (.cons Jj .nil)))) .nil)⟩
def Xs:E:= .comp [0] k9 1 [2] (.seq (.var 5)) y9 (.bl k9) (.call "renamed_tie" (.cons (.var 0) (.cons (.var 1) .nil)))
def Zs:E:= .comp [0] k9 1 [2] (.seq (.var 4)) y9 (.bl k9) (.call "renamed_kind" (.cons (.var 0) (.cons (.var 1) .nil)))
noncomputable def Kl:Fn:=⟨3,8,.cons (.unp [3,4,5] (.var 1)) (.cons (.iff (.not (.call "is_renaming" (.cons (.var 2) (.cons (.var 3) .nil)))) (.cons (.raise "NoRenaming" (.cons (.str [97,32,114,101,110,97,109,105,110,103,32,105,115,32,97,32,116,117,112,108,101,32,111,102,32,97,108,108,32,116,104,105,110,103,115,32,111,102,32,116,104,101,32,115,105,122,101,44,32,101,97,99,104,32,111,110,99,101]) .nil)) .nil) .nil) (.cons (.setf 6 (.bi .tuple (.cons Zs .nil))) (.cons (.setf 7 (.bi .tuple (.cons Xs .nil))) (.cons (.ret (.tup (.cons (.var 3) (.cons (.var 6) (.cons (.var 7) .nil))))) .nil))))⟩
noncomputable def qo:E:= .comp [0] true 1 [0,1] (.seq (.call "renamings" (.cons (.ix (.var 1) (.int 0)) .nil))) false (.bl true) (.call "code" (.cons (.var 1) (.cons (.call "renamed" (.cons (.var 1) (.cons (.var 2) (.cons (.var 0) .nil)))) .nil)))
def GL:Fn:=⟨2,2,.cons (.ret qo) .nil⟩
noncomputable def Qr:E:= .comp [0] true 1 [0,1] (.seq (.call "renamings" (.cons (.ix (.var 1) (.int 0)) .nil))) true (.cmp .eq (.call "renamed" (.cons (.var 1) (.cons (.var 2) (.cons (.var 0) .nil)))) (.var 2)) (.var 0)
def GV:Fn:=⟨2,2,.cons (.ret Qr) .nil⟩
noncomputable def wg:E:= .comp [0] k9 1 [4] (.range1 (.var 3)) k9 (.bin .band (.bin .shr (.var 1) (.var 0)) (.int 1)) (.tup (.cons (.var 0) (.cons (.var 0) .nil)))
noncomputable def GB:Fn:=⟨3,5,.cons (.iff (.cmp .mem (.var 2) (.ix (.var 0) (.int 1))) (.cons (.ret (.ix (.ix (.var 1) (.int 2)) (.meth .index (.ix (.var 0) (.int 1)) (.cons (.var 2) .nil)))) .nil) .nil) (.cons (.setf 3 (.ix (.var 1) (.int 0))) (.cons (.setf 4 (.ix (.ix (.var 1) (.int 1)) (.meth .index (.ix (.var 0) (.int 0)) (.cons (.var 2) .nil)))) (.cons (.ret (.call "gathered" (.cons (.var 3) (.cons wg .nil)))) .nil)))⟩
noncomputable def GT:Fn:=⟨3,3,.cons (.iff (.cmp .eq (.var 1) (.str [115,97,109,101])) (.cons (.ret (.call "same" (.cons (.var 0) .nil))) .nil) .nil) (.cons (.iff (.cmp .eq (.var 1) (.str [97,108,108])) (.cons (.ret (.call "every" (.cons (.var 0) .nil))) .nil) .nil) (.cons (.iff (.cmp .eq (.var 1) (.str [110,111,110,101])) (.cons (.ret (.int 0)) .nil) .nil) (.cons (.iff (.cmp .eq (.var 1) (.str [112,108,117,115])) (.cons (.ret (.call "either" (.cons (.ix (.var 2) (.int 0)) (.cons (.ix (.var 2) (.int 1)) .nil)))) .nil) .nil) (.cons (.iff (.cmp .eq (.var 1) (.str [108,101,115,115])) (.cons (.ret (.call "without" (.cons (.ix (.var 2) (.int 0)) (.cons (.ix (.var 2) (.int 1)) .nil)))) .nil) .nil) (.cons (.iff (.cmp .eq (.var 1) (.str [98,111,116,104])) (.cons (.ret (.call "common" (.cons (.ix (.var 2) (.int 0)) (.cons (.ix (.var 2) (.int 1)) .nil)))) .nil) .nil) (.cons (.iff (.cmp .eq (.var 1) (.str [106,111,105,110,101,100])) (.cons (.ret (.call "joined" (.cons (.var 0) (.cons (.ix (.var 2) (.int 0)) (.cons (.ix (.var 2) (.int 1)) .nil))))) .nil) .nil) (.cons (.iff (.cmp .eq (.var 1) (.str [116,117,114,110,101,100])) (.cons (.ret (.call "turned" (.cons (.var 0) (.cons (.ix (.var 2) (.int 0)) .nil)))) .nil) .nil) (.cons (.ret (.call "closed" (.cons (.var 0) (.cons (.ix (.var 2) (.int 0)) .nil)))) .nil))))))))⟩
noncomputable def zQ:E:= .comp [0] k9 1 [0,1] (.seq (.slL (.var 2) (.int 1))) y9 (.bl k9) (.call "value" (.cons (.var 1) (.cons (.var 2) (.cons (.var 0) .nil))))
noncomputable def Ku:Fn:=⟨3,4,.cons (.iff (.cmp .eq (.ix (.var 2) (.int 0)) (.str [110,97,109,101])) (.cons (.ret (.call "value_of_name" (.cons (.var 0) (.cons (.var 1) (.cons (.ix (.var 2) (.int 1)) .nil))))) .nil) .nil) (.cons (.setf 3 zQ) (.cons (.ret (.call "made" (.cons (.ix (.var 1) (.int 0)) (.cons (.ix (.var 2) (.int 0)) (.cons (.var 3) .nil))))) .nil))⟩
def qx:E:= .comp [0] k9 1 [4] (.range1 (.var 0)) y9 (.bl k9) (.meth .count (.var 1) (.cons (.var 0) .nil))
def Ww:E:= .comp [0,1] y9 2 [] (.seq (.var 3)) y9 (.bl k9) (.var 0)
noncomputable def KG:Fn:=⟨3,5,.cons (.setf 3 (.call "pairs_of" (.cons (.var 0) (.cons (.var 2) .nil)))) (.cons (.iff (.cmp .mem (.var 1) (.tup (.cons (.str [108,101,97,115,116]) (.cons (.str [109,111,115,116]) .nil)))) (.cons (.ret (.lst (.cons (.bi .len (.cons (.var 3) .nil)) .nil))) .nil) .nil) (.cons (.setf 4 Ww) (.cons (.ret qx) .nil)))⟩
def wj:E:= .comp [0] k9 1 [3] (.seq (.var 4)) y9 (.bl k9) (.cmp .le (.var 0) (.var 1))
def Xi:E:= .comp [0] k9 1 [3] (.seq (.var 4)) y9 (.bl k9) (.cmp .ge (.var 0) (.var 1))
noncomputable def GQ:Fn:=⟨3,5,.cons (.setf 3 (.ix (.var 2) (.int 1))) (.cons (.setf 4 (.call "counts" (.cons (.ix (.var 1) (.int 0)) (.cons (.ix (.var 2) (.int 0)) (.cons (.call "value" (.cons (.var 0) (.cons (.var 1) (.cons (.ix (.var 2) (.int 2)) .nil)))) .nil))))) (.cons (.iff (.cmp .mem (.ix (.var 2) (.int 0)) (.tup (.cons (.str [108,101,97,115,116]) (.cons (.str [101,97,99,104,108,101,97,115,116]) .nil)))) (.cons (.ret (.bi .all (.cons Xi .nil))) .nil) .nil) (.cons (.ret (.bi .all (.cons wj .nil))) .nil)))⟩
noncomputable def d_keeps:Fn:=⟨3,4,.cons (.setf 3 (.ix (.var 2) (.int 0))) (.cons (.iff (.cmp .eq (.var 3) (.str [110,111,116])) (.cons (.ret (.not (.call "keeps" (.cons (.var 0) (.cons (.var 1) (.cons (.ix (.var 2) (.int 1)) .nil)))))) .nil) .nil) (.cons (.iff (.cmp .eq (.var 3) (.str [97,110,100])) (.cons (.ret (.and (.call "keeps" (.cons (.var 0) (.cons (.var 1) (.cons (.ix (.var 2) (.int 1)) .nil)))) (.call "keeps" (.cons (.var 0) (.cons (.var 1) (.cons (.ix (.var 2) (.int 2)) .nil)))))) .nil) .nil) (.cons (.iff (.cmp .eq (.var 3) (.str [111,114])) (.cons (.ret (.or (.call "keeps" (.cons (.var 0) (.cons (.var 1) (.cons (.ix (.var 2) (.int 1)) .nil)))) (.call "keeps" (.cons (.var 0) (.cons (.var 1) (.cons (.ix (.var 2) (.int 2)) .nil)))))) .nil) .nil) (.cons (.iff (.cmp .eq (.var 3) (.str [105,110])) (.cons (.ret (.cmp .eq (.call "without" (.cons (.call "value" (.cons (.var 0) (.cons (.var 1) (.cons (.ix (.var 2) (.int 1)) .nil)))) (.cons (.call "value" (.cons (.var 0) (.cons (.var 1) (.cons (.ix (.var 2) (.int 2)) .nil)))) .nil))) (.int 0))) .nil) .nil) (.cons (.iff (.cmp .eq (.var 3) (.str [101,113,117,97,108])) (.cons (.ret (.cmp .eq (.call "value" (.cons (.var 0) (.cons (.var 1) (.cons (.ix (.var 2) (.int 1)) .nil)))) (.call "value" (.cons (.var 0) (.cons (.var 1) (.cons (.ix (.var 2) (.int 2)) .nil)))))) .nil) .nil) (.cons (.iff (.cmp .eq (.var 3) (.str [115,111,109,101])) (.cons (.ret (.cmp .ne (.call "value" (.cons (.var 0) (.cons (.var 1) (.cons (.ix (.var 2) (.int 1)) .nil)))) (.int 0))) .nil) .nil) (.cons (.iff (.cmp .eq (.var 3) (.str [110,111])) (.cons (.ret (.cmp .eq (.call "value" (.cons (.var 0) (.cons (.var 1) (.cons (.ix (.var 2) (.int 1)) .nil)))) (.int 0))) .nil) .nil) (.cons (.ret (.call "keeps_count" (.cons (.var 0) (.cons (.var 1) (.cons (.var 2) .nil))))) .nil))))))))⟩
noncomputable def Wb:Ss:= .cons (.iff (.not (.call "keeps" (.cons (.var 0) (.cons (.var 1) (.cons (.var 4) .nil))))) (.cons (.ret (.var 3)) .nil) .nil) .nil
def GH:Fn:=⟨3,5,.cons (.for [3,4] y9 (.enum (.var 2)) Wb) (.cons (.ret .non) .nil)⟩
def jl:Ss:= .cons (.dputI 2 (.var 6)) .nil
noncomputable def Zi:Ss:= .cons (.iff (.dinI true (.var 4) 2) (.cons (.setf 5 (.call "world_of" (.cons (.var 0) (.cons (.var 1) (.cons (.var 4) .nil))))) (.cons (.app 3 (.var 5)) (.cons (.for [6] true (.seq (.call "codes_alike" (.cons (.var 0) (.cons (.var 5) .nil)))) jl) .nil))) .nil) .nil
noncomputable def GR:Fn:=⟨2,7,.cons (.set 2 .dnewI) (.cons (.set 3 (.lst .nil)) (.cons (.for [4] k9 (.range1 (.bin .shl (.int 1) (.call "bits" (.cons (.var 0) (.cons (.var 1) .nil))))) Zi) (.cons (.ret (.var 3)) .nil)))⟩
noncomputable def zG:E:= .comp [0] true 1 [2,3] (.seq (.call "all_forms" (.cons (.var 2) (.cons (.var 1) .nil)))) true (.isn false (.call "first_broken" (.cons (.var 1) (.cons (.var 0) (.cons (.var 2) .nil))))) (.var 0)
noncomputable def Ke:Fn:=⟨2,4,.cons (.unp [2,3] (.var 0)) (.cons (.ex (.call "check_bits" (.cons (.var 2) (.cons (.var 1) (.cons (.con "MOST_LISTED_BITS") .nil))))) (.cons (.ret zG) .nil))⟩
noncomputable def Xo:E:= .comp [0] k9 1 [3,0] (.seq (.var 2)) y9 (.bl k9) (.bin .fdiv (.var 1) (.bi .len (.cons (.call "likenesses" (.cons (.ix (.var 2) (.int 0)) (.cons (.var 0) .nil))) .nil)))
noncomputable def GJ:Fn:=⟨2,4,.cons (.setf 2 (.call "unlike" (.cons (.var 0) (.cons (.var 1) .nil)))) (.cons (.setf 3 (.bi .len (.cons (.call "renamings" (.cons (.var 1) .nil)) .nil))) (.cons (.ret (.bi .sum (.cons Xo .nil))) .nil))⟩
noncomputable def Kq:Fn:=⟨2,2,.cons (.iff (.cmp .lt (.var 1) (.bi .len (.cons (.var 0) .nil))) (.cons (.ret (.ix (.var 0) (.var 1))) .nil) .nil) (.cons (.ret (.int 0)) .nil)⟩
def Kp:Fn:=⟨1,1,.cons (.ret (.and (.isT (.var 0) .int) (.not (.isT (.var 0) .bool)))) .nil⟩
def Zl:Ss:= .cons (.unp [0,4] (.bi .divmod (.cons (.var 0) (.cons (.int 2) .nil)))) (.cons (.app 2 (.var 4)) .nil)
def Kc:Fn:=⟨2,5,.cons (.set 2 (.lst .nil)) (.cons (.for [3] k9 (.range1 (.var 1)) Zl) (.cons (.ret (.var 2)) .nil))⟩
noncomputable def Jg:Ss:= .cons (.iff (.cmp .nmem (.var 5) (.var 4)) (.cons (.app 3 (.bin .add (.var 4) (.tup (.cons (.var 5) .nil)))) .nil) .nil) .nil
def Qk:Ss:= .cons (.for [5] k9 (.range1 (.var 0)) Jg) .nil
noncomputable def qs:Ss:= .cons (.set 3 (.lst .nil)) (.cons (.freeze 1) (.cons (.for [4] k9 (.seq (.var 1)) Qk) (.cons (.mv 1 3) .nil)))
noncomputable def Kj:Fn:=⟨1,6,.cons (.set 1 (.lst (.cons (.tup .nil) .nil))) (.cons (.for [2] k9 (.range1 (.var 0)) qs) (.cons (.ret (.var 1)) .nil))⟩
noncomputable def jm:Ss:= .cons (.unp [4,8] (.bi .divmod (.cons (.var 4) (.cons (.bin .shl (.int 1) (.bin .mul (.var 0) (.var 0))) .nil)))) (.cons (.app 6 (.var 8)) .nil)
noncomputable def Qm:Ss:= .cons (.unp [4,8] (.bi .divmod (.cons (.var 4) (.cons (.bin .shl (.int 1) (.var 0)) .nil)))) (.cons (.app 5 (.var 8)) .nil)
noncomputable def GO:Fn:=⟨4,9,.cons (.setf 4 (.bin .mod (.var 3) (.bin .shl (.int 1) (.bin .add (.bin .mul (.var 1) (.var 0)) (.bin .mul (.bin .mul (.var 2) (.var 0)) (.var 0)))))) (.cons (.set 5 (.lst .nil)) (.cons (.set 6 (.lst .nil)) (.cons (.for [7] k9 (.range1 (.var 1)) Qm) (.cons (.for [7] k9 (.range1 (.var 2)) jm) (.cons (.ret (.tup (.cons (.var 0) (.cons (.bi .tuple (.cons (.var 5) .nil)) (.cons (.bi .tuple (.cons (.var 6) .nil)) .nil))))) .nil)))))⟩
noncomputable def Wk:E:= .comp [0,1] y9 2 [1,2] (.seq (.var 10)) y9 (.bl k9) (.bin .shl (.int 1) (.bin .add (.bin .mul (.ix (.var 2) (.var 0)) (.var 3)) (.ix (.var 2) (.var 1))))
noncomputable def zt:E:= .comp [0] k9 1 [7,2] (.range1 (.bin .mul (.var 2) (.var 2))) k9 (.cmp .eq (.ix (.var 1) (.var 0)) (.int 1)) (.bi .divmod (.cons (.var 0) (.cons (.var 2) .nil)))
noncomputable def Js:Ss:= .cons (.setf 7 (.call "_law_marks" (.cons (.var 9) (.cons (.bin .mul (.var 2) (.var 2)) .nil)))) (.cons (.setf 10 zt) (.cons (.app 8 (.bi .sum (.cons Wk .nil))) .nil))
noncomputable def Qs:E:= .comp [0] k9 1 [7,1] (.range1 (.var 2)) k9 (.cmp .eq (.ix (.var 1) (.var 0)) (.int 1)) (.bin .shl (.int 1) (.ix (.var 2) (.var 0)))
noncomputable def qt:Ss:= .cons (.setf 7 (.call "_law_marks" (.cons (.var 6) (.cons (.var 2) .nil)))) (.cons (.app 5 (.bi .sum (.cons Qs .nil))) .nil)
noncomputable def Ks:Fn:=⟨2,11,.cons (.unp [2,3,4] (.var 0)) (.cons (.set 5 (.lst .nil)) (.cons (.for [6] k9 (.seq (.var 3)) qt) (.cons (.set 8 (.lst .nil)) (.cons (.for [9] k9 (.seq (.var 4)) Js) (.cons (.ret (.tup (.cons (.var 2) (.cons (.bi .tuple (.cons (.var 5) .nil)) (.cons (.bi .tuple (.cons (.var 8) .nil)) .nil))))) .nil)))))⟩
noncomputable def Kb:Fn:=⟨2,2,.cons (.ret (.tup (.cons (.slH (.tup (.cons (.str [97,103,101]) (.cons (.str [98,101,101]) (.cons (.str [99,97,112]) (.cons (.str [100,111,116]) .nil))))) (.var 0)) (.cons (.slH (.tup (.cons (.str [101,97,116]) (.cons (.str [102,101,100]) (.cons (.str [103,111]) (.cons (.str [104,117,116]) .nil))))) (.var 1)) .nil)))) .nil⟩
noncomputable def GA:Fn:=⟨2,4,.cons (.setf 2 (.bin .add (.ix (.var 0) (.int 0)) (.ix (.var 0) (.int 1)))) (.cons (.setf 3 (.bin .mod (.var 1) (.bin .add (.bi .len (.cons (.var 2) .nil)) (.int 3)))) (.cons (.iff (.cmp .lt (.var 3) (.int 3)) (.cons (.ret (.tup (.cons (.ix (.lst (.cons (.str [115,97,109,101]) (.cons (.str [97,108,108]) (.cons (.str [110,111,110,101]) .nil)))) (.var 3)) .nil))) .nil) .nil) (.cons (.ret (.tup (.cons (.str [110,97,109,101]) (.cons (.ix (.var 2) (.bin .sub (.var 3) (.int 3))) .nil)))) .nil)))⟩
noncomputable def GY:Fn:=⟨2,5,.cons (.setf 2 (.ix (.ix (.var 0) (.neg (.int 1))) (.int 0))) (.cons (.setf 3 (.ix (.ix (.var 0) (.bin .mod (.bin .fdiv (.var 1) (.int 8)) (.bi .len (.cons (.var 0) .nil)))) (.int 0))) (.cons (.setf 4 (.ix (.lst (.cons (.str [105,110]) (.cons (.str [101,113,117,97,108]) (.cons (.str [115,111,109,101]) (.cons (.str [110,111]) (.cons (.str [108,101,97,115,116]) (.cons (.str [109,111,115,116]) (.cons (.str [101,97,99,104,108,101,97,115,116]) (.cons (.str [101,97,99,104,109,111,115,116]) .nil))))))))) (.bin .mod (.var 1) (.int 8)))) (.cons (.iff (.cmp .lt (.bin .mod (.var 1) (.int 8)) (.int 2)) (.cons (.ret (.tup (.cons (.var 4) (.cons (.var 2) (.cons (.var 3) .nil))))) .nil) .nil) (.cons (.iff (.cmp .lt (.bin .mod (.var 1) (.int 8)) (.int 4)) (.cons (.ret (.tup (.cons (.var 4) (.cons (.var 2) .nil)))) .nil) .nil) (.cons (.ret (.tup (.cons (.var 4) (.cons (.ix (.lst (.cons (.bin .mod (.bin .fdiv (.var 1) (.int 8)) (.int 5)) (.cons (.bin .mod (.bin .fdiv (.var 1) (.int 8)) (.int 100)) .nil))) (.bin .mod (.bin .fdiv (.var 1) (.int 800)) (.int 2))) (.cons (.var 2) .nil))))) .nil)))))⟩
noncomputable def Kt:Fn:=⟨2,5,.cons (.popR 0 2) (.cons (.popR 0 3) (.cons (.setf 4 (.bin .add (.int 1) (.bi .max (.cons (.ix (.var 3) (.int 1)) (.cons (.ix (.var 2) (.int 1)) .nil))))) (.cons (.iff (.cmp .gt (.var 4) (.int 13)) (.cons (.appR 0 (.var 3)) .nil) (.cons (.appR 0 (.tup (.cons (.tup (.cons (.var 1) (.cons (.ix (.var 3) (.int 0)) (.cons (.ix (.var 2) (.int 0)) .nil)))) (.cons (.var 4) .nil)))) .nil)) .nil)))⟩
noncomputable def Gs:Fn:=⟨5,8,.cons (.iff (.or (.cmp .lt (.var 3) (.int 5)) (.cmp .eq (.var 1) (.lst .nil))) (.cons (.appR 1 (.tup (.cons (.call "_law_atom" (.cons (.var 0) (.cons (.var 4) .nil))) (.cons (.int 1) .nil)))) .nil) (.cons (.iff (.cmp .lt (.var 3) (.int 7)) (.cons (.popU 1 [5,6]) (.cons (.iff (.cmp .lt (.var 6) (.int 13)) (.cons (.setf 5 (.tup (.cons (.ix (.lst (.cons (.str [116,117,114,110,101,100]) (.cons (.str [99,108,111,115,101,100]) .nil))) (.bin .sub (.var 3) (.int 5))) (.cons (.var 5) .nil)))) .nil) .nil) (.cons (.appR 1 (.tup (.cons (.var 5) (.cons (.bi .min (.cons (.int 13) (.cons (.bin .add (.var 6) (.int 1)) .nil))) .nil)))) .nil))) (.cons (.iff (.cmp .lt (.var 3) (.int 11)) (.cons (.iff (.cmp .gt (.bi .len (.cons (.var 1) .nil)) (.int 1)) (.cons (.ex (.call "_law_put" (.cons (.var 1) (.cons (.ix (.lst (.cons (.str [112,108,117,115]) (.cons (.str [108,101,115,115]) (.cons (.str [98,111,116,104]) (.cons (.str [106,111,105,110,101,100]) .nil))))) (.bin .sub (.var 3) (.int 7))) .nil)))) .nil) .nil) .nil) (.cons (.iff (.or (.cmp .lt (.var 3) (.int 14)) (.cmp .eq (.var 2) (.lst .nil))) (.cons (.appR 2 (.tup (.cons (.call "_law_fact" (.cons (.var 1) (.cons (.var 4) .nil))) (.cons (.int 1) .nil)))) .nil) (.cons (.iff (.cmp .eq (.var 3) (.int 14)) (.cons (.popU 2 [7,6]) (.cons (.iff (.cmp .lt (.var 6) (.int 13)) (.cons (.setf 7 (.tup (.cons (.str [110,111,116]) (.cons (.var 7) .nil)))) .nil) .nil) (.cons (.appR 2 (.tup (.cons (.var 7) (.cons (.bi .min (.cons (.int 13) (.cons (.bin .add (.var 6) (.int 1)) .nil))) .nil)))) .nil))) (.cons (.iff (.cmp .gt (.bi .len (.cons (.var 2) .nil)) (.int 1)) (.cons (.ex (.call "_law_put" (.cons (.var 2) (.cons (.ix (.lst (.cons (.str [97,110,100]) (.cons (.str [111,114]) .nil))) (.bin .mod (.var 4) (.int 2))) .nil)))) .nil) .nil) .nil)) .nil)) .nil)) .nil)) .nil)) .nil⟩
noncomputable def GW:Fn:=⟨1,2,.cons (.setf 1 (.bin .add (.bin .mod (.var 0) (.int 1000003)) (.int 29))) (.cons (.ret (.bin .fdiv (.bin .add (.bin .pow (.var 1) (.int 11)) (.bin .mul (.int 31) (.bin .pow (.var 1) (.int 7)))) (.int 13))) .nil)⟩
def Xg:Ss:= .cons (.setf 7 (.tup (.cons (.str [97,110,100]) (.cons (.var 7) (.cons (.var 8) .nil))))) .nil
noncomputable def Qg:Ss:= .cons (.unp [1,5] (.bi .divmod (.cons (.var 1) (.cons (.int 16) .nil)))) (.cons (.unp [1,6] (.bi .divmod (.cons (.var 1) (.cons (.int 1600) .nil)))) (.cons (.ex (.call "_law_op" (.cons (.var 0) (.cons (.var 2) (.cons (.var 3) (.cons (.var 5) (.cons (.var 6) .nil))))))) .nil))
noncomputable def GE:Fn:=⟨2,10,.cons (.set 2 (.share (.lst .nil))) (.cons (.set 3 (.share (.lst .nil))) (.cons (.for [4] true (.range1 (.int 7)) Qg) (.cons (.iff (.cmp .eq (.var 3) (.lst .nil)) (.cons (.unp [1,6] (.bi .divmod (.cons (.var 1) (.cons (.int 1600) .nil)))) (.cons (.appR 3 (.tup (.cons (.call "_law_fact" (.cons (.var 2) (.cons (.var 6) .nil))) (.cons (.int 1) .nil)))) .nil)) .nil) (.cons (.setf 7 (.ix (.ix (.var 3) (.int 0)) (.int 0))) (.cons (.for [8,9] false (.seq (.slL (.var 3) (.int 1))) Xg) (.cons (.ret (.var 7)) .nil))))))⟩
def Zf:E:= .comp [0] k9 1 [1] (.seq (.var 4)) y9 (.bl k9) (.call "_law_saying" (.cons (.var 1) (.cons (.var 0) .nil)))
def Zj:E:= .comp [0] k9 1 [] (.seq (.var 4)) y9 (.bl k9) (.call "_law_spread" (.cons (.var 0) .nil))
noncomputable def Gx:Fn:=⟨4,5,.cons (.setf 4 (.sl (.var 0) (.var 2) (.bin .add (.var 2) (.var 3)))) (.cons (.iff (.cmp .eq (.bin .mod (.call "_law_nth" (.cons (.var 0) (.cons (.int 0) .nil))) (.int 2)) (.int 1)) (.cons (.setf 4 Zj) .nil) .nil) (.cons (.ret (.bi .tuple (.cons Zf .nil))) .nil))⟩
noncomputable def Ka:Fn:=⟨1,2,.cons (.setf 1 (.lst (.cons (.tup (.cons (.int 1) (.cons (.int 1) (.cons (.int 2) .nil)))) (.cons (.tup (.cons (.int 0) (.cons (.int 1) (.cons (.int 2) .nil)))) (.cons (.tup (.cons (.int 2) (.cons (.int 1) (.cons (.int 2) .nil)))) (.cons (.tup (.cons (.int 0) (.cons (.int 2) (.cons (.int 2) .nil)))) (.cons (.tup (.cons (.int 2) (.cons (.int 0) (.cons (.int 3) .nil)))) (.cons (.tup (.cons (.int 1) (.cons (.int 0) (.cons (.int 3) .nil)))) (.cons (.tup (.cons (.int 3) (.cons (.int 0) (.cons (.int 2) .nil)))) (.cons (.tup (.cons (.int 1) (.cons (.int 0) (.cons (.int 4) .nil)))) (.cons (.tup (.cons (.int 0) (.cons (.int 0) (.cons (.int 3) .nil)))) .nil))))))))))) (.cons (.setf 1 (.bin .add (.var 1) (.lst (.cons (.tup (.cons (.int 4) (.cons (.int 4) (.cons (.int 1) .nil)))) (.cons (.tup (.cons (.int 1) (.cons (.int 1) (.cons (.int 1) .nil)))) (.cons (.tup (.cons (.int 2) (.cons (.int 3) (.cons (.int 1) .nil)))) (.cons (.tup (.cons (.int 4) (.cons (.int 4) (.cons (.int 0) .nil)))) (.cons (.tup (.cons (.int 0) (.cons (.int 1) (.cons (.int 1) .nil)))) (.cons (.tup (.cons (.int 2) (.cons (.int 0) (.cons (.int 2) .nil)))) (.cons (.tup (.cons (.int 1) (.cons (.int 1) (.cons (.int 2) .nil)))) .nil)))))))))) (.cons (.iff (.cmp .eq (.bin .mod (.bin .fdiv (.var 0) (.int 16)) (.int 24)) (.int 11)) (.cons (.ret (.ix (.lst (.cons (.tup (.cons (.int 0) (.cons (.int 1) (.cons (.int 3) .nil)))) (.cons (.tup (.cons (.int 2) (.cons (.int 0) (.cons (.int 4) .nil)))) .nil))) (.bin .mod (.bin .fdiv (.var 0) (.int 384)) (.int 2)))) .nil) .nil) (.cons (.ret (.ix (.var 1) (.bin .mod (.var 0) (.int 16)))) .nil)))⟩
noncomputable def ZQ:E:= .comp [0] k9 1 [0,1] (.seq (.var 2)) y9 (.bl k9) (.call "keeps" (.cons (.var 1) (.cons (.var 2) (.cons (.var 0) .nil))))
def Ki:Fn:=⟨3,3,.cons (.ret (.bi .all (.cons ZQ .nil))) .nil⟩
noncomputable def xj:Ss:= .cons (.setf 7 (.call "_law_world" (.cons (.var 1) (.cons (.var 3) (.cons (.var 4) (.cons (.var 6) .nil)))))) (.cons (.iff (.call "_law_keep" (.cons (.var 0) (.cons (.var 7) (.cons (.var 2) .nil)))) (.cons (.app 5 (.var 7)) .nil) .nil) .nil)
noncomputable def GN:Fn:=⟨3,8,.cons (.setf 3 (.bi .len (.cons (.ix (.var 0) (.int 0)) .nil))) (.cons (.setf 4 (.bi .len (.cons (.ix (.var 0) (.int 1)) .nil))) (.cons (.set 5 (.lst .nil)) (.cons (.for [6] k9 (.range1 (.bin .shl (.int 1) (.bin .add (.bin .mul (.var 3) (.var 1)) (.bin .mul (.bin .mul (.var 4) (.var 1)) (.var 1))))) xj) (.cons (.ret (.var 5)) .nil))))⟩
noncomputable def GK:Fn:=⟨2,4,.cons (.setf 2 .non) (.cons (.tryf "how_many" (.cons (.tup (.cons (.var 0) (.cons (.tup .nil) .nil))) (.cons (.var 1) .nil)) "TooBig" 3 2 "bits" "NoSize" [115,105,122,101]) (.cons (.ret (.var 2)) .nil))⟩
noncomputable def zU:Ss:= .cons (.setf 14 (.call "_law_led" (.cons (.var 11) (.cons (.var 13) .nil)))) (.cons (.dput 9 (.var 14)) (.cons (.setf 12 (.bin .add (.var 12) (.bi .int (.cons (.cmp .eq (.var 14) (.var 11)) .nil)))) .nil))
noncomputable def ZL:Ss:= .cons (.iff (.or (.din false (.var 11) 9) (.not (.call "_law_keep" (.cons (.var 4) (.cons (.var 11) (.cons (.ix (.var 6) (.int 1)) .nil)))))) (.cons (.ret (.bl false)) .nil) .nil) (.cons (.setf 12 (.int 0)) (.cons (.for [13] true (.seq (.var 8)) zU) (.cons (.iff (.or (.cmp .ne (.bi .len (.cons (.call "likenesses" (.cons (.var 4) (.cons (.var 11) .nil))) .nil)) (.var 12)) (.cmp .ne (.bin .mod (.bi .len (.cons (.var 8) .nil)) (.var 12)) (.int 0))) (.cons (.ret (.bl false)) .nil) .nil) (.cons (.setf 10 (.bin .add (.var 10) (.bin .fdiv (.bi .len (.cons (.var 8) .nil)) (.var 12)))) .nil))))
noncomputable def d_law:Fn:=⟨1,17,.cons (.unp [1,2,3] (.call "_law_shape" (.cons (.bin .fdiv (.call "_law_nth" (.cons (.var 0) (.cons (.int 0) .nil))) (.int 2)) .nil))) (.cons (.setf 4 (.call "_law_names" (.cons (.var 1) (.cons (.var 2) .nil)))) (.cons (.setf 5 (.bin .mod (.bin .fdiv (.call "_law_nth" (.cons (.var 0) (.cons (.int 0) .nil))) (.int 1536)) (.int 5))) (.cons (.iff (.cmp .gt (.bin .add (.bin .mul (.var 1) (.var 3)) (.bin .mul (.bin .mul (.var 2) (.var 3)) (.var 3))) (.int 6)) (.cons (.setf 5 (.bi .min (.cons (.var 5) (.cons (.int 2) .nil)))) .nil) .nil) (.cons (.iff (.or (.cmp .eq (.var 3) (.int 4)) (.cmp .gt (.bin .add (.bin .mul (.var 1) (.var 3)) (.bin .mul (.bin .mul (.var 2) (.var 3)) (.var 3))) (.int 8))) (.cons (.setf 5 (.bi .min (.cons (.var 5) (.cons (.int 1) .nil)))) .nil) .nil) (.cons (.setf 6 (.tup (.cons (.var 4) (.cons (.call "_law_sayings" (.cons (.var 0) (.cons (.var 4) (.cons (.int 1) (.cons (.var 5) .nil))))) .nil)))) (.cons (.setf 7 (.call "how_many" (.cons (.var 6) (.cons (.var 3) .nil)))) (.cons (.iff (.or (.not (.call "_law_whole" (.cons (.var 7) .nil))) (.cmp .ne (.var 7) (.bi .len (.cons (.call "_law_keepers" (.cons (.var 4) (.cons (.var 3) (.cons (.ix (.var 6) (.int 1)) .nil)))) .nil)))) (.cons (.ret (.bl false)) .nil) .nil) (.cons (.setf 8 (.call "_law_orders" (.cons (.var 3) .nil))) (.cons (.set 9 .dnew) (.cons (.setf 10 (.int 0)) (.cons (.for [11] true (.seq (.call "unlike" (.cons (.var 6) (.cons (.var 3) .nil)))) ZL) (.cons (.iff (.or (.cmp .ne (.var 10) (.var 7)) (.cmp .ne (.dlen 9) (.var 7))) (.cons (.ret (.bl false)) .nil) .nil) (.cons (.setf 15 (.call "_law_names" (.cons (.bin .mod (.call "_law_nth" (.cons (.var 0) (.cons (.int 0) .nil))) (.int 5)) (.cons (.bin .add (.int 1) (.bin .mod (.bin .fdiv (.call "_law_nth" (.cons (.var 0) (.cons (.int 0) .nil))) (.int 5)) (.int 4))) .nil)))) (.cons (.setf 16 (.ix (.lst (.cons (.neg (.int 1)) (.cons (.int 5) (.cons (.bl true) (.cons .non (.cons (.str [50]) (.cons (.bin .pow (.int 10) (.int 20)) .nil))))))) (.bin .mod (.bin .fdiv (.call "_law_nth" (.cons (.var 0) (.cons (.int 0) .nil))) (.int 20)) (.int 6)))) (.cons (.iff (.or (.cmp .ne (.call "_law_big" (.cons (.var 15) (.cons (.int 4) .nil))) (.bin .add (.bin .mul (.bi .len (.cons (.ix (.var 15) (.int 0)) .nil)) (.int 4)) (.bin .mul (.bi .len (.cons (.ix (.var 15) (.int 1)) .nil)) (.int 16)))) (.cmp .ne (.call "_law_big" (.cons (.var 15) (.cons (.var 16) .nil))) (.str [115,105,122,101]))) (.cons (.ret (.bl false)) .nil) .nil) (.cons (.ret (.cmp .eq (.call "how_many" (.cons (.var 6) (.cons (.var 3) .nil))) (.var 7))) .nil))))))))))))))))⟩
noncomputable def prog:Prog:=⟨[("is_whole",Ky),("is_below",GX),("pairs_of",Kh),("gathered",Kf),("common",Kz),("either",KH),("without",Km),("turned",KA),("joined",KC),("closed",KF),("same",Pd),("every",KO),("is_size",Kr),("widths",KB),("bits",K9),("check_size",GG),("check_bits",GF),("code",Pb),("world_of",Kg),("longer_by_one",GU),("renamings",Kw),("is_renaming",GP),("renamed_kind",G6),("renamed_tie",GS),("renamed",Kl),("codes_alike",GL),("likenesses",GV),("value_of_name",GB),("made",GT),("value",Ku),("counts",KG),("keeps_count",GQ),("keeps",d_keeps),("first_broken",GH),("all_forms",GR),("unlike",Ke),("how_many",GJ),("_law_nth",Kq),("_law_whole",Kp),("_law_marks",Kc),("_law_orders",Kj),("_law_world",GO),("_law_led",Ks),("_law_names",Kb),("_law_atom",GA),("_law_fact",GY),("_law_put",Kt),("_law_op",Gs),("_law_spread",GW),("_law_saying",GE),("_law_sayings",Gx),("_law_shape",Ka),("_law_keep",Ki),("_law_keepers",GN),("_law_big",GK),("law",d_law)],[("WorldError", "ValueError"),("NoSize", "WorldError"),("NoCode", "WorldError"),("TooBig", "WorldError"),("NoRenaming", "WorldError")],[("GREATEST_SIZE",.int 4),("MOST_LISTED_BITS",.int 9)]⟩
noncomputable abbrev u9 (m:Nat):Fx:=⟨call prog m,prog.cl,prog.con⟩
theorem Xv (f): ∀ ds,(∀ d∈ds,step d h= .ok (f d) h)->Gv step ds h= .ok (ds.filterMap f) h
 | [],_=>rfl
 | d::ds,a=>by
  have b:=Xv f ds λd c=>a d (Aa1 _ c)
  rw [Gv,a d Aa3]
  simp only [b]
  cases q:f d<;>simp [q]
def QJ (f) (r:Gm F it Y h= .ok ds h) (n:ds.length<=LIM)
 (l: ∀d∈ds,∃a b,Gp tg one d (Ab0 k u0++cap.map λj=>Gi Y j)=y0 a/\Gu F c a h= .ok b h/\(if b=k9 then ∃w y,eval F elt a h= .ok w h/\w.d=y0 y/\f d=y0 y else f d=u0)):
 eval F (.comp tg one k cap it k9 c elt) Y h= .ok (.own (ds.filterMap f)) h:=by
 rw [eval,r,R.bind_ok,if_pos n,Xv f]
 ·rfl
 intro d m
 obtain⟨a,b,i,g,e⟩:=l d m
 rw [i]
 show((Gu F c a h).bind _)=_
 rw [g]
 cases b with
 | true=>
  obtain⟨w,y,o,q,p⟩:=e
  simp [o,q,p]
 | false=>
  rw [if_neg (by simp)]at e
  simp [e]
def wv (f) (n:Gm F it Y h= .ok ds h) (i:ds.length<=LIM)
 (e: ∀d∈ds,∃a,Gp tg one d (Ab0 k u0++cap.map λj=>Gi Y j)=y0 a/\ ∃w,eval F elt a h= .ok w h/\w.d=y0 (f d)):
 eval F (.comp tg one k cap it y9 c elt) Y h= .ok (.own (ds.map f)) h:=by
 rw [eval,n,R.bind_ok,if_pos i,Xv (λd=>y0 (f d))]
 ·simp [List.filterMap_eq_map']
 intro d g
 obtain⟨a,b,w,l,m⟩:=e d g
 rw [b]
 simp [l,m]
def wH (bnd) (body) (d) (ds) (Y) (h):Gr bnd body (d::ds) Y h=match bnd d Y with
 | none=> .fail
 | some c=>match body c h with
  | .next a b=>Gr bnd body ds a b
  | .cont a b=>Gr bnd body ds a b
  | .brk a b=> .next a b
  | o=>o:=rfl
@[simp] theorem jal (bnd) (body) (Y) (h):Gr bnd body [] Y h= .next Y h:=rfl
def xa (b:bnd d Y=y0 Y1) (a:body Y1 h= .next Y2 h2):Gr bnd body (d::ds) Y h=Gr bnd body ds Y2 h2:=by
 rw [wH,b];simp only [a]
@[simp] theorem Ko (i) (d) (Y):Gp [i] k9 d Y=y0 (GD Y i (.v d)):=rfl
@[simp] theorem K7 (tg) (ds) (Y):Gp tg y9 (.tup ds) Y=setTup tg ds Y:=rfl
def Xn (a b:Nat):KZ (a:Int) (b:Int)=y0 ((a &&& b:Nat):Int):=by simp [KZ]
def xC (a b:Nat):orI (a:Int) (b:Int)=y0 ((a ||| b:Nat):Int):=by simp [orI]
@[simp] theorem xm (i j):Gn .band i j=KZ i j:=rfl
@[simp] theorem wE (i j):Gn .bor i j=orI i j:=rfl
def wc (a b:Nat) (h:a<2 ^ 64):Gn .mul (a:Int) (b:Int)=y0 ((a*b:Nat):Int):=by
 have c:(-qdz< a/\ a<qdz)\/(-qdz< b/\ b<qdz):=by rw [Pa];omega
 show(if _ then _ else _)=_
 rw [if_pos c,Int.natCast_mul]
def J7 (k:Nat) (h:k<=1000000):Gn .shl 1 (k:Int)=y0 ((2 ^ k:Nat):Int):=by
 have a: 0<=(k:Int)/\ k<=BP/\(1:Int).natAbs<jdz:=by rw [KR,G9];exact⟨by omega,by omega,by decide⟩
 show(if _ then _ else _)=_
 rw [if_pos a,Int.one_mul,Af6]
 simp
def wA (t k:Nat):Gn .shr (t:Int) (k:Int)=y0 ((t / 2 ^ k:Nat):Int):=by
 simp [Gn,Int.natCast_pow]
def xI (t k):(t / 2 ^ k &&& 1)=(t.testBit k).toNat:=by
 have:=Ak3 (t / 2 ^ k) 1
 rw [this]
 exact Wf.bit_nat t k
def pD (p:Nat×Nat):D:= .tup [.int (p.1:Nat),.int (p.2:Nat)]
def jbc (n t:Nat) (m):(((Aa0 m).map λ(i:Nat)=>D.int (i:Int)).filterMap λd=>match d with
 | .int i=>if t.testBit i.toNat then y0 (.tup [.int (i / (n:Int)),.int (i % (n:Int))])else u0
 | _=>u0)=(((Aa0 m).filter t.testBit).map λk=>(k / n,k % n)).map pD:=by
 induction Aa0 m with
 | nil=>rfl
 | cons x c a=>
  by_cases b:t.testBit x=k9
  ·simp [b,pD,a]
  ·simp [b,a]
def rng (m)(a:d∈(Aa0 m).map λ(i:Nat)=>D.int (i:Int)): ∃i:Nat,i<m/\d= .int (i:Int):=by
 obtain⟨i,b,rfl⟩:=Ab9.mp a
 exact⟨i,Ab3.mp b,rfl⟩
def qk (a:n<=20):n*n<=400:=Ac (Ae3 a a) (by decide)
def xbt (a:n<=20):n*n<=LIM:=Ac (qk a) (by rw [Gk];decide)
def Jd {m:Nat}(e:eval F a Y h= .ok (.v (.int (m:Int))) h) (c:m<=1000000):Gm F (.range1 a) Y h= .ok ((Aa0 m).map λ(i:Nat)=> .int (i:Int)) h:=by
 have b: -jdG<= m/\ m<jdG:=by rw [Pc];omega
 rw [Gm,e,R.bind_ok,int?_int,R.of_some,R.bind_ok,if_pos b,Af6]
def qbc {n i j:Nat}(b:n<=20) (e:Gi Y i=y0 (.v (.int (n:Int)))/\Gi Y j=y0 (.v (.int (n:Int)))):Gm F (.range1 (.bin .mul (.var i) (.var j))) Y h= .ok ((Aa0 (n*n)).map λ(i:Nat)=> .int (i:Int)) h:=by
 have c:=qk b
 refine Jd ?_ (by omega)
 have a:=wc n n (by omega)
 simp [e.1,e.2,a]
def jq (k n t:Nat) (h) (e:n<=20):call prog (k+1) "pairs_of" [.v (.int (n:Int)),.v (.int (t:Int))] h= .ok (.own ((Wf.pairsM n t).map pD)) h:=by
 rw [Ga rfl _ _ _ rfl]
 simp only [Kh,execs,exec,Wx,Kd]
 rw [QJ (λd=>match d with
  | .int i=>if t.testBit i.toNat then y0 (.tup [.int (i / n),.int (i % n)])else u0
  | _=>u0) (qbc e (by simp [Gi])) (by simpa using xbt e)]
 ·rw [jbc]
  simp [Wf.pairsM]
 ·intro d f
  obtain⟨i,j,rfl⟩:=rng _ f
  have a:0<n:=by cases n with
   | zero=>simp at j
   | succ m=>omega
  have b:0< n/\ n<xd5:=by rw [G8];omega
  have g:KZ ((t / 2 ^ i:Nat)) 1=y0 (((t.testBit i).toNat:Nat):Int):=by
   rw [show 1=((1:Nat):Int)from rfl,Xn,xI]
  refine⟨_,t.testBit i,rfl,?_,?_⟩
  ·unfold Gu
   simp only [eval,Gi,Ac7,Aj0,Aa9,Ah8,Af3,GD,Gj,R.bind_ok,Gy,wA,xm,g,R.of_some,zW]
   cases t.testBit i<;>rfl
  ·by_cases c:t.testBit i=k9
   ·simp [c,Gi,b,a]
   ·simp [c]
def qa9 (i:n<=20){t:Nat}{a b:Nat}(g:a<n) (f:b<n) (h):
 execs F zh [y0 (.v (.int (n:Int))),y0 l,y0 (.v (.int (t:Int))),y0 (.v (.int (a:Int))),y0 (.v (.int (b:Int)))] h=
  .next [y0 (.v (.int (n:Int))),y0 l,y0 (.v (.int ((t ||| 2 ^ (a*n+b):Nat):Int))),y0 (.v (.int (a:Int))),y0 (.v (.int (b:Int)))] h:=by
 have d:=wc a n (by omega)
 have c:Gn .shl 1 (a*n+b:Nat)=y0 ((2 ^ (a*n+b):Nat):Int):=J7 _ (by
  have:=Wf.place_lt g f
  have:=qk i
  omega)
 have e:=xC t (2 ^ (a*n+b))
 rw [Int.natCast_add]at c
 simp only [zh,execs,exec,eval,Gi,Gj,R.bind_ok,R.of_some,R.toO_ok,O.seq_next,Gy,d,Qc,c,wE,e,W.d_v,GD]
theorem qbA (d:n<=20)(h): ∀ ps (t:Nat) r x y,Wf.inB n ps-> ∃b a,
 Gr (Gp [3,4] y9) (λY h=>execs F zh Y h) (ps.map pD++r) [y0 (.v (.int (n:Int))),y0 l,y0 (.v (.int (t:Int))),x,y] h=
  Gr (Gp [3,4] y9) (λY h=>execs F zh Y h) r [y0 (.v (.int (n:Int))),y0 l,y0 (.v (.int ((ps.foldl (λt p=>t ||| 2 ^ (p.1*n+p.2)) t:Nat):Int))),b,a] h
 | [],t,r,x,y,_=>⟨x,y,rfl⟩
 | p::ps,t,r,x,y,f=>by
  have c:=f p Aa3
  obtain⟨b,a,e⟩:=qbA d h ps (t ||| 2 ^ (p.1*n+p.2)) r (y0 (.v (.int p.1))) (y0 (.v (.int p.2))) λq g=>f q (Aa1 _ g)
  refine⟨b,a,?_⟩
  rw [Aa9,Ah8,xa rfl (qa9 d c.1 c.2 h),e]
  rfl
def qcM (k n) (ps) (l) (a:lpV l=y0 (ps.map pD)) (h) (b:n<=20) (c:Wf.inB n ps):call prog (k+1) "gathered" [.v (.int (n:Int)),l] h= .ok (.v (.int ((Wf.tieM n ps:Nat):Int))) h:=by
 rw [Ga rfl _ _ _ rfl]
 obtain⟨f,d,e⟩:=qbA b h ps 0 [] u0 u0 c
 rw [Ae0,jal]at e
 simp only [Kf,execs,exec,Kd,eval,R.toO_ok,W.d_v,O.seq_next,Gw,Aa9,Ad0,Ah8,Af3,Ac7,Aj0,Gj,GD,Ah5,a,R.of_some]
 rw [show (0)=((0:Nat):Int)from rfl,e]
 simp [Wf.tieM]
def WC (k n) (ps) (h) (a:n<=20) (b:Wf.inB n ps):call prog (k+3) "gathered" [.v (.int (n:Int)),.bor (ps.map pD)] h= .ok (.v (.int ((Wf.tieM n ps:Nat):Int))) h:=qcM (k+2) n ps _ rfl h a b
end M
local macro_rules | `(tactic| simp_all [$xs,*]) => `(tactic| simp only [M.exec, M.execs, M.Gu, M.eval, M.Gg, M.Gq, M.Gm, M.Gw, M.Kd, M.Gi, M.Gj, M.GD, M.setTup, M.R.bind_ok, M.R.toO_ok, M.R.of_some, M.O.seq_next, M.O.seq_ret, M.O.seq_exc, M.W.d_v, M.W.d_own, M.W.arg_v, M.W.arg_own, M.W.arg_bor, Aa9, Ad0, Ah8, Af3, Nat.reduceSub, Ac7, Aj0, M.GZ, Ao5, Bool.not_false, M.Gy, Ah5, M.Pk, M.Po, M.K8, M.K1, M.Pm, M.Pl, M.int?_int, M.Gb, M.GC, M.Ph, M.GI, M.Ko, M.K7, $xs,*])
namespace M
def WI (k s t:Nat) (h):call prog (k+1) "either" [.v (.int (s:Int)),.v (.int (t:Int))] h= .ok (.v (.int ((s ||| t:Nat):Int))) h:=by
 rw [Ga rfl _ _ _ rfl]
 simp_all [KH,wE,xC]
def qa6 (k s t:Nat) (h):call prog (k+1) "common" [.v (.int (s:Int)),.v (.int (t:Int))] h= .ok (.v (.int ((s &&& t:Nat):Int))) h:=by
 rw [Ga rfl _ _ _ rfl]
 simp_all [Kz,xm,Xn]
def zbJ (s t:Nat):KZ (s:Int) (-(t:Int)-1)=y0 ((s-(s &&& t):Nat):Int):=by
 have b: ¬(0<= -(t:Int)-1):=by omega
 have a: 0<=(s:Int):=by omega
 have c:(-(-(t:Int)-1)-1).toNat=t:=by omega
 rw [KZ,if_pos a,if_neg b,c,Af6]
def WQ (k s t:Nat) (h):call prog (k+1) "without" [.v (.int (s:Int)),.v (.int (t:Int))] h= .ok (.v (.int ((s-(s &&& t):Nat):Int))) h:=by
 rw [Ga rfl _ _ _ rfl]
 simp_all [Km,xm,zbJ]
def zN (q:eval F e Y h= .ok (.own xs) h):Gm F (.seq e) Y h= .ok xs h:=by
 rw [Gm,q];rfl
def zcQ (q:eval F e Y h= .ok (.v (.lst xs)) h):Gm F (.seq e) Y h= .ok xs h:=by
 rw [Gm,q];rfl
def zce (q:eval F e Y h= .ok (.v (.tup xs)) h):Gm F (.seq e) Y h= .ok xs h:=by
 rw [Gm,q];rfl
def QA (n t) (a:n<=20):((Wf.pairsM n t).map pD).length<=LIM:=by
 refine Ac ?_ (xbt a)
 simp only [Wf.pairsM,Aa]
 exact Ac (Ae _ _) (by simp)
def ja4 (k n t:Nat) (h) (a:n<=20):call prog (k+4) "turned" [.v (.int (n:Int)),.v (.int (t:Int))] h= .ok (.v (.int ((Wf.turnM n t:Nat):Int))) h:=by
 rw [Ga rfl _ _ _ rfl]
 have c: ∀h,eval (u9 (k+3)) xv [y0 (.v (.int n)),y0 (.v (.int t))] h= .ok (.own ((Wf.swp (Wf.pairsM n t)).map pD)) h:=by
  intro h
  rw [xv,wv (λd=>match d with | .tup [x,y]=> .tup [y,x] | d=>d) (zN ?_) (QA n t a)]
  ·simp [Wf.swp,pD,Function.comp_def]
  ·intro d b
   obtain⟨p,e,rfl⟩:=Ab9.mp b
   exact⟨_,rfl,_,rfl,rfl⟩
  ·simp_all [jq (k+2) n t h a]
 simp_all [KA,c,WC k n _ h a (Wf.inB_swp (Wf.inB_pairsM n t))]
 rfl
def jcJ (k n:Nat) (h) (c:n<=20):call prog (k+4) "same" [.v (.int (n:Int))] h= .ok (.v (.int ((Wf.sameM n:Nat):Int))) h:=by
 rw [Ga rfl _ _ _ rfl]
 have b: ∀h,eval (u9 (k+3)) xJ [y0 (.v (.int n))] h= .ok (.own (((Aa0 n).map λa=>(a,a)).map pD)) h:=by
  intro h
  rw [xJ,wv (λd=> .tup [d,d]) (Jd (m:=n) (by simp_all []) (by omega)) (by simp;rw [Gk];omega)]
  ·simp [pD,Function.comp_def]
  ·intro d e
   exact⟨_,rfl,_,rfl,rfl⟩
 simp_all [Pd,b,WC k n _ h c (Wf.inB_same n)]
 rfl
def jbT (k n:Nat) (h) (d:n<=20):call prog (k+1) "every" [.v (.int (n:Int))] h= .ok (.v (.int ((2 ^ (n*n)-1:Nat):Int))) h:=by
 rw [Ga rfl _ _ _ rfl]
 have a:=wc n n (by omega)
 have b:=J7 (n*n) (by have:=qk d;omega)
 have c:((2 ^ (n*n):Nat))-1=((2 ^ (n*n)-1:Nat):Int):=by
  have:=Aj4 (n*n)
  omega
 simp_all [KO,a,b,jt,c]
def qaN (x k:Nat) (b:x<2 ^ 64) (h:k<=1000000):Gn .shl (x:Int) (k:Int)=y0 ((x*2 ^ k:Nat):Int):=by
 have a: 0<=(k:Int)/\ k<=BP/\(x:Int).natAbs<jdz:=by rw [KR,G9];exact⟨by omega,by omega,by simpa using b⟩
 show(if _ then _ else _)=_
 rw [if_pos a,Af6,Int.natCast_mul,Int.natCast_pow]
 rfl
def xaz {n o p t a b:Nat}(d:n<=20) (j:a<n) (k:b<n)(h):
 execs F Wp [y0 (.v (.int (n:Int))),y0 (.v (.int (o:Int))),y0 (.v (.int (p:Int))),y0 (.v (.int ((2 ^ n-1:Nat):Int))),y0 (.v (.int (t:Int))),y0 (.v (.int (a:Int))),y0 (.v (.int (b:Int))),x7] h=
  .next [y0 (.v (.int (n:Int))),y0 (.v (.int (o:Int))),y0 (.v (.int (p:Int))),y0 (.v (.int ((2 ^ n-1:Nat):Int))),y0 (.v (.int ((t ||| Wf.rowM n p b*2 ^ (a*n):Nat):Int))),y0 (.v (.int (a:Int))),y0 (.v (.int (b:Int))),y0 (.v (.int ((Wf.rowM n p b:Nat):Int)))] h:=by
 have e:=wc a n (by omega)
 have c:=wc b n (by omega)
 have i:(p / 2 ^ (b*n) &&& (2 ^ n-1))=Wf.rowM n p b:=by rw [Ak3];rfl
 have f:=Ac (Ae3 (Ai3 j) (Aa5 n)) (qk d)
 have g:=qaN (Wf.rowM n p b) (a*n) (Ab1 (Wf.rowM_lt n p b) (Ac (Ac9 (by decide) d) (by decide))) (by omega)
 simp_all [Wp,e,c,wA,xm,Xn,i,g,wE,xC]
theorem xaB {n o p:Nat}(f:n<=20) (h): ∀ ps (t:Nat) x y z,Wf.inB n ps-> ∃c b a,
 Gr (Gp [5,6] y9) (λY h=>execs F Wp Y h) (ps.map pD) [y0 (.v (.int (n:Int))),y0 (.v (.int (o:Int))),y0 (.v (.int (p:Int))),y0 (.v (.int ((2 ^ n-1:Nat):Int))),y0 (.v (.int (t:Int))),x,y,z] h=
  .next [y0 (.v (.int (n:Int))),y0 (.v (.int (o:Int))),y0 (.v (.int (p:Int))),y0 (.v (.int ((2 ^ n-1:Nat):Int))),y0 (.v (.int ((ps.foldl (λt q=>t ||| Wf.rowM n p q.2*2 ^ (q.1*n)) t:Nat):Int))),c,b,a] h
 | [],t,x,y,z,_=>⟨x,y,z,rfl⟩
 | q::ps,t,x,y,z,d=>by
  have g:=d q Aa3
  obtain⟨c,b,a,e⟩:=xaB f h ps (t ||| Wf.rowM n p q.2*2 ^ (q.1*n)) (y0 (.v (.int q.1))) (y0 (.v (.int q.2))) (y0 (.v (.int ((Wf.rowM n p q.2:Nat))))) λq i=>d q (Aa1 _ i)
  refine⟨c,b,a,?_⟩
  rw [Aa9,xa rfl (xaz f g.1 g.2 h),e]
  rfl
def XI (k n o p:Nat) (h) (a:n<=20):call prog (k+2) "joined" [.v (.int (n:Int)),.v (.int (o:Int)),.v (.int (p:Int))] h= .ok (.v (.int ((Wf.joinM n o p:Nat):Int))) h:=by
 rw [Ga rfl _ _ _ rfl]
 have b:=J7 n (by omega)
 have c:((2 ^ n:Nat))-1=((2 ^ n-1:Nat):Int):=by
  have:=Aj4 n
  omega
 obtain⟨g,d,f,e⟩:=xaB a h (Wf.pairsM n o) 0 u0 u0 u0 (Wf.inB_pairsM n o)
 simp_all [KC,b,jt,c,jq k n o h a]
 rw [show (0)=((0:Nat):Int)from rfl,e]
 simp_all []
 rfl
theorem jR (i:n<=20) (h): ∀ f r,2 ^ (n*n)-r<f->Wf.Clo n t r-> ∃c,Wf.IsTC n t c ∧
 KK (λY h=>Gu (u9 (k+2)) Jp Y h) (λY h=>execs (u9 (k+2)) Wq Y h) f [y0 (.v (.int (n:Int))),y0 (.v (.int (t:Int))),y0 (.v (.int (r:Int))),y0 (.v (.int ((r ||| Wf.joinM n r r:Nat):Int)))] h=
  .next [y0 (.v (.int (n:Int))),y0 (.v (.int (t:Int))),y0 (.v (.int (c:Int))),y0 (.v (.int (c:Int)))] h
 | 0,r,g,_=>absurd g (Aj5 _)
 | f+1,r,g,d=>by
  have l: ∀(a b:Nat),Gu (u9 (k+2)) Jp [y0 (.v (.int n)),y0 (.v (.int t)),y0 (.v (.int a)),y0 (.v (.int b))] h= .ok (!v9 (b=a)) h:=by
   intro a b
   simp [Gu,Jp,Gi,KP]
   by_cases q:b=a
   ·simp [q]
   ·have: ¬(b=(a:Int)):=by omega
    simp [q,this]
  rw [KK,l,R.toO_ok]
  by_cases e:r ||| Wf.joinM n r r=r
  ·refine⟨r,d.done e,?_⟩
   simp only [e,decide_true,Ao5]
  ·have s:=d.grow e
   have p:=d.next.lt
   obtain⟨c,o,m⟩:=jR i h f (r ||| Wf.joinM n r r) (by omega) d.next
   refine⟨c,o,?_⟩
   simp only [e,decide_false,Bool.not_false]
   have j:execs (u9 (k+2)) Wq [y0 (.v (.int n)),y0 (.v (.int t)),y0 (.v (.int r)),y0 (.v (.int ((r ||| Wf.joinM n r r:Nat))))] h=
    .next [y0 (.v (.int n)),y0 (.v (.int t)),y0 (.v (.int ((r ||| Wf.joinM n r r:Nat)))),y0 (.v (.int (((r ||| Wf.joinM n r r) ||| Wf.joinM n (r ||| Wf.joinM n r r) (r ||| Wf.joinM n r r):Nat))))] h:=by
    simp_all [Wq,XI k n _ _ h i,WI (k+1) _ _ h]
   simp only [j]
   exact m
def za6 (k n t) (h) (b:n<=4) (d:t<2 ^ (n*n)): ∃r,Wf.IsTC n t r/\call prog (k+3) "closed" [.v (.int (n:Int)),.v (.int (t:Int))] h= .ok (.v (.int (r:Int))) h:=by
 rw [Ga rfl _ _ _ rfl]
 have e:2 ^ (n*n)-t<100000:=by
  have:n*n<=16:=Ae3 b b
  have:2 ^ (n*n)<=2 ^ 16:=Ac9 (by decide) this
  omega
 obtain⟨r,c,a⟩:=jR (by omega) h 100000 t e (Wf.Clo.start d)
 refine⟨r,c,?_⟩
 simp only [Gu]at a
 simp_all [KF,XI k n _ _ h (by omega),WI (k+1) _ _ h]
 rw [a]
 simp_all []
def za (e:exec F s Y h= .next Y1 h1):execs F (.cons s ss) Y h=execs F ss Y1 h1:=by rw [execs,e,O.seq_next]
def fx (e:exec F s Y h= .next Y1 h1) (g:G7 n (execs F ss Y1 h1)=r):G7 n (execs F (.cons s ss) Y h)=r:=by rw [za e];exact g
def wb (e:exec F s Y h= .ret w h1):execs F (.cons s ss) Y h= .ret w h1:=by rw [execs,e,O.seq_ret]
def qA (e:Gu F c Y h= .ok k9 h1):exec F (.iff c a b) Y h=execs F a Y h1:=by rw [exec,e,R.toO_ok]
def xU (e:Gu F c Y h= .ok y9 h1):exec F (.iff c a b) Y h=execs F b Y h1:=by rw [exec,e,R.toO_ok]
def wB (a:Kd e=u0) (q:eval F e Y h= .ok (.own xs) h1):exec F (.ret e) Y h= .ret (.own xs) h1:=by
 rw [exec,a];simp only [q,R.toO_ok]
def Xc (a:Kd e=u0) (q:eval F e Y h= .ok (.v d) h1):exec F (.ret e) Y h= .ret (.v d) h1:=by
 rw [exec,a];simp only [q,R.toO_ok]
def Za (e:Gu F c Y h= .ok y9 h):execs F (.cons (.iff c a .nil) ss) Y h=execs F ss Y h:=za (xU e)
def Wj (e:Gu F c Y h= .ok k9 h) (r:exec F s Y h= .ret w h):execs F (.cons (.iff c (.cons s .nil) .nil) ss) Y h= .ret w h:=wb ((qA e).trans (wb r))
def zb :execs F (.cons s .nil) Y h=exec F s Y h:=by
 rw [execs]
 cases exec F s Y h<;>rfl
abbrev zdy (l:List Nat):List D:=l.map λ(x:Nat)=> .int (x:Int)
abbrev Xj (n:Nat) (ks ts:List Nat):D:= .tup [.int (n:Int),.tup (zdy ks),.tup (zdy ts)]
structure qdJ (n K T:Nat) (ks ts:List Nat):Prop where
 n4:n<=4
 lk:ks.length=K
 lt:ts.length=T
 bk: ∀x∈ks,x<2 ^ n
 bt: ∀x∈ts,x<2 ^ (n*n)
def Jl (xs:List α) (i) (h:i<xs.length):atI xs (i:Int)=xs[i]? :=by
 have:(i)< xs.length:=by omega
 simp [atI,ixN,this]
def jbG (l) (i:Nat) (h:i<l.length):atI (zdy l) (i:Int)=y0 (.int ((l.getD i 0:Nat):Int)):=by
 rw [Jl _ _ (by simpa using h),Ad1,Aa4 h,Ac1,Aa4 h]
 rfl
def jx (n t):(Wf.pairsM n t).length<=n*n:=by
 unfold Wf.pairsM
 rw [Aa]
 exact Ac (Ae _ _) (by simp)
def jJ (x y:D):atI [x,y] 0=y0 x:=rfl
def WB (x y:D):atI [x,y] 1=y0 y:=rfl
def zcp (x:D):atI [x] 0=y0 x:=rfl
def xo (x) (r:List α):atI (x::r) 0=y0 x:=by
 have: 0< (x::r).length:=by simp
 simp [atI,ixN,this]
def zbq (x y z:D):atI [x,y,z] 0=y0 x:=rfl
mutual
theorem Z0: ∀ {d:D},Gc d=k9->eqD d d=k9
 | .non,_=>rfl
 | .bl b,_=>by simp
 | .int i,_=>by simp
 | .str s,_=>by simp
 | .tup xs,h=>by
  rw [eqD];exact Kk (by simpa [Gc]using h)
 | .lst xs,h=>by
  rw [eqD];exact Kk (by simpa [Gc]using h)
 | .ref _,h=>by simp at h
 | .exc _ _,h=>by simp at h
theorem Kk: ∀ {xs:List D},Gf xs=k9->Kv xs xs=k9
 | [],_=>rfl
 | x::xs,h=>by
  have h':Gc x=k9/\Gf xs=true:=by simpa [Gf]using h
  rw [Kv,Z0 h'.1,Kk h'.2];rfl
end
mutual
theorem QZ {h:AH}: ∀ {d:D},Gc d=k9->res h d=d
 | .non,_=>rfl
 | .bl b,_=>rfl
 | .int i,_=>rfl
 | .str s,_=>rfl
 | .tup xs,q=>by
  rw [res,KQ (by simpa [Gc]using q)]
 | .lst xs,q=>by
  rw [res,KQ (by simpa [Gc]using q)]
 | .ref _,q=>by simp at q
 | .exc _ _,q=>by simp at q
theorem KQ {h:AH}: ∀ {xs:List D},Gf xs=k9->KS h xs=xs
 | [],_=>rfl
 | x::xs,q=>by
  have h':Gc x=k9/\Gf xs=true:=by simpa [Gf]using q
  rw [KS,QZ h'.1,KQ h'.2]
end
theorem Qp (f) (a: ∀x,Gc (f x)=k9): ∀l:List α,Gf (l.map f)=k9
 | []=>rfl
 | x::l=>by simp [a x,Qp f a l]
theorem Z1 (f) (k) (a: ∀x,dep (f x)<=k): ∀l:List α,KN (l.map f)<=k
 | []=>Ah2 _
 | x::l=>by
  have c:=a x
  have b:=Z1 f k a l
  exact Nat.max_le.mpr ⟨c,b⟩
theorem wC: ∀l:List Nat,Pp (zdy l)=y0 ((l.sum:Nat):Int)
 | []=>rfl
 | x::l=>by
  have:=wC l
  simp only [Aa9,Pp]at this ⊢
  rw [this,Af7]
  simp
theorem xbA: ∀bs:List Bool,Pn (bs.map .bl)=y0 bs
 | []=>rfl
 | b::bs=>by simp [Pn,xbA bs]
def zz {bs:List Bool}(q:eval F e Y h= .ok (.own (bs.map .bl)) h):eval F (.bi .all (.cons e .nil)) Y h= .ok (.v (.bl (bs.all id))) h:=by
 rw [eval,Gg,q]
 simp only [R.bind_ok,Gg,xbE,xbA,R.of_some]
def zZ (p) (l:List α):(l.map p).all id=l.all p:=by
 rw [An5];rfl
def jbR (d) (a:Gc d=k9) (b:dep d<150) (h):Gz .ne (.v d) (.v d) h=y0 false:=by
 show(if KP (res h d) (res h d)then y0 (!eqD (res h d) (res h d))else u0)=_
 rw [QZ a,if_pos (by rw [KP,a,decide_eq_true b];rfl),Z0 a];rfl
def xf (g f) (l:List α) (k:Gm F it Y h= .ok (l.map g) h) (m:l.length<=1000) (c: ∀x∈l,∃w,eval F elt (y0 (.v (g x))::cap.map λj=>Gi Y j) h= .ok w h/\w.d=y0 (f x)):eval F (.comp [0] k9 1 cap it y9 (.bl k9) elt) Y h= .ok (.own (l.map f)) h:=by
 rw [eval,k,R.bind_ok,if_pos (by rw [Gk,Aa];omega)]
 have go: ∀ step (l:List α),(∀ x∈l,step (g x) h= .ok (y0 (f x)) h)->Gv step (l.map g) h= .ok (l.map f) h:=λstep l=>by
  induction l with
  | nil=>intro _;rfl
  | cons x l b=>
   intro a
   rw [Aa9,Gv,a x Aa3]
   simp only [b λy i=>a y (Aa1 _ i),Aa9]
 rw [go _ l λx a=> ?_]
 ·rfl
 ·obtain⟨w,d,e⟩:=c x a
  show(eval F elt (y0 (.v (g x))::cap.map λj=>Gi Y j) h).bind _=_
  rw [d]
  simp only [R.bind_ok,e,R.of_some]
def xbg {n:Nat}(f) (a:eval F e Y h= .ok (.v (.int (n:Int))) h) (m:n<=1000)
 (g: ∀i,i<n-> ∃w,eval F elt (y0 (.v (.int (i:Int)))::cap.map λj=>Gi Y j) h= .ok w h/\w.d=y0 (f i)):eval F (.comp [0] k9 1 cap (.range1 e) y9 (.bl k9) elt) Y h= .ok (.own ((Aa0 n).map f)) h:=by
 rw [wv (λd=>match d with | .int i=>f i.toNat | d=>d) (Jd a (by omega)) (by simp;rw [Gk];omega)]
 ·simp [Function.comp_def]
 ·intro d k
  obtain⟨i,l,rfl⟩:=rng _ k
  obtain⟨w,c,b⟩:=g i l
  exact⟨_,rfl,w,c,by simpa using b⟩
def wk (i j) (h):Gz .eq (.v (.int i)) (.v (.int j)) h=y0 (v9 (i=j)):=by
 rfl
def Xy (s t) (h):Gz .eq (.v (.str s)) (.v (.str t)) h=y0 (s==t):=by simp [KP]
def jcN (F) (Y) (h):Gg F .nil Y h= .ok [] h:=rfl
def qaH (a:eval F e Y h= .ok w h1) (b:Gg F es Y h1= .ok ws h2):Gg F (.cons e es) Y h= .ok (w::ws) h2:=by
 rw [Gg,a,R.bind_ok,b];rfl
def jbZ (a:Gg F es Y h= .ok ws h1) (b:F.call f (ws.map W.arg) h1= .ok w h2):eval F (.call f es) Y h= .ok w h2:=by
 rw [eval,a,R.bind_ok,b]
def xb4 (a:eval F e Y h= .ok w h1) (b:w.d=y0 d):exec F (.setf i e) Y h= .next (GD Y i (.v d)) h1:=by
 rw [exec,a,R.toO_ok]
 simp only [b]
def JR (x y z:D):atI [x,y,z] 2=y0 z:=rfl
def pm (o:List Nat) (a:Nat):Nat:=o.getD a 0
structure Od (n:Nat) (o:List Nat):Prop where
 p:o.Perm (Aa0 n)
section
variable {n:Nat}{o:List Nat}
def Od.len (h:Od n o):o.length=n:=by rw [h.p.length_eq,Aj9]
def Wr (h):pm o a=o[a]:=by
 rw [pm,Ac1,Aa4 h];rfl
def Od.lt (h:Od n o)(c:a<n):pm o a<n:=by
 have b:a<o.length:=by rw [h.len];exact c
 rw [Wr b]
 exact Ab3.mp (h.p.mem_iff.mp (Am7 b))
def Od.inj (h:Od n o)(f:a<n) (e:b<n):pm o a=pm o b↔a=b:=by
 have d:a<o.length:=by rw [h.len];exact f
 have c:b<o.length:=by rw [h.len];exact e
 rw [Wr d,Wr c]
 exact List.getElem_inj (h.p.nodup_iff.mpr Ai8)
def Od.onto (h:Od n o)(c:y<n): ∃a,a<n/\pm o a=y:=by
 obtain⟨a,b,e⟩:=List.getElem_of_mem (h.p.mem_iff.mpr (Ab3.mpr c))
 exact⟨a,by rw [← h.len];exact b,by rw [Wr b];exact e⟩
theorem Od.map (h:Od n o):o=(Aa0 n).map (pm o):=by
 refine Am8 (by simp [h.len]) λi a b=> ?_
 rw [Aj,Aj2,Wr a]
end
def xb0 (h:m.testBit p=y9):m+2 ^ p=m ||| 2 ^ p:=by
 have a:(m ||| 2 ^ p) &&& 2 ^ p=2 ^ p:=Af8 λk=>by
  rw [Al0,Ag9]
  cases (2 ^ p).testBit k<;>simp
 have b:(m ||| 2 ^ p)-((m ||| 2 ^ p) &&& 2 ^ p)=m:=Af8 λk=>by
  rw [Wf.sub_and_bit,Ag9,Al]
  by_cases q:p=k
  ·subst q;simp [h]
  ·simp [q]
 rw [a]at b
 have:2 ^ p<=m ||| 2 ^ p:=by
  have:= @Nat.and_le_left (m ||| 2 ^ p) (2 ^ p)
  rw [a]at this;exact this
 omega
theorem XJ (g:Nat->Bool) (q:Nat->Nat): ∀l:List Nat,(∀ a∈l,∀b∈l,q a=q b->a=b)->l.Nodup-> ∀k,(l.map λa=>(g a).toNat*2 ^ q a).sum.testBit k=l.any λa=>g a&&v9 (q a=k)
 | [],_,_,k=>by simp
 | a::l,f,hn,k=>by
  have c:=Ah3.mp hn
  have h:=XJ g q l (λx m y j=>f x (Aa1 _ m) y (Aa1 _ j)) c.2
  rw [Aa9,Af7,Ag2,←h k]
  cases n:g a
  ·simp
  ·have i:((l.map λa=>(g a).toNat*2 ^ q a).sum).testBit (q a)=false:=by
    rw [h,Ah]
    intro b e d
    rw [Aa7,decide_eq_true_eq]at d
    have:=f b (Aa1 _ e) a Aa3 d.2
    exact c.1 (this▸e)
   rw [Bool.toNat_true,Nat.one_mul,Am,xb0 i,Ag9,Al,Bool.or_comm,Aj3]
def kM (n:Nat) (o:List Nat) (x:Nat):Nat:=((Aa0 n).map λa=>(x.testBit a).toNat*2 ^ pm o a).sum
section
variable {n:Nat}{o:List Nat}(h:Od n o)
include h
def jaO (x k):(kM n o x).testBit k=(Aa0 n).any λa=>x.testBit a&&v9 (pm o a=k):=
 XJ _ _ _ (λa d b c e=>(h.inj (Ab3.mp d) (Ab3.mp c)).mp e) Ai8 k
def qae (x)(c:a<n):(kM n o x).testBit (pm o a)=x.testBit a:=by
 rw [jaO h,Ad4,Af]
 constructor
 ·rintro ⟨b,d,e⟩
  rw [Aa7,decide_eq_true_eq,h.inj (Ab3.mp d) c]at e
  exact e.2▸e.1
 ·exact λe=>⟨a,Ab3.mpr c,by simp [e]⟩
def xba (x):kM n o x<2 ^ n:=by
 refine Ai7 _ λi c=> ?_
 rw [jaO h,Ah]
 intro a b e
 rw [Aa7,decide_eq_true_eq]at e
 have:=h.lt (Ab3.mp b)
 omega
end
def tP (n:Nat) (o:List Nat) (p:Nat×Nat):Nat:=pm o p.1*n+pm o p.2
def XD {n a b c d:Nat}(i:b<n) (h:d<n) (e:a*n+b=c*n+d):a=c/\b=d:=by
 have g:=Wf.place_div (a:=a) i
 have f:=Wf.place_mod (a:=a) i
 rw [e]at g f
 rw [Wf.place_div h]at g
 rw [Wf.place_mod h]at f
 exact⟨g.symm,f.symm⟩
def tK (n:Nat) (o:List Nat) (t:Nat):Nat:=((Aa0 (n*n)).map λk=>(t.testBit k).toNat*2 ^ tP n o (k / n,k % n)).sum
section
variable {n:Nat}{o p:List Nat}(h:Od n o)
include h
def jaJ (t k):(tK n o t).testBit k=(Aa0 (n*n)).any λj=>t.testBit j&&v9 (tP n o (j / n,j % n)=k):=
 XJ _ _ _ (λa d b c e=>by
  have d:=Ab3.mp d
  have c:=Ab3.mp c
  have m:=Wf.div_lt_n d
  have a2:=Wf.mod_lt_n d
  have l:=Wf.div_lt_n c
  have f:=Wf.mod_lt_n c
  obtain⟨i,g⟩:=XD (h.lt a2) (h.lt f) e
  rw [h.inj m l]at i
  rw [h.inj a2 f]at g
  rw [← Wf.place_eq (k:=a),←Wf.place_eq (k:=b),i,g]) Ai8 k
def qaS (t)(i:a<n) (d:b<n):(tK n o t).testBit (pm o a*n+pm o b)=t.testBit (a*n+b):=by
 rw [jaJ h,Ad4,Af]
 constructor
 ·rintro ⟨j,c,e⟩
  have c:=Ab3.mp c
  rw [Aa7,decide_eq_true_eq]at e
  obtain⟨g,f⟩:=XD (h.lt (Wf.mod_lt_n c)) (h.lt d) e.2
  rw [h.inj (Wf.div_lt_n c) i]at g
  rw [h.inj (Wf.mod_lt_n c) d]at f
  rw [← g,←f,Wf.place_eq];exact e.1
 ·exact λe=>⟨a*n+b,Ab3.mpr (Wf.place_lt i d),by simp [e,tP,Wf.place_div d,Wf.place_mod d]⟩
def qaU (t):tK n o t<2 ^ (n*n):=by
 refine Ai7 _ λi c=> ?_
 rw [jaJ h,Ah]
 intro j a e
 have a:=Ab3.mp a
 rw [Aa7,decide_eq_true_eq]at e
 have:=Wf.place_lt (h.lt (Wf.div_lt_n a)) (h.lt (Wf.mod_lt_n a))
 have b:pm o (j / n)*n+pm o (j % n)=i:=e.2
 omega
def qbW (d:v<2 ^ n) (e: ∀a,a<n->v.testBit (pm o a)=x.testBit a):v=kM n o x:=by
 refine Af8 λk=> ?_
 by_cases b:k<n
 ·obtain⟨a,c,rfl⟩:=h.onto b
  rw [e a c,qae h x c]
 ·rw [Af2 (Ab1 d (Ac9 (by decide) (Am2.mp b))),Af2 (Ab1 (xba h x) (Ac9 (by decide) (Am2.mp b)))]
def jbH (g:v<2 ^ (n*n)) (e: ∀a b,a<n->b<n->v.testBit (pm o a*n+pm o b)=x.testBit (a*n+b)):v=tK n o x:=by
 refine Af8 λk=> ?_
 by_cases c:k<n*n
 ·obtain⟨a,f,i⟩:=h.onto (Wf.div_lt_n c)
  obtain⟨b,d,j⟩:=h.onto (Wf.mod_lt_n c)
  have:=e a b f d
  rw [← qaS h x f d,i,j,Wf.place_eq]at this
  exact this
 ·rw [Af2 (Ab1 g (Ac9 (by decide) (Am2.mp c))),Af2 (Ab1 (qaU h x) (Ac9 (by decide) (Am2.mp c)))]
def Od.then (q:Od n p):Od n (p.map (pm o)):=⟨(q.p.map (pm o)).trans (h.map▸h.p)⟩
theorem wU (q:Od n p)(c:a<n):pm (p.map (pm o)) a=pm o (pm p a):=by
 have b:a<p.length:=by rw [q.len];exact c
 rw [Wr (by simpa using b),Aj,Wr b]
def jcn (q:Od n p) (x):kM n o (kM n p x)=kM n (p.map (pm o)) x:=qbW (h.then q) (xba h _) λa b=>by
 rw [wU h q b,qae h _ (q.lt b),qae q x b]
def jci (q:Od n p) (x):tK n o (tK n p x)=tK n (p.map (pm o)) x:=jbH (h.then q) (qaU h _) λa b d c=>by
 rw [wU h q d,wU h q c,qaS h _ (q.lt d) (q.lt c),qaS q x d c]
def Od.inv (c:p.length=n) (f: ∀a,a<n->pm p (pm o a)=a):Od n p:=⟨by
 have e:p=(Aa0 n).map (pm p):=Am8 (by simp [c]) λi b g=>by rw [Aj,Aj2,Wr b]
 have j:(Aa0 n).map (pm p)=(Aa0 n).map (pm p):=rfl
 rw [e]
 refine((h.p.symm).map (pm p)).trans ?_
 rw [h.map,Ac8]
 have:(Aa0 n).map (pm p∘pm o)=Aa0 n:=by
  refine(Ad6 λa d=> ?_).trans (Am4 _)
  exact f a (Ab3.mp d)
 rw [this]⟩
def jcQ (q:Od n p) (f: ∀a,a<n->pm p (pm o a)=a)(d:x<2 ^ n):kM n p (kM n o x)=x:=(qbW q d λb e=>by
 obtain⟨a,c,rfl⟩:=h.onto e
 rw [f a c,qae h x c]).symm
def zcX (q:Od n p) (g: ∀a,a<n->pm p (pm o a)=a)(i:x<2 ^ (n*n)):tK n p (tK n o x)=x:=(jbH q i λb c k j=>by
 obtain⟨a,f,rfl⟩:=h.onto k
 obtain⟨d,e,rfl⟩:=h.onto j
 rw [g a f,g d e,qaS h x f e]).symm
end
def jay:D->Bool
 | .int _=>k9
 | _=>y9
def jh (d:D) (e:Int):Bool:=match d with
 | .int i=>v9 (0<=i)&&v9 (i<e)
 | _=>y9
def j7 (k) (d) (h) (a:Gc d=k9):call prog (k+1) "is_whole" [.v d] h= .ok (.v (.bl (jay d))) h:=by
 cases d<;>first | exact Gb _ _ _ rfl | cases a
def Jw (k) (d) (e) (h) (b:Gc d=k9):call prog (k+2) "is_below" [.v d,.v (.int e)] h= .ok (.v (.bl (jh d e))) h:=by
 rw [Ga rfl _ _ _ rfl]
 have a:=j7 k d h b
 cases d with
 | int i=>
  simp [a,GX,jay,jh,Gi]
  by_cases c:0<=i<;>simp [c]
 | _=>first | (simp [a,GX,jay,jh,Gi];done) | (simp at b)
def Z3 (g f) (l:List α) (o:Gm F it Y h= .ok (l.map g) h) (p:l.length<=1000) (d: ∀x∈l,∃a w,Gp tg one (g x) (Ab0 k u0++cap.map λj=>Gi Y j)=y0 a/\eval F elt a h= .ok w h/\w.d=y0 (f x)):eval F (.comp tg one k cap it y9 (.bl k9) elt) Y h= .ok (.own (l.map f)) h:=by
 rw [eval,o,R.bind_ok,if_pos (by rw [Gk,Aa];omega)]
 have go: ∀ step (l:List α),(∀ x∈l,step (g x) h= .ok (y0 (f x)) h)->Gv step (l.map g) h= .ok (l.map f) h:=λstep l=>by
  induction l with
  | nil=>intro _;rfl
  | cons x l c=>
   intro b
   rw [Aa9,Gv,b x Aa3]
   simp only [c λy n=>b y (Aa1 _ n),Aa9]
 rw [go _ l λx b=> ?_]
 ·rfl
 ·obtain⟨a,w,e,i,m⟩:=d x b
  simp only [e]
  show((eval F elt a h).bind _)=_
  rw [i]
  simp only [R.bind_ok,m,R.of_some]
def zM {n:Nat}(b) (f) (o:eval F e Y h= .ok (.v (.int (n:Int))) h) (v:n<=1000)
 (g: ∀i,i<n->Gu F c (y0 (.v (.int (i:Int)))::cap.map λj=>Gi Y j) h= .ok (b i) h/\ ∃w,eval F elt (y0 (.v (.int (i:Int)))::cap.map λj=>Gi Y j) h= .ok w h/\w.d=y0 (f i)):eval F (.comp [0] k9 1 cap (.range1 e) k9 c elt) Y h= .ok (.own (((Aa0 n).filter b).map f)) h:=by
 rw [QJ (λd=>match d with | .int i=>if b i.toNat then y0 (f i.toNat)else u0 | _=>u0) (Jd o (by omega)) (by simp;rw [Gk];omega)]
 ·congr 2
  have e: ∀l:List Nat,((l.map λ(i:Nat)=>D.int i).filterMap λd=>match d with | .int i=>if b i.toNat then y0 (f i.toNat)else u0 | _=>u0)=(l.filter b).map f:=λl=>by
   induction l with
   | nil=>rfl
   | cons x u k=>by_cases m:b x=k9<;>simp [m,k]
  exact e _
 ·intro d s
  obtain⟨i,a,rfl⟩:=rng _ s
  obtain⟨r,w,p,t⟩:=g i a
  refine⟨_,b i,rfl,r,?_⟩
  by_cases q:b i=k9
  ·rw [if_pos q];exact⟨w,_,p,t,by simp [q]⟩
  ·rw [if_neg q];simp [q]
theorem jbs: ∀(xs a),xs.Nodup->(∀ x∈xs,x∉a)->Pg a xs=xs.length
 | [],_,_,_=>rfl
 | x::xs,a,hn,c=>by
  have hn:=Ah3.mp hn
  have d:a.any (· ==x)=false:=by
   rw [Ah]
   intro y b e
   exact c x Aa3 (eq_of_beq e▸b)
  rw [Pg,d,jbs xs _ hn.2 λy b=> ?_,Ab4]
  ·simp;omega
  ·rw [Ae1,Ad9]
   rintro (h | h)
   ·exact c y (Aa1 _ b) h
   ·exact hn.1 (h▸b)
theorem zw: ∀l:List Nat,GM (zdy l)=y0 (l.map λ(x:Nat)=>(x:Int))
 | []=>rfl
 | x::l=>by
  have:=zw l
  simp only [Aa9,GM]at this ⊢
  rw [this];rfl
def nd_int {l:List Nat}:(l.map λ(x:Nat)=>(x:Int)).Nodup↔l.Nodup:=by
 rw [Ak0,Ao7,Ak0]
 exact⟨λh=>h.imp λ{a b} q e=>q (by rw [e]),λh=>h.imp λ{a b} q e=>q (by omega)⟩
theorem QF: ∀ {xs},Gf xs=k9-> ∀x∈xs,Gc x=k9
 | x::xs,h,y,a=>by
  have b:=by simpa [Gf]using h
  rcases Ab7.mp a with rfl | a
  ·exact b.1
  ·exact QF b.2 y a
def xac (l):Gf (zdy l)=true:=Qp _ (λ_=>rfl) l
def xbx (l):KN (zdy l)<=0:=Z1 _ 0 (λ_=>Aa5 _) l
def jM (i j) (h):Gz .ne (.v (.int i)) (.v (.int j)) h=y0 (!v9 (i=j)):=by
 rfl
def xah (a:Gf xs=k9) (c:xs.length<=1000) (h):eval (u9 (k+2)) (.bi .all (.cons jf .nil)) [y0 (.v (.tup xs)),y0 (.v (.int (n:Int)))] h= .ok (.v (.bl (xs.all (jh · n)))) h:=by
 rw [← zZ]
 refine zz ?_
 rw [Ac8,jf]
 have e:=xf (F:=(u9 (k+2))) (cap:= [1]) (it:= .seq (.var 0)) (elt:= .call "is_below" (.cons (.var 0) (.cons (.var 1) .nil))) (Y:= [some (.v (.tup xs)),some (.v (.int n))]) (h:=h) id (fun x=> .bl (jh x n)) xs (by rw [List.map_id];exact zce rfl) c fun x b=>⟨.v (.bl (jh x n)),by
  have:=Jw k x n h (QF a x b)
  simp_all [id,this],rfl⟩
 exact e
def zbi (k)(q:Od n o) (i:n<=4) (h):call prog (k+3) "is_renaming" [.v (.tup (zdy o)),.v (.int (n:Int))] h= .ok (.v (.bl true)) h:=by
 rw [Ga rfl _ _ _ rfl]
 have f:(zdy o).length=n:=by rw [Aa,q.len]
 have g:(zdy o).all (jh · n)=true:=by
  rw [An5,Ad7]
  intro x e
  have:=Ab3.mp (q.p.mem_iff.mp e)
  simp [jh,this]
 have a:=xah (k:=k) (n:=n) (xac o) (by omega) h
 rw [g]at a
 have c:Pg [] (o.map λ(x:Nat)=> x)=n:=by
  rw [jbs _ _ (nd_int.mpr (q.p.nodup_iff.mpr Ai8)) (λ_ _=>Ac0),Aa,q.len]
 have b:(o.map λ(x:Nat)=>(x:Int)).length<1000:=by rw [Aa,q.len];omega
 simp only [GP]
 rw [Za (by simp_all [jbX,Ty.le_self,ql,f,jM,decide_true]),wb (Xc rfl ?_)]
 ·exact Gb _ _ _ rfl
 ·rw [eval]
  have a:eval (u9 (k+2)) (.bi .all (.cons jf .nil)) (List.map y0 [W.v (D.tup (zdy o)),W.v (D.int ↑n)]++Ab0 (2-2) u0) h=_:=a
  rw [a]
  have d:(W.v (D.tup (zdy o))).tup? =y0 (zdy o):=rfl
  simp_all [d,zw,b,if_true,c,wk,decide_true]
noncomputable def kF (x:Nat):Nat->List Nat->Nat->Nat
 | _,[],v=>v
 | i,p::ps,v=>kF x (i+1) ps (if x.testBit i then v ||| 2 ^ p else v)
theorem xan (x k): ∀ ps i v,(kF x i ps v).testBit k=k9↔(v.testBit k=k9\/ ∃j,ps[j]? =y0 k/\x.testBit (i+j)=k9)
 | [],i,v=>by simp [kF]
 | p::ps,i,v=>by
  rw [kF,xan x k ps]
  have e:(if x.testBit i=k9 then v ||| 2 ^ p else v).testBit k=k9↔(v.testBit k=k9\/(p=k/\x.testBit i=k9)):=by
   by_cases q:x.testBit i=k9
   ·simp [q,Al]
   ·simp [q]
  rw [e,or_assoc]
  refine or_congr Iff.rfl ⟨?_,?_⟩
  ·rintro (⟨b,a⟩ | ⟨j,b,a⟩)
   ·exact⟨0,by simp [b],by simpa using a⟩
   ·exact⟨j+1,by simpa using b,by rw [show i+(j+1)=i+1+j by omega];exact a⟩
  ·rintro ⟨j,b,a⟩
   cases j with
   | zero=>exact .inl ⟨by simpa using b,by simpa using a⟩
   | succ j=>exact .inr ⟨j,by simpa using b,by rw [show i+1+j=i+(j+1)by omega];exact a⟩
def jaE (h:a<o.length):o[a]? =y0 (pm o a):=by
 rw [Wr h,Aa4 h]
def xc5 (q:Od n o) (x):kF x 0 o 0=kM n o x:=by
 have f: ∀k,(0:Nat).testBit k=k9↔False:=λk=>by simp
 refine qbW q (Ai7 _ λk h=> ?_) λa g=> ?_
 ·refine eq_false_of_ne_true λe=> ?_
  rw [xan,f,false_or]at e
  obtain⟨j,b,c⟩:=e
  have:=Ab3.mp (q.p.mem_iff.mp (Ak4 b))
  omega
 ·rw [Ad4,xan,f,false_or]
  constructor
  ·rintro ⟨j,b,c⟩
   have d:=(Ac2.mp b).1
   rw [jaE d,Ae5.injEq,q.inj (by rw [← q.len];exact d) g]at b
   rw [Ag8,b]at c
   exact c
  ·exact λe=>⟨a,jaE (by rw [q.len];exact g),by rw [Ag8];exact e⟩
theorem jaq {x:Nat}(h): ∀ c (i v:Nat) a b,(∀ p∈c,p<=1000)-> ∃f g,
 Gr (Gp [3,4] y9) (λY h=>execs F xh Y h) (KM i (zdy c)) [y0 (.v (.int (x:Int))),y0 w,y0 (.v (.int (v:Int))),a,b] h= .next [y0 (.v (.int (x:Int))),y0 w,y0 (.v (.int ((kF x i c v:Nat):Int))),f,g] h
 | [],i,v,a,b,_=>⟨a,b,rfl⟩
 | p::c,i,v,a,b,j=>by
  obtain⟨f,g,e⟩:=jaq h c (i+1) (if x.testBit i then v ||| 2 ^ p else v) (y0 (.v (.int i))) (y0 (.v (.int p))) λq n=>j q (Aa1 _ n)
  refine⟨f,g,?_⟩
  have l:KZ ((x / 2 ^ i:Nat)) 1=y0 (((x.testBit i).toNat:Nat):Int):=by
   rw [show 1=((1:Nat):Int)from rfl,Xn,xI]
  have m:=J7 p (by have:=j p Aa3;omega)
  have k:=xC v (2 ^ p)
  have d:Gu F (.bin .band (.bin .shr (.var 0) (.var 3)) (.int 1)) [y0 (.v (.int x)),y0 w,y0 (.v (.int v)),y0 (.v (.int i)),y0 (.v (.int p))] h= .ok (x.testBit i) h:=by
   unfold Gu
   simp only [eval,Gi,Gj,R.bind_ok,Gy,wA,xm,l,R.of_some,zW]
   cases x.testBit i<;>rfl
  rw [show KM i (zdy (p::c))= .tup [.int i,.int p]::KM (i+1) (zdy c)from rfl]
  rw [xa (Y1:= [y0 (.v (.int x)),y0 w,y0 (.v (.int v)),y0 (.v (.int i)),y0 (.v (.int p))]) rfl ?_,e]
  ·rfl
  ·simp only [xh]
   rw [zb]
   by_cases q:x.testBit i=k9
   ·rw [q]at d
    rw [qA d,if_pos q]
    simp_all [m,wE,k]
   ·rw [eq_false_of_ne_true q]at d
    rw [xU d,if_neg q]
    rfl
def Od.small (q:Od n o) (b:n<=4): ∀p∈o,p<=1000:=λp a=>by
 have:=Ab3.mp (q.p.mem_iff.mp a)
 omega
def qcH (k)(q:Od n o) (a:n<=4) (x:Nat) (h):call prog (k+1) "renamed_kind" [.v (.int (x:Int)),.v (.tup (zdy o))] h= .ok (.v (.int ((kM n o x:Nat):Int))) h:=by
 rw [Ga rfl _ _ _ rfl]
 obtain⟨c,b,e⟩:=jaq h o 0 0 u0 u0 (q.small a)
 rw [xc5 q]at e
 refine fx (by simp_all [];rfl) ?_
 rw [za (by
  rw [exec]
  show R.toO (.ok (KM 0 (zdy o)) h) _=_
  rw [R.toO_ok];exact e)]
 simp_all []
def zcw (q:Od n o) (t):Wf.tieM n ((Wf.pairsM n t).map λp=>(pm o p.1,pm o p.2))=tK n o t:=by
 have c:Wf.inB n ((Wf.pairsM n t).map λp=>(pm o p.1,pm o p.2)):=λr g=>by
  obtain⟨p,d,rfl⟩:=Ab9.mp g
  have:=Wf.inB_pairsM n t p d
  exact⟨q.lt this.1,q.lt this.2⟩
 refine jbH q (Wf.tieM_lt c) λa b j c=> ?_
 rw [Wf.tieM_bit,Ad4,Af]
 constructor
 ·rintro ⟨r,g,e⟩
  obtain⟨p,d,rfl⟩:=Ab9.mp g
  have f:=Wf.inB_pairsM n t p d
  obtain⟨i,h⟩:=XD (q.lt f.2) (q.lt c) (of_decide_eq_true e)
  rw [q.inj f.1 j]at i
  rw [q.inj f.2 c]at h
  obtain⟨k,m,l,rfl⟩:=Wf.mem_pairsM.mp d
  rw [← i,←h,Wf.place_eq];exact l
 ·exact λe=>⟨(pm o a,pm o b),Ab9.mpr ⟨(a,b),Wf.mem_pairsM.mpr ⟨a*n+b,Wf.place_lt j c,e,by rw [Wf.place_div c,Wf.place_mod c]⟩,rfl⟩,decide_eq_true rfl⟩
def qaD (q:Od n o)(b:a<n):atI (zdy o) (a:Int)=y0 (.int ((pm o a:Nat):Int)):=jbG o a (by rw [q.len];exact b)
def xc4 (k)(q:Od n o) (m:n<=4) (t:Nat) (h):call prog (k+2) "renamed_tie" [.v (.int (t:Int)),.v (.tup (zdy o))] h= .ok (.v (.int ((tK n o t:Nat):Int))) h:=by
 rw [Ga rfl _ _ _ rfl]
 have j:(zdy o).length=n:=by rw [Aa,q.len]
 simp only [GS]
 refine fx (by simp_all [ql,j];rfl) ?_
 have f:Wf.inB n ((Wf.pairsM n t).map λp=>(pm o p.1,pm o p.2)):=λr i=>by
  obtain⟨p,a,rfl⟩:=Ab9.mp i
  have:=Wf.inB_pairsM n t p a
  exact⟨q.lt this.1,q.lt this.2⟩
 have g:eval (u9 (k+1)) Jj [y0 (.v (.int (t:Int))),y0 (.v (.tup (zdy o))),y0 (.v (.int (n:Int)))] h= .ok (.own ((Wf.pairsM n t).map λp=>pD (pm o p.1,pm o p.2))) h:=by
  rw [Jj]
  refine Z3 pD _ (Wf.pairsM n t) (zN (by
   have:=jq k n t h (by omega)
   simp_all [this])) ?_ λp a=> ?_
  ·have c:=jx n t
   have s:=qk (n:=n) (by omega)
   omega
  ·have b:=Wf.inB_pairsM n t p a
   exact⟨[y0 (.v (.int (p.1:Nat))),y0 (.v (.int (p.2:Nat))),y0 (.v (.tup (zdy o)))],.v (pD (pm o p.1,pm o p.2)),rfl,by
    have d:=qaD q b.1
    have l:=qaD q b.2
    simp_all [ix_tup,d,l]
    rfl,rfl⟩
 rw [wb (h1:=h) (Xc rfl ?_)]
 ·exact Gb _ _ _ rfl
 ·rw [← zcw q t]
  refine jbZ (qaH (e:= .var 2) (h1:=h) rfl (qaH g (jcN _ _ _))) ?_
  exact qcM k n _ _ (by rw [Ac8];rfl) h (by omega) f
def Od.mem (q:Od n o){p:Nat}(a:p∈o):p<n:=Ab3.mp (q.p.mem_iff.mp a)
def wR (k)(q:Od n o) (a:n<=4) (ks ts) (f:ks.length<=1000) (d:ts.length<=1000) (nm) (h):call prog (k+4) "renamed" [.v nm,.v (Xj n ks ts),.v (.tup (zdy o))] h= .ok (.v (Xj n (ks.map (kM n o)) (ts.map (tK n o)))) h:=by
 rw [Ga rfl _ _ _ rfl]
 simp only [Kl]
 have b:=zbi k q a h
 refine fx (by simp_all [];rfl) ?_
 rw [Za (by simp_all [b])]
 have e:eval (u9 (k+3)) Zs [y0 (.v nm),y0 (.v (Xj n ks ts)),y0 (.v (.tup (zdy o))),y0 (.v (.int (n:Int))),y0 (.v (.tup (zdy ks))),y0 (.v (.tup (zdy ts))),u0,u0] h= .ok (.own (ks.map λx=> .int ((kM n o x:Nat):Int))) h:=by
  rw [Zs]
  refine xf (λ(x:Nat)=> .int (x:Int)) _ ks (zce rfl) f λx _=>⟨.v (.int ((kM n o x:Nat):Int)),?_,rfl⟩
  have:=qcH (k+2) q a x h
  simp_all [this]
 refine fx (by simp_all [e,JE];rfl) ?_
 have c:eval (u9 (k+3)) Xs [y0 (.v nm),y0 (.v (Xj n ks ts)),y0 (.v (.tup (zdy o))),y0 (.v (.int (n:Int))),y0 (.v (.tup (zdy ks))),y0 (.v (.tup (zdy ts))),y0 (.v (.tup (ks.map λx=> .int ((kM n o x:Nat):Int)))),u0] h= .ok (.own (ts.map λx=> .int ((tK n o x:Nat):Int))) h:=by
  rw [Xs]
  refine xf (λ(x:Nat)=> .int (x:Int)) _ ts (zce rfl) d λx _=>⟨.v (.int ((tK n o x:Nat):Int)),?_,rfl⟩
  have:=xc4 (k+1) q a x h
  simp_all [this]
 refine fx (by simp_all [c,JE];rfl) ?_
 rw [wb (w:= .v (Xj n (ks.map (kM n o)) (ts.map (tK n o)))) (h1:=h) (Xc rfl (by
  simp_all []
  simp only [Xj,zdy,Ac8,Function.comp_def]))]
 exact Gb _ _ _ rfl
def bD (b:Bool):D:= .int (b.toNat:Nat)
theorem XX (h) (w): ∀(m t:Nat) i a x y,a.length+m<=1000000-> ∃z c b,
 Gr (Gp [3] k9) (λY h=>execs F Zl Y h) (((Aa0 m).map λj=>D.int ((i+j:Nat):Int))) [y0 (.v (.int (t:Int))),y0 w,y0 (.own a),x,y] h=
  .next [z,y0 w,y0 (.own (a++(Wf.bitsB t m).map bD)),c,b] h
 | 0,t,i,a,x,y,_=>⟨y0 (.v (.int t)),x,y,by simp [Wf.bitsB]⟩
 | m+1,t,i,a,x,y,n=>by
  obtain⟨z,c,b,e⟩:=XX h w m (t / 2) (i+1) (a++ [bD (t.testBit 0)]) (y0 (.v (.int i))) (y0 (.v (bD (t.testBit 0)))) (by simp;omega)
  refine⟨z,c,b,?_⟩
  have k:((Aa0 (m+1)).map λj=>D.int (i+j:Nat))=D.int i::((Aa0 m).map λj=>D.int (i+1+j:Nat)):=by
   rw [Ag]
   simp [Function.comp_def,Int.add_comm,Int.add_left_comm]
  rw [k,xa rfl ?_,e]
  ·have:(Wf.bitsB t (m+1))=t.testBit 0::Wf.bitsB (t / 2) m:=by
    unfold Wf.bitsB
    rw [Ag]
    simp [Function.comp_def,Nat.testBit_succ]
   rw [this]
   simp
  ·have f:(0:Int)<2/\ 2<xd5:=by rw [G8];decide
   have g:a.length<LIM:=by rw [Gk];omega
   have d: t / 2=((t / 2:Nat):Int):=rfl
   have l:D.int (t % 2)=bD (t.testBit 0):=by
    have:t % 2=(t.testBit 0).toNat:=by have:=Wf.bit_nat t 0;simpa using this
    unfold bD
    rw [← this];rfl
   simp only [Zl,execs,exec,eval,Gg,Gi,Gj,R.bind_ok,Qj,f,and_self,if_true,R.toO_ok,setTup,GD,O.seq_next,W.d_v,g,d,l]
def XC (k t m:Nat) (h) (a:m<=1000):call prog (k+1) "_law_marks" [.v (.int (t:Int)),.v (.int (m:Int))] h= .ok (.own ((Wf.bitsB t m).map bD)) h:=by
 rw [Ga rfl _ _ _ rfl]
 obtain⟨z,c,b,e⟩:=XX h (.v (.int m)) m t 0 [] u0 u0 (by simp;omega)
 simp only [Kc,execs,exec,Kd,eval,Gq,R.bind_ok,R.toO_ok,O.seq_next,Gw,Aa9,Ad0,Ah8,Af3,Ac7,Aj0,GD]
 rw [Jd (m:=m) (by simp [Gi]) (by omega),R.toO_ok]
 simp only [Ag8]at e
 rw [e]
 simp
def wY (xs:List α) (a:Nat):cut xs u0 (y0 (a:Int))=xs.take a:=by
 have b: ¬((a:Int)<0):=by omega
 have e:cut xs u0 (y0 a)=xs.take (min a xs.length):=by simp [cut,sIx,b]
 rw [e]
 by_cases h:a<=xs.length
 ·rw [Al2 h]
 ·rw [Nat.min_eq_right (by omega),Ap2,List.take_of_length_le (by omega)]
def qaY (xs:List α) (a) (h:a<=xs.length):cut xs (y0 (a:Int)) u0=xs.drop a:=by
 have b: ¬((a:Int)<0):=by omega
 simp [cut,sIx,b,Al2 h,←Ai9]
def Zh (i) (m) (h:0<m): ∃a:Nat,a<m/\i % (m:Int)=(a:Int):=by
 have d:=Int.emod_nonneg i (b:= m) (by omega)
 have c:=Int.emod_lt_of_pos i (b:= m) (by omega)
 exact⟨(i % m).toNat,by omega,by omega⟩
def jr (i j) (a:0<j) (h1:j<1000):Gn .fdiv i j=y0 (i / j):=by
 have:0<j/\j<xd5:=by rw [G8];omega
 show(if _ then _ else _)=_
 rw [if_pos this]
def jn (i j) (a:0<j):Gn .mod i j=y0 (i % j):=by
 show(if _ then _ else _)=_
 rw [if_pos a]
def qW (k) (x) (h):call prog (k+1) "_law_whole" [.v (.int (x:Int))] h= .ok (.v (.bl true)) h:=by
 exact Gb _ _ _ rfl
def xcc (k) (ns:List Int) (i:Nat) (h):call prog (k+1) "_law_nth" [.v (.lst (ns.map .int)),.v (.int (i:Int))] h= .ok (.v (.int (ns.getD i 0))) h:=by
 rw [Ga rfl _ _ _ rfl]
 simp only [Kq]
 by_cases q:i<ns.length
 ·have e:=Jl (ns.map D.int) i (by simpa using q)
  rw [Ad1,Aa4 q]at e
  have a: i<((ns.map D.int).length:Int):=by rw [Aa];omega
  have e:atI (ns.map D.int) i=y0 (.int ns[i]):=e
  rw [Wj (w:= .v (.int ns[i])) (by simp_all [qI,jd,decide_eq_true a]) (by simp_all [Xr,e]),Ac1,Aa4 q]
  exact Gb _ _ _ rfl
 ·have a: ¬ i<((ns.map D.int).length:Int):=by rw [Aa];omega
  rw [Za (by simp_all [qI,jd,decide_eq_false a]),Ac1,List.getElem?_eq_none (by omega)]
  simp_all []
  rfl
def xl (i m):((Aa0 (m+1)).map λj=>D.int ((i+j:Nat):Int))=D.int (i:Nat)::((Aa0 m).map λj=>D.int ((i+1+j:Nat):Int)):=by
 rw [Ag]
 simp [Function.comp_def,Int.add_comm,Int.add_left_comm]
theorem Qx (g) (f): ∀l:List Nat,((l.filter g).map f).sum=(l.map λa=>(g a).toNat*f a).sum
 | []=>rfl
 | a::l=>by
  rw [Ah7,Aa9,Af7,←Qx g f l]
  cases g a<;>simp
def WY (t m i) (a:i<m):atI ((Wf.bitsB t m).map bD) (i:Int)=y0 (bD (t.testBit i)):=by
 rw [Jl _ _ (by simpa [Wf.bitsB_length]using a),Ad1,Wf.bitsB_get a];rfl
def jbB (b) (h):Gz .eq (.v (bD b)) (.v (.int 1)) h=y0 b:=by
 cases b<;>simp [bD]
noncomputable abbrev zd5 (n:Nat) (ks ts:List Nat) (o:List Nat) (f c b d e a:Option W):Sl:= [y0 (.v (Xj n ks ts)),y0 (.v (.tup (zdy o))),y0 (.v (.int (n:Int))),y0 (.v (.tup (zdy ks))),y0 (.v (.tup (zdy ts))),f,c,b,d,e,a]
section
variable {n:Nat}{o:List Nat}(q:Od n o) (hn:n<=4)
include q hn
theorem qcw (h): ∀ l b f c,b.length+l.length<=1000-> ∃g p,
 Gr (Gp [6] k9) (λY h=>execs (u9 (k+1)) qt Y h) (zdy l) (zd5 n ks ts o (y0 (.own (zdy b))) f c u0 u0 u0) h= .next (zd5 n ks ts o (y0 (.own (zdy (b++l.map (kM n o))))) g p u0 u0 u0) h
 | [],b,f,c,_=>⟨f,c,by simp⟩
 | x::l,b,f,c,v=>by
  rw [Ab4]at v
  obtain⟨g,p,e⟩:=qcw h l (b++ [kM n o x]) (y0 (.v (.int x))) (y0 (.v (.lst ((Wf.bitsB x n).map bD)))) (by simp;omega)
  refine⟨g,p,?_⟩
  have s:=XC k x n h (by omega)
  have u:(zdy b).length<LIM:=by rw [Gk,Aa];omega
  rw [show zdy (x::l)= .int x::zdy l from rfl,xa rfl ?_,e,Af1]
  ·rfl
  ·simp only [qt]
   refine(za (by simp_all [s];rfl)).trans ?_
   have r:eval (u9 (k+1)) Qs (zd5 n ks ts o (y0 (.own (zdy b))) (y0 (.v (.int x))) (y0 (.v (.lst ((Wf.bitsB x n).map bD)))) u0 u0 u0) h= .ok (.own (((Aa0 n).filter x.testBit).map λa=> .int ((2 ^ pm o a:Nat)))) h:=by
    rw [Qs]
    refine zM x.testBit _ rfl (by omega) λi m=>⟨?_,.v (.int ((2 ^ pm o i:Nat))),?_,rfl⟩
    ·have d:=WY x n i m
     simp_all [Xr,d,jbB]
    ·have d:=qaD q m
     have w:=J7 (pm o i) (by have:=q.lt m;omega)
     simp_all [ix_tup,d,w]
   have eq:(((Aa0 n).filter x.testBit).map λa=>D.int ((2 ^ pm o a:Nat)))=zdy (((Aa0 n).filter x.testBit).map λa=>2 ^ pm o a):=by rw [zdy,Ac8];rfl
   have j:(zdy (((Aa0 n).filter x.testBit).map λa=>2 ^ pm o a)).length<=LIM:=by
    rw [Gk,Aa,Aa]
    exact Ac (Ae _ _) (by simp;omega)
   rw [eq]at r
   have y:(((Aa0 n).filter x.testBit).map λa=>2 ^ pm o a).sum=kM n o x:=Qx _ _ _
   have t:zdy (b++ [kM n o x])=zdy b++ [.int ((kM n o x:Nat))]:=by simp
   rw [t]
   simp_all [r,qJ,j,if_true,wC,y,u]
theorem xcn (h): ∀ l a f j b,a.length+l.length<=1000-> ∃s y c,
 Gr (Gp [9] k9) (λY h=>execs (u9 (k+1)) Js Y h) (zdy l) (zd5 n ks ts o x5 x6 f (y0 (.own (zdy a))) j b) h= .next (zd5 n ks ts o x5 x6 s (y0 (.own (zdy (a++l.map (tK n o))))) y c) h
 | [],a,f,j,b,_=>⟨f,j,b,by simp⟩
 | t::l,a,f,j,b,J=>by
  rw [Ab4]at J
  obtain⟨s,y,c,e⟩:=xcn h l (a++ [tK n o t]) (y0 (.v (.lst ((Wf.bitsB t (n*n)).map bD)))) (y0 (.v (.int (t:Int)))) (y0 (.v (.lst ((Wf.pairsM n t).map pD)))) (by simp;omega)
  refine⟨s,y,c,?_⟩
  have E:=qk (n:=n) (by omega)
  have B:=XC k t (n*n) h (by omega)
  have w:=wc n n (by omega)
  have I:(zdy a).length<LIM:=by rw [Gk,Aa];omega
  rw [show zdy (t::l)= .int (t:Int)::zdy l from rfl,xa (Y1:=zd5 n ks ts o x5 x6 f (y0 (.own (zdy a))) (y0 (.v (.int (t:Int)))) b) rfl ?_,e,Af1]
  ·rfl
  ·simp only [Js]
   refine(za (by simp_all [w,B];rfl)).trans ?_
   have u:eval (u9 (k+1)) zt (zd5 n ks ts o x5 x6 (y0 (.v (.lst ((Wf.bitsB t (n*n)).map bD)))) (y0 (.own (zdy a))) (y0 (.v (.int (t:Int)))) b) h= .ok (.own ((Wf.pairsM n t).map pD)) h:=by
    rw [zt,Wf.pairsM,Ac8]
    refine zM t.testBit _ (by simp_all [w]) (by omega) λi v=>⟨?_,.v (pD (i / n,i % n)),?_,rfl⟩
    ·have m:=WY t (n*n) i v
     simp_all [Xr,m,jbB]
    ·have K:(0:Int)<(n:Int)/\(n:Int)<xd5:=by
      rw [G8]
      have:=Wf.pos_of_lt v
      omega
     simp_all [Qj,K,and_self,if_true]
     rfl
   rw [za (xb4 u rfl)]
   have d:eval (u9 (k+1)) Wk (zd5 n ks ts o x5 x6 (y0 (.v (.lst ((Wf.bitsB t (n*n)).map bD)))) (y0 (.own (zdy a))) (y0 (.v (.int (t:Int)))) (y0 (.v (.lst ((Wf.pairsM n t).map pD))))) h= .ok (.own ((Wf.pairsM n t).map λp=> .int ((2 ^ tP n o p:Nat):Int))) h:=by
    rw [Wk]
    refine Z3 pD _ (Wf.pairsM n t) (zcQ rfl) (by have:=jx n t;omega) λp A=> ?_
    have g:=Wf.inB_pairsM n t p A
    refine⟨[y0 (.v (.int (p.1:Nat))),y0 (.v (.int (p.2:Nat))),y0 (.v (.tup (zdy o))),y0 (.v (.int (n:Int)))],.v (.int ((2 ^ tP n o p:Nat):Int)),rfl,?_,rfl⟩
    have m:=qaD q g.1
    have u:=qaD q g.2
    have C:=q.lt g.1
    have l2:=q.lt g.2
    have H:Gn .mul ((pm o p.1:Nat):Int) (n:Int)=y0 ((pm o p.1*n:Nat):Int):=wc _ n (by omega)
    have G:((pm o p.1*n:Nat):Int)+((pm o p.2:Nat):Int)=((tP n o p:Nat):Int):=rfl
    have x:=J7 (tP n o p) (by
     have:=Wf.place_lt C l2
     unfold tP
     omega)
    simp_all [ix_tup,m,u,H,Qc,G,x]
   have eq:((Wf.pairsM n t).map λp=>D.int ((2 ^ tP n o p:Nat):Int))=zdy ((Wf.pairsM n t).map λp=>2 ^ tP n o p):=by rw [zdy,Ac8];rfl
   have r:(zdy ((Wf.pairsM n t).map λp=>2 ^ tP n o p)).length<=LIM:=by
    rw [Gk,Aa,Aa]
    have:=jx n t
    omega
   rw [eq]at d
   have z:((Wf.pairsM n t).map λp=>2 ^ tP n o p).sum=tK n o t:=by
    rw [Wf.pairsM,Ac8]
    exact Qx _ _ _
   have F:zdy (a++ [tK n o t])=zdy a++ [.int ((tK n o t:Nat):Int)]:=by simp
   rw [F,zb]
   have d:eval (u9 (k+1)) Wk (GD (zd5 n ks ts o x5 x6 (y0 (.v (.lst ((Wf.bitsB t (n*n)).map bD)))) (y0 (.own (zdy a))) (y0 (.v (.int (t:Int)))) b) 10 (.v (.lst ((Wf.pairsM n t).map pD)))) h=_:=d
   simp only [GD]at d ⊢
   simp_all [d,qJ,r,if_true,wC,z,I]
def xcU (k) (ks ts) (j:ks.length<=1000) (f:ts.length<=1000) (h):call prog (k+2) "_law_led" [.v (Xj n ks ts),.v (.tup (zdy o))] h= .ok (.v (Xj n (ks.map (kM n o)) (ts.map (tK n o)))) h:=by
 rw [Ga rfl _ _ _ rfl]
 obtain⟨c,b,g⟩:=qcw q hn h ks [] u0 u0 (by simpa using j)
 obtain⟨e,d,a,i⟩:=xcn q hn h ts [] b u0 u0 (by simpa using f)
 simp only [Ks]
 refine fx (by simp_all [];rfl) ?_
 refine fx (by simp_all [];rfl) ?_
 rw [za (by
  simp only [exec,R.toO_ok]
  exact g)]
 refine fx (by simp_all [];rfl) ?_
 rw [za (Y1:=zd5 n ks ts o (y0 (.own (zdy ([]++ks.map (kM n o))))) c e (y0 (.own (zdy ([]++ts.map (tK n o))))) d a) (by
  simp only [exec,Gj,Ah5,K8,R.of_some,R.toO_ok]
  exact i)]
 rw [Af3,Af3]
 simp_all [qQ]
end
theorem Jq: ∀(xs ys),Gf (xs++ys)=(Gf xs&&Gf ys)
 | [],ys=>by simp [Gf]
 | x::xs,ys=>by simp only [Ah8,Gf,Jq xs ys,Bool.and_assoc]
def zbS (xs) (lo hi) (h):slD (.v (.tup xs)) lo hi h=okv (.tup (cut xs lo hi)) h:=rfl
inductive Ex where
 | name (t:Tx)
 | same
 | all
 | none
 | turned (a:Ex)
 | closed (a:Ex)
 | plus (a b:Ex)
 | less (a b:Ex)
 | both (a b:Ex)
 | joined (a b:Ex)
abbrev Z4:Tx:= [110,97,109,101]
abbrev jS:Tx:= [115,97,109,101]
abbrev jaN:Tx:= [97,108,108]
abbrev JZ:Tx:= [110,111,110,101]
abbrev WF:Tx:= [112,108,117,115]
abbrev JH:Tx:= [108,101,115,115]
abbrev WH:Tx:= [98,111,116,104]
abbrev Xq:Tx:= [106,111,105,110,101,100]
abbrev Wz:Tx:= [116,117,114,110,101,100]
abbrev xz:Tx:= [99,108,111,115,101,100]
noncomputable def jdK:Ex->D
 | .name t=> .tup [.str Z4,.str t]
 | .same=> .tup [.str jS]
 | .all=> .tup [.str jaN]
 | .none=> .tup [.str JZ]
 | .turned a=> .tup [.str Wz,jdK a]
 | .closed a=> .tup [.str xz,jdK a]
 | .plus a b=> .tup [.str WF,jdK a,jdK b]
 | .less a b=> .tup [.str JH,jdK a,jdK b]
 | .both a b=> .tup [.str WH,jdK a,jdK b]
 | .joined a b=> .tup [.str Xq,jdK a,jdK b]
noncomputable def Ex.wf (N:List Tx):Ex->Prop
 | .name t=>t∈N
 | .turned a=>a.wf N
 | .closed a=>a.wf N
 | .plus a b=>a.wf N/\b.wf N
 | .less a b=>a.wf N/\b.wf N
 | .both a b=>a.wf N/\b.wf N
 | .joined a b=>a.wf N/\b.wf N
 | _=>True
noncomputable def Ex.dp:Ex->Nat
 | .turned a=>a.dp+1
 | .closed a=>a.dp+1
 | .plus a b=>max a.dp b.dp+1
 | .less a b=>max a.dp b.dp+1
 | .both a b=>max a.dp b.dp+1
 | .joined a b=>max a.dp b.dp+1
 | _=>0
def qc0 (x y z:D):atI [x,y,z] 1=y0 y:=rfl
def zcT (x y z:D):atI [x,y,z] 2=y0 z:=rfl
theorem zL: ∀ts:List Tx,KJ (ts.map .str)=y0 ts
 | []=>rfl
 | t::ts=>by simp [KJ,zL ts]
def jaf (ts:List Tx):(ts.map D.str).all KL=true:=by simp
theorem xai (s): ∀ts:List Tx,inD (.str s) (ts.map .str)=v9 (s∈ts)
 | []=>rfl
 | t::ts=>by
  have a:=xai s ts
  simp only [inD]at a
  by_cases q:t=s
  ·subst q
   simp [inD]
  ·have b: ¬s=t:=λe=>q e.symm
   simp only [inD,Aa9,Ag2,a,Ab7,b,false_or]
   simp [q]
def xco (xs:List α) (n:Nat):cut xs (y0 (n:Int)) u0=xs.drop n:=by
 have a: ¬((n:Int)<0):=by omega
 simp only [cut,sIx,a,if_false,Af6]
 by_cases q:n<=xs.length
 ·rw [Al2 q,List.take_of_length_le (by simp)]
 ·rw [Nat.min_eq_right (by omega),List.drop_of_length_le (Aa5 _),List.drop_of_length_le (by omega),List.take_nil]
def QK (i j:Nat) (h):Gz .eq (.v (.int (i:Int))) (.v (.int (j:Int))) h=y0 (v9 (i=j)):=by
 rw [wk]
 congr 1
 exact decide_eq_decide.mpr (by omega)
def WO (s:Tx) (ts:List Tx) (w:W) (h:AH) (a:w.seq? h=y0 (ts.map .str)) (h2:w.str? =u0):Pe (.v (.str s)) w h=y0 (v9 (s∈ts)):=by
 unfold Pe
 simp only [h2,W.str?,W.d_v,a,KL,jaf,Aj3,if_true,xai]
structure Nm (ts:List Tx):Prop where
 nd:ts.Nodup
abbrev jdx (ts:List Tx):D:= .tup (ts.map .str)
abbrev wD (K T:List Tx):D:= .tup [jdx K,jdx T]
end M
namespace Wf
def wr (g:Nat->Nat->Bool):Nat->Nat->Nat->Bool
 | 0,a,b=>g a b
 | k+1,a,b=>wr g k a b||(wr g k a k&&wr g k k b)
end Wf
namespace M
def qdY (t:Tx) (ts:List Tx):Nat:=(Pi t ts).getD 0
theorem xq : ∀ {ts},t∈ts->Pi t ts=y0 (qdY t ts)/\qdY t ts<ts.length
 | y::b,h=>by
  unfold qdY
  by_cases q:y=t
  ·simp [Pi,q]
  ·have a:t∈b:=by
    rcases Ab7.mp h with e | e
    ·exact absurd e.symm q
    ·exact e
   obtain⟨e,l⟩:=xq a
   simp only [Pi,q,if_false,e,Option.map_some,Option.getD_some,Ab4]at l ⊢
   exact⟨trivial,by omega⟩
structure Wo where
 n:Nat
 K:List Tx
 T:List Tx
 ks:List Nat
 ts:List Nat
structure Wo.Ok (w:Wo):Prop where
 hK:w.K.length<=4
 hT:w.T.length<=4
 nm:Nm (w.K++w.T)
 wl:qdJ w.n w.K.length w.T.length w.ks w.ts
noncomputable def Wo.at (w:Wo) (t:Tx) (a b:Nat):Prop:=if t∈w.T then(w.ts.getD (qdY t w.T) 0).testBit (a*w.n+b)=k9 else a=b/\(w.ks.getD (qdY t w.K) 0).testBit a=k9
noncomputable def zdE (w:Wo):Ex->Nat->Nat->Prop
 | .name t,a,b=>w.at t a b
 | .same,a,b=>a=b
 | .all,_,_=>True
 | .none,_,_=>False
 | .turned e,a,b=>zdE w e b a
 | .closed e,a,b=> ∃t,t<2 ^ (w.n*w.n)/\(∀ x y,x<w.n->y<w.n->(t.testBit (x*w.n+y)=k9↔zdE w e x y))/\Wf.TC w.n t a b
 | .plus e f,a,b=>zdE w e a b\/zdE w f a b
 | .less e f,a,b=>zdE w e a b/\ ¬zdE w f a b
 | .both e f,a,b=>zdE w e a b/\zdE w f a b
 | .joined e f,a,b=> ∃c,c<w.n/\zdE w e a c/\zdE w f c b
def Is (w:Wo) (e:Ex) (v:Nat):Prop:=v<2 ^ (w.n*w.n)/\ ∀a b,a<w.n->b<w.n->(v.testBit (a*w.n+b)=k9↔zdE w e a b)
def WV (b:s<2 ^ (n*n)) (c:t<2 ^ (n*n)) (h: ∀x y,x<n->y<n->(s.testBit (x*n+y)=k9↔t.testBit (x*n+y)=k9)):s=t:=by
 refine Wf.eq_of_bits b c λk a=> ?_
 have:=h (k / n) (k % n) (Wf.div_lt_n a) (Wf.mod_lt_n a)
 rw [Wf.place_eq]at this
 exact Ad4.mpr this
def zx {w:Wo}{e:Ex}{v:Nat}(h:Is w e v){a b:Nat}:zdE w (.closed e) a b↔Wf.TC w.n v a b:=by
 refine⟨λ⟨t,lt,g,c⟩=> ?_,λc=>⟨v,h.1,h.2,c⟩⟩
 have:t=v:=WV lt h.1 λx y d f=>(g x y d f).trans (h.2 x y d f).symm
 exact this▸c
def qcn (a:s<2 ^ n) (b:t<2 ^ n):s ||| t<2 ^ n:=Ap a b
theorem Is.plus {w:Wo}{e f:Ex}{s t:Nat}(h:Is w e s) (g:Is w f t):Is w (.plus e f) (s ||| t):=⟨qcn h.1 g.1,λa b d c=>by
 rw [Ag9,Bool.or_eq_true,h.2 a b d c,g.2 a b d c];rfl⟩
theorem Is.both {w:Wo}{e f:Ex}{s t:Nat}(h:Is w e s) (g:Is w f t):Is w (.both e f) (s &&& t):=⟨Nat.and_lt_two_pow s g.1,λa b d c=>by
 rw [Al0,Aa7,h.2 a b d c,g.2 a b d c];rfl⟩
theorem Is.less {w:Wo}{e f:Ex}{s t:Nat}(h:Is w e s) (g:Is w f t):Is w (.less e f) (s-(s &&& t)):=⟨Ao6 (Nat.sub_le _ _) h.1,λa b d c=>by
 rw [Wf.sub_and_bit,Aa7,h.2 a b d c,Ao8,←Bool.not_eq_true,g.2 a b d c];rfl⟩
theorem Is.turned {w:Wo}{e:Ex}{s:Nat}(h:Is w e s):Is w (.turned e) (Wf.turnM w.n s):=⟨Wf.turnM_lt _ _,λa b d c=>by
 rw [Wf.turnM_bit (Wf.place_lt d c),Wf.place_div c,Wf.place_mod c,h.2 b a c d];rfl⟩
theorem Is.joined {w:Wo}{e f:Ex}{s t:Nat}(h:Is w e s) (g:Is w f t):Is w (.joined e f) (Wf.joinM w.n s t):=⟨Wf.joinM_lt _ _ _,λa b j i=>by
 rw [Wf.joinM_bit (Wf.place_lt j i),Wf.JB_place i,Af]
 refine⟨λ⟨c,d,q⟩=> ?_,λ⟨c,d,l,k⟩=> ?_⟩
 ·have d:=Ab3.mp d
  rw [Aa7]at q
  exact⟨c,d,(h.2 a c j d).mp q.1,(g.2 c b d i).mp q.2⟩
 ·refine⟨c,Ab3.mpr d,?_⟩
  rw [Aa7]
  exact⟨(h.2 a c j d).mpr l,(g.2 c b d i).mpr k⟩⟩
theorem Is.closed {w:Wo}{e:Ex}{s r:Nat}(h:Is w e s) (g:Wf.IsTC w.n s r):Is w (.closed e) r:=⟨g.lt,λa b d c=>(g.bit a b d c).trans (zx h).symm⟩
theorem Is.same (w:Wo):Is w .same (Wf.sameM w.n):=⟨Wf.sameM_lt _,λa b d c=>by rw [Wf.same_place d c,decide_eq_true_eq];rfl⟩
theorem Is.all (w:Wo):Is w .all (2 ^ (w.n*w.n)-1):=⟨Nat.sub_lt (Aj4 _) (by decide),λa b d c=>by
 rw [Nat.testBit_two_pow_sub_one,decide_eq_true (Wf.place_lt d c)]
 exact⟨λ_=>trivial,λ_=>rfl⟩⟩
theorem Is.none (w:Wo):Is w .none 0:=⟨Aj4 _,λa b d c=>by
 rw [Am9]
 exact⟨λh=>absurd h (by decide),λh=>h.elim⟩⟩
def Wo.words (w:Wo):D:=wD w.K w.T
def Wo.world (w:Wo):D:=Xj w.n w.ks w.ts
def QP (ts) (t) (h) (a:t∈ts) (b:ts.length<=1000):xbT .index (.v (jdx ts)) [.v (.str t)] h= .ok (.v (.int ((qdY t ts:Nat):Int))) h:=by
 show(R.of h ((y0 (ts.map D.str)).bind KJ)).bind _=_
 rw [Ah5,zL,R.of_some,R.bind_ok]
 show(R.of h (y0 t)).bind _=_
 rw [R.of_some,R.bind_ok,(xq a).1,R.of_some,R.bind_ok,if_pos (by rw [Gk];omega)]
def jaC (n x:Nat):List (Nat×Nat):=((Aa0 n).filter x.testBit).map λa=>(a,a)
def Z5 (n x):Wf.inB n (jaC n x):=λp c=>by
 obtain⟨a,b,rfl⟩:=Ab9.mp c
 have:=Ab3.mp (Ad8.mp b).1
 exact⟨this,this⟩
def zaV (k:a<n) (h:b<n):(Wf.tieM n (jaC n x)).testBit (a*n+b)=k9↔a=b/\x.testBit a=true:=by
 rw [Wf.tieM_bit,Af]
 refine⟨λ⟨p,l,e⟩=> ?_,λ⟨e,j⟩=> ?_⟩
 ·obtain⟨c,d,rfl⟩:=Ab9.mp l
  have f:=Ad8.mp d
  have d:=Ab3.mp f.1
  have e:=of_decide_eq_true e
  have i:=congrArg (· / n) e
  have g:=congrArg (· % n) e
  simp only [Wf.place_div d,Wf.place_div h,Wf.place_mod d,Wf.place_mod h]at i g
  subst i
  exact⟨g,f.2⟩
 ·subst e
  exact⟨(a,a),Ab9.mpr ⟨a,Ad8.mpr ⟨Ab3.mpr k,j⟩,rfl⟩,decide_eq_true rfl⟩
def jcT (n x:Nat) (l:n<=4) (h):eval F wg [a,b,c,y0 (.v (.int (n:Int))),y0 (.v (.int (x:Int)))] h= .ok (.own ((jaC n x).map pD)) h:=by
 rw [wg,QJ (λd=>match d with
  | .int i=>if x.testBit i.toNat then y0 (.tup [.int i,.int i])else u0
  | _=>u0) (Jd (m:=n) (by simp_all []) (by omega)) (by simp;rw [Gk];omega)]
 ·congr 2
  rw [List.filterMap_map,jaC,Ac8]
  induction Aa0 n with
  | nil=>rfl
  | cons y k f=>
   by_cases e:x.testBit y=k9
   ·simp [e,pD,f]
   ·simp [e,f]
 ·intro d g
  obtain⟨i,o,rfl⟩:=rng _ g
  have j:KZ ((x / 2 ^ i:Nat)) 1=y0 (((x.testBit i).toNat:Nat):Int):=by
   rw [show 1=((1:Nat):Int)from rfl,Xn,xI]
  refine⟨[y0 (.v (.int i)),y0 (.v (.int x))],x.testBit i,rfl,?_,?_⟩
  ·unfold Gu
   simp only [eval,Gi,Gj,R.bind_ok,Gy,wA,xm,j,R.of_some,zW]
   cases x.testBit i<;>rfl
  ·by_cases e:x.testBit i=k9
   ·simp [e,Gi]
   ·simp [e]
def zay (t) (ts) (h):Gz .mem (.v (.str t)) (.v (jdx ts)) h=y0 (v9 (t∈ts)):=WO t ts (.v (jdx ts)) h rfl rfl
def jD (k)(ok:w.Ok) (t) (g:t∈w.K++w.T) (h): ∃v,Is w (.name t) v/\call prog (k+4) "value_of_name" [.v w.words,.v w.world,.v (.str t)] h= .ok (.v (.int (v:Int))) h:=by
 rw [Ga rfl _ _ _ rfl]
 simp only [GB]
 show ∃v,_/\G7 _ (execs _ _ [y0 (.v (wD w.K w.T)),y0 (.v (Xj w.n w.ks w.ts)),y0 (.v (.str t)),u0,u0] h)=_
 have l:=ok.hK
 have j:=ok.hT
 by_cases q:t∈w.T
 ·have c:=(xq q).2
  refine⟨w.ts.getD (qdY t w.T) 0,⟨?_,λa b f e=> ?_⟩,?_⟩
  ·rw [Ac1,Aa4 (by rw [ok.wl.lt];exact c)]
   exact ok.wl.bt _ (Am7 _)
  ·show _↔w.at t a b
   rw [Wo.at,if_pos q]
  ·rw [wb,Gb _ _ _ rfl]
   rw [qA (h1:=h) (by simp_all [ix_tup,WB,zay,decide_eq_true q])]
   exact wb (Xc rfl (by simp only [eval,Gg,Gi,Gj,R.bind_ok,ix_tup,WB,zcT,R.of_some,jbq,if_true,QP w.T t h q (by omega)];rw [jbG _ _ (by rw [ok.wl.lt];exact c)];rfl))
 ·have d:=(Ae1.mp g).resolve_right q
  have c:=(xq d).2
  have i:=ok.wl.n4
  refine⟨Wf.tieM w.n (jaC w.n (w.ks.getD (qdY t w.K) 0)),⟨Wf.tieM_lt (Z5 _ _),λa b f e=> ?_⟩,?_⟩
  ·show _↔w.at t a b
   rw [Wo.at,if_neg q]
   exact zaV f e
  ·rw [za (Y1:= [y0 (.v (wD w.K w.T)),y0 (.v (Xj w.n w.ks w.ts)),y0 (.v (.str t)),u0,u0]) (h1:=h) (by simp_all [ix_tup,WB,zay,decide_eq_false q])]
   rw [za (Y1:= [y0 (.v (wD w.K w.T)),y0 (.v (Xj w.n w.ks w.ts)),y0 (.v (.str t)),y0 (.v (.int w.n)),u0]) rfl]
   rw [za (Y1:= [y0 (.v (wD w.K w.T)),y0 (.v (Xj w.n w.ks w.ts)),y0 (.v (.str t)),y0 (.v (.int w.n)),y0 (.v (.int ((w.ks.getD (qdY t w.K) 0:Nat))))]) (by simp only [exec,eval,Gg,Gi,Gj,R.bind_ok,ix_tup,jJ,qc0,R.of_some,jbq,if_true,QP w.K t h d (by omega)];rw [jbG _ _ (by rw [ok.wl.lk];exact c)];rfl)]
   rw [wb (Xc rfl ?_),Gb _ _ _ rfl]
   simp only [eval,Gg,Gi,Gj,R.bind_ok,jcT w.n _ i h,Aa9,Ad0,W.arg_v,W.arg_own,WC k w.n _ h (by omega) (Z5 _ _)]
def jb (s X) (h):Gu F (.cmp .eq (.var 1) (.str X)) [a,y0 (.v (.str s)),c] h= .ok (s==X) h:=by
 simp only [Gu,eval,Gi,Gj,R.bind_ok,Xy,R.of_some,GZ]
abbrev qdD (n:Nat) (s:Tx) (l:List D):Sl:= [y0 (.v (.int (n:Int))),y0 (.v (.str s)),y0 (.v (.lst l))]
def xaw (k n:Nat) (l) (h) (a:n<=4):call prog (k+5) "made" [.v (.int (n:Int)),.v (.str jS),.v (.lst l)] h= .ok (.v (.int ((Wf.sameM n:Nat):Int))) h:=by
 rw [Ga rfl _ _ _ rfl]
 simp only [GT]
 show G7 _ (execs _ _ (qdD n jS l) h)=_
 rw [Wj (jb _ _ _) (Xc rfl (by simp only [eval,Gg,Gi,Gj,R.bind_ok,Aa9,Ad0,W.arg_v,jcJ k n h (by omega)];rfl)),Gb _ _ _ rfl]
def jbg (k n:Nat) (l) (h) (a:n<=4):call prog (k+5) "made" [.v (.int (n:Int)),.v (.str jaN),.v (.lst l)] h= .ok (.v (.int ((2 ^ (n*n)-1:Nat):Int))) h:=by
 rw [Ga rfl _ _ _ rfl]
 simp only [GT]
 show G7 _ (execs _ _ (qdD n jaN l) h)=_
 rw [Za (jb _ _ _),Wj (jb _ _ _) (Xc rfl (by simp only [eval,Gg,Gi,Gj,R.bind_ok,Aa9,Ad0,W.arg_v,jbT (k+3) n h (by omega)];rfl)),Gb _ _ _ rfl]
def zao (k n:Nat) (l) (h):call prog (k+5) "made" [.v (.int (n:Int)),.v (.str JZ),.v (.lst l)] h= .ok (.v (.int ((0:Nat):Int))) h:=by
 rw [Ga rfl _ _ _ rfl]
 simp only [GT]
 rw [Za (jb _ _ _),Za (jb _ _ _),Wj (jb _ _ _) (Xc rfl rfl),Gb _ _ _ rfl]
 rfl
abbrev l2 (s t:Nat):List D:= [.int (s:Int),.int (t:Int)]
def xaR (k n s t:Nat) (h):call prog (k+5) "made" [.v (.int (n:Int)),.v (.str WF),.v (.lst (l2 s t))] h= .ok (.v (.int ((s ||| t:Nat):Int))) h:=by
 rw [Ga rfl _ _ _ rfl]
 simp only [GT]
 show G7 _ (execs _ _ (qdD n WF (l2 s t)) h)=_
 rw [Za (jb _ _ _),Za (jb _ _ _),Za (jb _ _ _),Wj (jb _ _ _) (Xc rfl (by simp only [eval,Gg,Gi,Gj,R.bind_ok,Xr,jJ,WB,R.of_some,Aa9,Ad0,W.arg_v,WI (k+3) s t h];rfl)),Gb _ _ _ rfl]
def zaM (k n s t:Nat) (h):call prog (k+5) "made" [.v (.int (n:Int)),.v (.str JH),.v (.lst (l2 s t))] h= .ok (.v (.int ((s-(s &&& t):Nat):Int))) h:=by
 rw [Ga rfl _ _ _ rfl]
 simp only [GT]
 show G7 _ (execs _ _ (qdD n JH (l2 s t)) h)=_
 rw [Za (jb _ _ _),Za (jb _ _ _),Za (jb _ _ _),Za (jb _ _ _),Wj (jb _ _ _) (Xc rfl (by simp only [eval,Gg,Gi,Gj,R.bind_ok,Xr,jJ,WB,R.of_some,Aa9,Ad0,W.arg_v,WQ (k+3) s t h];rfl)),Gb _ _ _ rfl]
def jaK (k n s t:Nat) (h):call prog (k+5) "made" [.v (.int (n:Int)),.v (.str WH),.v (.lst (l2 s t))] h= .ok (.v (.int ((s &&& t:Nat):Int))) h:=by
 rw [Ga rfl _ _ _ rfl]
 simp only [GT]
 show G7 _ (execs _ _ (qdD n WH (l2 s t)) h)=_
 rw [Za (jb _ _ _),Za (jb _ _ _),Za (jb _ _ _),Za (jb _ _ _),Za (jb _ _ _),Wj (jb _ _ _) (Xc rfl (by simp only [eval,Gg,Gi,Gj,R.bind_ok,Xr,jJ,WB,R.of_some,Aa9,Ad0,W.arg_v,qa6 (k+3) s t h];rfl)),Gb _ _ _ rfl]
def zV (k n s t:Nat) (h) (a:n<=4):call prog (k+5) "made" [.v (.int (n:Int)),.v (.str Xq),.v (.lst (l2 s t))] h= .ok (.v (.int ((Wf.joinM n s t:Nat):Int))) h:=by
 rw [Ga rfl _ _ _ rfl]
 simp only [GT]
 show G7 _ (execs _ _ (qdD n Xq (l2 s t)) h)=_
 rw [Za (jb _ _ _),Za (jb _ _ _),Za (jb _ _ _),Za (jb _ _ _),Za (jb _ _ _),Za (jb _ _ _),Wj (jb _ _ _) (Xc rfl (by simp only [eval,Gg,Gi,Gj,R.bind_ok,Xr,jJ,WB,R.of_some,Aa9,Ad0,W.arg_v,XI (k+2) n s t h (by omega)];rfl)),Gb _ _ _ rfl]
def ZW (k n s:Nat) (h) (a:n<=4):call prog (k+5) "made" [.v (.int (n:Int)),.v (.str Wz),.v (.lst [.int (s:Int)])] h= .ok (.v (.int ((Wf.turnM n s:Nat):Int))) h:=by
 rw [Ga rfl _ _ _ rfl]
 simp only [GT]
 show G7 _ (execs _ _ (qdD n Wz [.int s]) h)=_
 rw [Za (jb _ _ _),Za (jb _ _ _),Za (jb _ _ _),Za (jb _ _ _),Za (jb _ _ _),Za (jb _ _ _),Za (jb _ _ _),Wj (jb _ _ _) (Xc rfl (by simp only [eval,Gg,Gi,Gj,R.bind_ok,Xr,zcp,R.of_some,Aa9,Ad0,W.arg_v,ja4 k n s h (by omega)];rfl)),Gb _ _ _ rfl]
def zX (k n s) (h) (c:n<=4) (a:s<2 ^ (n*n)): ∃r,Wf.IsTC n s r/\call prog (k+5) "made" [.v (.int (n:Int)),.v (.str xz),.v (.lst [.int (s:Int)])] h= .ok (.v (.int (r:Int))) h:=by
 obtain⟨r,b,e⟩:=za6 (k+1) n s h c a
 refine⟨r,b,?_⟩
 rw [Ga rfl _ _ _ rfl]
 simp only [GT]
 show G7 _ (execs _ _ (qdD n xz [.int s]) h)=_
 rw [Za (jb _ _ _),Za (jb _ _ _),Za (jb _ _ _),Za (jb _ _ _),Za (jb _ _ _),Za (jb _ _ _),Za (jb _ _ _),Za (jb _ _ _),wb (Xc rfl (by simp only [eval,Gg,Gi,Gj,R.bind_ok,Xr,zcp,R.of_some,Aa9,Ad0,W.arg_v,e];rfl)),Gb _ _ _ rfl]
def zaQ (a:Gm F it Y h= .ok [] h):eval F (.comp tg one k cap it y9 c elt) Y h= .ok (.own []) h:=by
 rw [eval,a,R.bind_ok,if_pos (show [].length<=LIM from Ah2 _)]
 rfl
def jbp (b:Gm F it Y h= .ok [d] h) (e:eval F elt (GD (Ab0 k u0++cap.map λj=>Gi Y j) 0 (.v d)) h= .ok (.v y) h):eval F (.comp [0] k9 k cap it y9 c elt) Y h= .ok (.own [y]) h:=by
 have a: [d].length<=LIM:=by rw [Gk];simp
 rw [eval,b,R.bind_ok,if_pos a]
 simp only [Gv,Ko,Ae2,if_false,R.bind_ok,e,W.d_v,R.of_some]
def JX (e:Gm F it Y h= .ok [d1,d2] h) (b:eval F elt (GD (Ab0 k u0++cap.map λj=>Gi Y j) 0 (.v d1)) h= .ok (.v y1) h) (d:eval F elt (GD (Ab0 k u0++cap.map λj=>Gi Y j) 0 (.v d2)) h= .ok (.v y2) h):eval F (.comp [0] k9 k cap it y9 c elt) Y h= .ok (.own [y1,y2]) h:=by
 have a: [d1,d2].length<=LIM:=by rw [Gk];simp
 rw [eval,e,R.bind_ok,if_pos a]
 simp only [Gv,Ko,Ae2,if_false,R.bind_ok,b,d,W.d_v,R.of_some]
abbrev jdM (w:Wo) (d:D) (x:Option W):Sl:= [y0 (.v w.words),y0 (.v w.world),y0 (.v d),x]
def zv :Gm F (.seq (.slL (.var 2) (.int 1))) (jdM w (.tup (s::ds)) x) h= .ok ds h:=by
 have e:cut (s::ds) (y0 1) u0=ds:=xco (s::ds) 1
 refine zce ?_
 show(if sIx (s::ds).length 0 (y0 1)=0/\sIx (s::ds).length (s::ds).length u0=(s::ds).length then R.fail else R.ok (W.v (D.tup (cut (s::ds) (y0 1) u0))) h)=_
 rw [if_neg (λc=>by have:=c.1;simp [sIx]at this),e]
def Xl (a:jdK e= .tup (.str s::ds)) (b:(s==Z4)=y9)
 (h1:eval (u9 m) zQ (jdM w (.tup (.str s::ds)) u0) h= .ok (.own ys) h) (h2:call prog m "made" [.v (.int (w.n:Int)),.v (.str s),.v (.lst ys)] h= .ok (.v v) h):call prog (m+1) "value" [.v w.words,.v w.world,.v (jdK e)] h= .ok (.v v) h:=by
 rw [Ga rfl _ _ _ rfl,a]
 simp only [Ku]
 show G7 _ (execs _ _ (jdM w (.tup (.str s::ds)) u0) h)=_
 have d:Gu (u9 m) (.cmp .eq (.ix (.var 2) (.int 0)) (.str Z4)) (jdM w (.tup (.str s::ds)) u0) h= .ok y9 h:=by
  simp only [Gu,eval,Gi,Gj,R.bind_ok,ix_tup,xo,R.of_some,Xy,b,GZ]
 rw [Za d,za (Y1:=jdM w (.tup (.str s::ds)) (y0 (.v (.lst ys)))) (by rw [exec,h1];rfl)]
 have c:ixD (.v w.world) (.v (.int 0)) h=y0 (.int w.n):=rfl
 rw [wb (Xc rfl (by simp only [eval,Gg,Gi,Gj,R.bind_ok,c,ix_tup,xo,R.of_some,Aa9,Ad0,W.arg_v,h2];rfl)),Gb _ _ _ rfl]
def Zk (q:call prog m "value" [.v w.words,.v w.world,.v d] h= .ok (.v y) h):eval (u9 m) (.call "value" (.cons (.var 1) (.cons (.var 2) (.cons (.var 0) .nil)))) (GD (List.replicate 1 none++ [0,1].map fun j=>Gi (jdM w v none) j) 0 (.v d)) h= .ok (.v y) h:=by simp_all
def ZK {w:Wo}(ok:w.Ok) (h:AH): ∀(e:Ex) (m:Nat),e.dp+6<=m->e.wf (w.K++w.T)-> ∃v,Is w e v/\call prog m "value" [.v w.words,.v w.world,.v (jdK e)] h= .ok (.v (.int (v:Int))) h:=by
 have o:=ok.wl.n4
 intro e
 induction e with
 | name t=>
  intro m f wf
  obtain⟨k,rfl⟩: ∃k,m=k+5:=⟨m-5,by omega⟩
  obtain⟨v,p,e⟩:=jD k ok t wf h
  refine⟨v,p,?_⟩
  rw [Ga (d:=Ku) rfl _ _ _ rfl]
  simp only [Ku]
  show G7 _ (execs _ _ (jdM w (jdK (.name t)) u0) h)=_
  have q:Gu (u9 (k+4)) (.cmp .eq (.ix (.var 2) (.int 0)) (.str Z4)) (jdM w (jdK (.name t)) u0) h= .ok k9 h:=by
   simp only [Gu,eval,jdK,Gi,Gj,R.bind_ok,ix_tup,xo,R.of_some,Xy,GZ]
   rfl
  rw [Wj q (Xc rfl (by simp only [eval,Gg,jdK,Gi,Gj,R.bind_ok,ix_tup,WB,R.of_some,Aa9,Ad0,W.arg_v,e];rfl)),Gb _ _ _ rfl]
 | same=>
  intro m f wf
  obtain⟨k,rfl⟩: ∃k,m=k+5+1:=⟨m-6,by simp [Ex.dp]at f;omega⟩
  exact⟨_,Is.same w,Xl (e:= .same) rfl rfl (zaQ zv) (xaw k w.n _ h o)⟩
 | all=>
  intro m f wf
  obtain⟨k,rfl⟩: ∃k,m=k+5+1:=⟨m-6,by simp [Ex.dp]at f;omega⟩
  exact⟨_,Is.all w,Xl (e:= .all) rfl rfl (zaQ zv) (jbg k w.n _ h o)⟩
 | none=>
  intro m f wf
  obtain⟨k,rfl⟩: ∃k,m=k+5+1:=⟨m-6,by simp [Ex.dp]at f;omega⟩
  exact⟨_,Is.none w,Xl (e:= .none) rfl rfl (zaQ zv) (zao k w.n _ h)⟩
 | turned a c=>
  intro m f wf
  simp only [Ex.dp]at f
  obtain⟨k,rfl⟩: ∃k,m=k+5+1:=⟨m-6,by omega⟩
  obtain⟨s,i,j⟩:=c (k+5) (by omega) wf
  exact⟨_,i.turned,Xl (e:= .turned a) rfl rfl (jbp zv (Zk j)) (ZW k w.n s h o)⟩
 | closed a c=>
  intro m f wf
  simp only [Ex.dp]at f
  obtain⟨k,rfl⟩: ∃k,m=k+5+1:=⟨m-6,by omega⟩
  obtain⟨s,i,j⟩:=c (k+5) (by omega) wf
  obtain⟨r,x,u⟩:=zX k w.n s h o i.1
  exact⟨_,i.closed x,Xl (e:= .closed a) rfl rfl (jbp zv (Zk j)) u⟩
 | plus a b c g=>
  intro m f wf
  simp only [Ex.dp]at f
  obtain⟨k,rfl⟩: ∃k,m=k+5+1:=⟨m-6,by omega⟩
  obtain⟨s,i,j⟩:=c (k+5) (by omega) wf.1
  obtain⟨t,n,l⟩:=g (k+5) (by omega) wf.2
  exact⟨_,i.plus n,Xl (e:= .plus a b) rfl rfl (JX zv (Zk j) (Zk l)) (xaR k w.n s t h)⟩
 | less a b c g=>
  intro m f wf
  simp only [Ex.dp]at f
  obtain⟨k,rfl⟩: ∃k,m=k+5+1:=⟨m-6,by omega⟩
  obtain⟨s,i,j⟩:=c (k+5) (by omega) wf.1
  obtain⟨t,n,l⟩:=g (k+5) (by omega) wf.2
  exact⟨_,i.less n,Xl (e:= .less a b) rfl rfl (JX zv (Zk j) (Zk l)) (zaM k w.n s t h)⟩
 | both a b c g=>
  intro m f wf
  simp only [Ex.dp]at f
  obtain⟨k,rfl⟩: ∃k,m=k+5+1:=⟨m-6,by omega⟩
  obtain⟨s,i,j⟩:=c (k+5) (by omega) wf.1
  obtain⟨t,n,l⟩:=g (k+5) (by omega) wf.2
  exact⟨_,i.both n,Xl (e:= .both a b) rfl rfl (JX zv (Zk j) (Zk l)) (jaK k w.n s t h)⟩
 | joined a b c g=>
  intro m f wf
  simp only [Ex.dp]at f
  obtain⟨k,rfl⟩: ∃k,m=k+5+1:=⟨m-6,by omega⟩
  obtain⟨s,i,j⟩:=c (k+5) (by omega) wf.1
  obtain⟨t,n,l⟩:=g (k+5) (by omega) wf.2
  exact⟨_,i.joined n,Xl (e:= .joined a b) rfl rfl (JX zv (Zk j) (Zk l)) (zV k w.n s t h o)⟩
def QE (x y) (r:List D):atI (x::y::r) 1=y0 y:=by
 have:=Jl (x::y::r) 1 (by simp)
 exact this
def Wo.mv (w:Wo) (o:List Nat):Wo:=⟨w.n,w.K,w.T,w.ks.map (kM w.n o),w.ts.map (tK w.n o)⟩
theorem Wo.Ok.mv {w:Wo}(ok:w.Ok)(h:Od w.n o):(w.mv o).Ok:=⟨ok.hK,ok.hT,ok.nm,⟨ok.wl.n4,by simp [Wo.mv,ok.wl.lk],by simp [Wo.mv,ok.wl.lt],λx a=>by
 obtain⟨y,_,rfl⟩:=Ab9.mp a
 exact xba h y,λx a=>by
 obtain⟨y,_,rfl⟩:=Ab9.mp a
 exact qaU h y⟩⟩
def Z2 (f) (l:List Nat) (i) (h:i<l.length):(l.map f).getD i 0=f (l.getD i 0):=by
 rw [Ac1,Ac1,Ad1,Aa4 h];rfl
def qc3 {w:Wo}(ok:w.Ok){o:List Nat}(h:Od w.n o){t:Tx}(f:t∈w.K++w.T){a b:Nat}(c:a<w.n) (d:b<w.n):(w.mv o).at t (pm o a) (pm o b)↔w.at t a b:=by
 unfold Wo.at
 show(if t∈w.T then((w.ts.map (tK w.n o)).getD (qdY t w.T) 0).testBit (pm o a*w.n+pm o b)=k9 else pm o a=pm o b/\((w.ks.map (kM w.n o)).getD (qdY t w.K) 0).testBit (pm o a)=k9)↔_
 by_cases q:t∈w.T
 ·rw [if_pos q,if_pos q,Z2 _ _ _ (by rw [ok.wl.lt];exact(xq q).2),qaS h _ c d]
 ·have e:t∈w.K:=(Ae1.mp f).resolve_right q
  rw [if_neg q,if_neg q,Z2 _ _ _ (by rw [ok.wl.lk];exact(xq e).2),qae h _ c,h.inj c d]
def qcS {n v s:Nat}{o:List Nat}(h:Od n o) (k: ∀a b,a<n->b<n->(s.testBit (pm o a*n+pm o b)=k9↔v.testBit (a*n+b)=k9)){a b:Nat}(i:a<n) (r:b<n):Wf.TC n s (pm o a) (pm o b)↔Wf.TC n v a b:=by
 constructor
 ·have: ∀x y,Wf.TC n s x y-> ∀a b,a<n->b<n->pm o a=x->pm o b=y->Wf.TC n v a b:=by
   intro x y f
   induction f with
   | step d g e=>
    intro a b i j q m
    subst q m
    exact .step i j ((k a b i j).mp e)
   | more f d g e p=>
    intro a b i j q m
    subst q m
    obtain⟨c,l,rfl⟩:=h.onto d
    exact .more (p a c i l rfl rfl) l j ((k c b l j).mp e)
  exact λf=>this _ _ f a b i r rfl rfl
 ·intro f
  induction f with
  | step d g e=>exact .step (h.lt d) (h.lt g) ((k _ _ d g).mpr e)
  | more f d g e p=>exact .more (p d) (h.lt d) (h.lt g) ((k _ _ d g).mpr e)
def xcG {w:Wo}(ok:w.Ok){o:List Nat}(h:Od w.n o) (r:AH): ∀(e:Ex),e.wf (w.K++w.T)-> ∀a b,a<w.n->b<w.n->(zdE (w.mv o) e (pm o a) (pm o b)↔zdE w e a b):=by
 intro e
 induction e with
 | name t=>intro wf a b g f;exact qc3 ok h wf g f
 | same=>intro wf a b g f;exact h.inj g f
 | all=>intro wf a b g f;exact Iff.rfl
 | none=>intro wf a b g f;exact Iff.rfl
 | turned x m=>intro wf a b g f;exact m wf b a f g
 | closed x m=>
  intro wf a b g f
  obtain⟨v,s,_⟩:=ZK ok r x (x.dp+6) (Aa5 _) wf
  obtain⟨u,l,_⟩:=ZK (ok.mv h) r x (x.dp+6) (Aa5 _) wf
  rw [zx s,zx l]
  exact qcS h (λa b g f=>by rw [s.2 a b g f,←m wf a b g f];exact l.2 _ _ (h.lt g) (h.lt f)) g f
 | plus x y j i=>intro wf a b g f;exact or_congr (j wf.1 a b g f) (i wf.2 a b g f)
 | less x y j i=>intro wf a b g f;exact and_congr (j wf.1 a b g f) (not_congr (i wf.2 a b g f))
 | both x y j i=>intro wf a b g f;exact and_congr (j wf.1 a b g f) (i wf.2 a b g f)
 | joined x y j i=>
  intro wf a b g f
  constructor
  ·rintro ⟨c,k,p,n⟩
   obtain⟨d,q,rfl⟩:=h.onto k
   exact⟨d,q,(j wf.1 a d g q).mp p,(i wf.2 d b q f).mp n⟩
  ·rintro ⟨c,k,p,n⟩
   exact⟨pm o c,h.lt k,(j wf.1 a c g k).mpr p,(i wf.2 c b k f).mpr n⟩
noncomputable def Mv (n:Nat) (o:List Nat) (v c:Nat):Prop:=v<2 ^ (n*n)/\c<2 ^ (n*n)/\ ∀a b,a<n->b<n->(c.testBit (pm o a*n+pm o b)=k9↔v.testBit (a*n+b)=k9)
def xcf (ok:w.Ok)(h:Od w.n o) (i:AH) (e) (wf:e.wf (w.K++w.T))(g:Is w e v) (c:Is (w.mv o) e v'):Mv w.n o v v':=⟨g.1,c.1,λa b f d=>by
 rw [g.2 a b f d,←xcG ok h i e wf a b f d];exact c.2 _ _ (h.lt f) (h.lt d)⟩
abbrev tb (n v:Nat) (a b:Nat):Bool:=v.testBit (a*n+b)
def XM (n:Nat) (g:Nat->Nat->Bool) (a:Nat):Nat:=((Aa0 n).map λb=>(g a b).toNat).sum
theorem ww (g): ∀l:List Nat,(l.filter g).length=(l.map λb=>(g b).toNat).sum
 | []=>rfl
 | x::l=>by
  have a:=ww g l
  by_cases q:g x=k9
  ·rw [List.filter_cons_of_pos q,Ab4,Aa9,Af7,a,q];simp;omega
  ·have c:=by simpa using q
   rw [List.filter_cons_of_neg q,Aa9,Af7,a,c];simp
def jH (m n):Aa0 ((m+1)*n)=Aa0 (m*n)++(Aa0 n).map (m*n+ ·):=by
 rw [Al8,List.range_add]
def qbV {b:Nat}(a:b<n):(m*n+b) / n=m:=Wf.place_div a
theorem xX (n v) (a): ∀m,((((Aa0 (m*n)).filter v.testBit).map (· / n)).count a)=if a<m then XM n (tb n v) a else 0
 | 0=>by simp
 | m+1=>by
  have d:=xX n v a m
  rw [jH,Ao4,Ac6,List.count_append,d,List.filter_map,Ac8]
  have e:((Aa0 n).filter (v.testBit∘(m*n+ ·))).map ((· / n)∘(m*n+ ·))=Ab0 ((Aa0 n).filter (v.testBit∘(m*n+ ·))).length m:=by
   rw [List.eq_replicate_iff]
   refine⟨by simp,λx g=> ?_⟩
   obtain⟨b,h,rfl⟩:=Ab9.mp g
   exact qbV (Ab3.mp (Ad8.mp h).1)
  rw [e,List.count_replicate,ww]
  by_cases q:a=m
  ·subst q
   simp [XM,tb]
  ·have f: ¬(m==a)=true:=by simp;exact λe=>q e.symm
   rw [if_neg f]
   by_cases c:a<m
   ·rw [if_pos c,if_pos (by omega)];omega
   ·rw [if_neg c,if_neg (by omega)]
def qav (b:a<n):((Wf.pairsM n v).map (·.1)).count a=XM n (tb n v) a:=by
 have:=xX n v a n
 rw [if_pos b]at this
 rw [← this,Wf.pairsM,Ac8]
 rfl
theorem q3 (n v): ∀m,((Aa0 (m*n)).filter v.testBit).length=((Aa0 m).map (XM n (tb n v))).sum
 | 0=>by simp
 | m+1=>by
  have a:=q3 n v m
  rw [jH,Ao4,Aa8,a,List.filter_map,Aa,ww,List.range_succ,Ac6,An1]
  simp [XM,tb]
def qaf (n v):(Wf.pairsM n v).length=((Aa0 n).map (XM n (tb n v))).sum:=by
 rw [Wf.pairsM,Aa,q3]
abbrev je:Tx:= [108,101,97,115,116]
abbrev jk:Tx:= [109,111,115,116]
abbrev wd:Tx:= [101,97,99,104,108,101,97,115,116]
abbrev Qh:Tx:= [101,97,99,104,109,111,115,116]
abbrev zaw:Tx:= [105,110]
abbrev Wi:Tx:= [101,113,117,97,108]
abbrev Zn:Tx:= [115,111,109,101]
abbrev xaP:Tx:= [110,111]
def jI (s a b) (h):Gz .mem (.v (.str s)) (.v (.tup [.str a,.str b])) h=y0 (v9 (s∈ [a,b])):=WO s [a,b] (.v (.tup [.str a,.str b])) h rfl rfl
def rows (n v:Nat):List Nat:=(Aa0 n).map (XM n (tb n v))
def Q3 (n v:Nat) (s:Tx):List Nat:=if s∈ [je,jk]then [(rows n v).sum]else rows n v
def W8 (l:List Nat) (a:Nat):(l.map λ(x:Nat)=>(x:Int)).count (a:Int)=l.count a:=by
 induction l with
 | nil=>rfl
 | cons x l b=>
  rw [Aa9,An3,An3,b]
  by_cases q:x=a
  ·simp [q]
  ·have: ¬(x=(a:Int)):=by omega
   simp [q,this]
def qa3 (k n v:Nat) (s) (l:n<=4) (h):call prog (k+2) "counts" [.v (.int (n:Int)),.v (.str s),.v (.int (v:Int))] h= .ok (.own (zdy (Q3 n v s))) h:=by
 rw [Ga rfl _ _ _ rfl]
 simp only [KG]
 show G7 _ (execs _ _ [y0 (.v (.int (n:Int))),y0 (.v (.str s)),y0 (.v (.int (v:Int))),u0,u0] h)=_
 refine fx (by simp_all [jq k n v h (by omega)];rfl) ?_
 by_cases q:s∈ [je,jk]
 ·rw [wb,GC _ _ _ rfl]
  rw [qA (h1:=h) (by simp_all [jI,decide_eq_true q])]
  refine wb (wB rfl ?_)
  simp only [eval,Gq,Gg,Gi,Gj,R.bind_ok,qI,W.d_v,R.of_some,Aa,qaf]
  rw [Q3,if_pos q]
  rfl
 ·refine fx (by simp_all [jI,decide_eq_false q];rfl) ?_
  have b:eval (u9 (k+1)) Ww [y0 (.v (.int (n:Int))),y0 (.v (.str s)),y0 (.v (.int (v:Int))),y0 (.v (.lst ((Wf.pairsM n v).map pD))),u0] h= .ok (.own (zdy ((Wf.pairsM n v).map (·.1)))) h:=by
   rw [Ww,wv (λd=>match d with | .tup [x,_]=>x | d=>d) (by simp_all []) (QA n v (by omega))]
   ·simp [pD,zdy,Function.comp_def]
   ·intro d e
    obtain⟨p,_,rfl⟩:=Ab9.mp e
    exact⟨_,rfl,_,rfl,rfl⟩
  have i:eval (u9 (k+1)) qx [y0 (.v (.int (n:Int))),y0 (.v (.str s)),y0 (.v (.int (v:Int))),y0 (.v (.lst ((Wf.pairsM n v).map pD))),y0 (.v (.lst (zdy ((Wf.pairsM n v).map (·.1)))))] h= .ok (.own (zdy (rows n v))) h:=by
   rw [qx,xbg (λa=> .int ((XM n (tb n v) a:Nat):Int)) rfl (by omega) λa j=>⟨.v (.int ((XM n (tb n v) a:Nat):Int)),?_,rfl⟩]
   ·rw [zdy,rows,Ac8];rfl
   ·have f:((((Wf.pairsM n v).map (·.1)).map λ(x:Nat)=>(x:Int))).length<=LIM:=by
     have:=QA n v (show n<=20 by omega)
     simpa using this
    have c:xbT .count (.v (.lst (zdy ((Wf.pairsM n v).map (·.1))))) [.v (.int (a:Int))] h= .ok (.v (.int ((XM n (tb n v) a:Nat):Int))) h:=by
     show(R.of h ((y0 (zdy ((Wf.pairsM n v).map (·.1)))).bind GM)).bind _=_
     rw [Ah5,zw,R.of_some,R.bind_ok]
     show(R.of h (y0 (a:Int))).bind _=_
     rw [R.of_some,R.bind_ok,if_pos f,W8,qav j]
    have g:xcT .count (.v (.lst (zdy ((Wf.pairsM n v).map (·.1))))) h=true:=rfl
    simp only [eval,Gg,Gi,Gj,Aa9,Ad0,R.bind_ok,g,if_true,c]
  rw [za (Y1:= [y0 (.v (.int (n:Int))),y0 (.v (.str s)),y0 (.v (.int (v:Int))),y0 (.v (.lst ((Wf.pairsM n v).map pD))),y0 (.v (.lst (zdy ((Wf.pairsM n v).map (·.1)))))]) (h1:=h) (by rw [exec,b];rfl)]
  rw [wb (wB rfl i),GC _ _ _ rfl,Q3,if_neg q]
inductive Fc where
 | inn (a b:Ex)
 | equ (a b:Ex)
 | som (a:Ex)
 | non (a:Ex)
 | cnt (s:Tx) (k:Nat) (a:Ex)
noncomputable def xd2:Fc->D
 | .inn a b=> .tup [.str zaw,jdK a,jdK b]
 | .equ a b=> .tup [.str Wi,jdK a,jdK b]
 | .som a=> .tup [.str Zn,jdK a]
 | .non a=> .tup [.str xaP,jdK a]
 | .cnt s k a=> .tup [.str s,.int (k:Int),jdK a]
noncomputable def Fc.wf (N:List Tx):Fc->Prop
 | .inn a b=>a.wf N/\b.wf N
 | .equ a b=>a.wf N/\b.wf N
 | .som a=>a.wf N
 | .non a=>a.wf N
 | .cnt s _ a=>s∈ [je,jk,wd,Qh]/\a.wf N
noncomputable def Fc.dp:Fc->Nat
 | .inn a b=>max a.dp b.dp
 | .equ a b=>max a.dp b.dp
 | .som a=>a.dp
 | .non a=>a.dp
 | .cnt _ _ a=>a.dp
def jp {p:Nat->Nat->Bool}:((Aa0 n).all λa=>(Aa0 n).all λb=>p a b)=k9↔ ∀a b,a<n->b<n->p a b=true:=by
 simp only [Ad7,Ab3]
 exact⟨λh a b d c=>h a d b c,λh a d b c=>h a b d c⟩
def Q4 (c:s<2 ^ (n*n)):v9 (s-(s &&& t)=0)=(Aa0 n).all λa=>(Aa0 n).all λb=>(tb n s a b&&tb n t a b)==tb n s a b:=by
 rw [Ad4,decide_eq_true_eq,jp]
 constructor
 ·intro e a b f d
  have:=Wf.sub_and_bit s t (a*n+b)
  cases q:s.testBit (a*n+b)<;>cases r:t.testBit (a*n+b)<;>simp_all
 ·intro e
  refine Af8 λk=> ?_
  rw [Wf.sub_and_bit,Am9]
  by_cases q:k<n*n
  ·have:=e (k / n) (k % n) (Wf.div_lt_n q) (Wf.mod_lt_n q)
   simp only [tb,Wf.place_eq]at this
   cases a:s.testBit k<;>cases b:t.testBit k<;>simp_all
  ·have:s.testBit k=false:=Af2 (Ab1 c (Ac9 (by decide) (by omega)))
   rw [this];rfl
def zY (c:s<2 ^ (n*n)) (f:t<2 ^ (n*n)):v9 (s=t)=(Aa0 n).all λa=>(Aa0 n).all λb=>tb n s a b==tb n t a b:=by
 rw [Ad4,decide_eq_true_eq,jp]
 constructor
 ·rintro rfl a b _ _
  simp
 ·intro e
  exact WV c f λx y d g=>by
   have:=e x y d g
   rw [beq_iff_eq]at this
   exact Ad4.mp this
def Wa (s X) (h):Gu F (.cmp .eq (.var 3) (.str X)) [a,b,c,y0 (.v (.str s))] h= .ok (s==X) h:=by
 simp only [Gu,eval,Gi,Gj,R.bind_ok,Xy,R.of_some,GZ]
abbrev zd1 (w:Wo) (d:D) (s:Tx):Sl:= [y0 (.v w.words),y0 (.v w.world),y0 (.v d),y0 (.v (.str s))]
def xk 
 (q:execs (u9 m) (match d_keeps.body with | .cons _ r=>r | r=>r) (zd1 w (.tup (.str s::ds)) s) h= .ret (.v (.bl b)) h):call prog (m+1) "keeps" [.v w.words,.v w.world,.v (.tup (.str s::ds))] h= .ok (.v (.bl b)) h:=by
 rw [Ga rfl _ _ _ rfl]
 simp only [d_keeps]at q ⊢
 show G7 _ (execs _ _ [y0 (.v w.words),y0 (.v w.world),y0 (.v (.tup (.str s::ds))),u0] h)=_
 rw [za (Y1:=zd1 w (.tup (.str s::ds)) s) (h1:=h) (by simp_all [ix_tup,xo]),q,Gb _ _ _ rfl]
section
variable {m:Nat}{w:Wo}{h:AH}
def zcK {s t:Nat}(e:call prog (m+1) "value" [.v w.words,.v w.world,.v (jdK a)] h= .ok (.v (.int (s:Int))) h) (d:call prog (m+1) "value" [.v w.words,.v w.world,.v (jdK b)] h= .ok (.v (.int (t:Int))) h):
 call prog (m+2) "keeps" [.v w.words,.v w.world,.v (xd2 (.inn a b))] h= .ok (.v (.bl (decide (s-(s &&& t)=0)))) h:=by
 refine xk ?_
 simp only [d_keeps]
 have c:Gz .eq (.v (.int ((s-(s &&& t):Nat)))) (.v (.int 0)) h=y0 (v9 (s-(s &&& t)=0)):=QK _ 0 h
 rw [Za (Wa _ _ _),Za (Wa _ _ _),Za (Wa _ _ _),Wj (Wa _ _ _) (Xc rfl (by simp only [eval,Gg,Gi,Gj,R.bind_ok,ix_tup,QE,JR,R.of_some,Aa9,Ad0,W.arg_v,e,d,WQ m s t h,c];rfl))]
def xbv {s t:Nat}(d:call prog (m+1) "value" [.v w.words,.v w.world,.v (jdK a)] h= .ok (.v (.int (s:Int))) h) (c:call prog (m+1) "value" [.v w.words,.v w.world,.v (jdK b)] h= .ok (.v (.int (t:Int))) h):
 call prog (m+2) "keeps" [.v w.words,.v w.world,.v (xd2 (.equ a b))] h= .ok (.v (.bl (decide (s=t)))) h:=by
 refine xk ?_
 simp only [d_keeps]
 rw [Za (Wa _ _ _),Za (Wa _ _ _),Za (Wa _ _ _),Za (Wa _ _ _),Wj (Wa _ _ _) (Xc rfl (by simp only [eval,Gg,Gi,Gj,R.bind_ok,ix_tup,QE,JR,R.of_some,Aa9,Ad0,W.arg_v,d,c,QK];rfl))]
def qbw {s:Nat}(d:call prog (m+1) "value" [.v w.words,.v w.world,.v (jdK a)] h= .ok (.v (.int (s:Int))) h):
 call prog (m+2) "keeps" [.v w.words,.v w.world,.v (xd2 (.som a))] h= .ok (.v (.bl (!decide (s=0)))) h:=by
 refine xk ?_
 simp only [d_keeps]
 have b:Gz .ne (.v (.int s)) (.v (.int 0)) h=y0 (!v9 (s=0)):=by
  have this:Gz .eq (.v (.int s)) (.v (.int 0)) h=y0 (v9 (s=0)):=QK s 0 h
  rw [jaM]at this
  rw [xcJ]
  split at this
  ·rename_i c
   rw [if_pos c]
   have:=Ae5.inj this
   rw [← this]
  ·cases this
 rw [Za (Wa _ _ _),Za (Wa _ _ _),Za (Wa _ _ _),Za (Wa _ _ _),Za (Wa _ _ _),Wj (Wa _ _ _) (Xc rfl (by simp only [eval,Gg,Gi,Gj,R.bind_ok,ix_tup,QE,R.of_some,Aa9,Ad0,W.arg_v,d,b];rfl))]
def qbu {s:Nat}(c:call prog (m+1) "value" [.v w.words,.v w.world,.v (jdK a)] h= .ok (.v (.int (s:Int))) h):
 call prog (m+2) "keeps" [.v w.words,.v w.world,.v (xd2 (.non a))] h= .ok (.v (.bl (decide (s=0)))) h:=by
 refine xk ?_
 simp only [d_keeps]
 have b:Gz .eq (.v (.int s)) (.v (.int 0)) h=y0 (v9 (s=0)):=QK s 0 h
 rw [Za (Wa _ _ _),Za (Wa _ _ _),Za (Wa _ _ _),Za (Wa _ _ _),Za (Wa _ _ _),Za (Wa _ _ _),Wj (Wa _ _ _) (Xc rfl (by simp only [eval,Gg,Gi,Gj,R.bind_ok,ix_tup,QE,R.of_some,Aa9,Ad0,W.arg_v,c,b];rfl))]
end
def zax (s:Tx) (k:Nat) (l:List Nat):Bool:=if s∈ [je,wd]then l.all λx=>v9 (k<=x)else l.all λx=>v9 (x<=k)
def zbT (n v) (s) (a:n<=4):(zdy (Q3 n v s)).length<=LIM:=by
 rw [Gk,zdy,Aa,Q3]
 split
 ·simp
 ·simp [rows];omega
noncomputable abbrev zd7 (w:Wo) (d:D) (k:Nat) (l:List Nat):Sl:= [y0 (.v w.words),y0 (.v w.world),y0 (.v d),y0 (.v (.int (k:Int))),y0 (.v (.lst (zdy l)))]
def zdn (b:(zdy l).length<=LIM):eval F Xi (zd7 w d k l) h= .ok (.own ((l.map λx=>v9 (k<=x)).map .bl)) h:=by
 rw [Xi,wv (λd=>match d with | .int x=> .bl (v9 (k<=x)) | d=>d) (by simp_all []) b]
 ·simp [Function.comp_def]
 ·intro d a
  obtain⟨x,_,rfl⟩:=Ab9.mp a
  refine⟨[y0 (.v (.int x)),y0 (.v (.int k))],rfl,.v (.bl (v9 ((k:Int)<=x))),?_,rfl⟩
  simp_all [qcs]
def xdq (b:(zdy l).length<=LIM):eval F wj (zd7 w d k l) h= .ok (.own ((l.map λx=>v9 (x<=k)).map .bl)) h:=by
 rw [wj,wv (λd=>match d with | .int x=> .bl (v9 (x<= k)) | d=>d) (by simp_all []) b]
 ·simp [Function.comp_def]
 ·intro d a
  obtain⟨x,_,rfl⟩:=Ab9.mp a
  refine⟨[y0 (.v (.int x)),y0 (.v (.int k))],rfl,.v (.bl (v9 ((x:Int)<=k))),?_,rfl⟩
  simp_all [xck]
def WJ {w:Wo}(c:w.n<=4){k v:Nat}(e:call prog (m+2) "value" [.v w.words,.v w.world,.v (jdK a)] h= .ok (.v (.int (v:Int))) h):
 call prog (m+3) "keeps_count" [.v w.words,.v w.world,.v (xd2 (.cnt s k a))] h= .ok (.v (.bl (zax s k (Q3 w.n v s)))) h:=by
 rw [Ga rfl _ _ _ rfl]
 simp only [GQ,xd2]
 show G7 _ (execs _ _ [y0 (.v w.words),y0 (.v w.world),y0 (.v (.tup [.str s,.int (k:Int),jdK a])),u0,u0] h)=_
 have d:ixD (.v w.world) (.v (.int 0)) h=y0 (.int (w.n:Int)):=rfl
 have b:=zbT w.n v s c
 rw [za (Y1:= [y0 (.v w.words),y0 (.v w.world),y0 (.v (.tup [.str s,.int (k:Int),jdK a])),y0 (.v (.int (k:Int))),u0]) (h1:=h) rfl]
 refine fx (by simp_all [d,ix_tup,xo,JR,e,qa3 m w.n v s c h];rfl) ?_
 by_cases q:s∈ [je,wd]
 ·rw [wb (w:= .v (.bl (zax s k (Q3 w.n v s)))) (h1:=h),Gb _ _ _ rfl]
  rw [qA (h1:=h) (by simp_all [ix_tup,xo,jI,decide_eq_true q])]
  refine wb (Xc rfl ?_)
  rw [zz (zdn b),zZ,zax,if_pos q]
 ·refine fx (by simp_all [ix_tup,xo,jI,decide_eq_false q];rfl) ?_
  rw [wb (w:= .v (.bl (zax s k (Q3 w.n v s)))) (h1:=h) (Xc rfl ?_),Gb _ _ _ rfl]
  rw [zz (xdq b),zZ,zax,if_neg q]
def zbw {m:Nat}{w:Wo}(f:w.n<=4){h:AH}{s:Tx}(c:s∈ [je,jk,wd,Qh]){k v:Nat}{a:Ex}(d:call prog (m+2) "value" [.v w.words,.v w.world,.v (jdK a)] h= .ok (.v (.int (v:Int))) h):
 call prog (m+4) "keeps" [.v w.words,.v w.world,.v (xd2 (.cnt s k a))] h= .ok (.v (.bl (zax s k (Q3 w.n v s)))) h:=by
 refine xk (m:=m+3) ?_
 have b:=WJ (m:=m) f (s:=s) (k:=k) d
 simp only [xd2]at b
 have ne: ∀X,X∈ [[110,111,116],[97,110,100],[111,114],zaw,Wi,Zn,xaP]->(s==X)=false:=by
  intro X e
  have: ∀s,s∈ [je,jk,wd,Qh]-> ∀X,X∈ [([110,111,116]:Tx),[97,110,100],[111,114],zaw,Wi,Zn,xaP]->(s==X)=false:=by decide
  exact this s c X e
 simp only [d_keeps]
 rw [Za ((Wa _ _ _).trans (by rw [ne _ (by decide)])),Za ((Wa _ _ _).trans (by rw [ne _ (by decide)])),Za ((Wa _ _ _).trans (by rw [ne _ (by decide)])),Za ((Wa _ _ _).trans (by rw [ne _ (by decide)])),Za ((Wa _ _ _).trans (by rw [ne _ (by decide)])),Za ((Wa _ _ _).trans (by rw [ne _ (by decide)])),Za ((Wa _ _ _).trans (by rw [ne _ (by decide)])),wb (Xc rfl (by simp only [eval,Gg,Gi,Gj,R.bind_ok,Aa9,Ad0,W.arg_v,b];rfl))]
abbrev qbT:Tx:= [110,111,116]
abbrev za2:Tx:= [97,110,100]
abbrev zcP:Tx:= [111,114]
inductive Sy where
 | fact (f:Fc)
 | neg (a:Sy)
 | conj (a b:Sy)
 | disj (a b:Sy)
noncomputable def xd4:Sy->D
 | .fact f=>xd2 f
 | .neg a=> .tup [.str qbT,xd4 a]
 | .conj a b=> .tup [.str za2,xd4 a,xd4 b]
 | .disj a b=> .tup [.str zcP,xd4 a,xd4 b]
noncomputable def Sy.wf (N:List Tx):Sy->Prop
 | .fact f=>f.wf N
 | .neg a=>a.wf N
 | .conj a b=>a.wf N/\b.wf N
 | .disj a b=>a.wf N/\b.wf N
def Sy.dp:Sy->Nat
 | .fact f=>f.dp
 | .neg a=>a.dp+1
 | .conj a b=>max a.dp b.dp+1
 | .disj a b=>max a.dp b.dp+1
section
variable {m:Nat}{w:Wo}{h:AH}{d e:D}{a b:Bool}
def jbw (b:call prog m "keeps" [.v w.words,.v w.world,.v d] h= .ok (.v (.bl a)) h):call prog (m+1) "keeps" [.v w.words,.v w.world,.v (.tup [.str qbT,d])] h= .ok (.v (.bl (!a))) h:=by
 refine xk ?_
 simp only [d_keeps]
 rw [Wj (Wa _ _ _) (Xc rfl (by simp only [eval,Gg,Gi,Gj,R.bind_ok,ix_tup,QE,R.of_some,Aa9,Ad0,W.arg_v,b,GZ];rfl))]
def xaM (f:call prog m "keeps" [.v w.words,.v w.world,.v d] h= .ok (.v (.bl a)) h) (c:call prog m "keeps" [.v w.words,.v w.world,.v e] h= .ok (.v (.bl b)) h):call prog (m+1) "keeps" [.v w.words,.v w.world,.v (.tup [.str za2,d,e])] h= .ok (.v (.bl (a&&b))) h:=by
 refine xk ?_
 simp only [d_keeps]
 rw [Za (Wa _ _ _),Wj (Wa _ _ _) (Xc rfl ?_)]
 cases a<;>simp only [eval,Gg,Gi,Gj,R.bind_ok,ix_tup,QE,JR,R.of_some,Aa9,Ad0,W.arg_v,f,c,GZ,Am0]<;>rfl
def qaM (f:call prog m "keeps" [.v w.words,.v w.world,.v d] h= .ok (.v (.bl a)) h) (c:call prog m "keeps" [.v w.words,.v w.world,.v e] h= .ok (.v (.bl b)) h):call prog (m+1) "keeps" [.v w.words,.v w.world,.v (.tup [.str zcP,d,e])] h= .ok (.v (.bl (a||b))) h:=by
 refine xk ?_
 simp only [d_keeps]
 rw [Za (Wa _ _ _),Za (Wa _ _ _),Wj (Wa _ _ _) (Xc rfl ?_)]
 cases a<;>simp only [eval,Gg,Gi,Gj,R.bind_ok,ix_tup,QE,JR,R.of_some,Aa9,Ad0,W.arg_v,f,c,GZ,Bool.false_or]<;>rfl
end
def xaQ (h:Od n o) (p:Nat->Nat->Bool):((Aa0 n).all λa=>(Aa0 n).all λb=>p a b)=(Aa0 n).all λa=>(Aa0 n).all λb=>p (pm o a) (pm o b):=by
 rw [Ad4,jp,jp]
 constructor
 ·exact λk a b d c=>k _ _ (h.lt d) (h.lt c)
 ·intro k x y e f
  obtain⟨a,d,rfl⟩:=h.onto e
  obtain⟨b,c,rfl⟩:=h.onto f
  exact k a b d c
theorem Mv.tb (m:Mv n o v v')(c:a<n) (d:b<n):tb n v' (pm o a) (pm o b)=tb n v a b:=Ad4.mpr (m.2.2 a b c d)
def ZY {p q:Nat->Nat->Bool}(h: ∀a b,a<n->b<n->p a b=q a b):((Aa0 n).all λa=>(Aa0 n).all λb=>p a b)=(Aa0 n).all λa=>(Aa0 n).all λb=>q a b:=by
 rw [Ad4,jp,jp]
 exact⟨λk a b d c=>(h a b d c)▸k a b d c,λk a b d c=>(h a b d c).symm▸k a b d c⟩
def jc0 (h:Od n o)(m:Mv n o v v') (k:Mv n o u u'):v9 (v'-(v' &&& u')=0)=v9 (v-(v &&& u)=0):=by
 rw [Q4 m.2.1,Q4 m.1,xaQ h]
 exact ZY λa b d c=>by rw [m.tb d c,k.tb d c]
def qbo (h:Od n o)(m:Mv n o v v') (k:Mv n o u u'):v9 (v'=u')=v9 (v=u):=by
 rw [zY m.2.1 k.2.1,zY m.1 k.1,xaQ h]
 exact ZY λa b d c=>by rw [m.tb d c,k.tb d c]
def jaQ (h:Od n o)(m:Mv n o v v'):v9 (v'=0)=v9 (v=0):=by
 have z:Mv n o 0 0:=⟨Aj4 _,Aj4 _,λa b _ _=>by simp⟩
 exact qbo h m z
def Od.mapf (h:Od n o)(f:Nat->α):o.map f=(Aa0 n).map λb=>f (pm o b):=by
 have:=congrArg (List.map f) h.map
 rw [Ac8]at this
 exact this
def xbQ (h:Od n o)(m:Mv n o v v')(d:a<n):XM n (tb n v') (pm o a)=XM n (tb n v) a:=by
 rw [XM,XM]
 have p:((Aa0 n).map λb=>(tb n v' (pm o a) b).toNat).Perm (o.map λb=>(tb n v' (pm o a) b).toNat):=(h.p.map _).symm
 rw [p.sum_nat,h.mapf]
 congr 1
 refine Ad6 λb c=> ?_
 rw [m.tb d (Ab3.mp c)]
def xbW (h:Od n o)(m:Mv n o v v'):(rows n v').Perm (rows n v):=by
 rw [rows,rows]
 have p:((Aa0 n).map (XM n (tb n v'))).Perm (o.map (XM n (tb n v'))):=(h.p.map _).symm
 refine p.trans ?_
 have e:o.map (XM n (tb n v'))=(Aa0 n).map (XM n (tb n v)):=by
  rw [h.mapf]
  exact Ad6 λa b=>xbQ h m (Ab3.mp b)
 rw [e]
def jct (h:Od n o)(m:Mv n o v v') (s) (j):zax s j (Q3 n v' s)=zax s j (Q3 n v s):=by
 have p:=xbW h m
 rw [Q3,Q3]
 split
 ·rw [p.sum_nat]
 ·rw [zax,zax]
  split
  ·exact p.all_eq
  ·exact p.all_eq
def J1 (ok:w.Ok) (e) (wf:e.wf (w.K++w.T)): ∃v,Is w e v/\ ∀h m,e.dp+6<=m->call prog m "value" [.v w.words,.v w.world,.v (jdK e)] h= .ok (.v (.int (v:Int))) h:=by
 obtain⟨v,c,_⟩:=ZK ok [] e (e.dp+6) (Aa5 _) wf
 refine⟨v,c,λh m i=> ?_⟩
 obtain⟨u,d,j⟩:=ZK ok h e m i wf
 rw [j,WV d.1 c.1 λa b g f=>by rw [d.2 a b g f,c.2 a b g f]]
def zaj {w:Wo}(ok:w.Ok)(l:Od w.n o) (f) (wf:f.wf (w.K++w.T)): ∃b,∀h m,f.dp+6<=m->call prog (m+2) "keeps" [.v w.words,.v w.world,.v (xd2 f)] h= .ok (.v (.bl b)) h/\call prog (m+2) "keeps" [.v (w.mv o).words,.v (w.mv o).world,.v (xd2 f)] h= .ok (.v (.bl b)) h:=by
 have z:=ok.wl.n4
 have p:=ok.mv l
 have both: ∀e:Ex,e.wf (w.K++w.T)-> ∃v g,Mv w.n o v g/\(∀ h m,e.dp+6<=m->call prog m "value" [.v w.words,.v w.world,.v (jdK e)] h= .ok (.v (.int (v:Int))) h)/\(∀ h m,e.dp+6<=m->call prog m "value" [.v (w.mv o).words,.v (w.mv o).world,.v (jdK e)] h= .ok (.v (.int (g:Int))) h):=by
  intro e q
  obtain⟨v,A,c⟩:=J1 ok e q
  obtain⟨g,r,n⟩:=J1 p e q
  exact⟨v,g,xcf ok l [] e q A r,c,n⟩
 cases f with
 | inn x y=>
  obtain⟨v,g,mv,c,a⟩:=both x wf.1
  obtain⟨u,B,t,n,i⟩:=both y wf.2
  refine⟨v9 (v-(v &&& u)=0),λh m d=> ?_⟩
  simp only [Fc.dp]at d
  refine⟨zcK (c _ _ (by omega)) (n _ _ (by omega)),?_⟩
  rw [← jc0 l mv t]
  exact zcK (a _ _ (by omega)) (i _ _ (by omega))
 | equ x y=>
  obtain⟨v,g,mv,c,a⟩:=both x wf.1
  obtain⟨u,B,t,n,i⟩:=both y wf.2
  refine⟨v9 (v=u),λh m d=> ?_⟩
  simp only [Fc.dp]at d
  refine⟨xbv (c _ _ (by omega)) (n _ _ (by omega)),?_⟩
  rw [← qbo l mv t]
  exact xbv (a _ _ (by omega)) (i _ _ (by omega))
 | som x=>
  obtain⟨v,g,mv,c,a⟩:=both x wf
  refine⟨!v9 (v=0),λh m d=> ?_⟩
  simp only [Fc.dp]at d
  refine⟨qbw (c _ _ (by omega)),?_⟩
  rw [← jaQ l mv]
  exact qbw (a _ _ (by omega))
 | non x=>
  obtain⟨v,g,mv,c,a⟩:=both x wf
  refine⟨v9 (v=0),λh m d=> ?_⟩
  simp only [Fc.dp]at d
  refine⟨qbu (c _ _ (by omega)),?_⟩
  rw [← jaQ l mv]
  exact qbu (a _ _ (by omega))
 | cnt s j x=>
  obtain⟨v,g,mv,c,a⟩:=both x wf.2
  refine⟨zax s j (Q3 w.n v s),λh m d=> ?_⟩
  simp only [Fc.dp]at d
  obtain⟨k,rfl⟩: ∃k,m=k+2:=⟨m-2,by omega⟩
  refine⟨zbw z wf.1 (c _ _ (by omega)),?_⟩
  rw [← jct l mv]
  exact zbw (w:=w.mv o) z wf.1 (a _ _ (by omega))
def w6 {w:Wo}(ok:w.Ok){o:List Nat}(u:Od w.n o): ∀(s:Sy),s.wf (w.K++w.T)-> ∃b,∀h m,s.dp+6<=m->call prog (m+2) "keeps" [.v w.words,.v w.world,.v (xd4 s)] h= .ok (.v (.bl b)) h/\call prog (m+2) "keeps" [.v (w.mv o).words,.v (w.mv o).world,.v (xd4 s)] h= .ok (.v (.bl b)) h:=by
 intro s
 induction s with
 | fact f=>intro wf;exact zaj ok u f wf
 | neg a t=>
  intro wf
  obtain⟨b,e⟩:=t wf
  refine⟨!b,λh m n=> ?_⟩
  simp only [Sy.dp]at n
  obtain⟨k,rfl⟩: ∃k,m=k+1:=⟨m-1,by omega⟩
  have⟨l,p⟩:=e h k (by omega)
  exact⟨jbw l,jbw p⟩
 | conj a c g i=>
  intro wf
  obtain⟨b,e⟩:=g wf.1
  obtain⟨q,r⟩:=i wf.2
  refine⟨b&&q,λh m n=> ?_⟩
  simp only [Sy.dp]at n
  obtain⟨k,rfl⟩: ∃k,m=k+1:=⟨m-1,by omega⟩
  have⟨l,p⟩:=e h k (by omega)
  have⟨j,d⟩:=r h k (by omega)
  exact⟨xaM l j,xaM p d⟩
 | disj a c g i=>
  intro wf
  obtain⟨b,e⟩:=g wf.1
  obtain⟨q,r⟩:=i wf.2
  refine⟨b||q,λh m n=> ?_⟩
  simp only [Sy.dp]at n
  obtain⟨k,rfl⟩: ∃k,m=k+1:=⟨m-1,by omega⟩
  have⟨l,p⟩:=e h k (by omega)
  have⟨j,d⟩:=r h k (by omega)
  exact⟨qaM l j,qaM p d⟩
def qy (n:Nat) (rows:List (List Nat)):List (List Nat):=rows.flatMap λr=>((Aa0 n).filter λx=> !v9 (x∈r)).map λx=>r++ [x]
def Wc (n:Nat):Nat->List (List Nat)
 | 0=> [[]]
 | j+1=>qy n (Wc n j)
abbrev qdW (rows:List (List Nat)):List D:=rows.map λr=> .tup (zdy r)
def Ze (r:List Nat):List Int:=r.map λ(x:Nat)=>(x:Int)
noncomputable def xdc (n:Nat):Bool:=v9 ((Wc n n).length= [1,1,2,6,24].getD n 0)&&((Wc n n).all λr=>v9 (zbQ (Ze r)=Ze (Aa0 n))&&v9 (r.length=n))&&((Aa0 ((Wc n n).length-1)).all λk=>jc7 (Ze ((Wc n n).getD k [])) (Ze ((Wc n n).getD (k+1) [])))&&((Aa0 (n+1)).all λj=>v9 ((Wc n j).length<=24)&&(Wc n j).all λr=>v9 (r.length<=4))
def jb3: ∀n,n<5->xdc n=true:=by decide +kernel
structure qd0 (n:Nat):Prop where
 len:(Wc n n).length= [1,1,2,6,24].getD n 0
 srt: ∀r∈Wc n n,zbQ (Ze r)=Ze (Aa0 n)
 ln: ∀r∈Wc n n,r.length=n
 lex: ∀k,k+1<(Wc n n).length->jc7 (Ze ((Wc n n).getD k [])) (Ze ((Wc n n).getD (k+1) []))=k9
 few: ∀j,j<=n->(Wc n j).length<=24
 sml: ∀j,j<=n-> ∀r∈Wc n j,r.length<=4
def xdZ (n) (i:n<=4):qd0 n:=by
 have h:=jb3 n (by omega)
 unfold xdc at h
 simp only [Aa7,decide_eq_true_eq,Ad7]at h
 obtain⟨⟨⟨d,b⟩,f⟩,c⟩:=h
 exact⟨d,λr a=>(b r a).1,λr a=>(b r a).2,λk g=>f k (Ab3.mpr (by omega)),λj e=>(c j (Ab3.mpr (by omega))).1,λj e r a=>(c j (Ab3.mpr (by omega))).2 r a⟩
def qbx (k) (d) (h) (c:Gc d=k9):call prog (k+3) "is_size" [.v d] h= .ok (.v (.bl (jh d 5))) h:=by
 rw [Ga rfl _ _ _ rfl]
 have a:=Jw k d 5 h c
 have b:prog.con.lookup "GREATEST_SIZE" =some (.int 4):=rfl
 have e:(4:Int)+1=5:=rfl
 simp only [Kr]
 simp_all [b,Qc,e,a]
def QV (k) (d) (h) (c:Gc d=k9) (b:jh d 5=k9):call prog (k+4) "check_size" [.v d] h= .ok (.v .non) h:=by
 rw [Ga rfl _ _ _ rfl]
 have a:=qbx k d h c
 rw [b]at a
 simp only [GG]
 rw [Za (by simp_all [a])]
 simp_all []
def J6 (k) (d) (h) (c:Gc d=k9) (b:jh d 5=y9):call prog (k+4) "check_size" [.v d] h= .exc (.exc "NoSize" []) h:=by
 rw [Ga rfl _ _ _ rfl]
 have a:=qbx k d h c
 rw [b]at a
 simp only [GG]
 rw [execs,qA (h1:=h) (by simp_all [a]),zb]
 simp_all []
theorem zcn (b:Nat): ∀l:List Nat,inD (.int (b:Int)) (zdy l)=v9 (b∈l)
 | []=>rfl
 | x::l=>by
  have:=zcn b l
  simp only [inD,Aa9,Ag2,eqD,Ab7]at this ⊢
  rw [this,Ad4]
  simp only [Bool.or_eq_true,beq_iff_eq,decide_eq_true_eq]
  constructor
  ·rintro (h | h)
   ·exact .inl (by omega)
   ·exact .inr h
  ·rintro (h | h)
   ·exact .inl (by omega)
   ·exact .inr h
def xb6 (l):(zdy l).all KL=true:=by
 rw [An5,Ad7];exact λ_ _=>rfl
def qce (b:Nat) (l) (h):Gz .nmem (.v (.int (b:Int))) (.v (.tup (zdy l))) h=y0 (!v9 (b∈l)):=by
 show(Pe _ _ h).map _=_
 have:Pe (.v (.int b)) (.v (.tup (zdy l))) h=y0 (v9 (b∈l)):=by
  show(if KL (.int b)&&(zdy l).all KL then y0 (inD (.int b) (zdy l))else Ps _ _ h)=_
  rw [xb6,zcn];rfl
 rw [this];rfl
def JF (F) (a) (Y) (h):Gw F (.range1 a) Y h=Gm F (.range1 a) Y h:=rfl
theorem zaS {n:Nat}(f:n<=4) (h): ∀ rows a x,(∀ r∈rows,r.length<=4)->a.length+rows.length*4<=1000-> ∃b,
 Gr (Gp [3] k9) (λY h=>execs F Zg Y h) (qdW rows) [y0 w,y0 (.v (.int (n:Int))),y0 (.own (qdW a)),x] h= .next [y0 w,y0 (.v (.int (n:Int))),y0 (.own (qdW (a++qy n rows))),b] h
 | [],a,x,_,_=>⟨x,by simp [qy]⟩
 | r::rows,a,x,g,m=>by
  have s:((Aa0 n).filter λx=> !v9 (x∈r)).length<=4:=Ac (Ae _ _) (by simp;exact f)
  rw [Ab4]at m
  obtain⟨b,e⟩:=zaS f h rows (a++((Aa0 n).filter λx=> !v9 (x∈r)).map λx=>r++ [x]) (y0 (.v (.tup (zdy r)))) (λq j=>g q (Aa1 _ j)) (by rw [Aa8,Aa];omega)
  refine⟨b,?_⟩
  have d:eval F jg [y0 w,y0 (.v (.int n)),y0 (.own (qdW a)),y0 (.v (.tup (zdy r)))] h= .ok (.own (((Aa0 n).filter λx=> !v9 (x∈r)).map λx=> .tup (zdy (r++ [x])))) h:=by
   rw [jg]
   refine zM _ _ rfl (by omega) λi p=>⟨?_,.v (.tup (zdy (r++ [i]))),?_,rfl⟩
   ·have:=qce i r h
    simp_all [this]
   ·have c:(zdy r).length+ [D.int i].length<=LIM:=by
     have:=g r Aa3
     rw [Gk,Aa,Af4];omega
    have l:zdy (r++ [i])=zdy r++ [.int i]:=by simp
    rw [l]
    simp_all [Jz,c,if_true]
  have eq:(((Aa0 n).filter λx=> !v9 (x∈r)).map λx=>D.tup (zdy (r++ [x])))=qdW (((Aa0 n).filter λx=> !v9 (x∈r)).map λx=>r++ [x]):=by rw [qdW,Ac8];rfl
  rw [eq]at d
  have c:(qdW a).length+(qdW (((Aa0 n).filter λx=> !v9 (x∈r)).map λx=>r++ [x])).length<LIM:=by
   rw [Gk,Aa,Aa,Aa];omega
  have k:qdW (a++((Aa0 n).filter λx=> !v9 (x∈r)).map λx=>r++ [x])=qdW a++qdW (((Aa0 n).filter λx=> !v9 (x∈r)).map λx=>r++ [x]):=Ac6 ..
  have o:qy n (r::rows)=(((Aa0 n).filter λx=> !v9 (x∈r)).map λx=>r++ [x])++qy n rows:=rfl
  rw [show qdW (r::rows)= .tup (zdy r)::qdW rows from rfl,xa rfl ?_,e,o,Af1]
  rw [k]
  simp_all [Zg,d,c,if_true]
def xbf (k n:Nat) (rows) (h) (a:n<=4) (h1: ∀r∈rows,r.length<=4) (h2:rows.length<=24):call prog (k+1) "longer_by_one" [.bor (qdW rows),.v (.int (n:Int))] h= .ok (.own (qdW (qy n rows))) h:=by
 rw [Ga rfl _ _ _ rfl]
 obtain⟨b,e⟩:=zaS a h rows [] u0 h1 (by simp;omega)
 refine fx (by simp_all [];rfl) ?_
 rw [za (by
  exact e)]
 simp_all []
theorem jby (hn:n<=4) (h): ∀(m j:Nat) x,j+m=n-> ∃x',
 Gr (Gp [2] k9) (λY h=>execs (u9 (k+1)) qm Y h) ((Aa0 m).map λi=>D.int ((j+i:Nat):Int)) [y0 (.v (.int (n:Int))),y0 (.own (qdW (Wc n j))),x] h= .next [y0 (.v (.int (n:Int))),y0 (.own (qdW (Wc n n))),x'] h
 | 0,j,x,e=>⟨x,by obtain rfl:j=n:=by omega
                  rfl⟩
 | m+1,j,x,e=>by
  have Rn:=xdZ n hn
  have ec:=xbf k n (Wc n j) h hn (Rn.sml j (by omega)) (Rn.few j (by omega))
  obtain⟨x',q⟩:=jby hn h m (j+1) (y0 (.v (.int j))) (by omega)
  refine⟨x',?_⟩
  rw [xl,xa rfl ?_,q]
  simp_all [qm,ec]
  rfl
def Zt (k n:Nat) (h) (b:n<=4):call prog (k+5) "renamings" [.v (.int (n:Int))] h= .ok (.own (qdW (Wc n n))) h:=by
 rw [Ga rfl _ _ _ rfl]
 have a:=QV k (.int n) h rfl (by simp [jh];omega)
 obtain⟨c,e⟩:=jby b h n 0 u0 (by omega)
 refine fx (by simp_all [a];rfl) ?_
 refine fx (by simp_all [];rfl) ?_
 rw [za (by
  rw [exec,JF,Jd rfl (by omega),R.toO_ok]
  simp only [Ag8]at e
  exact e)]
 simp_all []
def cd:List (Nat×Nat)->Nat
 | []=>0
 | q::r=>q.2+2 ^ q.1*cd r
def jdw (a:List (Nat×Nat)):Prop:= ∀q∈a,q.2<2 ^ q.1/\q.1<=16
def wS (a:List (Nat×Nat)):Nat:=(a.map (·.1)).sum
theorem zbV: ∀ {ps},jdw ps->cd ps<2 ^ wS ps
 | [],_=>by simp [cd,wS]
 | q::r,h=>by
  have c:=(h q Aa3).1
  have a:=zbV λx b=>h x (Aa1 _ b)
  show q.2+2 ^ q.1*cd r<2 ^ (q.1+wS r)
  rw [Al1]
  have:2 ^ q.1*(cd r+1)<=2 ^ q.1*2 ^ wS r:=Ae3 (Aa5 _) a
  rw [Nat.mul_add,Nat.mul_one]at this
  omega
def jdV:Nat->Nat->List (Nat×Nat)->Nat
 | t,_,[]=>t
 | t,pl,q::r=>jdV (t ||| q.2*2 ^ pl) (pl+q.1) r
def qch (h:t<2 ^ pl):t ||| p*2 ^ pl=t+p*2 ^ pl:=by
 have:=Nat.two_pow_add_eq_or_of_lt h p
 rw [Ai2]at this
 rw [Nat.or_comm,←this,Am]
theorem xbn: ∀(ps) (t pl),jdw ps->t<2 ^ pl->jdV t pl ps=t+2 ^ pl*cd ps
 | [],t,pl,_,_=>by simp [jdV,cd]
 | q::r,t,pl,h,d=>by
  have b:=(h q Aa3).1
  have a:t+q.2*2 ^ pl<2 ^ (pl+q.1):=by
   rw [Al1]
   have:2 ^ pl*(q.2+1)<=2 ^ pl*2 ^ q.1:=Ae3 (Aa5 _) b
   rw [Nat.mul_add,Nat.mul_one,Ai2 (2 ^ pl) q.2]at this
   omega
  rw [jdV,qch d,xbn r _ _ (λx c=>h x (Aa1 _ c)) a,cd,Al1,Nat.mul_add,Nat.mul_assoc,Ai2 q.2]
  omega
def dg:List Nat->Nat->List Nat
 | [],_=> []
 | w::a,c=>c % 2 ^ w::dg a (c / 2 ^ w)
theorem qbk: ∀(ws ps),ws.length=ps.length->jdw (ws.zip ps)->dg ws (cd (ws.zip ps))=ps
 | [],[],_,_=>rfl
 | w::ws,p::ps,c,h=>by
  have a:=(h (w,p) Aa3).1
  have d:(p+2 ^ w*cd (ws.zip ps)) % 2 ^ w=p:=by rw [Nat.add_mul_mod_self_left,Nat.mod_eq_of_lt a]
  have e:(p+2 ^ w*cd (ws.zip ps)) / 2 ^ w=cd (ws.zip ps):=by
   rw [Nat.add_mul_div_left _ _ (Aj1 (by decide)),Nat.div_eq_of_lt a,Ag8]
  show(p+2 ^ w*cd (ws.zip ps)) % 2 ^ w::dg ws ((p+2 ^ w*cd (ws.zip ps)) / 2 ^ w)=p::ps
  rw [d,e,qbk ws ps (by simpa using c) λx b=>h x (Aa1 _ b)]
def qcC {ws a b:List Nat}(h1:ws.length=a.length) (h2:ws.length=b.length) (k1:jdw (ws.zip a)) (k2:jdw (ws.zip b)) (e:cd (ws.zip a)=cd (ws.zip b)):a=b:=by
 rw [← qbk ws a h1 k1,e,qbk ws b h2 k2]
def qdI (n K T:Nat):List Nat:=Ab0 K n++Ab0 T (n*n)
def Cw (n:Nat) (ks ts:List Nat):Nat:=cd ((qdI n ks.length ts.length).zip (ks++ts))
structure Wl (n:Nat) (ks ts:List Nat):Prop where
 n4:n<=4
 k4:ks.length<=4
 t4:ts.length<=4
 bk: ∀x∈ks,x<2 ^ n
 bt: ∀x∈ts,x<2 ^ (n*n)
def Qt (n K T):(qdI n K T).length=K+T:=by simp [qdI]
def jbm (n) (ks ts:List Nat):(qdI n ks.length ts.length).zip (ks++ts)=ks.map (λx=>(n,x))++ts.map (λx=>(n*n,x)):=by
 have h: ∀(w:Nat) (l:List Nat),(Ab0 l.length w).zip l=l.map λx=>(w,x):=λw l=>by
  induction l with
  | nil=>rfl
  | cons x l a=>simp [Ac7,a]
 rw [qdI,List.zip_append (by simp),h,h]
def Wl.ok (g:Wl n ks ts):jdw ((qdI n ks.length ts.length).zip (ks++ts)):=by
 rw [jbm]
 have hn:=g.n4
 have b:=Ae3 hn hn
 intro q a
 rcases Ae1.mp a with a | a
 ·obtain⟨x,c,rfl⟩:=Ab9.mp a
  exact⟨g.bk x c,by show n<=16;omega⟩
 ·obtain⟨x,c,rfl⟩:=Ab9.mp a
  exact⟨g.bt x c,b⟩
def Wl.mv (g:Wl n ks ts) (q:Od n o):Wl n (ks.map (kM n o)) (ts.map (tK n o)):=
 ⟨g.n4,by rw [Aa];exact g.k4,by rw [Aa];exact g.t4,λx a=>by
   obtain⟨y,_,rfl⟩:=Ab9.mp a
   exact xba q y,λx a=>by
   obtain⟨y,_,rfl⟩:=Ab9.mp a
   exact qaU q y⟩
def zbu (g:Wl n ks ts) (c:Wl n ks' ts') (h1:ks.length=ks'.length) (h2:ts.length=ts'.length) (e:Cw n ks ts=Cw n ks' ts'):ks=ks'/\ts=ts':=by
 unfold Cw at e
 have b:=g.ok
 have a:=c.ok
 rw [← h1,←h2]at e a
 have:=qcC (by rw [Qt];simp) (by rw [Qt];simp;omega) b a e
 exact List.append_inj this h1
theorem qal (n): ∀ j l,l.length=j->l.Nodup->(∀ x∈l,x<n)->l∈Wc n j
 | 0,l,a,_,_=>by
  rw [Ag5 a];simp [Wc]
 | j+1,l,a,hn,b=>by
  rcases List.eq_nil_or_concat l with rfl | ⟨r,x,rfl⟩
  ·simp at a
  ·rw [List.concat_eq_append]at*
   have c:=Aj8.mp hn
   have d:=qal n j r (by simpa using a) c.1 λy e=>b y (Ac5 _ e)
   show r++ [x]∈qy n (Wc n j)
   unfold qy
   rw [List.mem_flatMap]
   refine⟨r,d,Ab9.mpr ⟨x,Ad8.mpr ⟨Ab3.mpr (b x (by simp)),?_⟩,rfl⟩⟩
   have:x∉r:=λz=>c.2.2 x z x (by simp) rfl
   simpa using this
def xa6: ∀n,n<5->((Wc n n).all λr=>r.isPerm (Aa0 n))=true:=by decide +kernel
def Jb (b:n<=4) (r):r∈Wc n n↔Od n r:=by
 constructor
 ·intro h
  exact⟨List.isPerm_iff.mp (Ad7.mp (xa6 n (by omega)) r h)⟩
 ·intro q
  exact qal n n r q.len (q.p.nodup_iff.mpr Ai8) λx a=>q.mem a
structure Ls (n:Nat) (ks ts ks' ts':List Nat):Prop where
 o: ∃r,Od n r/\ks'=ks.map (kM n r)/\ts'=ts.map (tK n r)
 le: ∀r,Od n r->Cw n ks' ts'<=Cw n (ks.map (kM n r)) (ts.map (tK n r))
def Ls.wl (h:Ls n ks ts ks' ts') (g:Wl n ks ts):Wl n ks' ts':=by
 obtain⟨r,q,rfl,rfl⟩:=h.o
 exact g.mv q
def Ls.uniq (g:Wl n ks ts) (h:Ls n ks ts a b) (h':Ls n ks ts a' b'):a=a'/\b=b':=by
 obtain⟨r,q,f,i⟩:=h.o
 obtain⟨j,k,c,d⟩:=h'.o
 have e:=h.le j k
 have l2:=h'.le r q
 rw [← c,←d]at e
 rw [← f,←i]at l2
 refine zbu (h.wl g) (h'.wl g) ?_ ?_ (Nat.le_antisymm e l2)
 ·rw [f,c,Aa,Aa]
 ·rw [i,d,Aa,Aa]
def qU {ks ts r o:List Nat}(q:Od n r) (p:Od n o):(ks.map (kM n o)).map (kM n r)=ks.map (kM n (o.map (pm r)))/\(ts.map (tK n o)).map (tK n r)=ts.map (tK n (o.map (pm r))):=
 ⟨by rw [Ac8];exact Ad6 λx _=>jcn q p x,by rw [Ac8];exact Ad6 λx _=>jci q p x⟩
def Od.rev (q:Od n o): ∃p,Od n p/\ ∀a,a<n->pm p (pm o a)=a:=by
 have i: ∀b,∃a,b<n->a<n/\pm o a=b:=λb=>by
  by_cases c:b<n
  ·obtain⟨a,h⟩:=q.onto c
   exact⟨a,λ_=>h⟩
  ·exact⟨0,λz=>absurd z c⟩
 let f:=λb=>Ah4 (i b)
 have j:=λb c=>Ag0 (i b) c
 have e:((Aa0 n).map f).length=n:=by simp
 have c: ∀a,a<n->pm ((Aa0 n).map f) (pm o a)=a:=λa g=>by
  have d:=q.lt g
  rw [Wr (by rw [e];exact d),Aj,Aj2]
  exact(q.inj (j _ d).1 g).mp (j _ d).2
 exact⟨_,Od.inv q e c,c⟩
def Qv (g:Wl n ks ts) (q:Od n o) (r:Od n p) (h: ∀a,a<n->pm p (pm o a)=a):(ks.map (kM n o)).map (kM n p)=ks/\(ts.map (tK n o)).map (tK n p)=ts:=by
 constructor
 ·rw [Ac8]
  exact(Ad6 λx b=>jcQ q r h (g.bk x b)).trans (Am4 _)
 ·rw [Ac8]
  exact(Ad6 λx b=>zcX q r h (g.bt x b)).trans (Am4 _)
def Ls.mv {ks ts a b o:List Nat}(g:Wl n ks ts) (q:Od n o) (h:Ls n ks ts a b):Ls n (ks.map (kM n o)) (ts.map (tK n o)) a b:=by
 obtain⟨p,c,f⟩:=q.rev
 obtain⟨r,d,rfl,rfl⟩:=h.o
 obtain⟨i,j⟩:=Qv g q c f
 refine⟨⟨p.map (pm r),Od.then d c,?_,?_⟩,λs e=> ?_⟩
 ·rw [← (qU (ts:= []) d c).1,i]
 ·rw [← (qU (ks:= []) d c).2,j]
 ·obtain⟨k,l⟩:=qU e q
  rw [k,l]
  exact h.le _ (Od.then e q)
def Ls.self (g:Wl n ks ts) (h:Ls n ks ts a b):Ls n a b a b:=by
 obtain⟨r,q,rfl,rfl⟩:=h.o
 exact h.mv g q
abbrev zdR (A B:List D):D:= .tup [.tup A,.tup B]
def zdl (x:D) (m):(Ab0 m [x]).flatten=Ab0 m x:=by
 induction m with
 | zero=>rfl
 | succ m a=>rw [Ac7,Ak,a];rfl
def xaf (x) (m:Nat) (a:m<=1000) (h):Pf .mul (.own [x]) (.v (.int (m:Int))) h= .ok (.own (Ab0 m x)) h:=by
 show Pt [x] m h=_
 have c: -1000<=(m:Int)/\(m:Int)<=1000/\ [x].length*(m:Int).toNat<=LIM:=by rw [Gk,Af6];simp;omega
 rw [Pt,if_pos c,Af6,zdl]
def zc4 (n K T):zdy (qdI n K T)=Ab0 K (.int (n:Int))++Ab0 T (.int ((n*n:Nat):Int)):=by simp [qdI]
def wM (k n:Nat) (A B) (h) (f:n<=4) (g:A.length<=4) (e:B.length<=4):call prog (k+1) "widths" [.v (zdR A B),.v (.int (n:Int))] h= .ok (.own (zdy (qdI n A.length B.length))) h:=by
 rw [Ga rfl _ _ _ rfl]
 have a:=wc n n (by omega)
 have d:=xaf (.int n) A.length (by omega) h
 have b:=xaf (.int (n*n:Nat)) B.length (by omega) h
 have c:(Ab0 A.length (D.int n)).length+(Ab0 B.length (D.int (n*n:Nat))).length<=LIM:=by rw [Gk];simp;omega
 rw [zc4]
 simp only [KB]
 simp_all [ix_tup,jJ,WB,ql,d,a,b,jcv,c,if_true]
theorem qT (x): ∀m,(Ab0 m x).sum=m*x
 | 0=>by simp
 | m+1=>by rw [Ac7,Af7,qT x m,Al8,Am]
def jbC (n K T):(qdI n K T).sum=K*n+T*(n*n):=by rw [qdI,An1,qT,qT]
def jae (k n:Nat) (A B) (h) (d:n<=4) (e:A.length<=4) (b:B.length<=4):call prog (k+2) "bits" [.v (zdR A B),.v (.int (n:Int))] h= .ok (.v (.int (((qdI n A.length B.length).sum:Nat):Int))) h:=by
 rw [Ga rfl _ _ _ rfl]
 have c:=wM k n A B h d e b
 have a:(zdy (qdI n A.length B.length)).length<=LIM:=by rw [Gk,Aa,Qt];omega
 simp only [K9]
 simp_all [c,qJ,a,if_true,wC]
abbrev xdN (a:List (Nat×Nat)):List D:=a.map λq=> .tup [.int (q.1:Nat),.int (q.2:Nat)]
theorem qaB (h): ∀ b (t pl:Nat) c f,jdw b->pl+b.length*16<=1000-> ∃a i g,
 Gr (Gp [4,5] y9) (λY h=>execs F qM Y h) (xdN b) [x0,x1,y0 (.v (.int (t:Int))),y0 (.v (.int (pl:Int))),c,f] h= .next [x0,x1,y0 (.v (.int ((jdV t pl b:Nat):Int))),a,i,g] h
 | [],t,pl,c,f,_,_=>⟨_,c,f,rfl⟩
 | q::r,t,pl,c,f,ok,d=>by
  obtain⟨n,p⟩:=ok q Aa3
  rw [Ab4]at d
  obtain⟨a,i,g,e⟩:=qaB h r (t ||| q.2*2 ^ pl) (pl+q.1) (y0 (.v (.int q.1))) (y0 (.v (.int q.2))) (λx k=>ok x (Aa1 _ k)) (by omega)
  refine⟨a,i,g,?_⟩
  have o:q.2<2 ^ 64:=Ab1 n (Ac9 (by decide) (by omega))
  have j:=qaN q.2 pl o (by omega)
  have l:=xC t (q.2*2 ^ pl)
  have m: pl+ (q.1:Nat)=((pl+q.1:Nat):Int):=rfl
  rw [show xdN (q::r)= .tup [.int q.1,.int q.2]::xdN r from rfl,xa rfl ?_,e]
  ·rfl
  ·simp_all [qM,j,wE,l,Qc,m]
def xcR (ws ps):((zdy ws).zip (zdy ps)).map (λp=>D.tup [p.1,p.2])=xdN (ws.zip ps):=by
 rw [zdy,zdy,List.zip_map,Ac8,xdN]
 rfl
def xcF (k n) (A B) (ks ts) (h) (g:Wl n ks ts) (j:A.length=ks.length) (c:B.length=ts.length):call prog (k+2) "code" [.v (zdR A B),.v (Xj n ks ts)] h= .ok (.v (.int ((Cw n ks ts:Nat):Int))) h:=by
 rw [Ga rfl _ _ _ rfl]
 have t:=g.k4
 have s:=g.t4
 have p:=wM k n A B h g.n4 (by omega) (by omega)
 have o:(zdy ks).length+(zdy ts).length<=LIM:=by rw [Gk,Aa,Aa];omega
 have a:Pf .add (.v (.tup (zdy ks))) (.v (.tup (zdy ts))) h= .ok (.v (.tup (zdy (ks++ts)))) h:=by rw [Jz,if_pos o,←Ac6]
 obtain⟨f,r,q,e⟩:=qaB h ((qdI n ks.length ts.length).zip (ks++ts)) 0 0 u0 u0 g.ok (by
  rw [Ak7,Qt]
  have:min (ks.length+ts.length) (ks++ts).length<=8:=by simp;omega
  omega)
 rw [xbn _ _ _ g.ok (by decide)]at e
 have i:0+2 ^ 0*cd ((qdI n ks.length ts.length).zip (ks++ts))=Cw n ks ts:=by unfold Cw;omega
 rw [i]at e
 simp only [Pb]
 refine fx (by simp_all [];rfl) ?_
 refine fx (by simp_all [];rfl) ?_
 have m:Gw (u9 (k+1)) (.zip (.call "widths" (.cons (.var 0) (.cons (.ix (.var 1) (.int 0)) .nil))) (.bin .add (.ix (.var 1) (.int 1)) (.ix (.var 1) (.int 2)))) [some (.v (zdR A B)),some (.v (Xj n ks ts)),some (.v (.int 0)),some (.v (.int 0)),none,none] h= .ok (xdN ((qdI n ks.length ts.length).zip (ks++ts))) h:=by
  have b:eval (u9 (k+1)) (.call "widths" (.cons (.var 0) (.cons (.ix (.var 1) (.int 0)) .nil))) [some (.v (zdR A B)),some (.v (Xj n ks ts)),some (.v (.int 0)),some (.v (.int 0)),none,none] h= .ok (.own (zdy (qdI n ks.length ts.length))) h:=by
   rw [← j,←c]
   simp_all [ix_tup,zbq,p]
  have a2:eval (u9 (k+1)) (.bin .add (.ix (.var 1) (.int 1)) (.ix (.var 1) (.int 2))) [y0 (.v (zdR A B)),y0 (.v (Xj n ks ts)),y0 (.v (.int 0)),y0 (.v (.int 0)),u0,u0] h= .ok (.v (.tup (zdy (ks++ts)))) h:=by
   have d:atI [D.int (n:Int),D.tup (zdy ks),D.tup (zdy ts)] 1=y0 (.tup (zdy ks)):=rfl
   have l:atI [D.int (n:Int),D.tup (zdy ks),D.tup (zdy ts)] 2=y0 (.tup (zdy ts)):=rfl
   simp_all [ix_tup,d,l,a]
  rw [← xcR]
  show(eval _ _ _ h).bind _=_
  rw [b,R.bind_ok,a2]
  rfl
 rw [za (by
  rw [exec,m,R.toO_ok]
  exact e)]
 simp_all []
theorem jcj (h): ∀ ws (c:Nat) a b,(∀ w∈ws,w<=16)->a.length+ws.length<=1000-> ∃g f,
 Gr (Gp [5] k9) (λY h=>execs F qp Y h) (zdy ws) [x0,x1,x2,y0 (.own (zdy a)),y0 (.v (.int (c:Int))),b,x6] h= .next [x0,x1,x2,y0 (.own (zdy (a++dg ws c))),g,f,x6] h
 | [],c,a,b,_,_=>⟨y0 (.v (.int c)),b,by simp [dg]⟩
 | w::ws,c,a,b,i,q=>by
  rw [Ab4]at q
  have k:=i w Aa3
  obtain⟨g,f,e⟩:=jcj h ws (c / 2 ^ w) (a++ [c % 2 ^ w]) (y0 (.v (.int w))) (λx m=>i x (Aa1 _ m)) (by simp;omega)
  refine⟨g,f,?_⟩
  have j:=J7 w (by omega)
  have r:0<2 ^ w:=Aj1 (by decide)
  have o:((2 ^ w:Nat))-1=((2 ^ w-1:Nat):Int):=by omega
  have d:=Xn c (2 ^ w-1)
  rw [Ak3]at d
  have l:=wA c w
  have p:(zdy a).length<LIM:=by rw [Gk,Aa];omega
  have n:zdy (a++ [c % 2 ^ w])=zdy a++ [.int ((c % 2 ^ w:Nat))]:=by simp
  rw [show zdy (w::ws)= .int w::zdy ws from rfl,xa rfl ?_,e,Af1]
  ·rfl
  ·rw [n]
   simp_all [qp,j,jt,o,xm,d,p,if_true,l]
def zab (k n) (A B) (ks ts) (h) (g:Wl n ks ts) (c:A.length=ks.length) (m:B.length=ts.length):call prog (k+5) "world_of" [.v (zdR A B),.v (.int (n:Int)),.v (.int ((Cw n ks ts:Nat):Int))] h= .ok (.v (Xj n ks ts)) h:=by
 rw [Ga rfl _ _ _ rfl]
 have hn:=g.n4
 have l:=g.k4
 have s:=g.t4
 have b:n*n<=16:=Ae3 hn hn
 have o:=QV k (.int (n:Int)) h rfl (by simp [jh];omega)
 have f:=jae (k+2) n A B h hn (by omega) (by omega)
 have a:=wM (k+3) n A B h hn (by omega) (by omega)
 rw [c,m]at f a
 have x:(qdI n ks.length ts.length).sum<=100:=by
  rw [jbC]
  have v:ks.length*n<=4*4:=Ae3 l hn
  have a2:ts.length*(n*n)<=4*16:=Ae3 s b
  omega
 have p:=J7 (qdI n ks.length ts.length).sum (by omega)
 have lt:Cw n ks ts<2 ^ (qdI n ks.length ts.length).sum:=by
  have:=zbV g.ok
  have e:wS ((qdI n ks.length ts.length).zip (ks++ts))=(qdI n ks.length ts.length).sum:=by
   rw [wS,←List.unzip_fst,List.unzip_zip_left (by rw [Qt];simp)]
  rw [e]at this
  exact this
 have i:=Jw (k+2) (.int ((Cw n ks ts:Nat):Int)) ((2 ^ (qdI n ks.length ts.length).sum:Nat):Int) h rfl
 have t:jh (.int ((Cw n ks ts:Nat):Int)) ((2 ^ (qdI n ks.length ts.length).sum:Nat):Int)=true:=by
  simp only [jh,Aa7,decide_eq_true_eq];omega
 rw [t]at i
 obtain⟨z,y,e⟩:=jcj h (qdI n ks.length ts.length) (Cw n ks ts) [] u0 (λw a=>by
  rcases Ae1.mp a with a | a
  ·rw [(Al4.mp a).2];omega
  ·rw [(Al4.mp a).2];exact b) (by rw [Qt];simp;omega)
 rw [Af3,show dg (qdI n ks.length ts.length) (Cw n ks ts)=ks++ts from qbk _ _ (by rw [Qt];simp) g.ok]at e
 simp only [Kg]
 refine fx (by simp_all [o];rfl) ?_
 rw [Za (by simp_all [f,p,i])]
 refine fx (by simp_all [];rfl) ?_
 refine fx (by simp_all [];rfl) ?_
 have u:eval (u9 (k+4)) (.call "widths" (.cons (.var 0) (.cons (.var 1) .nil))) [some (.v (zdR A B)),some (.v (.int (n:Int))),some (.v (.int ((Cw n ks ts:Nat):Int))),some (.own []),some (.v (.int ((Cw n ks ts:Nat):Int))),none,none] h= .ok (.own (zdy (qdI n ks.length ts.length))) h:=by
  simp_all [a]
 rw [za (by
  simp only [exec,Gw,Kd,u,R.bind_ok,K1,R.of_some,R.toO_ok]
  exact e)]
 have d:=wY (zdy (ks++ts)) A.length
 have j:=qaY (zdy (ks++ts)) A.length (by simp;omega)
 have r:(zdy (ks++ts)).take A.length=zdy ks:=by rw [c,zdy,Ac6,List.take_left' (by simp)]
 have q:(zdy (ks++ts)).drop A.length=zdy ts:=by rw [c,zdy,Ac6,List.drop_left' (by simp)]
 rw [r]at d
 rw [q]at j
 refine fx (by simp_all [ix_tup,jJ,ql];rfl) ?_
 rw [wb (w:= .v (Xj n ks ts)) (h1:=h) (Xc rfl (by simp_all [zcB,d,j,JE]))]
 exact Gb _ _ _ rfl
section
variable {n:Nat}{ks ts:List Nat}{A B:List D}(g:Wl n ks ts) (hA:A.length=ks.length) (hB:B.length=ts.length)
include g
def zcu:Wc n n≠ []:=λz=>by
 have hn:=g.n4
 have:Aa0 n∈Wc n n:=(Jb hn _).mpr ⟨List.Perm.refl _⟩
 rw [z]at this
 cases this
include hA hB
def zbF (k) (h):call prog (k+6) "codes_alike" [.v (zdR A B),.v (Xj n ks ts)] h= .ok (.own (zdy ((Wc n n).map fun r=>Cw n (ks.map (kM n r)) (ts.map (tK n r))))) h:=by
 rw [Ga rfl _ _ _ rfl]
 have hn:=g.n4
 have i:=g.k4
 have f:=g.t4
 have b:=Zt k n h hn
 have e:=(xdZ n hn).few n (Aa5 _)
 have d:eval (u9 (k+5)) qo [y0 (.v (zdR A B)),y0 (.v (Xj n ks ts))] h= .ok (.own ((Wc n n).map λr=> .int ((Cw n (ks.map (kM n r)) (ts.map (tK n r)):Nat)))) h:=by
  refine xf (λr=> .tup (zdy r)) _ (Wc n n) (zN (by simp_all [ix_tup,zbq,b])) (by omega) λr a=>⟨.v (.int ((Cw n (ks.map (kM n r)) (ts.map (tK n r)):Nat))),?_,rfl⟩
  have q:=(Jb hn r).mp a
  have c:=wR (k+1) q hn ks ts (by omega) (by omega) (zdR A B) h
  have a2:=xcF (k+3) n A B _ _ h (g.mv q) (by rw [Aa];exact hA) (by rw [Aa];exact hB)
  simp_all [c,a2]
 simp only [GL]
 rw [wb (w:= .own (zdy ((Wc n n).map λr=>Cw n (ks.map (kM n r)) (ts.map (tK n r))))) (wB rfl (by rw [zdy,Ac8];exact d))]
 exact GC _ _ _ rfl
end
theorem jb9: ∀a b:List Nat,Kv (zdy a) (zdy b)=v9 (a=b)
 | [],[]=>rfl
 | [],_::_=>rfl
 | _::_,[]=>rfl
 | x::a,y::b=>by
  show((x==(y:Int))&&Kv (zdy a) (zdy b))=_
  rw [jb9 a b,Ad4]
  simp only [Aa7,beq_iff_eq,decide_eq_true_eq,List.cons.injEq]
  exact and_congr (by omega) Iff.rfl
def jE (n) (ks ts):Gc (Xj n ks ts)=true:=by
 show(k9&&(Gf (zdy ks)&&(Gf (zdy ts)&&k9)))=k9
 rw [xac,xac];rfl
def xb1 (n) (ks ts):dep (Xj n ks ts)<=2:=by
 have a:=xbx ks
 have b:=xbx ts
 show max 0 (max (KN (zdy ks)+1) (max (KN (zdy ts)+1) 0))+1<=2
 omega
def jbt (n a) (ks ts ks' ts') (h):Gz .eq (.v (Xj n ks ts)) (.v (Xj a ks' ts')) h=y0 (v9 (n=a/\ks=ks'/\ts=ts')):=by
 have d:=xb1 n ks ts
 rw [jaM,W.dd_v,W.dd_v,QZ (jE ..),QZ (jE ..),if_pos (by rw [KP,jE,jE,decide_eq_true (by omega)];rfl)]
 congr 1
 show((n==(a:Int))&&(Kv (zdy ks) (zdy ks')&&(Kv (zdy ts) (zdy ts')&&k9)))=_
 rw [jb9,jb9,Bool.and_true,Ad4]
 simp only [Aa7,beq_iff_eq,decide_eq_true_eq]
 exact and_congr (by omega) Iff.rfl
noncomputable abbrev xdA (n:Nat) (x1:Option W) (x2:Option W) (a:List (List Nat)) (b c:Option W):Sl:= [y0 (.v (.int (n:Int))),x1,x2,y0 (.own (qdW a)),b,c]
theorem qaE (k:r.length<=4) (h): ∀ m i a f,i+m=n->a.length+m<=1000-> ∃b,
 Gr (Gp [5] k9) (λY h=>execs F Jg Y h) ((Aa0 m).map λj=>D.int ((i+j:Nat):Int)) (xdA n x1 x2 a (y0 (.v (.tup (zdy r)))) f) h= .next (xdA n x1 x2 (a++(((Aa0 m).map (i+ ·)).filter λx=> !v9 (x∈r)).map λx=>r++ [x]) (y0 (.v (.tup (zdy r)))) b) h
 | 0,i,a,f,_,_=>⟨f,by simp⟩
 | m+1,i,a,f,e,s=>by
  have p:=qce i r h
  have g:(Aa0 (m+1)).map (i+ ·)=i::(Aa0 m).map (i+1+ ·):=by
   rw [Ag,Aa9,Ac8]
   congr 1
   exact Ad6 λx _=>by show i+(x+1)=i+1+x;omega
  have c:Gu F (.cmp .nmem (.var 5) (.var 4)) (xdA n x1 x2 a (y0 (.v (.tup (zdy r)))) (y0 (.v (.int (i:Int))))) h= .ok (!v9 (i∈r)) h:=by
   simp_all [p]
  by_cases q:i∈r
  ·obtain⟨b,z⟩:=qaE (n:=n) k h m (i+1) a (y0 (.v (.int (i:Int)))) (by omega) (by omega)
   refine⟨b,?_⟩
   rw [decide_eq_true q]at c
   rw [g,List.filter_cons_of_neg (by simpa using q),xl,xa (Y1:=xdA n x1 x2 a (y0 (.v (.tup (zdy r)))) (y0 (.v (.int (i:Int))))) rfl ?_,z]
   simp only [Jg]
   rw [Za c]
   rfl
  ·obtain⟨b,z⟩:=qaE (n:=n) (x1:=x1) (x2:=x2) k h m (i+1) (a++ [r++ [i]]) (y0 (.v (.int (i:Int)))) (by omega) (by simp;omega)
   refine⟨b,?_⟩
   rw [decide_eq_false q]at c
   have o:(zdy r).length+ [D.int (i:Int)].length<=LIM:=by rw [Gk,Aa,Af4];omega
   have d:(qdW a).length<LIM:=by rw [Gk,Aa];omega
   have l:qdW (a++ [r++ [i]])=qdW a++ [.tup (zdy r++ [.int (i:Int)])]:=by simp
   rw [g,List.filter_cons_of_pos (by simpa using q),Aa9,xl,xa (Y1:=xdA n x1 x2 a (y0 (.v (.tup (zdy r)))) (y0 (.v (.int (i:Int))))) (Y2:=xdA n x1 x2 (a++ [r++ [i]]) (y0 (.v (.tup (zdy r)))) (y0 (.v (.int (i:Int))))) (h2:=h) rfl ?_,z,Af1]
   ·rfl
   ·simp only [Jg,zb]
    rw [qA c]
    simp only [xdA,l]
    simp_all [Jz,o,if_true,d]
theorem zaA (d:n<=4) (h): ∀ rows a c b,(∀ r∈rows,r.length<=4)->a.length+rows.length*4<=1000-> ∃k f,
 Gr (Gp [4] k9) (λY h=>execs F Qk Y h) (qdW rows) (xdA n x1 x2 a c b) h= .next (xdA n x1 x2 (a++qy n rows) k f) h
 | [],a,c,b,_,_=>⟨c,b,by simp [qy]⟩
 | r::rows,a,c,b,g,o=>by
  rw [Ab4]at o
  have t:((Aa0 n).filter λx=> !v9 (x∈r)).length<=4:=Ac (Ae _ _) (by simp;exact d)
  obtain⟨f,e⟩:=qaE (n:=n) (g r Aa3) h n 0 a b (by omega) (by omega)
  have j:(Aa0 n).map (0+ ·)=Aa0 n:=(Ad6 λx _=>Ag8 x).trans (Am4 _)
  rw [j]at e
  obtain⟨m,l,q⟩:=zaA d h rows (a++((Aa0 n).filter λx=> !v9 (x∈r)).map λx=>r++ [x]) (y0 (.v (.tup (zdy r)))) f (λs i=>g s (Aa1 _ i)) (by rw [Aa8,Aa];omega)
  refine⟨m,l,?_⟩
  have p:qy n (r::rows)=(((Aa0 n).filter λx=> !v9 (x∈r)).map λx=>r++ [x])++qy n rows:=rfl
  rw [show qdW (r::rows)= .tup (zdy r)::qdW rows from rfl,xa rfl (by
   simp only [Qk,zb]
   rw [exec,JF,Jd rfl (by omega),R.toO_ok]
   simp only [Ag8]at e
   exact e),q,p,Af1]
theorem xbm (hn:n<=4) (h): ∀(m j:Nat) x2 x3 x4 x5,j+m=n-> ∃y2 y3 y4 y5,
 Gr (Gp [2] k9) (λY h=>execs (u9 k) qs Y h) ((Aa0 m).map λi=>D.int ((j+i:Nat):Int)) [y0 (.v (.int (n:Int))),y0 (.own (qdW (Wc n j))),x2,x3,x4,x5] h= .next [y0 (.v (.int (n:Int))),y0 (.own (qdW (Wc n n))),y2,y3,y4,y5] h
 | 0,j,x2,x3,x4,x5,e=>⟨x2,x3,x4,x5,by obtain rfl:j=n:=by omega
                                      rfl⟩
 | m+1,j,x2,x3,x4,x5,e=>by
  have Rn:=xdZ n hn
  obtain⟨y4,y5,q⟩:=zaA hn h (Wc n j) [] x4 x5 (Rn.sml j (by omega)) (by have:=Rn.few j (by omega);simp;omega)
  obtain⟨z2,z3,z4,z5,q2⟩:=xbm hn h m (j+1) (y0 (.v (.int j))) u0 y4 y5 (by omega)
  refine⟨z2,z3,z4,z5,?_⟩
  rw [xl,xa rfl ?_,q2]
  refine(za (by simp_all [];rfl)).trans ?_
  refine(za (by simp_all [];rfl)).trans ?_
  rw [za (by
   exact q)]
  rfl
def jbb (k n:Nat) (h) (a:n<=4):call prog (k+1) "_law_orders" [.v (.int (n:Int))] h= .ok (.own (qdW (Wc n n))) h:=by
 rw [Ga rfl _ _ _ rfl]
 obtain⟨b,f,c,d,e⟩:=xbm a h n 0 u0 u0 u0 u0 (by omega)
 refine fx (by simp_all [];rfl) ?_
 rw [za (by
  rw [exec,JF,Jd rfl (by omega),R.toO_ok]
  simp only [Ag8]at e
  exact e)]
 simp_all []
theorem qf: ∀e:Ex,Gc (jdK e)=k9
 | .name _=>rfl
 | .same=>rfl
 | .all=>rfl
 | .none=>rfl
 | .turned a=>by show(k9&&(Gc (jdK a)&&k9))=k9;rw [qf a];rfl
 | .closed a=>by show(k9&&(Gc (jdK a)&&k9))=k9;rw [qf a];rfl
 | .plus a b=>by show(k9&&(Gc (jdK a)&&(Gc (jdK b)&&k9)))=k9;rw [qf a,qf b];rfl
 | .less a b=>by show(k9&&(Gc (jdK a)&&(Gc (jdK b)&&k9)))=k9;rw [qf a,qf b];rfl
 | .both a b=>by show(k9&&(Gc (jdK a)&&(Gc (jdK b)&&k9)))=k9;rw [qf a,qf b];rfl
 | .joined a b=>by show(k9&&(Gc (jdK a)&&(Gc (jdK b)&&k9)))=k9;rw [qf a,qf b];rfl
theorem Jf: ∀e:Ex,dep (jdK e)<=e.dp+1
 | .name _=>Aa5 _
 | .same=>Aa5 _
 | .all=>Aa5 _
 | .none=>Aa5 _
 | .turned a=>by
  have:=Jf a
  show max 0 (max (dep (jdK a)) 0)+1<=a.dp+1+1
  omega
 | .closed a=>by
  have:=Jf a
  show max 0 (max (dep (jdK a)) 0)+1<=a.dp+1+1
  omega
 | .plus a b=>by
  have:=Jf a;have:=Jf b
  show max 0 (max (dep (jdK a)) (max (dep (jdK b)) 0))+1<=max a.dp b.dp+1+1
  omega
 | .less a b=>by
  have:=Jf a;have:=Jf b
  show max 0 (max (dep (jdK a)) (max (dep (jdK b)) 0))+1<=max a.dp b.dp+1+1
  omega
 | .both a b=>by
  have:=Jf a;have:=Jf b
  show max 0 (max (dep (jdK a)) (max (dep (jdK b)) 0))+1<=max a.dp b.dp+1+1
  omega
 | .joined a b=>by
  have:=Jf a;have:=Jf b
  show max 0 (max (dep (jdK a)) (max (dep (jdK b)) 0))+1<=max a.dp b.dp+1+1
  omega
def zcH (f):Gc (xd2 f)=true:=by
 cases f with
 | inn a b=>show(k9&&(Gc (jdK a)&&(Gc (jdK b)&&k9)))=k9;rw [qf a,qf b];rfl
 | equ a b=>show(k9&&(Gc (jdK a)&&(Gc (jdK b)&&k9)))=k9;rw [qf a,qf b];rfl
 | som a=>show(k9&&(Gc (jdK a)&&k9))=k9;rw [qf a];rfl
 | non a=>show(k9&&(Gc (jdK a)&&k9))=k9;rw [qf a];rfl
 | cnt s k a=>show(k9&&(k9&&(Gc (jdK a)&&k9)))=k9;rw [qf a];rfl
def xcq (f):dep (xd2 f)<=f.dp+2:=by
 cases f with
 | inn a b=>
  have:=Jf a;have:=Jf b
  show max 0 (max (dep (jdK a)) (max (dep (jdK b)) 0))+1<=max a.dp b.dp+2
  omega
 | equ a b=>
  have:=Jf a;have:=Jf b
  show max 0 (max (dep (jdK a)) (max (dep (jdK b)) 0))+1<=max a.dp b.dp+2
  omega
 | som a=>
  have:=Jf a
  show max 0 (max (dep (jdK a)) 0)+1<=a.dp+2
  omega
 | non a=>
  have:=Jf a
  show max 0 (max (dep (jdK a)) 0)+1<=a.dp+2
  omega
 | cnt s k a=>
  have:=Jf a
  show max 0 (max 0 (max (dep (jdK a)) 0))+1<=a.dp+2
  omega
theorem Ju: ∀s:Sy,Gc (xd4 s)=k9
 | .fact f=>zcH f
 | .neg a=>by show(k9&&(Gc (xd4 a)&&k9))=k9;rw [Ju a];rfl
 | .conj a b=>by show(k9&&(Gc (xd4 a)&&(Gc (xd4 b)&&k9)))=k9;rw [Ju a,Ju b];rfl
 | .disj a b=>by show(k9&&(Gc (xd4 a)&&(Gc (xd4 b)&&k9)))=k9;rw [Ju a,Ju b];rfl
theorem wG: ∀s:Sy,dep (xd4 s)<=s.dp+2
 | .fact f=>xcq f
 | .neg a=>by
  have:=wG a
  show max 0 (max (dep (xd4 a)) 0)+1<=a.dp+1+2
  omega
 | .conj a b=>by
  have:=wG a;have:=wG b
  show max 0 (max (dep (xd4 a)) (max (dep (xd4 b)) 0))+1<=max a.dp b.dp+1+2
  omega
 | .disj a b=>by
  have:=wG a;have:=wG b
  show max 0 (max (dep (xd4 a)) (max (dep (xd4 b)) 0))+1<=max a.dp b.dp+1+2
  omega
abbrev pr (d:D) (n:Nat):D:= .tup [d,.int (n:Int)]
def pP (p:Ex×Nat):D:=pr (jdK p.1) p.2
def pS (p:Sy×Nat):D:=pr (xd4 p.1) p.2
structure xdL (N:List Tx) (p:Ex×Nat):Prop where
 wf:p.1.wf N
 dp:p.1.dp+1<=p.2
 le:p.2<=13
structure xdV (N:List Tx) (p:Sy×Nat):Prop where
 wf:p.1.wf N
 dp:p.1.dp<=p.2+11
 po:1<=p.2
 le:p.2<=13
def xbz (p):Gc (pP p)=true:=by show(Gc (jdK p.1)&&(k9&&k9))=k9;rw [qf];rfl
def WZ (p):Gc (pS p)=true:=by show(Gc (xd4 p.1)&&(k9&&k9))=k9;rw [Ju];rfl
theorem xK (f) (k): ∀l:List α,(∀ x∈l,dep (f x)<=k)->KN (l.map f)<=k
 | [],_=>Ah2 _
 | x::l,h=>by
  exact Nat.max_le.mpr ⟨h x Aa3,xK f k l λy a=>h y (Aa1 _ a)⟩
def qcl (h:xdL N p):dep (pP p)<=20:=by
 have:=Jf p.1;have:=h.dp;have:=h.le
 show max (dep (jdK p.1)) (max 0 0)+1<=20
 omega
def qbq (h:xdV N p):dep (pS p)<=40:=by
 have:=wG p.1;have:=h.dp;have:=h.le
 show max (dep (xd4 p.1)) (max 0 0)+1<=40
 omega
def XL (a:h[r]? =y0 (.lst xs)) (h1:Gf xs=k9) (h2:KN xs<=100) (d:xs≠ []):Gz .eq (.v (.ref r)) (.own []) h=y0 false:=by
 have b:(W.v (D.ref r)).dd h= .lst xs:=by
  show(match h[r]? with | some (.lst xs)=>D.lst xs | _=> .ref r)=_
  rw [a]
 have c:(W.own []).dd h= .lst []:=rfl
 rw [jaM,b,c,if_pos (by
  unfold KP
  rw [show Gc (.lst xs)=k9 from h1,decide_eq_true (show dep (.lst xs)<150 by show KN xs+1<150;omega)];rfl)]
 cases xs with
 | nil=>exact absurd rfl d
 | cons x xs=>rfl
def jcf (k) (K T) (t:(K++T).length<=100) (x) (h): ∃e:Ex,e.wf (K++T)/\e.dp=0/\call prog (k+1) "_law_atom" [.v (wD K T),.v (.int x)] h= .ok (.v (jdK e)) h:=by
 obtain⟨p,z,m⟩:=Zh x ((K++T).length+3) (by omega)
 have r:Pf .add (.v (jdx K)) (.v (jdx T)) h= .ok (.v (jdx (K++T))) h:=by
  rw [Jz,if_pos (by rw [Gk,Aa,Aa];rw [Aa8]at t;omega),←Ac6]
 have o:biD .len [.v (jdx (K++T))] h=okv (.int ((K++T).length:Int)) h:=by rw [ql,Aa]
 have u:Gn .mod x (((K++T).length:Int)+3)=y0 (p:Int):=by rw [jn _ _ (by omega)];exact congrArg y0 m
 have l: ∀ j,execs (u9 k) (.cons (.setf 2 (.bin .add (.ix (.var 0) (.int 0)) (.ix (.var 0) (.int 1)))) (.cons (.setf 3 (.bin .mod (.var 1) (.bin .add (.bi .len (.cons (.var 2) .nil)) (.int 3)))) j)) (List.map y0 [W.v (wD K T),.v (.int x)]++Ab0 (4-2) u0) h=execs (u9 k) j [y0 (.v (wD K T)),y0 (.v (.int x)),y0 (.v (jdx (K++T))),y0 (.v (.int (p:Int)))] h:=λj=>by
  rw [za (h1:=h) (Y1:= [y0 (.v (wD K T)),y0 (.v (.int x)),y0 (.v (jdx (K++T))),u0]) (by simp only [exec,eval,Gi,Gj,R.bind_ok,ix_tup,jJ,WB,R.of_some,r,R.toO_ok,W.d_v,GD,Aa9,Ad0,Ah8,Af3,Ac7,Aj0,Nat.reduceSub])]
  rw [za (h1:=h) (Y1:= [y0 (.v (wD K T)),y0 (.v (.int x)),y0 (.v (jdx (K++T))),y0 (.v (.int (p:Int)))]) (by simp only [exec,eval,Gg,Gi,Gj,R.bind_ok,o,Gy,Qc,R.of_some,u,R.toO_ok,W.d_v,GD])]
 have a: ∀ {d},G7 h.length (.ret (.v d) h)= .ok (.v d) h:=λ{d}=>Gb _ _ _ rfl
 by_cases c:p<3
 ·have f:v9 ((p:Int)<(3:Int))=true:=decide_eq_true (by omega)
  have g: ∀ e s,jdK e= .tup [.str s]->atI [D.str jS,.str jaN,.str JZ] (p:Int)=y0 (.str s)->call prog (k+1) "_law_atom" [.v (wD K T),.v (.int x)] h= .ok (.v (jdK e)) h:=fun e s q n=>by
   rw [Ga (d:=GA) rfl _ _ _ rfl]
   simp only [GA]
   rw [l,Wj (w:= .v (jdK e)) (by simp_all [jd,f]) (Xc rfl (by rw [q];simp only [eval,Gq,Gi,Gj,R.bind_ok,W.d_v,R.of_some,Zr,n]))]
   exact a
  have b:p=0\/p=1\/p=2:=by omega
  rcases b with rfl | rfl | rfl
  ·exact⟨.same,trivial,rfl,g .same jS rfl rfl⟩
  ·exact⟨.all,trivial,rfl,g .all jaN rfl rfl⟩
  ·exact⟨.none,trivial,rfl,g .none JZ rfl rfl⟩
 ·have f:v9 ((p:Int)<(3:Int))=false:=decide_eq_false (by omega)
  have i:p-3<(K++T).length:=by omega
  have v:(p:Int)-3=((p-3:Nat):Int):=by omega
  have y:ixD (.v (jdx (K++T))) (.v (.int ((p-3:Nat):Int))) h=y0 (.str (K++T)[p-3]):=by
   show atI ((K++T).map D.str) _=_
   rw [Jl _ _ (by rw [Aa];exact i),Ad1,Aa4 i];rfl
  refine⟨.name (K++T)[p-3],Am7 i,rfl,?_⟩
  rw [Ga (d:=GA) rfl _ _ _ rfl]
  simp only [GA]
  rw [l,Za (by simp_all [jd,f])]
  rw [wb (w:= .v (jdK (.name (K++T)[p-3]))) (h1:=h) (Xc rfl (by simp only [eval,Gq,Gi,Gj,R.bind_ok,W.d_v,R.of_some,Gy,jt,v,y];rfl))]
  exact a
def jb6 {x:D}(h) (e:xs.getLast h=x):atI xs (-1)=y0 x:=by
 have a:=An9.mpr h
 have:ixN xs.length (-1)=y0 (xs.length-1):=by
  unfold ixN
  rw [if_neg (by decide),if_pos (by omega)]
  exact congrArg y0 (by omega)
 unfold atI
 rw [this,Ah5,Aa4 (by omega),←e,List.getLast_eq_getElem]
def wK {xs:List D}(x) (c:0<xs.length): ∃d∈xs,atI xs (x % ((xs.length:Nat):Int))=y0 d:=by
 obtain⟨a,b,e⟩:=Zh x xs.length c
 exact⟨xs[a],Am7 b,by rw [e,Jl _ _ b,Aa4 b]⟩
def xaF (a:h[r]? =y0 (.lst xs)) (i):ixD (.v (.ref r)) (.v (.int i)) h=atI xs i:=by
 show((match h[r]? with | some (.lst xs)=>y0 xs | _=>u0).bind λxs=>atI xs i)=_
 rw [a];rfl
def jT (a:h[r]? =y0 (.lst xs)):biD .len [.v (.ref r)] h=okv (.int (xs.length:Int)) h:=by
 show(R.of h (match h[r]? with | some (.lst xs)=>y0 xs | _=>u0)).bind _=_
 rw [a];rfl
noncomputable def jdj (j m:Nat) (a b:Ex):Fc:=match j with
 | 0=> .inn a b
 | 1=> .equ a b
 | 2=> .som a
 | 3=> .non a
 | 4=> .cnt je m a
 | 5=> .cnt jk m a
 | 6=> .cnt wd m a
 | _=> .cnt Qh m a
def zbr (k) (N) (ps) (L: ∀p∈ps,xdL N p) (E:ps≠ []) (x) (h:AH) (I:h[0]? =y0 (.lst (ps.map pP))): ∃f:Fc,f.wf N/\f.dp<=12/\call prog (k+1) "_law_fact" [.v (.ref 0),.v (.int x)] h= .ok (.v (xd2 f)) h:=by
 have G:ps.map pP≠ []:=λz=>E (Ak6.mp z)
 obtain⟨a,T,ea⟩: ∃p∈ps,atI (ps.map pP) (-1)=y0 (pP p):=⟨ps.getLast E,List.getLast_mem E,jb6 G (by rw [List.getLast_map])⟩
 obtain⟨d,Z,Y⟩:=wK (xs:=ps.map pP) (x / 8) (An9.mpr G)
 obtain⟨b,mb,rfl⟩:=Ab9.mp Z
 have s:=jr x 8 (by decide) (by decide)
 have ml:=jn (x / 8) (((ps.map pP).length:Nat):Int) (by have:=An9.mpr G;omega)
 obtain⟨j,n,y⟩:=Zh x 8 (by decide)
 have y:x % 8=(j:Int):=y
 have o:=jn x 8 (by decide)
 rw [y]at o
 have g:=L a T
 have q:=L b mb
 have M:=xaF I (-1)
 rw [ea]at M
 have P:=xaF I (x / 8 % (((ps.map pP).length:Nat):Int))
 rw [Y]at P
 have V:ixD (.v (pP a)) (.v (.int 0)) h=y0 (jdK a.1):=rfl
 have Q:ixD (.v (pP b)) (.v (.int 0)) h=y0 (jdK b.1):=rfl
 have ln:=jT I
 obtain⟨m,U⟩: ∃m:Nat,eval (u9 k) (.ix (.lst (.cons (.bin .mod (.bin .fdiv (.var 1) (.int 8)) (.int 5)) (.cons (.bin .mod (.bin .fdiv (.var 1) (.int 8)) (.int 100)) .nil))) (.bin .mod (.bin .fdiv (.var 1) (.int 800)) (.int 2))) [y0 (.v (.ref 0)),y0 (.v (.int x)),y0 (.v (jdK a.1)),y0 (.v (jdK b.1)),y0 (.v (.str ([zaw,Wi,Zn,xaP,je,jk,wd,Qh].getD j [])))] h= .ok (.v (.int (m:Int))) h:=by
  have F:=jn (x / 8) 5 (by decide)
  have e:=jn (x / 8) 100 (by decide)
  have l:=jr x 800 (by decide) (by decide)
  have H:=jn (x / 800) 2 (by decide)
  obtain⟨u,hu,A⟩:=Zh (x / 8) 5 (by decide)
  obtain⟨v,hv,J⟩:=Zh (x / 8) 100 (by decide)
  obtain⟨z,hz,r⟩:=Zh (x / 800) 2 (by decide)
  have A:x / 8 % 5=(u:Int):=A
  have J:x / 8 % 100=(v:Int):=J
  have r:x / 800 % 2=(z:Int):=r
  rw [A]at F
  rw [J]at e
  rw [r]at H
  have K:z=0\/z=1:=by omega
  rcases K with rfl | rfl
  ·exact⟨u,by simp only [eval,Gq,Gi,Gj,R.bind_ok,Gy,s,R.of_some,F,e,l,H,W.d_v,Zr];rfl⟩
  ·exact⟨v,by simp only [eval,Gq,Gi,Gj,R.bind_ok,Gy,s,R.of_some,F,e,l,H,W.d_v,Zr];rfl⟩
 have X:atI [D.str zaw,.str Wi,.str Zn,.str xaP,.str je,.str jk,.str wd,.str Qh] (j:Int)=y0 (.str ([zaw,Wi,Zn,xaP,je,jk,wd,Qh].getD j [])):=by
  rw [Jl _ _ (by show j<8;exact n)]
  have: ∀j,j<8-> [D.str zaw,.str Wi,.str Zn,.str xaP,.str je,.str jk,.str wd,.str Qh][j]? =y0 (.str ([zaw,Wi,Zn,xaP,je,jk,wd,Qh].getD j [])):=λj n=>by
   match j,n with
   | 0,_=>rfl
   | 1,_=>rfl
   | 2,_=>rfl
   | 3,_=>rfl
   | 4,_=>rfl
   | 5,_=>rfl
   | 6,_=>rfl
   | 7,_=>rfl
  exact this j n
 have i:a.1.dp<=12:=by have:=g.dp;have:=g.le;omega
 have O:b.1.dp<=12:=by have:=q.dp;have:=q.le;omega
 refine⟨jdj j m a.1 b.1,?_,?_,?_⟩
 ·match j,n with
  | 0,_=>exact⟨g.wf,q.wf⟩
  | 1,_=>exact⟨g.wf,q.wf⟩
  | 2,_=>exact g.wf
  | 3,_=>exact g.wf
  | 4,_=>exact⟨by simp,g.wf⟩
  | 5,_=>exact⟨by simp,g.wf⟩
  | 6,_=>exact⟨by simp,g.wf⟩
  | 7,_=>exact⟨by simp,g.wf⟩
 ·match j,n with
  | 0,_=>exact Nat.max_le.mpr ⟨i,O⟩
  | 1,_=>exact Nat.max_le.mpr ⟨i,O⟩
  | 2,_=>exact i
  | 3,_=>exact i
  | 4,_=>exact i
  | 5,_=>exact i
  | 6,_=>exact i
  | 7,_=>exact i
 ·have c: ∀ {d:D},G7 h.length (.ret (.v d) h)= .ok (.v d) h:=λ{d}=>Gb _ _ _ rfl
  rw [Ga (d:=GY) rfl _ _ _ rfl]
  simp only [GY]
  have n1:Gn .mul (-1) 1=Gn .mul (-1) 1:=rfl
  refine fx (by simp_all [M,V];rfl) ?_
  refine fx (by simp_all [s,ln,ml,P,Q];rfl) ?_
  refine fx (by simp_all [o,Zr,X];rfl) ?_
  by_cases c2:j<2
  ·have t:v9 ((j:Int)<(2:Int))=true:=decide_eq_true (by omega)
   rw [Wj (w:= .v (.tup [.str ([zaw,Wi,Zn,xaP,je,jk,wd,Qh].getD j []),jdK a.1,jdK b.1])) (by simp_all [o,jd,t]) (Xc rfl (by simp_all [])),c]
   match j,c2 with
   | 0,_=>rfl
   | 1,_=>rfl
  have t:v9 ((j:Int)<(2:Int))=false:=decide_eq_false (by omega)
  rw [Za (by simp_all [o,jd,t])]
  by_cases c4:j<4
  ·have C:v9 ((j:Int)<(4:Int))=true:=decide_eq_true (by omega)
   rw [Wj (w:= .v (.tup [.str ([zaw,Wi,Zn,xaP,je,jk,wd,Qh].getD j []),jdK a.1])) (by simp_all [o,jd,C]) (Xc rfl (by simp_all [])),c]
   have B:j=2\/j=3:=by omega
   rcases B with rfl | rfl<;>rfl
  have C:v9 ((j:Int)<(4:Int))=false:=decide_eq_false (by omega)
  rw [Za (by simp_all [o,jd,C])]
  rw [wb (w:= .v (.tup [.str ([zaw,Wi,Zn,xaP,je,jk,wd,Qh].getD j []),.int (m:Int),jdK a.1])) (h1:=h) (Xc rfl (by rw [eval,Gq,eval];simp only [Gi,Gj,R.bind_ok,W.d_v,R.of_some];rw [Gq,U];simp only [R.bind_ok,W.d_v,R.of_some,Gq,eval,Gi,Gj])),c]
  have S:j=4\/j=5\/j=6\/j=7:=by omega
  rcases S with rfl | rfl | rfl | rfl<;>rfl
def qg (a:h[r]? =y0 (.lst xs)):cellD h (y0 (.v (.ref r)))=y0 (r,xs):=by
 show(match h[r]? with | some (.lst xs)=>y0 (r,xs) | _=>u0)=_
 rw [a]
def xaj {h:AH}(a:h[r]? =y0 c):(h.set r c')[r]? =y0 c':=Ad5 (Ac2.mp a).1
def Qy (xs) (x:D):(xs++ [x])[(xs++ [x]).length-1]? =y0 x:=by simp
def qv (xs) (x:D):(xs++ [x]).take ((xs++ [x]).length-1)=xs:=by
 rw [Aa8,Af4,Nat.add_sub_cancel,List.take_left'];rfl
def qaP (d:Gc a=k9) (c:Gc b=k9) (t) (n):Gc (pr (.tup [.str t,a,b]) n)=true:=by
 show((k9&&(Gc a&&(Gc b&&k9)))&&(k9&&k9))=k9
 rw [d,c];rfl
def jbI (a b:Nat) (h):biD .max [.v (.int (a:Int)),.v (.int (b:Int))] h=okv (.int ((max a b:Nat):Int)) h:=by
 rw [xaT]
 by_cases c: b>(a:Int)
 ·rw [if_pos c,show max a b=b by omega]
 ·rw [if_neg c,show max a b=a by omega]
def qcc (t:Tx) (a b:D) (m n:Nat):D:=if 13<1+max m n then pr a m else pr (.tup [.str t,a,b]) (1+max m n)
def jch (k r) (h) (xs) (a b) (m n) (t) (g:h[r]? =y0 (.lst (xs++ [pr a m]++ [pr b n]))) (i:Gc a=k9) (q:Gc b=k9) (y:xs.length<=1000):
 call prog (k+1) "_law_put" [.v (.ref r),.v (.str t)] h= .ok (.v .non) (h.set r (.lst (xs++ [qcc t a b m n]))):=by
 rw [Ga rfl _ _ _ rfl]
 simp only [Kt]
 have j:xs.length<LIM:=by rw [Gk];omega
 have o:(h.set r (.lst (xs++ [pr a m])))[r]? =y0 (.lst (xs++ [pr a m])):=xaj g
 have l:(h.set r (.lst xs))[r]? =y0 (.lst xs):=xaj g
 have d:h.length=(h.set r (.lst (xs++ [qcc t a b m n]))).length:=by rw [Ae7]
 refine fx (by
  simp_all [qg g,Qy,qv]
  rfl) ?_
 refine fx (by
  simp_all [qg o,Qy,qv,List.set_set]
  rfl) ?_
 have s: ∀h,ixD (.v (pr a m)) (.v (.int 1)) h=y0 (.int (m:Int)):=λ_=>rfl
 have x: ∀h,ixD (.v (pr b n)) (.v (.int 1)) h=y0 (.int (n:Int)):=λ_=>rfl
 have v: ∀h,ixD (.v (pr a m)) (.v (.int 0)) h=y0 a:=λ_=>rfl
 have u: ∀h,ixD (.v (pr b n)) (.v (.int 0)) h=y0 b:=λ_=>rfl
 have p:(1:Int)+((max m n:Nat):Int)=((1+max m n:Nat):Int):=by omega
 refine fx (by
  simp_all [s,x,jbI,Qc,p]
  rfl) ?_
 rw [zb]
 have w:Gc (pr a m)=true:=by show(Gc a&&(k9&&k9))=k9;rw [i];rfl
 by_cases c:13<1+max m n
 ·have e:v9 ((13:Int)<((1+max m n:Nat):Int))=true:=decide_eq_true (by omega)
  have f:qcc t a b m n=pr a m:=if_pos c
  rw [qA (h1:=h.set r (.lst xs)) (by simp_all [xr,e]),zb]
  rw [f]at d ⊢
  rw [show exec (u9 k) (.appR 0 (.var 3)) [y0 (.v (.ref r)),y0 (.v (.str t)),y0 (.v (pr b n)),y0 (.v (pr a m)),y0 (.v (.int ((1+max m n:Nat):Int)))] (h.set r (.lst xs))= .next [y0 (.v (.ref r)),y0 (.v (.str t)),y0 (.v (pr b n)),y0 (.v (pr a m)),y0 (.v (.int ((1+max m n:Nat):Int)))] (h.set r (.lst (xs++ [pr a m])))by
   simp_all [qg l]
   rw [if_pos ⟨j,w⟩,List.set_set]]
  exact GI _ _ _ d.symm
 ·have e:v9 ((13:Int)<((1+max m n:Nat):Int))=false:=decide_eq_false (by omega)
  have f:qcc t a b m n=pr (.tup [.str t,a,b]) (1+max m n):=if_neg c
  rw [xU (h1:=h.set r (.lst xs)) (by simp_all [xr,e]),zb]
  rw [f]at d ⊢
  rw [show exec (u9 k) (.appR 0 (.tup (.cons (.tup (.cons (.var 1) (.cons (.ix (.var 3) (.int 0)) (.cons (.ix (.var 2) (.int 0)) .nil)))) (.cons (.var 4) .nil)))) [y0 (.v (.ref r)),y0 (.v (.str t)),y0 (.v (pr b n)),y0 (.v (pr a m)),y0 (.v (.int ((1+max m n:Nat):Int)))] (h.set r (.lst xs))= .next [y0 (.v (.ref r)),y0 (.v (.str t)),y0 (.v (pr b n)),y0 (.v (pr a m)),y0 (.v (.int ((1+max m n:Nat):Int)))] (h.set r (.lst (xs++ [pr (.tup [.str t,a,b]) (1+max m n)])))by
   simp_all [qg l,v,u]
   rw [if_pos ⟨j,qaP i q t _⟩,List.set_set]]
  exact GI _ _ _ d.symm
abbrev hP (a:List (Ex×Nat)) (b:List (Sy×Nat)):AH:= [.lst (a.map pP),.lst (b.map pS)]
def Qz (h:l≠ []): ∃i x,l=i++ [x]:=⟨l.dropLast,l.getLast h,(List.dropLast_concat_getLast h).symm⟩
def JS (h:1<l.length): ∃i x y,l=i++ [x]++ [y]:=by
 obtain⟨i,y,rfl⟩:=Qz (l:=l) (λz=>by rw [z]at h;exact absurd h (Aj5 _))
 obtain⟨a,x,rfl⟩:=Qz (l:=i) (λz=>by rw [z]at h;exact absurd h (Ah1 _))
 exact⟨a,x,y,rfl⟩
def qL {a:Type}(f) (b: ∀x,Gc (f x)=k9) (l:List a):Gf (l.map f)=true:=Qp f b l
def jcA (d) (h):biD .min [.v (.int 13),.v (.int ((d+1:Nat):Int))] h=okv (.int ((min 13 (d+1):Nat):Int)) h:=by
 rw [ja8]
 by_cases c:((d+1:Nat):Int)<13
 ·rw [if_pos c,show min 13 (d+1)=d+1 by omega]
 ·rw [if_neg c,show min 13 (d+1)=13 by omega];rfl
structure xdY (N:List Tx) (ps:List (Ex×Nat)) (ss:List (Sy×Nat)) (m:Nat):Prop where
 p: ∀p∈ps,xdL N p
 s: ∀s∈ss,xdV N s
 lp:ps.length<=m
 ls:ss.length<=m
def qcb (i:Nat) (a b:Ex):Ex:=match i with
 | 0=> .plus a b
 | 1=> .less a b
 | 2=> .both a b
 | _=> .joined a b
def jca (i:Nat):Tx:= [WF,JH,WH,Xq].getD i []
def xcy (i) (c:i<4) (a b):jdK (qcb i a b)= .tup [.str (jca i),jdK a,jdK b]:=by
 match i,c with
 | 0,_=>rfl
 | 1,_=>rfl
 | 2,_=>rfl
 | 3,_=>rfl
def qbM (N) (i) (e:i<4) (a b) (d:a.wf N) (c:b.wf N):(qcb i a b).wf N:=by
 match i,e with
 | 0,_=>exact⟨d,c⟩
 | 1,_=>exact⟨d,c⟩
 | 2,_=>exact⟨d,c⟩
 | 3,_=>exact⟨d,c⟩
def zbX (i) (c:i<4) (a b):(qcb i a b).dp=max a.dp b.dp+1:=by
 match i,c with
 | 0,_=>rfl
 | 1,_=>rfl
 | 2,_=>rfl
 | 3,_=>rfl
def Xp {P:α->Prop}(h: ∀x∈l,P x) (b:P y): ∀x∈l++ [y],P x:=λx a=>(Ae1.mp a).elim (h x) λz=>Ad9.mp z▸b
noncomputable abbrev qdV (K T:List Tx) (w:Nat) (x:Int) (c b a:Option W):Sl:= [y0 (.v (wD K T)),y0 (.v (.ref 0)),y0 (.v (.ref 1)),y0 (.v (.int (w:Int))),y0 (.v (.int x)),c,b,a]
def XH (e:o= .next Y (hP ps ss)):G7 2 o= .ok (.v .non) (hP ps ss):=by rw [e];rfl
def jdb (a:eval F e Y (hP ps ss)= .ok (.v (pP q)) (hP ps ss)) (h1:Gj Y 1=y0 (.v (.ref 0))) (b:ps.length<=1000):exec F (.appR 1 e) Y (hP ps ss)= .next Y (hP (ps++ [q]) ss):=by
 simp_all [a,h1,qg (h:=hP ps ss) (r:=0) rfl]
 rw [if_pos ⟨by rw [Gk,Aa];omega,xbz q⟩]
 unfold hP
 rw [Ac6];rfl
def jdg (a:eval F e Y (hP ps ss)= .ok (.v (pS q)) (hP ps ss)) (h1:Gj Y 2=y0 (.v (.ref 1))) (b:ss.length<=1000):exec F (.appR 2 e) Y (hP ps ss)= .next Y (hP ps (ss++ [q])):=by
 simp_all [a,h1,qg (h:=hP ps ss) (r:=1) rfl]
 rw [if_pos ⟨by rw [Gk,Aa];omega,WZ q⟩]
 unfold hP
 rw [Ac6];rfl
def xdm (k:Nat) (K T:List Tx) (hl:(K++T).length<=100) (g:List (Ex×Nat)) (l:List (Sy×Nat)) (m:Nat) (b:xdY (K++T) g l m) (hm:m<=100) (w:Nat) (hw:w<16) (x:Int):
 ∃N X,xdY (K++T) N X (m+1)/\N≠ []/\call prog (k+2) "_law_op" [.v (wD K T),.v (.ref 0),.v (.ref 1),.v (.int (w:Int)),.v (.int x)] (hP g l)= .ok (.v .non) (hP N X):=by
 have G: ∀(i:Int),(w:Int)<i->v9 ((w:Int)<i)=true:=λi h=>decide_eq_true h
 have u: ∀(i:Int), ¬(w:Int)<i->v9 ((w:Int)<i)=false:=λi h=>decide_eq_false h
 have eP:g≠ []->Gz .eq (.v (.ref 0)) (.own []) (hP g l)=y0 false:=λB=>XL (xs:=g.map pP) rfl (qL pP xbz g) (Ac (xK pP 20 g λx hx=>qcl (b.p x hx)) (by decide)) λz=>B (Ak6.mp z)
 have eS:l≠ []->Gz .eq (.v (.ref 1)) (.own []) (hP g l)=y0 false:=λns=>XL (xs:=l.map pS) rfl (qL pS WZ l) (Ac (xK pS 40 l λx hx=>qbq (b.s x hx)) (by decide)) λz=>ns (Ak6.mp z)
 have lm:=b.lp
 have ls:=b.ls
 by_cases c5:w<5\/g= []
 ·obtain⟨e,we,de,ee⟩:=jcf k K T hl x (hP g l)
  have t5:Gu (u9 (k+1)) (.or (.cmp .lt (.var 3) (.int 5)) (.cmp .eq (.var 1) (.lst .nil))) (List.map y0 [W.v (wD K T),.v (.ref 0),.v (.ref 1),.v (.int (w:Int)),.v (.int x)]++Ab0 (8-5) u0) (hP g l)= .ok k9 (hP g l):=by
   by_cases c:w<5
   ·have E:=G 5 (by omega)
    simp_all [jd,E]
   ·have E:=u 5 (by omega)
    obtain rfl:g= []:=c5.elim (λz=>absurd z c) id
    have e0:Gz .eq (.v (.ref 0)) (.own []) (hP [] l)=y0 true:=by simp [Gz,hP,W.dd,KP,res]
    simp_all [jd,E,e0]
  refine⟨g++ [(e,1)],l,⟨Xp b.p ⟨we,by show e.dp+1<=1;omega,by show 1<=13;decide⟩,b.s,by rw [Aa8];simp;omega,by omega⟩,by simp,?_⟩
  rw [Ga (d:=Gs) rfl _ _ _ rfl]
  simp only [Gs]
  rw [zb,qA (h1:=hP g l) t5,zb]
  exact XH (jdb (q:=(e,1)) (by simp_all [ee];rfl) rfl (by omega))
 have B:g≠ []:=λz=>c5 (.inr z)
 have d5:=u 5 (by have:=λz=>c5 (.inl z);omega)
 have start: ∀(a c:Ss),execs (u9 (k+1)) (.cons (.iff (.or (.cmp .lt (.var 3) (.int 5)) (.cmp .eq (.var 1) (.lst .nil))) a c) .nil) (List.map y0 [W.v (wD K T),.v (.ref 0),.v (.ref 1),.v (.int (w:Int)),.v (.int x)]++Ab0 (8-5) u0) (hP g l)=execs (u9 (k+1)) c (qdV K T w x u0 u0 u0) (hP g l):=λa c=>by
  rw [zb,xU (h1:=hP g l) (by simp_all [jd,d5,eP B])]
  rfl
 by_cases c7:w<7
 ·have d7:=G 7 (by omega)
  obtain⟨i,⟨e,d⟩,rfl⟩:=Qz B
  have Y:=b.p (e,d) (Ab2 _ Aa3)
  have bi: ∀p∈i,xdL (K++T) p:=λp Q=>b.p p (Ac5 _ Q)
  have li:i.length+1<=m:=by have:=lm;rw [Aa8]at this;exact this
  have w56:w=5\/w=6:=by omega
  have S:(d:Int)+1=((d+1:Nat):Int):=rfl
  have mn:=jcA d
  obtain⟨U,we,de,ee⟩: ∃U:Ex,U.wf (K++T)/\U.dp+1<=min 13 (d+1)/\ ∀h,exec (u9 (k+1)) (.iff (.cmp .lt (.var 6) (.int 13)) (.cons (.setf 5 (.tup (.cons (.ix (.lst (.cons (.str Wz) (.cons (.str xz) .nil))) (.bin .sub (.var 3) (.int 5))) (.cons (.var 5) .nil)))) .nil) .nil) (qdV K T w x (y0 (.v (jdK e))) (y0 (.v (.int (d:Int)))) u0) h= .next (qdV K T w x (y0 (.v (jdK U))) (y0 (.v (.int (d:Int)))) u0) h:=by
   have q1:e.dp+1<=d:=Y.dp
   have q2:d<=13:=Y.le
   by_cases c:d<13
   ·have dd:v9 ((d:Int)<(13:Int))=true:=decide_eq_true (by omega)
    rcases w56 with rfl | rfl
    ·refine⟨.turned e,Y.wf,by show e.dp+1+1<=_;omega,λh=> ?_⟩
     rw [qA (h1:=h) (by simp_all [jd,dd]),zb]
     simp_all [jt,Zr]
     rfl
    ·refine⟨.closed e,Y.wf,by show e.dp+1+1<=_;omega,λh=> ?_⟩
     rw [qA (h1:=h) (by simp_all [jd,dd]),zb]
     simp_all [jt,Zr]
     rfl
   ·have dd:v9 ((d:Int)<(13:Int))=false:=decide_eq_false (by omega)
    refine⟨e,Y.wf,by omega,λh=> ?_⟩
    rw [xU (h1:=h) (by simp_all [jd,dd])]
    rfl
  refine⟨i++ [(U,min 13 (d+1))],l,⟨Xp bi ⟨we,de,Nat.min_le_left _ _⟩,b.s,by rw [Aa8];simp;omega,by omega⟩,by simp,?_⟩
  rw [Ga (d:=Gs) rfl _ _ _ rfl]
  simp only [Gs]
  rw [start,zb,qA (h1:=hP (i++ [(e,d)]) l) (by simp_all [jd,d7])]
  have cd:cellD (hP (i++ [(e,d)]) l) (y0 (.v (.ref 0)))=y0 (0,i.map pP++ [pr (jdK e) d]):=by
   show y0 (0,(i++ [(e,d)]).map pP)=_
   rw [Ac6];rfl
  refine fx (by
   simp_all [cd,Qy,qv]
   rfl) ?_
  rw [za (ee _),zb]
  exact XH (jdb (q:=(U,min 13 (d+1))) (by simp_all [Qc,S,mn];rfl) rfl (by omega))
 have d7:=u 7 (by omega)
 by_cases c11:w<11
 ·have O:=G 11 (by omega)
  have I:=jT (h:=hP g l) (r:=0) (xs:=g.map pP) rfl
  rw [Aa]at I
  rw [Ga (d:=Gs) rfl _ _ _ rfl]
  simp only [Gs]
  rw [start,zb,xU (h1:=hP g l) (by simp_all [jd,d7]),zb,qA (h1:=hP g l) (by simp_all [jd,O]),zb]
  by_cases c1:1<g.length
  ·have L:v9 ((1:Int)<(g.length:Int))=true:=decide_eq_true (by omega)
   rw [qA (h1:=hP g l) (by simp_all [I,xr,L]),zb]
   obtain⟨i,⟨e,d⟩,⟨v,n⟩,rfl⟩:=JS c1
   have J:=b.p (e,d) (Ac5 _ (Ab2 _ Aa3))
   have Z:=b.p (v,n) (Ab2 _ Aa3)
   have bi: ∀p∈i,xdL (K++T) p:=λp Q=>b.p p (Ac5 _ (Ac5 _ Q))
   have li:i.length+2<=m:=by have:=lm;rw [Aa8,Aa8]at this;exact this
   have P:w-7<4:=by omega
   have ej:(w:Int)-7=((w-7:Nat):Int):=by omega
   have aj:atI [D.str WF,.str JH,.str WH,.str Xq] ((w-7:Nat):Int)=y0 (.str (jca (w-7))):=by
    rw [Jl _ _ (by show w-7<4;exact P)]
    have: ∀j,j<4-> [D.str WF,.str JH,.str WH,.str Xq][j]? =y0 (.str (jca j)):=λj P=>by
     match j,P with
     | 0,_=>rfl
     | 1,_=>rfl
     | 2,_=>rfl
     | 3,_=>rfl
    exact this _ P
   have F:=jch k 0 (hP (i++ [(e,d)]++ [(v,n)]) l) (i.map pP) (jdK e) (jdK v) d n (jca (w-7)) (by show y0 (Cell.lst ((i++ [(e,d)]++ [(v,n)]).map pP))=_;rw [Ac6,Ac6];rfl) (qf e) (qf v) (by rw [Aa];omega)
   obtain⟨q,oq,eq⟩: ∃q:Ex×Nat,xdL (K++T) q/\qcc (jca (w-7)) (jdK e) (jdK v) d n=pP q:=by
    by_cases c:13<1+max d n
    ·exact⟨(e,d),J,if_pos c⟩
    ·refine⟨(qcb (w-7) e v,1+max d n),⟨qbM _ _ P _ _ J.wf Z.wf,?_,by show 1+max d n<=13;omega⟩,?_⟩
     ·show(qcb (w-7) e v).dp+1<=1+max d n
      rw [zbX _ P]
      have q1:e.dp+1<=d:=J.dp
      have q2:v.dp+1<=n:=Z.dp
      omega
     ·show(if 13<1+max d n then _ else _)=pr (jdK (qcb (w-7) e v)) (1+max d n)
      rw [if_neg c,xcy _ P]
   rw [eq]at F
   have F:call prog (k+1) "_law_put" [.v (.ref 0),.v (.str (jca (w-7)))] (hP (i++ [(e,d)]++ [(v,n)]) l)= .ok (.v .non) (hP (i++ [q]) l):=by
    rw [F]
    show R.ok (W.v .non) [.lst (i.map pP++ [pP q]),.lst (l.map pS)]= .ok (.v .non) [.lst ((i++ [q]).map pP),.lst (l.map pS)]
    rw [Ac6];rfl
   refine⟨i++ [q],l,⟨Xp bi oq,b.s,by rw [Aa8];simp;omega,by omega⟩,by simp,?_⟩
   exact XH (by simp_all [jt,ej,Zr,aj,F];rfl)
  ·have L:v9 ((1:Int)<(g.length:Int))=false:=decide_eq_false (by omega)
   refine⟨g,l,⟨b.p,b.s,by omega,by omega⟩,B,?_⟩
   rw [xU (h1:=hP g l) (by simp_all [I,xr,L])]
   exact GI _ _ _ rfl
 have O:=u 11 (by omega)
 have M: ∀(a c e:Ss),execs (u9 (k+1)) (.cons (.iff (.cmp .lt (.var 3) (.int 7)) a (.cons (.iff (.cmp .lt (.var 3) (.int 11)) c e) .nil)) .nil) (qdV K T w x u0 u0 u0) (hP g l)=execs (u9 (k+1)) e (qdV K T w x u0 u0 u0) (hP g l):=λa c e=>by
  rw [zb,xU (h1:=hP g l) (by simp_all [jd,d7]),zb,xU (h1:=hP g l) (by simp_all [jd,O])]
 by_cases C:w<14\/l= []
 ·obtain⟨f,wf,df,ef⟩:=zbr k (K++T) g b.p B x (hP g l) rfl
  have t14:Gu (u9 (k+1)) (.or (.cmp .lt (.var 3) (.int 14)) (.cmp .eq (.var 2) (.lst .nil))) (qdV K T w x u0 u0 u0) (hP g l)= .ok k9 (hP g l):=by
   by_cases c:w<14
   ·have E:=G 14 (by omega)
    simp_all [jd,E]
   ·have E:=u 14 (by omega)
    obtain rfl:l= []:=C.elim (λz=>absurd z c) id
    have e0:Gz .eq (.v (.ref 1)) (.own []) (hP g [])=y0 true:=by simp [Gz,hP,W.dd,KP,res]
    simp_all [jd,E,e0]
  refine⟨g,l++ [(.fact f,1)],⟨b.p,Xp (y:=(Sy.fact f,1)) b.s ⟨wf,by show f.dp<=1+11;omega,Aa5 1,by show 1<=13;decide⟩,by omega,by rw [Aa8];simp;omega⟩,B,?_⟩
  rw [Ga (d:=Gs) rfl _ _ _ rfl]
  simp only [Gs]
  rw [start,M,zb,qA (h1:=hP g l) t14,zb]
  exact XH (jdg (q:=(.fact f,1)) (by simp_all [ef];rfl) rfl (by omega))
 have ns:l≠ []:=λz=>C (.inr z)
 have d14:=u 14 (by have:=λz=>C (.inl z);omega)
 have H: ∀(a e:Ss),execs (u9 (k+1)) (.cons (.iff (.or (.cmp .lt (.var 3) (.int 14)) (.cmp .eq (.var 2) (.lst .nil))) a e) .nil) (qdV K T w x u0 u0 u0) (hP g l)=execs (u9 (k+1)) e (qdV K T w x u0 u0 u0) (hP g l):=λa e=>by
  rw [zb,xU (h1:=hP g l) (by simp_all [jd,d14,eS ns])]
 have w14: ¬w<14:=λz=>C (.inl z)
 by_cases c15:w=14
 ·have E:Gz .eq (.v (.int (w:Int))) (.v (.int 14)) (hP g l)=y0 true:=by rw [wk,decide_eq_true (by omega)]
  obtain⟨i,⟨s,d⟩,rfl⟩:=Qz ns
  have os:=b.s (s,d) (Ab2 _ Aa3)
  have bi: ∀p∈i,xdV (K++T) p:=λp Q=>b.s p (Ac5 _ Q)
  have li:i.length+1<=m:=by have:=ls;rw [Aa8]at this;exact this
  have S:(d:Int)+1=((d+1:Nat):Int):=rfl
  have mn:=jcA d
  obtain⟨V,ws,ds,es⟩: ∃V:Sy,V.wf (K++T)/\V.dp<=min 13 (d+1)+11/\ ∀h,exec (u9 (k+1)) (.iff (.cmp .lt (.var 6) (.int 13)) (.cons (.setf 7 (.tup (.cons (.str qbT) (.cons (.var 7) .nil)))) .nil) .nil) (qdV K T w x u0 (y0 (.v (.int (d:Int)))) (y0 (.v (xd4 s)))) h= .next (qdV K T w x u0 (y0 (.v (.int (d:Int)))) (y0 (.v (xd4 V)))) h:=by
   have q1:s.dp<=d+11:=os.dp
   have q2:d<=13:=os.le
   by_cases c:d<13
   ·have dd:v9 ((d:Int)<(13:Int))=true:=decide_eq_true (by omega)
    refine⟨.neg s,os.wf,by show s.dp+1<=_;omega,λh=> ?_⟩
    rw [qA (h1:=h) (by simp_all [jd,dd]),zb]
    simp_all []
    rfl
   ·have dd:v9 ((d:Int)<(13:Int))=false:=decide_eq_false (by omega)
    refine⟨s,os.wf,by omega,λh=> ?_⟩
    rw [xU (h1:=h) (by simp_all [jd,dd])]
    rfl
  refine⟨g,i++ [(V,min 13 (d+1))],⟨b.p,Xp bi ⟨ws,ds,by show 1<=min 13 (d+1);omega,Nat.min_le_left _ _⟩,by omega,by rw [Aa8];simp;omega⟩,B,?_⟩
  rw [Ga (d:=Gs) rfl _ _ _ rfl]
  simp only [Gs]
  rw [start,M,H,zb,qA (h1:=hP g (i++ [(s,d)])) (by simp_all [E])]
  have cd:cellD (hP g (i++ [(s,d)])) (y0 (.v (.ref 1)))=y0 (1,i.map pS++ [pr (xd4 s) d]):=by
   show y0 (1,(i++ [(s,d)]).map pS)=_
   rw [Ac6];rfl
  refine fx (by
   simp_all [cd,Qy,qv]
   rfl) ?_
  rw [za (es _),zb]
  exact XH (jdg (q:=(V,min 13 (d+1))) (by simp_all [Qc,S,mn];rfl) rfl (by omega))
 have d15:Gz .eq (.v (.int (w:Int))) (.v (.int 14)) (hP g l)=y0 false:=by rw [wk,decide_eq_false (by omega)]
 have I:=jT (h:=hP g l) (r:=1) (xs:=l.map pS) rfl
 rw [Aa]at I
 rw [Ga (d:=Gs) rfl _ _ _ rfl]
 simp only [Gs]
 rw [start,M,H,zb,xU (h1:=hP g l) (by simp_all [d15]),zb]
 by_cases c1:1<l.length
 ·have L:v9 ((1:Int)<(l.length:Int))=true:=decide_eq_true (by omega)
  rw [qA (h1:=hP g l) (by simp_all [I,xr,L]),zb]
  obtain⟨i,⟨s,d⟩,⟨A,n⟩,rfl⟩:=JS c1
  have J:=b.s (s,d) (Ac5 _ (Ab2 _ Aa3))
  have Z:=b.s (A,n) (Ab2 _ Aa3)
  have bi: ∀p∈i,xdV (K++T) p:=λp Q=>b.s p (Ac5 _ (Ac5 _ Q))
  have li:i.length+2<=m:=by have:=ls;rw [Aa8,Aa8]at this;exact this
  have m2:=jn x 2 (by decide)
  obtain⟨z,hz,ez⟩:=Zh x 2 (by decide)
  have ez:x % 2=(z:Int):=ez
  rw [ez]at m2
  obtain⟨t,f,ft,at2,fw,fd⟩: ∃(t:Tx) (f:Sy->Sy->Sy),(∀ a b,xd4 (f a b)= .tup [.str t,xd4 a,xd4 b])/\atI [D.str za2,.str zcP] (z:Int)=y0 (.str t)/\(∀ a b,a.wf (K++T)->b.wf (K++T)->(f a b).wf (K++T))/\ ∀a b,(f a b).dp=max a.dp b.dp+1:=by
   have z01:z=0\/z=1:=by omega
   rcases z01 with rfl | rfl
   ·exact⟨za2,.conj,λ_ _=>rfl,rfl,λ_ _ o h2=>⟨o,h2⟩,λ_ _=>rfl⟩
   ·exact⟨zcP,.disj,λ_ _=>rfl,rfl,λ_ _ o h2=>⟨o,h2⟩,λ_ _=>rfl⟩
  have F:=jch k 1 (hP g (i++ [(s,d)]++ [(A,n)])) (i.map pS) (xd4 s) (xd4 A) d n t (by show y0 (Cell.lst ((i++ [(s,d)]++ [(A,n)]).map pS))=_;rw [Ac6,Ac6];rfl) (Ju s) (Ju A) (by rw [Aa];omega)
  obtain⟨q,oq,eq⟩: ∃q:Sy×Nat,xdV (K++T) q/\qcc t (xd4 s) (xd4 A) d n=pS q:=by
   by_cases c:13<1+max d n
   ·exact⟨(s,d),J,if_pos c⟩
   ·refine⟨(f s A,1+max d n),⟨fw _ _ J.wf Z.wf,?_,by show 1<=1+max d n;omega,by show 1+max d n<=13;omega⟩,?_⟩
    ·show(f s A).dp<=1+max d n+11
     rw [fd]
     have q1:s.dp<=d+11:=J.dp
     have q2:A.dp<=n+11:=Z.dp
     omega
    ·show(if 13<1+max d n then _ else _)=pr (xd4 (f s A)) (1+max d n)
     rw [if_neg c,ft]
  rw [eq]at F
  have F:call prog (k+1) "_law_put" [.v (.ref 1),.v (.str t)] (hP g (i++ [(s,d)]++ [(A,n)]))= .ok (.v .non) (hP g (i++ [q])):=by
   rw [F]
   show R.ok (W.v .non) [.lst (g.map pP),.lst (i.map pS++ [pS q])]= .ok (.v .non) [.lst (g.map pP),.lst ((i++ [q]).map pS)]
   rw [Ac6];rfl
  refine⟨g,i++ [q],⟨b.p,Xp bi oq,by omega,by rw [Aa8];simp;omega⟩,B,?_⟩
  exact XH (by simp_all [m2,Zr,at2,F];rfl)
 ·have L:v9 ((1:Int)<(l.length:Int))=false:=decide_eq_false (by omega)
  refine⟨g,l,⟨b.p,b.s,by omega,by omega⟩,B,?_⟩
  rw [xU (h1:=hP g l) (by simp_all [I,xr,L])]
  exact GI _ _ _ rfl
def xdC (i j:Int) (a:0<j) (h1:j<2000) (h:AH):biD .divmod [.v (.int i),.v (.int j)] h=okv (.tup [.int (i / j),.int (i % j)]) h:=by
 rw [Qj,if_pos (by rw [G8];omega)]
noncomputable abbrev zdD (K T:List Tx) (x:Int) (c f b a d e:Option W):Sl:= [y0 (.v (wD K T)),y0 (.v (.int x)),y0 (.v (.ref 0)),y0 (.v (.ref 1)),c,f,b,a,d,e]
def zbP (k:Nat) (K T:List Tx) (s:(K++T).length<=100) (d:List (Ex×Nat)) (e:List (Sy×Nat)) (m:Nat) (b:xdY (K++T) d e m) (q:m<=100) (x:Int) (h u o:Option W):
 ∃a c y j i,xdY (K++T) a c (m+1)/\a≠ []/\execs (u9 (k+2)) Qg (zdD K T x h u o u0 u0 u0) (hP d e)= .next (zdD K T y h j i u0 u0 u0) (hP a c):=by
 obtain⟨w,t,f⟩:=Zh x 16 (by decide)
 have f:x % 16=(w:Int):=f
 have g:=xdC x 16 (by decide) (by decide) (hP d e)
 rw [f]at g
 have l:=xdC (x / 16) 1600 (by decide) (by decide) (hP d e)
 obtain⟨a,c,n,r,p⟩:=xdm k K T s d e m b q w t (x / 16 % 1600)
 refine⟨a,c,x / 16 / 1600,y0 (.v (.int (w:Int))),y0 (.v (.int (x / 16 % 1600))),n,r,?_⟩
 simp only [Qg]
 refine(za (by simp_all [g];rfl)).trans ?_
 refine(za (by simp_all [l];rfl)).trans ?_
 rw [zb]
 simp_all [p]
theorem zco (k:Nat) (K T:List Tx) (A:(K++T).length<=100): ∀(l:List Nat) (a:List (Ex×Nat)) (e:List (Sy×Nat)) (m:Nat) (x:Int) (j f d:Option W),xdY (K++T) a e m->(l= []->a≠ [])->m+l.length<=100 →
 ∃c g y F o n,xdY (K++T) c g (m+l.length)/\c≠ []/\Gr (Gp [4] k9) (λY h=>execs (u9 (k+2)) Qg Y h) (l.map λ(i:Nat)=> .int (i:Int)) (zdD K T x j f d u0 u0 u0) (hP a e)= .next (zdD K T y F o n u0 u0 u0) (hP c g)
 | [],a,e,m,x,j,f,d,b,w,v=>⟨a,e,x,j,f,d,b,w rfl,rfl⟩
 | i::l,a,e,m,x,j,f,d,b,w,v=>by
  rw [Ab4]at v
  obtain⟨s,u,y,o,n,D,q,B⟩:=zbP k K T A a e m b (by omega) x (y0 (.v (.int (i:Int)))) f d
  obtain⟨p,r,z,H,G,C,E,t,I⟩:=zco k K T A l s u (m+1) y (y0 (.v (.int (i:Int)))) o n D (λ_=>q) (by omega)
  refine⟨p,r,z,H,G,C,by rw [Ab4,show m+(l.length+1)=m+1+l.length by omega];exact E,t,?_⟩
  rw [Aa9,xa (Y1:=zdD K T x (y0 (.v (.int (i:Int)))) f d u0 u0 u0) rfl B,I]
theorem xcE {F:Fx}(K T:List Tx){N:List Tx}(x:Int) (b d a:Option W) (h:AH): ∀(l:List (Sy×Nat)) (s:Sy) (g f:Option W) (c:Nat),(∀ p∈l,xdV N p)->s.wf N->s.dp<=c->24<=c →
 ∃s' m i,s'.wf N/\s'.dp<=c+l.length/\Gr (Gp [8,9] y9) (λY h=>execs F Xg Y h) (l.map pS) (zdD K T x b d a (y0 (.v (xd4 s))) g f) h= .next (zdD K T x b d a (y0 (.v (xd4 s'))) m i) h
 | [],s,g,f,c,_,j,o,_=>⟨s,g,f,j,o,rfl⟩
 | p::l,s,g,f,c,n,j,o,w=>by
  have k:=n p Aa3
  have v:=k.dp
  have z:=k.le
  have r:(Sy.conj s p.1).dp<=c+1:=by
   show max s.dp p.1.dp+1<=c+1
   omega
  obtain⟨s',m,i,u,y,e⟩:=xcE (F:=F) K T x b d a h l (.conj s p.1) (y0 (.v (xd4 p.1))) (y0 (.v (.int (p.2:Int)))) (c+1) (λq t=>n q (Aa1 _ t)) ⟨j,k.wf⟩ r (by omega)
  refine⟨s',m,i,u,by rw [Ab4];omega,?_⟩
  rw [Aa9,xa (Y1:=zdD K T x b d a (y0 (.v (xd4 s))) (y0 (.v (xd4 p.1))) (y0 (.v (.int (p.2:Int))))) (Y2:=zdD K T x b d a (y0 (.v (xd4 (.conj s p.1)))) (y0 (.v (xd4 p.1))) (y0 (.v (.int (p.2:Int))))) rfl (by
   simp only [Xg]
   rw [zb]
   simp_all []
   rfl),e]
def zbU {h:AH}{r:Nat}{x:D}{xs:List D}(c:h[r]? =y0 (.lst (x::xs))):slD (.v (.ref r)) (y0 1) u0 h= .ok (.own xs) h:=by
 have e:(W.v (.ref r)).lst? h=y0 (x::xs):=by simp [W.lst?,c]
 show(match (W.v (.ref r)).lst? h with
  | some xs=>R.ok (W.own (cut xs (y0 1) u0)) h
  | none=> .fail)=_
 rw [e]
 show R.ok (W.own (cut (x::xs) (y0 1) u0)) h=_
 rw [show cut (x::xs) (y0 1) u0=xs from by
  have b:sIx (x::xs).length 0 (y0 1)=1:=by simp [sIx]
  have a:sIx (x::xs).length (x::xs).length u0=(x::xs).length:=rfl
  unfold cut
  rw [b,a]
  simp]
def w5 (k) (K T) (D:(K++T).length<=100) (x): ∃s:Sy,s.wf (K++T)/\s.dp<=40/\call prog (k+3) "_law_saying" [.v (wD K T),.v (.int x)] []= .ok (.v (xd4 s)) []:=by
 obtain⟨a,c,y,n,j,i,b,N,e⟩:=zco k K T D (Aa0 7) [] [] 0 x u0 u0 u0 ⟨λ_ h=>absurd h Ac0,λ_ h=>absurd h Ac0,Ah2 _,Ah2 _⟩ (λh=>by cases h) (by decide)
 have u: ∀ c y i,(∀ p∈c,xdV (K++T) p)->c≠ []->c.length<=10-> ∃s:Sy,s.wf (K++T)/\s.dp<=40/\G7 0 (execs (u9 (k+2)) (.cons (.setf 7 (.ix (.ix (.var 3) (.int 0)) (.int 0))) (.cons (.for [8,9] y9 (.seq (.slL (.var 3) (.int 1))) Xg) (.cons (.ret (.var 7)) .nil))) (zdD K T y n j i u0 u0 u0) (hP a c))= .ok (.v (xd4 s)) []:=by
  intro c y i o O D
  cases c with
  | nil=>exact absurd rfl O
  | cons p l=>
   have B:=o p Aa3
   have U:=B.dp
   have X:=B.le
   obtain⟨t,L,Q,g,v,e⟩:=xcE K T y n j i (hP a (p::l)) l p.1 u0 u0 24 (λq J=>o q (Aa1 _ J)) B.wf (by omega) (Aa5 _)
   rw [Ab4]at D
   refine⟨t,g,by omega,?_⟩
   have F:=xaF (h:=hP a (p::l)) (r:=1) (xs:=(p::l).map pS) rfl 0
   have H: ∀h,ixD (.v (pS p)) (.v (.int 0)) h=y0 (xd4 p.1):=λ_=>rfl
   have P:atI ((p::l).map pS) 0=y0 (pS p):=by rw [Aa9,xo]
   rw [P]at F
   refine fx (by simp_all [F,H];rfl) ?_
   have sl:=zbU (h:=hP a (p::l)) (r:=1) (x:=pS p) (xs:=l.map pS) rfl
   rw [za (h1:=hP a (p::l)) (Y1:=zdD K T y n j i (y0 (.v (xd4 t))) L Q) (by
    rw [exec,show Gw (u9 (k+2)) (.seq (.slL (.var 3) (.int 1))) (zdD K T y n j i (y0 (.v (xd4 p.1))) u0 u0) (hP a (p::l))= .ok (l.map pS) (hP a (p::l))by simp_all [sl],R.toO_ok]
    exact e)]
   rw [wb (w:= .v (xd4 t)) (h1:=hP a (p::l)) rfl]
   show fin 0 (.v (xd4 t)) (hP a (p::l))=_
   unfold fin
   rw [if_neg (by show ¬(2:Nat)=0;decide),if_pos (show (W.v (xd4 t)).keep=k9 from Ju t)]
   rfl
 rw [Ga (d:=GE) rfl _ _ _ rfl]
 simp only [GE]
 rw [za (h1:= [.lst []]) (Y1:= [y0 (.v (wD K T)),y0 (.v (.int x)),y0 (.v (.ref 0)),u0,u0,u0,u0,u0,u0,u0]) (by simp_all [Gf,if_true];rfl)]
 rw [za (h1:=hP [] []) (Y1:=zdD K T x u0 u0 u0 u0 u0 u0) (by simp_all [Gf,if_true];rfl)]
 rw [za (h1:=hP a c) (Y1:=zdD K T y n j i u0 u0 u0) (by
  rw [exec,JF,Jd (m:=7) (by rw [eval];rfl) (by decide),R.toO_ok]
  exact e)]
 by_cases o:c= []
 ·subst o
  have I:=xdC y 1600 (by decide) (by decide) (hP a [])
  obtain⟨f,wf,V,C⟩:=zbr (k+1) (K++T) a b.p N (y % 1600) (hP a []) rfl
  have C:call prog (k+2) "_law_fact" [.v (.ref 0),.v (.int (y % 1600))] (hP a [])= .ok (.v (xd2 f)) (hP a []):=C
  have S:Gc (pr (xd4 (.fact f)) 1)=true:=WZ (.fact f,1)
  have A:Gz .eq (.v (.ref 1)) (.own []) (hP a [])=y0 true:=by simp [Gz,hP,W.dd,KP,res]
  obtain⟨s,g,v,E⟩:=u [(.fact f,1)] (y / 1600) (y0 (.v (.int (y % 1600)))) (λp G=>by
   obtain rfl:=Ad9.mp G
   exact⟨wf,by show f.dp<=1+11;omega,Aa5 1,by show 1<=13;decide⟩) (by simp) (show 1<=10 by decide)
  refine⟨s,g,v,?_⟩
  rw [za (h1:=hP a [(.fact f,1)]) (Y1:=zdD K T (y / 1600) n j (y0 (.v (.int (y % 1600)))) u0 u0 u0) (by
   rw [qA (h1:=hP a []) (by simp_all [A])]
   rw [za (h1:=hP a []) (Y1:=zdD K T (y / 1600) n j (y0 (.v (.int (y % 1600)))) u0 u0 u0) (by simp_all [I])]
   rw [zb]
   simp_all [qg (h:=hP a []) (r:=1) rfl,C]
   rw [if_pos ⟨by rw [Gk];decide,S⟩]
   rfl)]
  exact E
 ·have A:Gz .eq (.v (.ref 1)) (.own []) (hP a c)=y0 false:=XL (xs:=c.map pS) rfl (qL pS WZ c) (Ac (xK pS 40 c λx M=>qbq (b.s x M)) (by decide)) λz=>o (Ak6.mp z)
  have bl:=b.ls
  rw [Aj9]at bl
  obtain⟨s,g,v,E⟩:=u c y i b.s o (by omega)
  refine⟨s,g,v,?_⟩
  refine fx (by
   rw [xU (h1:=hP a c) (by simp_all [A])]
   rfl) ?_
  exact E
def qcF (i:Nat) (j:Nat) (h:i<2000000) (a:j<100):Gn .pow (i:Int) (j:Int)=y0 ((i:Int) ^ j):=by
 have: 0<=(j:Int)/\ j<=BP/\((i:Int)).natAbs<jdz:=by rw [KR,G9];refine⟨by omega,by omega,?_⟩;rw [Int.natAbs_natCast];omega
 show(if _ then _ else _)=_
 rw [if_pos this];rfl
def Q5 (k) (x) (h): ∃y:Int,call prog (k+1) "_law_spread" [.v (.int x)] h= .ok (.v (.int y)) h:=by
 have c:=jn x 1000003 (by decide)
 obtain⟨u,i,b⟩:=Zh x 1000003 (by decide)
 have b:x % 1000003= u:=b
 rw [b]at c
 have a: u+29=((u+29:Nat):Int):=rfl
 have g:Gn .pow ((u+29:Nat):Int) 11=y0 (((u+29:Nat):Int) ^ 11):=qcF (u+29) 11 (by omega) (by decide)
 have f:Gn .pow ((u+29:Nat):Int) 7=y0 (((u+29:Nat):Int) ^ 7):=qcF (u+29) 7 (by omega) (by decide)
 have d:Gn .mul 31 (((u+29:Nat):Int) ^ 7)=y0 (31*((u+29:Nat):Int) ^ 7):=by
  show(if _ then _ else _)=_
  rw [if_pos (.inl (by rw [Pa];decide))]
 have e:=jr (((u+29:Nat):Int) ^ 11+31*((u+29:Nat):Int) ^ 7) 13 (by decide) (by decide)
 refine⟨(((u+29:Nat):Int) ^ 11+31*((u+29:Nat):Int) ^ 7) / 13,?_⟩
 rw [Ga rfl _ _ _ rfl]
 simp only [GW]
 refine fx (by simp_all [c,Qc,a];rfl) ?_
 rw [wb (w:= .v (.int ((((u+29:Nat):Int) ^ 11+31*((u+29:Nat):Int) ^ 7) / 13))) (h1:=h) (Xc rfl (by simp_all [g,f,d,Qc,e]))]
 exact Gb _ _ _ rfl
def xbG (f:α->β) (xs) (lo hi):cut (xs.map f) lo hi=(cut xs lo hi).map f:=by
 unfold cut
 rw [Aa,List.map_take,List.map_drop]
def zbH (xs:List α) (lo hi):(cut xs lo hi).length<=xs.length:=by
 unfold cut
 rw [Ag4,Ai9]
 omega
def zaC (k:Nat) (ns:List Int) (v:ns.length<=63) (K T:List Tx) (p:(K++T).length<=100) (b u:Nat): ∃ss:List Sy,ss.length<=63/\(∀ s∈ss,s.wf (K++T)/\s.dp<=40)/\call prog (k+4) "_law_sayings" [.v (.lst (ns.map .int)),.v (wD K T),.v (.int (b:Int)),.v (.int (u:Int))] []= .ok (.v (.tup (ss.map xd4))) []:=by
 have fin: ∀a:List Int,a.length<=63-> ∃ss:List Sy,ss.length<=63/\(∀ s∈ss,s.wf (K++T)/\s.dp<=40)/\exec (u9 (k+3)) (.ret (.bi .tuple (.cons Zf .nil))) [y0 (.v (.lst (ns.map .int))),y0 (.v (wD K T)),y0 (.v (.int (b:Int))),y0 (.v (.int (u:Int))),y0 (.v (.lst (a.map .int)))] []= .ret (.v (.tup (ss.map xd4))) []:=λa h=>by
  obtain⟨g,f⟩: ∃g:Int->Sy,∀x,(g x).wf (K++T)/\(g x).dp<=40/\call prog (k+3) "_law_saying" [.v (wD K T),.v (.int x)] []= .ok (.v (xd4 (g x))) []:=⟨fun x=>Classical.choose (w5 k K T p x),fun x=>Classical.choose_spec (w5 k K T p x)⟩
  refine⟨a.map g,by rw [Aa];exact h,λs q=> ?_,?_⟩
  ·obtain⟨x,_,rfl⟩:=Ab9.mp q
   exact⟨(f x).1,(f x).2.1⟩
  ·refine Xc rfl ?_
   have e:eval (u9 (k+3)) Zf [y0 (.v (.lst (ns.map .int))),y0 (.v (wD K T)),y0 (.v (.int (b:Int))),y0 (.v (.int (u:Int))),y0 (.v (.lst (a.map .int)))] []= .ok (.own (a.map λx=>xd4 (g x))) []:=by
    unfold Zf
    refine xf D.int (λx=>xd4 (g x)) a (zcQ (by simp_all [])) (by omega) λx t=>⟨.v (xd4 (g x)),?_,rfl⟩
    have l:=(f x).2.2
    simp_all [l]
   rw [Ac8]
   simp_all [e]
   rfl
 have j:=xcc (k+2) ns 0 []
 have o:=jn (ns.getD 0 0) 2 (by decide)
 have w:(b:Int)+(u:Int)=((b+u:Nat):Int):=rfl
 rw [Ga (d:=Gx) rfl _ _ _ rfl]
 simp only [Gx]
 have h:(cut ns (y0 (b:Int)) (y0 ((b+u:Nat):Int))).length<=63:=Ac (zbH _ _ _) v
 rw [za (h1:= []) (Y1:= [y0 (.v (.lst (ns.map .int))),y0 (.v (wD K T)),y0 (.v (.int (b:Int))),y0 (.v (.int (u:Int))),y0 (.v (.lst ((cut ns (y0 (b:Int)) (y0 ((b+u:Nat):Int))).map .int)))]) (by
  simp_all [Qc,int?_int,zcL,xbG,w])]
 generalize cut ns (y0 (b:Int)) (y0 ((b+u:Nat):Int))=a at h
 have j:call prog (k+3) "_law_nth" [.v (.lst (ns.map .int)),.v (.int 0)] []= .ok (.v (.int (ns.getD 0 0))) []:=j
 obtain⟨g,f⟩: ∃g:Int->Int,∀x,call prog (k+3) "_law_spread" [.v (.int x)] []= .ok (.v (.int (g x))) []:=⟨fun x=>Classical.choose (Q5 (k+2) x []),fun x=>Classical.choose_spec (Q5 (k+2) x [])⟩
 by_cases c:ns.getD 0 0 % 2=1
 ·have r:eval (u9 (k+3)) Zj [y0 (.v (.lst (ns.map .int))),y0 (.v (wD K T)),y0 (.v (.int (b:Int))),y0 (.v (.int (u:Int))),y0 (.v (.lst (a.map .int)))] []= .ok (.own ((a.map g).map .int)) []:=by
   rw [Ac8]
   unfold Zj
   refine xf D.int (λx=> .int (g x)) a (zcQ (by simp_all [])) (by omega) λx t=>⟨.v (.int (g x)),?_,rfl⟩
   have l:=f x
   simp_all [l]
  obtain⟨ss,i,m,n⟩:=fin (a.map g) (by rw [Aa];exact h)
  refine⟨ss,i,m,?_⟩
  refine fx (by
   rw [qA (h1:= []) (by simp_all [j,o,wk,c,decide_true])]
   rw [zb]
   simp_all [r]
   rfl) ?_
  rw [wb n]
  exact Gb _ _ _ rfl
 ·obtain⟨ss,i,m,n⟩:=fin a h
  refine⟨ss,i,m,?_⟩
  rw [Za (by simp_all [j,o,wk,c,decide_false])]
  rw [wb n]
  exact Gb _ _ _ rfl
theorem zbA: ∀(ws) (c),(dg ws c).length=ws.length
 | [],_=>rfl
 | w::ws,c=>by rw [dg,Ab4,zbA ws,Ab4]
theorem zcM: ∀(ws:List Nat) (c),(∀ w∈ws,w<=16)->jdw (ws.zip (dg ws c))
 | [],_,_=>λq h=>by cases h
 | w::ws,c,a=>λq h=>by
  rcases Ab7.mp (show q∈(w,c % 2 ^ w)::ws.zip (dg ws (c / 2 ^ w))from h)with rfl | h
  ·exact⟨Ap1 _ (Aj1 (by decide)),a w Aa3⟩
  ·exact zcM ws _ (λx b=>a x (Aa1 _ b)) q h
theorem jcs: ∀(ws:List Nat) (c),c<2 ^ ws.sum->cd (ws.zip (dg ws c))=c
 | [],c,h=>by
  have:c=0:=by simpa using h
  rw [this];rfl
 | w::ws,c,h=>by
  show c % 2 ^ w+2 ^ w*cd (ws.zip (dg ws (c / 2 ^ w)))=c
  rw [jcs ws (c / 2 ^ w) ?_,Nat.mod_add_div]
  rw [Af7,Al1,Ai2]at h
  exact Nat.div_lt_of_lt_mul (by rw [Ai2];exact h)
def xa0 (h:n<=4) (j:K<=4) (i:T<=4) (l:c<2 ^ (qdI n K T).sum): ∃ks ts,ks.length=K/\ts.length=T/\Wl n ks ts/\Cw n ks ts=c/\ks++ts=dg (qdI n K T) c:=by
 have f:=Ae3 h h
 have k:=zbA (qdI n K T) c
 rw [Qt]at k
 have ok:=zcM (qdI n K T) c λw a=>by
  rcases Ae1.mp a with a | a
  ·rw [(Al4.mp a).2];omega
  ·rw [(Al4.mp a).2];exact f
 have e:=jcs (qdI n K T) c l
 have b:((dg (qdI n K T) c).take K).length=K:=by rw [Ag4];omega
 have l2:((dg (qdI n K T) c).drop K).length=T:=by rw [Ai9];omega
 have d:=List.take_append_drop K (dg (qdI n K T) c)
 have z:=jbm n ((dg (qdI n K T) c).take K) ((dg (qdI n K T) c).drop K)
 rw [b,l2,d]at z
 rw [z]at ok
 refine⟨_,_,b,l2,⟨h,by rw [b];exact j,by rw [l2];exact i,λx g=> ?_,λx g=> ?_⟩,?_,d⟩
 ·exact(ok (n,x) (Ac5 _ (Ab9.mpr ⟨x,g,rfl⟩))).1
 ·exact(ok (n*n,x) (Ab2 _ (Ab9.mpr ⟨x,g,rfl⟩))).1
 ·unfold Cw
  rw [b,l2,d]
  exact e
theorem zby: ∀(a b) (c),dg (a++b) c=dg a c++dg b (c / 2 ^ a.sum)
 | [],b,c=>by simp [dg]
 | w::a,b,c=>by
  show c % 2 ^ w::dg (a++b) (c / 2 ^ w)=c % 2 ^ w::(dg a (c / 2 ^ w)++dg b (c / 2 ^ (w+a.sum)))
  rw [zby a b,Nat.div_div_eq_div_mul,Al1]
def qdE (B:Nat):Nat->Nat->List Nat
 | 0,_=> []
 | m+1,y=>y % B::qdE B m (y / B)
def qdx (B:Nat):Nat->Nat->Nat
 | 0,y=>y
 | m+1,y=>qdx B m (y / B)
theorem xaE (B): ∀m y,(qdE B m y).length=m
 | 0,_=>rfl
 | m+1,y=>by rw [qdE,Ab4,xaE B m]
def jdR (n K T x:Nat):List Nat:=qdE (2 ^ n) K (x % 2 ^ (K*n+T*n*n))
def zdV (n K T x:Nat):List Nat:=qdE (2 ^ (n*n)) T (qdx (2 ^ n) K (x % 2 ^ (K*n+T*n*n)))
theorem XT (B) (mk:Nat->List D->Option W->Option W->Sl) (body) (h)
 (d: ∀ y c a b i,c.length<1000-> ∃Y1,Gp [7] k9 (.int (i:Int)) (mk y (zdy c) a b)=y0 Y1/\execs F body Y1 h= .next (mk (y / B) (zdy (c++ [y % B])) (y0 (.v (.int (i:Int)))) (y0 (.v (.int ((y % B:Nat):Int))))) h):
 ∀ m i y c a b,c.length+m<=1000-> ∃f g,
 Gr (Gp [7] k9) (λY h=>execs F body Y h) ((Aa0 m).map λj=>D.int ((i+j:Nat):Int)) (mk y (zdy c) a b) h= .next (mk (qdx B m y) (zdy (c++qdE B m y)) f g) h
 | 0,i,y,c,a,b,_=>⟨a,b,by rw [qdE,Ae0];rfl⟩
 | m+1,i,y,c,a,b,n=>by
  obtain⟨Y1,k,l⟩:=d y c a b i (by omega)
  obtain⟨f,g,e⟩:=XT B mk body h d m (i+1) (y / B) (c++ [y % B]) (y0 (.v (.int i))) (y0 (.v (.int ((y % B:Nat))))) (by simp;omega)
  refine⟨f,g,?_⟩
  rw [xl,xa k l,e,Af1]
  rfl
def jbj (k n K T x:Nat) (h) (f:n<=4) (w:K<=4) (v:T<=4):call prog (k+1) "_law_world" [.v (.int (n:Int)),.v (.int (K:Int)),.v (.int (T:Int)),.v (.int (x:Int))] h= .ok (.v (Xj n (jdR n K T x) (zdV n K T x))) h:=by
 have L:=qk (n:=n) (by omega)
 have V:2 ^ n<=2 ^ 4:=Ac9 (by decide) f
 have W:2 ^ (n*n)<=2 ^ 16:=Ac9 (by decide) (Ae3 f f)
 have p1:0<2 ^ n:=Aj1 (by decide)
 have p2:0<2 ^ (n*n):=Aj1 (by decide)
 have N:=J7 n (by omega)
 have D:=J7 (n*n) (by omega)
 have M:Gn .mul (n:Int) (n:Int)=y0 ((n*n:Nat):Int):=wc n n (by omega)
 have P:Gn .mul (K:Int) (n:Int)=y0 ((K*n:Nat):Int):=wc K n (by omega)
 have O:Gn .mul (T:Int) (n:Int)=y0 ((T*n:Nat):Int):=wc T n (by omega)
 have X:K*n<=4*4:=Ae3 w f
 have I:T*n<=4*4:=Ae3 v f
 have U:T*n*n<=4*4*4:=Ae3 I f
 have G:Gn .mul ((T*n:Nat):Int) (n:Int)=y0 ((T*n*n:Nat):Int):=wc (T*n) n (by omega)
 have H:=J7 (K*n+T*n*n) (by omega)
 have p3:0<2 ^ (K*n+T*n*n):=Aj1 (by decide)
 have Q:((K*n:Nat):Int)+((T*n*n:Nat):Int)=((K*n+T*n*n:Nat):Int):=rfl
 have j:=jn (x:Int) ((2 ^ (K*n+T*n*n):Nat):Int) (by omega)
 generalize u:x % 2 ^ (K*n+T*n*n)=y
 have j:Gn .mod (x:Int) ((2 ^ (K*n+T*n*n):Nat):Int)=y0 (y:Int):=by rw [j,←Int.natCast_emod,u]
 have E:(0:Int)<((2 ^ n:Nat):Int)/\((2 ^ n:Nat):Int)<xd5:=by rw [G8];omega
 have B:(0:Int)<((2 ^ (n*n):Nat):Int)/\((2 ^ (n*n):Nat):Int)<xd5:=by rw [G8];omega
 obtain⟨C,p,t⟩:=XT (F:=(u9 k)) (2 ^ n) (λy l a b=> [y0 (.v (.int (n:Int))),y0 (.v (.int (K:Int))),y0 (.v (.int (T:Int))),y0 (.v (.int (x:Int))),y0 (.v (.int (y:Int))),y0 (.own l),y0 (.own []),a,b]) Qm h (λy c a b i S=>⟨_,rfl,by
  have q:(zdy c).length<LIM:=by rw [Gk,Aa];omega
  have o:zdy (c++ [y % 2 ^ n])=zdy c++ [.int ((y % 2 ^ n:Nat):Int)]:=by rw [zdy,Ac6];rfl
  have g:(y:Int) / ((2 ^ n:Nat):Int)=((y / 2 ^ n:Nat):Int):=rfl
  have r:(y:Int) % ((2 ^ n:Nat):Int)=((y % 2 ^ n:Nat):Int):=rfl
  rw [o]
  simp_all [Qm,N,Qj,E,and_self,if_true,q,g,r]⟩) K 0 y [] u0 u0 (by simp;omega)
 obtain⟨a2,J,A⟩:=XT (F:=(u9 k)) (2 ^ (n*n)) (λz l a b=> [y0 (.v (.int (n:Int))),y0 (.v (.int (K:Int))),y0 (.v (.int (T:Int))),y0 (.v (.int (x:Int))),y0 (.v (.int (z:Int))),y0 (.own (zdy (qdE (2 ^ n) K y))),y0 (.own l),a,b]) jm h (λy c a b i S=>⟨_,rfl,by
  have q:(zdy c).length<LIM:=by rw [Gk,Aa];omega
  have o:zdy (c++ [y % 2 ^ (n*n)])=zdy c++ [.int ((y % 2 ^ (n*n):Nat):Int)]:=by rw [zdy,Ac6];rfl
  have g:(y:Int) / ((2 ^ (n*n):Nat):Int)=((y / 2 ^ (n*n):Nat):Int):=rfl
  have r:(y:Int) % ((2 ^ (n*n):Nat):Int)=((y % 2 ^ (n*n):Nat):Int):=rfl
  rw [o]
  simp_all [jm,M,D,Qj,B,and_self,if_true,q,g,r]⟩) T 0 (qdx (2 ^ n) K y) [] C p (by simp;omega)
 rw [Ga (d:=GO) rfl _ _ _ rfl]
 simp only [GO]
 simp only [Ag8,Af3]at t A
 refine fx (by simp_all [P,O,G,Qc,Q,H,j];rfl) ?_
 refine fx (by simp_all [];rfl) ?_
 refine fx (by simp_all [];rfl) ?_
 have s: ∀(i:Nat) (m:Nat) (Y:Sl),m<=4->Gi Y i=y0 (.v (.int (m:Int)))->Gw (u9 k) (.range1 (.var i)) Y h= .ok ((Aa0 m).map λ(i:Nat)=> .int (i:Int)) h:=λi m Y Z e=>Jd (m:=m) (by rw [eval,e]) (by omega)
 rw [za (by
  rw [exec,s 1 K _ w rfl,R.toO_ok]
  exact t)]
 rw [za (by
  rw [exec,s 2 T _ v rfl,R.toO_ok]
  exact A)]
 unfold jdR zdV
 rw [u]
 simp_all [qQ]
theorem jaA (w): ∀m c,dg (Ab0 m w) c=qdE (2 ^ w) m c
 | 0,_=>rfl
 | m+1,c=>by rw [Ac7,dg,qdE,jaA w m]
theorem zbo (w): ∀m c,c / 2 ^ (Ab0 m w).sum=qdx (2 ^ w) m c
 | 0,c=>by show c / 2 ^ 0=c;rw [Nat.pow_zero,Nat.div_one]
 | m+1,c=>by rw [Ac7,Af7,Al1,←Nat.div_div_eq_div_mul,zbo w m,qdx]
def xL (n K T):(qdI n K T).sum=K*n+T*n*n:=by rw [jbC,Nat.mul_assoc]
structure At (n K T c:Nat) (ks ts:List Nat):Prop where
 lk:ks.length=K
 lt:ts.length=T
 wl:Wl n ks ts
 cd:Cw n ks ts=c
def qdl (l:n<=4) (j:K<=4) (d:T<=4) (b:c<2 ^ (K*n+T*n*n)):At n K T c (jdR n K T c) (zdV n K T c):=by
 obtain⟨o,p,a,f,m,g,h⟩:=xa0 l j d (by rw [xL];exact b)
 have e:jdR n K T c++zdV n K T c=dg (qdI n K T) c:=by
  unfold jdR zdV qdI
  rw [Nat.mod_eq_of_lt b,zby,jaA,jaA,zbo]
 rw [← h]at e
 obtain⟨k,i⟩:=List.append_inj e (by rw [a];exact xaE _ _ _)
 rw [k,i]
 exact⟨a,f,m,g⟩
def At.lt_c (a:At n K T c ks ts):c<2 ^ (K*n+T*n*n):=by
 have h:=zbV a.wl.ok
 rw [← a.cd,←xL]
 have e:wS ((qdI n ks.length ts.length).zip (ks++ts))=(qdI n K T).sum:=by
  unfold wS
  rw [List.map_fst_zip (by rw [Qt,Aa8];omega),a.lk,a.lt]
 rw [e]at h
 exact h
def At.uniq (a:At n K T c ks ts) (b:At n K T c ks' ts'):ks=ks'/\ts=ts':=zbu a.wl b.wl (a.lk.trans b.lk.symm) (a.lt.trans b.lt.symm) (a.cd.trans b.cd.symm)
theorem At.mv (a:At n K T c ks ts) (q:Od n o):At n K T (Cw n (ks.map (kM n o)) (ts.map (tK n o))) (ks.map (kM n o)) (ts.map (tK n o)):=⟨by rw [Aa];exact a.lk,by rw [Aa];exact a.lt,a.wl.mv q,rfl⟩
structure Ct (n:Nat) (K T:List Tx) (ss:List Sy):Prop where
 hn:n<=4
 hK:K.length<=4
 hT:T.length<=4
 nd:(K++T).Nodup
 hs: ∀s∈ss,s.wf (K++T)/\s.dp<=40
 hl:ss.length<=63
 hb:K.length*n+T.length*n*n<=9
abbrev nB (n:Nat) (K T:List Tx):Nat:=2 ^ (K.length*n+T.length*n*n)
noncomputable def xdR (n:Nat) (K T:List Tx) (ks ts:List Nat) (s:Sy):Bool:=open Classical in v9 (call prog 56 "keeps" [.v (wD K T),.v (Xj n ks ts),.v (xd4 s)] []= .ok (.v (.bl true)) [])
noncomputable def zdI (n:Nat) (K T:List Tx) (a:List Sy) (ks ts:List Nat):Bool:=a.all (xdR n K T ks ts)
def Od.one (n):Od n (Aa0 n):=⟨List.Perm.refl _⟩
section
variable {n:Nat}{K T:List Tx}{ss:List Sy}(C:Ct n K T ss)
include C
def Ct.n5:nB n K T<=512:=by
 have h:nB n K T<=2 ^ 9:=Ac9 (by decide) C.hb
 exact h
def Ct.wo (a:At n K.length T.length c ks ts):(Wo.mk n K T ks ts).Ok:=⟨C.hK,C.hT,⟨C.nd⟩,⟨C.hn,a.lk,a.lt,a.wl.bk,a.wl.bt⟩⟩
def zA (a:At n K.length T.length c ks ts) (g:Od n o)(k:s∈ss):xdR n K T (ks.map (kM n o)) (ts.map (tK n o)) s=xdR n K T ks ts s/\ ∀h m,48<=m->call prog m "keeps" [.v (wD K T),.v (Xj n ks ts),.v (xd4 s)] h= .ok (.v (.bl (xdR n K T ks ts s))) h:=by
 obtain⟨p,r⟩:=C.hs s k
 obtain⟨b,d⟩:=w6 (C.wo a) g s p
 have j:call prog 56 "keeps" [.v (wD K T),.v (Xj n ks ts),.v (xd4 s)] []= .ok (.v (.bl b)) []:=(d [] 54 (by omega)).1
 have i:call prog 56 "keeps" [.v (wD K T),.v (Xj n (ks.map (kM n o)) (ts.map (tK n o))),.v (xd4 s)] []= .ok (.v (.bl b)) []:=(d [] 54 (by omega)).2
 have e:xdR n K T ks ts s=b:=by
  unfold xdR
  rw [j]
  cases b<;>simp
 have l:xdR n K T (ks.map (kM n o)) (ts.map (tK n o)) s=b:=by
  unfold xdR
  rw [i]
  cases b<;>simp
 refine⟨l.trans e.symm,λh m q=> ?_⟩
 rw [e]
 have f:=(d h (m-2) (by omega)).1
 rw [show m-2+2=m by omega]at f
 exact f
def qbD (a:At n K.length T.length c ks ts) (d:Od n o):zdI n K T ss (ks.map (kM n o)) (ts.map (tK n o))=zdI n K T ss ks ts:=by
 unfold zdI
 rw [Ad4,Ad7,Ad7]
 exact⟨λh s b=>(zA C a d b).1▸h s b,λh s b=>((zA C a d b).1).symm▸h s b⟩
def qbr (a:At n K.length T.length c ks ts) (h) (m) (b:48<=m):call prog (m+1) "_law_keep" [.v (wD K T),.v (Xj n ks ts),.v (.tup (ss.map xd4))] h= .ok (.v (.bl (zdI n K T ss ks ts))) h:=by
 rw [Ga rfl _ _ _ rfl]
 simp only [Ki]
 rw [wb (w:= .v (.bl (zdI n K T ss ks ts))) (Xc rfl (by
  unfold zdI
  rw [← zZ]
  refine zz ?_
  rw [Ac8]
  refine xf xd4 (λs=> .bl (xdR n K T ks ts s)) ss (zce (by simp_all [])) (by have:=C.hl;omega) λs d=>⟨.v (.bl (xdR n K T ks ts s)),?_,rfl⟩
  have e:=(zA C a (Od.one n) d).2 h m b
  simp_all [e]))]
 exact Gb _ _ _ rfl
omit C in
theorem ja9 (i:Nat) (d:D) (a:List D):KM i (d::a)= .tup [.int (i:Int),d]::KM (i+1) a:=rfl
noncomputable abbrev xdP (n:Nat) (K T:List Tx) (ks ts:List Nat) (a:List Sy) (b c:Option W):Sl:= [y0 (.v (wD K T)),y0 (.v (Xj n ks ts)),y0 (.v (.tup (a.map xd4))),b,c]
theorem qcD (a:At n K.length T.length c ks ts) (g) (m) (k:48<=m): ∀(l:List Sy) i b f,(∀ s∈l,s∈ss) →
 (∃ u p,l.all (xdR n K T ks ts)=k9/\Gr (Gp [3,4] y9) (λY h=>execs (u9 m) Wb Y h) (KM i (l.map xd4)) (xdP n K T ks ts ss b f) g= .next (xdP n K T ks ts ss u p) g) ∨
 ∃j:Nat,l.all (xdR n K T ks ts)=y9/\Gr (Gp [3,4] y9) (λY h=>execs (u9 m) Wb Y h) (KM i (l.map xd4)) (xdP n K T ks ts ss b f) g= .ret (.v (.int (j:Int))) g
 | [],i,b,f,_=> .inl ⟨b,f,rfl,rfl⟩
 | s::l,i,b,f,d=>by
  have e:=(zA C a (Od.one n) (d s Aa3)).2 g m k
  rw [Aa9,ja9,Ai4]
  cases q:xdR n K T ks ts s with
  | true=>
   rw [q]at e
   rw [xa (Y1:=xdP n K T ks ts ss (y0 (.v (.int i))) (y0 (.v (xd4 s)))) rfl (by
    simp only [Wb]
    rw [Za (by simp_all [e])]
    rfl),Aj3]
   exact qcD a g m k l (i+1) _ _ λt r=>d t (Aa1 _ r)
  | false=>
   rw [q]at e
   refine .inr ⟨i,rfl,?_⟩
   rw [wH,show Gp [3,4] y9 (.tup [.int i,xd4 s]) (xdP n K T ks ts ss b f)=y0 (xdP n K T ks ts ss (y0 (.v (.int i))) (y0 (.v (xd4 s))))from rfl]
   have o:execs (u9 m) Wb (xdP n K T ks ts ss (y0 (.v (.int i))) (y0 (.v (xd4 s)))) g= .ret (.v (.int i)) g:=by
    simp only [Wb]
    rw [Wj (by simp_all [e]) rfl]
   simp only [o]
def za5 (a:At n K.length T.length c ks ts) (g) (m) (f:48<=m): ∃d,call prog (m+1) "first_broken" [.v (wD K T),.v (Xj n ks ts),.v (.tup (ss.map xd4))] g= .ok (.v d) g/\d=(if zdI n K T ss ks ts then .non else d)/\(zdI n K T ss ks ts=false-> ∃i,d= .int i):=by
 have l:Gw (u9 m) (.enum (.var 2)) (xdP n K T ks ts ss u0 u0) g= .ok (KM 0 (ss.map xd4)) g:=by
  simp_all []
 rw [Ga rfl _ _ _ rfl]
 simp only [GH]
 rcases qcD C a g m f ss 0 u0 u0 (λs h=>h)with⟨o,k,b,e⟩ | ⟨j,b,e⟩
 ·refine⟨.non,?_,?_,?_⟩
  ·rw [za (by
    exact e)]
   exact Gb _ _ _ rfl
  ·rw [show zdI n K T ss ks ts=k9 from b];rfl
  ·intro z
   rw [show zdI n K T ss ks ts=k9 from b]at z
   cases z
 ·refine⟨.int j,?_,?_,λ_=>⟨_,rfl⟩⟩
  ·rw [wb (by
    exact e)]
   exact Gb _ _ _ rfl
  ·rw [show zdI n K T ss ks ts=y9 from b];rfl
abbrev wX (n:Nat) (K T:List Tx) (c:Nat):D:=Xj n (jdR n K.length T.length c) (zdV n K.length T.length c)
noncomputable def kc (n:Nat) (K T:List Tx) (a:List Sy) (c:Nat):Bool:=zdI n K T a (jdR n K.length T.length c) (zdV n K.length T.length c)
omit C in
theorem Ct.at (C:Ct n K T ss){c:Nat}(a:c<nB n K T):At n K.length T.length c (jdR n K.length T.length c) (zdV n K.length T.length c):=qdl C.hn C.hK C.hT a
noncomputable abbrev xcb (n:Nat) (K T:List Tx) (c:List Sy) (a:List Nat) (d b:Option W):Sl:= [y0 (.v (wD K T)),y0 (.v (.int (n:Int))),y0 (.v (.tup (c.map xd4))),y0 (.v (.int ((K.length:Nat):Int))),y0 (.v (.int ((T.length:Nat):Int))),y0 (.own (a.map (wX n K T))),d,b]
theorem qcv (m:Nat) (p:49<=m): ∀(j i:Nat) (a:List Nat) (f b:Option W),i+j=nB n K T->a.length<=i-> ∃g k,
 Gr (Gp [6] k9) (λY h=>execs (u9 m) xj Y h) ((Aa0 j).map λ(x:Nat)=>D.int ((i+x:Nat):Int)) (xcb n K T ss a f b) []= .next (xcb n K T ss (a++((Aa0 j).map (i+ ·)).filter (kc n K T ss)) g k) []
 | 0,i,a,f,b,_,_=>⟨f,b,by simp [Gr]⟩
 | j+1,i,a,f,b,h,s=>by
  have n5:=C.n5
  have l:=jbj (m-1) n K.length T.length i [] C.hn C.hK C.hT
  rw [show m-1+1=m by omega]at l
  have d:=qbr C (C.at (c:=i) (by omega)) [] (m-1) (by omega)
  rw [show m-1+1=m by omega]at d
  have o:((Aa0 (j+1)).map (i+ ·))=i::(Aa0 j).map (i+1+ ·):=by
   rw [Ag,Aa9,Ac8]
   exact congrArg (i:: ·) (Ad6 λx _=>by show i+(x+1)=i+1+x;omega)
  rw [o,xl]
  obtain⟨g,k,e⟩:=qcv m p j (i+1) (a++ [i].filter (kc n K T ss)) (y0 (.v (.int (i:Int)))) (y0 (.v (wX n K T i))) (by omega) (by
   rw [Aa8]
   have:=Ae (kc n K T ss) [i]
   simp only [Af4]at this
   omega)
  refine⟨g,k,?_⟩
  rw [xa (Y1:=xcb n K T ss a (y0 (.v (.int (i:Int)))) b) (Y2:=xcb n K T ss (a++ [i].filter (kc n K T ss)) (y0 (.v (.int (i:Int)))) (y0 (.v (wX n K T i)))) (h2:= []) rfl (by
   simp only [xj]
   refine(za (by simp_all [l];rfl)).trans ?_
   cases q:kc n K T ss i with
   | true=>
    rw [show zdI n K T ss (jdR n K.length T.length i) (zdV n K.length T.length i)=k9 from q]at d
    have r:(a.map (wX n K T)).length<LIM:=by rw [Gk,Aa];omega
    rw [zb,qA (h1:= []) (by simp_all [d]),zb]
    simp_all [r,if_true]
    simp [q]
   | false=>
    rw [show zdI n K T ss (jdR n K.length T.length i) (zdV n K.length T.length i)=y9 from q]at d
    rw [Za (by simp_all [d])]
    simp [q,execs]),e,Af1,Ah7,Ah7]
  simp only [List.filter_nil]
  split<;>simp
def xaI (m) (b:49<=m):call prog (m+1) "_law_keepers" [.v (wD K T),.v (.int (n:Int)),.v (.tup (ss.map xd4))] []= .ok (.own (((List.range (nB n K T)).filter (kc n K T ss)).map (wX n K T))) []:=by
 have hn:=C.hn
 have p:=C.hK
 have a:=C.hT
 have g:Gn .mul (K.length:Int) (n:Int)=y0 ((K.length*n:Nat):Int):=wc K.length n (by omega)
 have f:Gn .mul (T.length:Int) (n:Int)=y0 ((T.length*n:Nat):Int):=wc T.length n (by omega)
 have o:T.length*n<=4*4:=Ae3 a hn
 have i:Gn .mul ((T.length*n:Nat):Int) (n:Int)=y0 ((T.length*n*n:Nat):Int):=wc (T.length*n) n (by omega)
 have j:((K.length*n:Nat):Int)+((T.length*n*n:Nat):Int)=((K.length*n+T.length*n*n:Nat):Int):=rfl
 have k:=J7 (K.length*n+T.length*n*n) (by have:=C.hb;omega)
 have n5:=C.n5
 have l: ∀h,biD .len [.v (jdx K)] h=okv (.int ((K.length:Nat):Int)) h:=λh=>by rw [ql,Aa]
 have lt: ∀h,biD .len [.v (jdx T)] h=okv (.int ((T.length:Nat):Int)) h:=λh=>by rw [ql,Aa]
 obtain⟨d,c,e⟩:=qcv C m b (nB n K T) 0 [] u0 u0 (by omega) (Aa5 _)
 rw [Ga rfl _ _ _ rfl]
 simp only [GN]
 refine fx (by simp_all [ix_tup,jJ,l];rfl) ?_
 refine fx (by simp_all [ix_tup,WB,lt];rfl) ?_
 rw [za (Y1:=xcb n K T ss [] u0 u0) (by simp_all [];rfl)]
 rw [za (Y1:=xcb n K T ss ((Aa0 (nB n K T)).filter (kc n K T ss)) d c) (by
  rw [exec,JF,Jd (m:=nB n K T) (by simp_all [g,f,i,Qc,j,k]) (by omega),R.toO_ok]
  simpa using e)]
 rw [wb (w:= .own (((Aa0 (nB n K T)).filter (kc n K T ss)).map (wX n K T))) (h1:= []) rfl]
 exact GC _ _ _ rfl
end
def jd2 (n K T c:Nat):Bool:=(Wc n n).all λr=>v9 (c<=Cw n ((jdR n K T c).map (kM n r)) ((zdV n K T c).map (tK n r)))
def xdD (g:Wl n ks ts): ∃r,Od n r/\ks.map (kM n r)=ks/\ts.map (tK n r)=ts:=by
 have q:=Od.one n
 obtain⟨p,a,c⟩:=q.rev
 obtain⟨e,b⟩:=Qv g q a c
 obtain⟨f,d⟩:=qU a q
 exact⟨(Aa0 n).map (pm p),a.then q,f.symm.trans e,d.symm.trans b⟩
def xc3 (g:Wl n ks ts): ∃a b,Ls n ks ts a b:=by
 have d: ∀ c r,Od n r->Cw n (ks.map (kM n r)) (ts.map (tK n r))<=c-> ∃a b,Ls n ks ts a b:=by
  intro c
  induction c with
  | zero=>exact λr q h=>⟨_,_,⟨r,q,rfl,rfl⟩,λs _=>by omega⟩
  | succ c i=>
   intro r q h
   by_cases z: ∃s,Od n s/\Cw n (ks.map (kM n s)) (ts.map (tK n s))<=c
   ·obtain⟨s,e,f⟩:=z
    exact i s e f
   ·exact⟨_,_,⟨r,q,rfl,rfl⟩,λs e=>by
     have: ¬Cw n (ks.map (kM n s)) (ts.map (tK n s))<=c:=λw=>z ⟨s,e,w⟩
     omega⟩
 exact d _ _ (Od.one n) (Aa5 _)
def jbK {b:Type}(g) (p) (l:List b) (m:Gm F it Y h= .ok (l.map g) h) (n:l.length<=1000)
 (e: ∀x∈l,Gu F c (y0 (.v (g x))::cap.map λj=>Gi Y j) h= .ok (p x) h/\eval F elt (y0 (.v (g x))::cap.map λj=>Gi Y j) h= .ok (.v (g x)) h):eval F (.comp [0] k9 1 cap it k9 c elt) Y h= .ok (.own ((l.filter p).map g)) h:=by
 rw [eval,m,R.bind_ok,if_pos (by rw [Gk,Aa];omega)]
 have go: ∀ step (l:List b),(∀ x∈l,step (g x) h= .ok (if p x then y0 (g x)else u0) h)->Gv step (l.map g) h= .ok ((l.filter p).map g) h:=λstep l=>by
  induction l with
  | nil=>intro _;rfl
  | cons x l d=>
   intro a
   rw [Aa9,Gv,a x Aa3,Ah7]
   simp only [d λy k=>a y (Aa1 _ k)]
   cases p x<;>rfl
 rw [go _ l λx a=> ?_]
 ·rfl
 ·obtain⟨f,i⟩:=e x a
  show(R.bind (Gu F c (y0 (.v (g x))::cap.map λj=>Gi Y j) h) _)=_
  rw [f]
  cases p x with
  | true=>
   show(eval F elt (y0 (.v (g x))::cap.map λj=>Gi Y j) h).bind _=_
   rw [i]
   rfl
  | false=>rfl
section
variable {n:Nat}{K T:List Tx}{ss:List Sy}(C:Ct n K T ss)
include C
def xcr (x:c<nB n K T): ∃e,e<nB n K T/\e<=c/\kc n K T ss e=kc n K T ss c/\jd2 n K.length T.length e=k9/\(jd2 n K.length T.length c=k9↔e=c)/\(∃ r,Od n r/\c=Cw n ((jdR n K.length T.length e).map (kM n r)) ((zdV n K.length T.length e).map (tK n r))) ∧
 ∀ a b,Ls n (jdR n K.length T.length c) (zdV n K.length T.length c) a b->Xj n a b=wX n K T e:=by
 have d:=C.at x
 obtain⟨a,b,o⟩:=xc3 d.wl
 obtain⟨r,j,m,l⟩:=o.o
 have f:=d.mv j
 rw [← m,←l]at f
 have g:Cw n a b<nB n K T:=f.lt_c
 obtain⟨k,q⟩:=f.uniq (C.at g)
 obtain⟨i,y,B,H⟩:=xdD d.wl
 have t:=by
  have:=o.le i y
  rw [B,H,d.cd]at this
  exact this
 have v:jd2 n K.length T.length (Cw n a b)=true:=by
  unfold jd2
  rw [Ad7]
  intro s z
  have:=(o.self d.wl).le s ((Jb C.hn s).mp z)
  rw [← k,←q]
  exact decide_eq_true this
 refine⟨Cw n a b,g,t,?_,v,⟨λh=> ?_,λh=> ?_⟩,?_,λI J E=> ?_⟩
 ·unfold kc
  rw [← k,←q,m,l]
  exact qbD C d j
 ·unfold jd2 at h
  rw [Ad7]at h
  have:=of_decide_eq_true (h r ((Jb C.hn r).mpr j))
  rw [← m,←l]at this
  omega
 ·rw [← h];exact v
 ·obtain⟨p,u,F⟩:=j.rev
  obtain⟨A,D⟩:=Qv d.wl j u F
  refine⟨p,u,?_⟩
  rw [← k,←q,m,l,A,D,d.cd]
 ·obtain⟨G,w⟩:=Ls.uniq d.wl E o
  rw [G,w]
  show Xj n a b=Xj n _ _
  rw [← k,←q]
def zcC (f:c<nB n K T) (e:d<nB n K T):(jdR n K.length T.length c=jdR n K.length T.length d/\zdV n K.length T.length c=zdV n K.length T.length d)↔c=d:=by
 refine⟨λ⟨b,a⟩=> ?_,λh=>by rw [h];exact⟨rfl,rfl⟩⟩
 rw [← (C.at f).cd,←(C.at e).cd,b,a]
noncomputable abbrev kL (n:Nat) (K T:List Tx) (a:List Sy):List Nat:=(Aa0 (nB n K T)).filter (kc n K T a)
noncomputable abbrev dL (n:Nat) (K T:List Tx) (a:List Sy):List Nat:=(kL n K T a).filter (jd2 n K.length T.length)
theorem Z6 (h:c∈kL n K T ss):c<nB n K T/\kc n K T ss c=true:=⟨Ab3.mp (Ad8.mp h).1,(Ad8.mp h).2⟩
def xcj:(kL n K T ss).length<=512:=Ac (Ae _ _) (by rw [Aj9];exact C.n5)
abbrev zdU (n K T c:Nat):List Nat:=(Wc n n).map λr=>Cw n ((jdR n K T c).map (kM n r)) ((zdV n K T c).map (tK n r))
def xbV (S:List Int) (l:List Nat):List Int:=l.foldl (λS (x:Nat)=>KU S (x:Int)) S
omit C in
theorem jbN (S:List Int) (k x:Int):x∈KU S k↔x∈S\/x=k:=by
 unfold KU
 split
 ·rename_i h
  exact⟨.inl,λz=>z.elim id λe=>by rw [e];simpa using h⟩
 ·rw [Ae1,Ad9]
omit C in
theorem J5 (S:List Int) (k:Int):(KU S k).length<=S.length+1:=by
 unfold KU
 split
 ·omega
 ·rw [Aa8];exact Aa5 _
omit C in
theorem XY: ∀(l:List Nat) (S:List Int) (x:Int),x∈xbV S l↔x∈S\/ ∃y∈l,x=(y:Int)
 | [],S,x=>⟨.inl,λz=>z.elim id λ⟨y,h,_⟩=>absurd h Ac0⟩
 | y::l,S,x=>by
  show x∈xbV (KU S (y:Int)) l↔_
  rw [XY l,jbN]
  constructor
  ·rintro ((h | h) | ⟨z,a,e⟩)
   ·exact .inl h
   ·exact .inr ⟨y,Aa3,h⟩
   ·exact .inr ⟨z,Aa1 _ a,e⟩
  ·rintro (h | ⟨z,a,e⟩)
   ·exact .inl (.inl h)
   ·rcases Ab7.mp a with rfl | a
    ·exact .inl (.inr e)
    ·exact .inr ⟨z,a,e⟩
omit C in
theorem JY: ∀(l:List Nat) (S:List Int),(xbV S l).length<=S.length+l.length
 | [],S=>Aa5 _
 | y::l,S=>by
  have b:=JY l (KU S (y:Int))
  have a:=J5 S (y:Int)
  show(xbV (KU S (y:Int)) l).length<=_
  rw [Ab4]
  omega
noncomputable abbrev qd2 (r n:Nat) (K T:List Tx) (a:List Nat) (c d b:Option W):Sl:= [y0 (.v (wD K T)),y0 (.v (.int (n:Int))),y0 (.v (.ref r)),y0 (.own (a.map (wX n K T))),c,d,b]
omit C in
theorem qbp (g:AH) (S:List Int):K4 (g++ [.dii S]) (y0 (.v (.ref g.length)))=y0 (g.length,S):=by
 unfold K4
 simp
omit C in
theorem zcd (g:AH) (a b:Cell):(g++ [a]).set g.length b=g++ [b]:=by simp
omit C in
theorem zcl {F:Fx}(g:AH) (a:List Nat) (b c:Option W): ∀(l:List Nat) (S:List Int) (d:Option W),S.length+l.length<=20000-> ∃f,
 Gr (Gp [6] k9) (λY h=>execs F jl Y h) (zdy l) (qd2 g.length n K T a b c d) (g++ [.dii S])= .next (qd2 g.length n K T a b c f) (g++ [.dii (xbV S l)])
 | [],S,d,_=>⟨d,rfl⟩
 | y::l,S,d,k=>by
  rw [Ab4]at k
  have i:=J5 S (y:Int)
  obtain⟨f,e⟩:=zcl g a b c l (KU S (y:Int)) (y0 (.v (.int (y:Int)))) (by omega)
  refine⟨f,?_⟩
  have dd:K4 (g++ [.dii S]) (y0 (.v (.ref g.length)))=y0 (g.length,S):=qbp g S
  have j:S.length<LIM:=by rw [Gk];omega
  show Gr _ _ (D.int (y:Int)::zdy l) _ _=_
  rw [xa (Y1:=qd2 g.length n K T a b c (y0 (.v (.int (y:Int))))) (Y2:=qd2 g.length n K T a b c (y0 (.v (.int (y:Int))))) (h2:=(g++ [.dii (KU S (y:Int))])) rfl (by
   simp only [jl]
   rw [zb]
   simp_all [dd,j,if_true]
   rw [zcd]),e]
  rfl
noncomputable def zdr (n:Nat) (K T:List Tx) (i:Nat) (S:List Int):Prop:= ∀x:Nat,(x:Int)∈S↔ ∃c,c<i/\jd2 n K.length T.length c=k9/\x∈zdU n K.length T.length c
theorem jb7 (g:AH) (k:Nat): ∀(j i:Nat) (S:List Int) (I l d:Option W),i+j=nB n K T->S.length<=i*24->zdr n K T i S-> ∃H G u t,
 Gr (Gp [4] k9) (λY h=>execs (u9 (k+6)) Zi Y h) ((Aa0 j).map λ(x:Nat)=>D.int ((i+x:Nat):Int)) (qd2 g.length n K T ((Aa0 i).filter (jd2 n K.length T.length)) I l d) (g++ [.dii S])= .next (qd2 g.length n K T ((Aa0 (nB n K T)).filter (jd2 n K.length T.length)) G u t) (g++ [.dii H])
 | 0,i,S,I,l,d,h,_,_=>⟨S,I,l,d,by rw [← show i=nB n K T by omega];simp [Gr]⟩
 | j+1,i,S,I,l,d,h,hS,L=>by
  have n5:=C.n5
  have Q:i<nB n K T:=by omega
  have a:=C.at Q
  have rl:(Wc n n).length<=24:=by
   have:=(xdZ n C.hn).len
   have N:=C.hn
   rw [this]
   match n,N with
   | 0,_=>decide
   | 1,_=>decide
   | 2,_=>decide
   | 3,_=>decide
   | 4,_=>decide
  have f:S.contains (i:Int)= !jd2 n K.length T.length i:=by
   have:(S.contains (i:Int)=k9)↔jd2 n K.length T.length i=false:=by
    rw [Ae8,L i]
    constructor
    ·rintro ⟨c,o,b,s⟩
     obtain⟨r,w,e⟩:=Ab9.mp s
     have m:=C.at (c:=c) (by omega)
     have v:=m.mv ((Jb C.hn r).mp w)
     have e:Cw n ((jdR n K.length T.length c).map (kM n r)) ((zdV n K.length T.length c).map (tK n r))=i:=e
     rw [e]at v
     obtain⟨u1,u2⟩:=a.uniq v
     cases q:jd2 n K.length T.length i with
     | false=>rfl
     | true=>
      obtain⟨p,P,he⟩:=((Jb C.hn r).mp w).rev
      obtain⟨b1,b2⟩:=Qv m.wl ((Jb C.hn r).mp w) P he
      unfold jd2 at q
      rw [Ad7]at q
      have:=of_decide_eq_true (q p ((Jb C.hn p).mpr P))
      rw [u1,u2,b1,b2,m.cd]at this
      omega
    ·intro q
     obtain⟨V,o,b,s,N,h5,⟨r,w,e⟩,_⟩:=xcr C Q
     have hne:V≠i:=λz=>by
      have:=h5.mpr z
      rw [q]at this
      cases this
     exact⟨V,by omega,N,Ab9.mpr ⟨r,(Jb C.hn r).mpr w,e.symm⟩⟩
   cases q:jd2 n K.length T.length i with
   | false=>rw [this.mpr q];rfl
   | true=>
    cases q2:S.contains (i:Int)with
    | false=>rfl
    | true=>rw [this.mp q2]at q;cases q
  have dd:K4 (g++ [.dii S]) (y0 (.v (.ref g.length)))=y0 (g.length,S):=qbp g S
  have X:dinI k9 (.v (.int (i:Int))) (y0 (g.length,S)) (g++ [.dii S])=okv (.bl (!S.contains (i:Int))) (g++ [.dii S]):=rfl
  have O:(Aa0 (i+1)).filter (jd2 n K.length T.length)=(Aa0 i).filter (jd2 n K.length T.length)++ [i].filter (jd2 n K.length T.length):=by rw [List.range_succ,Ao4]
  have fl:=Ae (jd2 n K.length T.length) (Aa0 i)
  rw [Aj9]at fl
  rw [xl]
  cases q:jd2 n K.length T.length i with
  | false=>
   rw [q]at f
   obtain⟨H,G,u,t,e⟩:=jb7 g k j (i+1) S (y0 (.v (.int (i:Int)))) l d (by omega) (by omega) (λx=>by
    rw [L x]
    constructor
    ·rintro ⟨c,o,b⟩
     exact⟨c,by omega,b⟩
    ·rintro ⟨c,o,b,s⟩
     refine⟨c,?_,b,s⟩
     have:c≠i:=λz=>by rw [z,q]at b;cases b
     omega)
   refine⟨H,G,u,t,?_⟩
   rw [xa (Y1:=qd2 g.length n K T ((Aa0 i).filter (jd2 n K.length T.length)) (y0 (.v (.int (i:Int)))) l d) (Y2:=qd2 g.length n K T ((Aa0 i).filter (jd2 n K.length T.length)) (y0 (.v (.int (i:Int)))) l d) (h2:=(g++ [.dii S])) rfl (by
    simp only [Zi]
    rw [Za (by simp_all [dd,X,f])]
    rfl)]
   rw [O]at e
   simp only [Ah7,q,List.filter_nil,Ae0,Ae2,if_false]at e
   exact e
  | true=>
   rw [q]at f
   have E:=zab (k+1) n (K.map D.str) (T.map D.str) (jdR n K.length T.length i) (zdV n K.length T.length i) (g++ [.dii S]) a.wl (by rw [Aa,a.lk]) (by rw [Aa,a.lt])
   rw [a.cd]at E
   have E:call prog (k+6) "world_of" [.v (wD K T),.v (.int (n:Int)),.v (.int (i:Int))] (g++ [.dii S])= .ok (.v (wX n K T i)) (g++ [.dii S]):=E
   have M:=zbF a.wl (A:=K.map D.str) (B:=T.map D.str) (by rw [Aa,a.lk]) (by rw [Aa,a.lt]) k (g++ [.dii S])
   have M:call prog (k+6) "codes_alike" [.v (wD K T),.v (wX n K T i)] (g++ [.dii S])= .ok (.own (zdy (zdU n K.length T.length i))) (g++ [.dii S]):=M
   have ol:(zdU n K.length T.length i).length<=24:=by rw [Aa];exact rl
   obtain⟨U,Z⟩:=zcl (F:=(u9 (k+6))) (n:=n) (K:=K) (T:=T) g ((Aa0 (i+1)).filter (jd2 n K.length T.length)) (y0 (.v (.int (i:Int)))) (y0 (.v (wX n K T i))) (zdU n K.length T.length i) S d (by omega)
   have pl:=JY (zdU n K.length T.length i) S
   obtain⟨H,G,u,t,e⟩:=jb7 g k j (i+1) (xbV S (zdU n K.length T.length i)) (y0 (.v (.int (i:Int)))) (y0 (.v (wX n K T i))) U (by omega) (by omega) (λx=>by
    rw [XY,L x]
    constructor
    ·rintro (⟨c,o,b⟩ | ⟨y,hy,e⟩)
     ·exact⟨c,by omega,b⟩
     ·obtain rfl:x=y:=Int.ofNat.inj e
      exact⟨i,by omega,q,hy⟩
    ·rintro ⟨c,o,b,s⟩
     by_cases J:c=i
     ·exact .inr ⟨x,J▸s,rfl⟩
     ·exact .inl ⟨c,by omega,b,s⟩)
   refine⟨H,G,u,t,?_⟩
   have hL:(((Aa0 i).filter (jd2 n K.length T.length)).map (wX n K T)).length<LIM:=by rw [Gk,Aa];omega
   rw [xa (Y1:=qd2 g.length n K T ((Aa0 i).filter (jd2 n K.length T.length)) (y0 (.v (.int (i:Int)))) l d) (Y2:=qd2 g.length n K T ((Aa0 (i+1)).filter (jd2 n K.length T.length)) (y0 (.v (.int (i:Int)))) (y0 (.v (wX n K T i))) U) (h2:=(g++ [.dii (xbV S (zdU n K.length T.length i))])) rfl (by
    simp only [Zi]
    rw [zb,qA (h1:=(g++ [.dii S])) (by simp_all [dd,X,f])]
    refine(za (by simp_all [E];rfl)).trans ?_
    rw [za (h1:=(g++ [.dii S])) (Y1:=qd2 g.length n K T ((Aa0 (i+1)).filter (jd2 n K.length T.length)) (y0 (.v (.int (i:Int)))) (y0 (.v (wX n K T i))) d) (by
     simp_all [hL,if_true]
     rw [O]
     simp [q])]
    rw [zb,exec,show Gw (u9 (k+6)) (.seq (.call "codes_alike" (.cons (.var 0) (.cons (.var 5) .nil)))) (qd2 g.length n K T ((List.range (i+1)).filter (jd2 n K.length T.length)) (some (.v (.int (i:Int)))) (some (.v (wX n K T i))) d) (g++ [.dii S])= .ok (zdy (zdU n K.length T.length i)) (g++ [.dii S])by simp_all [M],R.toO_ok]
    exact Z),e]
def xb3 (g:AH) (k:Nat):call prog (k+7) "all_forms" [.v (wD K T),.v (.int (n:Int))] g= .ok (.own (((List.range (nB n K T)).filter (jd2 n K.length T.length)).map (wX n K T))) g:=by
 have n5:=C.n5
 have a:=jae (k+4) n (K.map D.str) (T.map D.str) (g++ [.dii []]) C.hn (by rw [Aa];exact C.hK) (by rw [Aa];exact C.hT)
 rw [Aa,Aa,xL]at a
 have a:call prog (k+6) "bits" [.v (wD K T),.v (.int (n:Int))] (g++ [.dii []])= .ok (.v (.int ((K.length*n+T.length*n*n:Nat):Int))) (g++ [.dii []]):=a
 have i:=J7 (K.length*n+T.length*n*n) (by have:=C.hb;omega)
 obtain⟨b,j,l,f,e⟩:=jb7 C g k (nB n K T) 0 [] u0 u0 u0 (by omega) (Aa5 _) (λx=>⟨λh=>absurd h Ac0,λ⟨c,h,_⟩=>absurd h (Aj5 _)⟩)
 rw [Ga (d:=GR) rfl _ _ _ rfl]
 simp only [GR]
 refine fx (by simp_all [];rfl) ?_
 rw [za (h1:=(g++ [.dii []])) (Y1:=qd2 g.length n K T [] u0 u0 u0) (by simp_all [];rfl)]
 rw [za (h1:=(g++ [.dii b])) (Y1:=qd2 g.length n K T ((Aa0 (nB n K T)).filter (jd2 n K.length T.length)) j l f) (by
  rw [exec,JF,Jd (m:=nB n K T) (by simp_all [a,i]) (by omega),R.toO_ok]
  simpa using e)]
 rw [wb (w:= .own (((Aa0 (nB n K T)).filter (jd2 n K.length T.length)).map (wX n K T))) (h1:=(g++ [.dii b])) rfl]
 show fin g.length _ _=_
 unfold fin
 rw [if_neg (by rw [Aa8];simp),List.take_left,if_pos (show (W.own (((Aa0 (nB n K T)).filter (jd2 n K.length T.length)).map (wX n K T))).keep=k9 from Qp _ (λ_=>jE ..) _)]
end
def xdg (k K T) (c:K<=4) (b:T<=4) (h): ∃A B:List Tx,A.length=K/\B.length=T/\(A++B).Nodup/\call prog (k+1) "_law_names" [.v (.int (K:Int)),.v (.int (T:Int))] h= .ok (.v (wD A B)) h:=by
 have a: ∀K,K<5-> ∀T,T<5->(([[97,103,101],[98,101,101],[99,97,112],[100,111,116]].take K)++([[101,97,116],[102,101,100],[103,111],[104,117,116]].take T)).Nodup:=by decide +kernel
 refine⟨[[97,103,101],[98,101,101],[99,97,112],[100,111,116]].take K,[[101,97,116],[102,101,100],[103,111],[104,117,116]].take T,by rw [Ag4];simp;omega,by rw [Ag4];simp;omega,a K (by omega) T (by omega),?_⟩
 rw [Ga rfl _ _ _ rfl]
 simp only [Kb]
 simp_all [zbS,wY]
 rw [wD,jdx,jdx,List.map_take,List.map_take]
 rfl
def jc9 (k n:Nat) (A B) (h) (g:n<=4) (i:A.length<=4) (e:B.length<=4):call prog (k+5) "check_bits" [.v (wD A B),.v (.int (n:Int)),.v (.int 9)] h=if A.length*n+B.length*n*n<=9 then .ok (.v .non) h else .exc (.err "TooBig" "bits" (.int ((A.length*n+B.length*n*n:Nat):Int))) h:=by
 have f:=QV k (.int (n:Int)) h rfl (by show(v9 ((0:Int)<=(n:Int))&&v9 ((n:Int)<5))=k9;rw [decide_eq_true (by omega),decide_eq_true (by omega)];rfl)
 have a:=jae (k+2) n (A.map D.str) (B.map D.str) h g (by rw [Aa];exact i) (by rw [Aa];exact e)
 rw [Aa,Aa,xL]at a
 have a:=a
 generalize A.length*n+B.length*n*n=b at a
 rw [Ga rfl _ _ _ rfl]
 simp only [GF]
 refine fx (by simp_all [f];rfl) ?_
 refine fx (by simp_all [a];rfl) ?_
 by_cases c:b<=9
 ·have d:v9 ((9:Int)<(b:Int))=false:=decide_eq_false (by omega)
  rw [if_pos c,Za (by simp_all [xr,d])]
  exact GI _ _ _ rfl
 ·have d:v9 ((9:Int)<(b:Int))=true:=decide_eq_true (by omega)
  rw [if_neg c,zb,qA (h1:=h) (by simp_all [xr,d]),zb]
  simp_all []
def zb0 (k) (nm d) (h) (b:Gc d=k9) (a:jh d 5=y9):call prog (k+5) "check_bits" [.v nm,.v d,.v (.int 9)] h= .exc (.exc "NoSize" []) h:=by
 have c:=J6 k d h b a
 rw [Ga rfl _ _ _ rfl]
 simp only [GF]
 rw [execs,show exec (u9 (k+4)) (.ex (.call "check_size" (.cons (.var 1) .nil))) (List.map some [W.v nm,.v d,.v (.int 9)]++List.replicate (4-3) none) h= .exc (.exc "NoSize" []) h by simp_all [c];rfl]
 rfl
def zdi:prog.con.lookup "MOST_LISTED_BITS" =some (.int 9):=rfl
def zcg (k) (nm sy d e) (h) (a:call prog k "check_bits" [.v nm,.v d,.v (.int 9)] h= .exc e h):call prog (k+1) "unlike" [.v (.tup [nm,sy]),.v d] h= .exc e h:=by
 rw [Ga rfl _ _ _ rfl]
 simp only [Ke]
 refine fx (by simp_all [];rfl) ?_
 rw [execs,show exec (u9 k) (.ex (.call "check_bits" (.cons (.var 2) (.cons (.var 1) (.cons (.con "MOST_LISTED_BITS") .nil))))) [some (.v (.tup [nm,sy])),some (.v d),some (.v nm),some (.v sy)] h= .exc e h by simp_all [zdi,a];rfl]
 rfl
section
variable {n:Nat}{K T:List Tx}{ss:List Sy}(C:Ct n K T ss)
include C
def J4 (g:AH) (m:Nat) (o:55<=m):call prog (m+1) "unlike" [.v (.tup [wD K T,.tup (ss.map xd4)]),.v (.int (n:Int))] g= .ok (.own ((dL n K T ss).map (wX n K T))) g:=by
 have f:=jc9 (m-5) n K T g C.hn C.hK C.hT
 rw [if_pos C.hb,show m-5+5=m by omega]at f
 have h:=xb3 C g (m-7)
 rw [show m-7+7=m by omega]at h
 have n5:=C.n5
 rw [Ga (d:=Ke) rfl _ _ _ rfl]
 simp only [Ke]
 refine fx (by simp_all [];rfl) ?_
 refine fx (by simp_all [zdi,f];rfl) ?_
 have k:dL n K T ss=((Aa0 (nB n K T)).filter (jd2 n K.length T.length)).filter (kc n K T ss):=by
  unfold dL kL
  rw [List.filter_filter,List.filter_filter]
  exact List.filter_congr λx _=>Bool.and_comm _ _
 rw [wb (w:= .own ((dL n K T ss).map (wX n K T))) (h1:=g) (wB rfl (by
  rw [k]
  unfold zG
  refine jbK (wX n K T) (kc n K T ss) _ (zN (by simp_all [h])) (Ac (Ae _ _) (by rw [Aj9];omega)) λc j=> ?_
  have e:=Ab3.mp (Ad8.mp j).1
  obtain⟨d,a,b,l⟩:=za5 C (C.at e) g (m-1) (by omega)
  rw [show m-1+1=m by omega]at a
  refine⟨?_,by simp_all []⟩
  cases q:kc n K T ss c with
  | true=>
   rw [show zdI n K T ss (jdR n K.length T.length c) (zdV n K.length T.length c)=k9 from q]at b
   rw [if_pos rfl]at b
   subst b
   simp_all [a]
  | false=>
   obtain⟨i,rfl⟩:=l q
   simp_all [a]))]
 exact GC _ _ _ rfl
end
noncomputable def shL:List (Nat×Nat×Nat):= [(1,1,2),(0,1,2),(2,1,2),(0,2,2),(2,0,3),(1,0,3),(3,0,2),(1,0,4),(0,0,3),(4,4,1),(1,1,1),(2,3,1),(4,4,0),(0,1,1),(2,0,2),(1,1,2)]
def sh2:List (Nat×Nat×Nat):= [(0,1,3),(2,0,4)]
abbrev jdL (p:Nat×Nat×Nat):D:= .tup [.int (p.1:Int),.int (p.2.1:Int),.int (p.2.2:Int)]
def xcN (p:Nat×Nat×Nat):Bool:=v9 (p.1<=4)&&v9 (p.2.1<=4)&&v9 (p.2.2<=4)&&v9 (p.1*p.2.2+p.2.1*p.2.2*p.2.2<=9)
def jbv:shL.all xcN=k9/\sh2.all xcN=true:=by decide +kernel
def xbU (k) (x) (h): ∃p:Nat×Nat×Nat,xcN p=k9/\call prog (k+1) "_law_shape" [.v (.int x)] h= .ok (.v (jdL p)) h:=by
 have l:=jr x 16 (by decide) (by decide)
 have m:=jn (x / 16) 24 (by decide)
 have n:=jr x 384 (by decide) (by decide)
 have r:=jn (x / 384) 2 (by decide)
 have q:=jn x 16 (by decide)
 obtain⟨s,g,j⟩:=wK (xs:=sh2.map jdL) (x / 384) (by decide)
 obtain⟨b,d,rfl⟩:=Ab9.mp g
 obtain⟨t,e,i⟩:=wK (xs:=shL.map jdL) x (by decide)
 obtain⟨a,f,rfl⟩:=Ab9.mp e
 have j:atI [.tup [.int 0,.int 1,.int 3],.tup [.int 2,.int 0,.int 4]] (x / 384 % 2)=y0 (jdL b):=j
 have o:Pf .add (.v (.lst ((shL.take 9).map jdL))) (.own [.tup [.int 4,.int 4,.int 1],.tup [.int 1,.int 1,.int 1],.tup [.int 2,.int 3,.int 1],.tup [.int 4,.int 4,.int 0],.tup [.int 0,.int 1,.int 1],.tup [.int 2,.int 0,.int 2],.tup [.int 1,.int 1,.int 2]]) h= .ok (.own (shL.map jdL)) h:=by
  show(if _ then _ else _)=_
  rw [if_pos (by rw [Gk];decide)]
  rfl
 have i:atI (shL.map jdL) (x % 16)=y0 (jdL a):=i
 rw [Ga rfl _ _ _ rfl]
 simp only [Ka]
 rw [za (Y1:= [y0 (.v (.int x)),y0 (.v (.lst ((shL.take 9).map jdL)))]) (by simp_all [];rfl)]
 rw [za (h1:=h) (Y1:= [y0 (.v (.int x)),y0 (.v (.lst (shL.map jdL)))]) (by
  simp_all [o])]
 by_cases c:x / 16 % 24=11
 ·refine⟨b,Ad7.mp jbv.2 b d,?_⟩
  rw [Wj (w:= .v (jdL b)) (by simp_all [l,m,wk,c,decide_true]) (Xc rfl (by simp_all [n,r,Zr,j]))]
  exact Gb _ _ _ rfl
 ·refine⟨a,Ad7.mp jbv.1 a f,?_⟩
  rw [Za (by simp_all [l,m,wk,c,decide_false])]
  rw [wb (w:= .v (jdL a)) (h1:=h) (Xc rfl (by simp_all [q,Xr,i]))]
  exact Gb _ _ _ rfl
def xcL: ∀n,n<5->(Wc n n).Nodup:=by decide +kernel
def fW (n:Nat) (ks ts:List Nat) (o:List Nat):WK:=((n:Int),Ze (ks.map (kM n o)),Ze (ts.map (tK n o)))
def fI (n:Nat) (ks ts:List Nat):WK:=((n:Int),Ze ks,Ze ts)
theorem ze: ∀ {a b},Ze a=Ze b->a=b
 | [],[],_=>rfl
 | [],_::_,h=>by simp [Ze]at h
 | _::_,[],h=>by simp [Ze]at h
 | x::a,y::b,h=>by
  simp only [Ze,Aa9,List.cons.injEq]at h
  rw [ze h.2,show x=y by omega]
def xcv :fW n ks ts o=fW n ks ts p↔ks.map (kM n o)=ks.map (kM n p)/\ts.map (tK n o)=ts.map (tK n p):=by
 unfold fW
 simp only [Prod.mk.injEq,true_and]
 exact⟨λ⟨a,b⟩=>⟨ze a,ze b⟩,λ⟨a,b⟩=>⟨by rw [a],by rw [b]⟩⟩
def fI_iff :fW n ks ts o=fI n ks ts↔ks.map (kM n o)=ks/\ts.map (tK n o)=ts:=by
 unfold fW fI
 simp only [Prod.mk.injEq,true_and]
 exact⟨λ⟨a,b⟩=>⟨ze a,ze b⟩,λ⟨a,b⟩=>⟨by rw [a],by rw [b]⟩⟩
def jZ (c:Od n x) (h: ∀b,b<n->pm o (pm p b)=b):(x.map (pm p)).map (pm o)=x:=by
 rw [Ac8]
 exact(Ad6 λb a=>h b (Ab3.mp (c.p.mem_iff.mp a))).trans (Am4 _)
def qap (q:Od n o) (h: ∀a,a<n->pm p (pm o a)=a): ∀b,b<n->pm o (pm p b)=b:=λb c=>by
 obtain⟨a,d,rfl⟩:=q.onto c
 rw [h a d]
section
variable {n:Nat}{ks ts:List Nat}(g:Wl n ks ts)
include g
def xbc (m:Od n p) (f:Od n o) (h: ∀a,a<n->pm p (pm o a)=a):((Wc n n).map λx=>x.map (pm p)).Perm (Wc n n):=by
 have hn:=g.n4
 have k:=xcL n (by omega)
 have j:=qap f h
 have inj:((Wc n n).map λx=>x.map (pm p)).Nodup:=by
  rw [Ak0,Ao7]
  refine Am6.imp_of_mem ?_ k
  intro a b d l ne e
  refine ne ?_
  rw [← jZ ((Jb hn a).mp d) j,←jZ ((Jb hn b).mp l) j,e]
 rw [List.perm_iff_count]
 intro a
 rw [Ak0.count inj,Ak0.count k]
 have:a∈(Wc n n).map (λx=>x.map (pm p))↔a∈Wc n n:=by
  rw [Ab9]
  constructor
  ·rintro ⟨x,q,rfl⟩
   exact(Jb hn _).mpr (m.then ((Jb hn x).mp q))
  ·intro d
   have i:=(Jb hn a).mp d
   exact⟨a.map (pm o),(Jb hn _).mpr (f.then i),jZ i h⟩
 by_cases c:a∈Wc n n
 ·rw [if_pos c,if_pos (this.mpr c)]
 ·rw [if_neg c,if_neg λz=>c (this.mp z)]
def xbP (e:Od n p) (d:Od n o) (c:Od n x) (h: ∀a,a<n->pm p (pm o a)=a):fW n ks ts (x.map (pm p))=fI n ks ts↔fW n ks ts x=fW n ks ts o:=by
 rw [fI_iff,xcv]
 obtain⟨l,m⟩:=qU e c
 constructor
 ·intro⟨a,b⟩
  obtain⟨f,i⟩:=qU d (e.then c)
  rw [jZ c (qap d h)]at f i
  exact⟨by rw [← f,a],by rw [← i,b]⟩
 ·intro⟨a,b⟩
  obtain⟨k,j⟩:=Qv g d e h
  exact⟨by rw [← l,a,k],by rw [← m,b,j]⟩
def zb7 (e:o∈Wc n n):(Wc n n).countP (λx=>fW n ks ts x==fW n ks ts o)=(Wc n n).countP (λx=>fW n ks ts x==fI n ks ts):=by
 have hn:=g.n4
 have a:=(Jb hn o).mp e
 obtain⟨p,b,h⟩:=a.rev
 have c:=(xbc g b a h).countP_eq (λx=>fW n ks ts x==fI n ks ts)
 rw [An4]at c
 rw [← c]
 refine List.countP_congr λx d=> ?_
 have:=xbP g b a ((Jb hn x).mp d) h
 simp only [Function.comp_def,beq_iff_eq]
 exact this.symm
end
theorem xak (a b:WK->Nat): ∀l:List WK,(l.map λd=>a d+b d).sum=(l.map a).sum+(l.map b).sum
 | []=>rfl
 | x::l=>by rw [Aa9,Af7,xak a b l,Aa9,Af7,Aa9,Af7];omega
theorem qaC (y): ∀l:List WK,(l.map λd=>if y==d then 1 else 0).sum=l.count y
 | []=>rfl
 | x::l=>by
  rw [Aa9,Af7,qaC y l,An3]
  have:(y==x)=(x==y):=by rw [Ad4,beq_iff_eq,beq_iff_eq];exact eq_comm
  rw [this];omega
theorem ZS (D:List WK) (a:D.Nodup): ∀ys:List WK,(∀ y∈ys,y∈D)->(D.map λd=>ys.count d).sum=ys.length
 | [],_=>by
  have: ∀l:List WK,(l.map λd=> [].count d).sum=0:=λl=>by induction l<;>simp_all
  exact this D
 | y::ys,h=>by
  have e:(D.map λd=>(y::ys).count d)=D.map λd=>ys.count d+if y==d then 1 else 0:=Ad6 λd _=>An3
  rw [e,xak,ZS D a ys λz b=>h z (Aa1 _ b),qaC,Ak0.count a,if_pos (h y Aa3),Ab4]
theorem JP (c) (g): ∀l:List WK,(∀ d∈l,g d=c)->(l.map g).sum=l.length*c
 | [],_=>by simp
 | x::l,h=>by
  rw [Aa9,Af7,h x Aa3,JP c g l λd a=>h d (Aa1 _ a),Ab4,Nat.add_mul,Nat.one_mul,Am]
def made (f:List Nat->WK):List (List Nat)->List WK->List WK
 | [],a=>a
 | o::os,a=>made f os (KI a (f o))
def xch (h:acc.Nodup):(KI acc k).Nodup:=by
 unfold KI
 split
 ·exact h
 ·rename_i c
  rw [Aj8]
  refine⟨h,by simp,λa f b d e=>c ?_⟩
  rw [Ad9]at d
  subst d e
  exact Ae8.mpr f
def zbh :d∈KI acc k↔d∈acc\/d=k:=by
 unfold KI
 split
 ·rename_i c
  exact⟨.inl,λz=>z.elim id λe=>e▸Ae8.mp c⟩
 ·rw [Ae1,Ad9]
theorem QU (f): ∀ os a,a.Nodup->(made f os a).Nodup
 | [],_,h=>h
 | o::os,a,h=>QU f os _ (xch h)
theorem qz (f) (d): ∀ os a,d∈made f os a↔d∈a\/ ∃o∈os,f o=d
 | [],a=>by simp [made]
 | o::os,a=>by
  rw [made,qz f d os,zbh]
  constructor
  ·rintro ((h | h) | ⟨p,b,e⟩)
   ·exact .inl h
   ·exact .inr ⟨o,Aa3,h.symm⟩
   ·exact .inr ⟨p,Aa1 _ b,e⟩
  ·rintro (h | ⟨p,b,e⟩)
   ·exact .inl (.inl h)
   ·rcases Ab7.mp b with rfl | b
    ·exact .inl (.inr e.symm)
    ·exact .inr ⟨p,b,e⟩
theorem jat (f): ∀ os a,(made f os a).length<=a.length+os.length
 | [],a=>Aa5 _
 | o::os,a=>by
  have c:=jat f os (KI a (f o))
  have b:(KI a (f o)).length<=a.length+1:=by
   unfold KI
   split
   ·omega
   ·rw [Aa8];exact Aa5 _
  rw [made,Ab4]
  omega
def jaa (g:Wl n ks ts):(made (fW n ks ts) (Wc n n) []).length*((Wc n n).countP λx=>fW n ks ts x==fI n ks ts)=(Wc n n).length:=by
 have c:=QU (fW n ks ts) (Wc n n) [] List.nodup_nil
 have b:=ZS _ c ((Wc n n).map (fW n ks ts)) λy f=>by
  obtain⟨o,a,rfl⟩:=Ab9.mp f
  exact(qz _ _ _ _).mpr (.inr ⟨o,a,rfl⟩)
 rw [Aa]at b
 rw [← b]
 refine(JP _ _ _ λd e=> ?_).symm
 rcases (qz _ _ _ _).mp e with h | ⟨o,a,rfl⟩
 ·exact absurd h Ac0
 ·rw [List.count_eq_countP,An4]
  exact zb7 g a
def xbl:D->List Nat
 | .tup xs=>((GM xs).getD []).map Int.toNat
 | _=> []
def JT (r):xbl (.tup (zdy r))=r:=by
 show((GM (zdy r)).getD []).map Int.toNat=r
 rw [zw,Option.getD_some,Ac8]
 exact(Ad6 λx _=>Af6 x).trans (Am4 _)
theorem WX (b): ∀rows:List (List Nat),(qdW rows).filterMap (λd=>if b (xbl d)then y0 d else u0)=qdW (rows.filter b)
 | []=>rfl
 | r::rows=>by
  have a:=WX b rows
  show List.filterMap _ (D.tup (zdy r)::qdW rows)=_
  rw [Ak8,JT,Ah7]
  cases q:b r with
  | true=>simp only [if_true];rw [a];rfl
  | false=>simp only [Ae2,if_false];exact a
def qaI (rows) (b) (g:Gm F it Y h= .ok (qdW rows) h) (i:rows.length<=1000) (a: ∀r∈rows,Gu F c (y0 (.v (.tup (zdy r)))::cap.map λj=>Gi Y j) h= .ok (b r) h):
 eval F (.comp [0] k9 1 cap it k9 c (.var 0)) Y h= .ok (.own (qdW (rows.filter b))) h:=by
 rw [← WX b rows]
 refine QJ _ g (by rw [Gk,Aa];omega) λd f=> ?_
 obtain⟨r,e,rfl⟩:=Ab9.mp f
 refine⟨_,b r,rfl,a r e,?_⟩
 cases q:b r with
 | true=>rw [if_pos rfl];exact⟨_,_,rfl,rfl,by rw [JT,q];rfl⟩
 | false=>rw [if_neg Ab6,JT,q];rfl
def jd0 (n:Nat) (ks ts:List Nat):List (List Nat):=(Wc n n).filter λo=>v9 (n=n/\ks.map (kM n o)=ks/\ts.map (tK n o)=ts)
def qbU (n) (ks ts):(jd0 n ks ts).length=(Wc n n).countP λx=>fW n ks ts x==fI n ks ts:=by
 unfold jd0
 rw [← List.countP_eq_length_filter]
 refine List.countP_congr λx _=> ?_
 rw [decide_eq_true_eq,beq_iff_eq,fI_iff]
 exact⟨λz=>z.2,λz=>⟨rfl,z⟩⟩
def zT (a:n<=4):(Wc n n).length<=24:=(xdZ n a).few n (Aa5 _)
def zbR (a:n<=4) (ks ts):(jd0 n ks ts).length<=24:=Ac (Ae _ _) (zT a)
def zbZ (k n) (ks ts) (nm) (a:n<=4) (j:ks.length<=4) (i:ts.length<=4) (h):call prog (k+6) "likenesses" [.v nm,.v (Xj n ks ts)] h= .ok (.own (qdW (jd0 n ks ts))) h:=by
 rw [Ga rfl _ _ _ rfl]
 have f:=Zt k n h a
 have c:ixD (.v (Xj n ks ts)) (.v (.int 0)) h=y0 (.int n):=rfl
 simp only [GV]
 have d:eval (u9 (k+5)) Qr [y0 (.v nm),y0 (.v (Xj n ks ts))] h= .ok (.own (qdW (jd0 n ks ts))) h:=by
  refine qaI (Wc n n) _ (zN (by simp_all [c,f])) (by have:=zT a;omega) λr e=> ?_
  have b:=(Jb a r).mp e
  have g:=wR (k+1) b a ks ts (by omega) (by omega) nm h
  have eq:=jbt n n (ks.map (kM n r)) (ts.map (tK n r)) ks ts h
  simp_all [g,eq]
 show G7 _ (execs _ _ [y0 (.v nm),y0 (.v (Xj n ks ts))] h)=_
 rw [wb (wB rfl d)]
 exact GC _ _ _ rfl
def xbw (n) (ks ts):wkD (Xj n ks ts)=y0 ((n:Int),Ze ks,Ze ts):=by
 show(match GM (zdy ks),GM (zdy ts)with
  | some a,y0 b=>y0 ((n:Int),a,b)
  | _,_=>u0)=_
 rw [zw,zw];rfl
def zbd (h:k∉acc):KI (acc++m) k=acc++KI m k:=by
 unfold KI
 have:(acc++m).contains k=m.contains k:=by
  rw [Ad4,Ae8,Ae8,Ae1]
  exact⟨λz=>z.elim (λw=>absurd w h) id,.inr⟩
 rw [this]
 split
 ·rfl
 ·rw [Af1]
theorem j5 (f): ∀ os m,(∀ o∈os,f o∉acc)->made f os (acc++m)=acc++made f os m
 | [],m,_=>rfl
 | o::os,m,h=>by
  rw [made,zbd (h o Aa3),j5 f os _ λp a=>h p (Aa1 _ a)]
  rfl
abbrev fC (n:Nat) (K T:List Tx) (c:Nat):List Nat->WK:=fW n (jdR n K.length T.length c) (zdV n K.length T.length c)
abbrev kC (n:Nat) (K T:List Tx) (c:Nat):WK:=fI n (jdR n K.length T.length c) (zdV n K.length T.length c)
abbrev sC (n:Nat) (K T:List Tx) (c:Nat):Nat:=(jd0 n (jdR n K.length T.length c) (zdV n K.length T.length c)).length
noncomputable abbrev mC (n:Nat) (K T:List Tx) (c:Nat) (o:List Nat):Nat:=Cw n ((jdR n K.length T.length c).map (kM n o)) ((zdV n K.length T.length c).map (tK n o))
abbrev qC (n:Nat) (K T:List Tx) (c:Nat):Nat:=(Wc n n).length / sC n K T c
structure Kn (n:Nat) (K T:List Tx) (l:List Nat) (acc:List WK):Prop where
 nd:acc.Nodup
 mem: ∀d,d∈acc↔ ∃c∈l,∃o∈Wc n n,fC n K T c o=d
 len:acc.length=(l.map (qC n K T)).sum
def Gd (n:Nat) (K T:List Tx) (l:List Nat):Prop:=l.Nodup/\ ∀c∈l,c<nB n K T/\jd2 n K.length T.length c=k9
noncomputable def qdL (n:Nat) (K T:List Tx):List Nat->List WK->List WK
 | [],a=>a
 | c::l,a=>qdL n K T l (made (fC n K T c) (Wc n n) a)
section
variable {n:Nat}{K T:List Tx}{ss:List Sy}(C:Ct n K T ss)
include C
def xam (g:c<nB n K T)(e:Od n o):mC n K T c o<nB n K T/\fC n K T c o=kC n K T (mC n K T c o)/\kc n K T ss (mC n K T c o)=kc n K T ss c:=by
 have a:=(C.at g).mv e
 have d:=a.lt_c
 obtain⟨f,b⟩:=a.uniq (C.at d)
 refine⟨d,Prod.ext rfl (Prod.ext (congrArg Ze f) (congrArg Ze b)),?_⟩
 unfold kc
 rw [← f,←b]
 exact qbD C (C.at g) e
def qcA (a:c<nB n K T) (b:d<nB n K T) (h:kC n K T c=kC n K T d):c=d:=by
 unfold kC fI at h
 simp only [Prod.mk.injEq,true_and]at h
 exact(zcC C a b).mp ⟨ze h.1,ze h.2⟩
def qcz (f:d<nB n K T) (b:jd2 n K.length T.length c=k9)(g:Od n o) (h:Od n p) (e:fC n K T c o=fC n K T d p):c<=d:=by
 obtain⟨q,a,j⟩:=h.rev
 obtain⟨l,i⟩:=Qv (C.at f).wl h a j
 unfold fC fW at e
 simp only [Prod.mk.injEq,true_and]at e
 obtain⟨m,k⟩:=qU a g
 unfold jd2 at b
 rw [Ad7]at b
 have:=of_decide_eq_true (b _ ((Jb C.hn _).mpr (a.then g)))
 rw [← m,←k,ze e.1,ze e.2,l,i,(C.at f).cd]at this
 exact this
def mc (b:c<nB n K T):(made (fC n K T c) (Wc n n) []).length=qC n K T c/\0<sC n K T c/\(Wc n n).length % sC n K T c=0:=by
 have e:=jaa (C.at b).wl
 rw [← qbU]at e
 have e:(made (fC n K T c) (Wc n n) []).length*sC n K T c=(Wc n n).length:=e
 have a:0<sC n K T c:=by
  rcases Nat.eq_zero_or_pos (sC n K T c)with z | z
  ·rw [z,Nat.mul_zero]at e
   exact absurd (Ag5 e.symm) (zcu (C.at b).wl)
  ·exact z
 refine⟨?_,a,?_⟩
 ·unfold qC;rw [← e,Nat.mul_div_cancel _ a]
 ·rw [← e,Nat.mul_mod_left]
def Kn.new (k:Kn n K T l acc)(a:Gd n K T (l++ [c]))(j:o∈Wc n n):fC n K T c o∉acc:=λh=>by
 obtain⟨d,g,p,q,e⟩:=(k.mem _).mp h
 have f:=(Jb C.hn o).mp j
 have b:=(Jb C.hn p).mp q
 obtain⟨m,s⟩:=a.2 c (by simp)
 obtain⟨i,r⟩:=a.2 d (by simp [g])
 have:c=d:=Nat.le_antisymm (qcz C i s f b e.symm) (qcz C m r b f e)
 have z:=(Aj8.mp a.1).2.2 d g c (by simp)
 exact z this.symm
def Kn.step (k:Kn n K T l acc)(f:Gd n K T (l++ [c])):Kn n K T (l++ [c]) (made (fC n K T c) (Wc n n) acc):=by
 have e:=j5 (fC n K T c) (Wc n n) [] λo a=>k.new C f a
 rw [Ae0]at e
 obtain⟨g,_⟩:=f.2 c (by simp)
 refine⟨QU _ _ _ k.nd,λd=> ?_,?_⟩
 ·rw [qz,k.mem]
  constructor
  ·rintro (⟨b,h,x⟩ | ⟨o,a,x⟩)
   ·exact⟨b,Ac5 _ h,x⟩
   ·exact⟨c,by simp,o,a,x⟩
  ·rintro ⟨b,h,o,a,x⟩
   rcases Ae1.mp h with h | h
   ·exact .inl ⟨b,h,o,a,x⟩
   ·rw [Ad9.mp h]at x
    exact .inr ⟨o,a,x⟩
 ·rw [e,Aa8,k.len,(mc C g).1,Ac6,An1]
  simp
theorem Kn.go: ∀(l2 a) (b),Kn n K T a b->Gd n K T (a++l2)->Kn n K T (a++l2) (qdL n K T l2 b)
 | [],a,b,k,_=>by rw [Ae0];exact k
 | c::l2,a,b,k,h=>by
  have e:a++c::l2=a++ [c]++l2:=by simp
  rw [e]at h ⊢
  have f:Gd n K T (a++ [c]):=⟨(Aj8.mp h.1).1,λd g=>h.2 d (Ac5 _ g)⟩
  exact Kn.go l2 (a++ [c]) _ (k.step C f) h
omit C in
theorem Kn.nil:Kn n K T [] []:=⟨List.nodup_nil,λd=>⟨λh=>absurd h Ac0,λ⟨_,h,_⟩=>absurd h Ac0⟩,rfl⟩
omit C in
theorem qcG:(kL n K T ss).Nodup:=Am6.filter _ Ai8
def qb0:Gd n K T (dL n K T ss):=⟨Am6.filter _ qcG,λc a=>⟨(Z6 C (Ad8.mp a).1).1,(Ad8.mp a).2⟩⟩
def Kn.all (k:Kn n K T (dL n K T ss) acc):acc.length=(kL n K T ss).length:=by
 have g:((kL n K T ss).map (kC n K T)).Nodup:=by
  rw [Ak0,Ao7]
  refine Am6.imp_of_mem ?_ qcG
  intro a b y s ne e
  exact ne (qcA C (Z6 C y).1 (Z6 C s).1 e)
 have iff: ∀d,d∈acc↔d∈(kL n K T ss).map (kC n K T):=λd=>by
  rw [k.mem,Ab9]
  constructor
  ·rintro ⟨c,f,o,q,rfl⟩
   obtain⟨i,h⟩:=Z6 C (Ad8.mp f).1
   obtain⟨m,u,x⟩:=xam C i ((Jb C.hn o).mp q)
   exact⟨_,Ad8.mpr ⟨Ab3.mpr m,by rw [x];exact h⟩,u.symm⟩
  ·rintro ⟨c,f,rfl⟩
   obtain⟨i,h⟩:=Z6 C f
   obtain⟨v,j,_,w,t,_,⟨r,l,e⟩,_⟩:=xcr C i
   refine⟨v,Ad8.mpr ⟨Ad8.mpr ⟨Ab3.mpr j,by rw [w];exact h⟩,t⟩,r,(Jb C.hn r).mpr l,?_⟩
   rw [(xam C j l).2.1]
   exact congrArg (kC n K T) e.symm
 have p:acc.Perm ((kL n K T ss).map (kC n K T)):=by
  rw [List.perm_iff_count]
  intro a
  rw [Ak0.count k.nd,Ak0.count g]
  by_cases c:a∈acc
  ·rw [if_pos c,if_pos ((iff a).mp c)]
  ·rw [if_neg c,if_neg λz=>c ((iff a).mpr z)]
 rw [p.length_eq,Aa]
def xce:((dL n K T ss).map (qC n K T)).sum=(kL n K T ss).length:=by
 have k:=Kn.go C (dL n K T ss) [] [] Kn.nil (qb0 C)
 exact k.len.symm.trans (k.all C)
end
def jW (rows) (h):biD .len [.own (qdW rows)] h=okv (.int ((rows.length:Nat):Int)) h:=by rw [xaD,Aa]
section
variable {n:Nat}{K T:List Tx}{ss:List Sy}(C:Ct n K T ss)
include C
def zbm:(dL n K T ss).length<=512:=Ac (Ae _ _) (xcj C)
def q0 (d:c<nB n K T) (g) (m) (e:55<=m):call prog (m+1) "likenesses" [.v (wD K T),.v (wX n K T c)] g= .ok (.own (qdW (jd0 n (jdR n K.length T.length c) (zdV n K.length T.length c)))) g:=by
 have a:=C.at d
 have b:=zbZ (m-5) n (jdR n K.length T.length c) (zdV n K.length T.length c) (wD K T) C.hn a.wl.k4 a.wl.t4 g
 rw [show m-5+6=m+1 by omega]at b
 exact b
def qbn (c):sC n K T c<=24:=zbR C.hn _ _
def qcT (g:AH) (m:Nat) (e:55<=m):call prog (m+2) "how_many" [.v (.tup [wD K T,.tup (ss.map xd4)]),.v (.int (n:Int))] g= .ok (.v (.int (((kL n K T ss).length:Nat):Int))) g:=by
 have h:=J4 C g m e
 have b:=Zt (m-4) n g C.hn
 rw [show m-4+5=m+1 by omega]at b
 have r:=zbm C
 have i:ixD (.v (.tup [wD K T,.tup (ss.map xd4)])) (.v (.int 0)) g=y0 (wD K T):=rfl
 rw [Ga (d:=GJ) rfl _ _ _ rfl]
 simp only [GJ]
 refine fx (by simp_all [h];rfl) ?_
 refine fx (by simp_all [b,jW];rfl) ?_
 have j:eval (u9 (m+1)) Xo [y0 (.v (.tup [wD K T,.tup (ss.map xd4)])),y0 (.v (.int (n:Int))),y0 (.v (.lst ((dL n K T ss).map (wX n K T)))),y0 (.v (.int (((Wc n n).length:Nat):Int)))] g= .ok (.own (zdy ((dL n K T ss).map (qC n K T)))) g:=by
  rw [zdy,Ac8]
  unfold Xo
  refine xf (wX n K T) (λc=> .int ((qC n K T c:Nat):Int)) _ (zcQ (by simp_all [])) (by omega) λc f=>⟨.v (.int ((qC n K T c:Nat):Int)),?_,rfl⟩
  obtain⟨a,_⟩:=(qb0 C).2 c f
  have k:=q0 C a g m e
  obtain⟨_,p,_⟩:=mc C a
  have q:=qbn C c
  have l:Gn .fdiv (((Wc n n).length:Nat):Int) ((sC n K T c:Nat):Int)=y0 ((qC n K T c:Nat):Int):=jr _ _ (by omega) (by omega)
  simp_all [i,k,jW,l]
 have o:(zdy ((dL n K T ss).map (qC n K T))).length<=LIM:=by rw [Gk,Aa,Aa];omega
 rw [wb (w:= .v (.int (((kL n K T ss).length:Nat):Int))) (h1:=g) (Xc rfl (by
  rw [eval,Gg,j,R.bind_ok,Gg,R.bind_ok,R.bind_ok,qJ,if_pos o,wC,xce C]
  rfl))]
 exact Gb _ _ _ rfl
end
def zaR (k) (nm d e) (h) (a:call prog k "check_bits" [.v nm,.v d,.v (.int 9)] h= .exc e h):call prog (k+2) "how_many" [.v (.tup [nm,.tup []]),.v d] h= .exc e h:=by
 have b:=zcg k nm (.tup []) d e h a
 rw [Ga rfl _ _ _ rfl]
 simp only [GJ]
 rw [execs,show exec (u9 (k+1)) (.setf 2 (.call "unlike" (.cons (.var 0) (.cons (.var 1) .nil)))) (List.map some [W.v (.tup [nm,.tup []]),.v d]++List.replicate (4-2) none) h= .exc e h by simp_all [b];rfl]
 rfl
def xdi: ["TooBig"].any (Kx prog.cl 8 "TooBig").contains=true:=by decide +kernel
def xdk: ["TooBig"].any (Kx prog.cl 8 "NoSize").contains=false:=by decide +kernel
def xdj: ["NoSize"].any (Kx prog.cl 8 "NoSize").contains=true:=by decide +kernel
abbrev QN:Tx:= [115,105,122,101]
def jc1 (k:Nat) (nm d:D) (b:Nat) (h:AH) (a:call prog k "check_bits" [.v nm,.v d,.v (.int 9)] h= .exc (.err "TooBig" "bits" (.int (b:Int))) h):call prog (k+3) "_law_big" [.v nm,.v d] h= .ok (.v (.int (b:Int))) h:=by
 have a:=zaR k nm d _ h a
 rw [Ga (d:=GK) rfl _ _ _ rfl]
 simp only [GK]
 refine fx (by simp_all [];rfl) ?_
 refine fx (by simp_all [a,Pj,K6,xdi,if_true];rfl) ?_
 rw [wb (w:= .v (.int (b:Int))) (h1:=h) rfl]
 exact Gb _ _ _ rfl
def qcW (k:Nat) (nm d:D) (h:AH) (a:call prog k "check_bits" [.v nm,.v d,.v (.int 9)] h= .exc (.exc "NoSize" []) h):call prog (k+3) "_law_big" [.v nm,.v d] h= .ok (.v (.str QN)) h:=by
 have a:=zaR k nm d _ h a
 rw [Ga (d:=GK) rfl _ _ _ rfl]
 simp only [GK]
 refine fx (by simp_all [];rfl) ?_
 refine fx (by simp_all [a,Pj,K3,xdk,xdj];rfl) ?_
 rw [wb (w:= .v (.str QN)) (h1:=h) rfl]
 exact Gb _ _ _ rfl
def qbN (a b:Nat) (h):biD .min [.v (.int (a:Int)),.v (.int (b:Int))] h=okv (.int ((min a b:Nat):Int)) h:=by
 show okv (.int (if b<(a:Int)then(b:Int)else a)) h=_
 by_cases c:b<a
 ·rw [if_pos (by omega),show min a b=b by omega]
 ·rw [if_neg (by omega),show min a b=a by omega]
def xc7:Gn .pow 10 20=y0 (10 ^ 20):=by
 have:(0:Int)<=20/\ 20<=BP/\(10:Int).natAbs<jdz:=by rw [KR,G9];decide
 show(if _ then _ else _)=_
 rw [if_pos this];rfl
def jco {K T n:Nat}(d:K<=4) (a:T<=4) (b:n<=4):Gn .mul (K:Int) (n:Int)=y0 ((K*n:Nat):Int)/\Gn .mul (T:Int) (n:Int)=y0 ((T*n:Nat):Int)/\Gn .mul ((T*n:Nat):Int) (n:Int)=y0 ((T*n*n:Nat):Int)/\((K*n:Nat):Int)+((T*n*n:Nat):Int)=((K*n+T*n*n:Nat):Int):=by
 have c:=Ae3 a b
 exact⟨wc K n (by omega),wc T n (by omega),wc (T*n) n (by omega),rfl⟩
theorem zR: ∀(Y) (i){w},Gj Y i=y0 w->GD Y i w=Y
 | [],_,_,e=>by cases e
 | x::r,0,w,e=>by cases (e);rfl
 | x::r,i+1,w,e=>congrArg (x:: ·) (zR r i e)
def xbq (j u:Nat)(d:Gu F c Y h= .ok b h) (a:Gj Y 5=y0 (.v (.int (u:Int)))): ∃e:Nat,exec F (.iff c (.cons (.setf 5 (.bi .min (.cons (.var 5) (.cons (.int (j:Int)) .nil)))) .nil) .nil) Y h= .next (GD Y 5 (.v (.int (e:Int)))) h:=by
 cases b with
 | true=>
  refine⟨min u j,?_⟩
  rw [qA d,zb]
  simp only [exec,eval,Gg,K5 a,R.bind_ok,R.toO_ok]
  rw [qbN]
  rfl
 | false=>
  refine⟨u,?_⟩
  rw [xU d,zR Y 5 a]
  rfl
abbrev zdT:E:= .bin .add (.bin .mul (.var 1) (.var 3)) (.bin .mul (.bin .mul (.var 2) (.var 3)) (.var 3))
noncomputable abbrev q5 (ns:List Int) (K T n:Nat) (w:D) (u:Nat):Sl:= [y0 (.v (.lst (ns.map .int))),y0 (.v (.int (K:Int))),y0 (.v (.int (T:Int))),y0 (.v (.int (n:Int))),y0 (.v w),y0 (.v (.int (u:Int))),u0,u0,u0,u0,u0,u0,u0,u0,u0,u0,u0]
noncomputable abbrev zd8 (ns:List Int) (a b n u:Nat) (K T:List Tx) (g:List Sy) (q:Nat) (e c f d:Option W):Sl:= [y0 (.v (.lst (ns.map .int))),y0 (.v (.int (a:Int))),y0 (.v (.int (b:Int))),y0 (.v (.int (n:Int))),y0 (.v (wD K T)),y0 (.v (.int (u:Int))),y0 (.v (.tup [wD K T,.tup (g.map xd4)])),y0 (.v (.int (((kL n K T g).length:Nat):Int))),y0 (.v (.lst (qdW (Wc n n)))),y0 (.v (.ref 0)),y0 (.v (.int (q:Int))),e,c,f,d,u0,u0]
noncomputable abbrev pT (n:Nat) (K T:List Tx) (c:Nat) (o:List Nat):Bool:=v9 (n=n/\(jdR n K.length T.length c).map (kM n o)=jdR n K.length T.length c/\(zdV n K.length T.length c).map (tK n o)=zdV n K.length T.length c)
def jbl (S) (k):(KI S k).length<=S.length+1:=by
 unfold KI
 split
 ·omega
 ·rw [Aa8];exact Aa5 _
section
variable {n:Nat}{K T:List Tx}{ss:List Sy}(C:Ct n K T ss)
include C
theorem zcy (v:c<nB n K T) (m): ∀ l f (s:Nat) i g,(∀ o∈l,Od n o)->f.length+l.length<=20000-> ∃r j,
 Gr (Gp [13] k9) (λY h=>execs (u9 (m+2)) zU Y h) (qdW l) (zd8 ns a b n u K T ss q (y0 (.v (wX n K T c))) (y0 (.v (.int (s:Int)))) i g) [.dic f]= .next (zd8 ns a b n u K T ss q (y0 (.v (wX n K T c))) (y0 (.v (.int ((s+(l.filter (pT n K T c)).length:Nat):Int)))) r j) [.dic (made (fC n K T c) l f)]
 | [],f,s,i,g,_,_=>⟨i,g,rfl⟩
 | o::l,f,s,i,g,t,B=>by
  rw [Ab4]at B
  have d:=C.at v
  have D:=d.wl.k4
  have E:=d.wl.t4
  have y:=xcU (k:=m) (t o Aa3) C.hn (jdR n K.length T.length c) (zdV n K.length T.length c) (by omega) (by omega) [.dic f]
  have w:=xbw n ((jdR n K.length T.length c).map (kM n o)) ((zdV n K.length T.length c).map (tK n o))
  have eq: ∀h,Gz .eq (.v (Xj n ((jdR n K.length T.length c).map (kM n o)) ((zdV n K.length T.length c).map (tK n o)))) (.v (wX n K T c)) h=y0 (pT n K T c o):=λh=>jbt ..
  have A:KT [.dic f] (y0 (.v (.ref 0)))=y0 (0,f):=rfl
  have z:f.length<LIM:=by rw [Gk];omega
  have pl:=jbl f (fC n K T c o)
  obtain⟨r,j,e⟩:=zcy v m l (KI f (fC n K T c o)) (s+(pT n K T c o).toNat) (y0 (.v (.tup (zdy o)))) (y0 (.v (Xj n ((jdR n K.length T.length c).map (kM n o)) ((zdV n K.length T.length c).map (tK n o))))) (λp x=>t p (Aa1 _ x)) (by omega)
  refine⟨r,j,?_⟩
  rw [show qdW (o::l)= .tup (zdy o)::qdW l from rfl,xa (Y1:=zd8 ns a b n u K T ss q (y0 (.v (wX n K T c))) (y0 (.v (.int s))) (y0 (.v (.tup (zdy o)))) g) (Y2:=zd8 ns a b n u K T ss q (y0 (.v (wX n K T c))) (y0 (.v (.int ((s+(pT n K T c o).toNat:Nat))))) (y0 (.v (.tup (zdy o)))) (y0 (.v (Xj n ((jdR n K.length T.length c).map (kM n o)) ((zdV n K.length T.length c).map (tK n o)))))) (h2:= [.dic (KI f (fC n K T c o))]) rfl (by
   simp only [zU]
   refine Eq.trans (za (by simp_all [y];rfl)) ?_
   refine Eq.trans (za (by simp_all [A,w,z,if_true];rfl)) ?_
   rw [zb]
   simp_all [eq,qcp,Qc]
   rfl),e]
  rw [Ah7]
  cases pT n K T c o with
  | true=>rw [if_pos rfl,Ab4,show s+true.toNat+(l.filter (pT n K T c)).length=s+((l.filter (pT n K T c)).length+1)by simp only [Bool.toNat_true];omega];rfl
  | false=>rw [if_neg Ab6];rfl
theorem zbx (m) (L:55<=m): ∀ l2 g f q k j i,Kn n K T g f->Gd n K T (g++l2)->(∀ c∈l2,kc n K T ss c=k9)->f.length<=24*g.length->g.length+l2.length<=512-> ∃A B p l,
 Gr (Gp [11] k9) (λY h=>execs (u9 (m+1)) ZL Y h) (l2.map (wX n K T)) (zd8 ns a b n u K T ss (g.map (qC n K T)).sum q k j i) [.dic f]= .next (zd8 ns a b n u K T ss ((g++l2).map (qC n K T)).sum A B p l) [.dic (qdL n K T l2 f)]
 | [],g,f,q,k,j,i,_,_,_,_,_=>⟨q,k,j,i,by rw [Ae0];rfl⟩
 | c::l2,g,f,q,k,j,i,I,v,N,ha,hl=>by
  rw [Ab4]at hl
  have S:g++c::l2=g++ [c]++l2:=by simp
  rw [S]at v ⊢
  have D:Gd n K T (g++ [c]):=⟨(Aj8.mp v.1).1,λd H=>v.2 d (Ac5 _ H)⟩
  obtain⟨t,_⟩:=D.2 c (by simp)
  have s:=C.at t
  have rf:=zT C.hn
  obtain⟨p1,p2,p3⟩:=mc C t
  have sf:=qbn C c
  have P:=xbw n (jdR n K.length T.length c) (zdV n K.length T.length c)
  have R:f.contains (kC n K T c)=false:=by
   rw [Ak1]
   intro z
   obtain⟨r,hr,F,V⟩:=xdD s.wl
   have:=I.new C D ((Jb C.hn r).mpr hr)
   rw [show fC n K T c r=kC n K T c from fI_iff.mpr ⟨F,V⟩]at this
   exact this (Ae8.mp z)
  have U:Pr y9 (.v (wX n K T c)) (y0 (0,f)) [.dic f]=okv (.bl y9) [.dic f]:=by
   unfold Pr
   simp only [P]
   exact congrArg (λx=>okv (.bl x) [.dic f]) R
  have dc: ∀f:List WK,KT [.dic f] (y0 (.v (.ref 0)))=y0 (0,f):=λ_=>rfl
  have O:=qbr C s [.dic f] m (by omega)
  rw [show zdI n K T ss (jdR n K.length T.length c) (zdV n K.length T.length c)=k9 from N c Aa3]at O
  have F:ixD (.v (.tup [wD K T,.tup (ss.map xd4)])) (.v (.int 1)) [.dic f]=y0 (.tup (ss.map xd4)):=rfl
  have cl:=q0 C t [.dic (made (fC n K T c) (Wc n n) f)] m L
  obtain⟨p,l,J⟩:=zcy C t (m-1) (Wc n n) f 0 j i (λo Q=>(Jb C.hn o).mp Q) (by omega)
  rw [show m-1+2=m+1 by omega,Ag8,show(Wc n n).filter (pT n K T c)=jd0 n (jdR n K.length T.length c) (zdV n K.length T.length c)from rfl]at J
  have ml:=jat (fC n K T c) (Wc n n) f
  obtain⟨E,G,w,y,e⟩:=zbx m L l2 (g++ [c]) (made (fC n K T c) (Wc n n) f) (y0 (.v (wX n K T c))) (y0 (.v (.int ((sC n K T c:Nat):Int)))) p l (I.step C D) v (λd H=>N d (Aa1 _ H)) (by rw [Aa8];simp;omega) (by rw [Aa8];simp;omega)
  refine⟨E,G,w,y,?_⟩
  have M: ∀h,biD .len [.v (.lst (qdW (Wc n n)))] h=okv (.int (((Wc n n).length:Nat):Int)) h:=λh=>by rw [qI,Aa]
  have fd:Gn .fdiv (((Wc n n).length:Nat):Int) ((sC n K T c:Nat):Int)=y0 ((qC n K T c:Nat):Int):=jr _ _ (by omega) (by omega)
  have W:Gn .mod (((Wc n n).length:Nat):Int) ((sC n K T c:Nat):Int)=y0 0:=by
   rw [jn _ _ (by omega)]
   exact congrArg y0 (by exact_mod_cast p3)
  have n1: ∀h,Gz .ne (.v (.int ((sC n K T c:Nat):Int))) (.v (.int ((sC n K T c:Nat):Int))) h=y0 false:=λh=>by rw [jM,decide_eq_true rfl];rfl
  have X: ∀h,Gz .ne (.v (.int 0)) (.v (.int 0)) h=y0 false:=λh=>by rw [jM,decide_eq_true rfl];rfl
  have Z:((g++ [c]).map (qC n K T)).sum=(g.map (qC n K T)).sum+qC n K T c:=by rw [Ac6,An1];simp
  rw [Aa9,xa (Y1:=zd8 ns a b n u K T ss (g.map (qC n K T)).sum (y0 (.v (wX n K T c))) k j i) (Y2:=zd8 ns a b n u K T ss ((g++ [c]).map (qC n K T)).sum (y0 (.v (wX n K T c))) (y0 (.v (.int ((sC n K T c:Nat):Int)))) p l) rfl (by
   simp only [ZL]
   rw [Za (by simp_all [dc,U,O,F])]
   refine Eq.trans (za (by simp_all [];rfl)) ?_
   refine Eq.trans (za (by rw [exec];exact J)) ?_
   rw [Za (by simp_all [cl,jW,n1,M,W,X]),Z,zb]
   simp_all [M,fd,Qc]
   rfl),e]
  rfl
end
def hlaw (ns:List Int) (hl:ns.length<=63): ∃h',call prog 60 "law" [.v (.lst (ns.map .int))] []= .ok (.v (.bl true)) h':=by
 have t: ∀h,call prog 59 "_law_nth" [.v (.lst (ns.map .int)),.v (.int 0)] h= .ok (.v (.int (ns.getD 0 0))) h:=fun h=>xcc 58 ns 0 h
 generalize ns.getD 0 0=v at t
 have f2:=jr v 2 (by decide) (by decide)
 obtain⟨⟨K,T,n⟩,ok,M⟩:=xbU 58 (v / 2) []
 simp only [xcN,Aa7,decide_eq_true_eq]at ok
 obtain⟨⟨⟨hK,hT⟩,hn⟩,hb⟩:=ok
 have M:call prog 59 "_law_shape" [.v (.int (v / 2))] []= .ok (.v (.tup [.int (K:Int),.int (T:Int),.int (n:Int)])) []:=M
 obtain⟨j,k,lK,lT,nd,en⟩:=xdg 58 K T hK hT []
 have ff:Gn .fdiv v 1536=y0 (v / 1536):=by
  show(if _ then _ else _)=_
  rw [if_pos (by rw [G8];decide)]
 have m5:=jn (v / 1536) 5 (by decide)
 obtain⟨u,hu,w⟩:=Zh (v / 1536) 5 (by decide)
 have w:v / 1536 % 5=(u:Int):=w
 rw [w]at m5
 obtain⟨W,k2,k3,k4⟩:=jco hK hT hn
 rw [Ga (d:=d_law) rfl _ _ _ rfl]
 have s: ∀ o h',o= .ret (.v (.bl k9)) h'-> ∃X,G7 ([]:AH).length o= .ok (.v (.bl k9)) X:=λo h' e=>by
  rw [e]
  show ∃X,fin 0 (.v (.bl k9)) h'=_
  unfold fin
  by_cases c:h'.length=0
  ·exact⟨_,if_pos c⟩
  ·exact⟨_,by rw [if_neg c];rfl⟩
 simp only [d_law]
 obtain⟨p,hA,S⟩:=Zh v 5 (by decide)
 obtain⟨m,hB,Q⟩:=Zh (v / 5) 4 (by decide)
 have S:v % 5=(p:Int):=S
 have Q:v / 5 % 4=(m:Int):=Q
 obtain⟨u1,e1⟩:=xbq (F:=(u9 59)) (h:= []) (Y:=q5 ns K T n (wD j k) u) (c:= .cmp .gt zdT (.int 6)) 2 u (by simp_all [W,k2,k3,Qc,k4,xr];rfl) rfl
 obtain⟨r,e2⟩:=xbq (F:=(u9 59)) (h:= []) (Y:=q5 ns K T n (wD j k) u1) (c:= .or (.cmp .eq (.var 3) (.int 4)) (.cmp .gt zdT (.int 8))) (b:=v9 ((n:Int)=4)||v9 ((8:Int)<((K*n+T*n*n:Nat):Int))) 1 u1 (by
  have q:=wk (n:Int) 4 []
  cases z:v9 ((n:Int)=4)<;>(rw [z]at q;simp_all [q,W,k2,k3,Qc,k4,xr];try rfl)) rfl
 obtain⟨l,sl,sw,I⟩:=zaC 55 ns hl j k (by rw [Aa8];omega) 1 r
 have I:call prog 59 "_law_sayings" [.v (.lst (ns.map .int)),.v (wD j k),.v (.int 1),.v (.int (r:Int))] []= .ok (.v (.tup (l.map xd4))) []:=I
 have C:Ct n j k l:=⟨hn,by omega,by omega,nd,sw,sl,by rw [lK,lT];exact hb⟩
 have eh: ∀g,call prog 59 "how_many" [.v (.tup [wD j k,.tup (l.map xd4)]),.v (.int (n:Int))] g=_:=fun g=>qcT C g 57 (by decide)
 have ew:=qW 58 (kL n j k l).length []
 have ek:=xaI C 58 (by decide)
 have i1:ixD (.v (.tup [wD j k,.tup (l.map xd4)])) (.v (.int 1)) []=y0 (.tup (l.map xd4)):=rfl
 have lk: ∀h,biD .len [.own ((kL n j k l).map (wX n j k))] h=okv (.int (((kL n j k l).length:Nat):Int)) h:=λh=>by rw [xaD,Aa]
 have nn: ∀ i h,Gz .ne (.v (.int i)) (.v (.int i)) h=y0 false:=λi h=>by rw [jM,decide_eq_true rfl];rfl
 have eo:=jbb 58 n [] hn
 have w:=J4 C [.dic []] 58 (by decide)
 have gd:=qb0 C
 obtain⟨H,y,J,G,x⟩:=zbx C (ns:=ns) (a:=K) (b:=T) (u:=r) 58 (by decide) (dL n j k l) [] [] u0 u0 u0 u0 Kn.nil gd (λc hc=>(Z6 C (Ad8.mp hc).1).2) (Aa5 _) (by have:=zbm C;simpa using this)
 have E:=Kn.go C (dL n j k l) [] [] Kn.nil gd
 rw [Af3]at x E
 rw [xce C]at x
 generalize qdL n j k (dL n j k l) []=f at x E
 have al:=E.all C
 obtain⟨A,B,V,lB,_,N⟩:=xdg 58 p (1+m) (by omega) (by omega) [.dic f]
 have N:call prog 59 "_law_names" [.v (.int (p:Int)),.v (.int (1+(m:Int)))] [.dic f]= .ok (.v (wD A B)) [.dic f]:=by
  rw [show (1:Int)+(m:Int)=((1+m:Nat):Int)by omega]
  exact N
 have Z:=jn v 5 (by decide)
 rw [S]at Z
 have a2:=jr v 5 (by decide) (by decide)
 have a3:=jn (v / 5) 4 (by decide)
 rw [Q]at a3
 have L:=jr v 20 (by decide) (by decide)
 have m6:=jn (v / 20) 6 (by decide)
 obtain⟨d,hd,O⟩:=wK (xs:= [D.int (-1),.int 5,.bl k9,.non,.str [50],.int (10 ^ 20)]) (v / 20) (by simp)
 have O:atI [D.int (-1),.int 5,.bl k9,.non,.str [50],.int (10 ^ 20)] (v / 20 % 6)=y0 d:=O
 have U:Gc d=k9/\jh d 5=false:=by
  simp only [Ab7,Ac0,or_false]at hd
  rcases hd with rfl | rfl | rfl | rfl | rfl | rfl<;>exact⟨rfl,rfl⟩
 have r1:call prog 59 "_law_big" [.v (wD A B),.v (.int 4)] [.dic f]= .ok (.v (.int ((p*4+(1+m)*16:Nat):Int))) [.dic f]:=by
  refine jc1 56 (wD A B) (.int 4) _ _ ?_
  have z:=jc9 51 4 A B [.dic f] (Aa5 _) (by omega) (by omega)
  rw [V,lB,if_neg (by omega),show p*4+(1+m)*4*4=p*4+(1+m)*16 by omega]at z
  exact z
 have r2:=qcW 56 (wD A B) d [.dic f] (zb0 51 (wD A B) d [.dic f] U.1 U.2)
 have j0:ixD (.v (wD A B)) (.v (.int 0)) [.dic f]=y0 (.tup (A.map D.str)):=rfl
 have j1:ixD (.v (wD A B)) (.v (.int 1)) [.dic f]=y0 (.tup (B.map D.str)):=rfl
 have l0:biD .len [.v (.tup (A.map D.str))] [.dic f]=okv (.int (p:Int)) [.dic f]:=by rw [ql,Aa,V]
 have l1:biD .len [.v (.tup (B.map D.str))] [.dic f]=okv (.int ((1+m:Nat):Int)) [.dic f]:=by rw [ql,Aa,lB]
 have u4:Gn .mul (p:Int) 4=y0 ((p*4:Nat):Int):=wc p 4 (by omega)
 have P:Gn .mul ((1+m:Nat):Int) 16=y0 (((1+m)*16:Nat):Int):=wc (1+m) 16 (by omega)
 have us:((p*4:Nat):Int)+(((1+m)*16:Nat):Int)=((p*4+(1+m)*16:Nat):Int):=rfl
 have z2:Gz .ne (.v (.str QN)) (.v (.str QN)) [.dic f]=y0 false:=jbR (.str QN) rfl (show 0<150 by decide) _
 have dl:KT [.dic f] (y0 (.v (.ref 0)))=y0 (0,f):=rfl
 have qe:=wk (((kL n j k l).length:Nat):Int) (((kL n j k l).length:Nat):Int) [.dic f]
 rw [decide_eq_true rfl]at qe
 have ef:exec (u9 59) (.for [11] true (.seq (.call "unlike" (.cons (.var 6) (.cons (.var 3) .nil)))) ZL) (zd8 ns K T n r j k l 0 none none none none) [.dic []]= .next (zd8 ns K T n r j k l (kL n j k l).length H y J G) [.dic f]:=by
  rw [exec,show Gw (u9 59) (.seq (.call "unlike" (.cons (.var 6) (.cons (.var 3) .nil)))) (zd8 ns K T n r j k l 0 none none none none) [.dic []]= .ok ((dL n j k l).map (wX n j k)) [.dic []]by simp_all [w],R.toO_ok]
  exact x
 refine s _ [.dic f] ?_
 refine Eq.trans (za (by simp_all [t,f2,M];rfl)) ?_
 refine Eq.trans (za (by simp_all [en];rfl)) ?_
 refine Eq.trans (za (by simp_all [t,ff,m5];rfl)) ?_
 refine Eq.trans (za e1) ?_
 refine Eq.trans (za e2) ?_
 refine Eq.trans (za (by simp_all [I];rfl)) ?_
 refine Eq.trans (za (by simp_all [eh];rfl)) ?_
 rw [Za (by simp_all [ew,i1,ek,lk,nn])]
 refine Eq.trans (za (by simp_all [eo];rfl)) ?_
 refine Eq.trans (za (by simp_all [];rfl)) ?_
 refine Eq.trans (za (by simp_all [];rfl)) ?_
 refine Eq.trans (za ef) ?_
 rw [Za (by simp_all [nn,dl,al])]
 refine Eq.trans (za (by simp_all [t,Z,a2,a3,Qc,N];rfl)) ?_
 refine Eq.trans (za (by simp_all [t,L,m6,xc7,Zr,O];rfl)) ?_
 rw [Za (by simp_all [r1,j0,l0,u4,j1,l1,P,Qc,us,nn,r2,z2])]
 exact wb (Xc rfl (by simp_all [eh,qe]))
end M
namespace L2.MS
open PySem PyProof.Rows
def jd1 (i:Nat):Stmt:=PySem.Challenge.pw_worldfind_k53_whole_counts.main.body.getD i (.Pass ⟨0,0,0,0⟩)
noncomputable def fnsL:List String:= ["is_whole", "is_below", "pairs_of", "gathered", "common", "either", "without", "turned", "joined", "closed", "same", "every", "is_size", "widths", "bits", "check_size", "check_bits", "code", "world_of", "longer_by_one", "renamings", "is_renaming", "renamed_kind", "renamed_tie", "renamed", "codes_alike", "likenesses", "value_of_name", "made", "value", "counts", "keeps_count", "keeps", "first_broken", "all_forms", "unlike", "how_many", "_law_nth", "_law_whole", "_law_marks", "_law_orders", "_law_world", "_law_led", "_law_names", "_law_atom", "_law_fact", "_law_put", "_law_op", "_law_spread", "_law_saying", "_law_sayings", "_law_shape", "_law_keep", "_law_keepers", "_law_big", "law"]
def jaS:List String:= ["NoSize", "NoCode", "TooBig", "NoRenaming"]
def xcI:List String:= ["NoSize", "NoCode", "NoRenaming"]
def zcF:List String:= ["TooBig", "NoSize"]
def jdH:jdy:=⟨[],[],[],[],[("TooBig", "bits")]⟩
abbrev CF (s:Stmt) (N:List Str):Cf:=⟨Zb s,N,fnsL,jaS,xcI,zcF,jdH⟩
abbrev QI:Stmt:=jd1 75
noncomputable abbrev qcf:List Str:= ["_law_script", "_law_kinds", "_law_ties", "_law_size", "_law_words", "_law_upto", "_law_theory", "_law_many", "_law_orders_here", "_law_known", "_law_in_all", "_law_world_here", "_law_alike_to_itself", "_law_order_here", "_law_other", "_law_big_here", "_law_odd"]
def zct:Qn qcf ["_law_script"] (Zb QI):=by constructor<;>first | rfl | decide +kernel
def jcS:chkSs (CF QI qcf) M.d_law.body (We QI)=true:=by decide +kernel
structure FP (K:Aa6) (n:Str) (s:Stmt) (f:Addr) (oc:Value) (od an:Option Addr) (sl:Array (Option Value)) (kV dc pm cd ct:Value):Prop where
 a:PySem.W.nsIn K mainGlobals n=y0 (y0 (.ref f))
 l:K.lookup f=y0 ⟨oc,od,.func (Ah9 n n (wm s) (We s) (Zb s) .none kV dc pm an cd ct),sl⟩
 c:Ak9 K cd n=k9
 k:Ae4 K (.ref f)=k9
def FQ (K:Aa6) (n:Str) (s:Stmt) (f:Addr):Prop:= ∃a e b sl kV c pm cd d,FP K n s f a e b sl kV c pm cd d
structure MP (K:Aa6) (C:Addr) (m n:Str) (s:Stmt) (f:Addr) (oc:Value) (od an:Option Addr) (sl:Array (Option Value)) (kV dc pm cd ct:Value):Prop where
 a:An0 K (.ref C) m=y0 (y0 (.ref f))
 i:PySem.W.isFn K (.ref f)=k9
 l:K.lookup f=y0 ⟨oc,od,.func (Ah9 m n (wm s) (We s) (Zb s) .none kV dc pm an cd ct),sl⟩
 c:Ak9 K cd n=k9
 k:Ae4 K (.ref f)=k9
def jdP {a:List Value}(h:a.length=1): ∃b,a= [b]:=by
 rcases a with _ | ⟨_,_ | ⟨_,_⟩⟩<;>first | exact⟨_,rfl⟩ | (simp at h)
def xdO {a:List Value}(h:a.length=2): ∃b c,a= [b,c]:=by
 rcases a with _ | ⟨_,_ | ⟨_,_ | ⟨_,_⟩⟩⟩<;>first | exact⟨_,_,rfl⟩ | (simp at h)
def jdS {a:List Value}(h:a.length=3): ∃b c a2,a= [b,c,a2]:=by
 rcases a with _ | ⟨_,_ | ⟨_,_ | ⟨_,_ | ⟨_,_⟩⟩⟩⟩<;>first | exact⟨_,_,_,rfl⟩ | (simp at h)
def qd6 {a:List Value}(h:a.length=4): ∃b c a2 a3,a= [b,c,a2,a3]:=by
 rcases a with _ | ⟨_,_ | ⟨_,_ | ⟨_,_ | ⟨_,_ | ⟨_,_⟩⟩⟩⟩⟩<;>first | exact⟨_,_,_,_,rfl⟩ | (simp at h)
def zdK {a:List Value}(h:a.length=5): ∃b c a2 a3 a4,a= [b,c,a2,a3,a4]:=by
 rcases a with _ | ⟨_,_ | ⟨_,_ | ⟨_,_ | ⟨_,_ | ⟨_,_ | ⟨_,_⟩⟩⟩⟩⟩⟩<;>first | exact⟨_,_,_,_,_,rfl⟩ | (simp at h)
def xd1 {K:Aa6}(X:K.In h) (G:h.Ns mainGlobals mg){st:Stmt}(p:FQ K (zg f) st fa) (N ps) (d) (m:M.prog.fns.lookup f=y0 d) (g:Qn N ps (Zb st):=by constructor<;>first | rfl | decide +kernel) (k:chkSs (CF st N) d.body (We st)=true:=by decide +kernel) (n:N.length=d.n:=by rfl) (q:ps.length=d.ps:=by rfl) (le:d.ps<=d.n:=by decide) (i: ∀(kV e pm:Value) (j:Option Addr) (c l:Value) (b:List Value),b.length=ps.length->bindArgs (Ah9 (zg f) (zg f) (wm st) (We st) (Zb st) .none kV e pm j c l) ⟨b,[]⟩=pure (ps.zip b):=by intro _ _ _ _ _ _ b a;first | (obtain ⟨_,rfl⟩:=jdP a;rfl) | (obtain ⟨_,_,rfl⟩:=xdO a;rfl) | (obtain ⟨_,_,_,rfl⟩:=jdS a;rfl) | (obtain ⟨_,_,_,_,rfl⟩:=qd6 a;rfl) | (obtain ⟨_,_,_,_,_,rfl⟩:=zdK a;rfl)): ∃d,M.prog.fns.lookup f=y0 d/\ ∃t:jdQ K mg f,jag t d fnsL jaS xcI zcF jdH/\Ae4 K (.ref t.fa)=k9/\mg (zg f)=y0 (.ref t.fa):=
 have⟨_,_,_,_,_,_,_,_,_,p⟩:=p
 have F:=qaK (st:=st) p.l p.c p.k
 ⟨d,m,⟨st,fa,_,N,ps⟩,⟨⟨_,_,F⟩,F.binds i,g,n,q,le,k⟩,p.k,Ag6 X G p.a⟩
noncomputable def xdb (f n m:Str) (b:List Stmt):Bool:=lC b λst r=>kZ r (Z7 st λts v=>lC ts λt r=>kZ r (zaB t λx g _=>Ql x λa=>Ql v λc=>v9 (a=n)&&v9 (g=f)&&v9 (c=m)))
def jcl (h:xdb f n m b=k9): ∃p1 p2 e o,b= [.Assign [.Attribute (.Name n p1) f p2] (.Name m e) o]:=by
 refine kC (λi r h=> ?_) b h
 refine kE (λh=> ?_) r h
 refine qac (λl v p h=> ?_) i h
 refine kC (λt r h=> ?_) l h
 refine kE (λh=> ?_) r h
 refine jbk (λx g p h=> ?_) t h
 refine Zm (λa p h=> ?_) x h
 refine Zm (λc p h=> ?_) v h
 obtain⟨j,d,k⟩:=a3 h
 cases of_decide_eq_true j
 cases of_decide_eq_true d
 cases of_decide_eq_true k
 exact⟨_,_,_,_,rfl⟩
def zd4 {K:PySem.W.Frag}{st:Stmt}{kV t pm cd i:Value}(p:MP K C "__init__" n st fa oc od j sl kV t pm cd i) (a b) (l:Qn [a,b] [a,b] (Zb st):=by constructor<;>first | rfl | decide +kernel) (m:xdb (zg f) a b (We st)=true:=by decide +kernel) (h1:(a==("__debug__" :Str))=false:=by decide) (h2:(b==("__debug__" :Str))=false:=by decide) (v:(a==("__classdict__" :Str))=false:=by decide) (o:(b==("__classdict__" :Str))=false:=by decide) (d: ∀ kV h pm j g i c,c.length= [a,b].length->bindArgs (PySem.W.fnOf "__init__" n (wm st) (We st) (Zb st) .none kV h pm j g i) ⟨c,[]⟩=pure ([a,b].zip c):=by intro _ _ _ _ _ _ c u;(obtain ⟨_,_,rfl⟩:=xdO u;rfl)): ∃fI fd ps,PySem.W.findIn K (.ref C) "__init__" =some (some (.ref fI))/\QX K (zg f) fI fd ps:=by
 have F:=qaK p.l p.c p.k
 obtain⟨k,s,r,q,e⟩:=jcl m
 exact⟨_,_,_,p.a,⟨⟨_,_,st,_,a,b,k,s,r,q,F,rfl,rfl,l,e,h1,h2,v,o⟩,F.binds d,beq_iff_eq.mp p.i⟩⟩
theorem jbx : ∀ {l:List (String×α)}{x}{d},l.lookup x=y0 d->(x,d)∈l
 | (k,v)::l,x,d,h=>by
  rw [Ad]at h
  by_cases q:(x==k)=k9
  ·rw [q]at h;cases h;rw [eq_of_beq q];exact Aa3
  ·rw [eq_false_of_ne_true q]at h;exact Aa1 _ (jbx h)
def all_mk {l:PySem.W.OpenLaw}{w:World}{K:PySem.W.Frag}{h:Heap}{mg:Str->Option Value}{fa:Addr}(X:K.In h) (G:h.Ns mainGlobals mg) (hfa:mg "law" =some (.ref fa))
 {f0 f1 f2 f3 f4 f5 f6 f7 f8 f9 f10 f11 f12 f13 f14 f15 f16 f17 f18 f19 f20 f21 f22 f23 f24 f25 f26 f27 f28 f29 f30 f31 f32 f33 f34 f35 f36 f37 f38 f39 f40 f41 f42 f43 f44 f45 f46 f47 f48 f49 f50 f51 f52 f53 f54 f55 b g a i gi0:Addr}
 (p0:FQ K "is_whole" (jd1 7) f0)
 (p1:FQ K "is_below" (jd1 8) f1)
 (p2:FQ K "pairs_of" (jd1 10) f2)
 (p3:FQ K "gathered" (jd1 11) f3)
 (p4:FQ K "common" (jd1 12) f4)
 (p5:FQ K "either" (jd1 13) f5)
 (p6:FQ K "without" (jd1 14) f6)
 (p7:FQ K "turned" (jd1 15) f7)
 (p8:FQ K "joined" (jd1 16) f8)
 (p9:FQ K "closed" (jd1 17) f9)
 (p10:FQ K "same" (jd1 18) f10)
 (p11:FQ K "every" (jd1 19) f11)
 (p12:FQ K "is_size" (jd1 22) f12)
 (p13:FQ K "widths" (jd1 23) f13)
 (p14:FQ K "bits" (jd1 24) f14)
 (p15:FQ K "check_size" (jd1 25) f15)
 (p16:FQ K "check_bits" (jd1 26) f16)
 (p17:FQ K "code" (jd1 27) f17)
 (p18:FQ K "world_of" (jd1 28) f18)
 (p19:FQ K "longer_by_one" (jd1 30) f19)
 (p20:FQ K "renamings" (jd1 31) f20)
 (p21:FQ K "is_renaming" (jd1 32) f21)
 (p22:FQ K "renamed_kind" (jd1 33) f22)
 (p23:FQ K "renamed_tie" (jd1 34) f23)
 (p24:FQ K "renamed" (jd1 35) f24)
 (p25:FQ K "codes_alike" (jd1 36) f25)
 (p26:FQ K "likenesses" (jd1 37) f26)
 (p27:FQ K "value_of_name" (jd1 39) f27)
 (p28:FQ K "made" (jd1 40) f28)
 (p29:FQ K "value" (jd1 41) f29)
 (p30:FQ K "counts" (jd1 42) f30)
 (p31:FQ K "keeps_count" (jd1 43) f31)
 (p32:FQ K "keeps" (jd1 44) f32)
 (p33:FQ K "first_broken" (jd1 45) f33)
 (p34:FQ K "all_forms" (jd1 48) f34)
 (p35:FQ K "unlike" (jd1 49) f35)
 (p36:FQ K "how_many" (jd1 50) f36)
 (p37:FQ K "_law_nth" (jd1 52) f37)
 (p38:FQ K "_law_whole" (jd1 53) f38)
 (p39:FQ K "_law_marks" (jd1 54) f39)
 (p40:FQ K "_law_orders" (jd1 56) f40)
 (p41:FQ K "_law_world" (jd1 58) f41)
 (p42:FQ K "_law_led" (jd1 59) f42)
 (p43:FQ K "_law_names" (jd1 62) f43)
 (p44:FQ K "_law_atom" (jd1 63) f44)
 (p45:FQ K "_law_fact" (jd1 64) f45)
 (p46:FQ K "_law_put" (jd1 65) f46)
 (p47:FQ K "_law_op" (jd1 66) f47)
 (p48:FQ K "_law_spread" (jd1 67) f48)
 (p49:FQ K "_law_saying" (jd1 68) f49)
 (p50:FQ K "_law_sayings" (jd1 69) f50)
 (p51:FQ K "_law_shape" (jd1 70) f51)
 (p52:FQ K "_law_keep" (jd1 71) f52)
 (p53:FQ K "_law_keepers" (jd1 73) f53)
 (p54:FQ K "_law_big" (jd1 74) f54)
 (j:FP K "law" QI f55 oc55 od55 an55 sl55 kV55 dc55 pm55 cd55 ct55)
 (z0:PySem.W.nsIn K mainGlobals "len" =some none)
 (z1:PySem.W.nsIn K mainGlobals "int" =some none)
 (z2:PySem.W.nsIn K mainGlobals "list" =some none)
 (z3:PySem.W.nsIn K mainGlobals "tuple" =some none)
 (z4:PySem.W.nsIn K mainGlobals "sum" =some none)
 (z5:PySem.W.nsIn K mainGlobals "all" =some none)
 (z6:PySem.W.nsIn K mainGlobals "any" =some none)
 (z7:PySem.W.nsIn K mainGlobals "sorted" =some none)
 (z8:PySem.W.nsIn K mainGlobals "divmod" =some none)
 (z9:PySem.W.nsIn K mainGlobals "str" =some none)
 (z10:PySem.W.nsIn K mainGlobals "min" =some none)
 (z11:PySem.W.nsIn K mainGlobals "max" =some none)
 (z12:PySem.W.nsIn K mainGlobals "abs" =some none)
 (z13:PySem.W.nsIn K mainGlobals "isinstance" =some none)
 (z14:PySem.W.nsIn K mainGlobals "bool" =some none)
 (z15:PySem.W.nsIn K mainGlobals "range" =some none)
 (z16:PySem.W.nsIn K mainGlobals "reversed" =some none)
 (z17:PySem.W.nsIn K mainGlobals "zip" =some none)
 (z18:PySem.W.nsIn K mainGlobals "enumerate" =some none)
 (z19:PySem.W.nsIn K mainGlobals "set" =some none)
 (z20:PySem.W.nsIn K mainGlobals "ValueError" =some none)
 (o0:PySem.W.nsIn K mainGlobals "NoSize" =some (some (.ref b)))
 (o1:PySem.W.nsIn K mainGlobals "NoCode" =some (some (.ref g)))
 (o2:PySem.W.nsIn K mainGlobals "TooBig" =some (some (.ref a)))
 (o3:PySem.W.nsIn K mainGlobals "NoRenaming" =some (some (.ref i)))
 {ck0:Tok}(cn0:PySem.W.nsIn K mainGlobals "GREATEST_SIZE" =some (some (.int 4 ck0)))
 {ck1:Tok}(cn1:PySem.W.nsIn K mainGlobals "MOST_LISTED_BITS" =some (some (.int 9 ck1)))
 {cI0:ClassData}
 (xe0:PySem.W.excIn K b Zu "ValueError.__new__" =true)
 (xga0:PySem.W.findIn K (.ref b) "__getattribute__" =some (some (.builtin "BaseException.__getattribute__")))
 (xgn0:PySem.W.findIn K (.ref b) "__getattr__" =some none)
 (xcl0:PySem.W.findIn K (.ref b) "__class__" =some (some (.builtin "object.__class__")))
 (xge0:PySem.W.specialIn K (.builtin "object.__class__") "__get__" =some (some (.builtin "getset_descriptor.__get__")))
 (xse0:PySem.W.takesIn K (.builtin "object.__class__")=some true)
 (xob0:PySem.W.mroIn K b (.type "object")=some true)
 (xba0:PySem.W.mroIn K b (.type "BaseException")=some true)
 (xsu0:An6 K (.ref b) (.ref b)=y0 k9)
 (xty0:PySem.W.typeIn K (.ref b)=y0 (.type "type"))
 (y:Ak2 K b=y0 cI0)
 (E:Ad2 K (.ref b) (.ref b)=y0 k9)
 (I:Ad2 K (.ref b) (.ref g)=y0 y9)
 (A:Ad2 K (.ref b) (.ref a)=y0 y9)
 (C:Ad2 K (.ref b) (.ref i)=y0 y9)
 (xtv0:PySem.W.kitOne K (.ref b) (.type "ValueError")=some true)
 {cI1:ClassData}
 (xe1:PySem.W.excIn K g Zu "ValueError.__new__" =true)
 (xga1:PySem.W.findIn K (.ref g) "__getattribute__" =some (some (.builtin "BaseException.__getattribute__")))
 (xgn1:PySem.W.findIn K (.ref g) "__getattr__" =some none)
 (xcl1:PySem.W.findIn K (.ref g) "__class__" =some (some (.builtin "object.__class__")))
 (xge1:PySem.W.specialIn K (.builtin "object.__class__") "__get__" =some (some (.builtin "getset_descriptor.__get__")))
 (V:PySem.W.takesIn K (.builtin "object.__class__")=some true)
 (xob1:PySem.W.mroIn K g (.type "object")=some true)
 (xba1:PySem.W.mroIn K g (.type "BaseException")=some true)
 (Y:An6 K (.ref g) (.ref g)=y0 k9)
 (Z:PySem.W.typeIn K (.ref g)=y0 (.type "type"))
 (r:Ak2 K g=y0 cI1)
 (D:Ad2 K (.ref g) (.ref b)=y0 y9)
 (Q:Ad2 K (.ref g) (.ref g)=y0 k9)
 (R:Ad2 K (.ref g) (.ref a)=y0 y9)
 (L:Ad2 K (.ref g) (.ref i)=y0 y9)
 (xtv1:PySem.W.kitOne K (.ref g) (.type "ValueError")=some true)
 {cI3:ClassData}
 (xe3:PySem.W.excIn K i Zu "ValueError.__new__" =true)
 (xga3:PySem.W.findIn K (.ref i) "__getattribute__" =some (some (.builtin "BaseException.__getattribute__")))
 (xgn3:PySem.W.findIn K (.ref i) "__getattr__" =some none)
 (xcl3:PySem.W.findIn K (.ref i) "__class__" =some (some (.builtin "object.__class__")))
 (xge3:PySem.W.specialIn K (.builtin "object.__class__") "__get__" =some (some (.builtin "getset_descriptor.__get__")))
 (xse3:PySem.W.takesIn K (.builtin "object.__class__")=some true)
 (xob3:PySem.W.mroIn K i (.type "object")=some true)
 (xba3:PySem.W.mroIn K i (.type "BaseException")=some true)
 (xsu3:An6 K (.ref i) (.ref i)=y0 k9)
 (xty3:PySem.W.typeIn K (.ref i)=y0 (.type "type"))
 (u:Ak2 K i=y0 cI3)
 (S:Ad2 K (.ref i) (.ref b)=y0 y9)
 (U:Ad2 K (.ref i) (.ref g)=y0 y9)
 (N:Ad2 K (.ref i) (.ref a)=y0 y9)
 (B:Ad2 K (.ref i) (.ref i)=y0 k9)
 (xtv3:PySem.W.kitOne K (.ref i) (.type "ValueError")=some true)
 {cI2:ClassData}
 (p:PySem.W.findIn K (.ref a) "__getattribute__" =some (some (.builtin "BaseException.__getattribute__")))
 (o:PySem.W.findIn K (.ref a) "__getattr__" =some none)
 (xcl2:PySem.W.findIn K (.ref a) "__class__" =some (some (.builtin "object.__class__")))
 (xge2:PySem.W.specialIn K (.builtin "object.__class__") "__get__" =some (some (.builtin "getset_descriptor.__get__")))
 (W:PySem.W.takesIn K (.builtin "object.__class__")=some true)
 (xob2:PySem.W.mroIn K a (.type "object")=some true)
 (xba2:PySem.W.mroIn K a (.type "BaseException")=some true)
 (xsu2:An6 K (.ref a) (.ref a)=y0 k9)
 (xty2:PySem.W.typeIn K (.ref a)=y0 (.type "type"))
 (q:Ak2 K a=y0 cI2)
 (O:Ad2 K (.ref a) (.ref b)=y0 y9)
 (T:Ad2 K (.ref a) (.ref g)=y0 y9)
 (H:Ad2 K (.ref a) (.ref a)=y0 k9)
 (J:Ad2 K (.ref a) (.ref i)=y0 y9)
 (xtv2:PySem.W.kitOne K (.ref a) (.type "ValueError")=some true)
 (jc2:ZG K a=k9)
 (jo2:zcc K a=k9)
 (js2:PySem.W.findIn K (.ref a) "__setattr__" =some (some (.builtin "object.__setattr__")))
 (jn2:PySem.W.findIn K (.ref a) "bits" =some none)
 (jk2:Ae4 K (.ref a)=k9)
 (qi0:MP K a "__init__" "TooBig.__init__" (xbN (jd1 4) 0) gi0 ioc0 iod0 ian0 isl0 ikV0 idc0 ipm0 icd0 ict0)
 (hb2:PySem.W.mroIn K a (.type "BaseException")=some true)
 (hb0:PySem.W.mroIn K b (.type "BaseException")=some true)
 : ∃fd:FuncData,(∀ (s:Shared) (v:Value),BindsTo s fd ⟨[v],[]⟩ [("_law_script",v)])/\ ∀base:Heap,K.In base->base.Ns mainGlobals mg->FnOk l.prog w K mg base jdD (2*60+1) fa fd ["_law_script"] (zb3 K):=by
 have e:=hfa.symm.trans (Ag6 X G j.a)
 cases e
 let n:Ge:=⟨K,fun c=>([("NoSize",b),("NoCode",g),("TooBig",a),("NoRenaming",i)].lookup c).getD 0,M.prog.cl,jaS,fun _=>0⟩
 have pr:xc2 n M.prog mg jaS xcI zcF jdH:=by
  refine⟨rfl,rfl,?_,?_,?_,?_,?_,?_,λ_ _ h=>(nomatch h),λ_ _ _ h=>(nomatch h),λ_ _ h=>(nomatch h)⟩
  ·intro x hx
   simp only [bltN,Ab7,Ac0,or_false]at hx
   rcases hx with rfl | rfl | rfl | rfl | rfl | rfl | rfl | rfl | rfl | rfl | rfl | rfl | rfl | rfl | rfl | rfl | rfl | rfl | rfl | rfl | rfl
   ·exact Ac4 X G z0
   ·exact Ac4 X G z1
   ·exact Ac4 X G z2
   ·exact Ac4 X G z3
   ·exact Ac4 X G z4
   ·exact Ac4 X G z5
   ·exact Ac4 X G z6
   ·exact Ac4 X G z7
   ·exact Ac4 X G z8
   ·exact Ac4 X G z9
   ·exact Ac4 X G z10
   ·exact Ac4 X G z11
   ·exact Ac4 X G z12
   ·exact Ac4 X G z13
   ·exact Ac4 X G z14
   ·exact Ac4 X G z15
   ·exact Ac4 X G z16
   ·exact Ac4 X G z17
   ·exact Ac4 X G z18
   ·exact Ac4 X G z19
   ·exact Ac4 X G z20
  ·intro x d hd
   have hm:=jbx hd
   simp only [M.prog,Ab7,Ac0,or_false,Prod.mk.injEq]at hm
   rcases hm with⟨rfl,rfl⟩ | ⟨rfl,rfl⟩
   ·exact⟨_,.int 4,Ag6 X G cn0,⟨_,rfl⟩,λ_ _=>rfl⟩
   ·exact⟨_,.int 9,Ag6 X G cn1,⟨_,rfl⟩,λ_ _=>rfl⟩
  ·intro c k
   simp only [jaS,Ai5,Ab7,Ac0,or_false,decide_eq_true_eq]at k
   rcases k with rfl | rfl | rfl | rfl
   ·exact Ag6 X G o0
   ·exact Ag6 X G o1
   ·exact Ag6 X G o2
   ·exact Ag6 X G o3
  ·intro c k
   simp only [xcI,Ai5,Ab7,Ac0,or_false,decide_eq_true_eq]at k
   rcases k with rfl | rfl | rfl
   ·refine⟨⟨⟨xga0,xgn0,xcl0,xge0,xse0,xob0,xba0,Zy y xty0 xsu0,jz y⟩,?_,xtv0⟩,xe0,Ag6 X G o0⟩
    intro t m
    simp only [n,jaS,Ab7,Ac0,or_false]at m
    rcases m with rfl | rfl | rfl | rfl
    ·exact E
    ·exact I
    ·exact A
    ·exact C
   ·refine⟨⟨⟨xga1,xgn1,xcl1,xge1,V,xob1,xba1,Zy r Z Y,jz r⟩,?_,xtv1⟩,xe1,Ag6 X G o1⟩
    intro t m
    simp only [n,jaS,Ab7,Ac0,or_false]at m
    rcases m with rfl | rfl | rfl | rfl
    ·exact D
    ·exact Q
    ·exact R
    ·exact L
   ·refine⟨⟨⟨xga3,xgn3,xcl3,xge3,xse3,xob3,xba3,Zy u xty3 xsu3,jz u⟩,?_,xtv3⟩,xe3,Ag6 X G o3⟩
    intro t m
    simp only [n,jaS,Ab7,Ac0,or_false]at m
    rcases m with rfl | rfl | rfl | rfl
    ·exact S
    ·exact U
    ·exact N
    ·exact B
  ·intro c f k
   simp only [jdH,Ai5,Ab7,Ac0,or_false,decide_eq_true_eq,Prod.mk.injEq]at k
   rcases k with⟨rfl,rfl⟩
   ·refine⟨⟨⟨p,o,xcl2,xge2,W,xob2,xba2,Zy q xty2 xsu2,jz q⟩,?_,xtv2⟩,⟨jo2,jn2,p,o⟩,⟨jc2,jo2,js2,jn2,jk2⟩,PySem.W.mg_of X G o2,zd4 qi0 "self" "bits"⟩
    intro t m
    simp only [n,jaS,Ab7,Ac0,or_false]at m
    rcases m with rfl | rfl | rfl | rfl
    ·exact O
    ·exact T
    ·exact H
    ·exact J
  ·intro c k
   simp only [zcF,Ai5,Ab7,Ac0,or_false,decide_eq_true_eq]at k
   rcases k with rfl | rfl
   ·exact⟨hb2,rfl⟩
   ·exact⟨hb0,rfl⟩
 have all: ∀f,fnsL.contains f=k9-> ∃d,M.prog.fns.lookup f=y0 d/\ ∃t:jdQ n.K mg f,jag t d fnsL jaS xcI zcF jdH/\Ae4 n.K (.ref t.fa)=k9/\mg (zg f)=y0 (.ref t.fa):=by
  intro f hf
  simp only [fnsL,Ai5,Ab7,Ac0,or_false,decide_eq_true_eq]at hf
  rcases hf with rfl | rfl | rfl | rfl | rfl | rfl | rfl | rfl | rfl | rfl | rfl | rfl | rfl | rfl | rfl | rfl | rfl | rfl | rfl | rfl | rfl | rfl | rfl | rfl | rfl | rfl | rfl | rfl | rfl | rfl | rfl | rfl | rfl | rfl | rfl | rfl | rfl | rfl | rfl | rfl | rfl | rfl | rfl | rfl | rfl | rfl | rfl | rfl | rfl | rfl | rfl | rfl | rfl | rfl | rfl | rfl
  ·exact xd1 X G p0 ["thing"] ["thing"] M.Ky rfl
  ·exact xd1 X G p1 ["thing", "end"] ["thing", "end"] M.GX rfl
  ·exact xd1 X G p2 ["size", "tie"] ["size", "tie"] M.Kh rfl
  ·exact xd1 X G p3 ["size", "pairs", "tie", "a", "b"] ["size", "pairs"] M.Kf rfl
  ·exact xd1 X G p4 ["one", "other"] ["one", "other"] M.Kz rfl
  ·exact xd1 X G p5 ["one", "other"] ["one", "other"] M.KH rfl
  ·exact xd1 X G p6 ["one", "other"] ["one", "other"] M.Km rfl
  ·exact xd1 X G p7 ["size", "tie"] ["size", "tie"] M.KA rfl
  ·exact xd1 X G p8 ["size", "one", "other", "row", "tie", "a", "b", "from_b"] ["size", "one", "other"] M.KC rfl
  ·exact xd1 X G p9 ["size", "tie", "reached", "longer"] ["size", "tie"] M.KF rfl
  ·exact xd1 X G p10 ["size"] ["size"] M.Pd rfl
  ·exact xd1 X G p11 ["size"] ["size"] M.KO rfl
  ·exact xd1 X G p12 ["thing"] ["thing"] M.Kr rfl
  ·exact xd1 X G p13 ["words", "size"] ["words", "size"] M.KB rfl
  ·exact xd1 X G p14 ["words", "size"] ["words", "size"] M.K9 rfl
  ·exact xd1 X G p15 ["size"] ["size"] M.GG rfl
  ·exact xd1 X G p16 ["words", "size", "most", "number"] ["words", "size", "most"] M.GF rfl
  ·exact xd1 X G p17 ["words", "world", "total", "place", "width", "part"] ["words", "world"] M.Pb rfl
  ·exact xd1 X G p18 ["words", "size", "code", "parts", "rest", "width", "first_tie"] ["words", "size", "code"] M.Kg rfl
  ·exact xd1 X G p19 ["rows", "size", "longer", "row"] ["rows", "size"] M.GU rfl
  ·exact xd1 X G p20 ["size", "rows", "place"] ["size"] M.Kw rfl
  ·exact xd1 X G p21 ["thing", "size"] ["thing", "size"] M.GP rfl
  ·exact xd1 X G p22 ["kind", "renaming", "answer", "a", "thing"] ["kind", "renaming"] M.G6 rfl
  ·exact xd1 X G p23 ["tie", "renaming", "size"] ["tie", "renaming"] M.GS rfl
  ·exact xd1 X G p24 ["words", "world", "renaming", "size", "kinds", "ties", "new_kinds", "new_ties"] ["words", "world", "renaming"] M.Kl rfl
  ·exact xd1 X G p25 ["words", "world"] ["words", "world"] M.GL rfl
  ·exact xd1 X G p26 ["words", "world"] ["words", "world"] M.GV rfl
  ·exact xd1 X G p27 ["words", "world", "name", "size", "kind"] ["words", "world", "name"] M.GB rfl
  ·exact xd1 X G p28 ["size", "sort", "ties"] ["size", "sort", "ties"] M.GT rfl
  ·exact xd1 X G p29 ["words", "world", "expression", "ties"] ["words", "world", "expression"] M.Ku rfl
  ·exact xd1 X G p30 ["size", "sort", "tie", "pairs", "firsts"] ["size", "sort", "tie"] M.KG rfl
  ·exact xd1 X G p31 ["words", "world", "saying", "limit", "numbers"] ["words", "world", "saying"] M.GQ rfl
  ·exact xd1 X G p32 ["words", "world", "saying", "sort"] ["words", "world", "saying"] M.d_keeps rfl
  ·exact xd1 X G p33 ["words", "world", "sayings", "number", "saying"] ["words", "world", "sayings"] M.GH rfl
  ·exact xd1 X G p34 ["words", "size", "seen", "forms", "number", "world", "one"] ["words", "size"] M.GR rfl
  ·exact xd1 X G p35 ["theory", "size", "words", "sayings"] ["theory", "size"] M.Ke rfl
  ·exact xd1 X G p36 ["theory", "size", "worlds", "every_renaming"] ["theory", "size"] M.GJ rfl
  ·exact xd1 X G p37 ["_law_script", "_law_k"] ["_law_script", "_law_k"] M.Kq rfl
  ·exact xd1 X G p38 ["_law_thing"] ["_law_thing"] M.Kp rfl
  ·exact xd1 X G p39 ["_law_number_here", "_law_many", "_law_marks_here", "_law_k", "_law_mark"] ["_law_number_here", "_law_many"] M.Kc rfl
  ·exact xd1 X G p40 ["_law_size", "_law_rows", "_law_step", "_law_longer", "_law_row", "_law_a"] ["_law_size"] M.Kj rfl
  ·exact xd1 X G p41 ["_law_size", "_law_kinds", "_law_ties", "_law_cell", "_law_number_here", "_law_first", "_law_second", "_law_k", "_law_part"] ["_law_size", "_law_kinds", "_law_ties", "_law_cell"] M.GO rfl
  ·exact xd1 X G p42 ["_law_world_here", "_law_order_here", "_law_size", "_law_kinds", "_law_ties", "_law_first", "_law_kind", "_law_marks_here", "_law_second", "_law_tie", "_law_places"] ["_law_world_here", "_law_order_here"] M.Ks rfl
  ·exact xd1 X G p43 ["_law_kinds", "_law_ties"] ["_law_kinds", "_law_ties"] M.Kb rfl
  ·exact xd1 X G p44 ["_law_words", "_law_cell", "_law_names_here", "_law_pick"] ["_law_words", "_law_cell"] M.GA rfl
  ·exact xd1 X G p45 ["_law_parts", "_law_pick", "_law_one", "_law_other", "_law_word"] ["_law_parts", "_law_pick"] M.GY rfl
  ·exact xd1 X G p46 ["_law_some", "_law_word", "_law_other", "_law_one", "_law_deep"] ["_law_some", "_law_word"] M.Kt rfl
  ·exact xd1 X G p47 ["_law_words", "_law_parts", "_law_sayings_here", "_law_way", "_law_pick", "_law_expression", "_law_deep", "_law_saying_here"] ["_law_words", "_law_parts", "_law_sayings_here", "_law_way", "_law_pick"] M.Gs rfl
  ·exact xd1 X G p48 ["_law_cell", "_law_number_here"] ["_law_cell"] M.GW rfl
  ·exact xd1 X G p49 ["_law_words", "_law_cell", "_law_parts", "_law_sayings_here", "_law_k", "_law_way", "_law_pick", "_law_whole_here", "_law_saying_here", "_law_deep"] ["_law_words", "_law_cell"] M.GE rfl
  ·exact xd1 X G p50 ["_law_script", "_law_words", "_law_start", "_law_most_of", "_law_cells"] ["_law_script", "_law_words", "_law_start", "_law_most_of"] M.Gx rfl
  ·exact xd1 X G p51 ["_law_cell", "_law_some"] ["_law_cell"] M.Ka rfl
  ·exact xd1 X G p52 ["_law_words", "_law_world_here", "_law_sayings_here"] ["_law_words", "_law_world_here", "_law_sayings_here"] M.Ki rfl
  ·exact xd1 X G p53 ["_law_words", "_law_size", "_law_sayings_here", "_law_kinds", "_law_ties", "_law_worlds", "_law_number_here", "_law_world_here"] ["_law_words", "_law_size", "_law_sayings_here"] M.GN rfl
  ·exact xd1 X G p54 ["_law_words", "_law_size", "_law_got", "e"] ["_law_words", "_law_size"] M.GK rfl
  ·exact xd1 X G ⟨_,_,_,_,_,_,_,_,_,j⟩ ["_law_script", "_law_kinds", "_law_ties", "_law_size", "_law_words", "_law_upto", "_law_theory", "_law_many", "_law_orders_here", "_law_known", "_law_in_all", "_law_world_here", "_law_alike_to_itself", "_law_order_here", "_law_other", "_law_big_here", "_law_odd"] ["_law_script"] M.d_law rfl
 refine⟨PySem.W.fnOf "law" "law" (wm QI) (We QI) (Zb QI) .none kV55 dc55 pm55 an55 cd55 ct55,fun s v=> .of_eq rfl,fun base _ _=> ?_⟩
 have F:=qaK (st:=QI) j.l j.c j.k
 have ao:=qcx (P:=l.prog) (w:=w) (base:=base) pr all (λ_ h=>(nomatch h)) 59
 have z:FnOk l.prog w K mg base (zdN l.prog w) (2*60+1) fa _ ["_law_script"] (zdC n (M.call M.prog 60 "law")):=jb0 (t:=⟨QI,fa,_,["_law_script", "_law_kinds", "_law_ties", "_law_size", "_law_words", "_law_upto", "_law_theory", "_law_many", "_law_orders_here", "_law_known", "_law_in_all", "_law_world_here", "_law_alike_to_itself", "_law_order_here", "_law_other", "_law_big_here", "_law_odd"],["_law_script"]⟩) pr ⟨⟨_,_,F⟩,F.binds (fun _ _ _ _ _ _ us hl=>by obtain⟨_,rfl⟩:=jdP hl;rfl),zct,rfl,rfl,by decide,jcS⟩ rfl 59 ao.1 ao.2
 exact xcB (Γ:=n) z M.hlaw
end L2.MS
namespace PySem.W.Fast
def tw12594686501741153180:=0
def tw17544228448653353248:=0
def tw1247219931598459766:=0
def tw10785954844422245217:=0
def tw13075923861891355440:=0
def tw1799445509601501971:=0
def tw5781380307893733974:=0
def tw18031055102482529773:=0
def tw12288364471776584221:=0
def tw6298401835107272341:=0
def tw5639929053452874368:=0
def tw9424313780987504186:=0
def tw4995861380460978429:=0
def tw7290796746254830035:=0
def tw5887599722658398978:=0
def tw15913281864687564901:=0
def tw10708977367567543642:=0
def tw15876967231157186857:=0
def tw13434562392879260508:=0
def tw17909705467073114641:=0
def tw1485285485922108545:=0
def tw16782472756926151558:=0
def tw5089228024329224255:=0
def tw2797608264513184008:=0
def tw8365406428484474121:=0
def tw4924001637974236967:=0
def tw5699609983391016901:=0
def tw3506213632131595695:=0
def tw7639441010117388521:=0
def tw17369758012180710550:=0
def tw3871530598554015700:=0
def tw10045628203120405755:=0
def tw15056991102207361523:=0
def tw8483215849343142795:=0
def tw7873045752045888890:=0
def tw5211271623934599748:=0
def tw12721438530771842240:=0
def tw12820456393430037506:=0
def tw6927219810079471630:=0
def tw12112631656792793290:=0
def tw13114612236984576720:=0
def tw2988773152200736871:=0
def tw5629154902454284730:=0
def tw14204175956347839001:=0
def tw65033377853436069:=0
def tw11365953107809498284:=0
def tw12875861938482093943:=0
def tw3514009946586044179:=0
def tw17528925402873606808:=0
def tw3825565789045036471:=0
def tw11876873106194042814:=0
def tw1016709807767832012:=0
def tw14746263147818058536:=0
def tw6270582527845873745:=0
def tw15530034847406870480:=0
def tw6958434554516702104:=0
def tw5460286271422610509:=0
def tw1620168479310467591:=0
def tw16333354513469973438:=0
def tw398570305435293609:=0
def tw17996967084034860728:=0
def tw1191623727224363756:=0
def tw17867098833346722496:=0
def tw18360982707822084583:=0
def tw4731171337133983059:=0
def tw11659869155905531980:=0
def tw18420890714976944702:=0
def tw13156615404283949294:=0
def tw6578169728071987957:=0
def tw7273394561512249636:=0
def tw15260555282848212018:=0
def tw2924972095998624155:=0
def tw13276571692868281756:=0
def tw2982756054124284515:=0
def tw5168647220032267076:=0
def tw5709822247725561598:=0
def tw422834759609635454:=0
def tw3995373601989034867:=0
def tw9349123126853206483:=0
def tw1197603678018482202:=0
def tw17972438101236938111:=0
def tw12407901753235311025:=0
def tw10545179678387653249:=0
def tw7220412031611488714:=0
def tw1334811395691996625:=0
def tw14393818381224878795:=0
def tw18332787549576566584:=0
def tw6233227960269202698:=0
def tw17090584569864532741:=0
def tw16921961711525325015:=0
def tw12983511115608538367:=0
def tw11936905954977661782:=0
def tw5252864808024397755:=0
def tw5463364797171236469:=0
def tw13537634776286217552:=0
def tw1467940468914719803:=0
def tw8206441122819147410:=0
def tw17464676415669821499:=0
def tw4086524194091161795:=0
def tw18373283084154151148:=0
def tw9809513886715520118:=0
def tw12295886899278663231:=0
def tw6440372116405291302:=0
def tw1115474825574380305:=0
def tw4002352685958071290:=0
def tw14519030909068602270:=0
def tw8537524304143932173:=0
def tw13466644170850109541:=0
def tw6284262450956510035:=0
def tw5406151724224040043:=0
def tw16369768266110748544:=0
def tw1650282051583064780:=0
def tw17840124183007660450:=0
def tw7478955886348638614:=0
def tw17825270266711143006:=0
def tw141118887248784251:=0
def tw14432098966845421646:=0
def tw9590290121367680386:=0
def tw17650682068354039640:=0
def tw6666199071941938034:=0
def tw2584547598664398826:=0
def tw4906588621449350657:=0
def tw12675455263388280700:=0
def tw8639812898753155888:=0
def tw13918336103722931659:=0
def tw1904944706329296800:=0
def tw1916479139789987557:=0
def tw14048275203254197235:=0
def tw8477012794880916914:=0
def tw3725718323082336882:=0
def tw4325497025965428728:=0
def tw6300883066887909641:=0
def tw15518494413194235234:=0
def tw16868374994998858083:=0
def tw3304718351535699006:=0
def tw12230572989297441618:=0
def tw1602445666029890215:=0
def tw3558477197499272688:=0
def tw1656753819059727346:=0
end PySem.W.Fast
open PySem PySem.W PyProof.Rows
set_option maxRecDepth 100000 in
set_option maxHeartbeats 0 in
theorem PySem.Challenge.cw_worldfind_k53_whole_counts_holds : PySem.Challenge.rw_worldfind_k53_whole_counts.Holds := by
 w_on;o_law;k_head;(case hw=>w_witness2)
 k_fill
 refine L2.MS.walk (l:=PySem.Challenge.rw_worldfind_k53_whole_counts) (x:= "_law_script") (2*60+1) ⟨rfl,by decide,by decide⟩ rfl rfl (fun w h Y=>PySem.W.kIn_of Y) ?F
 case F=>
  intro w mg fa h KX G hmg
  refine' L2.MS.all_mk KX G hmg ?p0 ?p1 ?p2 ?p3 ?p4 ?p5 ?p6 ?p7 ?p8 ?p9 ?p10 ?p11 ?p12 ?p13 ?p14 ?p15 ?p16 ?p17 ?p18 ?p19 ?p20 ?p21 ?p22 ?p23 ?p24 ?p25 ?p26 ?p27 ?p28 ?p29 ?p30 ?p31 ?p32 ?p33 ?p34 ?p35 ?p36 ?p37 ?p38 ?p39 ?p40 ?p41 ?p42 ?p43 ?p44 ?p45 ?p46 ?p47 ?p48 ?p49 ?p50 ?p51 ?p52 ?p53 ?p54 ?p55 ?z0 ?z1 ?z2 ?z3 ?z4 ?z5 ?z6 ?z7 ?z8 ?z9 ?z10 ?z11 ?z12 ?z13 ?z14 ?z15 ?z16 ?z17 ?z18 ?z19 ?z20 ?o0 ?o1 ?o2 ?o3 ?cn0 ?cn1 ?xe0 ?xga0 ?xgn0 ?xcl0 ?xge0 ?xse0 ?xob0 ?xba0 ?xsu0 ?xty0 ?xcs0 ?xt0_0 ?xt1_0 ?xt2_0 ?xt3_0 ?xtv0 ?xe1 ?xga1 ?xgn1 ?xcl1 ?xge1 ?xse1 ?xob1 ?xba1 ?xsu1 ?xty1 ?xcs1 ?xt0_1 ?xt1_1 ?xt2_1 ?xt3_1 ?xtv1 ?xe3 ?xga3 ?xgn3 ?xcl3 ?xge3 ?xse3 ?xob3 ?xba3 ?xsu3 ?xty3 ?xcs3 ?xt0_3 ?xt1_3 ?xt2_3 ?xt3_3 ?xtv3 ?xga2 ?xgn2 ?xcl2 ?xge2 ?xse2 ?xob2 ?xba2 ?xsu2 ?xty2 ?xcs2 ?xt0_2 ?xt1_2 ?xt2_2 ?xt3_2 ?xtv2 ?jc2 ?jo2 ?js2 ?jn2 ?jk2 ?qi0 ?hb2 ?hb0
  (case p0 | p1 | p2 | p3 | p4 | p5 | p6 | p7 | p8 | p9 | p10 | p11 | p12 | p13 | p14 | p15 | p16 | p17 | p18 | p19 | p20 | p21 | p22 | p23 | p24 | p25 | p26 | p27 | p28 | p29 | p30 | p31 | p32 | p33 | p34 | p35 | p36 | p37 | p38 | p39 | p40 | p41 | p42 | p43 | p44 | p45 | p46 | p47 | p48 | p49 | p50 | p51 | p52 | p53 | p54=>exact⟨_,_,_,_,_,_,_,_,_,by constructor<;>k_is⟩)
  (case p55=>constructor<;>k_is)
  (case z0 | z1 | z2 | z3 | z4 | z5 | z6 | z7 | z8 | z9 | z10 | z11 | z12 | z13 | z14 | z15 | z16 | z17 | z18 | z19 | z20 | o0 | o1 | o2 | o3 | cn0 | cn1=>k_is)
  (case xe0=>k_exc)
  (case xga0 | xgn0 | xcl0 | xge0 | xse0 | xob0 | xba0 | xsu0 | xty0 | xcs0=>k_is)
  (case xt0_0 | xt1_0 | xt2_0 | xt3_0 | xtv0=>kit_is)
  (case xe1=>k_exc)
  (case xga1 | xgn1 | xcl1 | xge1 | xse1 | xob1 | xba1 | xsu1 | xty1 | xcs1=>k_is)
  (case xt0_1 | xt1_1 | xt2_1 | xt3_1 | xtv1=>kit_is)
  (case xe3=>k_exc)
  (case xga3 | xgn3 | xcl3 | xge3 | xse3 | xob3 | xba3 | xsu3 | xty3 | xcs3=>k_is)
  (case xt0_3 | xt1_3 | xt2_3 | xt3_3 | xtv3=>kit_is)
  (case xga2 | xgn2 | xcl2 | xge2 | xse2 | xob2 | xba2 | xsu2 | xty2 | xcs2=>k_is)
  (case xt0_2 | xt1_2 | xt2_2 | xt3_2 | xtv2=>kit_is)
  (case jc2 | jo2=>kernel_rfl)
  (case js2 | jn2 | jk2=>k_is)
  (case qi0=>constructor<;>k_is)
  (case hb2 | hb0=>k_is)
