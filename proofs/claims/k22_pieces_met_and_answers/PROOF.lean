import PyProof.Rows.All
import Wide.All
import OpenK.AllK
import Wide.FinOn
import Lean
import PyProof.EqAt
import PyProof.EqKinds
import PyProof.TupleCall
import PyProof.Rows.SortRuns
import PyProof.DictItems
import PyProof.DictIter
import PyProof.DictWalks
import PyProof.SliceList
import PyProof.DictTruth
import PySem.Challenge.RW_boxsums_k22_pieces_met_and_answers
set_option Elab.async false
set_option linter.all false
set_option maxRecDepth 100000
set_option maxHeartbeats 4000000
open PySem.Heap renaming get?_push_of_some → j0,get?_push_size → G0,lt_size → L0,size_push → O1,SameBut → J2,get?_update_self → K2,get?_update_other → v6,get?_push_ne → o7,get?_update_ne → Y7,size_update → M8,ExtBut → i9
open PySem.PyData renaming int → u0,tuple → U0,list → E1,bool → K5,shownAll → U7,canLayAll0 → w8,shown → T8,depthAll → Z8,canLay0 → m9,showableAll → L9,depth → P9,hasDictAll → V9
open List renaming length_map → A0,mem_cons_of_mem → K0,mem_map → M0,mem_cons_self → O0,getElem?_eq_getElem → P0,map_map → Q0,mem_cons → V0,getElem?_map → X0,size_toArray → Z0,length_append → A1,getElem?_set_ne → B1,getElem?_eq_some_iff → K1,length_zip → P1,append_nil → Q1,mem_append_right → S1,Nodup → T1,length_cons → X1,getElem?_append_right → Y1,replicate → E2,pairwise_singleton → G2,append_assoc → P2,pairwise_iff_getElem → S2,mem_of_getElem? → W2,range → X2,mem_singleton → Y2,getElem?_append_left → B3,map_cons → J3,extract_eq_take_drop → K3,getElem_mem → P3,flatMap_cons → T3,getElem?_cons_succ → V3,pairwise_cons → X3,getD_eq_getElem?_getD → Y3,length_take → Z3,lookup_cons → i4,not_mem_nil → j4,drop_eq_getElem_cons → u4,take_append_drop → B4,mem_append → G4,length_nil → J4,length → L4,mem_flatMap → P4,replicate_succ → T4,getElem_of_mem → U4,map_congr_left → V4,map_append → W4,getElem?_eq_none_iff → X4,pairwise_reverse → Z4,zip_cons_cons → i5,pairwise_append → j5,pairwise_map → m5,length_set → A5,forIn_cons → B5,map → N5,forIn_nil → P5,getElem?_zip_eq_some → S5,nodup_cons → T5,flatten_cons → W5,length_range → Y5,mem_iff_getElem → e6,length_pos_iff → j6,map_eq_nil_iff → m6,mem_range → o6,length_singleton → E6,mem_append_left → M6,mem_of_mem_take → N6,cons_append → P6,getElem_zip → Q6,of_mem_zip → V6,map_inj_right → Z6,nodup_nil → j7,drop_sublist → m7,drop_of_length_le → t7,take_of_length_le → u7,perm_append_comm → A7,pairwise_flatMap → B7,zipIdx_cons → G7,length_drop → J7,countP_cons → L7,any_eq_true → M7,ext_getElem → N7,flatMap_nil → O7,map_fst_zip → P7,mem_filter → S7,zipIdx_nil → T7,filterMap_cons → X7,length_eraseIdx_of_lt → n8,lookup → r8,take_sublist → v8,getElem_drop → x8,getElem_take → y8,reverse_perm → A8,ext_getElem? → B8,nodup_append → F8,getElem?_take_of_lt → J8,filter_cons → N8,getElem?_replicate → O8,length_eq_zero_iff → Q8,getElem?_cons_zero → R8,getElem?_set_self → U8,pairwise_lt_range → X8,mem_iff_getElem? → g9,getElem?_eq_none → h9,drop_drop → o9,mem_map_of_mem → y9,flatMap_append → B9,mem_filterMap → G9,getElem?_drop → J9,forIn_toArray → K9,filter_append → N9,map_nil → O9,zip_map → R9,zipWith → T9,foldl → Y9
open PySem.W renaming Frag → J0,mg_none_of → W1,nsIn → E3,keepIn → O5,fnOf → V5,findIn → i7,codeIn → j8,methodObj → u8,cellsFrom_some → V8,OpenLaw → Y8,specialIn → U9,instObj → X9
open Nat renaming le_refl → R0,lt_of_lt_of_le → S0,ne_of_lt → W0,le_trans → L1,ne_of_gt → Z1,lt_irrefl → O3,zero_le → Q3,lt_succ_of_lt → S3,lt_of_le_of_lt → W3,le_add_right → O4,le_of_lt → J5,le_succ → U5,le_of_succ_le → X5,lt_of_succ_lt → Z5,lt_succ_self → t6,add_sub_cancel_left → u6,le_mul_of_pos_right → g7,succ_mul → Z7,le_succ_of_le → E8,le_of_not_lt → L8,zero_add → S8,length_repr_le_iff → W8,not_lt_zero → b9,pow_le_pow_right → u9,add_le_add_right → v9,add_le_add_left → x9,lt_two_pow_self → A9,mul_assoc → E9,lt_or_ge → Q9
open Array renaming length_toList → T0,getElem?_toList → Q2,getElem?_eq_getElem → T2,toList_append → V2,getElem_toList → G3,toList_extract → Q4,perm_iff_toList_perm → Q5,getElem?_eq_none → A6,toList_push → K6,toList_reverse → O6,getD → X6,size_extract → Y6,toList_map → K7
open PySem.Builtin.SmallTypes renaming nextOf → Y0,ownedTupleIsFree → G1,ownedTupleHandOut → A4
open Bool renaming false_ne_true → J1,false_eq_true → O2,eq_false_iff → u5,and_eq_true → L5,eq_iff_iff → B6,beq_eq_decide_eq → G6,not_true → G8,false_and → j9
open PySem.Value renaming ref → U1,none → A3,type → W6,int → E7,isInt_shape → t8,notImplemented → t9,bool → F9,isInt → W9
open Option.some renaming inj → V1
open PySem.Obj renaming mapSeq → B2,data_mapFields → K4,isFreed_of_fields → Y4,mapFields → S6
open PySem.Heap.SameBut renaming update → U2
open Ne renaming symm → Z2
open PyProof.Rows renaming callWith_type1 → U3
open PySem.Builtin.List renaming listTooLong → E4,listSameRef → i6,listLengthHint → e8,listExtendWith → g8,listSubscript? → i8
open Int renaming toNat_natCast → S4,le_refl → e7,mul_le_mul_of_nonneg_right → Q7,one_mul → R7,natCast_pow → V7,mul_le_mul → m8,pow_succ → S9
open Option renaming map_some → E5,map_eq_some_iff → w6,getD_some → F7,isNone_none → M9
open PySem.Builtin.Int renaming intBits → G5
open PySem.Builtin.Dict renaming showsAll → J6,updateFrom → P8
open PySem.Builtin.Dict_items renaming ownedTupleIsFree → T6,ownedTupleFields → U6,pairFromOwner → v7,ownsTuple → W7
open PySem.Builtin.Tuple renaming tupleCompareSizes → y7,tupleHashOf → o8
open Nat.succ renaming inj → b8
open PySem.Builtin.Frozenset renaming sizeOf → K8
namespace L2
open PySem PySem.Spec PyProof.Rows
noncomputable abbrev XJ:=Sum Int Str
noncomputable def Ow:XJ->Value->Bool
 | .inl k,v=>W9 k v
 | .inr x,v=>Value.isStrOf x v
noncomputable def pL(w:World):XJ->Int
 | .inl k=>hashInt k
 | .inr x=>hashStr w x
theorem aX:∀{k:XJ}{v:Value},Ow k v=true->(∃i t,k=Sum.inl i/\v=E7 i t)\/(∃x t,k=Sum.inr x/\v=Value.str x t)
 | .inl i,v,h=>by
  obtain⟨t,e⟩:=t8 (k:=i) (v:=v) h
  exact .inl ⟨i,t,rfl,e⟩
 | .inr x,v,h=>by
  obtain⟨t,e⟩:=Value.isStrOf_shape (x:=x) (v:=v) h
  exact .inr ⟨x,t,rfl,e⟩
theorem Vv(a b:Int):decide ((Sum.inl a:XJ)=Sum.inl b)=(a==b):=by
 by_cases e:a=b
 ·subst e;simp
 ·have h:¬(Sum.inl a:XJ)=Sum.inl b:=λq=>e (Sum.inl.inj q)
  rw[decide_eq_false h]
  exact (beq_eq_false_iff_ne.mpr e).symm
theorem Wv(a b:Str):decide ((Sum.inr a:XJ)=Sum.inr b)=decide (a=b):=by
 by_cases e:a=b
 ·subst e;simp
 ·have h:¬(Sum.inr a:XJ)=Sum.inr b:=λq=>e (Sum.inr.inj q)
  rw[decide_eq_false h,decide_eq_false e]
theorem Xv(a:Int)(b:Str):decide ((Sum.inl a:XJ)=Sum.inr b)=false:=decide_eq_false (λq=>nomatch q)
theorem Yv(a:Str)(b:Int):decide ((Sum.inr a:XJ)=Sum.inl b)=false:=decide_eq_false (λq=>nomatch q)
noncomputable def BG(prog:Program)(w:World):PySem.KeyKind prog w XJ where
 is:=Ow
 hash:=pL w
 inj:=λv a b ha hb=>by
  rcases aX ha with⟨i,t,rfl,rfl⟩|⟨x,t,rfl,rfl⟩
  ·rcases aX hb with⟨j,u,rfl,e⟩|⟨y,u,rfl,e⟩
   ·injection e with e1 _;rw[e1]
   ·exact nomatch e
  ·rcases aX hb with⟨j,u,rfl,e⟩|⟨y,u,rfl,e⟩
   ·exact nomatch e
   ·injection e with e1 _;rw[e1]
 byValue:=λk v h=>by
  rcases aX h with⟨i,t,rfl,rfl⟩|⟨x,t,rfl,rfl⟩<;>rfl
 pyHash:=λhv h=>by
  rcases aX hv with⟨i,t,rfl,rfl⟩|⟨x,t,rfl,rfl⟩
  ·exact wpAny_pyHash_int h
  ·exact wpAny_pyHash_str h
 eqBool:=λhu hv h=>by
  rcases aX hu with⟨i,t,rfl,rfl⟩|⟨x,t,rfl,rfl⟩
  ·rcases aX hv with⟨j,u,rfl,rfl⟩|⟨y,u,rfl,rfl⟩
   ·rw[Vv]at h;exact wpAny_eqBool_int h
   ·rw[Xv]at h;exact SeqAt.EqAt.int_str i t y u _ _ _ _ h
  ·rcases aX hv with⟨j,u,rfl,rfl⟩|⟨y,u,rfl,rfl⟩
   ·rw[Yv]at h;exact SeqAt.EqAt.str_int x t j u _ _ _ _ h
   ·rw[Wv]at h;exact wpAny_eqBool_str h
 «strs»:=λk x t v h=>by
  rcases aX h with⟨i,u,rfl,e⟩|⟨y,u,rfl,e⟩
  ·exact nomatch e
  ·injection e with e1 _
   subst e1
   cases v<;>rfl
inductive V where
 | non|bl (b:Bool)|int (i:Int)|str (x:Str)|byt (b:Array UInt8)|flt (b:UInt64)|ref (a:Addr)|ty (n:String)
 deriving DecidableEq
noncomputable def RelV:V->Value->Prop
 | .non,u=>u=A3
 | .bl b,u=>u=F9 b
 | .int i,u=>∃t,u=E7 i t
 | .str x,u=>∃t,u=Value.str x t
 | .byt b,u=>∃t,u=Value.bytes b t
 | .flt b,u=>∃t,u=Value.float b t
 | .ref a,u=>u=U1 a
 | .ty n,u=>u=W6 n
noncomputable abbrev Vals:List V->List Value->Prop:=Paired RelV
theorem Vals.length{xs:List V}{us:List Value}(r:Vals xs us):xs.length=us.length:=Paired.length r
theorem Vals.get:∀{xs:List V}{us:List Value}{i:Nat}{x:V},Vals xs us->xs[i]?=some x->∃u,us[i]?=some u/\RelV x u
 | _,_,_,_,.nil,e=>by simp at e
 | _,_,0,_,.cons r _,e=>by simp at e;subst e;exact ⟨_,rfl,r⟩
 | _,_,i+1,x,.cons _ t,e=>by
  obtain⟨u,h1,h2⟩:=Vals.get (i:=i) (x:=x) t (by simpa using e)
  exact ⟨u,by simpa using h1,h2⟩
theorem Vals.set{x:V}{u:Value}(r:RelV x u):∀{xs:List V}{us:List Value} (i:Nat),Vals xs us->Vals (xs.set i x) (us.set i u)
 | _,_,_,.nil=>.nil
 | _,_,0,.cons _ t=>.cons r t
 | _,_,i+1,.cons q t=>.cons q (Vals.set r i t)
theorem Vals.append:∀{xs ys:List V}{us ws:List Value},Vals xs us->Vals ys ws->Vals (xs++ys) (us++ws)
 | _,_,_,_,.nil,s=>s
 | _,_,_,_,.cons r t,s=>.cons r (Vals.append t s)
noncomputable def aC:Option V->Option Value->Prop
 | some v,some u=>RelV v u
 | none,none=>True
 | _,_=>False
noncomputable def KV{κ:Type}:List (κ×V)->List (κ×Value)->Prop:=Paired λ(p:κ×V) (q:κ×Value)=>p.1=q.1/\RelV p.2 q.2
noncomputable def kV:XJ->V
 | .inl i=>.int i
 | .inr x=>.str x
inductive HO where
 | lst (xs:List V)
 | tup (xs:List V)
 | dK (kvs:List (XJ×V))|dT (kvs:List (List XJ×V))
 | set (S:Int->Bool) (n:Nat)
 | ins (C dx:Addr) (fs:List (Str×V))
 | own (x:Addr)
 | xd (fs:List (Str×V))
 | met (f x:Addr)
 | rng (lo hi:Int)
 | frz (o:Obj) (u:HO)
 | tbl (ps:Array Value)
 | ext (φ:Heap->Prop)
noncomputable abbrev Hp:=Addr->Option HO
noncomputable def NQ(H:Hp)(a:Addr)(o:HO):Hp:=λb=>if b=a then some o else H b
theorem iQ{H:Hp}{a:Addr}{o:HO}:NQ H a o a=some o:=by unfold NQ;rw[if_pos rfl]
theorem dQ{H:Hp}{a b:Addr}{o:HO}(h:b≠a):NQ H a o b=H b:=by unfold NQ;rw[if_neg h]
theorem jQ{H:Hp}{a b:Addr}{o:HO}(h:H a=some o)(h':H b=none):a≠b:=by
 intro e;subst e;rw[h]at h';cases h'
noncomputable def IsTupD(h:Heap)(a:Addr)(items:Array Value):Prop:=∃o,h.get? a=some o/\o.cls=.type "tuple"/\∃n,o.data=.seq items n/\o.dict=none
theorem IsTupD.t{h:Heap}{a:Addr}{items:Array Value}:IsTupD h a items->IsTup h a items:=λ⟨o,e,c,n,d,_⟩=>⟨o,e,c,n,d⟩
theorem IsTupD.new(h:Heap)(items:Array Value):IsTupD (h.push { cls:=.type "tuple",data:=.seq items }) h.objs.size items:=⟨_,G0 _ rfl,rfl,_,rfl,rfl⟩
section
variable (P:Program)(w:World)
noncomputable def ObjOk(H:Hp)(h:Heap)(a:Addr):HO->Prop
 | .lst xs=>xs.length<=sizeLine/\∃(its:List Value) (n:Nat),Vals xs its/\h.get? a=some { cls:=.type "list",data:=.seq its.toArray n }
 | .tup xs=>xs.length<=sizeLine/\∃its:List Value,Vals xs its/\IsTupD h a its.toArray
 | .dK kvs=>kvs.length<=sizeLine/\(a==sysModules)=false/\∃vs,KV kvs vs/\h.DictOf (BG P w) a vs
 | .dT kvs=>kvs.length<=sizeLine/\(a==sysModules)=false/\∃xs:List (List XJ×Addr×Value),
   Paired (λ(p:List XJ×V) (q:List XJ×Addr×Value)=>p.1=q.1/\H q.2.1=some (.tup (p.1.map kV))/\RelV p.2 q.2.2) kvs xs /\
   ∃o es ep,h.get? a=some o/\o.ExactDict/\o.data=.dict es ep/\es.toList=xs.map (entryOfKey (tupleKind (BG P w)))/\(xs.map (·.1)).Nodup
 | .set S n=>h.SetOf (intKind P w) a S n
 | .ins C dx fs=>H dx=some (.own a)/\fs.length<=1000/\dx≠a/\h.get? a=some (X9 C dx) /\
   ∃mA,h.Ns1 dx mA/\(∀f,aC (fs.lookup f) (mA f))/\PySem.Within mA (fs.map (·.1))
 | .own _=>∃o,h.get? a=some o
 | .xd fs=>∃mA,h.Ns1 a mA/\∀f,aC (fs.lookup f) (mA f)
 | .rng lo hi=>∃t u v,h.get? a=some { cls:=.type "range",data:=.fields #[.int lo t,.int hi u,.int 1 v] }
 | .frz o u=>h.get? a=some o/\ObjOk H h a u
 | .tbl ps=>h.get? a=some { cls:=.none,data:=.fields ps }
 | .met f x=>h.get? a=some (u8 (.ref f) (.ref x))
 | .ext φ=>φ h/\(∃o,h.get? a=some o)/\∀h1 h2:Heap,φ h1->(∀o,h1.get? a=some o->h2.get? a=some o)->φ h2
noncomputable def HOk(H:Hp)(h:Heap):Prop:=∀a o,H a=some o->ObjOk P w H h a o
end
section
variable {P:Program}{w:World}{H H':Hp}{h h':Heap}{a:Addr}{o:HO}
theorem ObjOk.lt(x:ObjOk P w H h a o):a < h.objs.size:=by
 cases o with
 | lst xs=>obtain⟨_,_,_,_,e⟩:=x;exact L0 e
 | tup xs=>obtain⟨_,_,_,p⟩:=x;exact p.t.lt
 | dK kvs=>obtain⟨_,_,_,_,o,_,_,e,_⟩:=x;exact L0 e
 | dT kvs=>obtain⟨_,_,_,_,o,_,_,e,_⟩:=x;exact L0 e
 | set S n=>obtain⟨o,_,_,_,e,_⟩:=x;exact L0 e
 | ins C dx fs=>obtain⟨_,_,_,e,_⟩:=x;exact L0 e
 | own y=>obtain⟨_,e⟩:=x;exact L0 e
 | xd fs=>obtain⟨_,⟨_,_,_,e,_⟩,_⟩:=x;exact L0 e
 | rng lo hi=>obtain⟨_,_,_,e⟩:=x;exact L0 e
 | frz ob u=>obtain⟨e,_⟩:=x;exact L0 e
 | tbl ps=>exact L0 (show h.get? a=some _ from x)
 | met f y=>exact L0 (show h.get? a=some _ from x)
 | ext φ=>obtain⟨_,⟨_,e⟩,_⟩:=x;exact L0 e
theorem Paired.mapP{α β:Type}{F G:α->β->Prop}:∀{l₁:List α}{l₂:List β},Paired F l₁ l₂->(∀a b,F a b->G a b)->Paired G l₁ l₂
 | _,_,.nil,_=>.nil
 | _,_,.cons r t,f=>.cons (f _ _ r) (Paired.mapP t f)
theorem ObjOk.stay(x:ObjOk P w H h a o)(k:∀b u,(b=a\/H b=some (.own a))->h.get? b=some u->h'.get? b=some u)
  (ho:∀b,H b=some (.own a)->H' b=some (.own a)) (ht:∀b xs,H b=some (.tup xs)->H' b=some (.tup xs)):ObjOk P w H' h' a o:=by
 induction o with
 | lst xs=>obtain⟨z,its,n,r,e⟩:=x;exact ⟨z,its,n,r,k _ _ (.inl rfl) e⟩
 | tup xs=>obtain⟨z,its,r,ob,e,c⟩:=x;exact ⟨z,its,r,ob,k _ _ (.inl rfl) e,c⟩
 | dK kvs=>obtain⟨z,y,vs,r,ob,es,ep,e,c⟩:=x;exact ⟨z,y,vs,r,ob,es,ep,k _ _ (.inl rfl) e,c⟩
 | dT kvs =>
  obtain⟨z,y,xs,r,ob,es,ep,e,c⟩:=x
  exact ⟨z,y,xs,Paired.mapP r λp q z=>⟨z.1,ht _ _ z.2.1,z.2.2⟩,ob,es,ep,k _ _ (.inl rfl) e,c⟩
 | set S n=>obtain⟨ob,es,ep,t,e,c⟩:=x;exact ⟨ob,es,ep,t,k _ _ (.inl rfl) e,c⟩
 | ins C dx fs =>
  obtain⟨d,z,ne,e,mA,⟨od,es,ep,e2,c⟩,r⟩:=x
  exact ⟨ho _ d,z,ne,k _ _ (.inl rfl) e,mA,⟨od,es,ep,k _ _ (.inr d) e2,c⟩,r⟩
 | own y=>obtain⟨ob,e⟩:=x;exact ⟨ob,k _ _ (.inl rfl) e⟩
 | xd fs=>obtain⟨mA,⟨od,es,ep,e,c⟩,r⟩:=x;exact ⟨mA,⟨od,es,ep,k _ _ (.inl rfl) e,c⟩,r⟩
 | rng lo hi=>obtain⟨t,u,v,e⟩:=x;exact ⟨t,u,v,k _ _ (.inl rfl) e⟩
 | frz ob u ih=>obtain⟨e,q⟩:=x;exact ⟨k _ _ (.inl rfl) e,ih q⟩
 | tbl ps =>
  have e:h.get? a=some { cls:=.none,data:=.fields ps }:=x
  show h'.get? a=some { cls:=.none,data:=.fields ps }
  exact k a _ (.inl rfl) e
 | met f y =>
  have e:h.get? a=some (u8 (.ref f) (.ref y)):=x
  show h'.get? a=some (u8 (.ref f) (.ref y))
  exact k a _ (.inl rfl) e
 | ext φ=>obtain⟨p,⟨o,e⟩,st⟩:=x;exact ⟨st _ _ p λo q=>k _ _ (.inl rfl) q,⟨o,k _ _ (.inl rfl) e⟩,st⟩
theorem HOk.lt(x:HOk P w H h)(e:H a=some o):a < h.objs.size:=(x a o e).lt
theorem HOk.fresh(x:HOk P w H h)(e:h.objs.size<=a):H a=none:=by
 cases q:H a with
 | none=>rfl
 | some u=>exact absurd (S0 (x.lt q) e) (O3 _)
theorem HOk.kept(x:HOk P w H h)(k:∀b u,h.get? b=some u->h'.get? b=some u):HOk P w H h':=λa o e =>
 (x a o e).stay (λb u _ q=>k b u q) (λ_ q=>q) λ_ _ q=>q
theorem HOk.laid(x:HOk P w H h)(k:∀b u,h.get? b=some u->h'.get? b=some u)(hp:h.objs.size<=a)(new:ObjOk P w (NQ H a o) h' a o):HOk P w (NQ H a o) h':=λb u e=>by
 have hn:=x.fresh hp
 by_cases hb:b=a
 ·subst hb;rw[iQ]at e;cases e;exact new
 ·rw[dQ hb]at e
  exact (x b u e).stay (λc v _ q=>k c v q) (λc q=>by rw[dQ (jQ q hn)];exact q) λc xs q=>by rw[dQ (jQ q hn)];exact q
end
noncomputable def Rd(H:Hp)(a:Addr)(u:HO):Prop:=H a=some u\/∃o,H a=some (.frz o u)
theorem Rd.ok{P:Program}{w:World}{H:Hp}{h:Heap}{a:Addr}{u:HO}(r:Rd H a u)(x:HOk P w H h):ObjOk P w H h a u:=by
 rcases r with r|⟨o,r⟩
 ·exact x a u r
 ·obtain⟨_,q⟩:=x a _ r
  exact q
noncomputable def bC:Option HO->Prop
 | some (.lst _)=>True
 | some (.dK _)=>True
 | some (.dT _)=>True
 | some (.set _ _)=>True
 | some (.ins _ _ _)=>True
 | some (.ext _)=>True
 | _=>False
section
variable {P:Program}{w:World}{H:Hp}{h h':Heap}{x e:Addr}{o':HO}
theorem HOk.write(ok:HOk P w H h)(mu:bC (H x))(he:e=x\/H e=some (.own x))(k:∀b u,b≠e->h.get? b=some u->h'.get? b=some u)(heo:∃u,h'.get? e=some u)
  (new:ObjOk P w (NQ H x o') h' x o'):HOk P w (NQ H x o') h':=λb u q=>by
 have nown:∀c y,H c=some (.own y)->c≠x:=λc y r z=>by subst z;rw[r]at mu;exact mu
 have ntup:∀c xs,H c=some (.tup xs)->c≠x:=λc xs r z=>by subst z;rw[r]at mu;exact mu
 by_cases hb:b=x
 ·subst hb;rw[iQ]at q;cases q;exact new
 ·rw[dQ hb]at q
  by_cases hbe:b=e
  ·have q':H b=some (.own x):=by
    rcases he with z|z
    ·exact absurd (hbe.trans z) hb
    ·rw[hbe];exact z
   rw[q]at q';cases q'
   obtain⟨v,hv⟩:=heo
   exact ⟨v,by rw[hbe];exact hv⟩
  ·refine (ok b u q).stay (λc v hc r=>k c v ?_ r) (λc r=>by rw[dQ (nown c b r)];exact r) λc xs r=>by rw[dQ (ntup c xs r)];exact r
   rcases hc with rfl|hc
   ·exact hbe
   ·rintro rfl
    rcases he with z|z
    ·exact nown c b hc z
    ·rw[hc]at z;cases z;exact hb rfl
end
structure Un(fs ex:List Addr)(H H':Hp)(h h':Heap):Prop where
 keep:∀b o,h.get? b=some o->H b=none->b∉fs->b∉ex->h'.get? b=some o
 slot:∀b o,h.get? b=some o->H b=none->b∈fs->b∉ex->∃sl,h'.get? b=some { o with slots:=sl }
 free:∀b o,h.get? b=some o->H b=none->b∉ex->H' b=none
 there:∀b o,h.get? b=some o->b∉ex->∃o',h'.get? b=some o'
 tups:∀b xs,H b=some (.tup xs)->H' b=some (.tup xs)
 frzs:∀b o u,H b=some (.frz o u)->H' b=some (.frz o u)
 tbls:∀b ps,H b=some (.tbl ps)->∃more,H' b=some (.tbl (ps++more))
section
variable {fs fs' ex ex':List Addr}{H H1 H2:Hp}{h h1 h2 h':Heap}{a x e:Addr}{o:HO}
theorem Un.any(u:Un fs ex H H1 h h1){b:Addr}{ob:Obj}(q:h.get? b=some ob)(n:H b=none)(hx:b∉ex):∃sl,h1.get? b=some { ob with slots:=sl }:=by
 by_cases hb:b∈fs
 ·exact u.slot b ob q n hb hx
 ·exact ⟨ob.slots,u.keep b ob q n hb hx⟩
theorem Un.kept(k:∀b u,h.get? b=some u->h'.get? b=some u):Un fs ex H H h h' :=
 ⟨λb ob q _ _ _=>k b ob q,λb ob q _ _ _=>⟨ob.slots,k b ob q⟩,λ_ _ _ n _=>n,λb ob q _=>⟨ob,k b ob q⟩,λ_ _ q=>q,λ_ _ _ q=>q,λ_ ps q=>⟨#[],by rw[q];simp⟩⟩
theorem Un.refl:Un fs ex H H h h:=Un.kept λ_ _ q=>q
theorem Un.laid(k:∀b u,h.get? b=some u->h'.get? b=some u)(hp:h.objs.size<=a)(hn:H a=none):Un fs ex H (NQ H a o) h h' where
 keep:=λb u q _ _ _=>k b u q
 slot:=λb u q _ _ _=>⟨u.slots,k b u q⟩
 free:=λb u q n _=>by rw[dQ (W0 (S0 (L0 q) hp))];exact n
 there:=λb u q _=>⟨u,k b u q⟩
 tups:=λb xs q=>by rw[dQ (jQ q hn)];exact q
 frzs:=λb u xs q=>by rw[dQ (jQ q hn)];exact q
 tbls:=λb ps q=>⟨#[],by rw[dQ (jQ q hn),q];simp⟩
theorem Un.write(mu:bC (H x))(he:e=x\/H e=some (.own x))(k:∀b u,b≠e->h.get? b=some u->h'.get? b=some u)(heo:∃u,h'.get? e=some u):Un fs ex H (NQ H x o) h h':=by
 have hx:∀b,H b=none->b≠x:=λb n z=>by subst z;rw[n]at mu;exact mu
 have hb:∀b,H b=none->b≠e:=λb n z=>by
  subst z
  rcases he with r|r
  ·exact hx b n r
  ·rw[n]at r;cases r
 have hm:∀b u,H b=some u->¬bC (some u)->b≠x:=λb u q nm z=>by subst z;rw[q]at mu;exact nm mu
 refine ⟨λb u q n _ _=>k b u (hb b n) q,λb u q n _ _=>⟨u.slots,k b u (hb b n) q⟩,λb u q n _=>by rw[dQ (hx b n)];exact n,λb u q _=>?_,
   λb xs q=>by rw[dQ (hm b _ q λz=>z)];exact q,λb u xs q=>by rw[dQ (hm b _ q λz=>z)];exact q,λb ps q=>⟨#[],by rw[dQ (hm b _ q λz=>z),q];simp⟩⟩
 by_cases hbe:b=e
 ·subst hbe;exact heo
 ·exact ⟨u,k b u hbe q⟩
end
noncomputable def II(h:Heap)(H:Hp):List Addr:=(X2 h.objs.size).filter λa=>(H a).isSome
noncomputable def AV(h:Heap)(H:Hp):Heap:=PySem.W.hideAll h (II h H)
theorem QF(h:Heap)(H:Hp):(AV h H).objs.size=h.objs.size:=PySem.W.hideAll_size _ _
theorem cq{h:Heap}{H:Hp}{b:Addr}{o:Obj}(e:h.get? b=some o)(n:H b=none):(AV h H).get? b=some o :=
 PySem.W.hideAll_get _ e λhm=>by
  have q:(H b).isSome=true:=(S7.mp hm).2
  rw[n]at q;simp at q
theorem fx{h:Heap}{H:Hp}{b:Addr}{o:Obj}(e:(AV h H).get? b=some o):h.get? b=some o/\H b=none:=by
 have e':h.get? b=some o:=PySem.W.of_hideAll (II h H) e
 refine ⟨e',?_⟩
 cases q:H b with
 | none=>rfl
 | some x =>
  have hm:b∈II h H:=S7.mpr ⟨o6.mpr (L0 e'),by simp[q]⟩
  have z:(AV h H).get? b=none:=PySem.W.hideAll_none (II h H) hm
  rw[z]at e;cases e
noncomputable def gx(g h:Heap)(L:Addr):List (Addr×Obj):=(X2 h.objs.size).filterMap λa=>if a=L\/(g.get? a).isSome=true then none else (h.get? a).map λo=>(a,o)
noncomputable def rest(g h:Heap)(L d:Addr):List (Addr×Obj):=(gx g h L).filter λp=>decide (p.1≠d)
structure Mod(K:J0)(mg:Str->Option Value)(base:Heap):Prop where
 kin:K.In base
 glob:base.Ns mainGlobals mg
 blt:∃mb,base.Ns builtinsNs mb/\∀x:Str,x ≠ "__name__"->mb x=bootBuiltins x
 nolimit:base.NoLimit
structure Cx where
 prog:Program
 w:World
 K:J0
 mg:Str->Option Value
 base:Heap
 A:Around
 N:List Str
 s₀:Shared
 H₀:Hp
 env:Env
 outer:List Env
 stack:List Env
 ex:List Addr
 fn:Str->Bool
 calm:Bool
 pn:List (Addr×Obj)
 xe:Value->Shared->Prop
noncomputable def CG(l:List Env):List Addr:=l.filterMap (·.frame)
noncomputable abbrev Cx.fs(X:Cx):List Addr:=CG X.outer
noncomputable def cC(sc:Scope)(x:Str):Prop:=sc.names.lookup x=some .local\/sc.names.lookup x=some .cell\/sc.names.lookup x=some .free
noncomputable def ix(sc:Scope)(x:Str):Prop:=sc.names.lookup x=some .local\/sc.names.lookup x=some .cell
noncomputable def qL(env:Env)(h:Heap)(m:Str->Option Value)(x:Str)(u:Value):Prop :=
 (env.kindOf x=some .local/\m x=some u)\/((env.kindOf x=some .cell\/env.kindOf x=some .free)/\∃c,env.cells.lookup x=some c/\h.IsCell c (some u))
structure Cx.Ok(X:Cx):Prop where
 mod:Mod X.K X.mg X.base
 kind:X.env.scope.kind=.function
 glob:X.env.globals=mainGlobals
 blt:X.env.builtins=builtinsNs
 above:X.s₀.heap.objs.size<=X.env.locals
 inj:∀x y c,X.env.cells.lookup x=some c->X.env.cells.lookup y=some c->x=y
 has:∀x,(X.env.kindOf x=some .cell\/X.env.kindOf x=some .free)->∃c,X.env.cells.lookup x=some c
 cab:∀x c,X.fn x=true->X.env.cells.lookup x=some c->X.s₀.heap.objs.size<=c
 hd:X.calm=true->X.A.handled=none
 frames:X.A.frames=some X.stack
 stk:X.stack=X.outer\/(X.stack=X.env :: X.outer/\X.env.frame=some X.env.locals)
 exf:∀b∈X.ex,b≠X.env.locals/\∀x c,X.env.cells.lookup x=some c->c≠b
 bs:∀b o,X.base.get? b=some o->X.s₀.heap.get? b=some o/\X.H₀ b=none
 bsz:X.base.objs.size<=X.s₀.heap.objs.size
 noex:∀b o,X.base.get? b=some o->b∉X.ex
 exfs:∀b∈X.ex,b∉X.fs
 funs:X.s₀.heap.FunFrames X.base X.outer
 frf:∀b∈X.fs,X.H₀ b=none
structure Inv(X:Cx)(pins:List (Addr×Obj))(σ:List (Option V))(H:Hp)(s:Shared):Prop where
 ok:X.Ok
 os:s.os=X.s₀.os
 bare:AllBare s.gens
 base:Un X.fs X.ex X.H₀ H X.s₀.heap s.heap
 loc:∃m,s.heap.Ns X.env.locals m/\∀(i:Nat) (x:Str) (v:V),X.N[i]?=some x->σ[i]?=some (some v)->cC X.env.scope x->∃u,RelV v u/\qL X.env s.heap m x u
 cell:∀x c,X.env.cells.lookup x=some c->∃v,s.heap.IsCell c v
 free:H X.env.locals=none
 freeC:∀x c,X.env.cells.lookup x=some c->H c=none
 pin:∀p∈X.pn++pins,s.heap.get? p.1=some p.2/\H p.1=none/\p.1≠X.env.locals/\p.1∉X.fs/\∀v,p.2.data≠.cell v
 hok:HOk X.prog X.w H s.heap
 len:σ.length=X.N.length
section
variable {X:Cx}{pins:List (Addr×Obj)}{σ:List (Option V)}{H H':Hp}{s:Shared}{h':Heap}
theorem Cx.Ok.nofr(ok:X.Ok){b:Addr}{o:Obj}(e:X.base.get? b=some o):b∉X.fs:=λhb=>by
 have:=(ok.funs.mem hb).1
 rw[e]at this;cases this
theorem Inv.bs(I:Inv X pins σ H s):∀b o,X.base.get? b=some o->s.heap.get? b=some o/\H b=none:=λb o e =>
 ⟨I.base.keep b o (I.ok.bs b o e).1 (I.ok.bs b o e).2 (I.ok.nofr e) (I.ok.noex b o e),I.base.free b o (I.ok.bs b o e).1 (I.ok.bs b o e).2 (I.ok.noex b o e)⟩
theorem Inv.bk(I:Inv X pins σ H s):∀b o,X.base.get? b=some o->s.heap.get? b=some o:=λb o e=>(I.bs b o e).1
theorem Inv.mod(I:Inv X pins σ H s):Mod X.K X.mg X.base:=I.ok.mod
theorem Inv.kIn(I:Inv X pins σ H s):X.K.In s.heap:=I.ok.mod.kin.keeps I.bk
theorem Inv.lt(I:Inv X pins σ H s):X.env.locals < s.heap.objs.size:=let ⟨_,hn,_⟩:=I.loc;hn.lt
theorem Inv.sz(I:Inv X pins σ H s):X.s₀.heap.objs.size<=s.heap.objs.size:=L1 I.ok.above (J5 I.lt)
theorem Inv.nofs(I:Inv X pins σ H s){a:Addr}(h:s.heap.objs.size<=a):a∉X.fs:=λhb=>by
 obtain⟨_,o,ho,_⟩:=I.ok.funs.mem hb
 exact absurd (S0 (L0 ho) (L1 I.sz h)) (O3 _)
theorem Inv.cne(I:Inv X pins σ H s):∀x c,X.env.cells.lookup x=some c->c≠X.env.locals:=λx c e z=>by
 obtain⟨v,o,ho,hd⟩:=I.cell x c e
 obtain⟨m,⟨o',es,ep,ho',hd',_⟩,_⟩:=I.loc
 rw[z,ho']at ho;cases ho;rw[hd']at hd;cases hd
theorem Inv.funs(I:Inv X pins σ H s):s.heap.FunFrames X.base X.outer:=by
 have all:∀(l:List Env),(∀b∈CG l,b∈X.fs)->X.s₀.heap.FunFrames X.base l->s.heap.FunFrames X.base l:=by
  intro l
  induction l with
  | nil=>intro _ _;trivial
  | cons env r ih =>
   intro hs hl
   obtain⟨hk,⟨L,o,hf,hn,ho,hd⟩,hr⟩:=hl
   have hL:L∈X.fs:=hs L (by unfold CG;rw[X7,hf];exact O0)
   obtain⟨sl,e⟩:=I.base.slot L o ho (I.ok.frf L hL) hL λz=>I.ok.exfs L z hL
   exact ⟨hk,⟨L,_,hf,hn,e,hd⟩,ih (λb hb=>hs b (by unfold CG;rw[X7,hf];exact K0 _ hb)) hr⟩
 exact all X.outer (λ_ hb=>hb) I.ok.funs
theorem Inv.stack(I:Inv X pins σ H s):s.heap.FunFrames X.base X.stack:=by
 rcases I.ok.stk with e|⟨e,hf⟩
 ·rw[e];exact I.funs
 ·rw[e]
  obtain⟨m,hn,_⟩:=I.loc
  refine .cons (by rw[I.ok.kind];decide) hf hn ?_ I.funs
  exact Heap.get?_none_of_le (L1 I.ok.bsz I.ok.above)
theorem Inv.stkSub(I:Inv X pins σ H s):∀b∈CG X.stack,b∈X.env.locals :: X.fs:=λb hb=>by
 rcases I.ok.stk with e|⟨e,hf⟩
 ·rw[e]at hb;exact K0 _ hb
 ·rw[e]at hb
  unfold CG at hb
  rw[X7,hf]at hb
  exact hb
theorem Inv.stkFree(I:Inv X pins σ H s):∀b∈CG X.stack,H b=none:=λb hb=>by
 rcases V0.mp (I.stkSub b hb) with e|hb
 ·rw[e];exact I.free
 ·obtain⟨_,o,ho,_⟩:=I.ok.funs.mem hb
  exact I.base.free b o ho (I.ok.frf b hb) λz=>I.ok.exfs b z hb
theorem Inv.step{g':Array GenState}{t':Nat}{d':Drawn}{ch:List Addr}(I:Inv X pins σ H s)
  (hch:∀b∈ch,(b∈X.ex\/X.s₀.heap.objs.size<=b)/\b≠X.env.locals/\(∀x c,X.env.cells.lookup x=some c->c≠b)/\∀p∈X.pn++pins,p.1≠b)
  (keep:∀b o,b≠X.env.locals->b∉X.fs->b∉ch->s.heap.get? b=some o->H b=none->h'.get? b=some o)
  (slot:∀b o,b≠X.env.locals->b∈X.fs->b∉ch->s.heap.get? b=some o->H b=none->∃sl,h'.get? b=some { o with slots:=sl }) (free:∀b o,b∉ch->s.heap.get? b=some o->H b=none->H' b=none)
  (there:∀b o,b∉ch->s.heap.get? b=some o->∃o',h'.get? b=some o')
  (tups:∀b xs,H b=some (.tup xs)->H' b=some (.tup xs)) (frzs:∀b o u,H b=some (.frz o u)->H' b=some (.frz o u)) (tbls:∀b ps,H b=some (.tbl ps)->∃more,H' b=some (.tbl (ps++more)))
  (ns:∀m,s.heap.Ns X.env.locals m->h'.Ns X.env.locals m) (hok:HOk X.prog X.w H' h') (hg:AllBare g') :
  Inv X pins σ H' { s with heap:=h',gens:=g',drawn:=d',toks:=t' }:=by
 have neL:∀b o,X.s₀.heap.get? b=some o->b≠X.env.locals:=λb o e=>W0 (S0 (L0 e) I.ok.above)
 have neC:∀b o,X.s₀.heap.get? b=some o->b∉X.ex->b∉ch:=λb o e hx hb=>by
  rcases (hch b hb).1 with z|z
  ·exact hx z
  ·exact absurd (S0 (L0 e) z) (O3 _)
 have cellK:∀x c,X.env.cells.lookup x=some c->∀v,s.heap.IsCell c v->h'.IsCell c v:=λx c e v ⟨o,ho,hd⟩=>by
  have nch:c∉ch:=λz=>(hch c z).2.2.1 x c e rfl
  by_cases hc:c∈X.fs
  ·obtain⟨sl,q⟩:=slot c o (I.cne x c e) hc nch ho (I.freeC x c e)
   exact ⟨_,q,hd⟩
  ·exact ⟨o,keep c o (I.cne x c e) hc nch ho (I.freeC x c e),hd⟩
 refine ⟨I.ok,I.os,hg,⟨λb o e n hb hx=>?_,λb o e n hb hx=>?_,λb o e n hx=>?_,λb o e hx=>?_,λb xs e=>tups b xs (I.base.tups b xs e),λb o xs e=>frzs b o xs (I.base.frzs b o xs e),λb ps e=>?_⟩,?_,λx c e=>?_,?_,λx c e=>?_,λp hp=>?_,hok,I.len⟩
 ·exact keep b o (neL b o e) hb (neC b o e hx) (I.base.keep b o e n hb hx) (I.base.free b o e n hx)
 ·obtain⟨sl,e1⟩:=I.base.slot b o e n hb hx
  obtain⟨sl',e2⟩:=slot b _ (neL b o e) hb (neC b o e hx) e1 (I.base.free b o e n hx)
  exact ⟨sl',e2⟩
 ·obtain⟨o',e1⟩:=I.base.there b o e hx
  exact free b o' (neC b o e hx) e1 (I.base.free b o e n hx)
 ·obtain⟨o',e1⟩:=I.base.there b o e hx
  exact there b o' (neC b o e hx) e1
 ·obtain⟨m1,e1⟩:=I.base.tbls b ps e
  obtain⟨m2,e2⟩:=tbls b _ e1
  exact ⟨m1++m2,by rw[e2,Array.append_assoc]⟩
 ·obtain⟨m,hn,hl⟩:=I.loc
  refine ⟨m,ns m hn,λi x v e1 e2 e3=>?_⟩
  obtain⟨u,r,l⟩:=hl i x v e1 e2 e3
  refine ⟨u,r,?_⟩
  rcases l with l|⟨k,c,e,z⟩
  ·exact .inl l
  ·exact .inr ⟨k,c,e,cellK x c e _ z⟩
 ·obtain⟨v,z⟩:=I.cell x c e
  exact ⟨v,cellK x c e v z⟩
 ·obtain⟨m,⟨o,_,_,ho,_⟩,_⟩:=I.loc
  exact free _ o (λz=>(hch _ z).2.1 rfl) ho I.free
 ·obtain⟨v,o,ho,hd⟩:=I.cell x c e
  exact free c o (λz=>(hch c z).2.2.1 x c e rfl) ho (I.freeC x c e)
 ·obtain⟨e,n,ne,nf,d⟩:=I.pin p hp
  have nch:p.1∉ch:=λz=>(hch p.1 z).2.2.2 p hp rfl
  exact ⟨keep p.1 p.2 ne nf nch e n,free p.1 p.2 nch e n,ne,nf,d⟩
theorem Inv.un{t':Nat}(I:Inv X pins σ H s)(u:Un X.fs [] H H' s.heap h')(hok:HOk X.prog X.w H' h'):Inv X pins σ H' { s with heap:=h',toks:=t' }:=by
 obtain⟨m,⟨o,es,ep,ho,r⟩,_⟩:=id I.loc
 obtain⟨sl,hL⟩:=u.any ho I.free (by simp)
 exact I.step (g':=s.gens) (d':=s.drawn) (ch:=[]) (λ_ z=>nomatch z) (λb o _ hb _ e n=>u.keep b o e n hb (by simp)) (λb o _ hb _ e n=>u.slot b o e n hb (by simp)) (λb o _ e n=>u.free b o e n (by simp)) (λb o _ e=>u.there b o e (by simp)) u.tups u.frzs u.tbls (λm' hm=>by
   obtain⟨o',es',ep',ho',r'⟩:=hm
   rw[ho]at ho';cases ho'
   exact ⟨_,es',ep',hL,r'⟩) hok I.bare
theorem Inv.call{g':Array GenState}{t':Nat}{d':Drawn}{ch:List Addr}(I:Inv X pins σ H s)(u:Un (CG X.stack) ch H H' s.heap h')(hok:HOk X.prog X.w H' h')(hg:AllBare g')
  (hch:∀b∈ch,(b∈X.ex\/X.s₀.heap.objs.size<=b)/\b≠X.env.locals/\(∀x c,X.env.cells.lookup x=some c->c≠b)/\∀p∈X.pn++pins,p.1≠b) :
  Inv X pins σ H' { s with heap:=h',gens:=g',drawn:=d',toks:=t' }:=by
 obtain⟨m,⟨o,es,ep,ho,r⟩,_⟩:=id I.loc
 obtain⟨sl,hL⟩:=u.any ho I.free λz=>(hch _ z).2.1 rfl
 exact I.step (ch:=ch) hch (λb o hL hb hc e n=>u.keep b o e n (λz=>(V0.mp (I.stkSub b z)).elim hL hb) hc) (λb o _ _ hc e n=>u.any e n hc) (λb o hc e n=>u.free b o e n hc) (λb o hc e=>u.there b o e hc) u.tups u.frzs u.tbls (λm' hm=>by
   obtain⟨o',es',ep',ho',r'⟩:=hm
   rw[ho]at ho';cases ho'
   exact ⟨_,es',ep',hL,r'⟩) hok hg
theorem Inv.turned{t':Nat}{it:Addr}(I:Inv X pins σ H s)(k:∀b o,b≠it->s.heap.get? b=some o->h'.get? b=some o)(hn:H it=none)(hL:it≠X.env.locals)
  (h1:it∈X.ex\/X.s₀.heap.objs.size<=it) (h2:∀x c,X.env.cells.lookup x=some c->c≠it) (h3:∀p∈X.pn++pins,p.1≠it):Inv X pins σ H { s with heap:=h',toks:=t' }:=by
 have nit:∀b u,H b=some u->b≠it:=λb u e z=>by rw[z,hn]at e;cases e
 refine I.step (g':=s.gens) (d':=s.drawn) (ch:=[it]) (λb hb=>?_) (λb o _ _ hc e _=>k b o (λz=>hc (by simp[z])) e) (λb o _ _ hc e _=>⟨o.slots,k b o (λz=>hc (by simp[z])) e⟩) (λ_ _ _ _ n=>n)
  (λb o hc e=>⟨o,k b o (λz=>hc (by simp[z])) e⟩) (λ_ _ e=>e) (λ_ _ _ e=>e) (λb ps e=>⟨#[],by rw[e];simp⟩) (λm hm=>?_) (λb u e=>?_) I.bare
 ·have e:b=it:=by simpa using hb
  subst e
  exact ⟨h1,hL,h2,h3⟩
 ·obtain⟨o,es,ep,ho,r⟩:=hm
  exact ⟨o,es,ep,k _ o (Z2 hL) ho,r⟩
 ·refine (I.hok b u e).stay (λc v hc q=>k c v ?_ q) (λ_ q=>q) λ_ _ q=>q
  rcases hc with z|z
  ·rw[z];exact nit b u e
  ·exact nit c _ z
theorem Inv.tok(I:Inv X pins σ H s)(t:Nat):Inv X pins σ H { s with toks:=t }:=I.un (h':=s.heap) (t':=t) Un.refl I.hok
theorem Inv.kept{t':Nat}(I:Inv X pins σ H s)(k:∀b u,s.heap.get? b=some u->h'.get? b=some u):Inv X pins σ H { s with heap:=h',toks:=t' }:=I.un (Un.kept k) (I.hok.kept k)
theorem Inv.laid{a:Addr}{o:HO}{t':Nat}(I:Inv X pins σ H s)(k:∀b u,s.heap.get? b=some u->h'.get? b=some u)(hp:s.heap.objs.size<=a)(new:ObjOk X.prog X.w (NQ H a o) h' a o) :
  Inv X pins σ (NQ H a o) { s with heap:=h',toks:=t' }:=I.un (Un.laid k hp (I.hok.fresh hp)) (I.hok.laid k hp new)
theorem Inv.write{x e:Addr}{o:HO}{t':Nat}(I:Inv X pins σ H s)(mu:bC (H x))(he:e=x\/H e=some (.own x))(k:∀b u,b≠e->s.heap.get? b=some u->h'.get? b=some u)(heo:∃u,h'.get? e=some u)
  (new:ObjOk X.prog X.w (NQ H x o) h' x o):Inv X pins σ (NQ H x o) { s with heap:=h',toks:=t' }:=I.un (Un.write mu he k heo) (I.hok.write mu he k heo new)
theorem Inv.pins_of{pins':List (Addr×Obj)}(I:Inv X pins σ H s)(h:∀p∈pins',s.heap.get? p.1=some p.2/\H p.1=none/\p.1≠X.env.locals/\p.1∉X.fs/\∀v,p.2.data≠.cell v):Inv X pins' σ H s :=
 ⟨I.ok,I.os,I.bare,I.base,I.loc,I.cell,I.free,I.freeC,λp hp=>(G4.mp hp).elim (λz=>I.pin p (M6 _ z)) (h p),I.hok,I.len⟩
theorem lU{N:List Str}(hN:N.Nodup){i j:Nat}{x:Str}(a:N[i]?=some x)(b:N[j]?=some x):i=j:=by
 obtain⟨h1,e1⟩:=K1.mp a
 obtain⟨h2,e2⟩:=K1.mp b
 exact (List.getElem_inj hN).mp (e1.trans e2.symm)
theorem aV{M:Model}{A:Around}{E:Value->Shared->Prop}{i:Nat}{x:Str}{v:V}{u:Value}{Q:Unit->Shared->Prop}(I:Inv X pins σ H s)(hN:X.N.Nodup)(hi:X.N[i]?=some x)(hx:ix X.env.scope x)(r:RelV v u)
  (h:∀s',Inv X pins (σ.set i (some v)) H s'->(∃a,J2 a s.heap s'.heap/\(a=X.env.locals\/X.env.cells.lookup x=some a))->Q () s') (hf:X.fn x=true\/X.env.scope.names.lookup x=some .local:=by first|exact .inl rfl|exact .inr rfl|assumption):wpAny M A (storeName X.env x u) Q E s:=by
 obtain⟨m,hn,hl⟩:=id I.loc
 have hcls:(X.env.scope.kind==.class||(X.env.scope.kind==.module&&X.env.locals != X.env.globals))=false:=by rw[I.ok.kind];rfl
 have hiσ:i < σ.length:=by rw[I.len];exact (K1.mp hi).1
 have cne:=I.cne
 have tracked:∀{a:Addr}{h':Heap},(∃o,s.heap.get? a=some o/\H a=none)->J2 a s.heap h'->HOk X.prog X.w H h':=λ{a h'} ha hs b ob e=>by
  obtain⟨_,_,hfree⟩:=ha
  refine (I.hok b ob e).stay (λc w' hc q=>(hs.2 c ?_).trans q) (λ_ q=>q) λ_ _ q=>q
  rintro rfl
  rcases hc with rfl|hc
  ·rw[hfree]at e;cases e
  ·rw[hfree]at hc;cases hc
 rcases hx with hk|hk
 ·refine wpAny_storeName_local hk hn (λh' hn' hs=>?_) hcls
  obtain⟨oL,_,_,hoL,_⟩:=id hn
  refine h _ ⟨I.ok,I.os,I.bare,⟨λb o e n hb hx=>?_,λb o e n hb hx=>?_,I.base.free,λb o e hx=>?_,I.base.tups,I.base.frzs,I.base.tbls⟩,⟨_,hn',λj y v' e1 e2 e3=>?_⟩,λy c e=>?_,I.free,I.freeC,λp hp=>?_,tracked ⟨oL,hoL,I.free⟩ hs,by simpa using I.len⟩ ⟨_,hs,.inl rfl⟩
  ·exact (hs.2 b (W0 (S0 (L0 e) I.ok.above))).trans (I.base.keep b o e n hb hx)
  ·obtain⟨sl,e1⟩:=I.base.slot b o e n hb hx
   exact ⟨sl,(hs.2 b (W0 (S0 (L0 e) I.ok.above))).trans e1⟩
  ·obtain⟨o',e1⟩:=I.base.there b o e hx
   exact ⟨o',(hs.2 b (W0 (S0 (L0 e) I.ok.above))).trans e1⟩
  ·by_cases hj:j=i
   ·subst hj
    rw[hi]at e1;cases e1
    rw[U8 hiσ]at e2
    cases e2
    exact ⟨u,r,.inl ⟨hk,by simp⟩⟩
   ·rw[B1 (Z2 hj)]at e2
    obtain⟨u',r',q⟩:=hl j y v' e1 e2 e3
    refine ⟨u',r',?_⟩
    rcases q with⟨k,e⟩|⟨k,c,e,z⟩
    ·refine .inl ⟨k,?_⟩
     have:y≠x:=λe=>hj (lU hN e1 (e ▸ hi))
     simp[this,e]
    ·exact .inr ⟨k,c,e,z.sameBut hs (cne y c e)⟩
  ·obtain⟨w',z⟩:=I.cell y c e
   exact ⟨w',z.sameBut hs (cne y c e)⟩
  ·obtain⟨e,n,ne,nf,d⟩:=I.pin p hp
   exact ⟨(hs.2 p.1 ne).trans e,n,ne,nf,d⟩
 ·have hfn:X.fn x=true:=by
   rcases hf with z|z
   ·exact z
   ·rw[z]at hk;cases hk
  obtain⟨c,hc⟩:=I.ok.has x (.inl hk)
  obtain⟨w',z⟩:=I.cell x c hc
  refine wpAny_storeName_cell I.ok.kind hk hc z (λh' hc' hs=>?_)
  obtain⟨oc,hoc,hocd⟩:=id z
  refine h { s with heap:=h' } ⟨I.ok,I.os,I.bare,⟨λb o e n hb hx=>?_,λb o e n hb hx=>?_,I.base.free,λb o e hx=>?_,I.base.tups,I.base.frzs,I.base.tbls⟩,⟨m,hn.sameBut hs (Z2 (cne x c hc)),λj y v' e1 e2 e3=>?_⟩,λy c' e=>?_,I.free,I.freeC,λp hp=>?_,tracked ⟨oc,hoc,I.freeC x c hc⟩ hs,by simpa using I.len⟩ ⟨c,hs,.inr hc⟩
  ·exact (hs.2 b (W0 (S0 (L0 e) (I.ok.cab x c hfn hc)))).trans (I.base.keep b o e n hb hx)
  ·obtain⟨sl,e1⟩:=I.base.slot b o e n hb hx
   exact ⟨sl,(hs.2 b (W0 (S0 (L0 e) (I.ok.cab x c hfn hc)))).trans e1⟩
  ·obtain⟨o',e1⟩:=I.base.there b o e hx
   exact ⟨o',(hs.2 b (W0 (S0 (L0 e) (I.ok.cab x c hfn hc)))).trans e1⟩
  ·by_cases hj:j=i
   ·subst hj
    rw[hi]at e1;cases e1
    rw[U8 hiσ]at e2
    cases e2
    exact ⟨u,r,.inr ⟨.inl hk,c,hc,hc'⟩⟩
   ·rw[B1 (Z2 hj)]at e2
    obtain⟨u',r',q⟩:=hl j y v' e1 e2 e3
    refine ⟨u',r',?_⟩
    rcases q with q|⟨k,c',e,z'⟩
    ·exact .inl q
    ·refine .inr ⟨k,c',e,z'.sameBut hs ?_⟩
     rintro rfl
     exact hj (lU hN e1 (I.ok.inj _ _ _ e hc ▸ hi))
  ·by_cases hcc:c'=c
   ·subst hcc;exact ⟨_,hc'⟩
   ·obtain⟨w2,z2⟩:=I.cell y c' e
    exact ⟨w2,z2.sameBut hs hcc⟩
  ·obtain⟨e,n,ne,nf,d⟩:=I.pin p hp
   refine ⟨(hs.2 p.1 ?_).trans e,n,ne,nf,d⟩
   intro q
   rw[q,hoc]at e
   have q':oc=p.2:=V1 e
   exact d w' (by rw[<- q'];exact hocd)
theorem mU{M:Model}{A:Around}{E:Value->Shared->Prop}{i:Nat}{x:Str}{v:V}{u:Value}{Q:Unit->Shared->Prop}(I:Inv X pins σ H s)(hN:X.N.Nodup)(hi:X.N[i]?=some x)(hx:ix X.env.scope x)(r:RelV v u)
  (h:∀s',Inv X pins (σ.set i (some v)) H s'->Q () s') (hf:X.fn x=true\/X.env.scope.names.lookup x=some .local:=by first|exact .inl rfl|exact .inr rfl|assumption):wpAny M A (storeName X.env x u) Q E s :=
 aV I hN hi hx r (λs' I' _=>h s' I') hf
theorem Inv.call'{s':Shared}{ch:List Addr}(I:Inv X pins σ H s)(ho:s'.os=s.os)(u:Un (CG X.stack) ch H H' s.heap s'.heap)(hok:HOk X.prog X.w H' s'.heap)(hg:AllBare s'.gens)
  (hch:∀b∈ch,(b∈X.ex\/X.s₀.heap.objs.size<=b)/\b≠X.env.locals/\(∀x c,X.env.cells.lookup x=some c->c≠b)/\∀p∈X.pn++pins,p.1≠b):Inv X pins σ H' s':=by
 obtain⟨h',g',d',t',o'⟩:=s'
 have e:o'=s.os:=ho
 subst e
 exact I.call (g':=g') (t':=t') (d':=d') u hok hg hch
end
noncomputable abbrev XK:=Value->Option Addr->Hp->Prop
noncomputable abbrev St:=List (Option V)
noncomputable abbrev VK:=V->Hp->Prop
noncomputable abbrev TE:=St->Hp->VK->Prop
noncomputable abbrev TT:=St->Hp->(Bool->Hp->Prop)->Prop
noncomputable abbrev TA:=St->Hp->(List V->Hp->Prop)->Prop
structure Ends where
 nx:St->Hp->Prop
 rt:VK
 bk:St->Hp->Prop:=λ_ _=>False
 ct:St->Hp->Prop:=λ_ _=>False
noncomputable abbrev TS:=Ends->St->Hp->Prop
noncomputable def EP(X:Cx)(pins:List (Addr×Obj))(σ:St)(Q:VK)(u:Value)(s':Shared):Prop:=∃v H',Inv X pins σ H' s'/\RelV v u/\Q v H'
noncomputable def TP(X:Cx)(pins:List (Addr×Obj))(σ:St)(Q:Bool->Hp->Prop)(b:Bool)(s':Shared):Prop:=∃H',Inv X pins σ H' s'/\Q b H'
noncomputable def AP(X:Cx)(pins:List (Addr×Obj))(σ:St)(Q:List V->Hp->Prop)(us:List Value)(s':Shared):Prop:=∃vs H',Inv X pins σ H' s'/\Vals vs us/\Q vs H'
noncomputable def SP(X:Cx)(pins:List (Addr×Obj))(D:Ends)(f:Flow)(s':Shared):Prop :=
 match f with
 | .next=>∃σ' H',Inv X pins σ' H' s'/\D.nx σ' H'
 | .brk=>∃σ' H',Inv X pins σ' H' s'/\D.bk σ' H'
 | .cont=>∃σ' H',Inv X pins σ' H' s'/\D.ct σ' H'
 | .ret u=>∃v σ' H',Inv X pins σ' H' s'/\RelV v u/\D.rt v H'
noncomputable def PE(X:Cx)(e:Expr)(t:TE):Prop :=
 ∀(pins:List (Addr×Obj)) (s:Shared) (σ:St) (H:Hp) (Q:VK),Inv X pins σ H s->t σ H Q->wpAny (model X.prog X.w) X.A (eval e X.env) (EP X pins σ Q) X.xe s
noncomputable def PT(X:Cx)(e:Expr)(t:TT):Prop :=
 ∀(pins:List (Addr×Obj)) (s:Shared) (σ:St) (H:Hp) (Q:Bool->Hp->Prop),Inv X pins σ H s->t σ H Q->wpAny (model X.prog X.w) X.A (isTrue e X.env (eval e X.env)) (TP X pins σ Q) X.xe s
noncomputable def PW(X:Cx)(e:Expr)(t:TT):Prop :=
 ∀(whole:Sem Value) (pins:List (Addr×Obj)) (s:Shared) (σ:St) (H:Hp) (Q:Bool->Hp->Prop),Inv X pins σ H s->t σ H Q->wpAny (model X.prog X.w) X.A (isTrue e X.env whole) (TP X pins σ Q) X.xe s
theorem PW.pt{X:Cx}{e:Expr}{t:TT}(h:PW X e t):PT X e t:=h _
noncomputable def PA(X:Cx)(es:List Expr)(t:TA):Prop :=
 ∀(pos:Pos) (pins:List (Addr×Obj)) (s:Shared) (σ:St) (H:Hp) (Q:List V->Hp->Prop),Inv X pins σ H s->t σ H Q->wpAny (model X.prog X.w) X.A (spliced (backTo pos (starEach es X.env))) (AP X pins σ Q) X.xe s
noncomputable def PS(X:Cx)(st:Stmt)(t:TS):Prop :=
 ∀(pins:List (Addr×Obj)) (s:Shared) (σ:St) (H:Hp) (D:Ends),Inv X pins σ H s->t D σ H->wpAny (model X.prog X.w) X.A (exec st X.env) (SP X pins D) X.xe s
noncomputable def PSs(X:Cx)(st:List Stmt)(t:TS):Prop :=
 ∀(pins:List (Addr×Obj)) (s:Shared) (σ:St) (H:Hp) (D:Ends),Inv X pins σ H s->t D σ H->wpAny (model X.prog X.w) X.A (execs st X.env) (SP X pins D) X.xe s
theorem wX{α:Type}{t:Sem α}{Q Q':α->Shared->Prop}{M:Model}{A:Around}{E:Value->Shared->Prop}{s:Shared}(h:wpAny M A t Q E s)(hQ:∀a s,Q a s->Q' a s):wpAny M A t Q' E s:=wpAny_mono h hQ λ_ _ x=>x
section
variable {X:Cx}
noncomputable def bK(i:Nat):TE:=λσ H Q=>∃v,σ[i]?=some (some v)/\Q v H
noncomputable def tC(v:V):TE:=λ_ H Q=>Q v H
theorem dq{i:Nat}{x:Str}{pos:Pos}(hN:X.N[i]?=some x)(hv:cC X.env.scope x)(hd:(x==("__debug__":Str))=false:=by decide)(hcd:(x==("__classdict__":Str))=false:=by decide):PE X (.Name x pos) (bK i):=by
 intro pins s σ H Q I h
 obtain⟨v,e,h⟩:=h
 obtain⟨m,hn,hl⟩:=I.loc
 obtain⟨u,r,l⟩:=hl i x v hN e hv
 have fin:EP X pins σ Q u s:=⟨v,H,I,r,h⟩
 rcases l with⟨hk,hm⟩|⟨hk,c,hc,hcell⟩
 ·exact wpAny_Name (wpAny_loadName_local I.ok.kind hk hn hm fin) hd
 ·rcases hk with hk|hk
  ·exact wpAny_Name (wpAny_loadName_cell I.ok.kind hk hc hcell fin) hd
  ·exact wpAny_Name (wpAny_loadName_free I.ok.kind hk hc hcell fin hcd) hd
theorem Zv{i j pos}:PE X (.Constant (.int i) j pos) (tC (.int i)):=λ_ _ _ H _ I h=>wpAny_Constant_int ⟨.int i,H,I.tok _,⟨_,rfl⟩,h⟩
theorem Pw{b j pos}:PE X (.Constant (.bool b) j pos) (tC (.bl b)):=λ_ _ _ H _ I h=>Constant_bool ⟨.bl b,H,I,rfl,h⟩
theorem ay{j pos}:PE X (.Constant .none j pos) (tC .non):=λ_ _ _ H _ I h=>Constant_none ⟨.non,H,I,rfl,h⟩
noncomputable def Gl(X:Cx)(x:Str):Prop:=X.env.kindOf x=some .globalImplicit
theorem jx{E:Value->Shared->Prop}{pins:List (Addr×Obj)}{s:Shared}{σ:St}{H:Hp}{x:Str}{u:Value}{pos:Pos}{Q:Value->Shared->Prop}(I:Inv X pins σ H s)(hg:Gl X x)(hm:X.mg x=some u)(h:Q u s)
  (hd:(x==("__debug__":Str))=false:=by decide):wpAny (model X.prog X.w) X.A (eval (.Name x pos) X.env) Q E s :=
 Calls.Name_function_global I.ok.kind hg (Calls.loadGlobal_global (by rw[I.ok.glob];exact I.mod.glob.keeps I.bk) hm h) hd
theorem HJ{E:Value->Shared->Prop}{pins:List (Addr×Obj)}{s:Shared}{σ:St}{H:Hp}{x:Str}{u:Value}{pos:Pos}{Q:Value->Shared->Prop}(I:Inv X pins σ H s)(hg:Gl X x)(hm:X.mg x=none)(hv:bootBuiltins x=some u)(h:Q u s)
  (hn:x ≠ "__name__":=by decide) (hd:(x==("__debug__":Str))=false:=by decide):wpAny (model X.prog X.w) X.A (eval (.Name x pos) X.env) Q E s:=by
 obtain⟨mb,h1,h2⟩:=I.mod.blt
 exact Calls.Name_function_global I.ok.kind hg (Calls.loadGlobal_builtin (by rw[I.ok.glob];exact I.mod.glob.keeps I.bk) hm (by rw[I.ok.blt];exact h1.keeps I.bk) ((h2 x hn).trans hv) h) hd
variable {a b:Expr}{ta tb:TE}{pos:Pos}
noncomputable def tB(t:TE):TT:=λσ H Q=>t σ H λx H1=>∃c,x=.bl c/\Q c H1
theorem cy{e:Expr}{t:TE}(h:PE X e t)(he:∀whole,isTrue e X.env whole=(do let v<-whole;standAt e.pos;holding [v] (truthy v)):=by intro _;rfl):PT X e (tB t):=by
 intro pins s σ H Q I hw
 refine isTrue_plain (wX (h pins s σ H _ I hw) λv s1 ⟨x,H1,I1,r1,q1⟩=>?_) (he _)
 obtain⟨d,rfl,q⟩:=q1
 cases r1
 exact wpAny_truthy_bool ⟨H1,I1,q⟩
variable {tA tB':TT}{rest:List Expr}
noncomputable def dy(t u:TT):TT:=λσ H Q=>t σ H λc H1=>if c=true then u σ H1 Q else Q false H1
noncomputable def rL(t u:TT):TT:=λσ H Q=>t σ H λc H1=>if c=true then Q true H1 else u σ H1 Q
noncomputable def fy(t:TT):TT:=λσ H Q=>t σ H λc H1=>Q (!c) H1
theorem kx(ha:PT X a tA):PW X (.BoolOp .And [a] pos) tA:=by
 intro wh pins s σ H Q I h
 refine isTrue_and (wX (ha pins s σ H Q I h) λc s1 e=>?_)
 cases c with
 | true=>exact isTrue_and_nil e
 | false=>exact e
theorem gy(ha:PT X a tA):PW X (.BoolOp .Or [a] pos) tA:=by
 intro wh pins s σ H Q I h
 refine isTrue_or (wX (ha pins s σ H Q I h) λc s1 e=>?_)
 cases c with
 | false=>exact isTrue_or_nil e
 | true=>exact e
theorem iy(ha:PT X a tA)(hb:PW X (.BoolOp .And (b :: rest) pos) tB'):PW X (.BoolOp .And (a :: b :: rest) pos) (dy tA tB'):=by
 intro wh pins s σ H Q I h
 refine isTrue_and (wX (ha pins s σ H _ I h) λc s1 ⟨H1,I1,q1⟩=>?_)
 cases c with
 | true=>exact hb wh pins s1 σ H1 Q I1 q1
 | false=>exact ⟨H1,I1,q1⟩
theorem eC(ha:PT X a tA)(hb:PW X (.BoolOp .Or (b :: rest) pos) tB'):PW X (.BoolOp .Or (a :: b :: rest) pos) (rL tA tB'):=by
 intro wh pins s σ H Q I h
 refine isTrue_or (wX (ha pins s σ H _ I h) λc s1 ⟨H1,I1,q1⟩=>?_)
 cases c with
 | true=>exact ⟨H1,I1,q1⟩
 | false=>exact hb wh pins s1 σ H1 Q I1 q1
theorem jy(ha:PT X a tA):PT X (.UnaryOp .Not a pos) (fy tA):=by
 intro pins s σ H Q I h
 exact isTrue_not (ha pins s σ H (λc H1=>Q (!c) H1) I h)
noncomputable def fq(ta tb:TE):TE:=λσ H Q=>ta σ H λx H1=>∃c,x=.bl c/\if c=true then tb σ H1 Q else Q (.bl false) H1
noncomputable def my(ta tb:TE):TE:=λσ H Q=>ta σ H λx H1=>∃c,x=.bl c/\if c=true then Q (.bl true) H1 else tb σ H1 Q
theorem oy{op}{t:TE}(h:PE X a t):PE X (.BoolOp op [a] pos) t:=λpins s σ H Q I hw=>BoolOp_one (h pins s σ H Q I hw)
theorem qy(ha:PE X a ta)(hb:PE X (.BoolOp .And (b :: rest) pos) tb):PE X (.BoolOp .And (a :: b :: rest) pos) (fq ta tb):=by
 intro pins s σ H Q I h
 refine BoolOp_and (wX (ha pins s σ H _ I h) λv s1 ⟨x,H1,I1,r1,q1⟩=>?_)
 obtain⟨c,rfl,q1⟩:=q1
 cases r1
 refine wpAny_truthy_bool ?_
 cases c with
 | true=>exact hb pins s1 σ H1 Q I1 q1
 | false=>exact ⟨.bl false,H1,I1,rfl,q1⟩
theorem gC(ha:PE X a ta)(hb:PE X (.BoolOp .Or (b :: rest) pos) tb):PE X (.BoolOp .Or (a :: b :: rest) pos) (my ta tb):=by
 intro pins s σ H Q I h
 refine BoolOp_or (wX (ha pins s σ H _ I h) λv s1 ⟨x,H1,I1,r1,q1⟩=>?_)
 obtain⟨c,rfl,q1⟩:=q1
 cases r1
 refine wpAny_truthy_bool ?_
 cases c with
 | false=>exact hb pins s1 σ H1 Q I1 q1
 | true=>exact ⟨.bl true,H1,I1,rfl,q1⟩
end
noncomputable def SqL(K:J0)(H:Hp)(a:Addr)(xs:List V):Prop :=
 Rd H a (.lst xs) \/
  ∃(o:Obj) (its:Array Value) (n:Nat),K.lookup a=some o/\o.cls=.type "list"/\o.dict=none/\o.data=.seq its n/\its.size<=sizeLine/\Vals xs its.toList
noncomputable def SqT(K:J0)(H:Hp)(a:Addr)(xs:List V):Prop :=
 Rd H a (.tup xs) \/
  ∃(o:Obj) (its:Array Value) (n:Nat),K.lookup a=some o/\o.cls=.type "tuple"/\o.data=.seq its n/\its.size<=sizeLine/\Vals xs its.toList
noncomputable def sL:Value->Option V
 | .none=>some .non
 | .bool b=>some (.bl b)
 | .int i _=>some (.int i)
 | .str x _=>some (.str x)
 | .bytes b _=>some (.byt b)
 | .float b _=>some (.flt b)
 | .ref a=>some (.ref a)
 | .type n=>some (.ty n)
 | _=>none
theorem RelV.abs{x:V}{u:Value}(r:RelV x u):sL u=some x:=by
 cases x with
 | non=>cases r;rfl
 | bl _=>cases r;rfl
 | int _=>obtain⟨t,rfl⟩:=r;rfl
 | str _=>obtain⟨t,rfl⟩:=r;rfl
 | byt _=>obtain⟨t,rfl⟩:=r;rfl
 | flt _=>obtain⟨t,rfl⟩:=r;rfl
 | ref _=>cases r;rfl
 | ty _=>cases r;rfl
theorem RelV.inj{x y:V}{u:Value}(r:RelV x u)(q:RelV y u):x=y:=V1 (r.abs.symm.trans q.abs)
theorem Vals.inj:∀{xs ys:List V}{us:List Value},Vals xs us->Vals ys us->xs=ys
 | _,_,_,.nil,.nil=>rfl
 | _,_,_,.cons r t,.cons r' t'=>by rw[r.inj r',Vals.inj t t']
section
variable {X:Cx}{pins:List (Addr×Obj)}{σ:St}{H:Hp}{s:Shared}{a:Addr}{xs ys:List V}
theorem SqL.of{K:J0}(h:H a=some (.lst xs)):SqL K H a xs:=.inl (.inl h)
theorem SqT.of{K:J0}(h:H a=some (.tup xs)):SqT K H a xs:=.inl (.inl h)
theorem Inv.list(I:Inv X pins σ H s)(h:SqL X.K H a xs):∃its:List Value,Vals xs its/\PlainL s.heap a its.toArray/\xs.length<=sizeLine:=by
 rcases h with h|⟨o,its,n,hk,hc,hd,hs,hz,r⟩
 ·obtain⟨z,its,n,r,e⟩:=h.ok I.hok
  exact ⟨its,r,⟨_,n,e,rfl,rfl,rfl⟩,z⟩
 ·refine ⟨its.toList,r,⟨o,n,I.kIn a o hk,hc,hd,by simpa using hs⟩,?_⟩
  have e:=r.length
  simp only[T0]at e
  omega
theorem Inv.tuple(I:Inv X pins σ H s)(h:SqT X.K H a xs):∃its:List Value,Vals xs its/\IsTup s.heap a its.toArray/\xs.length<=sizeLine:=by
 rcases h with h|⟨o,its,n,hk,hc,hs,hz,r⟩
 ·obtain⟨z,its,r,p⟩:=h.ok I.hok
  exact ⟨its,r,p.t,z⟩
 ·refine ⟨its.toList,r,⟨o,I.kIn a o hk,hc,n,by simpa using hs⟩,?_⟩
  have e:=r.length
  simp only[T0]at e
  omega
theorem Inv.list_inj(I:Inv X pins σ H s)(h:SqL X.K H a xs)(h':SqL X.K H a ys):xs=ys:=by
 obtain⟨its,r,⟨o,n,e,_,_,d⟩,_⟩:=I.list h
 obtain⟨its',r',⟨o',n',e',_,_,d'⟩,_⟩:=I.list h'
 rw[e]at e';cases e'
 rw[d]at d'
 injection d' with d1 _
 have:its=its':=by simpa using congrArg Array.toList d1
 subst this
 exact r.inj r'
theorem Inv.tuple_inj(I:Inv X pins σ H s)(h:SqT X.K H a xs)(h':SqT X.K H a ys):xs=ys:=by
 obtain⟨its,r,⟨o,e,_,n,d⟩,_⟩:=I.tuple h
 obtain⟨its',r',⟨o',e',_,n',d'⟩,_⟩:=I.tuple h'
 rw[e]at e';cases e'
 rw[d]at d'
 injection d' with d1 _
 have:its=its':=by simpa using congrArg Array.toList d1
 subst this
 exact r.inj r'
end
noncomputable abbrev Cx.wish(X:Cx)(E:Value->Shared->Prop):Cx:={ X with xe:=E }
noncomputable abbrev Cx.nox(X:Cx):Cx:=X.wish λ_ _=>False
theorem Cx.Ok.wish{X:Cx}(ok:X.Ok)(E:Value->Shared->Prop):(X.wish E).Ok :=
 ⟨ok.mod,ok.kind,ok.glob,ok.blt,ok.above,ok.inj,ok.has,ok.cab,ok.hd,ok.frames,ok.stk,ok.exf,ok.bs,ok.bsz,ok.noex,ok.exfs,ok.funs,ok.frf⟩
theorem Cx.Ok.unwish{X:Cx}{E:Value->Shared->Prop}(ok:(X.wish E).Ok):X.Ok :=
 ⟨ok.mod,ok.kind,ok.glob,ok.blt,ok.above,ok.inj,ok.has,ok.cab,ok.hd,ok.frames,ok.stk,ok.exf,ok.bs,ok.bsz,ok.noex,ok.exfs,ok.funs,ok.frf⟩
section
variable {X:Cx}{pins:List (Addr×Obj)}{σ:St}{H:Hp}{s:Shared}{E:Value->Shared->Prop}
theorem Inv.wish(I:Inv X pins σ H s)(E:Value->Shared->Prop):Inv (X.wish E) pins σ H s:=⟨I.ok.wish E,I.os,I.bare,I.base,I.loc,I.cell,I.free,I.freeC,I.pin,I.hok,I.len⟩
theorem Inv.unwish(I:Inv (X.wish E) pins σ H s):Inv X pins σ H s:=⟨I.ok.unwish,I.os,I.bare,I.base,I.loc,I.cell,I.free,I.freeC,I.pin,I.hok,I.len⟩
theorem SP.unwish{D:Ends}{f:Flow}{s':Shared}(h:SP (X.wish E) pins D f s'):SP X pins D f s':=by
 cases f with
 | next=>obtain⟨σ',H',I,q⟩:=h;exact ⟨σ',H',I.unwish,q⟩
 | brk=>obtain⟨σ',H',I,q⟩:=h;exact ⟨σ',H',I.unwish,q⟩
 | cont=>obtain⟨σ',H',I,q⟩:=h;exact ⟨σ',H',I.unwish,q⟩
 | ret u=>obtain⟨v,σ',H',I,r,q⟩:=h;exact ⟨v,σ',H',I.unwish,r,q⟩
theorem PSs.nox{st:List Stmt}{t:TS}(h:PSs X.nox st t):PSs X st t:=λpins s σ H D I hw =>
 wpAny_mono (h pins s σ H D (I.wish _) hw) (λ_ _ q=>q.unwish) λ_ _ z=>False.elim z
end
section
variable {X:Cx}{st:Stmt}{rest:List Stmt}{t u:TS}{e:Expr}{te:TE}{pos:Pos}
noncomputable def gq:TS:=λD σ H=>D.nx σ H
noncomputable def sy(t u:TS):TS:=λD σ H=>t { D with nx:=u D } σ H
theorem ox:PSs X [] gq:=λ_ _ σ H _ I h=>wpAny_execs_nil ⟨σ,H,I,h⟩
theorem iq(h1:PS X st t)(h2:PSs X rest u):PSs X (st :: rest) (sy t u):=by
 intro pins s σ H D I h
 refine wpAny_execs_cons (wX (h1 pins s σ H { D with nx:=u D } I h) λf s1 q=>?_)
 cases f with
 | next =>
  obtain⟨σ',H',I',q⟩:=q
  exact h2 pins s1 σ' H' D I' q
 | ret v=>exact q
 | brk=>exact q
 | cont=>exact q
theorem qx(h1:PS X st t):PSs X [st] t:=by
 intro pins s σ H D I h
 refine wpAny_execs_cons (wX (h1 pins s σ H D I h) λf s1 q=>?_)
 cases f with
 | next=>exact wpAny_execs_nil q
 | ret v=>exact q
 | brk=>exact q
 | cont=>exact q
theorem Inv.quiet{pins:List (Addr×Obj)}{σ:St}{H:Hp}{s:Shared}(I:Inv X pins σ H s):interactive X.env=false:=by simp[interactive,I.ok.kind]
noncomputable def jq(te:TE):TS:=λD σ H=>te σ H λ_ H1=>D.nx σ H1
theorem sx(he:PE X e te)(hs:swapsWith e none pos.line X.env=pure false:=by rfl):PS X (.Expr e pos) (jq te):=by
 intro pins s σ H D I h
 exact wpAny_Expr_any (wX (he pins s σ H _ I h) λv s1 ⟨x,H1,I1,r1,q1⟩=>⟨σ,H1,I1,q1⟩) I.quiet hs
noncomputable def lq(te:TE):TS:=λD σ H=>te σ H D.rt
theorem mq(he:PE X e te):PS X (.Return (some e) pos) (lq te):=by
 intro pins s σ H D I h
 exact wpAny_Return_some (wX (he pins s σ H _ I h) λv s1 ⟨x,H1,I1,r1,q1⟩=>⟨x,σ,H1,I1,r1,q1⟩)
noncomputable def uy(c:TT)(t u:TS):TS:=λD σ H=>c σ H λb H1=>if b=true then t D σ H1 else u D σ H1
theorem iC{c:Expr}{a b:List Stmt}{tc:TT}(hc:PT X c tc)(ha:PSs X a t)(hb:PSs X b u):PS X (.If c a b pos) (uy tc t u):=by
 intro pins s σ H D I h
 refine wpAny_If (wX (hc pins s σ H _ I h) λd s1 ⟨H1,I1,q1⟩=>?_)
 cases d with
 | true=>exact ha pins s1 σ H1 D I1 q1
 | false=>exact hb pins s1 σ H1 D I1 q1
end
noncomputable abbrev TG:=V->St->Hp->(St->Hp->Prop)->Prop
noncomputable abbrev Yj:=List V->St->Hp->(St->Hp->Prop)->Prop
noncomputable def PG(X:Cx)(target:Expr)(t:TG):Prop :=
 ∀(pins:List (Addr×Obj)) (s:Shared) (σ:St) (H:Hp) (v:V) (u:Value) (Q:St->Hp->Prop),Inv X pins σ H s->RelV v u->t v σ H Q ->
  wpAny (model X.prog X.w) X.A (assign target X.env u) (λ_ s'=>∃σ' H',Inv X pins σ' H' s'/\Q σ' H') X.xe s
noncomputable def Qw(X:Cx)(ts:List Expr)(t:Yj):Prop :=
 ∀(pins:List (Addr×Obj)) (s:Shared) (σ:St) (H:Hp) (vs:List V) (us:List Value) (Q:St->Hp->Prop),Inv X pins σ H s->Vals vs us->t vs σ H Q ->
  wpAny (model X.prog X.w) X.A (assignInOrder ((assignEach ts X.env).map (·.2)) us) (λ_ s'=>∃σ' H',Inv X pins σ' H' s'/\Q σ' H') X.xe s
noncomputable abbrev vy:=V->V->V->Hp->(Hp->Prop)->Prop
noncomputable def jC(X:Cx)(t:vy):Prop :=
 ∀(pins:List (Addr×Obj)) (s:Shared) (σ:St) (H:Hp) (o i v:V) (ov iv u:Value) (Q:Hp->Prop),Inv X pins σ H s->RelV o ov->RelV i iv->RelV v u->t o i v H Q ->
  wpAny (model X.prog X.w) X.A (setItem ov iv u) (λ_ s'=>∃H',Inv X pins σ H' s'/\Q H') X.xe s
section
variable {X:Cx}{pos:Pos}
noncomputable def yZ(i:Nat):TG:=λv σ H Q=>Q (σ.set i (some v)) H
theorem BV{i:Nat}{x:Str}(hN:X.N.Nodup)(hi:X.N[i]?=some x)(hx:ix X.env.scope x)(hf:X.fn x=true\/X.env.scope.names.lookup x=some .local:=by first|exact .inl rfl|exact .inr rfl|assumption):PG X (.Name x pos) (yZ i):=by
 intro pins s σ H v u Q I r h
 exact wpAny_assign_Name (mU I hN hi hx r (λs' I'=>⟨_,H,I',h⟩) hf)
noncomputable def wy:Yj:=λvs σ H Q=>vs=[]/\Q σ H
noncomputable def DG(t:TG)(u:Yj):Yj:=λvs σ H Q=>∃v r,vs=v :: r/\t v σ H λσ' H'=>u r σ' H' Q
theorem EG:Qw X [] wy:=by
 intro pins s σ H vs us Q I r h
 obtain⟨e,h⟩:=h
 subst e
 cases r
 exact assignInOrder_nil ⟨σ,H,I,h⟩
theorem zY{e:Expr}{es:List Expr}{t:TG}{u:Yj}(h1:PG X e t)(h2:Qw X es u)
  (hs:(assignEach (e :: es) X.env).map (·.2)=assign e X.env :: (assignEach es X.env).map (·.2):=by rfl):Qw X (e :: es) (DG t u):=by
 intro pins s σ H vs us Q I r h
 obtain⟨v,vr,e1,h⟩:=h
 subst e1
 cases r with
 | cons r rr =>
  rw[hs]
  refine assignInOrder_cons (wX (h1 pins s σ H _ _ _ I r h) λ_ s1 ⟨σ1,H1,I1,q1⟩=>?_)
  exact h2 pins s1 σ1 H1 _ _ Q I1 rr q1
noncomputable def nq(K:J0)(n:Nat)(t:Yj):TG:=λv σ H Q=>∃a xs,v=.ref a/\SqT K H a xs/\xs.length=n/\t xs σ H Q
theorem xy{es:List Expr}{k:Nat}{t:Yj}{n:Nat}(hc:X.calm=true)(h:Qw X es t)
  (hn:(assignEach es X.env).length=n:=by rfl) (hst:(assignEach es X.env).findIdx? (·.1)=none:=by rfl):PG X (.Tuple es k pos) (nq X.K n t):=by
 intro pins s σ H v u Q I r hw
 obtain⟨a,xs,e1,hq,hl,hw⟩:=hw
 subst e1
 cases r
 obtain⟨its,rv,ht,hz⟩:=I.tuple hq
 refine assign_Tuple_tuple (I.ok.hd hc) ht (by simp[hn,<- hl,rv.length]) hst λh' hx=>?_
 have I1:Inv X pins σ H { s with heap:=h' }:=I.kept (t':=s.toks) λb o e=>hx b o (W0 (L0 e)) e
 exact h pins _ σ H xs _ Q I1 (by simpa using rv) hw
noncomputable def yy(to ti:TE)(t:vy):TG:=λv σ H Q=>to σ H λo H1=>ti σ H1 λi H2=>t o i v H2 λH3=>Q σ H3
theorem zy{o i:Expr}{to ti:TE}{t:vy}(ho:PE X o to)(hi:PE X i ti)(hs:jC X t)
  (ha:∀v,assign (.Subscript o i pos) X.env v=(do
    let ov<-holding [v] (eval o X.env)
    let iv<-holding [v,ov] (eval i X.env)
    standAt pos
    holding [v,ov,iv] (setItem ov iv v)
    release [v,ov,iv] []):=by intro _;rfl):PG X (.Subscript o i pos) (yy to ti t):=by
 intro pins s σ H v u Q I r h
 rw[ha]
 refine wpAny_bind (wpAny_holding (wX (ho pins s σ H _ I h) λov s1 ⟨x,H1,I1,r1,q1⟩=>?_))
 refine wpAny_bind (wpAny_holding (wX (hi pins s1 σ H1 _ I1 q1) λiv s2 ⟨y,H2,I2,r2,q2⟩=>?_))
 refine wpAny_bind (wpAny_standAt (wpAny_bind (wpAny_holding (wX (hs pins s2 σ H2 x y v ov iv u _ I2 r1 r2 r q2) λ_ s3 ⟨H3,I3,q3⟩=>?_))))
 exact wpAny_release ⟨σ,H3,I3,q3⟩
noncomputable def bY(te:TE)(g:TG):TS:=λD σ H=>te σ H λx H1=>g x σ H1 D.nx
theorem oq{tg e:Expr}{te:TE}{g:TG}(he:PE X e te)(hg:PG X tg g)(hs:swapsWithSole [tg] e pos.line X.env=pure false:=by rfl)(hw:swappedStores [tg] e X.env=pure none:=by rfl)
  (h1:(assignEach [tg] X.env).map (·.2)=[assign tg X.env]:=by rfl):PS X (.Assign [tg] e pos) (bY te g):=by
 intro pins s σ H D I h
 refine wpAny_Assign_stores (wX (he pins s σ H _ I h) λv s1 ⟨x,H1,I1,r1,q1⟩=>?_) hs hw
 rw[h1]
 exact wX (hg pins s1 σ H1 x v _ I1 r1 q1) λ_ s2 q=>q
theorem qq{i:Nat}{x:Str}{e:Expr}{te:TE}{pos':Pos}(hN:X.N.Nodup)(hi:X.N[i]?=some x)(hx:ix X.env.scope x)(he:PE X e te)(hs:swapsWith e (some (.Name x pos')) pos.line X.env=pure false:=by rfl)(hf:X.fn x=true\/X.env.scope.names.lookup x=some .local:=by first|exact .inl rfl|exact .inr rfl|assumption) :
  PS X (.Assign [.Name x pos'] e pos) (bY te (yZ i)):=by
 intro pins s σ H D I h
 refine wpAny_Assign_Name (wX (he pins s σ H _ I h) λv s1 ⟨y,H1,I1,r1,q1⟩=>?_) hs
 exact mU I1 hN hi hx r1 (λs2 I2=>⟨_,H1,I2,q1⟩) hf
end
section
variable {X:Cx}{pos:Pos}
noncomputable def qH(c:TT)(tb:TS):TS:=λD σ H=>∃W:Nat->St->Hp->Prop,(∃m,W m σ H)/\∀m σ H,W m σ H ->
 c σ H λb H1=>if b=true then ∃N:St->Hp->Prop,(∀σ' H',N σ' H'->∃m',m' < m/\W m' σ' H')/\tb { D with nx:=N,ct:=N,bk:=D.nx } σ H1 else D.nx σ H1
theorem rq{c:Expr}{body:List Stmt}{tc:TT}{tb:TS}(hp:PassesOwn (model X.prog X.w) X.A X.env X.xe)(hc:PT X c tc)(hb:PSs X body tb):PS X (.While c body [] pos) (qH tc tb):=by
 intro pins s σ H D I h
 obtain⟨W,⟨m0,w0⟩,turn⟩:=h
 refine wpAny_While (codeAny_whileLoop (λn s'=>∃σ' H',Inv X pins σ' H' s'/\W n σ' H') ?_ m0 ⟨σ,H,I,w0⟩)
 rintro n s1 ⟨σ1,H1,I1,w1⟩
 refine wpAny_passesOwn hp (wX (hc pins s1 σ1 H1 _ I1 (turn n σ1 H1 w1)) λb s2 ⟨H2,I2,q2⟩=>?_)
 cases b with
 | true =>
  obtain⟨N,hN,q2⟩:=q2
  rw[if_pos rfl]
  refine wpAny_passesOwn hp (wX (hb pins s2 σ1 H2 _ I2 q2) λf s3 q3=>?_)
  cases f with
  | next =>
   obtain⟨σ3,H3,I3,n3⟩:=q3
   obtain⟨m',hm,w3⟩:=hN σ3 H3 n3
   exact ⟨m',hm,σ3,H3,I3,w3⟩
  | cont =>
   obtain⟨σ3,H3,I3,n3⟩:=q3
   obtain⟨m',hm,w3⟩:=hN σ3 H3 n3
   exact ⟨m',hm,σ3,H3,I3,w3⟩
  | brk=>exact q3
  | ret v=>exact q3
 | false =>
  rw[if_neg J1]
  exact wpAny_execs_nil ⟨σ1,H2,I2,q2⟩
end
structure It where
 go:Nat->Hp->Prop
 yld:Nat->Hp->V->Hp->Prop
 stop:Nat->Hp->Prop
noncomputable def cY(X:Cx)(pins:List (Addr×Obj))(H:Hp)(b:Addr):Prop :=
 H b=none/\b≠X.env.locals/\b∉X.fs/\(b∈X.ex\/X.s₀.heap.objs.size<=b)/\(∀x c,X.env.cells.lookup x=some c->c≠b)/\∀p∈X.pn++pins,p.1≠b
theorem Inv.fpOk{X:Cx}{pins:List (Addr×Obj)}{σ:St}{H H':Hp}{s:Shared}{b:Addr}(I:Inv X pins σ H s)(hb:s.heap.objs.size<=b)(hn:H' b=none):cY X pins H' b:=by
 refine ⟨hn,Z1 (S0 I.lt hb),I.nofs hb,.inr (L1 I.sz hb),λx c e z=>?_,λp hp z=>?_⟩
 ·obtain⟨v,q⟩:=I.cell x c e
  exact absurd (S0 q.lt (by rw[z];exact hb)) (O3 _)
 ·exact absurd (S0 (L0 (I.pin p hp).1) (by rw[z];exact hb)) (O3 _)
structure Turn(P:Program)(w:World)(K:J0)(tg:Expr)(J:It)(fp:List Addr)(it:Addr)(tn:Nat->Heap->Prop):Prop where
 mem:it∈fp
 obj:∀i h,tn i h->∀b∈fp,∃o,h.get? b=some o/\∀v,o.data≠.cell v
 keep:∀i h h',tn i h->(∀b∈fp,∀o,h.get? b=some o->h'.get? b=some o)->tn i h'
 item:∀(X:Cx),X.prog=P->X.w=w->X.K=K->X.calm=true->∀(i:Nat) (pins:List (Addr×Obj)) (s:Shared) (σ:St) (H:Hp) (E:Value->Shared->Prop),Inv X pins σ H s->(∀b∈fp,cY X pins H b)->tn i s.heap->J.go i H ->
  wpAny (model P w) X.A (pyNext (.ref it)) (λr s1=>∃u,r=some u /\
    wpAny (model P w) X.A (letOwnedTupleGo tg (.ref it) u) (λ_ s2=>∃x H',Inv X pins σ H' s2/\RelV x u/\J.yld i H x H'/\tn (i+1) s2.heap/\∀b∈fp,H' b=none) E s1) E s
 done:∀(X:Cx),X.prog=P->X.w=w->X.K=K->X.calm=true->∀(i:Nat) (pins:List (Addr×Obj)) (s:Shared) (σ:St) (H:Hp) (E:Value->Shared->Prop),Inv X pins σ H s->(∀b∈fp,cY X pins H b)->tn i s.heap->J.stop i H ->
  wpAny (model P w) X.A (pyNext (.ref it)) (λr s1=>r=none/\Inv X pins σ H s1) E s
 self:∀(A:Around) (i:Nat) (s:Shared) (Q:Value->Shared->Prop) (E:Value->Shared->Prop),tn i s.heap->Q (.ref it) s->wpAny (model P w) A (pyIter (.ref it)) Q E s
noncomputable abbrev TI:=St->Hp->(It->Hp->Prop)->Prop
noncomputable def tL(X:Cx)(pins:List (Addr×Obj))(σ:St)(tg:Expr)(R:It->Hp->Prop)(itv:Value)(s2:Shared):Prop :=
 ∃(it:Addr) (fp:List Addr) (tn:Nat->Heap->Prop) (J:It) (H':Hp),itv=.ref it/\Inv X pins σ H' s2/\Turn X.prog X.w X.K tg J fp it tn/\tn 0 s2.heap/\(∀b∈fp,cY X pins H' b)/\R J H'
noncomputable def PI(X:Cx)(tg iter:Expr)(wi:TI):Prop :=
 ∀(pins:List (Addr×Obj)) (s:Shared) (σ:St) (H:Hp) (R:It->Hp->Prop),Inv X pins σ H s->wi σ H R ->
  wpAny (model X.prog X.w) X.A (eval iter X.env) (λv s1=>wpAny (model X.prog X.w) X.A (pyIter v) (tL X pins σ tg R) X.xe s1) X.xe s
theorem FG{M:Model}{A:Around}{E:Value->Shared->Prop}{s:Shared}{tg:Expr}{it:Addr}{u:Value}{o:Obj}{n:String}{vs:Array Value}{Q:Unit->Shared->Prop}(ho:s.heap.get? it=some o)(hc:o.cls=.type n)(hd:o.data=.fields vs)
  (hn:["enumerate","zip","dict_itemiterator","dict_reverseitemiterator","odict_iterator","itertools.zip_longest","itertools.pairwise"].contains n=false) (hQ:Q () s):wpAny M A (letOwnedTupleGo tg (.ref it) u) Q E s:=by
 unfold letOwnedTupleGo
 cases tg<;>first
  | exact wpAny_pure hQ
  | (cases u<;>first
      | exact wpAny_pure hQ
      | (refine wpAny_bind (wpAny_load ho ?_)
         rw[hc,hd]
         show wpAny M A (if (["enumerate","zip","dict_itemiterator","dict_reverseitemiterator","odict_iterator","itertools.zip_longest","itertools.pairwise"].contains n&&vs[0]?==some (rawInt _))=true then _ else _) Q E s
         rw[if_neg (by intro h;rw[hn,j9]at h;cases h)]
         exact wpAny_pure hQ))
noncomputable def uL(K:J0)(a:Addr):It :=
 ⟨λi H=>∃xs x,SqL K H a xs/\xs[i]?=some x,λi H x H'=>H'=H/\∀xs,SqL K H a xs->xs[i]?=some x,λi H=>∃xs,SqL K H a xs/\xs.length<=i⟩
noncomputable def vL(K:J0)(a:Addr):It :=
 ⟨λi H=>∃xs x,SqT K H a xs/\xs[i]?=some x,λi H x H'=>H'=H/\∀xs,SqT K H a xs->xs[i]?=some x,λi H=>∃xs,SqT K H a xs/\xs.length<=i⟩
noncomputable def JI(lo:Int)(n:Nat):It:=⟨λi _=>i < n,λi H x H'=>H'=H/\x=.int (lo+i),λi _=>n<=i⟩
theorem RF{P:Program}{w:World}{K:J0}{tg:Expr}(a it:Addr):Turn P w K tg (uL K a) [it] it (λi h=>h.IsListIter it a i) where
 mem:=by simp
 obj:=λi h st b hb=>by
  have e:b=it:=by simpa using hb
  subst e
  obtain⟨o,e,c,d⟩:=st
  exact ⟨o,e,λv z=>by rw[d]at z;cases z⟩
 keep:=λi h h' st k=>st.at λo e=>k it (by simp) o e
 item:=by
  intro X hP hw hK hc i pins s σ H E I hf st hg
  subst hP hw hK
  obtain⟨xs,x,hq,hx⟩:=hg
  obtain⟨its,rv,p,hz⟩:=I.list hq
  obtain⟨u,hu,ru⟩:=rv.get hx
  obtain⟨f0,f1,f2,f3,f4,f5⟩:=hf it (by simp)
  refine wpAny_pyNext_list_item st p.isList (x:=u) (by simpa using hu) λh' st' sb=>?_
  have I1:Inv X pins σ H { s with heap:=h' }:=I.turned (t':=s.toks) (λb o hb e=>(sb.2 b hb).trans e) f0 f1 f3 f4 f5
  obtain⟨o,e,c,d⟩:=id st'
  exact ⟨u,rfl,FG (s:={ s with heap:=h' }) e c d (by decide) ⟨x,H,I1,ru,⟨rfl,λys hy=>by rw[I.list_inj hy hq];exact hx⟩,st',λb hb=>(hf b hb).1⟩⟩
 done:=by
  intro X hP hw hK hc i pins s σ H E I hf st hg
  subst hP hw hK
  obtain⟨xs,hq,hx⟩:=hg
  obtain⟨its,rv,p,hz⟩:=I.list hq
  obtain⟨f0,f1,f2,f3,f4,f5⟩:=hf it (by simp)
  have hl:=rv.length
  exact wpAny_pyNext_list_end (I.ok.hd hc) st p.isList (by simp;omega) λh' eb=>⟨rfl,I.turned (t':=s.toks) (λb o hb e=>eb b o hb e) f0 f1 f3 f4 f5⟩
 self:=λ_ _ _ _ _ st h=>wpAny_pyIter_listiter st h
theorem rH{P:Program}{w:World}{K:J0}{tg:Expr}(a it:Addr):Turn P w K tg (vL K a) [it] it (λi h=>h.IsTupleIter it a i) where
 mem:=by simp
 obj:=λi h st b hb=>by
  have e:b=it:=by simpa using hb
  subst e
  obtain⟨o,e,c,d⟩:=st
  exact ⟨o,e,λv z=>by rw[d]at z;cases z⟩
 keep:=λi h h' st k=>st.at λo e=>k it (by simp) o e
 item:=by
  intro X hP hw hK hc i pins s σ H E I hf st hg
  subst hP hw hK
  obtain⟨xs,x,hq,hx⟩:=hg
  obtain⟨its,rv,p,hz⟩:=I.tuple hq
  obtain⟨u,hu,ru⟩:=rv.get hx
  obtain⟨f0,f1,f2,f3,f4,f5⟩:=hf it (by simp)
  refine wpAny_pyNext_tuple_item st (show s.heap.IsTuple a its.toArray from p) (x:=u) (by simpa using hu) λh' st' sb=>?_
  have I1:Inv X pins σ H { s with heap:=h' }:=I.turned (t':=s.toks) (λb o hb e=>(sb.2 b hb).trans e) f0 f1 f3 f4 f5
  obtain⟨o,e,c,d⟩:=id st'
  exact ⟨u,rfl,FG (s:={ s with heap:=h' }) e c d (by decide) ⟨x,H,I1,ru,⟨rfl,λys hy=>by rw[I.tuple_inj hy hq];exact hx⟩,st',λb hb=>(hf b hb).1⟩⟩
 done:=by
  intro X hP hw hK hc i pins s σ H E I hf st hg
  subst hP hw hK
  obtain⟨xs,hq,hx⟩:=hg
  obtain⟨its,rv,p,hz⟩:=I.tuple hq
  obtain⟨f0,f1,f2,f3,f4,f5⟩:=hf it (by simp)
  have hl:=rv.length
  exact wpAny_pyNext_tuple_end (I.ok.hd hc) st (show s.heap.IsTuple a its.toArray from p) (by simp;omega) λh' eb=>⟨rfl,I.turned (t':=s.toks) (λb o hb e=>eb b o hb e) f0 f1 f3 f4 f5⟩
 self:=λ_ _ _ _ _ st h=>wpAny_pyIter_tupleiter st h
theorem sH{P:Program}{w:World}{K:J0}{tg:Expr}(it:Addr)(lo:Int)(n:Nat):Turn P w K tg (JI lo n) [it] it (λi h=>IsRangeIter h it (lo+(i:Nat) * 1) ((n:Int) - (i:Nat)) 1) where
 mem:=by simp
 obj:=λi h st b hb=>by
  have e:b=it:=by simpa using hb
  subst e
  exact ⟨_,st,λv z=>by
    have z':Data.fields _=Data.cell v:=z
    cases z'⟩
 keep:=λi h h' st k=>k it (by simp) _ st
 item:=by
  intro X hP hw hK hc i pins s σ H E I hf st hg
  subst hP hw hK
  obtain⟨f0,f1,f2,f3,f4,f5⟩:=hf it (by simp)
  have W:=Walks.range (prog:=X.prog) (w:=X.w) (I.ok.hd hc) it lo 1 n
  refine W.item i s _ _ hg st λv h' tk hv st' kk=>?_
  obtain⟨t,rfl⟩:=hv
  have I1:Inv X pins σ H { s with heap:=h',toks:=tk }:=I.turned (λb o hb e=>kk b o (by simpa using hb) e) f0 f1 f3 f4 f5
  refine ⟨_,rfl,FG (s:={ s with heap:=h',toks:=tk }) (n:="range_iterator") st' rfl rfl (by decide) ⟨.int (lo+i),H,I1,⟨t,?_⟩,⟨rfl,rfl⟩,st',λb hb=>(hf b hb).1⟩⟩
  rw[Int.mul_one]
 done:=by
  intro X hP hw hK hc i pins s σ H E I hf st hg
  subst hP hw hK
  obtain⟨f0,f1,f2,f3,f4,f5⟩:=hf it (by simp)
  exact wpAny_pyNext_range_end (I.ok.hd hc) st (by have:n<=i:=hg;omega) λh' eb=>⟨rfl,I.turned (t':=s.toks) (λb o hb e=>eb b o hb e) f0 f1 f3 f4 f5⟩
 self:=λ_ _ _ _ _ st h=>wpAny_pyIter_rangeiter st h
section
variable {X:Cx}{tg:Expr}
theorem tq{pins:List (Addr×Obj)}{σ:St}{H:Hp}{s:Shared}{R:It->Hp->Prop}{E:Value->Shared->Prop}{lo hi:Int}{t u v:Tok}{tk:Nat}(I:Inv X pins σ H s)(h1:-(2 ^ 62)<=lo)(h2:lo < 2 ^ 62)(h3:-(2 ^ 62)<=hi)(h4:hi < 2 ^ 62)
  (q:R (JI lo (hi - lo).toNat) H):wpAny (model X.prog X.w) X.A (pyIter (.ref s.heap.objs.size)) (tL X pins σ tg R) E { s with heap:=s.heap.push { cls:=.type "range",data:=.fields #[.int lo t,.int hi u,.int 1 v] },toks:=tk }:=by
 refine wpAny_pyIter_range (IsRange.new ..) (small_one h1 h2 h3 h4) ?_
 have I1:Inv X pins σ H { s with heap:=s.heap.push { cls:=.type "range",data:=.fields #[.int lo t,.int hi u,.int 1 v] },toks:=tk }:=I.kept λb o e=>j0 _ e
 refine ⟨(s.heap.push { cls:=.type "range",data:=.fields #[.int lo t,.int hi u,.int 1 v] }).objs.size,[(s.heap.push { cls:=.type "range",data:=.fields #[.int lo t,.int hi u,.int 1 v] }).objs.size],_,_,H,rfl,
   I1.kept (t':=tk) λb o e=>j0 _ e,sH _ lo (hi - lo).toNat,?_,λb hb=>?_,q⟩
 ·have e1:lo+((0:Nat):Int) * 1=lo:=by simp
  have e2:(((hi - lo).toNat:Nat):Int) - ((0:Nat):Int)=Builtin.Range.rangeSize lo hi 1:=by rw[rangeSize_one];split<;>omega
  show IsRangeIter _ _ (lo+((0:Nat):Int) * 1) ((((hi - lo).toNat:Nat):Int) - ((0:Nat):Int)) 1
  rw[e1,e2]
  exact G0 _ rfl
 ·have e:b=(s.heap.push { cls:=.type "range",data:=.fields #[.int lo t,.int hi u,.int 1 v] }).objs.size:=by simpa using hb
  subst e
  exact I1.fpOk (R0 _) (I1.hok.fresh (R0 _))
noncomputable def uq(ta:TA):TI:=λσ H R=>ta σ H λvs H1=>∃j:Int,vs=[.int j]/\-(2 ^ 62)<=j/\j < 2 ^ 62/\R (JI 0 j.toNat) H1
theorem SF{a:Expr}{ta:TA}{p pos:Pos}(hg:Gl X "range")(hm:X.mg "range"=none)(ha:PA X [a] ta)(hs:starEach [a] X.env=[(false,eval a X.env)]:=by rfl):PI X tg (.Call (.Name "range" p) [a] [] pos) (uq ta):=by
 intro pins s σ H R I h
 refine Call_ (HJ I hg hm boot_range (U3 (wX (ha pos pins s σ H _ I h) λus s1 ⟨vs,H1,I1,r1,q1⟩=>?_) hs rfl))
 obtain⟨j,e,q1,q2,q⟩:=q1
 subst e
 cases r1 with
 | cons r rr =>
  cases rr
  obtain⟨t,rfl⟩:=r
  exact call_range_1 (tq I1 (by omega) (by omega) q1 q2 (by simpa using q))
noncomputable def Ay(wi:TI)(g:TG)(tb:TS):TS:=λD σ H=>wi σ H λJ H1=>∃W:Nat->Nat->St->Hp->Prop,(∃m,W 0 m σ H1)/\∀i m σ H,W i m σ H ->
 (J.stop i H/\D.nx σ H)\/(J.go i H/\∃N:St->Hp->Prop,(∀σ' H',N σ' H'->∃m',m' < m/\W (i+1) m' σ' H')/\∀x H',J.yld i H x H'->g x σ H' λσ2 H2=>tb { D with nx:=N,ct:=N,bk:=D.nx } σ2 H2)
noncomputable def CK(fp:List Addr)(h:Heap):List (Addr×Obj):=fp.filterMap λb=>(h.get? b).map λo=>(b,o)
theorem GZ{fp:List Addr}{h:Heap}{b:Addr}{o:Obj}(hb:b∈fp)(e:h.get? b=some o):(b,o)∈CK fp h:=G9.mpr ⟨b,hb,by rw[e];rfl⟩
theorem bV{fp:List Addr}{h:Heap}{p:Addr×Obj}(hp:p∈CK fp h):p.1∈fp/\h.get? p.1=some p.2:=by
 obtain⟨b,hb,e⟩:=G9.mp hp
 cases q:h.get? b with
 | none=>rw[q]at e;cases e
 | some o =>
  rw[q]at e
  have e':(b,o)=p:=V1 e
  subst e'
  exact ⟨hb,q⟩
theorem Inv.pinned{pins:List (Addr×Obj)}{σ:St}{H:Hp}{s:Shared}{fp:List Addr}(I:Inv X pins σ H s)(hf:∀b∈fp,cY X pins H b)(ho:∀b∈fp,∃o,s.heap.get? b=some o/\∀v,o.data≠.cell v):Inv X (pins++CK fp s.heap) σ H s :=
 I.pins_of λp hp=>(G4.mp hp).elim (λz=>I.pin p (S1 _ z)) λz=>by
  obtain⟨hb,e⟩:=bV z
  obtain⟨f0,f1,f2,_⟩:=hf p.1 hb
  obtain⟨o,e',d⟩:=ho p.1 hb
  rw[e]at e';cases e'
  exact ⟨e,f0,f1,f2,d⟩
theorem Inv.unpinned{pins pl:List (Addr×Obj)}{σ:St}{H:Hp}{s:Shared}(I:Inv X (pins++pl) σ H s):Inv X pins σ H s:=I.pins_of λp hp=>I.pin p (S1 _ (M6 _ hp))
theorem By{iter:Expr}{body:List Stmt}{wi:TI}{g:TG}{tb:TS}{pos:Pos}(hp:PassesOwn (model X.prog X.w) X.A X.env X.xe)(hc:X.calm=true)(hi:PI X tg iter wi)(hg:PG X tg g)(hb:PSs X body tb)
  (hs:∀x,foldedSetIterable iter X.env x=pure x:=by intro _;rfl):PS X (.For tg iter body [] pos) (Ay wi g tb):=by
 intro pins s σ H D I h
 refine wpAny_For (wX (hi pins s σ H _ I h) λv s1 h1=>wX h1 λitv s2 h2=>?_) hs
 obtain⟨it,fp,tn,J,H2,e,I2,T,st2,f2,W,⟨m0,w0⟩,turn⟩:=h2
 subst e
 have stat:∀{H':Hp},(∀b∈fp,H' b=none)->∀b∈fp,cY X pins H' b:=λhn b hb=>⟨hn b hb,(f2 b hb).2⟩
 refine codeAny_forLoop_any (λn s'=>∃i σ' H',Inv X pins σ' H' s'/\tn i s'.heap/\(∀b∈fp,H' b=none)/\W i n σ' H') ?_ m0 ⟨0,σ,H2,I2,st2,λb hb=>(f2 b hb).1,w0⟩
 rintro n s3 ⟨i,σ3,H3,I3,st3,fr3,w3⟩
 rcases turn i n σ3 H3 w3 with⟨stop,qn⟩|⟨go,N,hN,step⟩
 ·refine wpAny_passesOwn hp (wX (T.done X rfl rfl rfl hc i pins s3 σ3 H3 X.xe I3 (stat fr3) st3 stop) λr s4 ⟨hr,I4⟩=>?_)
  subst hr
  exact wpAny_execs_nil ⟨σ3,H3,I4,qn⟩
 ·refine wpAny_passesOwn hp (wX (T.item X rfl rfl rfl hc i pins s3 σ3 H3 X.xe I3 (stat fr3) st3 go) λr s4 ⟨u,hr,h4⟩=>?_)
  subst hr
  refine wpAny_passesOwn hp (wX h4 λ_ s5 ⟨x,H5,I5,r5,y5,st5,fr5⟩=>?_)
  have I5':=I5.pinned (stat fr5) (T.obj _ _ st5)
  refine wpAny_passesOwn hp (wX (hg _ s5 σ3 H5 x u _ I5' r5 (step x H5 y5)) λ_ s6 ⟨σ6,H6,I6,q6⟩=>?_)
  refine wpAny_passesOwn hp (wX (hb _ s6 σ6 H6 _ I6 q6) λf s7 q7=>?_)
  have again:∀{σ7:St}{H7:Hp},Inv X (pins++CK fp s5.heap) σ7 H7 s7->N σ7 H7->∃m,m < n/\∃i σ' H',Inv X pins σ' H' s7/\tn i s7.heap/\(∀b∈fp,H' b=none)/\W i m σ' H':=λ{σ7 H7} I7 n7=>by
   obtain⟨m',hm,w7⟩:=hN σ7 H7 n7
   refine ⟨m',hm,i+1,σ7,H7,I7.unpinned,T.keep _ _ _ st5 λb hb o e=>(I7.pin (b,o) (S1 _ (S1 _ (GZ hb e)))).1,λb hb=>?_,w7⟩
   obtain⟨o,e,d⟩:=T.obj _ _ st5 b hb
   exact (I7.pin (b,o) (S1 _ (S1 _ (GZ hb e)))).2.1
  cases f with
  | next=>obtain⟨σ7,H7,I7,n7⟩:=q7;exact again I7 n7
  | cont=>obtain⟨σ7,H7,I7,n7⟩:=q7;exact again I7 n7
  | brk=>obtain⟨σ7,H7,I7,q7⟩:=q7;exact ⟨σ7,H7,I7.unpinned,q7⟩
  | ret v=>obtain⟨x7,σ7,H7,I7,r7,q7⟩:=q7;exact ⟨x7,σ7,H7,I7.unpinned,r7,q7⟩
end
noncomputable abbrev R2:=V->V->Hp->VK->Prop
noncomputable def OpR(X:Cx)(f:Value->Value->Sem Value)(r:R2):Prop :=
 ∀(pins:List (Addr×Obj)) (s:Shared) (σ:St) (H:Hp) (x y:V) (v u:Value) (Q:VK),Inv X pins σ H s->RelV x v->RelV y u->r x y H Q ->
  wpAny (model X.prog X.w) X.A (f v u) (EP X pins σ Q) X.xe s
noncomputable def BX(X:Cx)(f:Value)(r:List V->Hp->VK->Prop):Prop :=
 ∀(pins:List (Addr×Obj)) (s:Shared) (σ:St) (H:Hp) (xs:List V) (us:List Value) (Q:VK),Inv X pins σ H s->Vals xs us->r xs H Q ->
  wpAny (model X.prog X.w) X.A (call f us) (EP X pins σ Q) X.xe s
noncomputable def RB(r:R2)(ta tb:TE):TE:=λσ H Q=>ta σ H λx H1=>tb σ H1 λy H2=>r x y H2 Q
noncomputable def yM(r:V->Hp->VK->Prop)(ta:TE):TE:=λσ H Q=>ta σ H λx H1=>r x H1 Q
noncomputable def rI(C:Int->Int->Prop)(g:Int->Int->V):R2:=λx y H Q=>∃i j,x=.int i/\y=.int j/\C i j/\Q (g i j) H
noncomputable def oH(g:Int->Int->V):R2:=λx y H Q=>∃i j,x=.int i/\y=.int j/\Q (g i j) H
section
variable {X:Cx}{a b c:Expr}{ta tb tc:TE}{pos:Pos}
theorem Cy(ha:PE X a ta)(hb:PE X b tb){pins:List (Addr×Obj)}{s:Shared}{σ:St}{H:Hp}{R:V->V->Hp->Prop}(I:Inv X pins σ H s)
  (h:ta σ H λx H1=>tb σ H1 λy H2=>R x y H2) {Q:Value->Shared->Prop}{f:Value->Value->Sem Value}
  (hf:∀v u s2 x y H2,Inv X pins σ H2 s2->RelV x v->RelV y u->R x y H2->wpAny (model X.prog X.w) X.A (f v u) Q X.xe s2) :
  wpAny (model X.prog X.w) X.A (eval a X.env) (λv s₁=>wpAny (model X.prog X.w) X.A (eval b X.env) (λu s₂=>wpAny (model X.prog X.w) X.A (f v u) Q X.xe s₂) X.xe s₁) X.xe s:=by
 refine wX (ha pins s σ H _ I h) λv s1 ⟨x,H1,I1,r1,q1⟩=>?_
 refine wX (hb pins s1 σ H1 _ I1 q1) λu s2 ⟨y,H2,I2,r2,q2⟩=>?_
 exact hf v u s2 x y H2 I2 r1 r2 q2
theorem kC{op:Operator}{r:R2}(ho:OpR X (binaryOp op) r)(ha:PE X a ta)(hb:PE X b tb):PE X (.BinOp a op b pos) (RB r ta tb):=by
 intro pins s σ H Q I h
 exact wpAny_BinOp (Cy ha hb I h λv u s2 x y H2 I2 rx ry q=>ho pins s2 σ H2 x y v u Q I2 rx ry q)
theorem mC{f:Value->Value->Sem Value}{C:Int->Int->Prop}{g:Int->Int->Int}
  (rule:∀(i j:Int) (t u:Tok) (s:Shared) (Q:Value->Shared->Prop) (E:Value->Shared->Prop),C i j->Q (.int (g i j) s.toks) { s with toks:=s.toks+1 }->wpAny (model X.prog X.w) X.A (f (.int i t) (.int j u)) Q E s) :
  OpR X f (rI C λi j=>.int (g i j)):=by
 intro pins s σ H x y v u Q I rx ry h
 obtain⟨i,j,rfl,rfl,hc,q⟩:=h
 obtain⟨t,rfl⟩:=rx
 obtain⟨t',rfl⟩:=ry
 exact rule i j t t' s _ _ hc ⟨.int (g i j),H,I.tok _,⟨_,rfl⟩,q⟩
theorem nC{f:Value->Value->Sem Value}{g:Int->Int->Int}
  (rule:∀(i j:Int) (t u:Tok) (s:Shared) (Q:Value->Shared->Prop) (E:Value->Shared->Prop),Q (.int (g i j) s.toks) { s with toks:=s.toks+1 }->wpAny (model X.prog X.w) X.A (f (.int i t) (.int j u)) Q E s) :
  OpR X f (oH λi j=>.int (g i j)):=by
 intro pins s σ H x y v u Q I rx ry h
 obtain⟨i,j,rfl,rfl,q⟩:=h
 obtain⟨t,rfl⟩:=rx
 obtain⟨t',rfl⟩:=ry
 exact rule i j t t' s _ _ ⟨.int (g i j),H,I.tok _,⟨_,rfl⟩,q⟩
theorem ux{f:Value->Value->Sem Value}{g:Int->Int->Bool}
  (rule:∀(i j:Int) (t u:Tok) (s:Shared) (Q:Value->Shared->Prop) (E:Value->Shared->Prop),Q (.bool (g i j)) s->wpAny (model X.prog X.w) X.A (f (.int i t) (.int j u)) Q E s) :
  OpR X f (oH λi j=>.bl (g i j)):=by
 intro pins s σ H x y v u Q I rx ry h
 obtain⟨i,j,rfl,rfl,q⟩:=h
 obtain⟨t,rfl⟩:=rx
 obtain⟨t',rfl⟩:=ry
 exact rule i j t t' s _ _ ⟨.bl (g i j),H,I,rfl,q⟩
noncomputable def Dy(i j:Int):Prop:=0 < j/\j < 1073741824
noncomputable def TF(i j:Int):Prop:=0<=j/\j<=1000000/\i.natAbs < 2 ^ 64
noncomputable def CMul(i j:Int):Prop:=(-(2 ^ 64) < i/\i < 2 ^ 64)\/(-(2 ^ 64) < j/\j < 2 ^ 64)
theorem CMul.ok{i j:Int}(h:CMul i j):IntMulOk i j:=by
 rcases h with⟨h1,h2⟩|⟨h1,h2⟩
 ·exact .of_left (intBits_le_64 h1 h2)
 ·exact .of_right (intBits_le_64 h1 h2)
theorem op_add:OpR X (binaryOp .Add) (oH λi j=>.int (i+j)):=nC λ_ _ _ _ _ _ _ q=>add_int q
theorem fX:OpR X (binaryOp .Sub) (oH λi j=>.int (i - j)):=nC λ_ _ _ _ _ _ _ q=>sub_int q
theorem op_mul:OpR X (binaryOp .Mult) (rI CMul λi j=>.int (i * j)):=mC λ_ _ _ _ _ _ _ hc q=>mul_int q hc.ok
theorem iY:OpR X (binaryOp .FloorDiv) (rI Dy λi j=>.int (i / j)):=mC λi j _ _ _ _ _ hc q=>by
 have h1:(0:Int) < j:=hc.1
 have h2:j < 1073741824:=hc.2
 exact floordiv_int (by omega) (by rw[Int.fdiv_eq_ediv_of_nonneg i (by omega)];exact q) (.inl (PyProof.noPylong_small (by omega)))
theorem IJ:OpR X (binaryOp .Mod) (rI (λ_ j=>0 < j) λi j=>.int (i % j)):=mC λi j _ _ _ _ _ hc q=>by
 have h1:(0:Int) < j:=hc
 exact mod_int' (by omega) (by rw[Int.fmod_eq_emod_of_nonneg i (by omega)];exact q)
theorem tH:OpR X (binaryOp .Pow) (rI TF λi j=>.int (i ^ j.toNat)):=mC λ_ _ _ _ _ _ _ hc q=>pow_int_small hc.1 hc.2.1 hc.2.2 q
theorem AY:OpR X (binaryOp .LShift) (rI TF λi j=>.int (i * 2 ^ j.toNat)):=mC λ_ _ _ _ _ _ _ hc q=>lshift_int_small hc.1 hc.2.1 hc.2.2 q
end
noncomputable def oC:V->V->Bool
 | .non,.non=>true | .non,.int _=>true | .int _,.non=>true | .non,.bl _=>true | .bl _,.non=>true | .non,.str _=>true | .str _,.non=>true
 | .int _,.int _=>true | .bl _,.bl _=>true | .str _,.str _=>true | .byt _,.byt _=>true
 | .int _,.str _=>true | .str _,.int _=>true | .bl _,.str _=>true | .str _,.bl _=>true
 | _,_=>false
noncomputable def KI:R2:=λx y H Q=>oC x y=true/\Q (.bl (decide (x=y))) H
noncomputable def LI:R2:=λx y H Q=>oC x y=true/\Q (.bl (!decide (x=y))) H
theorem jY{i j:Int}:decide (V.int i=V.int j)=(i==j):=by
 rw[B6]
 simp
theorem vq{i j:Bool}:decide (V.bl i=V.bl j)=(i==j):=by
 rw[B6]
 simp
theorem kY{i j:Str}:decide (V.str i=V.str j)=(i==j):=by
 rw[B6]
 simp
theorem GG{i j:Array UInt8}:decide (V.byt i=V.byt j)=(i.toList==j.toList):=by
 rw[B6]
 cases i
 cases j
 simp
section
variable {X:Cx}{a b c:Expr}{ta tb tc:TE}{pos:Pos}
theorem GQ{pins:List (Addr×Obj)}{σ:St}{H:Hp}{s:Shared}{Q:VK}{k k':Bool}(I:Inv X pins σ H s)(q:Q (.bl k) H)(e:k=k'):EP X pins σ Q (.bool k') s:=by
 subst e
 exact ⟨.bl k,H,I,rfl,q⟩
theorem op_eq:OpR X (compareOp .Eq) KI:=by
 intro pins s σ H x y v u Q I rx ry h
 obtain⟨hs,q⟩:=h
 cases x with
 | non =>
  cases rx
  cases y with
  | non=>cases ry;exact PySem.EqNone.eq_none_none (GQ I q (by simp))
  | bl j=>cases ry;exact PySem.EqNone.eq_none_bool (GQ I q (by simp))
  | int j=>obtain⟨t',rfl⟩:=ry;exact PySem.EqNone.eq_none_int (GQ I q (by simp))
  | str j=>obtain⟨t',rfl⟩:=ry;exact PySem.EqNone.eq_none_str (GQ I q (by simp))
  | _=>exact absurd (show false=true from hs) J1
 | bl i =>
  cases rx
  cases y with
  | non=>cases ry;exact PySem.EqNone.eq_bool_none (GQ I q (by simp))
  | bl j=>cases ry;exact eq_bool (GQ I q vq)
  | str j=>obtain⟨t',rfl⟩:=ry;exact PySem.EqMixed.eq_bool_str (GQ I q (by simp))
  | _=>exact absurd (show false=true from hs) J1
 | int i =>
  obtain⟨t,rfl⟩:=rx
  cases y with
  | non=>cases ry;exact PySem.EqNone.eq_int_none (GQ I q (by simp))
  | int j=>obtain⟨t',rfl⟩:=ry;exact eq_int (GQ I q jY)
  | str j=>obtain⟨t',rfl⟩:=ry;exact PySem.EqMixed.eq_int_str (GQ I q (by simp))
  | _=>exact absurd (show false=true from hs) J1
 | str i =>
  obtain⟨t,rfl⟩:=rx
  cases y with
  | non=>cases ry;exact PySem.EqNone.eq_str_none (GQ I q (by simp))
  | bl j=>cases ry;exact PySem.EqMixed.eq_str_bool (GQ I q (by simp))
  | int j=>obtain⟨t',rfl⟩:=ry;exact PySem.EqMixed.eq_str_int (GQ I q (by simp))
  | str j=>obtain⟨t',rfl⟩:=ry;exact eq_str (GQ I q kY)
  | _=>exact absurd (show false=true from hs) J1
 | byt i =>
  obtain⟨t,rfl⟩:=rx
  cases y with
  | byt j=>obtain⟨t',rfl⟩:=ry;exact PySem.W.eq_bytes (GQ I q GG)
  | _=>exact absurd (show false=true from hs) J1
 | _=>cases y<;>exact absurd (show false=true from hs) J1
theorem op_ne:OpR X (compareOp .NotEq) LI:=by
 intro pins s σ H x y v u Q I rx ry h
 obtain⟨hs,q⟩:=h
 cases x with
 | non =>
  cases rx
  cases y with
  | non=>cases ry;exact PySem.EqNone.ne_none_none (GQ I q (by simp))
  | bl j=>cases ry;exact PySem.EqNone.ne_none_bool (GQ I q (by simp))
  | int j=>obtain⟨t',rfl⟩:=ry;exact PySem.EqNone.ne_none_int (GQ I q (by simp))
  | str j=>obtain⟨t',rfl⟩:=ry;exact PySem.EqNone.ne_none_str (GQ I q (by simp))
  | _=>exact absurd (show false=true from hs) J1
 | bl i =>
  cases rx
  cases y with
  | non=>cases ry;exact PySem.EqNone.ne_bool_none (GQ I q (by simp))
  | bl j=>cases ry;exact ne_bool (GQ I q (congrArg not vq))
  | str j=>obtain⟨t',rfl⟩:=ry;exact PySem.EqMixed.ne_bool_str (GQ I q (by simp))
  | _=>exact absurd (show false=true from hs) J1
 | int i =>
  obtain⟨t,rfl⟩:=rx
  cases y with
  | non=>cases ry;exact PySem.EqNone.ne_int_none (GQ I q (by simp))
  | int j=>obtain⟨t',rfl⟩:=ry;exact ne_int (GQ I q (congrArg not jY))
  | str j=>obtain⟨t',rfl⟩:=ry;exact PySem.EqMixed.ne_int_str (GQ I q (by simp))
  | _=>exact absurd (show false=true from hs) J1
 | str i =>
  obtain⟨t,rfl⟩:=rx
  cases y with
  | non=>cases ry;exact PySem.EqNone.ne_str_none (GQ I q (by simp))
  | bl j=>cases ry;exact PySem.EqMixed.ne_str_bool (GQ I q (by simp))
  | int j=>obtain⟨t',rfl⟩:=ry;exact PySem.EqMixed.ne_str_int (GQ I q (by simp))
  | str j=>obtain⟨t',rfl⟩:=ry;exact ne_str (GQ I q (congrArg not kY))
  | _=>exact absurd (show false=true from hs) J1
 | byt i =>
  obtain⟨t,rfl⟩:=rx
  cases y with
  | byt j=>obtain⟨t',rfl⟩:=ry;exact PySem.W.ne_bytes (GQ I q (congrArg not GG))
  | _=>exact absurd (show false=true from hs) J1
 | _=>cases y<;>exact absurd (show false=true from hs) J1
theorem nU:OpR X (compareOp .Lt) (oH λi j=>.bl (decide (i < j))):=ux λ_ _ _ _ _ _ _ q=>lt_int q
theorem pC:OpR X (compareOp .LtE) (oH λi j=>.bl (decide (i<=j))):=ux λ_ _ _ _ _ _ _ q=>le_int q
theorem cV:OpR X (compareOp .Gt) (oH λi j=>.bl (decide (j < i))):=ux λ_ _ _ _ _ _ _ q=>gt_int q
theorem qC:OpR X (compareOp .GtE) (oH λi j=>.bl (decide (j<=i))):=ux λ_ _ _ _ _ _ _ q=>ge_int q
theorem OpR.or{f:Value->Value->Sem Value}{r r':R2}(h:OpR X f r)(h':OpR X f r'):OpR X f (λx y H Q=>r x y H Q\/r' x y H Q):=by
 intro pins s σ H x y v u Q I rx ry q
 rcases q with q|q
 ·exact h pins s σ H x y v u Q I rx ry q
 ·exact h' pins s σ H x y v u Q I rx ry q
theorem wq(b:Expr){op:CmpOp}(h:op≠.In:=by decide)(h2:op≠.NotIn:=by decide):behindInMarks op b=false:=by
 have e1:(op==CmpOp.In)=false:=by cases op<;>first|rfl|exact absurd rfl h
 have e2:(op==CmpOp.NotIn)=false:=by cases op<;>first|rfl|exact absurd rfl h2
 cases b<;>simp[behindInMarks,e1,e2]
theorem vx{op:CmpOp}{r:R2}(ho:OpR X (compareOp op) r)(ha:PE X a ta)(hb:PE X b tb)(hm:behindInMarks op b=false):PE X (.Compare a [op] [b] pos) (RB r ta tb):=by
 intro pins s σ H Q I h
 exact wpAny_Compare1 (Cy ha hb I h λv u s2 x y H2 I2 rx ry q=>ho pins s2 σ H2 x y v u Q I2 rx ry q) hm
noncomputable def xq(t:TE):TT:=λσ H Q=>t σ H λx H'=>∃k,x=.bl k/\Q k H'
theorem xx{op:CmpOp}{r:R2}(ho:OpR X (compareOp op) r)(ha:PE X a ta)(hb:PE X b tb)(hm:behindInMarks op b=false):PT X (.Compare a [op] [b] pos) (xq (RB r ta tb)):=by
 intro pins s σ H Q I h
 refine wpAny_isTrue_Compare1 (wX (ha pins s σ H _ I h) λv s1 ⟨x,H1,I1,r1,q1⟩=>wX (hb pins s1 σ H1 _ I1 q1) λu s2 ⟨y,H2,I2,r2,q2⟩ =>
   wX (ho pins s2 σ H2 x y v u _ I2 r1 r2 q2) λc s3 ⟨z,H3,I3,r3,k,e,q3⟩=>?_) hm
 subst e
 cases r3
 exact wpAny_truthy_bool ⟨H3,I3,q3⟩
theorem CV:(sizeLine:Nat) < 2 ^ 63:=by rw[sizeLine_eq];decide
theorem aJ{x:V}{us:List Value}(r:Vals [x] us):∃u,us=[u]/\RelV x u:=by
 cases r with
 | cons r1 r2=>cases r2;exact ⟨_,rfl,r1⟩
theorem BY{x y:V}{us:List Value}(r:Vals [x,y] us):∃u w',us=[u,w']/\RelV x u/\RelV y w':=by
 cases r with
 | cons r1 r2 =>
  cases r2 with
  | cons r3 r4=>cases r4;exact ⟨_,_,rfl,r1,r3⟩
theorem CY:BX X (.builtin "abs") (λxs H Q=>∃i,xs=[.int i]/\Q (.int (if i < 0 then -i else i)) H):=by
 intro pins s σ H xs us Q I r h
 obtain⟨i,rfl,q⟩:=h
 obtain⟨u,rfl,t,rfl⟩:=aJ r
 exact call_abs_int λu tk=>⟨.int (if i < 0 then -i else i),H,I.tok _,⟨_,rfl⟩,q⟩
end
structure ObjM(h:Heap)(x dx C:Addr)(mA:Str->Option Value):Prop where
 obj:h.get? x=some (X9 C dx)
 ns:h.Ns1 dx mA
 ne:dx≠x
section
variable {prog:Program}{w:World}{A:Around}{E:Value->Shared->Prop}{s:Shared}{K:J0}{x dx C f:Addr}{mA:Str->Option Value}{name:Str}{v:Value}
end
section
variable {P:Program}{w:World}{H H':Hp}{h h':Heap}{a C dx:Addr}{fs fs':List (Str×V)}
end
structure Cls(K:J0)(C:Addr):Prop where
 pg:PySem.W.plainGet K C Str.empty=true
 hd:PySem.W.hasDictIn K C=true
 po:PySem.W.plainOver K C=true
 sa:i7 K (.ref C) "__setattr__"=some (some (.builtin "object.__setattr__"))
structure Con(K:J0)(C:Addr)(f:Str)(v:V)(u:Value):Prop where
 at_:i7 K (.ref C) f=some (some u)
 rel:RelV v u
 get:U9 K u "__get__"=some none
 cp:PySem.W.copiedNames.contains f=false
structure Meth(K:J0)(C:Addr)(m:Str)(f:Addr):Prop where
 at_:i7 K (.ref C) m=some (some (.ref f))
 fn:PySem.W.isFn K (.ref f)=true
 kp:O5 K (.ref f)=true
section
variable {X:Cx}{pins:List (Addr×Obj)}{σ:St}{H:Hp}{s:Shared}{a C dx:Addr}{fs:List (Str×V)}{f:Str}{v:V}{A:Around}{E:Value->Shared->Prop}
end
section
variable {X:Cx}{o e value:Expr}{f:Str}{pos pos' tpos:Pos}{ta tv:TE}
end
section
variable {X:Cx}{pins:List (Addr×Obj)}{σ:St}{H:Hp}{s:Shared}{A:Around}{E:Value->Shared->Prop}{Q:Value->Shared->Prop}{c:Value}{b:Bool}
inductive TyOf (K:J0) (H:Hp):V->Value->Prop where
 | non:TyOf K H .non (.type "NoneType")
 | bl (x:Bool):TyOf K H (.bl x) (.type "bool")
 | int (i:Int):TyOf K H (.int i) (.type "int")
 | str (x:Str):TyOf K H (.str x) (.type "str")
 | flt (x:UInt64):TyOf K H (.flt x) (.type "float")
 | lst {a:Addr}{xs:List V} (e:H a=some (.lst xs)):TyOf K H (.ref a) (.type "list")
 | frz {a:Addr}{o:Obj}{xs:List V} (e:H a=some (.frz o (.lst xs))):TyOf K H (.ref a) (.type "list")
 | tup {a:Addr}{xs:List V} (e:H a=some (.tup xs)):TyOf K H (.ref a) (.type "tuple")
 | dK {a:Addr}{kvs:List (XJ×V)} (e:H a=some (.dK kvs)):TyOf K H (.ref a) (.type "dict")
 | dT {a:Addr}{kvs:List (List XJ×V)} (e:H a=some (.dT kvs)):TyOf K H (.ref a) (.type "dict")
 | ins {a C dx:Addr}{fs:List (Str×V)} (e:H a=some (.ins C dx fs)) (cl:Cls K C) (ha:i7 K (.ref C) "__class__"=some (some (.builtin "object.__class__")))
   (hn:U9 K (.builtin "object.__class__") "__get__"=some (some (.builtin "getset_descriptor.__get__"))) (htk:PySem.W.takesIn K (.builtin "object.__class__")=some true)
   (hm:PySem.W.mroIn K C (.type "object")=some true):TyOf K H (.ref a) (.ref C)
end
structure Room(k:Nat)(A:Around):Prop where
 hd:A.handled=none
 dp:A.depth+3 * k+5 < recursionLimit
 un:A.units+16 * k+200 < cLine
 gd:A.guards=some []
theorem Room.mono{j k:Nat}{A:Around}(r:Room k A)(h:j<=k):Room j A:=⟨r.hd,by have:=r.dp;omega,by have:=r.un;omega,r.gd⟩
theorem Room.deeper{k:Nat}{A:Around}(r:Room (k+1) A)(env:Env):Room k (A.deeper env) :=
 ⟨r.hd,by have:=r.dp;show A.depth+1+3 * k+5 < _;omega,by have:=r.un;show A.units+3+16 * k+200 < _;omega,r.gd⟩
theorem Room.depth{k:Nat}{A:Around}(r:Room k A):A.depth < recursionLimit:=by have:=r.dp;omega
theorem Room.units{k:Nat}{A:Around}(r:Room k A):A.units+64 < cLine:=by have:=r.un;omega
noncomputable def yq:TA:=λ_ H Q=>Q [] H
noncomputable def zq(ta:TE)(tr:TA):TA:=λσ H Q=>ta σ H λx H1=>tr σ H1 λxs H2=>Q (x :: xs) H2
section
variable {X:Cx}{e:Expr}{es:List Expr}{te:TE}{t:TA}{pos:Pos}
theorem DV:PA X [] yq:=λ_ _ _ _ H Q I h=>Calls.spliced_nil ⟨[],H,I,.nil,h⟩
theorem EV(ha:PE X e te)(hr:PA X es t)(hs:starEach (e :: es) X.env=(false,eval e X.env) :: starEach es X.env:=by rfl):PA X (e :: es) (zq te t):=by
 intro pos pins s σ H Q I h
 rw[hs]
 show wpAny _ _ (spliced ((false,eval e X.env) :: backTo pos (starEach es X.env))) _ _ s
 refine Calls.spliced_cons (wX (ha pins s σ H _ I h) λu s1 ⟨x,H1,I1,r1,q1⟩=>?_)
 exact wX (hr pos pins s1 σ H1 _ I1 q1) λus s2 ⟨xs,H2,I2,r2,q2⟩=>⟨x :: xs,H2,I2,.cons r1 r2,q2⟩
noncomputable def Aq(t:TA):TE:=λσ H Q=>t σ H λxs H1=>xs.length<=sizeLine/\∀p,H1 p=none->Q (.ref p) (NQ H1 p (.tup xs))
noncomputable def Ey(t:TA):TE:=λσ H Q=>t σ H λxs H1=>xs.length<=sizeLine/\∀p,H1 p=none->Q (.ref p) (NQ H1 p (.lst xs))
theorem Bq{x1}(h:PA X es t):PE X (.Tuple es x1 pos) (Aq t):=by
 intro pins s σ H Q I hq
 refine wpAny_Tuple_spliced (wX (h pos pins s σ H _ I hq) λus s1 ⟨xs,H1,I1,r,z,q⟩=>⟨by rw[<- r.length];exact z,?_⟩)
 have hf:H1 s1.heap.objs.size=none:=I1.hok.fresh (R0 _)
 refine ⟨.ref s1.heap.objs.size,NQ H1 s1.heap.objs.size (.tup xs),I1.laid (t':=s1.toks) (λb u e=>j0 _ e) (R0 _) ?_,rfl,q _ hf⟩
 exact ⟨z,us,r,⟨_,G0 _ rfl,rfl,_,rfl,rfl⟩⟩
theorem Fy(h:PA X es t):PE X (.List es pos) (Ey t):=by
 intro pins s σ H Q I hq
 refine wpAny_List_spliced (wX (h pos pins s σ H _ I hq) λus s1 ⟨xs,H1,I1,r,z,q⟩=>⟨by rw[<- r.length];exact z,?_⟩)
 have hf:H1 s1.heap.objs.size=none:=I1.hok.fresh (R0 _)
 refine ⟨.ref s1.heap.objs.size,NQ H1 s1.heap.objs.size (.lst xs),I1.laid (t':=s1.toks) (λb u e=>j0 _ e) (R0 _) ?_,rfl,q _ hf⟩
 exact ⟨z,us,0,r,G0 _ rfl⟩
end
noncomputable abbrev Sp:=List V->Hp->VK->XK->Prop
noncomputable abbrev Cq:=List Env->Hp->Shared->XK->Value->Shared->Prop
structure Env0(P:Program)(w:World)(K:J0)(mg:Str->Option Value)(base:Heap)(A:Around)(outer:List Env)(s:Shared)(H:Hp):Prop where
 frames:A.frames=some outer
 mod:Mod K mg base
 bs:∀b o,base.get? b=some o->s.heap.get? b=some o/\H b=none
 bsz:base.objs.size<=s.heap.objs.size
 funs:s.heap.FunFrames base outer
 frf:∀b∈CG outer,H b=none
 hok:HOk P w H s.heap
 bare:AllBare s.gens
noncomputable def CE(outer:List Env)(P:Program)(w:World)(H:Hp)(s:Shared)(Q:VK)(u:Value)(s':Shared):Prop :=
 ∃v H',s'.os=s.os/\AllBare s'.gens/\Un (CG outer) [] H H' s.heap s'.heap/\HOk P w H' s'.heap/\RelV v u/\Q v H'
noncomputable def CR(CX:Cq)(outer:List Env)(P:Program)(w:World)(H:Hp)(s:Shared)(Q:VK)(E:XK)(r:Result)(s':Shared):Prop :=
 match r with
 | .ok (.ret u)=>CE outer P w H s Q u s'
 | .ok _=>False
 | .error e=>CX outer H s E e s'
structure FnOk(P:Program)(w:World)(K:J0)(mg:Str->Option Value)(base:Heap)(CX:Cq)(k:Nat)(f:Addr)(fd:FuncData)(ps:List Str)(sp:Sp):Prop where
 len:∀vs H Q E,sp vs H Q E->vs.length=ps.length
 run:∀(A:Around) (outer:List Env) (s:Shared) (H:Hp) (args:Args) (us:List Value) (vs:List V) (Q:VK) (E:XK),Room k A->Env0 P w K mg base A outer s H->BindsTo s fd args (ps.zip us)->Vals vs us->sp vs H Q E ->
  codeAny (model P w) A (.call (.ref f) args) (CR CX outer P w H s Q E) s
section
variable {X:Cx}{pins:List (Addr×Obj)}{σ:St}{H:Hp}{s s':Shared}
theorem Inv.env0(I:Inv X pins σ H s):Env0 X.prog X.w X.K X.mg X.base X.A X.stack s H :=
 ⟨I.ok.frames,I.ok.mod,I.bs,L1 I.ok.bsz I.sz,I.stack,I.stkFree,I.hok,I.bare⟩
theorem Inv.after{Q:VK}{u:Value}(I:Inv X pins σ H s)(h:CE X.stack X.prog X.w H s Q u s'):EP X pins σ Q u s':=by
 obtain⟨v,H',os,bare,un,hok,r,q⟩:=h
 obtain⟨hh,g,d,t,os'⟩:=s'
 obtain rfl:os'=s.os:=os
 exact ⟨v,H',I.call (h':=hh) (g':=g) (d':=d) (t':=t) (ch:=[]) un hok bare (λb z=>absurd z (by simp)),r,q⟩
end
noncomputable def cK(sp:Sp)(dvs:List V)(E:XK)(t:TA):TE:=λσ H Q=>t σ H λvs H1=>sp (vs++dvs) H1 Q E
noncomputable def Binds(K:J0)(fd:FuncData)(ps:List Str)(ds:List Value):Prop :=
 ∀(s:Shared) (us:List Value),K.In s.heap->(us++ds).length=ps.length->BindsTo s fd ⟨us,[]⟩ (ps.zip (us++ds))
theorem Binds.all{K:J0}{fd:FuncData}{ps:List Str}(h:∀us:List Value,us.length=ps.length->bindArgs fd ⟨us,[]⟩=pure (ps.zip us)):Binds K fd ps []:=λs us _ hl=>by
 rw[Q1]at hl ⊢
 exact .of_eq (h us hl)
noncomputable def uH(CX:Cq)(X:Cx)(E:XK):Prop:=∀(pins:List (Addr×Obj)) (σ:St) (H:Hp) (s:Shared) (e:Value) (s':Shared),Inv X pins σ H s->CX X.stack H s E e s'->X.xe e s'
section
variable {X:Cx}{CX:Cq}{k:Nat}{f C:Addr}{fd:FuncData}{ps:List Str}{sp:Sp}{dvs:List V}{ds:List Value}{E:XK}{x m:Str}{p pos apos:Pos}{e o:Expr}{es:List Expr}{ta:TE}{t:TA}
theorem Gy{pins:List (Addr×Obj)}{σ:St}{H:Hp}{s:Shared}{Q:VK}{us:List Value}{vs:List V}(F:FnOk X.prog X.w X.K X.mg X.base CX k f fd ps sp)(hr:Room k X.A)(hb:Binds X.K fd ps ds)(hd:Vals dvs ds)(hx:uH CX X E)
  (I:Inv X pins σ H s) (r:Vals vs us) (h:sp (vs++dvs) H Q E):wpAny (model X.prog X.w) X.A (call (.ref f) us) (EP X pins σ Q) X.xe s:=by
 have r2:Vals (vs++dvs) (us++ds):=r.append hd
 have hl:(us++ds).length=ps.length:=by rw[<- r2.length];exact F.len _ _ _ _ h
 refine wpAny_call (codeAny_mono (F.run X.A X.stack s H ⟨us,[]⟩ (us++ds) (vs++dvs) Q E hr I.env0 (hb s us I.kIn hl) r2 h) λr s' hq=>?_)
 cases r with
 | error e=>exact hx pins σ H s e s' I hq
 | ok fl =>
  cases fl with
  | ret u=>exact I.after hq
  | next=>exact False.elim hq
  | brk=>exact False.elim hq
  | cont=>exact False.elim hq
theorem yx(F:FnOk X.prog X.w X.K X.mg X.base CX k f fd ps sp)(hr:Room k X.A)(hg:Gl X x)(hm:X.mg x=some (.ref f))(hk:O5 X.K (.ref f)=true)(hb:Binds X.K fd ps ds)(hd:Vals dvs ds)(hx:uH CX X E)
  (ha:PA X (e :: es) t) (hdb:(x==("__debug__":Str))=false:=by decide) (he:starEach (e :: es) X.env=(false,eval e X.env) :: starEach es X.env:=by rfl) (hpl:(backTo pos (starEach es X.env)).any (·.1)=false:=by rfl) :
  PE X (.Call (.Name x p) (e :: es) [] pos) (cK sp dvs E t):=by
 intro pins s σ H Q I h
 refine wpAny_Call_Name_kw (jx I hg hm ?_ hdb)
 refine PySem.W.callWith_K (h₀:=X.base) I.ok.mod.kin hk (wX (ha pos pins s σ H _ I h) λus s1 ⟨vs,H1,I1,r,q⟩=>⟨I1.kIn,?_⟩) he hpl
 exact Gy F hr hb hd hx I1 r q
structure Mk(K:J0)(C f:Addr):Prop where
 makes:PySem.W.makesIn K C=true
 init:i7 K (.ref C) "__init__"=some (some (.ref f))
 fn:PySem.W.isFn K (.ref f)=true
 kp:O5 K (.ref C)=true
end
section
variable {X:Cx}{CX:Cq}{k:Nat}{f C:Addr}{fd:FuncData}{ps ks:List Str}{sp:Sp}{E:XK}{x m:Str}{p pos apos kpos:Pos}{e o:Expr}{es:List Expr}{kws:List Keyword}{te ta:TE}{t tk:TA}{nm:Option Str}
structure KBinds(K:J0)(fd:FuncData)(ps ks:List Str)(g:List Value->List Value->List Value)(gV:List V->List V->List V):Prop where
 to:∀(s:Shared) (us ws:List Value),K.In s.heap->(g us ws).length=ps.length->BindsTo s fd ⟨us,ks.zip ws⟩ (ps.zip (g us ws))
 rel:∀{vs:List V}{us:List Value}{zs:List V}{ws:List Value},Vals vs us->Vals zs ws->Vals (gV vs zs) (g us ws)
variable {g:List Value->List Value->List Value}{gV:List V->List V->List V}
end
structure FnScope(N P:List Str)(sc:Scope):Prop where
 kind:sc.kind=.function
 co:sc.isCoroutine=false
 gen:sc.isGenerator=false
 nd:N.Nodup
 pre:N.take P.length=P
 par:∀x∈P,sc.names.lookup x=some .local\/sc.names.lookup x=some .cell
 nofree:∀y∈sc.names,y.2≠.free
theorem eV{kindOf:Str->Option NameKind}{x:Str}:∀{binds:List (Str×Value)}{m:Str->Option Value},(∀v,(x,v)∉binds)->bindL kindOf binds m x=m x
 | [],_,_=>rfl
 | (n,v) :: r,m,h=>by
  unfold bindL
  rw[eV λw hw=>h w (K0 _ hw)]
  split
  ·have:x≠n:=by rintro rfl;exact h v O0
   simp[this]
  ·rfl
theorem fV{kindOf:Str->Option NameKind}{x:Str}:∀{binds:List (Str×Value)}{m:Str->Option Value},(∀v,(x,v)∉binds)->bindC kindOf binds m x=m x
 | [],_,_=>rfl
 | (n,v) :: r,m,h=>by
  unfold bindC
  rw[fV λw hw=>h w (K0 _ hw)]
  split
  ·rfl
  ·have:x≠n:=by rintro rfl;exact h v O0
   simp[this]
theorem hV{kindOf:Str->Option NameKind}{x:Str}{v:Value}:∀{P:List Str}{vs:List Value}{i:Nat}{m:Str->Option Value},P.Nodup->P[i]?=some x->vs[i]?=some v->kindOf x=some .local ->
  bindL kindOf (P.zip vs) m x=some v
 | [],_,_,_,_,h,_,_=>by simp at h
 | _ :: _,[],_,_,_,_,h,_=>by simp at h
 | p :: P,w :: vs,0,m,nd,h1,h2,hk=>by
  simp at h1 h2;subst h1;subst h2
  show bindL kindOf ((p,w) :: P.zip vs) m p=_
  unfold bindL
  rw[eV λv hv=>(T5.mp nd).1 (V6 hv).1,if_pos hk]
  simp
 | p :: P,w :: vs,i+1,m,nd,h1,h2,hk=>by
  show bindL kindOf ((p,w) :: P.zip vs) m x=_
  unfold bindL
  exact hV (i:=i) (T5.mp nd).2 (by simpa using h1) (by simpa using h2) hk
theorem iV{kindOf:Str->Option NameKind}{x:Str}{v:Value}:∀{P:List Str}{vs:List Value}{i:Nat}{m:Str->Option Value},P.Nodup->P[i]?=some x->vs[i]?=some v->kindOf x≠some .local ->
  bindC kindOf (P.zip vs) m x=some v
 | [],_,_,_,_,h,_,_=>by simp at h
 | _ :: _,[],_,_,_,_,h,_=>by simp at h
 | p :: P,w :: vs,0,m,nd,h1,h2,hk=>by
  simp at h1 h2;subst h1;subst h2
  show bindC kindOf ((p,w) :: P.zip vs) m p=_
  unfold bindC
  rw[fV λv hv=>(T5.mp nd).1 (V6 hv).1,if_neg hk]
  simp
 | p :: P,w :: vs,i+1,m,nd,h1,h2,hk=>by
  show bindC kindOf ((p,w) :: P.zip vs) m x=_
  unfold bindC
  exact iV (i:=i) (T5.mp nd).2 (by simpa using h1) (by simpa using h2) hk
noncomputable def start(N:List Str)(vs:List V):St:=vs.map some++E2 (N.length - vs.length) none
noncomputable def oU(CX:Cq)(P:Program)(w:World)(K:J0)(mg:Str->Option Value)(base:Heap)(N:List Str)(qual:Str)(scope:Scope)(f:Addr)(cd:Value)(A:Around)(outer:List Env)(s:Shared)(H:Hp)(E:XK):Cx where
 prog:=P
 w:=w
 K:=K
 mg:=mg
 base:=base
 A:=A.deeper (envOfC qual scope s.heap.objs.size f cd)
 N:=N
 s₀:=s
 H₀:=H
 env:=envOfC qual scope s.heap.objs.size f cd
 outer:=outer
 stack:=envOfC qual scope s.heap.objs.size f cd :: outer
 ex:=[]
 calm:=true
 fn:=λ_=>true
 pn:=[]
 xe:=λe s'=>wpAny (model P w) (A.deeper (envOfC qual scope s.heap.objs.size f cd)) (leaving (envOfC qual scope s.heap.objs.size f cd) e) (λ_ s''=>CX outer H s E e s'') (λe' s''=>CX outer H s E e' s'') s'
theorem eK{sc:Scope}{n:Nat}{x:Str}(h:sc.names.lookup x=some .cell):∃c,(cellsFrom n sc.names []).lookup x=some c:=by
 have q:=V8 sc.names n [] (.inl h)
 exact Option.isSome_iff_exists.mp q
theorem UF{CX:Cq}{P:Program}{w:World}{K:J0}{mg:Str->Option Value}{base:Heap}{N ps:List Str}{qual:Str}{scope:Scope}{f:Addr}{cd:Value}{A:Around}{outer:List Env}{s s1:Shared}{H:Hp}{E:XK}{us:List Value}{vs:List V}
  (S:FnScope N ps scope) (hd:A.handled=none) (e0:Env0 P w K mg base A outer s H) (hl:vs.length=ps.length) (r:Vals vs us)
  (x:InCallC s s.heap.objs.size (bindL (envOfC qual scope s.heap.objs.size f cd).kindOf (ps.zip us) λ_=>none) (cellsFrom (s.heap.objs.size+1) scope.names []) (bindC (envOfC qual scope s.heap.objs.size f cd).kindOf (ps.zip us) λ_=>none) s1) :
  Inv (oU CX P w K mg base N qual scope f cd A outer s H E) [] (start N vs) H s1:=by
 have hpl:ps.length<=N.length:=by have:=congrArg L4 S.pre;rw[Z3]at this;omega
 obtain⟨h1,tk,rfl,hk⟩:=x.done
 have noA:∀b:Addr,b∉(oU CX P w K mg base N qual scope f cd A outer s H E).ex:=λb z=>absurd (show b∈([]:List Addr) from z) (by simp)
 refine ⟨⟨e0.mod,S.kind,rfl,rfl,R0 _,λy z c h1 h2=>?_,λy hy=>?_,λy c _ h=>?_,λ_=>hd,Around.frames_deeper e0.frames,.inr ⟨rfl,rfl⟩,λb z=>absurd z (noA b),e0.bs,e0.bsz,λb _ _=>noA b,λb z=>absurd z (noA b),e0.funs,e0.frf⟩,
   rfl,e0.bare,Un.kept hk,⟨_,x.toInCall.ns,λi y v h1 h2 h3=>?_⟩,λy c h=>⟨_,x.cell y c h⟩,e0.hok.fresh (R0 _),λy c h=>?_,λp hp=>absurd (show p∈([]:List (Addr×Obj)) from hp) (by simp),e0.hok.kept hk,?_⟩
 ·exact name_of_addr x.apart (PySem.mem_of_lookup h1) (PySem.mem_of_lookup h2)
 ·have hy:scope.names.lookup y=some .cell\/scope.names.lookup y=some .free:=hy
  rcases hy with hy|hy
  ·exact eK hy
  ·exact absurd rfl (S.nofree _ (PySem.mem_of_lookup hy))
 ·exact J5 (x.above y c (PySem.mem_of_lookup h))
 ·have hi:i < vs.length:=by
   unfold start at h2
   by_cases hi:i < vs.length
   ·exact hi
   ·rw[Y1 (by simpa using hi)]at h2
    rw[O8]at h2
    split at h2<;>cases h2
  have ha:vs[i]?=some v:=by
   unfold start at h2
   rw[B3 (by simpa using hi),X0]at h2
   cases e:vs[i]? with
   | none=>rw[e]at h2;cases h2
   | some a=>rw[e]at h2;cases h2;rfl
  obtain⟨u,hu,rv⟩:=r.get ha
  have hp:ps[i]?=some y:=by
   rw[<- S.pre,J8 (by omega)];exact h1
  have ndP:ps.Nodup:=by rw[<- S.pre];exact S.nd.sublist (v8 _ _)
  refine ⟨u,rv,?_⟩
  rcases S.par y (W2 hp) with k|k
  ·exact .inl ⟨k,hV ndP hp hu k⟩
  ·obtain⟨c,e⟩:=eK (n:=s.heap.objs.size+1) k
   refine .inr ⟨.inl k,c,e,?_⟩
   have q:=x.cell y c e
   rw[iV ndP hp hu (by show scope.names.lookup y≠_;rw[k];decide)]at q
   exact q
 ·exact e0.hok.fresh (J5 (x.above y c (PySem.mem_of_lookup h)))
 ·unfold start
  show _=N.length
  rw[A1,A0,List.length_replicate]
  omega
theorem rC{CX:Cq}{P:Program}{w:World}{K:J0}{mg:Str->Option Value}{base:Heap}{k:Nat}{f:Addr}{name qual:Str}{params:Arguments}{body:List Stmt}{scope:Scope}{dV kV doc pm cdv ct oc:Value}{an od:Option Addr}
  {osl:Array (Option Value)}{N ps:List Str}{sp:Sp} (lk:K.lookup f=some ⟨oc,od,.func (V5 name qual params body scope dV kV doc pm an cdv ct),osl⟩) (hcd:j8 K cdv qual=true) (S:FnScope N ps scope)
  (len:∀vs H Q E,sp vs H Q E->vs.length=ps.length)
  (hbody:∀(A:Around) (outer:List Env) (s:Shared) (H:Hp) (vs:List V) (Q:VK) (E:XK),Room k (A.deeper (envOfC qual scope s.heap.objs.size f cdv))->sp vs H Q E ->
    ∃t,PSs (oU CX P w K mg base N qual scope f cdv A outer s H E) body t/\t { nx:=λ_ H'=>Q .non H',rt:=Q } (start N vs) H) :
  FnOk P w K mg base CX (k+1) f (V5 name qual params body scope dV kV doc pm an cdv ct) ps sp:=by
 refine ⟨len,λA outer s H args us vs Q E hr e0 hb r hsp=>?_⟩
 have hl:=len _ _ _ _ hsp
 have KX:K.In s.heap:=e0.mod.kin.keeps λb o e=>(e0.bs b o e).1
 have lim:s.heap.NoLimit:=e0.mod.nolimit.keeps λb o e=>(e0.bs b o e).1
 have hkind:∀y∈ps.zip us,scope.names.lookup y.1=some .local\/(scope.names.lookup y.1=some .cell/\((cellsFrom (s.heap.objs.size+1) scope.names []).lookup y.1).isSome=true):=λ⟨n,v⟩ hy=>by
  rcases S.par n (V6 hy).1 with q|q
  ·exact .inl q
  ·exact .inr ⟨q,V8 _ _ _ (.inl q)⟩
 refine codeAny_call_function hr.depth (KX _ _ lk) rfl S.co S.gen rfl (PySem.W.codeRec_of KX hcd) (hb _ _ _ _ ?_)
 refine wpAny_newFunctionEnv_cells S.kind hkind λenv he s1 x=>?_
 subst he
 refine ⟨lim.keeps x.toInCall.keep,codeAny_func ?_⟩
 obtain⟨t,ht,hq⟩:=hbody A outer s H vs Q E (hr.deeper _) hsp
 have I:Inv (oU CX P w K mg base N qual scope f cdv A outer s H E) [] (start N vs) H s1:=UF S hr.hd e0 hl r x
 refine wpAny_mono (ht [] s1 (start N vs) H _ I hq) (λfl s' hs=>?_) λe s' hs=>hs
 have fin:∀{σ':St}{H':Hp}{v:V}{u:Value},Inv (oU CX P w K mg base N qual scope f cdv A outer s H E) [] σ' H' s'->RelV v u->Q v H'->CE outer P w H s Q u s' :=
  λ{σ' H' v u} J rv q=>⟨v,H',J.os,J.bare,J.base,J.hok,rv,q⟩
 cases fl with
 | ret u =>
  obtain⟨v,σ',H',J,rv,q⟩:=hs
  exact fin J rv q
 | next =>
  obtain⟨σ',H',J,q⟩:=hs
  exact fin (v:=V.non) (u:=A3) J rfl q
 | brk =>
  obtain⟨_,_,_,q⟩:=hs
  exact False.elim q
 | cont =>
  obtain⟨_,_,_,q⟩:=hs
  exact False.elim q
section
variable {X:Cx}{x:Str}{p pos:Pos}{e:Expr}{es:List Expr}{t:TA}{id T:String}{r:List V->Hp->VK->Prop}
noncomputable def wL(r:List V->Hp->VK->Prop)(t:TA):TE:=λσ H Q=>t σ H λvs H1=>r vs H1 Q
theorem pU(hc:BX X (.builtin id) r)(hg:Gl X x)(hm:X.mg x=none)(hv:bootBuiltins x=some (.builtin id))(ha:PA X (e :: es) t)(hn:x ≠ "__name__":=by decide)(hdb:(x==("__debug__":Str))=false:=by decide)
  (he:starEach (e :: es) X.env=(false,eval e X.env) :: starEach es X.env:=by rfl) (hpl:(backTo pos (starEach es X.env)).any (·.1)=false:=by rfl):PE X (.Call (.Name x p) (e :: es) [] pos) (wL r t):=by
 intro pins s σ H Q I h
 refine wpAny_Call_Name_kw (HJ I hg hm hv ?_ hn hdb)
 exact PyProof.Rows.callWith_builtin1 (wX (ha pos pins s σ H _ I h) λus s1 ⟨vs,H1,I1,r1,q1⟩=>hc pins s1 σ H1 vs us Q I1 r1 q1) he hpl
theorem jV(hc:BX X (.type T) r)(hg:Gl X x)(hm:X.mg x=none)(hv:bootBuiltins x=some (.type T))(ha:PA X (e :: es) t)(hn:x ≠ "__name__":=by decide)(hdb:(x==("__debug__":Str))=false:=by decide)
  (he:starEach (e :: es) X.env=(false,eval e X.env) :: starEach es X.env:=by rfl) (hpl:(backTo pos (starEach es X.env)).any (·.1)=false:=by rfl):PE X (.Call (.Name x p) (e :: es) [] pos) (wL r t):=by
 intro pins s σ H Q I h
 refine wpAny_Call_Name_kw (HJ I hg hm hv ?_ hn hdb)
 exact U3 (wX (ha pos pins s σ H _ I h) λus s1 ⟨vs,H1,I1,r1,q1⟩=>hc pins s1 σ H1 vs us Q I1 r1 q1) he hpl
end
end L2
namespace HT
open PySem PyProof.Rows
noncomputable def lexLt:List Int->List Int->Bool
 | [],[]=>false
 | [],_ :: _=>true
 | _ :: _,[]=>false
 | x :: xs,y :: ys=>if x=y then lexLt xs ys else decide (x < y)
theorem lexLt_cons(x y:Int)(xs ys:List Int):lexLt (x :: xs) (y :: ys)=if x=y then lexLt xs ys else decide (x < y):=rfl
theorem IW:lexLt [] []=false:=rfl
theorem DY(y:Int)(ys:List Int):lexLt [] (y :: ys)=true:=rfl
theorem EY(x:Int)(xs:List Int):lexLt (x :: xs) []=false:=rfl
theorem Dq(A:Around)(s:Shared)(a:Int)(t:Tok)(c:Int)(u:Tok):∃e,SeqAt.EqAt A s (.int a t) (.int c u) e/\(e=true ↔ a=c) :=
 ⟨(a==c),SeqAt.EqAt.int_int a t c u,by simp⟩
theorem Fq(A:Around)(s:Shared)(a:Int)(t:Tok)(c:Int)(u:Tok)(prog:Program)(w:World)(E:Value->Shared->Prop)(Q:Value->Shared->Prop)(h:Q (.bool (decide (a < c))) s) :
  wpAny (model prog w) A (richCompare .Lt (.int a t) (.int c u)) Q E s :=
 (PyProof.Rows.lt_int h:wpAny (model prog w) A (compareOp .Lt (.int a t) (.int c u)) Q E s)
section
open PySem.SeqAt
open PySem.AutoSeq1 (wpAny_loadPart')
open PySem.MeetsSeq PySem.MeetsSeq2 PySem.MeetsSeq3
theorem JW(l b:Addr)(items items2:Array Value)(n n2:Nat)(dd dd2:Option Addr)(sl sl2:Array (Option Value))(ns ms:List Int)(hi:IntsAre items.toList ns)(hj:IntsAre items2.toList ms) :
  Meets (Builtin.«tuple.__lt__» ⟨[.ref l,.ref b],[]⟩)
   (λ_ R s=>s.heap.get? l=some { cls:=.type "tuple",dict:=dd,data:=.seq items n,slots:=sl }/\s.heap.get? b=some { cls:=.type "tuple",dict:=dd2,data:=.seq items2 n2,slots:=sl2 } /\
     R (.ok (.ret (.bool (lexLt ns ms)))) s) :=
 .of_wp λprog w A R s h=>by
  obtain⟨hp,g,d,tk,os⟩:=s;obtain⟨hl,hb,h⟩:=h
  have f2:=AutoSeq1.sub_tuple_tuple
  have z1:items.size=ns.length:=by rw[<- hi.length];simp
  have z2:items2.size=ms.length:=by rw[<- hj.length];simp
  wp_walk using wpAny_loadPart' hl,wpAny_loadPart' hb,wpAny_forIn_list _ (λrest b s'=>b.1=none/\s'=⟨hp,g,d,tk,os⟩/\∃(vs ws:List Value) (ns' ms':List Int),rest=vs.zip ws /\
    IntsAre vs ns'/\IntsAre ws ms'/\ns'.length+items2.size=ms'.length+items.size/\R (.ok (.ret (.bool (lexLt ns' ms')))) ⟨hp,g,d,tk,os⟩) _
  case turn =>
   rintro⟨y,x⟩ rest b s' ⟨hb',rfl,vs,ws,ns',ms',hz,hvi,hwi,hlen,hR⟩
   cases hvi with
   | nil=>rw[List.zip_nil_left]at hz;cases hz
   | cons a t hvi' =>
    cases hwi with
    | nil=>rw[List.zip_nil_right]at hz;cases hz
    | cons c u hwi' =>
     rw[i5]at hz
     injection hz with hyx hrest
     injection hyx with hy hx
     subst hy hx
     rw[lexLt_cons]at hR
     simp only[X1]at hlen
     obtain⟨e,he,hiff⟩:=Dq A.in1 ⟨hp,g,d,tk,os⟩ a t c u
     refine wpAny_bind (he prog w _ _ ?_)
     cases e with
     | true =>
      rw[if_pos (hiff.mp rfl)]at hR
      wp_walk
      exact ⟨rfl,rfl,_,_,_,_,hrest,hvi',hwi',by omega,hR⟩
     | false =>
      rw[if_neg (λq=>absurd (hiff.mpr q) J1)]at hR
      have hri:=Fq A.in1 ⟨hp,g,d,tk,os⟩ a t c u prog w
      wp_walk using hri
      exact ⟨_,rfl,by simpa using hR⟩
  case fin =>
   rintro⟨b1,b2⟩ s' ⟨hb',rfl,vs,ws,ns',ms',hz,hvi,hwi,hlen,hR⟩
   simp only at hb'
   subst hb'
   have hv:lexLt ns' ms'=decide (items.size < items2.size):=by
    cases hvi with
    | nil =>
     cases hwi with
     | nil =>
      simp only[J4]at hlen
      rw[IW]
      exact (decide_eq_false (by omega)).symm
     | cons c u hw =>
      simp only[J4,X1]at hlen
      rw[DY]
      exact (decide_eq_true (by omega)).symm
    | cons a t hv =>
     cases hwi with
     | nil =>
      simp only[J4,X1]at hlen
      rw[EY]
      exact (decide_eq_false (by omega)).symm
     | cons c u hw =>
      rw[i5]at hz
      cases hz
   rw[hv]at hR
   wp_walk
   exact ⟨_,rfl,by simpa [y7]using hR⟩
  case h =>
   exact ⟨rfl,rfl,items.toList,items2.toList,ns,ms,rfl,hi,hj,by omega,h⟩
end
section
variable {prog:Program}{w:World}{A:Around}{E:Value->Shared->Prop}{s:Shared}
theorem lt_tupInts{l b:Addr}{items items2:Array Value}{ns ms:List Int}{Q:Value->Shared->Prop}(hl:IsTup s.heap l items)(hb:IsTup s.heap b items2)(hi:IntsAre items.toList ns)(hj:IntsAre items2.toList ms)
  (hu:A.units < cLine) (h:Q (.bool (lexLt ns ms)) s):wpAny (model prog w) A (compareOp .Lt (.ref l) (.ref b)) Q E s:=by
 obtain⟨⟨cls,dd,data,sl⟩,ho,hc,n,hd⟩:=id hl
 obtain⟨⟨cls2,dd2,data2,sl2⟩,ho2,hc2,n2,hd2⟩:=id hb
 simp only at hc hd hc2 hd2
 subst hc hd hc2 hd2
 exact richCompare_meets_room (op:=.Lt) ⟨_,ho,rfl⟩ ⟨_,ho2,rfl⟩ PySem.F.slot_tuple_lt PySem.F.entry_tuple_lt (PySem.F.args_tuple_lt_2 _ _) (JW l b items items2 n n2 dd dd2 sl sl2 ns ms hi hj)
  ⟨ho,ho2,show F9 (lexLt ns ms)≠t9/\Q (.bool (lexLt ns ms)) s from ⟨(λx=>nomatch x),h⟩⟩ hu
theorem cat_tup{t b:Addr}{vs ws:List Value}{Q:Value->Shared->Prop}(ht:IsTup s.heap t vs.toArray)(hb:IsTup s.heap b ws.toArray)(hv:vs≠[])
  (h1:ws=[]->Q (.ref t) s) (h2:ws≠[]->Q (.ref s.heap.objs.size) { s with heap:=s.heap.push { cls:=.type "tuple",data:=.seq (vs++ws).toArray } })
  (hsz:vs.length+ws.length<=sizeLine):wpAny (model prog w) A (binaryOp .Add (.ref t) (.ref b)) Q E s:=by
 obtain⟨⟨cls,dd,data,sl⟩,ho,hc,n,hd⟩:=id ht
 obtain⟨⟨cls2,dd2,data2,sl2⟩,ho2,hc2,n2,hd2⟩:=id hb
 simp only at hc hd hc2 hd2
 subst hc hd hc2 hd2
 have e:vs.toArray++ws.toArray=(vs++ws).toArray:=by simp
 by_cases hw:ws=[]
 ·exact concat_meets ⟨_,ho,rfl⟩ ⟨_,ho2,rfl⟩ noFill_tuple_add seq_tuple_add PySem.F.slot_tuple_add PySem.F.entry_tuple_add (PySem.F.args_tuple_add_2 _ _)
   (tuple_addW1 t b vs.toArray ws.toArray n n2 dd dd2 sl sl2 (by simpa using hv) (by simp[hw])) ⟨ho,ho2,h1 hw⟩
 ·refine concat_meets ⟨_,ho,rfl⟩ ⟨_,ho2,rfl⟩ noFill_tuple_add seq_tuple_add PySem.F.slot_tuple_add PySem.F.entry_tuple_add (PySem.F.args_tuple_add_2 _ _)
   (tuple_addW2 t b vs.toArray ws.toArray n n2 dd dd2 sl sl2 (by simpa using hv) (by simpa using hw) (by rw[Z0,Z0];exact hsz)) ⟨ho,ho2,?_⟩
  rw[e]
  exact h2 hw
end
end HT
namespace L2
open PySem PySem.Spec PyProof.Rows
noncomputable abbrev TO:=St->Hp->(Option Int->Hp->Prop)->Prop
theorem KQ{ns:List Int}:∀{us:List Value},Vals (ns.map V.int) us->IntsAre us ns:=by
 induction ns with
 | nil=>intro us r;rw[O9]at r;cases r;exact .nil
 | cons n ns ih =>
  intro us r
  rw[J3]at r
  cases r with
  | cons r1 r2 =>
   obtain⟨t,e⟩:=r1
   subst e
   exact .cons n t (ih r2)
section
variable {X:Cx}{e:Expr}{te:TE}{lo hi:Option Expr}{tl th:TO}{pos p2:Pos}
noncomputable def uC(K:J0):R2:=λx y H Q=>∃a b xs ys,x=.ref a/\y=.ref b/\SqT K H a xs/\SqT K H b ys/\xs≠[]/\xs.length+ys.length<=sizeLine /\
 (ys=[]->Q (.ref a) H)/\(ys≠[]->∀p,H p=none->Q (.ref p) (NQ H p (.tup (xs++ys))))
theorem Vals.nil_iff{xs:List V}{us:List Value}(r:Vals xs us):us=[] ↔ xs=[]:=by
 cases r with
 | nil=>simp
 | cons _ _=>simp
theorem zx:OpR X (binaryOp .Add) (uC X.K):=by
 intro pins s σ H x y v u Q I rx ry h
 obtain⟨a,b,xs,ys,rfl,rfl,ha,hb,hx,hz,q1,q2⟩:=h
 cases rx
 cases ry
 obtain⟨its,r1,p1,_⟩:=I.tuple ha
 obtain⟨its2,r2,p2,_⟩:=I.tuple hb
 refine HT.cat_tup p1 p2 (λz=>hx (r1.nil_iff.mp z)) (λz=>⟨.ref a,H,I,rfl,q1 (r2.nil_iff.mp z)⟩) (λz=>?_) (by rw[<- r1.length,<- r2.length];exact hz)
 refine ⟨.ref s.heap.objs.size,_,I.laid (t':=s.toks) (o:=.tup (xs++ys)) (λb ob q=>j0 _ q) (R0 _) ?_,rfl,q2 (λw=>z (r2.nil_iff.mpr w)) _ (I.hok.fresh (R0 _))⟩
 exact ⟨by rw[A1];exact hz,_,r1.append r2,IsTupD.new _ _⟩
end
noncomputable def Zj(n:Nat)(i:Int):Option Nat:=if 0<=i then (if i < n then some i.toNat else none) else if -(n:Int)<=i then some (i+n).toNat else none
noncomputable def GW{α:Type}(xs:List α)(i:Int):Option α:=(Zj xs.length i).bind λj=>xs[j]?
theorem HG{n:Nat}{i:Int}{j:Nat}(h:Zj n i=some j):seqIndex? i n=some j/\j < n/\-(n:Int)<=i/\i < n:=by
 unfold Zj at h
 by_cases h0:0<=i
 ·rw[if_pos h0]at h
  by_cases h1:i < n
  ·rw[if_pos h1]at h
   have e:i.toNat=j:=V1 h
   exact ⟨by rw[seqIndex_of h0 h1,e],by omega,by omega,h1⟩
  ·rw[if_neg h1]at h;cases h
 ·rw[if_neg h0]at h
  by_cases h1:-(n:Int)<=i
  ·rw[if_pos h1]at h
   have e:(i+n).toNat=j:=V1 h
   exact ⟨by rw[seqIndex_neg (by omega) h1,e],by omega,h1,by omega⟩
  ·rw[if_neg h1]at h;cases h
theorem IG{α:Type}{xs:List α}{i:Int}{v:α}(h:GW xs i=some v):∃j,seqIndex? i xs.length=some j/\xs[j]?=some v/\j < xs.length/\-(xs.length:Int)<=i/\i < xs.length:=by
 unfold GW at h
 cases e:Zj xs.length i with
 | none=>rw[e]at h;cases h
 | some j =>
  rw[e]at h
  obtain⟨h1,h2,h3,h4⟩:=HG e
  exact ⟨j,h1,h,h2,h3,h4⟩
theorem fK{α:Type}{xs:List α}{j:Nat}{v:α}(h:xs[j]?=some v):GW xs (j:Int)=some v:=by
 have hj:j < xs.length:=(K1.mp h).1
 have e:Zj xs.length (j:Int)=some j:=by
  unfold Zj
  rw[if_pos (by omega),if_pos (by omega)];simp
 unfold GW;rw[e];exact h
noncomputable def JG(b:Expr):Prop:=∀o i,subscripted b false o i=operate [o,i] (getItem o i)
noncomputable def IxR(X:Cx)(r:R2):Prop :=
 ∀(value slice:Expr) (pins:List (Addr×Obj)) (s:Shared) (σ:St) (H:Hp) (x y:V) (v u:Value) (Q:VK),Inv X pins σ H s->RelV x v->RelV y u->r x y H Q ->
  subscripted slice false v u=operate [v,u] (getItem v u)->wpAny (model X.prog X.w) X.A (subscriptTail value slice v u) (EP X pins σ Q) X.xe s
noncomputable def zM(X:Cx)(id:String)(r:V->List V->Hp->VK->Prop):Prop :=
 ∀(pins:List (Addr×Obj)) (s:Shared) (σ:St) (H:Hp) (x:V) (xs:List V) (v:Value) (us:List Value) (Q:VK),Inv X pins σ H s->RelV x v->Vals xs us->r x xs H Q ->
  wpAny (model X.prog X.w) X.A (call (.builtin id) (v :: us)) (EP X pins σ Q) X.xe s
section
variable {X:Cx}{a b:Expr}{ta tb:TE}{pos:Pos}
theorem IxR.or{r r':R2}(h:IxR X r)(h':IxR X r'):IxR X (λx y H Q=>r x y H Q\/r' x y H Q):=by
 intro value slice pins s σ H x y v u Q I rx ry q hs
 rcases q with q|q
 ·exact h value slice pins s σ H x y v u Q I rx ry q hs
 ·exact h' value slice pins s σ H x y v u Q I rx ry q hs
theorem vC{r:R2}(hr:IxR X r)(ha:PE X a ta)(hb:PE X b tb)(hs:JG b):PE X (.Subscript a b pos) (RB r ta tb):=by
 intro pins s σ H Q I h
 exact Subscript_ (Cy ha hb I h λv u s2 x y H2 I2 rx ry q=>hr a b pins s2 σ H2 x y v u Q I2 rx ry q (hs _ _))
noncomputable def Ax(K:J0):R2:=λx y H Q=>∃p xs i v,x=.ref p/\y=.int i/\SqL K H p xs/\GW xs i=some v/\Q v H
noncomputable def Dx(K:J0):R2:=λx y H Q=>∃p xs i v,x=.ref p/\y=.int i/\SqT K H p xs/\GW xs i=some v/\Q v H
theorem Ex:IxR X (Ax X.K):=by
 intro value slice pins s σ H x y v u Q I rx ry h hs
 obtain⟨p,xs,i,z,rfl,rfl,hq,he,q⟩:=h
 cases rx
 obtain⟨t,rfl⟩:=ry
 obtain⟨its,r,pl,hz⟩:=I.list hq
 obtain⟨j,h1,h2,h3,h4,h5⟩:=IG he
 obtain⟨w,ew,rw'⟩:=r.get h2
 have hl:=r.length
 have hn:=CV
 have fin:EP X pins σ Q w s:=⟨z,H,I,rw',q⟩
 by_cases h0:0<=i
 ·have hj:i.toNat=j:=by
   rw[seqIndex_of h0 h5]at h1
   exact V1 h1
  exact item_listR pl.isList h0 (by omega) (by rw[hj];simpa using ew) fin hs
 ·have hj:(i+(its.toArray.size:Int)).toNat=j:=by
   rw[seqIndex_neg (by omega) h4]at h1
   rw[Z0,<- hl]
   exact V1 h1
  exact subscriptTail_builtinR (x:=w) pl.isList.typeIs slot_list_getitem.lookup
   (wpAny_getItem_list_neg (Q:=λr s'=>r=w/\EP X pins σ Q r s') pl.isList (by omega) (by rw[Z0]<;>omega) (by omega) (by rw[hj];simpa using ew) ⟨rfl,fin⟩) hs
theorem Iy:IxR X (Dx X.K):=by
 intro value slice pins s σ H x y v u Q I rx ry h hs
 obtain⟨p,xs,i,z,rfl,rfl,hq,he,q⟩:=h
 cases rx
 obtain⟨t,rfl⟩:=ry
 obtain⟨its,r,pl,hz⟩:=I.tuple hq
 obtain⟨j,h1,h2,h3,h4,h5⟩:=IG he
 obtain⟨w,ew,rw'⟩:=r.get h2
 have hl:=r.length
 have hn:=CV
 have fin:EP X pins σ Q w s:=⟨z,H,I,rw',q⟩
 exact subscriptTail_builtinR (x:=w) pl.typeIs slot_tuple_getitem.lookup
  (getItem_tuple (j:=j) (Q:=λr s'=>r=w/\EP X pins σ Q r s') pl (by omega) (by omega) (by rw[Z0,<- hl];exact h1) (by simpa using ew) ⟨rfl,fin⟩) hs
theorem vH(its:List Value)(n j:Nat)(u:Value):B2 (·.setIfInBounds j u) { cls:=.type "list",data:=.seq its.toArray n }={ cls:=.type "list",data:=.seq (its.set j u).toArray n }:=by
 simp[B2]
theorem Inv.lst{pins:List (Addr×Obj)}{σ:St}{H:Hp}{s:Shared}{p:Addr}{xs:List V}(I:Inv X pins σ H s)(h:H p=some (.lst xs)) :
  ∃(its:List Value) (n:Nat),Vals xs its/\s.heap.get? p=some { cls:=.type "list",data:=.seq its.toArray n }/\xs.length<=sizeLine:=by
 obtain⟨z,its,n,r,e⟩:=I.hok p _ h
 exact ⟨its,n,r,e,z⟩
theorem Inv.lstUpd{pins:List (Addr×Obj)}{σ:St}{H:Hp}{s:Shared}{p:Addr}{xs ys:List V}{its its':List Value}{n n':Nat}{f:Obj->Obj}(I:Inv X pins σ H s)(h:H p=some (.lst xs))
  (ho:s.heap.get? p=some { cls:=.type "list",data:=.seq its.toArray n }) (hf:f { cls:=.type "list",data:=.seq its.toArray n }={ cls:=.type "list",data:=.seq its'.toArray n' }) (r:Vals ys its') (hz:ys.length<=sizeLine) (t:Nat) :
  Inv X pins σ (NQ H p (.lst ys)) { s with heap:=s.heap.update p f,toks:=t }:=by
 have e:(s.heap.update p f).get? p=some { cls:=.type "list",data:=.seq its'.toArray n' }:=by
  rw[K2 f ho (by rw[hf]<;>rfl),hf]
 refine I.write (x:=p) (e:=p) (by rw[h];trivial) (.inl rfl) (λb u hb q=>(v6 _ _ (Z2 hb)).trans q) ⟨_,e⟩ ?_
 exact ⟨hz,its',n',r,e⟩
noncomputable def KG:V->V->V->Hp->(Hp->Prop)->Prop:=λo i v H Q=>∃p xs k j,o=.ref p/\i=.int k/\H p=some (.lst xs)/\Zj xs.length k=some j/\Q (NQ H p (.lst (xs.set j v)))
theorem Gq:jC X KG:=by
 intro pins s σ H o i v ov iv u Q I ro ri rv h
 obtain⟨p,xs,k,j,rfl,rfl,hp,hj,q⟩:=h
 cases ro
 obtain⟨t,rfl⟩:=ri
 obtain⟨its,n,r,ho,hz⟩:=I.lst hp
 obtain⟨h1,h2,h3,h4⟩:=HG hj
 have hl:=r.length
 have hn:=CV
 have I':Inv X pins σ (NQ H p (.lst (xs.set j v))) { s with heap:=s.heap.update p (B2 (·.setIfInBounds j u)) } :=
  I.lstUpd hp ho (vH its n j u) (r.set rv j) (by rw[A5];exact hz) s.toks
 by_cases h0:0<=k
 ·have hk:k.toNat=j:=by
   rw[seqIndex_of h0 h4]at h1
   exact V1 h1
  exact PySem.W.ki_setAt ho h0 (by omega) (by rw[Z0,<- hl];exact h4) (by rw[hk];exact ⟨_,I',q⟩)
 ·have hk:(k+(its.toArray.size:Int)).toNat=j:=by
   rw[seqIndex_neg (by omega) h3]at h1
   rw[Z0,<- hl]
   exact V1 h1
  exact PySem.W.ki_setBack ho (by omega) (by rw[Z0,<- hl];exact h3) (by omega) (by rw[hk];exact ⟨_,I',q⟩)
theorem FV:BX X (.builtin "len") (λxs H Q=>∃p ys,xs=[.ref p]/\(SqL X.K H p ys\/SqT X.K H p ys)/\Q (.int ys.length) H):=by
 intro pins s σ H xs us Q I r h
 obtain⟨p,ys,rfl,hq,q⟩:=h
 obtain⟨u,rfl,rx⟩:=aJ r
 cases rx
 have hn:=CV
 rcases hq with hq|hq
 ·obtain⟨its,r',pl,hz⟩:=I.list hq
  have hlen:=r'.length
  exact Calls.call_len_list pl.isList (by simp only[Z0]<;>omega) ⟨.int ys.length,H,I.tok _,⟨s.toks+1,by rw[Z0,hlen]⟩,q⟩
 ·obtain⟨its,r',pl,hz⟩:=I.tuple hq
  have hlen:=r'.length
  exact len_tuple pl (by simp only[Z0]<;>omega) ⟨.int ys.length,H,I.tok _,⟨s.toks+1,by rw[Z0,hlen]⟩,q⟩
theorem KW:BX X (.type "tuple") (λxs H Q=>∃p ys,xs=[.ref p]/\((SqL X.K H p ys/\∀l,H l=none->Q (.ref l) (NQ H l (.tup ys)))\/(SqT X.K H p ys/\Q (.ref p) H))):=by
 intro pins s σ H xs us Q I r h
 obtain⟨p,ys,rfl,h⟩:=h
 obtain⟨u,rfl,rx⟩:=aJ r
 cases rx
 rcases h with⟨hq,q⟩|⟨hq,q⟩
 ·obtain⟨its,r',pl,hz⟩:=I.list hq
  have hlen:=r'.length
  refine call_tuple_list pl.isList (λh' kp=>?_) (by simp only[Z0]<;>omega)
  have I1:Inv X pins σ H { s with heap:=h' }:=I.kept (t':=s.toks) kp
  have I2:Inv X pins σ (NQ H h'.objs.size (.tup ys)) { s with heap:=h'.push { cls:=.type "tuple",data:=.seq its.toArray } } :=
   I1.laid (t':=s.toks) (λb o e=>j0 _ e) (R0 _) (show ObjOk X.prog X.w _ _ _ (.tup ys) from ⟨hz,its,r',IsTupD.new _ _⟩)
  exact ⟨.ref h'.objs.size,_,I2,rfl,q _ (I1.hok.fresh (R0 _))⟩
 ·obtain⟨its,r',pl,hz⟩:=I.tuple hq
  exact call_tuple_same pl ⟨.ref p,H,I,rfl,q⟩
noncomputable def AM(K:J0)(T:String)(x:V)(H:Hp):Prop:=match x with
 | .str _=>T = "str"
 | .int _=>T = "int"
 | .ref p=>(T = "list"/\∃xs,SqL K H p xs)\/(T = "tuple"/\∃o,K.lookup p=some o/\o.cls=.type "tuple"/\o.dict=none) \/
   (T = "dict"/\((∃kvs,H p=some (.dK kvs))\/∃kvs,H p=some (.dT kvs)))\/(T = "set"/\∃S n,H p=some (.set S n))
 | _=>False
theorem Jy{pins:List (Addr×Obj)}{σ:St}{H:Hp}{s:Shared}{T:String}{x:V}{v:Value}(I:Inv X pins σ H s)(r:RelV x v)(ty:AM X.K T x H) :
  s.TypeIs v T/\∀a,v=.ref a->∃ob,s.heap.get? a=some ob/\ob.dict=none:=by
 cases x with
 | str z =>
  obtain⟨t,rfl⟩:=r
  cases (show T = "str" from ty)
  exact ⟨typeIs_str s z t,λ_ e=>nomatch e⟩
 | int i =>
  obtain⟨t,rfl⟩:=r
  cases (show T = "int" from ty)
  exact ⟨typeIs_int s i t,λ_ e=>nomatch e⟩
 | ref p =>
  cases r
  rcases ty with⟨rfl,xs,hq⟩|⟨rfl,o,hk,hc,hd⟩|⟨rfl,hk⟩|⟨rfl,S,n,hk⟩
  ·obtain⟨its,_,pl,_⟩:=I.list hq
   refine ⟨pl.isList.typeIs,λa e=>?_⟩
   cases e
   obtain⟨o,n,e,c,hd,_⟩:=pl
   exact ⟨o,e,hd⟩
  ·refine ⟨⟨o,I.kIn p o hk,hc⟩,λa e=>?_⟩
   cases e
   exact ⟨o,I.kIn _ o hk,hd⟩
  ·have z:∃o,s.heap.get? p=some o/\o.ExactDict:=by
    rcases hk with⟨kvs,hk⟩|⟨kvs,hk⟩
    ·obtain⟨_,_,_,_,o,_,_,e,ex,_⟩:=I.hok p _ hk
     exact ⟨o,e,ex⟩
    ·obtain⟨_,_,_,_,o,_,_,e,ex,_⟩:=I.hok p _ hk
     exact ⟨o,e,ex⟩
   obtain⟨o,e,ex⟩:=z
   refine ⟨⟨o,e,ex.1⟩,λa e2=>?_⟩
   cases e2
   exact ⟨o,e,ex.2.1⟩
  ·obtain⟨o,_,_,_,e,ex,_⟩:=I.hok p _ hk
   refine ⟨⟨o,e,ex.1⟩,λa e2=>?_⟩
   cases e2
   exact ⟨o,e,ex.2.1⟩
 | _=>exact False.elim ty
noncomputable def BM(K:J0)(T:String)(r:V->List V->Hp->VK->Prop)(to:TE)(t:TA):TE:=λσ H Q=>to σ H λx H1=>AM K T x H1/\t σ H1 λxs H2=>r x xs H2 Q
variable {o e:Expr}{es:List Expr}{to:TE}{t:TA}{name:Str}{apos cpos:Pos}{T id:String}{r:V->List V->Hp->VK->Prop}
theorem wC(pa:PlainAttrs T)(slot:Slot T name id)(hty:typeOf (.builtin id)=pure (.type "method_descriptor"))(hm:zM X id r)(ho:PE X o to)(ha:PA X (e :: es) t)
  (hbase:attributeBase o name X.env (eval o X.env)=eval o X.env:=by rfl)
  (hfew:((backTo cpos (starEach (e :: es) X.env)).all (λx=>!x.1)&&(backToKw cpos (keywordEach [] X.env)).all (λx=>x.1.isSome)
    && decide ((e :: es).length+([]:List Keyword).length+(if ([]:List Keyword).isEmpty then 0 else 1) < 30))=true:=by rfl)
  (hline:(apos.endLine==cpos.line)=true:=by rfl) (hs:starEach (e :: es) X.env=(false,eval e X.env) :: starEach es X.env:=by rfl) (hplain:(backTo cpos (starEach es X.env)).any (·.1)=false:=by rfl) :
  PE X (.Call (.Attribute o name apos) (e :: es) [] cpos) (BM X.K T r to t):=by
 intro pins s σ H Q I h
 refine wpAny_Call_method_late hbase hfew hline rfl (wX (ho pins s σ H _ I h) λv s1 ⟨x,H1,I1,r1,ty,q1⟩=>?_)
 obtain⟨h1,h2⟩:=Jy I1 r1 ty
 refine ⟨T,id,pa,slot,hty,h1,h2,?_⟩
 have hA:=ha cpos pins s1 σ H1 _ I1 q1
 rw[hs]at hA ⊢
 refine Calls.callWith_builtin (by show (false||(backTo cpos (starEach es X.env)).any (·.1))=false;rw[hplain]<;>rfl) (Calls.evalArgs_plain ?_)
 exact wX hA λus s2 ⟨vs,H2,I2,r2,q2⟩=>hm pins s2 σ H2 x vs v us Q I2 r1 r2 q2
end
noncomputable def CM(X:Cx)(id:String)(r:V->List V->Hp->VK->Prop):Prop :=
 ∀(pins:List (Addr×Obj)) (s:Shared) (σ:St) (H:Hp) (x:V) (xs:List V) (v:Value) (us:List Value) (Q:VK),Inv X pins σ H s->RelV x v->Vals xs us->r x xs H Q ->
  wpAny (model X.prog X.w) X.A (call (.builtin id) (v :: us)) (EP X pins σ Q) X.xe s
theorem Vals.one:∀{x:V}{us:List Value},Vals [x] us->∃u,us=[u]/\RelV x u
 | _,_,.cons r .nil=>⟨_,rfl,r⟩
theorem Vals.rep{xs:List V}{us:List Value}(h:Vals xs us):∀k:Nat,Vals (E2 k xs).flatten (E2 k us).flatten
 | 0=>.nil
 | k+1=>by
  rw[T4,T4,W5,W5]
  exact Vals.append h (Vals.rep h k)
theorem lV(its:List Value):∀(k:Nat) (acc:List Value),
  Y9 (λx1 x2=>x1++x2) acc.toArray (E2 k its.toArray)=(acc++(E2 k its).flatten).toArray
 | 0,acc=>by simp
 | k+1,acc=>by
  have e:acc.toArray++its.toArray=(acc++its).toArray:=by simp
  have e2:(acc++its)++(E2 k its).flatten=acc++(E2 (k+1) its).flatten:=by
   rw[T4,W5,P2]
  rw[<- e2,<- lV its k (acc++its),<- e,T4,List.foldl_cons]
section
variable {X:Cx}{pins:List (Addr×Obj)}{σ:St}{H:Hp}{s:Shared}{l b:Addr}{xs ys zs:List V}
theorem Inv.lset{its its':List Value}{n:Nat}{f:Array Value->Array Value}{t':Nat}(I:Inv X pins σ H s)(hH:H l=some (.lst xs))
  (e:s.heap.get? l=some { cls:=.type "list",data:=.seq its.toArray n }) (hf:f its.toArray=its'.toArray) (hv:Vals ys its') (hz:ys.length<=sizeLine) :
  Inv X pins σ (NQ H l (.lst ys)) { s with heap:=s.heap.update l (B2 f),toks:=t' }:=by
 have q:=PySem.IsL.update e f
 rw[hf]at q
 refine I.write (x:=l) (e:=l) (by rw[hH];exact trivial) (.inl rfl) (λb' u hb hu=>(v6 s.heap (B2 f) (Z2 hb)).trans hu) ⟨_,q⟩ ?_
 exact ⟨hz,its',_,hv,q⟩
theorem Inv.lnew{its:List Value}{t':Nat}(I:Inv X pins σ H s)(hv:Vals ys its)(hz:ys.length<=sizeLine) :
  Inv X pins σ (NQ H s.heap.objs.size (.lst ys)) { s with heap:=s.heap.push { cls:=.type "list",data:=.seq its.toArray },toks:=t' } :=
 I.laid (λ_ _ q=>j0 _ q) (R0 _) ⟨hz,its,0,hv,G0 _ rfl⟩
theorem Inv.fresh(I:Inv X pins σ H s):H s.heap.objs.size=none:=I.hok.fresh (R0 _)
theorem Inv.lstM(I:Inv X pins σ H s)(hH:H l=some (.lst xs)):xs.length<=sizeLine/\∃(its:List Value) (n:Nat),Vals xs its/\xs.length=its.length/\s.heap.get? l=some { cls:=.type "list",data:=.seq its.toArray n }:=by
 obtain⟨z,its,n,r,e⟩:=I.hok l _ hH
 exact ⟨z,its,n,r,r.length,e⟩
theorem qU{n:Nat}(h:n<=sizeLine):E4 n=false:=by
 unfold E4
 exact decide_eq_false (by omega)
end
section
variable {X:Cx}
noncomputable def LG:V->List V->Hp->VK->Prop:=λx vs H Q=>∃l xs y,x=.ref l/\vs=[y]/\H l=some (.lst xs)/\xs.length < sizeLine/\Q .non (NQ H l (.lst (xs++[y])))
theorem wJ:CM X "list.append" LG:=by
 intro pins s σ H x vs v us Q I rx rv h
 obtain⟨l,xs,y,rfl,rfl,hH,hz,q⟩:=h
 cases rx
 obtain⟨u,rfl,ru⟩:=rv.one
 obtain⟨z,its,n,r,hl,e⟩:=I.lstM hH
 refine call_meets F.slot_list_append ⟨_,e,rfl⟩ F.entry_list_append (F.args_list_append_2 _ _) (PySem.list_append l its.toArray n u (by rw[Z0];omega)) ⟨e,?_⟩
 refine ⟨.non,_,I.lset (its':=its++[u]) hH e (by simp) (r.append (.cons ru .nil)) ?_,rfl,q⟩
 rw[A1,E6]
 omega
noncomputable def MG:V->List V->Hp->VK->Prop:=λx vs H Q=>∃l b xs zs,x=.ref l/\vs=[.ref b]/\H l=some (.lst xs)/\H b=some (.lst zs)/\xs.length+zs.length<=sizeLine/\Q .non (NQ H l (.lst (xs++zs)))
theorem DK:CM X "list.extend" MG:=by
 intro pins s σ H x vs v us Q I rx rv h
 obtain⟨l,b,xs,zs,rfl,rfl,hH,hB,hz,q⟩:=h
 cases rx
 obtain⟨u,rfl,ru⟩:=rv.one
 cases ru
 obtain⟨z,its,n,r,hl,e⟩:=I.lstM hH
 obtain⟨z2,its2,n2,r2,hl2,e2⟩:=I.lstM hB
 have hsz:its.toArray.size+its2.toArray.size<=sizeLine:=by rw[Z0,Z0];omega
 have hlong:¬(!its.toArray.isEmpty&&E4 (its.toArray.size+its2.toArray.size))=true:=by
  rw[qU hsz,Bool.and_false]
  exact J1
 refine call_meets F.slot_list_extend ⟨_,e,rfl⟩ F.entry_list_extend (F.args_list_extend_2 _ _)
  (AutoSeq1.list_extend_list_list_0 l its.toArray n b its2.toArray n2 hlong (by rw[Z0];omega) (by omega)) ⟨e,e2,?_⟩
 refine ⟨.non,_,I.lset (its':=its++its2) hH e (by simp) (r.append r2) ?_,rfl,q⟩
 rw[A1]
 omega
noncomputable def Ky:R2:=λx y H Q=>∃l b xs zs,x=.ref l/\y=.ref b/\H l=some (.lst xs)/\H b=some (.lst zs)/\xs.length+zs.length<=sizeLine/\∀p,H p=none->Q (.ref p) (NQ H p (.lst (xs++zs)))
theorem Ly:OpR X (binaryOp .Add) Ky:=by
 intro pins s σ H x y v u Q I rx ry h
 obtain⟨l,b,xs,zs,rfl,rfl,hH,hB,hz,q⟩:=h
 cases rx
 cases ry
 obtain⟨z,its,n,r,hl,e⟩:=I.lstM hH
 obtain⟨z2,its2,n2,r2,hl2,e2⟩:=I.lstM hB
 refine PySem.P.add_list e e2 ?_ (by rw[Z0,Z0];omega)
 have ea:its.toArray++its2.toArray=(its++its2).toArray:=by simp
 rw[ea]
 exact ⟨.ref _,_,I.lnew (t':=s.toks) (r.append r2) (by rw[A1];omega),rfl,q _ I.fresh⟩
noncomputable def My:R2:=λx y H Q=>∃l k xs,x=.ref l/\y=.int k/\H l=some (.lst xs)/\-(2 ^ 63)<=k/\k < 2 ^ 63/\xs.length * k.toNat<=sizeLine /\
 ∀p,H p=none->Q (.ref p) (NQ H p (.lst (E2 k.toNat xs).flatten))
theorem Fx{α:Type}(xs:List α)(k:Nat):(E2 k xs).flatten.length=k * xs.length:=by
 induction k with
 | zero=>simp
 | succ k ih=>rw[T4,W5,A1,ih,Z7,Nat.add_comm]
theorem Ny:OpR X (binaryOp .Mult) My:=by
 intro pins s σ H x y v u Q I rx ry h
 obtain⟨l,k,xs,rfl,rfl,hH,h1,h2,hz,q⟩:=h
 cases rx
 obtain⟨t,rfl⟩:=ry
 obtain⟨z,its,n,r,hl,e⟩:=I.lstM hH
 have hlen:its.toArray.size * k.toNat<=sizeLine:=by rw[Z0,<- hl];exact hz
 have hcap:¬its.toArray.size * k.toNat > (2 ^ 63 - 1) / 8:=by
  have:(sizeLine:Nat)<=(2 ^ 63 - 1) / 8:=by decide
  omega
 have hfit:¬(!Builtin.List.listFitsIndex k)=true:=by
  rw[fitsIndex_both h1 h2]
  exact J1
 have hlong:¬E4 (its.toArray.size * k.toNat)=true:=by
  rw[qU hlen]
  exact J1
 have hnew:Y9 (λx1 x2=>x1++x2) #[] (E2 (if its.toArray.isEmpty=true then 0 else k.toNat) its.toArray)=(E2 k.toNat its).flatten.toArray:=by
  have f0:∀m:Nat,Y9 (λx1 x2=>x1++x2) #[] (E2 m its.toArray)=(E2 m its).flatten.toArray:=λm=>by
   have:=lV its m []
   rw[List.nil_append]at this
   exact this
  rw[f0]
  cases its with
  | nil=>simp
  | cons a r'=>rw[if_neg (by simp)]
 refine wpAny_binaryOp_repeat_ref (T:="list") (U:="int") (by decide) ⟨_,e,rfl⟩ (λs'=>typeIs_int s' k t) noFill_list_mul F.fills_int_mul F.slot_int_rmul repeat_list F.slot_int_index.lookup
  (call_meets F.slot_int_rmul (typeIs_int s k t) F.entry_int_rmul (F.args_int_rmul_2 _ _) (int___rmul___int_list k t l its.toArray n)
    ⟨e,rfl,⟨_,e,rfl⟩,call_meets F.slot_list_mul ⟨_,e,rfl⟩ F.entry_list_mul (F.args_list_mul_2 _ _) (AutoListH.list___mul___list_int_3 l its.toArray n k t hfit hcap hlong) ⟨e,?_⟩⟩)
 rw[hnew]
 exact ⟨.ref _,_,I.lnew (t':=s.toks) (r.rep k.toNat) (by rw[Fx,Nat.mul_comm];exact hz),rfl,q _ I.fresh⟩
end
section
variable {prog:Program}{w:World}{A:Around}{E:Value->Shared->Prop}{s:Shared}
set_option maxRecDepth 100000 in
end
section
variable {X:Cx}
end
section
variable {κ:Type}[DecidableEq κ]
end
section
variable {P:Program}{w:World}{H:Hp}{h:Heap}{a:Addr}
end
section
variable {X:Cx}{pins:List (Addr×Obj)}{σ:St}{H:Hp}{s:Shared}{a:Addr}{y v:V}{u r:Value}{o:Option V}{A:Around}{E:Value->Shared->Prop}
theorem Inv.big(I:Inv X pins σ H s):sysModules < s.heap.objs.size:=by
 have h:mainGlobals < s.heap.objs.size:=(I.mod.glob.keeps I.bk).lt
 exact Nat.lt_trans (by decide) h
theorem NG{h':Heap}{t':Nat}{ob:HO}(I:Inv X pins σ H s)(mu:bC (H a))(hs:J2 a s.heap h')(he:∃q,h'.get? a=some q)(new:ObjOk X.prog X.w (NQ H a ob) h' a ob) :
  Inv X pins σ (NQ H a ob) { s with heap:=h',toks:=t' } :=
 I.write (x:=a) (e:=a) mu (.inl rfl) (λb q hb z=>(hs.2 b hb).trans z) he new
end
section
variable {X:Cx}{pins:List (Addr×Obj)}{σ:St}{H:Hp}{s:Shared}{a:Addr}{kvs:List (XJ×V)}{k:XJ}{u:Value}{A:Around}{E:Value->Shared->Prop}
end
section
variable {X:Cx}{o i e value:Expr}{pos pos' tpos:Pos}{td ty tv:TE}
end
section
variable {X:Cx}{pos:Pos}
end
noncomputable def Hq:List (TE×TE)->St->Hp->(List (V×V)->Hp->Prop)->Prop
 | [],_,H,Q=>Q [] H
 | (tk,tv) :: r,σ,H,Q=>tk σ H λx H1=>tv σ H1 λy H2=>Hq r σ H2 λps H3=>Q ((x,y) :: ps) H3
noncomputable abbrev VV:List (V×V)->List (Value×Value)->Prop:=Paired λp q=>RelV p.1 q.1/\RelV p.2 q.2
noncomputable def xL(X:Cx)(pos:Pos)(keys:List (Option Expr))(values:List Expr)(trs:List (TE×TE)):Prop :=
 ∀(pins:List (Addr×Obj)) (s:Shared) (σ:St) (H:Hp) (Q:List (V×V)->Hp->Prop),Inv X pins σ H s->Hq trs σ H Q ->
  wpAny (model X.prog X.w) X.A (evalPairs (pairTrees keys values X.env pos)) (λvs s'=>∃ps H',Inv X pins σ H' s'/\VV ps vs/\Q ps H') X.xe s
theorem Gx{X:Cx}{pos:Pos}:xL X pos [] [] []:=λpins s σ H Q I h=>pairTrees_nil_walk ⟨[],H,I,.nil,h⟩
theorem Iq{X:Cx}{pos:Pos}{k v:Expr}{ks:List (Option Expr)}{vs:List Expr}{tk tv:TE}{trs:List (TE×TE)}(hk:PE X k tk)(hv:PE X v tv)(hr:xL X pos ks vs trs) :
  xL X pos (some k :: ks) (v :: vs) ((tk,tv) :: trs):=λpins s σ H Q I h =>
 pairTrees_cons_walk (wX (hk pins s σ H _ I h) λu s1 ⟨x,H1,I1,rx,q1⟩=>wX (hv pins s1 σ H1 _ I1 q1) λw2 s2 ⟨y,H2,I2,ry,q2⟩ =>
   wX (hr pins s2 σ H2 _ I2 q2) λws s3 ⟨ps,H3,I3,rel,q3⟩=>⟨(x,y) :: ps,H3,I3,.cons ⟨rx,ry⟩ rel,q3⟩)
structure M1(X:Cx)(o:Expr)(m:Str)(apos:Pos)(e:Expr)(cpos:Pos):Prop where
 base:attributeBase o m X.env (eval o X.env)=eval o X.env
 few:((backTo cpos (starEach [e] X.env)).all (λx=>!x.1)&&(backToKw cpos (keywordEach [] X.env)).all (λx=>x.1.isSome)
   && decide (([e]:List Expr).length+([]:List Keyword).length+(if ([]:List Keyword).isEmpty then 0 else 1) < 30))=true
 line:(apos.endLine==cpos.line)=true
 trees:backTo cpos (starEach [e] X.env)=[(false,eval e X.env)]
structure M2(X:Cx)(o:Expr)(m:Str)(apos:Pos)(e f:Expr)(cpos:Pos):Prop where
 base:attributeBase o m X.env (eval o X.env)=eval o X.env
 few:((backTo cpos (starEach [e,f] X.env)).all (λx=>!x.1)&&(backToKw cpos (keywordEach [] X.env)).all (λx=>x.1.isSome)
   && decide (([e,f]:List Expr).length+([]:List Keyword).length+(if ([]:List Keyword).isEmpty then 0 else 1) < 30))=true
 line:(apos.endLine==cpos.line)=true
 trees:backTo cpos (starEach [e,f] X.env)=[(false,eval e X.env),(false,eval f X.env)]
section
variable {X:Cx}{pins:List (Addr×Obj)}{σ:St}{H:Hp}{s:Shared}{a:Addr}{y d:V}{u r:Value}{o:Option V}{A:Around}{E:Value->Shared->Prop}
end
section
variable {X:Cx}{o e f:Expr}{apos cpos:Pos}{td ty tx:TE}
end
section
variable {X:Cx}{pins:List (Addr×Obj)}{σ:St}{H:Hp}{s:Shared}{a:Addr}{kvs:List (XJ×V)}{A:Around}{E:Value->Shared->Prop}
end
section
variable {X:Cx}{pins:List (Addr×Obj)}{σ:St}{H:Hp}{s:Shared}{a:Addr}{y:V}{u:Value}{A:Around}{E:Value->Shared->Prop}
end
end L2
namespace Att
open PySem PySem.W PySem.Calls PyProof.Rows
theorem dY{P:Params}{h:Heap}:∀(ns:List Int) (vs:List Value),WellAll P h vs (ns.map WData.int)->IntsAre vs ns:=by
 intro ns
 induction ns with
 | nil =>
  intro vs w
  rw[O9]at w
  cases w
  exact .nil
 | cons n ns ih =>
  intro vs w
  rw[J3]at w
  cases w with
  | cons a b =>
   cases a
   exact .cons _ _ (ih _ b)
theorem VF{l:OpenLaw}{n:Nat}(hn:l.most=some n){P:Params}{h:Heap}{args:List WData}{vals:List Value}
  (hpre:l.row.toRowW.claim.pre args=true) (hwl:WellAll P h vals args) :
  ∃a vs ns,vals=[U1 a]/\args=[WData.list (ns.map WData.int)]/\h.get? a=some { cls:=.type "list",data:=.seq vs.toArray }/\IntsAre vs ns/\ns.length<=n:=by
 have hsh:WShape.hasAll [] args [.list .int]=true:=(pre_splitW hpre).1
 have hc:l.pre.holds [] { args:=args }=true:=(pre_splitW hpre).2
 obtain⟨d,r,rfl,h1,h2⟩:=hasAllW_cons hsh
 obtain rfl:=hasAllW_nil h2
 obtain⟨xs,rfl,h3⟩:=hasW_list h1
 obtain⟨ns,rfl⟩:=items_int h3
 have hlen:ns.length<=n:=by
  unfold OpenLaw.pre at hc
  have h4:(WTm.not (.lt (.lit (.int (n:Int))) (.len (.arg 0)))).holds [] { args:=[.list (ns.map .int)] }=true:=by
   have h4:=(holds_andW hc).1
   rw[hn]at h4
   exact h4
  have h5:=condW_of h4 (w_not (w_lt w_lit (w_len_list (w_arg rfl))))
  rw[A0]at h5
  refine L8 λq=>?_
  have q':(n:Int) < ((ns.length:Nat):Int):=by omega
  first
   | (rw[decide_eq_true q']at h5;exact absurd h5 (by decide))
   | (simp at h5;omega)
 cases hwl with
 | cons w1 w2 =>
  cases w2
  cases w1 with
  | list ho hall=>exact ⟨_,_,ns,rfl,rfl,ho,dY ns _ hall,hlen⟩
theorem WF(l:OpenLaw)(args:List WData):l.row.toRowW.claim.post args (.bool true) args=true :=
 postW_of (r:=l.row.toRowW) (X:=(true==true))
  (show WShape.has [] (.bool true) .bool=true by first|rfl|decide|simp[WShape.has,WShape.arms,WShape.armsAll])
  (show (WTm.eq .res (.lit (.bool true))).value [] { args:=args,res:=some (.bool true),after:=args }=some (.bool (true==true)) from w_eq_bool (w_res rfl) w_lit) rfl
theorem attach_call{l:OpenLaw}{n:Nat}{q:Program}{loose:List Str}{XP:(Str->Option Value)->Heap->Prop}{YP:World->Heap->Prop}{d:DefRec}
  (hn:l.most=some n) (hdf:d.params.defaults=[])
  (call:∀(w:World) (s₀ s₁:Shared) (mg mb:Str->Option Value) (fa:Addr) (o:Obj) (pm cd doc:Value) (a:Addr) (vs:List Value) (ns:List Int),
    Ground q loose [] XP w s₀ mg mb s₁.heap->YP w s₁.heap ->
    s₁.heap.get? fa=some o->o.data=.func (docDef d.name d.params d.body d.scope pm cd doc)->s₁.heap.CodeRec cd d.name->mg d.name=some (.ref fa) ->
    s₁.heap.get? a=some { cls:=.type "list",data:=.seq vs.toArray }->IntsAre vs ns->ns.length<=n->s₁.gens=#[] ->
    codeAny (model l.prog w) callerA (.call (.ref fa) ⟨[.ref a],[]⟩) (λr s'=>r=.ok (.ret (.bool true))/\OldK s₁.heap s'.heap/\s'.os=s₁.os/\AllBare s'.gens) s₁) :
  WalkO q loose XP YP l.row.toRowW d [] (λf vs=>PySem.call f vs):=by
 intro w s₀ s₁ mg mb G Y fa o pm cd doc dV kV ho hd hcd hD hmg hg args vals as hpre hlay hrd hwl hlo
 obtain rfl:dV=.none:=Dflts.none hD hdf
 obtain rfl:kV=.none:=Dflts.noKw hD
 obtain⟨a,vs,ns,rfl,rfl,hobj,hints,hlen⟩:=VF hn hpre hwl
 refine enter_call (codeAny_mono (call w s₀ s₁ mg mb fa o pm cd doc a vs ns G Y ho (fd_plain hd) hcd hmg hobj hints hlen hg) λr s' hq=>?_)
 obtain⟨rfl,h2,h3,h4⟩:=hq
 exact ⟨.inl ⟨.bool true,.bool true,[],rfl,λ_=>rfl,.bool true,WF l _,λ_=>⟨List.Pairwise.nil,λ_ hm=>(nomatch hm)⟩⟩,h2,h3,h4⟩
section
variable {prog:Program}{w:World}{A:Around}{E:Value->Shared->Prop}{s:Shared}{K:Frag}
end
end Att
namespace L2
open PySem PySem.Spec PyProof.Rows
theorem mV:∀{vs:List Value}{ns:List Int},IntsAre vs ns->Vals (ns.map V.int) vs
 | _,_,.nil=>.nil
 | _,_,.cons n t h=>.cons ⟨t,rfl⟩ (mV h)
noncomputable def Oy(H:Hp):Prop:=∀b,H b=none\/∃o xs,H b=some (.frz o (.lst xs))
theorem Jq{P:Program}{w:World}{K:J0}{mg mb:Str->Option Value}{CX:Cq}{k:Nat}{fa a:Addr}{fd:FuncData}{x:Str}{sp:Sp}{s₁:Shared}{vs:List Value}{ns:List Int}
  (KX:K.In s₁.heap) (hns:s₁.heap.Ns mainGlobals mg) (hb:s₁.heap.Ns builtinsNs mb) (hbb:∀x:Str,x ≠ "__name__"->mb x=bootBuiltins x) (hlim:s₁.heap.NoLimit) (hg:s₁.gens=#[])
  (ha:s₁.heap.get? a=some { cls:=.type "list",data:=.seq vs.toArray }) (hi:IntsAre vs ns) (hl:ns.length<=sizeLine) (hr:Room k callerA)
  (F:∀base:Heap,K.In base->base.Ns mainGlobals mg->FnOk P w K mg base CX k fa fd [x] sp) (hbind:∀(s:Shared) (u:Value),BindsTo s fd ⟨[u],[]⟩ [(x,u)])
  (hsp:∀H:Hp,Oy H->SqL K H a (ns.map V.int)->sp [.ref a] H (λv _=>v=.bl true) λ_ _ _=>False)
  (hCX:∀H e s',CX [] H s₁ (λ_ _ _=>False) e s'->False) :
  codeAny (model P w) callerA (.call (.ref fa) ⟨[.ref a],[]⟩) (λr s'=>r=.ok (.ret (.bool true))/\OldK s₁.heap s'.heap/\s'.os=s₁.os/\AllBare s'.gens) s₁:=by
 have rv:=mV hi
 have lenV:=hi.length
 have core:∀H:Hp,Oy H->SqL K H a (ns.map V.int)->HOk P w H s₁.heap->(∀b,H b≠none->b=a)->(H a≠none->K.lookup a=none) ->
   codeAny (model P w) callerA (.call (.ref fa) ⟨[.ref a],[]⟩) (λr s'=>r=.ok (.ret (.bool true))/\OldK s₁.heap s'.heap/\s'.os=s₁.os/\AllBare s'.gens) s₁:=by
  intro H hO hS hok hA hK
  have base_of:∀{b:Addr}{o:Obj},s₁.heap.get? b=some o->H b=none->(AV s₁.heap H).get? b=some o:=λe n=>cq e n
  have noA:∀{b:Addr}{o:Obj}{es:Array DictEntry}{ep:Nat},s₁.heap.get? b=some o->o.data=.dict es ep->H b=none:=λ{b o es ep} e d=>by
   cases q:H b with
   | none=>rfl
   | some u =>
    have e':b=a:=hA b (by rw[q];simp)
    subst e'
    rw[ha]at e;cases e
    have d':Data.seq vs.toArray _=Data.dict es ep:=d
    cases d'
  have nsK:∀{b:Addr}{m:Str->Option Value},s₁.heap.Ns b m->(AV s₁.heap H).Ns b m:=λ{b m} ⟨o,es,ep,e,d,r⟩=>⟨o,es,ep,base_of e (noA e d),d,r⟩
  have hKb:K.In (AV s₁.heap H):=λb o e=>base_of (KX b o e) (by
    cases q:H b with
    | none=>rfl
    | some u =>
      have e':b=a:=hA b (by rw[q];simp)
      subst e'
      rw[hK (by rw[q];simp)]at e;cases e)
  have hM:Mod K mg (AV s₁.heap H):=⟨hKb,nsK hns,⟨mb,nsK hb,hbb⟩,let ⟨mc,h1,h2⟩:=hlim;⟨mc,nsK h1,h2⟩⟩
  have e0:Env0 P w K mg (AV s₁.heap H) callerA [] s₁ H:=⟨rfl,hM,λb o e=>fx e,Nat.le_of_eq (QF _ _),trivial,λb hb=>absurd (show b∈([]:List Addr) from hb) (by simp),hok,.of_eq hg⟩
  refine codeAny_mono ((F _ hKb (nsK hns)).run callerA [] s₁ H ⟨[.ref a],[]⟩ [.ref a] [.ref a] _ _ hr e0 (hbind s₁ (.ref a)) (.cons rfl .nil) (hsp H hO hS)) λr s' h=>?_
  cases r with
  | error e=>exact (hCX H e s' h).elim
  | ok fl =>
   cases fl with
   | next=>exact False.elim h
   | brk=>exact False.elim h
   | cont=>exact False.elim h
   | ret u =>
    obtain⟨v,H',os,bare,un,hok',r',q⟩:=h
    have q':v=.bl true:=q
    subst q'
    obtain rfl:u=F9 true:=r'
    refine ⟨rfl,OldK.of_keep λb o e=>?_,os,bare⟩
    cases q:H b with
    | none=>exact un.keep b o e q (by intro z;exact absurd (show b∈([]:List Addr) from z) (by simp)) (by simp)
    | some u =>
     rcases hO b with z|⟨ob,xs,z⟩
     ·rw[q]at z;cases z
     ·have z2:=un.frzs b ob _ z
      obtain⟨e1,_⟩:=hok b _ z
      obtain⟨e2,_⟩:=hok' b _ z2
      rw[e]at e1;cases e1
      exact e2
 cases hk:K.lookup a with
 | some o =>
  have e:=KX a o hk
  rw[ha]at e
  cases e
  refine core (λ_=>none) (λ_=>.inl rfl) (.inr ⟨_,vs.toArray,_,hk,rfl,rfl,rfl,by rw[Z0,lenV];exact hl,by simpa using rv⟩) (λb u z=>by have z':(none:Option HO)=some u:=z;cases z') (λb z=>absurd rfl z) λz=>absurd rfl z
 | none =>
  refine core (λb=>if b=a then some (.frz { cls:=.type "list",data:=.seq vs.toArray } (.lst (ns.map V.int))) else none) (λb=>?_) (.inl (.inr ⟨{ cls:=.type "list",data:=.seq vs.toArray },if_pos rfl⟩)) (λb u z=>?_) (λb z=>?_) λ_=>hk
  ·by_cases hb:b=a
   ·exact .inr ⟨_,_,if_pos hb⟩
   ·exact .inl (if_neg hb)
  ·by_cases hb:b=a
   ·have z':=(if_pos hb).symm.trans z
    cases z'
    subst hb
    exact ⟨ha,by rw[A0];exact hl,vs,_,rv,ha⟩
   ·have z':=(if_neg hb).symm.trans z
    cases z'
  ·by_cases hb:b=a
   ·exact hb
   ·exact absurd (if_neg hb) z
theorem walk_of{l:Y8}{n k:Nat}{q:Program}{loose:List Str}{XP:(Str->Option Value)->Heap->Prop}{YP:World->Heap->Prop}{d:DefRec}{K:Params->J0}{CX:World->Cq}{sp:World->Sp}{x:Str}
  (hn:l.most=some n) (hn2:n<=sizeLine) (hdf:d.params.defaults=[]) (hr:Room k callerA)
  (hY:∀(w:World) (h:Heap),YP w h->(K w.params).In h)
  (F:∀(w:World) (mg:Str->Option Value) (fa:Addr) (h:Heap),(K w.params).In h->h.Ns mainGlobals mg->mg d.name=some (.ref fa) ->
    ∃fd:FuncData,(∀(s:Shared) (u:Value),BindsTo s fd ⟨[u],[]⟩ [(x,u)]) /\
      ∀base:Heap,(K w.params).In base->base.Ns mainGlobals mg->FnOk l.prog w (K w.params) mg base (CX w) k fa fd [x] (sp w))
  (hsp:∀(w:World) (H:Hp) (a:Addr) (ns:List Int),ns.length<=n->Oy H->SqL (K w.params) H a (ns.map V.int)->sp w [.ref a] H (λv _=>v=.bl true) λ_ _ _=>False)
  (hCX:∀(w:World) (H:Hp) (s:Shared) (e:Value) (s':Shared),CX w [] H s (λ_ _ _=>False) e s'->False) :
  PySem.W.WalkO q loose XP YP l.row.toRowW d [] (λf vs=>PySem.call f vs):=by
 refine Att.attach_call hn hdf λw s₀ s₁ mg mb fa o pm cd doc a vs ns G Y ho hd hcd hmg hobj hints hlen hg=>?_
 have KX:=hY w _ Y
 obtain⟨fd,hb,hF⟩:=F w mg fa _ KX G.T.g hmg
 exact Jq KX G.T.g G.T.b G.T.builtins G.T.nolimit hg hobj hints (L1 hlen hn2) hr hF hb (λH hO hS=>hsp w H a ns hlen hO hS) λH e s'=>hCX w H s₁ e s'
noncomputable def HZ(s:Stmt):Arguments:=match s with
 | .FunctionDef _ a _ _ _ _ _ _ _ _=>a
 | _=>{ posonlyargs:=[],args:=[],vararg:=none,kwonlyargs:=[],kw_defaults:=[],kwarg:=none,defaults:=[] }
noncomputable def XX(s:Stmt):List Stmt:=match s with
 | .FunctionDef _ _ b _ _ _ _ _ _ _=>b
 | _=>[]
noncomputable def gQ(s:Stmt):Scope:=match s with
 | .FunctionDef _ _ _ _ _ _ sc _ _ _=>sc
 | _=>{ kind:=.function,names:=[],isGenerator:=false,isCoroutine:=false }
noncomputable abbrev VZ:Cq:=λ_ _ _ _ _ _=>False
noncomputable abbrev E0:XK:=λ_ _ _=>False
theorem xC{X:Cx}:uH VZ X E0:=λ_ _ _ _ _ _ _ h=>h.elim
structure Fun(K:J0)(x qual:Str)(st:Stmt)(f:Addr)(fd:FuncData):Prop where
 ex:∃(oc:Value) (od:Option Addr) (kV doc pm:Value) (an:Option Addr) (cdv ct:Value) (osl:Array (Option Value)),
  fd=V5 x qual (HZ st) (XX st) (gQ st) .none kV doc pm an cdv ct/\K.lookup f=some ⟨oc,od,.func fd,osl⟩/\j8 K cdv qual=true
 kp:O5 K (.ref f)=true
section
variable {P:Program}{w:World}{K:J0}{mg:Str->Option Value}{base:Heap}
theorem Fun.ok{x qual:Str}{st:Stmt}{f:Addr}{fd:FuncData}{N ps:List Str}{k:Nat}{sp:Sp}(F:Fun K x qual st f fd)(S:FnScope N ps (gQ st))(len:∀vs H Q E,sp vs H Q E->vs.length=ps.length)
  (hbody:∀(cdv:Value) (A:Around) (outer:List Env) (s:Shared) (H:Hp) (vs:List V) (Q:VK) (E:XK),Room k (A.deeper (envOfC qual (gQ st) s.heap.objs.size f cdv))->sp vs H Q E ->
    ∃t,PSs (oU VZ P w K mg base N qual (gQ st) f cdv A outer s H E).nox (XX st) t/\t { nx:=λ_ H'=>Q .non H',rt:=Q } (start N vs) H):FnOk P w K mg base VZ (k+1) f fd ps sp:=by
 obtain⟨oc,od,kV,doc,pm,an,cdv,ct,osl,rfl,lk,hcd⟩:=F.ex
 refine rC lk hcd S len λA outer s H vs Q E hr hsp=>?_
 obtain⟨t,h,q⟩:=hbody cdv A outer s H vs Q E hr hsp
 exact ⟨t,h.nox,q⟩
theorem Fun.binds{x qual:Str}{st:Stmt}{f:Addr}{fd:FuncData}{ps:List Str}(F:Fun K x qual st f fd)
  (h:∀(kV doc pm:Value) (an:Option Addr) (cdv ct:Value) (us:List Value),us.length=ps.length->bindArgs (V5 x qual (HZ st) (XX st) (gQ st) .none kV doc pm an cdv ct) ⟨us,[]⟩=pure (ps.zip us)):Binds K fd ps []:=by
 obtain⟨oc,od,kV,doc,pm,an,cdv,ct,osl,rfl,lk,hcd⟩:=F.ex
 exact .all (h kV doc pm an cdv ct)
theorem Py{x qual:Str}{st:Stmt}{f:Addr}{oc:Value}{od an:Option Addr}{osl:Array (Option Value)}{kV doc pm cdv ct:Value}(l:K.lookup f=some ⟨oc,od,.func (V5 x qual (HZ st) (XX st) (gQ st) .none kV doc pm an cdv ct),osl⟩)
  (c:j8 K cdv qual=true) (k:O5 K (.ref f)=true):Fun K x qual st f (V5 x qual (HZ st) (XX st) (gQ st) .none kV doc pm an cdv ct):=⟨⟨oc,od,kV,doc,pm,an,cdv,ct,osl,rfl,l,c⟩,k⟩
end
theorem Kq{A:Around}{k:Nat}(hr:Room k A):A.units+1 < cLine:=W3 (x9 (by decide:1<=64) _) hr.units
section
variable {X:Cx}
end
theorem mZ{c A B:Prop}[Decidable c](h1:c->A)(h2:¬c->B):if c then A else B:=by
 by_cases h:c
 ·rw[if_pos h]
  exact h1 h
 ·rw[if_neg h]
  exact h2 h
section
variable {κ:Type}[DecidableEq κ]
end
noncomputable def IZ(cells:List (Str×Addr)):List (Str×NameKind)->List (Str×Addr)->List (Str×Addr)
 | [],acc=>acc
 | (n,k) :: r,acc=>IZ cells r (if k==.free then (n,(cells.lookup n).getD 0) :: acc else acc)
theorem FY{env:Env}{sc:Scope}(h:∀y∈sc.names,y.2=.free->∃c,env.cells.lookup y.1=some c):closureFor sc env=pure (IZ env.cells sc.names []):=by
 have go:∀(l:List (Str×NameKind)) (acc:List (Str×Addr)),(∀y∈l,y.2=.free->∃c,env.cells.lookup y.1=some c) ->
   (forIn l acc λ(x:Str×NameKind) r=>(if (x.2==NameKind.free)=true then (do let a<-cellOf env x.1;pure (ForInStep.yield ((x.1,a) :: r))) else pure (ForInStep.yield r):Sem (ForInStep (List (Str×Addr)))))=pure (IZ env.cells l acc):=by
  intro l
  induction l with
  | nil=>intro acc _;rfl
  | cons y r ih =>
   intro acc hl
   obtain⟨n,k⟩:=y
   rw[B5]
   by_cases hk:(k==NameKind.free)=true
   ·obtain⟨c,hc⟩:=hl (n,k) O0 (by simpa using hk)
    have hc:env.cells.lookup n=some c:=hc
    simp only[hk,if_true,cellOf,hc,pure_bind,IZ,F7]
    exact ih _ λy hy=>hl y (K0 _ hy)
   ·simp only[hk,if_false,pure_bind,IZ]
    exact ih _ λy hy=>hl y (K0 _ hy)
 have e:=go sc.names [] h
 unfold closureFor
 show (forIn sc.names [] _ >>= λcs=>pure cs)=_
 rw[show (forIn sc.names ([]:List (Str×Addr)) λ(x:Str×NameKind) r=>(match x with|(name,kind)=>if (kind==NameKind.free)=true then (do let a<-cellOf env name;pure (ForInStep.yield ((name,a) :: r))) else pure (ForInStep.yield r):Sem (ForInStep (List (Str×Addr)))))=pure (IZ env.cells sc.names []) from e]
 rfl
theorem bJ{cells:List (Str×Addr)}{x:Str}{c:Addr}:∀{l:List (Str×NameKind)}{acc:List (Str×Addr)},(∀y∈l,y.2=.free->∃c,cells.lookup y.1=some c)->(IZ cells l acc).lookup x=some c ->
  acc.lookup x=some c\/cells.lookup x=some c
 | [],acc,_,h=>.inl h
 | (n,k) :: r,acc,hl,h=>by
  have ih:=bJ (l:=r) (λy hy=>hl y (K0 _ hy)) h
  rcases ih with ih|ih
  ·by_cases hk:(k==NameKind.free)=true
   ·rw[if_pos hk,i4]at ih
    obtain⟨c',hc⟩:=hl (n,k) O0 (by simpa using hk)
    have hc:cells.lookup n=some c':=hc
    cases e:x==n with
    | true =>
     rw[e]at ih
     have:x=n:=by simpa using e
     subst this
     simp only[hc,F7,Option.some.injEq]at ih
     subst ih
     exact .inr hc
    | false=>rw[e]at ih;exact .inl ih
   ·rw[if_neg hk]at ih;exact .inl ih
  ·exact .inr ih
theorem GY{cells:List (Str×Addr)}{x:Str}:∀{l:List (Str×NameKind)}{acc:List (Str×Addr)},((∃c,acc.lookup x=some c)\/l.lookup x=some .free)->∃c,(IZ cells l acc).lookup x=some c
 | [],acc,h=>by
  rcases h with h|h
  ·exact h
  ·simp at h
 | (n,k) :: r,acc,h=>by
  refine GY (l:=r) ?_
  rcases h with⟨c,h⟩|h
  ·left
   by_cases hk:(k==NameKind.free)=true
   ·rw[if_pos hk,i4]
    cases x==n with
    | true=>exact ⟨_,rfl⟩
    | false=>exact ⟨c,h⟩
   ·rw[if_neg hk];exact ⟨c,h⟩
  ·rw[i4]at h
   cases e:x==n with
   | true =>
    rw[e]at h
    have hk:k=.free:=V1 h
    left
    subst hk
    rw[if_pos (by decide),i4,e]
    exact ⟨_,rfl⟩
   | false=>rw[e]at h;exact .inr h
theorem cJ{env:Env}{x:Str}:∀{names:List (Str×NameKind)},
  (names.map λ(n,k)=>if (k==NameKind.free&&env.scope.kind==.function&&env.kindOf n==some .cell) then (n,NameKind.cell) else (n,k)).lookup x =
   (names.lookup x).map λk=>if (k==NameKind.free&&env.scope.kind==.function&&env.kindOf x==some .cell) then .cell else k
 | []=>rfl
 | (n,k) :: r=>by
  have ih:=@cJ env x r
  rw[J3]
  show r8 x ((if (k==NameKind.free&&env.scope.kind==.function&&env.kindOf n==some .cell)=true then (n,NameKind.cell) else (n,k)) :: _)=_
  cases hx:x==n with
  | true =>
   have e:x=n:=by simpa using hx
   subst e
   by_cases hc:(k==NameKind.free&&env.scope.kind==.function&&env.kindOf x==some .cell)=true
   ·rw[if_pos hc];simp only[i4,hx,E5];rw[if_pos hc]
   ·rw[if_neg hc];simp only[i4,hx,E5];rw[if_neg hc]
  | false =>
   by_cases hc:(k==NameKind.free&&env.scope.kind==.function&&env.kindOf n==some .cell)=true
   ·rw[if_pos hc];simp only[i4,hx];exact ih
   ·rw[if_neg hc];simp only[i4,hx];exact ih
theorem dJ(sc:Scope)(env:Env)(x:Str):(relabel sc env).names.lookup x=(sc.names.lookup x).map λk=>if (k==NameKind.free&&env.scope.kind==.function&&env.kindOf x==some .cell) then .cell else k:=cJ
theorem JZ:∀(names:List (Str×NameKind)) (n:Nat) (acc:List (Str×Addr)),cellsFrom n names acc=cellsFrom n names []++acc
 | [],_,_=>rfl
 | (x,k) :: r,n,acc=>by
  unfold cellsFrom
  split
  ·rw[JZ r (n+1) ((x,n) :: acc),JZ r (n+1) [(x,n)],P2];rfl
  ·exact JZ r n acc
theorem HY{x:Str}{c:Addr}:∀(names:List (Str×NameKind)) (n:Nat),(x,c)∈cellsFrom n names []->(x,NameKind.cell)∈names/\n<=c
 | [],_,h=>by cases h
 | (y,k) :: r,n,h=>by
  unfold cellsFrom at h
  split at h
  ·rename_i hk
   have hk:k=.cell:=by simpa using hk
   rw[JZ,G4]at h
   rcases h with h|h
   ·have:=HY r (n+1) h
    exact ⟨K0 _ this.1,by omega⟩
   ·have h:(x,c)=(y,n):=by simpa using h
    cases h
    subst hk
    exact ⟨O0,R0 _⟩
  ·have:=HY r n h
   exact ⟨K0 _ this.1,this.2⟩
theorem UX{α:Type}{x:Str}:∀{l m:List (Str×α)},(l++m).lookup x=(l.lookup x).or (m.lookup x)
 | [],_=>rfl
 | (y,v) :: l,m=>by
  rw[P6,i4,i4]
  cases x==y with
  | true=>rfl
  | false=>exact UX
theorem EK{M:Model}{A:Around}{E:Value->Shared->Prop}{s:Shared}{scope:Scope}{globals:Addr}{closure:List (Str×Addr)}{qual:Str}{env:Env}{Q:Env->Shared->Prop}
  (hQ:Q (newEnv scope s.heap.objs.size globals (cellsFrom (s.heap.objs.size+1) scope.names closure) qual none .none (some env) builtinsNs) { s with heap:=pushCells (s.heap.push { cls:=.type "dict",data:=.dict #[] }) scope.names }) :
  wpAny M A (newFunctionEnv scope globals closure [] qual none .none (some env)) Q E s:=by
 simp only[newFunctionEnv,Option.isSome_some,if_true]
 refine wpAny_bind (wpAny_alloc ?_)
 refine wpAny_bind (wpAny_layCells _ (λname kind cells=>by cases hkc:kind==NameKind.cell<;>simp[hkc]) _ _ _ _ ?_)
 rw[show ({ s with heap:=s.heap.push { cls:=.type "dict",data:=.dict #[] } }:Shared).heap.objs.size=s.heap.objs.size+1 from O1 ..]
 refine wpAny_bind ?_
 rw[P5]
 exact wpAny_pure (wpAny_pure hQ)
noncomputable def yC(N:List Str)(fr:List Nat):List Str:=fr.map λi=>N.getD i Str.empty
noncomputable def SB(σ:St)(fr:List Nat):St:=fr.map λi=>(σ[i]?).getD none
noncomputable def AQ(X:Cx)(own:List Str)(fr:List Nat)(sc:Scope)(C:Addr)(s:Shared)(H:Hp)(ex:List Addr):Cx where
 prog:=X.prog
 w:=X.w
 K:=X.K
 mg:=X.mg
 base:=X.base
 A:=X.A
 N:=own++yC X.N fr
 s₀:=s
 H₀:=H
 env:=compEnvC sc (cellsFrom (C+1) sc.names (IZ X.env.cells sc.names [])) C X.env
 outer:=X.stack
 stack:=X.stack
 ex:=ex
 fn:=λx=>sc.names.lookup x==some .cell
 calm:=X.calm
 pn:=[]
 xe:=λ_ _=>False
noncomputable def Qy(own:List Str)(σ:St)(fr:List Nat):St:=own.map (λ_=>none)++SB σ fr
structure CompSc(X:Cx)(own:List Str)(fr:List Nat)(sc:Scope):Prop where
 kind:sc.kind=.function
 cells:∀y∈sc.names,y.2=.cell->sc.names.lookup y.1=some .cell
 loc:∀y∈sc.names,y.2=.local->sc.names.lookup y.1=some .local
 free:∀y∈sc.names,y.2=.free->X.env.kindOf y.1=some .cell\/X.env.kindOf y.1=some .free
 fr:∀i∈fr,∃x,X.N[i]?=some x/\sc.names.lookup x=some .free
theorem wH{X:Cx}{own:List Str}{fr:List Nat}{sc:Scope}{pins:List (Addr×Obj)}{σ:St}{H:Hp}{s:Shared}{fp:List Addr}{C D:Addr}{h1:Heap}{tk:Nat}{oD:Obj}
  (S:CompSc X own fr sc) (I:Inv X pins σ H s) (hf:∀b∈fp,cY X pins H b) (hfo:∀b∈fp,∃o,s.heap.get? b=some o) (hC:s.heap.objs.size<=C) (hD:s.heap.objs.size<=D) (hDC:D≠C) (hn:h1.Ns C λx=>([]:List (Str×Value)).reverse.lookup x)
  (hk:∀b o,s.heap.get? b=some o->h1.get? b=some o) (hcl:∀x c,(x,c)∈cellsFrom (C+1) sc.names []->h1.IsCell c none) (hap:(cellsFrom (C+1) sc.names []).Pairwise λx y=>x.2≠y.2) (hoD:h1.get? D=some oD) (hdD:∀v,oD.data≠.cell v) :
  Inv (AQ X own fr sc C s H fp) [(D,oD)] (Qy own σ fr) H { s with heap:=h1,toks:=tk }:=by
 have hfree:∀y∈sc.names,y.2=.free->∃c,X.env.cells.lookup y.1=some c:=λy hy e=>I.ok.has y.1 (S.free y hy e)
 have cl1:∀x c,(IZ X.env.cells sc.names []).lookup x=some c->X.env.cells.lookup x=some c:=λx c e=>by
  rcases bJ hfree e with z|z
  ·simp at z
  ·exact z
 have cl2:∀x c,(cellsFrom (C+1) sc.names (IZ X.env.cells sc.names [])).lookup x=some c->(x,c)∈cellsFrom (C+1) sc.names []\/X.env.cells.lookup x=some c:=λx c e=>by
  rw[JZ,UX]at e
  cases q:(cellsFrom (C+1) sc.names []).lookup x with
  | none=>rw[q]at e;exact .inr (cl1 x c e)
  | some c'=>rw[q]at e;cases e;exact .inl (PySem.mem_of_lookup q)
 have new:∀x c,(x,c)∈cellsFrom (C+1) sc.names []->C+1<=c:=λx c h=>(HY _ _ h).2
 have oldc:∀x c,X.env.cells.lookup x=some c->c < s.heap.objs.size:=λx c e=>by
  obtain⟨v,q⟩:=I.cell x c e
  exact q.lt
 have kin:∀x k,(relabel sc X.env).names.lookup x=some k->k=.cell\/k=.free->sc.names.lookup x=some .free\/sc.names.lookup x=some .cell:=λx k e hk=>by
  rw[dJ]at e
  cases q:sc.names.lookup x with
  | none=>rw[q]at e;cases e
  | some j =>
   rw[q,E5,Option.some.injEq]at e
   by_cases hj:j=.free
   ·rw[hj];exact .inl rfl
   ·have hne:(j==NameKind.free)=false:=by simpa using hj
    rw[hne,j9,j9,if_neg (by simp)]at e
    subst e
    rcases hk with z|z
    ·rw[z];exact .inr rfl
    ·exact absurd z hj
 have kout:∀x,sc.names.lookup x=some .free->((relabel sc X.env).names.lookup x=some .cell\/(relabel sc X.env).names.lookup x=some .free):=λx e=>by
  rw[dJ,e,E5]
  by_cases h:(NameKind.free==NameKind.free&&X.env.scope.kind==.function&&X.env.kindOf x==some .cell)=true
  ·rw[if_pos h];exact .inl rfl
  ·rw[if_neg h];exact .inr rfl
 have okc:∀b∈fp,b < s.heap.objs.size:=λb hb=>by obtain⟨o,e⟩:=hfo b hb;exact L0 e
 have fresh:∀{a:Addr},s.heap.objs.size<=a->H a=none:=λh=>I.hok.fresh h
 have ok:(AQ X own fr sc C s H fp).Ok:={
   mod:=I.ok.mod
   kind:=S.kind
   glob:=I.ok.glob
   blt:=I.ok.blt
   above:=hC
   inj:=λx y c h1 h2=>by
     have hC:s.heap.objs.size<=C:=hC
     rcases cl2 x c h1 with a|a<;>rcases cl2 y c h2 with b|b
     · exact name_of_addr hap a b
     · have:=new x c a;have:=oldc y c b;exact absurd (S0 (oldc y c b) (L1 hC (X5 (new x c a)))) (O3 _)
     · exact absurd (S0 (oldc x c a) (L1 hC (X5 (new y c b)))) (O3 _)
     · exact I.ok.inj x y c a b
   has:=λx hx=>by
     have hx:sc.names.lookup x=some .free\/sc.names.lookup x=some .cell:=by
       rcases hx with hx|hx
       · exact kin x _ hx (.inl rfl)
       · exact kin x _ hx (.inr rfl)
     show ∃c,(cellsFrom (C+1) sc.names (IZ X.env.cells sc.names [])).lookup x=some c
     rw[JZ,UX]
     rcases hx with hx|hx
     · obtain⟨c,e⟩:=GY (cells:=X.env.cells) (x:=x) (l:=sc.names) (acc:=[]) (.inr hx)
       rw[e]
       cases (cellsFrom (C+1) sc.names []).lookup x with
       | none=>exact ⟨c,rfl⟩
       | some c'=>exact ⟨c',rfl⟩
     · obtain⟨c,e⟩:=eK (n:=C+1) hx
       rw[e]
       exact ⟨c,rfl⟩
   cab:=λx c h e=>by
     have h:sc.names.lookup x=some .cell:=by simpa [AQ]using h
     have e:(cellsFrom (C+1) sc.names (IZ X.env.cells sc.names [])).lookup x=some c:=e
     obtain⟨c',q⟩:=eK (n:=C+1) h
     rw[JZ,UX,q]at e
     cases e
     exact L1 hC (X5 (new x _ (PySem.mem_of_lookup q)))
   hd:=I.ok.hd
   frames:=I.ok.frames
   stk:=.inl rfl
   exf:=λb hb=>⟨W0 (S0 (okc b hb) hC),λx c e=>by
     rcases cl2 x c e with z|z
     · exact Z1 (S0 (okc b hb) (L1 hC (X5 (new x c z))))
     · exact (hf b hb).2.2.2.2.1 x c z⟩
   bs:=I.bs
   bsz:=L1 I.ok.bsz I.sz
   noex:=λb o e hb=>by
     rcases (hf b hb).2.2.2.1 with z|z
     · exact I.ok.noex b o e z
     · exact absurd (S0 (L0 e) (L1 I.ok.bsz z)) (O3 _)
   exfs:=λb hb hm=>by
     rcases V0.mp (I.stkSub b hm) with z|z
     · exact (hf b hb).2.1 z
     · exact (hf b hb).2.2.1 z
   funs:=I.stack
   frf:=I.stkFree }
 refine ⟨ok,rfl,I.bare,Un.kept hk,⟨_,hn,λi x v e1 e2 e3=>?_⟩,λx c e=>?_,fresh hC,λx c e=>?_,λp hp=>?_,I.hok.kept hk,?_⟩
 ·have e1:(own++yC X.N fr)[i]?=some x:=e1
  have e2:(own.map (λ_=>(none:Option V))++SB σ fr)[i]?=some (some v):=e2
  by_cases hi:i < own.length
  ·rw[B3 (by simpa using hi),X0]at e2
   cases q:own[i]? with
   | none=>rw[q]at e2;cases e2
   | some z=>rw[q]at e2;cases e2
  ·rw[Y1 (by omega)]at e1
   rw[Y1 (by simpa using hi),A0]at e2
   unfold yC at e1
   unfold SB at e2
   rw[X0]at e1 e2
   cases q:fr[i - own.length]? with
   | none=>rw[q]at e1;cases e1
   | some j =>
    rw[q,E5,Option.some.injEq]at e1 e2
    obtain⟨y,hy,hyf⟩:=S.fr j (W2 q)
    rw[Y3,hy,F7]at e1
    subst e1
    have e2':σ[j]?=some (some v):=by
     cases r:σ[j]? with
     | none=>rw[r]at e2;cases e2
     | some z=>rw[r,F7]at e2;rw[e2]
    have hkf:X.env.kindOf y=some .cell\/X.env.kindOf y=some .free:=S.free (y,.free) (PySem.mem_of_lookup hyf) rfl
    obtain⟨m,hm,hl⟩:=I.loc
    have vis:cC X.env.scope y:=by
     rcases hkf with z|z
     ·exact .inr (.inl z)
     ·exact .inr (.inr z)
    obtain⟨u,r,l⟩:=hl j y v hy e2' vis
    refine ⟨u,r,?_⟩
    rcases l with⟨k,_⟩|⟨k,c,hc,z⟩
    ·rcases hkf with k'|k'<;>rw[k]at k'<;>cases k'
    ·refine .inr ⟨kout y hyf,?_⟩
     obtain⟨c',hc'⟩:∃c',(IZ X.env.cells sc.names []).lookup y=some c':=GY (.inr hyf)
     have:c'=c:=V1 ((cl1 y c' hc').symm.trans hc)
     subst this
     obtain⟨o,ho,hd⟩:=z
     refine ⟨c',?_,o,hk _ _ ho,hd⟩
     show (cellsFrom (C+1) sc.names (IZ X.env.cells sc.names [])).lookup y=some c'
     rw[JZ,UX,hc']
     cases q:(cellsFrom (C+1) sc.names []).lookup y with
     | none=>rfl
     | some c2 =>
      have:=S.cells _ (HY _ _ (PySem.mem_of_lookup q)).1 rfl
      rw[hyf]at this
      cases this
 ·rcases cl2 x c e with z|z
  ·exact ⟨_,hcl x c z⟩
  ·obtain⟨v,o,ho,hd⟩:=I.cell x c z
   exact ⟨v,o,hk _ _ ho,hd⟩
 ·rcases cl2 x c e with z|z
  ·exact fresh (L1 hC (X5 (new x c z)))
  ·exact I.freeC x c z
 ·have e:p=(D,oD):=by
   have:p∈([]:List (Addr×Obj))++[(D,oD)]:=hp
   simpa using this
  subst e
  refine ⟨hoD,fresh hD,hDC,λhm=>?_,hdD⟩
  have hm:D∈CG X.stack:=hm
  obtain⟨_,o,ho,_⟩:=I.stack.mem hm
  exact absurd (S0 (L0 ho) hD) (O3 _)
 ·show (own.map (λ_=>(none:Option V))++SB σ fr).length=(own++yC X.N fr).length
  simp[SB,yC]
theorem Lq{X:Cx}{own:List Str}{fr:List Nat}{sc:Scope}{pins:List (Addr×Obj)}{σ σ':St}{H H':Hp}{s s':Shared}{fp:List Addr}{C D:Addr}{oD:Obj}{ys:List V}{us:List Value}{n:Nat}
  (I:Inv X pins σ H s) (hf:∀b∈fp,cY X pins H b) (hC:s.heap.objs.size<=C) (hD:s.heap.objs.size<=D) (hDC:D≠C)
  (J:Inv (AQ X own fr sc C s H fp) [(D,oD)] σ' H' s') (ho:oD={ cls:=.type "list",data:=.seq us.toArray n }) (r:Vals ys us) (hz:ys.length<=sizeLine) :
  Inv X pins σ (NQ H' D (.lst ys)) s'/\(∃m,s'.heap.Ns C m)/\cY X pins (NQ H' D (.lst ys)) C:=by
 have pD:=J.pin (D,oD) (by simp[AQ])
 have hHD:H' D=none:=pD.2.1
 have u:Un (CG X.stack) fp H H' s.heap s'.heap:=J.base
 have lt:∀b o,s.heap.get? b=some o->b≠D:=λb o e=>W0 (S0 (L0 e) hD)
 have u2:Un (CG X.stack) fp H (NQ H' D (.lst ys)) s.heap s'.heap :=
  ⟨u.keep,u.slot,λb o e n hx=>by rw[dQ (lt b o e)];exact u.free b o e n hx,u.there,λb xs e=>by rw[dQ (jQ (u.tups b xs e) hHD)];exact u.tups b xs e,
    λb o x e=>by rw[dQ (jQ (u.frzs b o x e) hHD)];exact u.frzs b o x e,λb ps e=>by
      obtain⟨more,q⟩:=u.tbls b ps e
      exact ⟨more,by rw[dQ (jQ q hHD)];exact q⟩⟩
 have hok:HOk X.prog X.w (NQ H' D (.lst ys)) s'.heap:=λb o e=>by
  by_cases hb:b=D
  ·subst hb
   rw[iQ]at e
   cases e
   exact ⟨hz,us,n,r,by rw[<- ho];exact pD.1⟩
  ·rw[dQ hb]at e
   exact (J.hok b o e).stay (λ_ _ _ q=>q) (λc q=>by rw[dQ (jQ q hHD)];exact q) λc xs q=>by rw[dQ (jQ q hHD)];exact q
 refine ⟨I.call' (ch:=fp) J.os u2 hok J.bare λb hb=>?_,?_,?_⟩
 ·obtain⟨f0,f1,f2,f3,f4,f5⟩:=hf b hb
  exact ⟨f3,f1,f4,f5⟩
 ·obtain⟨m,hm,_⟩:=J.loc
  exact ⟨m,hm⟩
 ·have hfree:H' C=none:=J.free
  refine ⟨by rw[dQ (Z2 hDC)];exact hfree,?_⟩
  exact (I.fpOk hC (I.hok.fresh hC)).2
theorem eJ{prog:Program}{w:World}{A:Around}{R:Result->Shared->Prop}{s:Shared}{elt target iter:Expr}{ifs:List Expr}{scope:Scope}{pos:Pos}{it acc:Value}{env:Env}(I:Nat->Shared->Prop)
  (turn:∀n s,I n s->wpAny (model prog w) A (pyNext it) (λr s₁=>match r with
    | none=>R (.ok .next) s₁
    | some v=>wpAny (model prog w) A (letOwnedTupleGo target it v) (λ_ s₁'=>wpAny (model prog w) A (assign target env v) (λ_ s₂ =>
        wpAny (model prog w) A (forIn ifs true λc r=>if r=true then do let ok<-isTrue c env (eval c env);pure (ForInStep.yield ok) else pure (ForInStep.yield r)) (λok s₃ =>
          if ok=true then wpAny (model prog w) A (eval elt env) (λx s₄ =>
            wpAny (model prog w) A (call (.builtin "list.append") [acc,x]) (λ_ s₅=>∃m,m < n/\I m s₅) (λ_ _=>False) s₄) (λ_ _=>False) s₃
          else ∃m,m < n/\I m s₃) (λ_ _=>False) s₂) (λ_ _=>False) s₁') (λ_ _=>False) s₁) (λ_ _=>False) s)
  (n:Nat) (h:I n s) :
  codeAny (model prog w) A (.compLoop (.ListComp elt [⟨target,iter,ifs,0⟩] scope pos) 0 it acc env) R s:=by
 refine codeAny_loop rfl I (λn s hI=>?_) n h
 show wpAny _ A ((compTurn (.ListComp elt [⟨target,iter,ifs,0⟩] scope pos) 0 it acc env).onRaise (λx=>do noteFrame x env;theTreesLotGoes x)) _ _ s
 refine wpAny_noted ?_
 rw[compTurn_list]
 refine wpAny_bind (wpAny_standAt (wpAny_bind (wpAny_mono (turn n s hI) (λr s₁ h₁=>?_) λ_ _ h'=>h'.elim)))
 cases r with
 | none=>exact wpAny_pure h₁
 | some v =>
  refine wpAny_bind (wpAny_mono h₁ (λ_ s₁' h₁'=>?_) λ_ _ h'=>h'.elim)
  refine wpAny_bind (wpAny_mono h₁' (λ_ s₂ h₂=>wpAny_bind (wpAny_mono h₂ (λok s₃ h₃=>?_) λ_ _ h'=>h'.elim)) λ_ _ h'=>h'.elim)
  cases ok with
  | false=>exact wpAny_pure ⟨rfl,h₃⟩
  | true =>
   exact wpAny_bind (wpAny_bind (wpAny_mono h₃ (λx s₄ h₄=>wpAny_bind (wpAny_mono h₄ (λ_ s₅ h₅=>wpAny_pure (wpAny_pure ⟨rfl,h₅⟩)) λ_ _ h'=>h'.elim)) λ_ _ h'=>h'.elim))
noncomputable def Mq(X:Cx)(ifs:List Expr)(t:TT):Prop :=
 ∀(pins:List (Addr×Obj)) (s:Shared) (σ:St) (H:Hp) (Q:Bool->Hp->Prop),Inv X pins σ H s->t σ H Q ->
  wpAny (model X.prog X.w) X.A (forIn ifs true λc r=>if r=true then do let ok<-isTrue c X.env (eval c X.env);pure (ForInStep.yield ok) else pure (ForInStep.yield r)) (TP X pins σ Q) X.xe s
noncomputable def zC:TT:=λ_ H Q=>Q true H
theorem Ry{X:Cx}:Mq X [] zC:=λ_ _ _ H _ I h=>wpAny_tests_nil ⟨H,I,h⟩
theorem Ty{X:Cx}{c:Expr}{t:TT}(h:PT X c t):Mq X [c] t:=λpins s σ H Q I hw=>wpAny_tests_one (h pins s σ H Q I hw)
noncomputable def Rw(wi:TI)(own:List Str)(fr:List Nat)(g:TG)(tc:TT)(te:TE):TE:=λσ H Q=>wi σ H λJ H1=>∃W:Nat->Nat->List V->St->Hp->Prop,(∃m,W 0 m [] (Qy own σ fr) H1)/\∀i m ys τ H,W i m ys τ H ->
 (J.stop i H/\∀D,H D=none->Q (.ref D) (NQ H D (.lst ys))) \/
 (J.go i H/\ys.length < sizeLine/\∃N:List V->St->Hp->Prop,(∀ys' τ' H',N ys' τ' H'->∃m',m' < m/\W (i+1) m' ys' τ' H')/\∀x H',J.yld i H x H'->g x τ H' λτ2 H2 =>
   tc τ2 H2 λb H3=>if b=true then te τ2 H3 λy H4=>N (ys++[y]) τ2 H4 else N ys τ2 H3)
theorem XF{X:Cx}{D:Addr}{us:List Value}{k:Nat}{pl:List (Addr×Obj)}{σ:St}{H:Hp}{s:Shared}{u:Value}{Q:Value->Shared->Prop}{E:Value->Shared->Prop}
  (I:Inv X ([(D,{ cls:=.type "list",data:=.seq us.toArray k })]++pl) σ H s) (h1:X.s₀.heap.objs.size<=D) (h2:∀x c,X.env.cells.lookup x=some c->c≠D) (h3:∀p∈X.pn++pl,p.1≠D) (hz:us.length < sizeLine)
  (h:∀k' s',Inv X ([(D,{ cls:=.type "list",data:=.seq (us++[u]).toArray k' })]++pl) σ H s'->Q .none s'):wpAny (model X.prog X.w) X.A (call (.builtin "list.append") [.ref D,u]) Q E s:=by
 obtain⟨e,hn,hL,hF,_⟩:=I.pin (D,{ cls:=.type "list",data:=.seq us.toArray k }) (S1 _ (M6 _ (Y2.mpr rfl)))
 dsimp only at e hn hL hF
 have I0:Inv X pl σ H s:=I.pins_of λp hp=>I.pin p (S1 _ (S1 _ hp))
 refine call_meets F.slot_list_append ⟨_,e,rfl⟩ F.entry_list_append (F.args_list_append_2 _ _) (PySem.list_append D us.toArray k u (by rw[Z0];omega)) ⟨e,?_⟩
 have q:=PySem.IsL.update e λxs=>xs.push u
 rw[show us.toArray.push u=(us++[u]).toArray by simp]at q
 have I1:Inv X pl σ H { s with heap:=s.heap.update D (B2 λxs=>xs.push u),toks:=s.toks } :=
  I0.turned (it:=D) (λb o hb ho=>(v6 s.heap (B2 λxs=>xs.push u) (Z2 hb)).trans ho) hn hL (.inr h1) h2 h3
 obtain⟨k',q⟩:∃k',(s.heap.update D (B2 λxs=>xs.push u)).get? D=some { cls:=.type "list",data:=.seq (us++[u]).toArray k' }:=⟨_,q⟩
 refine h k' _ (I1.pins_of (pins':=[(D,{ cls:=.type "list",data:=.seq (us++[u]).toArray k' })]++pl) λp hp=>?_)
 rcases G4.mp hp with z|z
 ·have z:p=_:=Y2.mp z
  subst z
  exact ⟨q,hn,hL,hF,λv z=>by cases z⟩
 ·exact I1.pin p (S1 _ z)
theorem IY{X:Cx}{tg iter elt:Expr}{ifs:List Expr}{sc:Scope}{pos:Pos}{own:List Str}{fr:List Nat}{g:TG}{tc:TT}{te:TE}{pins:List (Addr×Obj)}{σ:St}{H2:Hp}{s2:Shared}{it:Addr}{fp:List Addr}{tn:Nat->Heap->Prop}{J:It}{Q:VK}{E:Value->Shared->Prop}
  {RR:Value->Addr->Result->Shared->Prop}
  (hc:X.calm=true) (S:CompSc X own fr sc) (I2:Inv X pins σ H2 s2) (T:Turn X.prog X.w X.K tg J fp it tn) (st2:tn 0 s2.heap) (f2:∀b∈fp,cY X pins H2 b)
  (hg:∀C ex,PG (AQ X own fr sc C s2 H2 ex) tg g) (hif:∀C ex,Mq (AQ X own fr sc C s2 H2 ex) ifs tc) (he:∀C ex,PE (AQ X own fr sc C s2 H2 ex) elt te)
  (W:Nat->Nat->List V->St->Hp->Prop) (m0:Nat) (w0:W 0 m0 [] (Qy own σ fr) H2)
  (turn:∀i m ys τ H,W i m ys τ H->(J.stop i H/\∀D,H D=none->Q (.ref D) (NQ H D (.lst ys))) \/
    (J.go i H/\ys.length < sizeLine/\∃N:List V->St->Hp->Prop,(∀ys' τ' H',N ys' τ' H'->∃m',m' < m/\W (i+1) m' ys' τ' H')/\∀x H',J.yld i H x H'->g x τ H' λτ2 H2 =>
      tc τ2 H2 λb H3=>if b=true then te τ2 H3 λy H4=>N (ys++[y]) τ2 H4 else N ys τ2 H3))
  (hRR:∀D C H s',Inv X pins σ H s'->Q (.ref D) H->(∃m,s'.heap.Ns C m)->cY X pins H C->RR (.ref D) C (.ok .next) s') :
  wpAny (model X.prog X.w) X.A (newList []) (λacc s₃=>wpAny (model X.prog X.w) X.A (newFunctionEnv sc X.env.globals (IZ X.env.cells sc.names []) [] X.env.qual none .none (some X.env)) (λcenv s₄ =>
    codeAny (model X.prog X.w) X.A (.compStart (.ListComp elt [⟨tg,iter,ifs,0⟩] sc pos) 0 (.ref it) acc { cenv with scope:=relabel sc X.env }) (RR acc cenv.locals) s₄) E s₃) E s2:=by
 refine wpAny_newObj_type (EK ?_)
 dsimp only
 generalize hH2:s2.heap.push { cls:=.type "list",dict:=none,data:=.seq ([]:List Value).toArray }=G
 generalize hh1:pushCells (G.push { cls:=.type "dict",data:=.dict #[] }) sc.names=h₁
 have kp:∀b o,(G.push { cls:=.type "dict",data:=.dict #[] }).get? b=some o->h₁.get? b=some o:=λb o e=>hh1 ▸ pushCells_keeps _ _ b o e
 have hns₁:h₁.Ns G.objs.size λx=>([]:List (Str×Value)).reverse.lookup x:=(Heap.Ns.new G (.type "dict")).keeps kp
 have cok:CellsOk h₁ (G.objs.size+1) (cellsFrom (G.objs.size+1) sc.names []):=by
  have:=cellsFrom_ok sc.names (G.push { cls:=.type "dict",data:=.dict #[] }) (G.objs.size+1) [] ⟨λ_ _ hm=>(nomatch hm),List.Pairwise.nil⟩ (by rw[O1];exact R0 _)
  rw[O1,hh1]at this
  exact this
 have hC:G.objs.size=s2.heap.objs.size+1:=by rw[<- hH2,O1]
 have hCle:s2.heap.objs.size<=G.objs.size:=by rw[hC];exact U5 _
 have hDC:s2.heap.objs.size≠G.objs.size:=by rw[hC];exact W0 (t6 _)
 have old:∀b o,s2.heap.get? b=some o->h₁.get? b=some o:=λb o e=>kp b o (j0 _ (hH2 ▸ j0 _ e))
 have hacc:h₁.get? s2.heap.objs.size=some { cls:=.type "list",data:=.seq ([]:List Value).toArray }:=kp _ _ (j0 _ (hH2 ▸ G0 _ rfl))
 have st0':tn 0 h₁:=T.keep _ _ _ st2 λb hb o e=>old b o e
 have fo:∀b∈fp,∃o,s2.heap.get? b=some o:=λb hb=>let ⟨o,e,_⟩:=T.obj _ _ st2 b hb;⟨o,e⟩
 have flt:∀b∈fp,b < s2.heap.objs.size:=λb hb=>by obtain⟨o,e⟩:=fo b hb;exact L0 e
 have clb:∀x c,(IZ X.env.cells sc.names []).lookup x=some c->X.env.cells.lookup x=some c:=λx c e=>by
  rcases bJ (λy hy e=>I2.ok.has y.1 (S.free y hy e)) e with z|z
  ·simp at z
  ·exact z
 have clb2:∀(C':Addr) x c,(cellsFrom (C'+1) sc.names (IZ X.env.cells sc.names [])).lookup x=some c->C'+1<=c\/X.env.cells.lookup x=some c:=λC' x c e=>by
  rw[JZ,UX]at e
  cases q:(cellsFrom (C'+1) sc.names []).lookup x with
  | none=>rw[q]at e;exact .inr (clb x c e)
  | some c'=>rw[q]at e;cases e;exact .inl (HY _ _ (PySem.mem_of_lookup q)).2
 have stt:∀C':Addr,s2.heap.objs.size<=C'->∀{H':Hp}{pl:List (Addr×Obj)},(∀b∈fp,H' b=none)->(∀p∈pl,s2.heap.objs.size<=p.1)->∀b∈fp,cY (AQ X own fr sc C' s2 H2 fp) pl H' b:=λC' hC' H' pl hn hp b hb=>by
  have I0:=f2 b hb
  refine ⟨hn b hb,W0 (S0 (flt b hb) hC'),λhm=>?_,.inl hb,λx c e=>by
      rcases clb2 C' x c e with z|z
      · exact Z1 (S0 (flt b hb) (L1 hC' (X5 z)))
      · exact I0.2.2.2.2.1 x c z,λp hp'=>?_⟩
  ·rcases V0.mp (I2.stkSub b hm) with z|z
   ·exact I0.2.1 z
   ·exact I0.2.2.1 z
  ·have hp':p∈pl:=by
    have:p∈([]:List (Addr×Obj))++pl:=hp'
    simpa using this
   exact Z1 (S0 (flt b hb) (hp p hp'))
 have loop:∀s₃:Shared,s₃={ s2 with heap:=h₁,toks:=s2.toks } ->
   codeAny (model X.prog X.w) X.A (.compLoop (.ListComp elt [⟨tg,iter,ifs,0⟩] sc pos) 0 (.ref it) (.ref s2.heap.objs.size) (compEnvC sc (cellsFrom (G.objs.size+1) sc.names (IZ X.env.cells sc.names [])) G.objs.size X.env))
    (RR (.ref s2.heap.objs.size) G.objs.size) s₃:=by
  rintro s₃ rfl
  have I3:=wH (own:=own) (fr:=fr) (tk:=s2.toks) S I2 f2 fo hCle (R0 _) hDC hns₁ old (λx c h=>(cok.empty x c h).1) cok.apart hacc (λv z=>by cases z)
  refine eJ (λn s'=>∃i H' ys us k τ,Inv (AQ X own fr sc G.objs.size s2 H2 fp) [(s2.heap.objs.size,{ cls:=.type "list",data:=.seq us.toArray k })] τ H' s'/\tn i s'.heap/\(∀b∈fp,H' b=none)/\Vals ys us/\ys.length<=sizeLine/\W i n ys τ H') ?_ m0
   ⟨0,H2,[],[],0,_,I3,st0',λb hb=>(f2 b hb).1,.nil,Q3 _,w0⟩
  rintro n s4 ⟨i,H4,ys,us,k,τ,I4,st4,fr4,rv4,hz4,w4⟩
  have hp4:∀p∈[(s2.heap.objs.size,({ cls:=.type "list",data:=.seq us.toArray k }:Obj))],s2.heap.objs.size<=p.1:=λp hp=>by
   rw[Y2.mp hp]
   exact R0 _
  rcases turn i n ys τ H4 w4 with⟨stop,qn⟩|⟨go,hlt,N,hN,step⟩
  ·refine wX (T.done (AQ X own fr sc G.objs.size s2 H2 fp) rfl rfl rfl hc i _ s4 _ H4 (λ_ _=>False) I4 (stt _ hCle fr4 hp4) st4 stop) λr s5 ⟨hr,I5⟩=>?_
   subst hr
   obtain⟨a1,a2,a3⟩:=Lq I2 f2 hCle (R0 _) hDC I5 rfl rv4 hz4
   exact hRR _ _ _ s5 a1 (qn _ (I5.pin _ (S1 _ (Y2.mpr rfl))).2.1) a2 a3
  ·refine wX (T.item (AQ X own fr sc G.objs.size s2 H2 fp) rfl rfl rfl hc i _ s4 _ H4 (λ_ _=>False) I4 (stt _ hCle fr4 hp4) st4 go) λr s5 ⟨u,hr,h5⟩=>?_
   subst hr
   refine wX h5 λ_ s6 ⟨x,H6,I6,r6,y6,st6,fr6⟩=>?_
   have I6':=I6.pinned (stt _ hCle fr6 hp4) (T.obj _ _ st6)
   refine wX (hg G.objs.size fp _ s6 _ H6 x u _ I6' r6 (step x H6 y6)) λ_ s7 ⟨σ7,H7,I7,q7⟩=>?_
   refine wX (hif G.objs.size fp _ s7 σ7 H7 _ I7 q7) λb s8 ⟨H8,I8,q8⟩=>?_
   have again:∀{s9:Shared}{H9:Hp}{ys':List V}{us':List Value}{k':Nat},Inv (AQ X own fr sc G.objs.size s2 H2 fp) ([(s2.heap.objs.size,{ cls:=.type "list",data:=.seq us'.toArray k' })]++CK fp s6.heap) σ7 H9 s9->Vals ys' us'->ys'.length<=sizeLine->N ys' σ7 H9 ->
     ∃m,m < n/\∃i H' ys us k τ,Inv (AQ X own fr sc G.objs.size s2 H2 fp) [(s2.heap.objs.size,{ cls:=.type "list",data:=.seq us.toArray k })] τ H' s9/\tn i s9.heap/\(∀b∈fp,H' b=none)/\Vals ys us/\ys.length<=sizeLine/\W i m ys τ H':=λ{s9 H9 ys' us' k'} I9 rv9 hz9 n9=>by
    obtain⟨m',hm,w9⟩:=hN ys' σ7 H9 n9
    refine ⟨m',hm,i+1,H9,ys',us',k',σ7,I9.unpinned,T.keep _ _ _ st6 λb hb o e=>(I9.pin (b,o) (S1 _ (S1 _ (GZ hb e)))).1,λb hb=>?_,rv9,hz9,w9⟩
    obtain⟨o,e,d⟩:=T.obj _ _ st6 b hb
    exact (I9.pin (b,o) (S1 _ (S1 _ (GZ hb e)))).2.1
   cases b with
   | false =>
    rw[if_neg J1]at q8 ⊢
    exact again I8 rv4 hz4 q8
   | true =>
    rw[if_pos rfl]at q8 ⊢
    refine wX (he G.objs.size fp _ s8 σ7 H8 _ I8 q8) λy s9 ⟨yv,H9,I9,r9,n9⟩=>?_
    refine XF (X:=AQ X own fr sc G.objs.size s2 H2 fp) I9 (R0 _) (λx c e z=>?_) (λp hp z=>?_) (by rw[<- rv4.length];exact hlt) λk' s10 I10=>?_
    ·rcases clb2 _ x c e with y|y
     ·rw[z]at y
      exact absurd (S0 (Nat.lt_succ_of_le hCle) y) (O3 _)
     ·obtain⟨v,q⟩:=I2.cell x c y
      exact absurd (S0 q.lt (by rw[z];exact R0 _)) (O3 _)
    ·have hp:p∈([]:List (Addr×Obj))++CK fp s6.heap:=hp
     rw[List.nil_append]at hp
     have:=flt _ (bV hp).1
     rw[z]at this
     exact absurd this (O3 _)
    ·exact again I10 (rv4.append (.cons r9 .nil)) (by rw[A1,E6];omega) n9
 exact codeAny_compStart_list (loop _ rfl) (T.self _ 0 _ _ _ st0' (loop _ rfl))
theorem Hx{X:Cx}{tg iter elt:Expr}{ifs:List Expr}{sc:Scope}{pos:Pos}{own:List Str}{fr:List Nat}{wi:TI}{g:TG}{tc:TT}{te:TE}(hc:X.calm=true)(S:CompSc X own fr sc)(hi:PI X tg iter wi)
  (hg:∀C s H ex,PG (AQ X own fr sc C s H ex) tg g) (hif:∀C s H ex,Mq (AQ X own fr sc C s H ex) ifs tc) (he:∀C s H ex,PE (AQ X own fr sc C s H ex) elt te)
  (hs:∀x,foldedSetIterable iter X.env x=pure x:=by intro _;rfl):PE X (.ListComp elt [⟨tg,iter,ifs,0⟩] sc pos) (Rw wi own fr g tc te):=by
 intro pins s σ H Q I h
 rw[eval_ListComp]
 refine wpAny_comprehension_free (use:=none) rfl hs (FY λy hy e=>I.ok.has y.1 (S.free y hy e)) S.kind S.loc (wX (hi pins s σ H _ I h) λv s1 h1=>wX h1 λitv s2 h2=>?_)
 obtain⟨it,fp,tn,J,H2,e,I2,T,st2,f2,W,⟨m0,w0⟩,turn⟩:=h2
 subst e
 refine IY (Q:=Q) (RR:=λacc C=>compPost (model X.prog X.w) X.A X.xe none (EP X pins σ Q) acc C) hc S I2 T st2 f2 (λC ex=>hg C s2 H2 ex) (λC ex=>hif C s2 H2 ex) (λC ex=>he C s2 H2 ex) W m0 w0 turn ?_
 intro D C H' s' I' q ⟨m,hm⟩ fC
 refine ⟨m,hm,λh' sb=>⟨.ref D,H',?_,rfl,q⟩⟩
 obtain⟨f0,f1,f2,f3,f4,f5⟩:=fC
 exact I'.turned (t':=s'.toks) (λb o hb e=>(sb.2 b hb).trans e) f0 f1 f3 f4 f5
theorem xH{X:Cx}{tg iter elt:Expr}{ifs:List Expr}{sc:Scope}{pos spos py:Pos}{i:Nat}{y:Str}{own:List Str}{fr:List Nat}{wi:TI}{g:TG}{tc:TT}{te:TE}(hN:X.N.Nodup)(hy:X.N[i]?=some y)(hl:X.env.scope.names.lookup y=some .local)(hc:X.calm=true)(S:CompSc X own fr sc)(hi:PI X tg iter wi)
  (hg:∀C s H ex,PG (AQ X own fr sc C s H ex) tg g) (hif:∀C s H ex,Mq (AQ X own fr sc C s H ex) ifs tc) (he:∀C s H ex,PE (AQ X own fr sc C s H ex) elt te)
  (hsw:swapsWith (.ListComp elt [⟨tg,iter,ifs,0⟩] sc pos) (some (.Name y py)) spos.line X.env=pure true:=by rfl)
  (hs:∀x,foldedSetIterable iter X.env x=pure x:=by intro _;rfl):PS X (.Assign [.Name y py] (.ListComp elt [⟨tg,iter,ifs,0⟩] sc pos) spos) (bY (Rw wi own fr g tc te) (yZ i)):=by
 intro pins s σ H D I h
 rw[exec_Assign_Name_used _ _ _ _ hsw]
 refine wpAny_bind (wpAny_standAt ?_)
 show wpAny _ _ (evalThenUse (.ListComp elt [⟨tg,iter,ifs,0⟩] sc pos) X.env _ >>= _) _ _ s
 refine wpAny_bind ?_
 unfold evalThenUse
 refine wpAny_bind ?_
 refine wpAny_comprehension_free rfl hs (FY λy hy e=>I.ok.has y.1 (S.free y hy e)) S.kind S.loc (wX (hi pins s σ H _ I h) λv s1 h1=>wX h1 λitv s2 h2=>?_)
 obtain⟨it,fp,tn,J,H2,e,I2,T,st2,f2,W,⟨m0,w0⟩,turn⟩:=h2
 subst e
 refine IY (Q:=λv H1=>D.nx (σ.set i (some v)) H1) hc S I2 T st2 f2 (λC ex=>hg C s2 H2 ex) (λC ex=>hif C s2 H2 ex) (λC ex=>he C s2 H2 ex) W m0 w0 turn ?_
 intro D' C H' s' I' q ⟨m,hm⟩ fC
 obtain⟨f0,f1,f2,f3,f4,f5⟩:=fC
 show wpAny (model X.prog X.w) X.A (assign (.Name y py) X.env (.ref D')) (λ_ s''=>∃m,s''.heap.Ns C m/\∀h',J2 C s''.heap h'->_) X.xe s'
 refine wpAny_assign_Name (aV I' hN hy (.inl hl) (v:=.ref D') rfl (λs'' I'' hsb=>?_) (.inr hl))
 obtain⟨a,hsb,ha⟩:=hsb
 have hCa:C≠a:=by
  rcases ha with z|z
  ·rw[z];exact f1
  ·exact λe=>f4 y a z e.symm
 obtain⟨m',hm'⟩:∃m',s''.heap.Ns C m':=⟨m,hm.sameBut hsb hCa⟩
 refine ⟨m',hm',λh' sb=>wpAny_pure (wpAny_pure ⟨_,H',?_,q⟩)⟩
 exact I''.turned (t':=s''.toks) (λb o hb e=>(sb.2 b hb).trans e) f0 f1 f3 f4 f5
inductive Kd where|l|t
noncomputable def ItAt(k:Kd)(h:Heap)(it a:Addr)(i:Nat):Prop:=match k with | .l=>h.IsListIter it a i | .t=>h.IsTupleIter it a i
noncomputable def SqAt(k:Kd)(h:Heap)(a:Addr)(xs:Array Value):Prop:=match k with | .l=>h.IsList a xs | .t=>h.IsTuple a xs
noncomputable def SQ(k:Kd)(a:Addr):Obj:=match k with | .l=>{ cls:=.type "list_iterator",data:=.fields #[.ref a,.int 0 0] } | .t=>{ cls:=.type "tuple_iterator",data:=.fields #[.ref a,.int 0 0] }
theorem ItAt.at{k:Kd}{h h':Heap}{it a:Addr}{i:Nat}(x:ItAt k h it a i)(f:∀o,h.get? it=some o->h'.get? it=some o):ItAt k h' it a i:=by
 cases k with
 | l=>exact Heap.IsListIter.at x f
 | t=>exact Heap.IsTupleIter.at x f
theorem SqAt.at{k:Kd}{h h':Heap}{a:Addr}{xs:Array Value}(x:SqAt k h a xs)(f:∀o,h.get? a=some o->h'.get? a=some o):SqAt k h' a xs:=by
 cases k with
 | l=>exact Heap.IsList.at x f
 | t=>obtain⟨o,e,r⟩:=x;exact ⟨o,f o e,r⟩
theorem ItAt.obj{k:Kd}{h:Heap}{it a:Addr}{i:Nat}(x:ItAt k h it a i):∃o,h.get? it=some o/\∀v,o.data≠.cell v:=by
 cases k with
 | l=>obtain⟨o,e,c,d⟩:=x;exact ⟨o,e,λv z=>by rw[d]at z;cases z⟩
 | t=>obtain⟨o,e,c,d⟩:=x;exact ⟨o,e,λv z=>by rw[d]at z;cases z⟩
theorem ItAt.new(k:Kd){h:Heap}{it a:Addr}(e:h.get? it=some (SQ k a)):ItAt k h it a 0:=by
 cases k with
 | l=>exact ⟨_,e,rfl,rfl⟩
 | t=>exact ⟨_,e,rfl,rfl⟩
section
variable {prog:Program}{w:World}{A:Around}{E:Value->Shared->Prop}{s:Shared}
theorem gK{k:Kd}{a:Addr}{xs:Array Value}{Q:Value->Shared->Prop}(hl:SqAt k s.heap a xs)(h:Q (.ref s.heap.objs.size) { s with heap:=s.heap.push (SQ k a) }):wpAny (model prog w) A (pyIter (.ref a)) Q E s:=by
 cases k with
 | l=>exact wpAny_pyIter_list hl h
 | t=>exact wpAny_pyIter_tuple hl h
theorem iK{it t:Addr}{i:Nat}{items}{x:Value}{Q:Value->Shared->Prop}(hit:s.heap.IsTupleIter it t i)(ht:s.heap.IsTuple t items)(hx:items[i]?=some x)
  (hQ:∀h',h'.IsTupleIter it t (i+1)->J2 it s.heap h'->Q x { s with heap:=h' }):wpAny (model prog w) A (Y0 (.ref it)) Q E s:=by
 obtain⟨o,ho,hc,hd⟩:=id hit
 obtain⟨ol,hol,_,nl,hdl⟩:=ht
 unfold Y0
 refine wpAny_bind (wpAny_callSpecial?_slot (name:=Str.ofString "__next__") hit.typeIs F.slot_tuple_iterator_next
   (wpAny_call_entry F.slot_tuple_iterator_next hit.typeIs F.entry_tuple_iterator_next ?_ (F.args_tuple_iterator_next_1 _)))
 show wpAny _ _ (field (.ref it) 0 >>= _) _ _ s
 refine wpAny_bind (wpAny_field ho hd (x:=.ref t) rfl ?_)
 show wpAny _ _ (if (U1 t==A3)=true then _ else _) _ _ s
 rw[if_neg (show ¬((U1 t==A3)=true) from J1)]
 show wpAny _ _ (field (.ref it) 1 >>= _) _ _ s
 refine wpAny_bind (wpAny_field ho hd (x:=.int i 0) rfl ?_)
 show wpAny _ _ (seqItems? (.ref t) >>= _) _ _ s
 refine wpAny_bind (wpAny_seqItems hol hdl ?_)
 simp only[S4,hx]
 refine wpAny_bind (wpAny_setField ho hd (by simp) (wpAny_pure ⟨x,rfl,wpAny_pure (hQ _ ?_ (U2 ..))⟩))
 exact ⟨_,K2 _ ho (Y4 (K4 hd _)),(Obj.cls_mapFields ..).trans hc,by
   rw[K4 hd];simp[rawInt]⟩
theorem FK{it l:Addr}{i:Nat}{items}{Q:Value->Shared->Prop}(hh:A.handled=none)
  (hit:s.heap.IsTupleIter it l i) (hl:s.heap.IsTuple l items) (hx:items[i]?=none)
  (hE:∀h' e,i9 it s.heap h'->(∃o,h'.get? e=some o/\o.cls=.type "StopIteration")->E (.ref e) { s with heap:=h' }) :
  wpAny (model prog w) A (Y0 (.ref it)) Q E s:=by
 obtain⟨o,ho,hc,hd⟩:=id hit
 obtain⟨ol,hol,_,nl,hdl⟩:=hl
 unfold Y0
 refine wpAny_bind (wpAny_callSpecial?_slot (name:=Str.ofString "__next__") hit.typeIs F.slot_tuple_iterator_next
   (wpAny_call_entry F.slot_tuple_iterator_next hit.typeIs F.entry_tuple_iterator_next ?_ (F.args_tuple_iterator_next_1 _)))
 show wpAny _ _ (field (.ref it) 0 >>= _) _ _ s
 refine wpAny_bind (wpAny_field ho hd (x:=.ref l) rfl ?_)
 show wpAny _ _ (if (U1 l==A3)=true then _ else _) _ _ s
 rw[if_neg (show ¬((U1 l==A3)=true) from J1)]
 show wpAny _ _ (field (.ref it) 1 >>= _) _ _ s
 refine wpAny_bind (wpAny_field ho hd (x:=.int i 0) rfl ?_)
 show wpAny _ _ (seqItems? (.ref l) >>= _) _ _ s
 refine wpAny_bind (wpAny_seqItems hol hdl ?_)
 simp only[S4,hx]
 refine wpAny_bind (wpAny_rule (wpAny_bind (wpAny_setField ho hd (by simp) ?_)))
 show wpAny _ _ (newExc (.type "StopIteration") [] >>= _) _ _ _
 refine wpAny_bind ?_
 simp only[newExc,newTuple]
 refine wpAny_bind (wpAny_newObj_type ?_ (by size_fits))
 refine wpAny_bind (m:=firstArgMember _ _) (wpAny_of_eq (a:=A3) (by first|rfl|(simp only[firstArgMember];rfl)) ?_)
 refine wpAny_newObj_type ?_ (by size_fits)
 simp only[raiseNew]
 refine wpAny_bind (wpAny_handled ?_)
 first|rw[show A.in1.handled=none from hh]|rw[hh]
 refine wpAny_bind (wpAny_pure (wpAny_throw ?_))
 exact hE _ _ (((U2 ..).extBut.push _).push _) ⟨_,G0 _ rfl,rfl⟩
theorem LQ{k:Kd}{it a:Addr}{i:Nat}{xs:Array Value}{x:Value}{Q:Value->Shared->Prop}(hit:ItAt k s.heap it a i)(hl:SqAt k s.heap a xs)(hx:xs[i]?=some x)
  (hQ:∀h',ItAt k h' it a (i+1)->J2 it s.heap h'->Q x { s with heap:=h' }):wpAny (model prog w) A (Y0 (.ref it)) Q E s:=by
 cases k with
 | l=>exact wpAny_nextOf_list_item hit hl hx hQ
 | t=>exact iK hit hl hx hQ
theorem FX{k:Kd}{it a:Addr}{i:Nat}{xs:Array Value}{Q:Value->Shared->Prop}(hh:A.handled=none)(hit:ItAt k s.heap it a i)(hl:SqAt k s.heap a xs)(hx:xs[i]?=none)
  (hE:∀h' e,i9 it s.heap h'->(∃o,h'.get? e=some o/\o.cls=.type "StopIteration")->E (.ref e) { s with heap:=h' }):wpAny (model prog w) A (Y0 (.ref it)) Q E s:=by
 cases k with
 | l=>exact wpAny_nextOf_list_end hh hit hl hx hE
 | t=>exact FK hh hit hl hx hE
end
noncomputable abbrev xQ(h:Heap)(T:Addr)(a1 a2:Value):Prop:=h.get? T=some { cls:=.type "tuple",data:=.seq #[a1,a2] }
structure ZAp2(z TI TO i1 i2 l1 l2:Addr):Prop where
 TIz:TI≠z
 TOz:TO≠z
 i1z:i1≠z
 i2z:i2≠z
 TOTI:TO≠TI
 i1TI:i1≠TI
 i2TI:i2≠TI
 i1TO:i1≠TO
 i2TO:i2≠TO
 i2i1:i2≠i1
 l1z:l1≠z
 l1TO:l1≠TO
 l1i1:l1≠i1
 l1i2:l1≠i2
 l2z:l2≠z
 l2TO:l2≠TO
 l2i1:l2≠i1
 l2i2:l2≠i2
theorem AC(n l1 l2:Nat)(h1:l1 < n)(h2:l2 < n):ZAp2 (n+4) (n+2) (n+3) n (n+1) l1 l2:=by constructor<;>(show ¬(@Eq Nat _ _))<;>omega
section
variable {prog:Program}{w:World}{A:Around}{E:Value->Shared->Prop}{s:Shared}
theorem yH{T:Addr}{a1 a2 x:Value}{k:Nat}{Q:Unit->Shared->Prop}(hT:xQ s.heap T a1 a2)
  (h:∀h',h'.get? T=some { cls:=.type "tuple",data:=.seq ((#[a1,a2]:Array Value).setIfInBounds k x) }->J2 T s.heap h'->Q () { s with heap:=h' }) :
  wpAny (model prog w) A (updateSeq T (·.setIfInBounds k x)) Q E s:=by
 refine wpAny_updateSeq hT rfl (h _ ?_ (U2 ..))
 rw[K2 _ hT rfl]
 simp[B2]
theorem zH{z TI TO i1 i2 l1 l2:Addr}{k:Nat}{k1:Kd}{k2:Kd}{xs1 xs2:Array Value}{a1 a2:Value}{x1 x2:Value}{Q:Value->Shared->Prop}(D:ZAp2 z TI TO i1 i2 l1 l2)
  (hz:IsZip s.heap z TI TO .none) (hTI:xQ s.heap TI (.ref i1) (.ref i2)) (hTO:xQ s.heap TO a1 a2)
  (h1:ItAt k1 s.heap i1 l1 k) (h2:ItAt k2 s.heap i2 l2 k) (hl1:SqAt k1 s.heap l1 xs1) (hl2:SqAt k2 s.heap l2 xs2) (hx1:xs1[k]?=some x1) (hx2:xs2[k]?=some x2)
  (hQ:∀h',IsZip h' z TI TO (rawInt s.heap.objs.size)->xQ h' TO x1 x2->ItAt k1 h' i1 l1 (k+1)->ItAt k2 h' i2 l2 (k+1)->xQ h' s.heap.objs.size x1 x2->h'.objs.size=s.heap.objs.size+1 ->
    (∀c o,c≠z->c≠TO->c≠i1->c≠i2->s.heap.get? c=some o->h'.get? c=some o)->Q (.ref s.heap.objs.size) { s with heap:=h' }) :
  wpAny (model prog w) A (Builtin.«zip.__next__» ⟨[.ref z],[]⟩) (λfin s'=>∃v,fin=.done (.ret v)/\Q v s') E s:=by
 show wpAny _ _ (field (.ref z) 2 >>= _) _ _ _
 refine wpAny_bind (wpAny_field hz rfl (x:=.bool false) rfl ?_)
 show wpAny _ _ (field (.ref z) 3 >>= _) _ _ _
 refine wpAny_bind (wpAny_field hz rfl (x:=.ref TI) rfl ?_)
 refine wpAny_bind (wpAny_seqItems hTI rfl ?_)
 show wpAny _ _ (G1 (.ref z) >>= _) _ _ _
 refine wpAny_bind ?_
 unfold G1
 refine wpAny_bind (wpAny_field hz rfl (x:=.none) rfl (wpAny_pure ?_))
 simp only[if_true]
 refine wpAny_bind (wpAny_rule ?_)
 refine wpAny_bind (wpAny_field hz rfl (x:=.ref TO) rfl ?_)
 refine wpAny_bind (wpAny_setField_rec hz (by simp) λh₁ hz₁ hs₁=>?_)
 replace hz₁:IsZip h₁ z TI TO .ellipsis:=hz₁
 refine wpAny_bind ?_
 simp only[G7,T7,B5,P5]
 have up₁:∀c o,c≠z->s.heap.get? c=some o->h₁.get? c=some o:=λc o c1 e=>hs₁.extBut _ _ c1 e
 refine wpAny_bind (wpAny_bind (wpAny_onRaise ?_))
 show wpAny _ _ (Y0 (.ref i1) >>= _) _ _ _
 refine wpAny_bind (LQ (h1.at λo e=>hs₁.extBut _ o D.i1z e) (hl1.at λo e=>hs₁.extBut _ o D.l1z e) hx1 λha1 hi1 hsa1=>wpAny_pure ?_)
 have hTOa1:xQ ha1 TO a1 a2:=hsa1.extBut _ _ D.i1TO.symm (hs₁.extBut _ _ D.TOz hTO)
 refine wpAny_bind (wpAny_seqItems hTOa1 rfl ?_)
 refine wpAny_bind (yH hTOa1 λhb1 hTOb1 hsb1=>?_)
 replace hTOb1:xQ hb1 TO x1 a2:=hTOb1
 refine wpAny_bind (wpAny_letGo (wpAny_pure ?_))
 refine wpAny_bind (wpAny_bind (wpAny_onRaise ?_))
 show wpAny _ _ (Y0 (.ref i2) >>= _) _ _ _
 refine wpAny_bind (LQ (((h2.at λo e=>hs₁.extBut _ o D.i2z e).at λo e=>hsa1.extBut _ o D.i2i1 e).at λo e=>hsb1.extBut _ o D.i2TO e) (((hl2.at λo e=>hs₁.extBut _ o D.l2z e).at λo e=>hsa1.extBut _ o D.l2i1 e).at λo e=>hsb1.extBut _ o D.l2TO e) hx2 λha2 hi2 hsa2=>wpAny_pure ?_)
 have hTOa2:xQ ha2 TO x1 a2:=hsa2.extBut _ _ D.i2TO.symm hTOb1
 refine wpAny_bind (wpAny_seqItems hTOa2 rfl ?_)
 refine wpAny_bind (yH hTOa2 λhb2 hTOb2 hsb2=>?_)
 replace hTOb2:xQ hb2 TO x1 x2:=hTOb2
 refine wpAny_bind (wpAny_letGo (wpAny_pure (wpAny_pure ?_)))
 refine wpAny_bind (wpAny_seqItems hTOb2 rfl ?_)
 refine wpAny_bind (wpAny_newTuple ?_)
 have hsz:hb2.objs.size=s.heap.objs.size:=by rw[hsb2.1,hsa2.1,hsb1.1,hsa1.1,hs₁.1]
 have hzG:IsZip hb2 z TI TO .ellipsis:=(hsb2.extBut _ _ D.TOz.symm (hsa2.extBut _ _ D.i2z.symm (hsb1.extBut _ _ D.TOz.symm (hsa1.extBut _ _ D.i1z.symm hz₁))))
 have hkG:∀c o,c≠z->c≠TO->c≠i1->c≠i2->s.heap.get? c=some o->hb2.get? c=some o:=λc o c1 c2 d1 d2 e=>(hsb2.extBut _ _ c2 (hsa2.extBut _ _ d2 (hsb1.extBut _ _ c2 (hsa1.extBut _ _ d1 (hs₁.extBut _ _ c1 e)))))
 have hiG1:ItAt k1 hb2 i1 l1 (k+1):=(((hi1.at λo e=>hsb1.extBut _ o D.i1TO e).at λo e=>hsa2.extBut _ o D.i2i1.symm e).at λo e=>hsb2.extBut _ o D.i1TO e)
 have hiG2:ItAt k2 hb2 i2 l2 (k+1):=(hi2.at λo e=>hsb2.extBut _ o D.i2TO e)
 have hzlt:z < hb2.objs.size:=L0 hzG
 show wpAny _ _ (A4 (.ref z) (.ref hb2.objs.size) >>= _) _ _ _
 refine wpAny_bind ?_
 unfold A4
 have hz₆:IsZip (hb2.push { cls:=.type "tuple",data:=.seq #[x1,x2] }) z TI TO .ellipsis:=j0 _ hzG
 refine wpAny_bind (wpAny_setField_rec hz₆ (by simp) λh₇ hz₇ hs₇=>?_)
 replace hz₇:IsZip h₇ z TI TO (rawInt hb2.objs.size):=hz₇
 refine wpAny_setField_rec hz₇ (by simp) λh₈ hz₈ hs₈=>?_
 replace hz₈:IsZip h₈ z TI TO (rawInt hb2.objs.size):=hz₈
 have up:∀c o,c≠z->hb2.get? c=some o->h₈.get? c=some o:=λc o c1 e=>hs₈.extBut _ _ c1 (hs₇.extBut _ _ c1 (j0 _ e))
 have hT₈:xQ h₈ hb2.objs.size x1 x2:=hs₈.extBut _ _ (Z1 hzlt) (hs₇.extBut _ _ (Z1 hzlt) (G0 _ rfl))
 have hz8:h₈.objs.size=hb2.objs.size+1:=by rw[hs₈.1,hs₇.1,O1]
 rw[hsz]at hz₈ hT₈ hz8
 refine wpAny_pure ⟨_,rfl,?_⟩
 show Q (.ref hb2.objs.size) _
 rw[hsz]
 exact hQ h₈ hz₈ (up _ _ D.TOz hTOb2) (hiG1.at λo e=>up _ o D.i1z e) (hiG2.at λo e=>up _ o D.i2z e) hT₈ hz8 λc o c1 c2 d1 d2 e=>up c o c1 (hkG c o c1 c2 d1 d2 e)
theorem YF{z TI TO i1 i2 l1 l2:Addr}{k:Nat}{k1:Kd}{k2:Kd}{xs1 xs2:Array Value}{a1 a2:Value}{Q:Fin->Shared->Prop}(hh:A.handled=none)(D:ZAp2 z TI TO i1 i2 l1 l2)
  (hz:IsZip s.heap z TI TO .none) (hTI:xQ s.heap TI (.ref i1) (.ref i2)) (hTO:xQ s.heap TO a1 a2)
  (h1:ItAt k1 s.heap i1 l1 k) (h2:ItAt k2 s.heap i2 l2 k) (hl1:SqAt k1 s.heap l1 xs1) (hl2:SqAt k2 s.heap l2 xs2) (hend:xs1[k]?=none\/xs2[k]?=none)
  (hE:∀h' e,(∀c o,c≠z->c≠TO->c≠i1->c≠i2->s.heap.get? c=some o->h'.get? c=some o)->(∃o,h'.get? e=some o/\o.cls=.type "StopIteration")->E (.ref e) { s with heap:=h' }) :
  wpAny (model prog w) A (Builtin.«zip.__next__» ⟨[.ref z],[]⟩) Q E s:=by
 show wpAny _ _ (field (.ref z) 2 >>= _) _ _ _
 refine wpAny_bind (wpAny_field hz rfl (x:=.bool false) rfl ?_)
 show wpAny _ _ (field (.ref z) 3 >>= _) _ _ _
 refine wpAny_bind (wpAny_field hz rfl (x:=.ref TI) rfl ?_)
 refine wpAny_bind (wpAny_seqItems hTI rfl ?_)
 show wpAny _ _ (G1 (.ref z) >>= _) _ _ _
 refine wpAny_bind ?_
 unfold G1
 refine wpAny_bind (wpAny_field hz rfl (x:=.none) rfl (wpAny_pure ?_))
 simp only[if_true]
 refine wpAny_bind (wpAny_rule ?_)
 refine wpAny_bind (wpAny_field hz rfl (x:=.ref TO) rfl ?_)
 refine wpAny_bind (wpAny_setField_rec hz (by simp) λh₁ hz₁ hs₁=>?_)
 replace hz₁:IsZip h₁ z TI TO .ellipsis:=hz₁
 refine wpAny_bind ?_
 simp only[G7,T7,B5,P5]
 refine wpAny_bind (wpAny_bind (wpAny_onRaise ?_))
 show wpAny _ _ (Y0 (.ref i1) >>= _) _ _ _
 cases hx1:xs1[k]? with
 | none =>
  refine wpAny_bind (FX hh (h1.at λo e=>hs₁.extBut _ o D.i1z e) (hl1.at λo e=>hs₁.extBut _ o D.l1z e) hx1 λhq e hsq he=>?_)
  obtain⟨oe,hoe,hce⟩:=he
  have hzq:IsZip hq z TI TO .ellipsis:=hsq _ _ D.i1z.symm hz₁
  have hez:e≠z:=λx=>by subst x;rw[hzq]at hoe;cases hoe;simp at hce
  refine wpAny_setField_rec hzq (by simp) λh₉ _ hs₉=>hE h₉ e (λc o c1 c2 d1 d2 x=>hs₉.extBut _ _ c1 (hsq _ _ d1 (hs₁.extBut _ _ c1 x))) ⟨oe,hs₉.extBut _ _ hez hoe,hce⟩
 | some x1 =>
  refine wpAny_bind (LQ (h1.at λo e=>hs₁.extBut _ o D.i1z e) (hl1.at λo e=>hs₁.extBut _ o D.l1z e) hx1 λha1 hi1 hsa1=>wpAny_pure ?_)
  have hTOa1:xQ ha1 TO a1 a2:=hsa1.extBut _ _ D.i1TO.symm (hs₁.extBut _ _ D.TOz hTO)
  refine wpAny_bind (wpAny_seqItems hTOa1 rfl ?_)
  refine wpAny_bind (yH hTOa1 λhb1 hTOb1 hsb1=>?_)
  replace hTOb1:xQ hb1 TO x1 a2:=hTOb1
  refine wpAny_bind (wpAny_letGo (wpAny_pure ?_))
  refine wpAny_bind (wpAny_bind (wpAny_onRaise ?_))
  show wpAny _ _ (Y0 (.ref i2) >>= _) _ _ _
  have hx2:xs2[k]?=none:=by
   rcases hend with h|h
   ·rw[hx1]at h;cases h
   ·exact h
  refine wpAny_bind (FX hh (((h2.at λo e=>hs₁.extBut _ o D.i2z e).at λo e=>hsa1.extBut _ o D.i2i1 e).at λo e=>hsb1.extBut _ o D.i2TO e) (((hl2.at λo e=>hs₁.extBut _ o D.l2z e).at λo e=>hsa1.extBut _ o D.l2i1 e).at λo e=>hsb1.extBut _ o D.l2TO e) hx2 λhq e hsq he=>?_)
  obtain⟨oe,hoe,hce⟩:=he
  have hzq:IsZip hq z TI TO .ellipsis:=hsq _ _ D.i2z.symm (hsb1.extBut _ _ D.TOz.symm (hsa1.extBut _ _ D.i1z.symm hz₁))
  have hez:e≠z:=λx=>by subst x;rw[hzq]at hoe;cases hoe;simp at hce
  refine wpAny_setField_rec hzq (by simp) λh₉ _ hs₉=>hE h₉ e (λc o c1 c2 d1 d2 x=>hs₉.extBut _ _ c1 (hsq _ _ d2 (hsb1.extBut _ _ c2 (hsa1.extBut _ _ d1 (hs₁.extBut _ _ c1 x))))) ⟨oe,hs₉.extBut _ _ hez hoe,hce⟩
theorem fJ{z TI TO i1 i2 l1 l2:Addr}{k:Nat}{k1:Kd}{k2:Kd}{xs1 xs2:Array Value}{a1 a2:Value}{x1 x2:Value}{Q:Option Value->Shared->Prop}(D:ZAp2 z TI TO i1 i2 l1 l2)
  (hz:IsZip s.heap z TI TO .none) (hTI:xQ s.heap TI (.ref i1) (.ref i2)) (hTO:xQ s.heap TO a1 a2)
  (h1:ItAt k1 s.heap i1 l1 k) (h2:ItAt k2 s.heap i2 l2 k) (hl1:SqAt k1 s.heap l1 xs1) (hl2:SqAt k2 s.heap l2 xs2) (hx1:xs1[k]?=some x1) (hx2:xs2[k]?=some x2)
  (hQ:∀h',IsZip h' z TI TO (rawInt s.heap.objs.size)->xQ h' TO x1 x2->ItAt k1 h' i1 l1 (k+1)->ItAt k2 h' i2 l2 (k+1)->xQ h' s.heap.objs.size x1 x2->h'.objs.size=s.heap.objs.size+1 ->
    (∀c o,c≠z->c≠TO->c≠i1->c≠i2->s.heap.get? c=some o->h'.get? c=some o)->Q (some (.ref s.heap.objs.size)) { s with heap:=h' }) :
  wpAny (model prog w) A (pyNext (.ref z)) Q E s:=by
 have hT:s.TypeIs (.ref z) "zip":=⟨_,hz,rfl⟩
 unfold pyNext
 exact wpAny_bind (wpAny_attempt (wpAny_callSpecial?_slot (name:=Str.ofString "__next__") hT F.slot_zip_next
   (wpAny_call_entry F.slot_zip_next hT F.entry_zip_next
     (zH D hz hTI hTO h1 h2 hl1 hl2 hx1 hx2 λh' a1 a2 b1 b2 a5 a6 a7=>wpAny_pure (hQ h' a1 a2 b1 b2 a5 a6 a7)) (F.args_zip_next_1 _))))
theorem CJ{z TI TO i1 i2 l1 l2:Addr}{k:Nat}{k1:Kd}{k2:Kd}{xs1 xs2:Array Value}{a1 a2:Value}{Q:Option Value->Shared->Prop}(hh:A.handled=none)(D:ZAp2 z TI TO i1 i2 l1 l2)
  (hz:IsZip s.heap z TI TO .none) (hTI:xQ s.heap TI (.ref i1) (.ref i2)) (hTO:xQ s.heap TO a1 a2)
  (h1:ItAt k1 s.heap i1 l1 k) (h2:ItAt k2 s.heap i2 l2 k) (hl1:SqAt k1 s.heap l1 xs1) (hl2:SqAt k2 s.heap l2 xs2) (hend:xs1[k]?=none\/xs2[k]?=none)
  (hQ:∀h',(∀c o,c≠z->c≠TO->c≠i1->c≠i2->s.heap.get? c=some o->h'.get? c=some o)->Q none { s with heap:=h' }):wpAny (model prog w) A (pyNext (.ref z)) Q E s:=by
 have hT:s.TypeIs (.ref z) "zip":=⟨_,hz,rfl⟩
 unfold pyNext
 refine wpAny_bind (wpAny_attempt (wpAny_callSpecial?_slot (name:=Str.ofString "__next__") hT F.slot_zip_next
   (wpAny_call_entry F.slot_zip_next hT F.entry_zip_next (YF hh D hz hTI hTO h1 h2 hl1 hl2 hend λh' e hk he=>?_) (F.args_zip_next_1 _))))
 obtain⟨o,ho,hc⟩:=he
 refine wpAny_bind (wpAny_isInstance (T:="StopIteration") (b:=true) ⟨o,ho,hc⟩ isSubtype_stop ?_)
 exact wpAny_pure (hQ _ hk)
end
noncomputable abbrev ZF(h:Heap)(k1:Kd)(k2:Kd)(l1 l2:Addr):Heap:=((h.push (SQ k1 l1)).push (SQ k2 l2))
noncomputable abbrev aD(h:Heap)(k1:Kd)(k2:Kd)(l1 l2:Addr):Heap:=(ZF h k1 k2 l1 l2).push { cls:=.type "tuple",data:=.seq #[.ref h.objs.size,.ref (h.push (SQ k1 l1)).objs.size] }
noncomputable abbrev bD(h:Heap)(k1:Kd)(k2:Kd)(l1 l2:Addr):Heap:=(aD h k1 k2 l1 l2).push { cls:=.type "tuple",data:=.seq #[.none,.none] }
noncomputable abbrev WZ(h:Heap)(k1:Kd)(k2:Kd)(l1 l2:Addr):Heap:=(bD h k1 k2 l1 l2).push { cls:=.type "zip",data:=.fields #[.none,.bool false,.bool false,.ref (ZF h k1 k2 l1 l2).objs.size,.ref (aD h k1 k2 l1 l2).objs.size] }
theorem rU(k1:Kd)(k2:Kd)(l1 l2:Addr)(xs1 xs2:Array Value) :
  Meets (Builtin.«zip.__new__» ⟨[.type "zip",.ref l1,.ref l2],[]⟩) (λ_ R s=>SqAt k1 s.heap l1 xs1/\SqAt k2 s.heap l2 xs2 /\
    R (.ok (.ret (.ref (bD s.heap k1 k2 l1 l2).objs.size))) { s with heap:=WZ s.heap k1 k2 l1 l2 }) :=
 .of_wp λprog w A R s h=>by
  obtain⟨hp,g,d,tk,os⟩:=s;obtain⟨hl1,hl2,h⟩:=h
  have hsub:=sub_zip
  have hL1:SqAt k1 (Shared.heap ⟨hp,g,d,tk,os⟩) l1 xs1:=hl1
  have hL2:SqAt k2 (Shared.heap ⟨(hp.push (SQ k1 l1)),g,d,tk,os⟩) l2 xs2:=(SqAt.at hl2 λo e=>j0 _ e)
  wp_walk using gK hL1,gK hL2
  exact ⟨_,rfl,h⟩
noncomputable abbrev IQ(h:Heap)(T:Addr)(a1 a2 a3:Value):Prop:=h.get? T=some { cls:=.type "tuple",data:=.seq #[a1,a2,a3] }
structure ZAp3(z TI TO i1 i2 i3 l1 l2 l3:Addr):Prop where
 TIz:TI≠z
 TOz:TO≠z
 i1z:i1≠z
 i2z:i2≠z
 i3z:i3≠z
 TOTI:TO≠TI
 i1TI:i1≠TI
 i2TI:i2≠TI
 i3TI:i3≠TI
 i1TO:i1≠TO
 i2TO:i2≠TO
 i3TO:i3≠TO
 i2i1:i2≠i1
 i3i1:i3≠i1
 i3i2:i3≠i2
 l1z:l1≠z
 l1TO:l1≠TO
 l1i1:l1≠i1
 l1i2:l1≠i2
 l1i3:l1≠i3
 l2z:l2≠z
 l2TO:l2≠TO
 l2i1:l2≠i1
 l2i2:l2≠i2
 l2i3:l2≠i3
 l3z:l3≠z
 l3TO:l3≠TO
 l3i1:l3≠i1
 l3i2:l3≠i2
 l3i3:l3≠i3
theorem yL(n l1 l2 l3:Nat)(h1:l1 < n)(h2:l2 < n)(h3:l3 < n):ZAp3 (n+5) (n+3) (n+4) n (n+1) (n+2) l1 l2 l3:=by constructor<;>(show ¬(@Eq Nat _ _))<;>omega
section
variable {prog:Program}{w:World}{A:Around}{E:Value->Shared->Prop}{s:Shared}
theorem JY{T:Addr}{a1 a2 a3 x:Value}{k:Nat}{Q:Unit->Shared->Prop}(hT:IQ s.heap T a1 a2 a3)
  (h:∀h',h'.get? T=some { cls:=.type "tuple",data:=.seq ((#[a1,a2,a3]:Array Value).setIfInBounds k x) }->J2 T s.heap h'->Q () { s with heap:=h' }) :
  wpAny (model prog w) A (updateSeq T (·.setIfInBounds k x)) Q E s:=by
 refine wpAny_updateSeq hT rfl (h _ ?_ (U2 ..))
 rw[K2 _ hT rfl]
 simp[B2]
theorem AH{z TI TO i1 i2 i3 l1 l2 l3:Addr}{k:Nat}{k1:Kd}{k2:Kd}{k3:Kd}{xs1 xs2 xs3:Array Value}{a1 a2 a3:Value}{x1 x2 x3:Value}{Q:Value->Shared->Prop}(D:ZAp3 z TI TO i1 i2 i3 l1 l2 l3)
  (hz:IsZip s.heap z TI TO .none) (hTI:IQ s.heap TI (.ref i1) (.ref i2) (.ref i3)) (hTO:IQ s.heap TO a1 a2 a3)
  (h1:ItAt k1 s.heap i1 l1 k) (h2:ItAt k2 s.heap i2 l2 k) (h3:ItAt k3 s.heap i3 l3 k) (hl1:SqAt k1 s.heap l1 xs1) (hl2:SqAt k2 s.heap l2 xs2) (hl3:SqAt k3 s.heap l3 xs3) (hx1:xs1[k]?=some x1) (hx2:xs2[k]?=some x2) (hx3:xs3[k]?=some x3)
  (hQ:∀h',IsZip h' z TI TO (rawInt s.heap.objs.size)->IQ h' TO x1 x2 x3->ItAt k1 h' i1 l1 (k+1)->ItAt k2 h' i2 l2 (k+1)->ItAt k3 h' i3 l3 (k+1)->IQ h' s.heap.objs.size x1 x2 x3->h'.objs.size=s.heap.objs.size+1 ->
    (∀c o,c≠z->c≠TO->c≠i1->c≠i2->c≠i3->s.heap.get? c=some o->h'.get? c=some o)->Q (.ref s.heap.objs.size) { s with heap:=h' }) :
  wpAny (model prog w) A (Builtin.«zip.__next__» ⟨[.ref z],[]⟩) (λfin s'=>∃v,fin=.done (.ret v)/\Q v s') E s:=by
 show wpAny _ _ (field (.ref z) 2 >>= _) _ _ _
 refine wpAny_bind (wpAny_field hz rfl (x:=.bool false) rfl ?_)
 show wpAny _ _ (field (.ref z) 3 >>= _) _ _ _
 refine wpAny_bind (wpAny_field hz rfl (x:=.ref TI) rfl ?_)
 refine wpAny_bind (wpAny_seqItems hTI rfl ?_)
 show wpAny _ _ (G1 (.ref z) >>= _) _ _ _
 refine wpAny_bind ?_
 unfold G1
 refine wpAny_bind (wpAny_field hz rfl (x:=.none) rfl (wpAny_pure ?_))
 simp only[if_true]
 refine wpAny_bind (wpAny_rule ?_)
 refine wpAny_bind (wpAny_field hz rfl (x:=.ref TO) rfl ?_)
 refine wpAny_bind (wpAny_setField_rec hz (by simp) λh₁ hz₁ hs₁=>?_)
 replace hz₁:IsZip h₁ z TI TO .ellipsis:=hz₁
 refine wpAny_bind ?_
 simp only[G7,T7,B5,P5]
 have up₁:∀c o,c≠z->s.heap.get? c=some o->h₁.get? c=some o:=λc o c1 e=>hs₁.extBut _ _ c1 e
 refine wpAny_bind (wpAny_bind (wpAny_onRaise ?_))
 show wpAny _ _ (Y0 (.ref i1) >>= _) _ _ _
 refine wpAny_bind (LQ (h1.at λo e=>hs₁.extBut _ o D.i1z e) (hl1.at λo e=>hs₁.extBut _ o D.l1z e) hx1 λha1 hi1 hsa1=>wpAny_pure ?_)
 have hTOa1:IQ ha1 TO a1 a2 a3:=hsa1.extBut _ _ D.i1TO.symm (hs₁.extBut _ _ D.TOz hTO)
 refine wpAny_bind (wpAny_seqItems hTOa1 rfl ?_)
 refine wpAny_bind (JY hTOa1 λhb1 hTOb1 hsb1=>?_)
 replace hTOb1:IQ hb1 TO x1 a2 a3:=hTOb1
 refine wpAny_bind (wpAny_letGo (wpAny_pure ?_))
 refine wpAny_bind (wpAny_bind (wpAny_onRaise ?_))
 show wpAny _ _ (Y0 (.ref i2) >>= _) _ _ _
 refine wpAny_bind (LQ (((h2.at λo e=>hs₁.extBut _ o D.i2z e).at λo e=>hsa1.extBut _ o D.i2i1 e).at λo e=>hsb1.extBut _ o D.i2TO e) (((hl2.at λo e=>hs₁.extBut _ o D.l2z e).at λo e=>hsa1.extBut _ o D.l2i1 e).at λo e=>hsb1.extBut _ o D.l2TO e) hx2 λha2 hi2 hsa2=>wpAny_pure ?_)
 have hTOa2:IQ ha2 TO x1 a2 a3:=hsa2.extBut _ _ D.i2TO.symm hTOb1
 refine wpAny_bind (wpAny_seqItems hTOa2 rfl ?_)
 refine wpAny_bind (JY hTOa2 λhb2 hTOb2 hsb2=>?_)
 replace hTOb2:IQ hb2 TO x1 x2 a3:=hTOb2
 refine wpAny_bind (wpAny_letGo (wpAny_pure ?_))
 refine wpAny_bind (wpAny_bind (wpAny_onRaise ?_))
 show wpAny _ _ (Y0 (.ref i3) >>= _) _ _ _
 refine wpAny_bind (LQ (((((h3.at λo e=>hs₁.extBut _ o D.i3z e).at λo e=>hsa1.extBut _ o D.i3i1 e).at λo e=>hsb1.extBut _ o D.i3TO e).at λo e=>hsa2.extBut _ o D.i3i2 e).at λo e=>hsb2.extBut _ o D.i3TO e) (((((hl3.at λo e=>hs₁.extBut _ o D.l3z e).at λo e=>hsa1.extBut _ o D.l3i1 e).at λo e=>hsb1.extBut _ o D.l3TO e).at λo e=>hsa2.extBut _ o D.l3i2 e).at λo e=>hsb2.extBut _ o D.l3TO e) hx3 λha3 hi3 hsa3=>wpAny_pure ?_)
 have hTOa3:IQ ha3 TO x1 x2 a3:=hsa3.extBut _ _ D.i3TO.symm hTOb2
 refine wpAny_bind (wpAny_seqItems hTOa3 rfl ?_)
 refine wpAny_bind (JY hTOa3 λhb3 hTOb3 hsb3=>?_)
 replace hTOb3:IQ hb3 TO x1 x2 x3:=hTOb3
 refine wpAny_bind (wpAny_letGo (wpAny_pure (wpAny_pure ?_)))
 refine wpAny_bind (wpAny_seqItems hTOb3 rfl ?_)
 refine wpAny_bind (wpAny_newTuple ?_)
 have hsz:hb3.objs.size=s.heap.objs.size:=by rw[hsb3.1,hsa3.1,hsb2.1,hsa2.1,hsb1.1,hsa1.1,hs₁.1]
 have hzG:IsZip hb3 z TI TO .ellipsis:=(hsb3.extBut _ _ D.TOz.symm (hsa3.extBut _ _ D.i3z.symm (hsb2.extBut _ _ D.TOz.symm (hsa2.extBut _ _ D.i2z.symm (hsb1.extBut _ _ D.TOz.symm (hsa1.extBut _ _ D.i1z.symm hz₁))))))
 have hkG:∀c o,c≠z->c≠TO->c≠i1->c≠i2->c≠i3->s.heap.get? c=some o->hb3.get? c=some o:=λc o c1 c2 d1 d2 d3 e=>(hsb3.extBut _ _ c2 (hsa3.extBut _ _ d3 (hsb2.extBut _ _ c2 (hsa2.extBut _ _ d2 (hsb1.extBut _ _ c2 (hsa1.extBut _ _ d1 (hs₁.extBut _ _ c1 e)))))))
 have hiG1:ItAt k1 hb3 i1 l1 (k+1):=(((((hi1.at λo e=>hsb1.extBut _ o D.i1TO e).at λo e=>hsa2.extBut _ o D.i2i1.symm e).at λo e=>hsb2.extBut _ o D.i1TO e).at λo e=>hsa3.extBut _ o D.i3i1.symm e).at λo e=>hsb3.extBut _ o D.i1TO e)
 have hiG2:ItAt k2 hb3 i2 l2 (k+1):=(((hi2.at λo e=>hsb2.extBut _ o D.i2TO e).at λo e=>hsa3.extBut _ o D.i3i2.symm e).at λo e=>hsb3.extBut _ o D.i2TO e)
 have hiG3:ItAt k3 hb3 i3 l3 (k+1):=(hi3.at λo e=>hsb3.extBut _ o D.i3TO e)
 have hzlt:z < hb3.objs.size:=L0 hzG
 show wpAny _ _ (A4 (.ref z) (.ref hb3.objs.size) >>= _) _ _ _
 refine wpAny_bind ?_
 unfold A4
 have hz₆:IsZip (hb3.push { cls:=.type "tuple",data:=.seq #[x1,x2,x3] }) z TI TO .ellipsis:=j0 _ hzG
 refine wpAny_bind (wpAny_setField_rec hz₆ (by simp) λh₇ hz₇ hs₇=>?_)
 replace hz₇:IsZip h₇ z TI TO (rawInt hb3.objs.size):=hz₇
 refine wpAny_setField_rec hz₇ (by simp) λh₈ hz₈ hs₈=>?_
 replace hz₈:IsZip h₈ z TI TO (rawInt hb3.objs.size):=hz₈
 have up:∀c o,c≠z->hb3.get? c=some o->h₈.get? c=some o:=λc o c1 e=>hs₈.extBut _ _ c1 (hs₇.extBut _ _ c1 (j0 _ e))
 have hT₈:IQ h₈ hb3.objs.size x1 x2 x3:=hs₈.extBut _ _ (Z1 hzlt) (hs₇.extBut _ _ (Z1 hzlt) (G0 _ rfl))
 have hz8:h₈.objs.size=hb3.objs.size+1:=by rw[hs₈.1,hs₇.1,O1]
 rw[hsz]at hz₈ hT₈ hz8
 refine wpAny_pure ⟨_,rfl,?_⟩
 show Q (.ref hb3.objs.size) _
 rw[hsz]
 exact hQ h₈ hz₈ (up _ _ D.TOz hTOb3) (hiG1.at λo e=>up _ o D.i1z e) (hiG2.at λo e=>up _ o D.i2z e) (hiG3.at λo e=>up _ o D.i3z e) hT₈ hz8 λc o c1 c2 d1 d2 d3 e=>up c o c1 (hkG c o c1 c2 d1 d2 d3 e)
theorem cD{z TI TO i1 i2 i3 l1 l2 l3:Addr}{k:Nat}{k1:Kd}{k2:Kd}{k3:Kd}{xs1 xs2 xs3:Array Value}{a1 a2 a3:Value}{Q:Fin->Shared->Prop}(hh:A.handled=none)(D:ZAp3 z TI TO i1 i2 i3 l1 l2 l3)
  (hz:IsZip s.heap z TI TO .none) (hTI:IQ s.heap TI (.ref i1) (.ref i2) (.ref i3)) (hTO:IQ s.heap TO a1 a2 a3)
  (h1:ItAt k1 s.heap i1 l1 k) (h2:ItAt k2 s.heap i2 l2 k) (h3:ItAt k3 s.heap i3 l3 k) (hl1:SqAt k1 s.heap l1 xs1) (hl2:SqAt k2 s.heap l2 xs2) (hl3:SqAt k3 s.heap l3 xs3) (hend:xs1[k]?=none\/xs2[k]?=none\/xs3[k]?=none)
  (hE:∀h' e,(∀c o,c≠z->c≠TO->c≠i1->c≠i2->c≠i3->s.heap.get? c=some o->h'.get? c=some o)->(∃o,h'.get? e=some o/\o.cls=.type "StopIteration")->E (.ref e) { s with heap:=h' }) :
  wpAny (model prog w) A (Builtin.«zip.__next__» ⟨[.ref z],[]⟩) Q E s:=by
 show wpAny _ _ (field (.ref z) 2 >>= _) _ _ _
 refine wpAny_bind (wpAny_field hz rfl (x:=.bool false) rfl ?_)
 show wpAny _ _ (field (.ref z) 3 >>= _) _ _ _
 refine wpAny_bind (wpAny_field hz rfl (x:=.ref TI) rfl ?_)
 refine wpAny_bind (wpAny_seqItems hTI rfl ?_)
 show wpAny _ _ (G1 (.ref z) >>= _) _ _ _
 refine wpAny_bind ?_
 unfold G1
 refine wpAny_bind (wpAny_field hz rfl (x:=.none) rfl (wpAny_pure ?_))
 simp only[if_true]
 refine wpAny_bind (wpAny_rule ?_)
 refine wpAny_bind (wpAny_field hz rfl (x:=.ref TO) rfl ?_)
 refine wpAny_bind (wpAny_setField_rec hz (by simp) λh₁ hz₁ hs₁=>?_)
 replace hz₁:IsZip h₁ z TI TO .ellipsis:=hz₁
 refine wpAny_bind ?_
 simp only[G7,T7,B5,P5]
 refine wpAny_bind (wpAny_bind (wpAny_onRaise ?_))
 show wpAny _ _ (Y0 (.ref i1) >>= _) _ _ _
 cases hx1:xs1[k]? with
 | none =>
  refine wpAny_bind (FX hh (h1.at λo e=>hs₁.extBut _ o D.i1z e) (hl1.at λo e=>hs₁.extBut _ o D.l1z e) hx1 λhq e hsq he=>?_)
  obtain⟨oe,hoe,hce⟩:=he
  have hzq:IsZip hq z TI TO .ellipsis:=hsq _ _ D.i1z.symm hz₁
  have hez:e≠z:=λx=>by subst x;rw[hzq]at hoe;cases hoe;simp at hce
  refine wpAny_setField_rec hzq (by simp) λh₉ _ hs₉=>hE h₉ e (λc o c1 c2 d1 d2 d3 x=>hs₉.extBut _ _ c1 (hsq _ _ d1 (hs₁.extBut _ _ c1 x))) ⟨oe,hs₉.extBut _ _ hez hoe,hce⟩
 | some x1 =>
  refine wpAny_bind (LQ (h1.at λo e=>hs₁.extBut _ o D.i1z e) (hl1.at λo e=>hs₁.extBut _ o D.l1z e) hx1 λha1 hi1 hsa1=>wpAny_pure ?_)
  have hTOa1:IQ ha1 TO a1 a2 a3:=hsa1.extBut _ _ D.i1TO.symm (hs₁.extBut _ _ D.TOz hTO)
  refine wpAny_bind (wpAny_seqItems hTOa1 rfl ?_)
  refine wpAny_bind (JY hTOa1 λhb1 hTOb1 hsb1=>?_)
  replace hTOb1:IQ hb1 TO x1 a2 a3:=hTOb1
  refine wpAny_bind (wpAny_letGo (wpAny_pure ?_))
  refine wpAny_bind (wpAny_bind (wpAny_onRaise ?_))
  show wpAny _ _ (Y0 (.ref i2) >>= _) _ _ _
  cases hx2:xs2[k]? with
  | none =>
   refine wpAny_bind (FX hh (((h2.at λo e=>hs₁.extBut _ o D.i2z e).at λo e=>hsa1.extBut _ o D.i2i1 e).at λo e=>hsb1.extBut _ o D.i2TO e) (((hl2.at λo e=>hs₁.extBut _ o D.l2z e).at λo e=>hsa1.extBut _ o D.l2i1 e).at λo e=>hsb1.extBut _ o D.l2TO e) hx2 λhq e hsq he=>?_)
   obtain⟨oe,hoe,hce⟩:=he
   have hzq:IsZip hq z TI TO .ellipsis:=hsq _ _ D.i2z.symm (hsb1.extBut _ _ D.TOz.symm (hsa1.extBut _ _ D.i1z.symm hz₁))
   have hez:e≠z:=λx=>by subst x;rw[hzq]at hoe;cases hoe;simp at hce
   refine wpAny_setField_rec hzq (by simp) λh₉ _ hs₉=>hE h₉ e (λc o c1 c2 d1 d2 d3 x=>hs₉.extBut _ _ c1 (hsq _ _ d2 (hsb1.extBut _ _ c2 (hsa1.extBut _ _ d1 (hs₁.extBut _ _ c1 x))))) ⟨oe,hs₉.extBut _ _ hez hoe,hce⟩
  | some x2 =>
   refine wpAny_bind (LQ (((h2.at λo e=>hs₁.extBut _ o D.i2z e).at λo e=>hsa1.extBut _ o D.i2i1 e).at λo e=>hsb1.extBut _ o D.i2TO e) (((hl2.at λo e=>hs₁.extBut _ o D.l2z e).at λo e=>hsa1.extBut _ o D.l2i1 e).at λo e=>hsb1.extBut _ o D.l2TO e) hx2 λha2 hi2 hsa2=>wpAny_pure ?_)
   have hTOa2:IQ ha2 TO x1 a2 a3:=hsa2.extBut _ _ D.i2TO.symm hTOb1
   refine wpAny_bind (wpAny_seqItems hTOa2 rfl ?_)
   refine wpAny_bind (JY hTOa2 λhb2 hTOb2 hsb2=>?_)
   replace hTOb2:IQ hb2 TO x1 x2 a3:=hTOb2
   refine wpAny_bind (wpAny_letGo (wpAny_pure ?_))
   refine wpAny_bind (wpAny_bind (wpAny_onRaise ?_))
   show wpAny _ _ (Y0 (.ref i3) >>= _) _ _ _
   have hx3:xs3[k]?=none:=by
    rcases hend with h|h|h
    ·rw[hx1]at h;cases h
    ·rw[hx2]at h;cases h
    ·exact h
   refine wpAny_bind (FX hh (((((h3.at λo e=>hs₁.extBut _ o D.i3z e).at λo e=>hsa1.extBut _ o D.i3i1 e).at λo e=>hsb1.extBut _ o D.i3TO e).at λo e=>hsa2.extBut _ o D.i3i2 e).at λo e=>hsb2.extBut _ o D.i3TO e) (((((hl3.at λo e=>hs₁.extBut _ o D.l3z e).at λo e=>hsa1.extBut _ o D.l3i1 e).at λo e=>hsb1.extBut _ o D.l3TO e).at λo e=>hsa2.extBut _ o D.l3i2 e).at λo e=>hsb2.extBut _ o D.l3TO e) hx3 λhq e hsq he=>?_)
   obtain⟨oe,hoe,hce⟩:=he
   have hzq:IsZip hq z TI TO .ellipsis:=hsq _ _ D.i3z.symm (hsb2.extBut _ _ D.TOz.symm (hsa2.extBut _ _ D.i2z.symm (hsb1.extBut _ _ D.TOz.symm (hsa1.extBut _ _ D.i1z.symm hz₁))))
   have hez:e≠z:=λx=>by subst x;rw[hzq]at hoe;cases hoe;simp at hce
   refine wpAny_setField_rec hzq (by simp) λh₉ _ hs₉=>hE h₉ e (λc o c1 c2 d1 d2 d3 x=>hs₉.extBut _ _ c1 (hsq _ _ d3 (hsb2.extBut _ _ c2 (hsa2.extBut _ _ d2 (hsb1.extBut _ _ c2 (hsa1.extBut _ _ d1 (hs₁.extBut _ _ c1 x))))))) ⟨oe,hs₉.extBut _ _ hez hoe,hce⟩
theorem KY{z TI TO i1 i2 i3 l1 l2 l3:Addr}{k:Nat}{k1:Kd}{k2:Kd}{k3:Kd}{xs1 xs2 xs3:Array Value}{a1 a2 a3:Value}{x1 x2 x3:Value}{Q:Option Value->Shared->Prop}(D:ZAp3 z TI TO i1 i2 i3 l1 l2 l3)
  (hz:IsZip s.heap z TI TO .none) (hTI:IQ s.heap TI (.ref i1) (.ref i2) (.ref i3)) (hTO:IQ s.heap TO a1 a2 a3)
  (h1:ItAt k1 s.heap i1 l1 k) (h2:ItAt k2 s.heap i2 l2 k) (h3:ItAt k3 s.heap i3 l3 k) (hl1:SqAt k1 s.heap l1 xs1) (hl2:SqAt k2 s.heap l2 xs2) (hl3:SqAt k3 s.heap l3 xs3) (hx1:xs1[k]?=some x1) (hx2:xs2[k]?=some x2) (hx3:xs3[k]?=some x3)
  (hQ:∀h',IsZip h' z TI TO (rawInt s.heap.objs.size)->IQ h' TO x1 x2 x3->ItAt k1 h' i1 l1 (k+1)->ItAt k2 h' i2 l2 (k+1)->ItAt k3 h' i3 l3 (k+1)->IQ h' s.heap.objs.size x1 x2 x3->h'.objs.size=s.heap.objs.size+1 ->
    (∀c o,c≠z->c≠TO->c≠i1->c≠i2->c≠i3->s.heap.get? c=some o->h'.get? c=some o)->Q (some (.ref s.heap.objs.size)) { s with heap:=h' }) :
  wpAny (model prog w) A (pyNext (.ref z)) Q E s:=by
 have hT:s.TypeIs (.ref z) "zip":=⟨_,hz,rfl⟩
 unfold pyNext
 exact wpAny_bind (wpAny_attempt (wpAny_callSpecial?_slot (name:=Str.ofString "__next__") hT F.slot_zip_next
   (wpAny_call_entry F.slot_zip_next hT F.entry_zip_next
     (AH D hz hTI hTO h1 h2 h3 hl1 hl2 hl3 hx1 hx2 hx3 λh' a1 a2 b1 b2 b3 a5 a6 a7=>wpAny_pure (hQ h' a1 a2 b1 b2 b3 a5 a6 a7)) (F.args_zip_next_1 _))))
theorem LW{z TI TO i1 i2 i3 l1 l2 l3:Addr}{k:Nat}{k1:Kd}{k2:Kd}{k3:Kd}{xs1 xs2 xs3:Array Value}{a1 a2 a3:Value}{Q:Option Value->Shared->Prop}(hh:A.handled=none)(D:ZAp3 z TI TO i1 i2 i3 l1 l2 l3)
  (hz:IsZip s.heap z TI TO .none) (hTI:IQ s.heap TI (.ref i1) (.ref i2) (.ref i3)) (hTO:IQ s.heap TO a1 a2 a3)
  (h1:ItAt k1 s.heap i1 l1 k) (h2:ItAt k2 s.heap i2 l2 k) (h3:ItAt k3 s.heap i3 l3 k) (hl1:SqAt k1 s.heap l1 xs1) (hl2:SqAt k2 s.heap l2 xs2) (hl3:SqAt k3 s.heap l3 xs3) (hend:xs1[k]?=none\/xs2[k]?=none\/xs3[k]?=none)
  (hQ:∀h',(∀c o,c≠z->c≠TO->c≠i1->c≠i2->c≠i3->s.heap.get? c=some o->h'.get? c=some o)->Q none { s with heap:=h' }):wpAny (model prog w) A (pyNext (.ref z)) Q E s:=by
 have hT:s.TypeIs (.ref z) "zip":=⟨_,hz,rfl⟩
 unfold pyNext
 refine wpAny_bind (wpAny_attempt (wpAny_callSpecial?_slot (name:=Str.ofString "__next__") hT F.slot_zip_next
   (wpAny_call_entry F.slot_zip_next hT F.entry_zip_next (cD hh D hz hTI hTO h1 h2 h3 hl1 hl2 hl3 hend λh' e hk he=>?_) (F.args_zip_next_1 _))))
 obtain⟨o,ho,hc⟩:=he
 refine wpAny_bind (wpAny_isInstance (T:="StopIteration") (b:=true) ⟨o,ho,hc⟩ isSubtype_stop ?_)
 exact wpAny_pure (hQ _ hk)
end
noncomputable abbrev Ix(h:Heap)(k1:Kd)(k2:Kd)(k3:Kd)(l1 l2 l3:Addr):Heap:=(((h.push (SQ k1 l1)).push (SQ k2 l2)).push (SQ k3 l3))
noncomputable abbrev Jx(h:Heap)(k1:Kd)(k2:Kd)(k3:Kd)(l1 l2 l3:Addr):Heap:=(Ix h k1 k2 k3 l1 l2 l3).push { cls:=.type "tuple",data:=.seq #[.ref h.objs.size,.ref (h.push (SQ k1 l1)).objs.size,.ref ((h.push (SQ k1 l1)).push (SQ k2 l2)).objs.size] }
noncomputable abbrev Kx(h:Heap)(k1:Kd)(k2:Kd)(k3:Kd)(l1 l2 l3:Addr):Heap:=(Jx h k1 k2 k3 l1 l2 l3).push { cls:=.type "tuple",data:=.seq #[.none,.none,.none] }
noncomputable abbrev GV(h:Heap)(k1:Kd)(k2:Kd)(k3:Kd)(l1 l2 l3:Addr):Heap:=(Kx h k1 k2 k3 l1 l2 l3).push { cls:=.type "zip",data:=.fields #[.none,.bool false,.bool false,.ref (Ix h k1 k2 k3 l1 l2 l3).objs.size,.ref (Jx h k1 k2 k3 l1 l2 l3).objs.size] }
theorem Nq(k1:Kd)(k2:Kd)(k3:Kd)(l1 l2 l3:Addr)(xs1 xs2 xs3:Array Value) :
  Meets (Builtin.«zip.__new__» ⟨[.type "zip",.ref l1,.ref l2,.ref l3],[]⟩) (λ_ R s=>SqAt k1 s.heap l1 xs1/\SqAt k2 s.heap l2 xs2/\SqAt k3 s.heap l3 xs3 /\
    R (.ok (.ret (.ref (Kx s.heap k1 k2 k3 l1 l2 l3).objs.size))) { s with heap:=GV s.heap k1 k2 k3 l1 l2 l3 }) :=
 .of_wp λprog w A R s h=>by
  obtain⟨hp,g,d,tk,os⟩:=s;obtain⟨hl1,hl2,hl3,h⟩:=h
  have hsub:=sub_zip
  have hL1:SqAt k1 (Shared.heap ⟨hp,g,d,tk,os⟩) l1 xs1:=hl1
  have hL2:SqAt k2 (Shared.heap ⟨(hp.push (SQ k1 l1)),g,d,tk,os⟩) l2 xs2:=(SqAt.at hl2 λo e=>j0 _ e)
  have hL3:SqAt k3 (Shared.heap ⟨((hp.push (SQ k1 l1)).push (SQ k2 l2)),g,d,tk,os⟩) l3 xs3:=(SqAt.at (SqAt.at hl3 λo e=>j0 _ e) λo e=>j0 _ e)
  wp_walk using gK hL1,gK hL2,gK hL3
  exact ⟨_,rfl,h⟩
inductive Ki where|non|bl|int|str|lst|tup|dct
 deriving DecidableEq
noncomputable def Ki.nm:Ki->String
 | .non=>"NoneType" | .bl=>"bool" | .int=>"int" | .str=>"str" | .lst=>"list" | .tup=>"tuple" | .dct=>"dict"
noncomputable def Ki.sub:Ki->Ki->Bool
 | .bl,.int=>true
 | a,b=>decide (a=b)
noncomputable def Sq(k:Kd)(K:J0)(H:Hp)(a:Addr)(xs:List V):Prop:=match k with | .l=>SqL K H a xs | .t=>SqT K H a xs
theorem Inv.sq{X:Cx}{pins:List (Addr×Obj)}{σ:St}{H:Hp}{s:Shared}{k:Kd}{a:Addr}{xs:List V}(I:Inv X pins σ H s)(h:Sq k X.K H a xs):∃its:List Value,Vals xs its/\SqAt k s.heap a its.toArray/\xs.length<=sizeLine:=by
 cases k with
 | l=>obtain⟨its,r,p,z⟩:=I.list h;exact ⟨its,r,p.isList,z⟩
 | t=>obtain⟨its,r,p,z⟩:=I.tuple h;exact ⟨its,r,p,z⟩
theorem Inv.sq_inj{X:Cx}{pins:List (Addr×Obj)}{σ:St}{H:Hp}{s:Shared}{k:Kd}{a:Addr}{xs ys:List V}(I:Inv X pins σ H s)(h:Sq k X.K H a xs)(h':Sq k X.K H a ys):xs=ys:=by
 cases k with
 | l=>exact I.list_inj h h'
 | t=>exact I.tuple_inj h h'
noncomputable def Uy(K:J0)(k1:Kd)(k2:Kd)(l1 l2:Addr):It :=
 ⟨λi H=>∃ys1 x1 ys2 x2,Sq k1 K H l1 ys1/\Sq k2 K H l2 ys2/\ys1[i]?=some x1/\ys2[i]?=some x2,
  λi H x H'=>∃T x1 x2,H T=none/\x=.ref T/\H'=NQ H T (.tup [x1,x2])/\(∀ys,Sq k1 K H l1 ys->ys[i]?=some x1)/\(∀ys,Sq k2 K H l2 ys->ys[i]?=some x2),
  λi H=>∃ys1 ys2,Sq k1 K H l1 ys1/\Sq k2 K H l2 ys2/\(ys1.length<=i\/ys2.length<=i)⟩
theorem eD{P:Program}{w:World}{K:J0}{es:List Expr}{kk:Nat}{pos:Pos}(k1:Kd)(k2:Kd)(z TI TO i1 i2 l1 l2:Addr)(D:ZAp2 z TI TO i1 i2 l1 l2):Turn P w K (.Tuple es kk pos) (Uy K k1 k2 l1 l2) [z,TI,TO,i1,i2] z
  (λi h=>IsZip h z TI TO .none/\xQ h TI (.ref i1) (.ref i2)/\(∃a1 a2,xQ h TO a1 a2)/\ItAt k1 h i1 l1 i/\ItAt k2 h i2 l2 i) where
 mem:=by simp
 obj:=λi h st b hb=>by
  obtain⟨hz,hTI,⟨a1,a2,hTO⟩,t1,t2⟩:=st
  have hb:b=z\/b=TI\/b=TO\/b=i1\/b=i2:=by simpa using hb
  rcases hb with rfl|rfl|rfl|rfl|rfl
  ·exact ⟨_,hz,λv e=>by cases e⟩
  ·exact ⟨_,hTI,λv e=>by cases e⟩
  ·exact ⟨_,hTO,λv e=>by cases e⟩
  ·exact t1.obj
  ·exact t2.obj
 keep:=λi h h' st k=>by
  obtain⟨hz,hTI,⟨a1,a2,hTO⟩,t1,t2⟩:=st
  exact ⟨k _ (by simp) _ hz,k _ (by simp) _ hTI,⟨a1,a2,k _ (by simp) _ hTO⟩,t1.at λo e=>k _ (by simp) _ e,t2.at λo e=>k _ (by simp) _ e⟩
 item:=by
  intro X hP hw hK hc i pins s σ H E I hf st hg
  subst hP hw hK
  obtain⟨hz,hTI,⟨a1,a2,hTO⟩,t1,t2⟩:=st
  obtain⟨ys1,x1,ys2,x2,q1,q2,e1,e2⟩:=hg
  obtain⟨its1,rv1,p1,z1⟩:=I.sq q1
  obtain⟨u1,hu1,ru1⟩:=rv1.get e1
  obtain⟨its2,rv2,p2,z2⟩:=I.sq q2
  obtain⟨u2,hu2,ru2⟩:=rv2.get e2
  refine fJ D hz hTI hTO t1 t2 p1 p2 (show its1.toArray[i]?=some u1 by simpa using hu1) (show its2.toArray[i]?=some u2 by simpa using hu2) λh' b1 b2 c1 c2 b5 b6 b7=>?_
  have hTn:s.heap.objs.size≠z:=Z1 (L0 hz)
  refine ⟨_,rfl,wpAny_letOwnedTupleGo_zip (s:={ s with heap:=h' }) b1 λh2 hz2 hs2=>?_⟩
  have kp:∀b o,b∉[z,TI,TO,i1,i2]->s.heap.get? b=some o->h2.get? b=some o:=λb o hb e=>by
   have hb:b≠z/\b≠TI/\b≠TO/\b≠i1/\b≠i2:=by simpa using hb
   obtain⟨g1,g2,g3,f1,f2⟩:=hb
   exact hs2.extBut _ _ g1 (b7 b o g1 g3 f1 f2 e)
  have hTI2:xQ h2 TI (.ref i1) (.ref i2):=hs2.extBut _ _ D.TIz (b7 TI _ D.TIz (Z2 D.TOTI) (Z2 D.i1TI) (Z2 D.i2TI) hTI)
  have hT2:xQ h2 s.heap.objs.size u1 u2:=hs2.extBut _ _ hTn b5
  have hfr:H s.heap.objs.size=none:=I.hok.fresh (R0 _)
  have I2:Inv X pins σ (NQ H s.heap.objs.size (.tup [x1,x2])) { s with heap:=h2 }:=by
   have nfp:∀b u,H b=some u->b∉[z,TI,TO,i1,i2]:=λb u e hb=>by have:=(hf b hb).1;rw[e]at this;cases this
   refine I.step (g':=s.gens) (d':=s.drawn) (ch:=[z,TI,TO,i1,i2]) (λb hb=>?_) (λb o _ _ hc' e _=>kp b o hc' e) (λb o _ _ hc' e _=>⟨o.slots,kp b o hc' e⟩) (λb o _ e n=>?_)
    (λb o hc' e=>⟨o,kp b o hc' e⟩) (λb xs e=>?_) (λb o xs e=>?_) (λb ps e=>⟨#[],?_⟩) (λm hm=>?_) (λb o e=>?_) I.bare
   ·obtain⟨f0,f1,f2,f3,f4,f5⟩:=hf b hb
    exact ⟨f3,f1,f4,f5⟩
   ·rw[dQ (W0 (L0 e))];exact n
   ·rw[dQ (jQ e hfr)];exact e
   ·rw[dQ (jQ e hfr)];exact e
   ·rw[dQ (jQ e hfr),e];simp
   ·obtain⟨o,es',ep,ho,r⟩:=hm
    exact ⟨o,es',ep,kp _ o (λhb=>(hf _ hb).2.1 rfl) ho,r⟩
   ·by_cases hb:b=s.heap.objs.size
    ·subst hb
     rw[iQ]at e
     cases e
     exact ⟨by show 2<=sizeLine;decide,[u1,u2],.cons ru1 (.cons ru2 .nil),_,hT2,rfl,_,rfl,rfl⟩
    ·rw[dQ hb]at e
     refine (I.hok b o e).stay (λc v hc' q=>kp c v ?_ q) (λc q=>by rw[dQ (jQ q hfr)];exact q) λc xs q=>by rw[dQ (jQ q hfr)];exact q
     rcases hc' with rfl|hc'
     ·exact nfp _ _ e
     ·exact nfp _ _ hc'
  refine ⟨.ref s.heap.objs.size,_,I2,rfl,⟨_,x1,x2,hfr,rfl,rfl,(λys hy=>by rw[I.sq_inj hy q1];exact e1),(λys hy=>by rw[I.sq_inj hy q2];exact e2)⟩,⟨hz2,hTI2,⟨u1,u2,hs2.extBut _ _ D.TOz b2⟩,c1.at λo e=>hs2.extBut _ _ D.i1z e,c2.at λo e=>hs2.extBut _ _ D.i2z e⟩,λb hb=>?_⟩
  rw[dQ ?_]
  ·exact (hf b hb).1
  ·intro e
   subst e
   have hb:s.heap.objs.size=z\/s.heap.objs.size=TI\/s.heap.objs.size=TO\/s.heap.objs.size=i1\/s.heap.objs.size=i2:=by simpa using hb
   rcases hb with e|e|e|e|e
   ·exact hTn e
   ·exact Z1 (L0 hTI) e
   ·exact Z1 (L0 hTO) e
   ·obtain⟨o,eo,_⟩:=t1.obj
    exact Z1 (L0 eo) e
   ·obtain⟨o,eo,_⟩:=t2.obj
    exact Z1 (L0 eo) e
 done:=by
  intro X hP hw hK hc i pins s σ H E I hf st hg
  subst hP hw hK
  obtain⟨hz,hTI,⟨a1,a2,hTO⟩,t1,t2⟩:=st
  obtain⟨ys1,ys2,q1,q2,hend⟩:=hg
  obtain⟨its1,rv1,p1,z1⟩:=I.sq q1
  have len1:=rv1.length
  obtain⟨its2,rv2,p2,z2⟩:=I.sq q2
  have len2:=rv2.length
  refine CJ (I.ok.hd hc) D hz hTI hTO t1 t2 p1 p2 ?_ λh' kp=>⟨rfl,?_⟩
  ·rcases hend with h|h
   ·exact .inl (by simp;omega)
   ·exact .inr (by simp;omega)
  ·have nfp:∀b u,H b=some u->b∉[z,TI,TO,i1,i2]:=λb u e hb=>by have:=(hf b hb).1;rw[e]at this;cases this
   have kp':∀b o,b∉[z,TI,TO,i1,i2]->s.heap.get? b=some o->h'.get? b=some o:=λb o hb e=>by
    have hb:b≠z/\b≠TI/\b≠TO/\b≠i1/\b≠i2:=by simpa using hb
    obtain⟨g1,g2,g3,f1,f2⟩:=hb
    exact kp b o g1 g3 f1 f2 e
   refine I.step (g':=s.gens) (d':=s.drawn) (ch:=[z,TI,TO,i1,i2]) (λb hb=>?_) (λb o _ _ hc' e _=>kp' b o hc' e) (λb o _ _ hc' e _=>⟨o.slots,kp' b o hc' e⟩) (λb o _ e n=>n)
    (λb o hc' e=>⟨o,kp' b o hc' e⟩) (λb xs e=>e) (λb o xs e=>e) (λb ps e=>⟨#[],by rw[e];simp⟩) (λm hm=>?_) (λb o e=>?_) I.bare
   ·obtain⟨f0,f1,f2,f3,f4,f5⟩:=hf b hb
    exact ⟨f3,f1,f4,f5⟩
   ·obtain⟨o,es',ep,ho,r⟩:=hm
    exact ⟨o,es',ep,kp' _ o (λhb=>(hf _ hb).2.1 rfl) ho,r⟩
   ·refine (I.hok b o e).stay (λc v hc' q=>kp' c v ?_ q) (λ_ q=>q) λ_ _ q=>q
    rcases hc' with rfl|hc'
    ·exact nfp _ _ e
    ·exact nfp _ _ hc'
 self:=λ_ _ _ _ _ st h=>wpAny_pyIter_zip st.1 h
noncomputable def Vy(K:J0)(k1:Kd)(k2:Kd)(k3:Kd)(l1 l2 l3:Addr):It :=
 ⟨λi H=>∃ys1 x1 ys2 x2 ys3 x3,Sq k1 K H l1 ys1/\Sq k2 K H l2 ys2/\Sq k3 K H l3 ys3/\ys1[i]?=some x1/\ys2[i]?=some x2/\ys3[i]?=some x3,
  λi H x H'=>∃T x1 x2 x3,H T=none/\x=.ref T/\H'=NQ H T (.tup [x1,x2,x3])/\(∀ys,Sq k1 K H l1 ys->ys[i]?=some x1)/\(∀ys,Sq k2 K H l2 ys->ys[i]?=some x2)/\(∀ys,Sq k3 K H l3 ys->ys[i]?=some x3),
  λi H=>∃ys1 ys2 ys3,Sq k1 K H l1 ys1/\Sq k2 K H l2 ys2/\Sq k3 K H l3 ys3/\(ys1.length<=i\/ys2.length<=i\/ys3.length<=i)⟩
theorem fD{P:Program}{w:World}{K:J0}{es:List Expr}{kk:Nat}{pos:Pos}(k1:Kd)(k2:Kd)(k3:Kd)(z TI TO i1 i2 i3 l1 l2 l3:Addr)(D:ZAp3 z TI TO i1 i2 i3 l1 l2 l3):Turn P w K (.Tuple es kk pos) (Vy K k1 k2 k3 l1 l2 l3) [z,TI,TO,i1,i2,i3] z
  (λi h=>IsZip h z TI TO .none/\IQ h TI (.ref i1) (.ref i2) (.ref i3)/\(∃a1 a2 a3,IQ h TO a1 a2 a3)/\ItAt k1 h i1 l1 i/\ItAt k2 h i2 l2 i/\ItAt k3 h i3 l3 i) where
 mem:=by simp
 obj:=λi h st b hb=>by
  obtain⟨hz,hTI,⟨a1,a2,a3,hTO⟩,t1,t2,t3⟩:=st
  have hb:b=z\/b=TI\/b=TO\/b=i1\/b=i2\/b=i3:=by simpa using hb
  rcases hb with rfl|rfl|rfl|rfl|rfl|rfl
  ·exact ⟨_,hz,λv e=>by cases e⟩
  ·exact ⟨_,hTI,λv e=>by cases e⟩
  ·exact ⟨_,hTO,λv e=>by cases e⟩
  ·exact t1.obj
  ·exact t2.obj
  ·exact t3.obj
 keep:=λi h h' st k=>by
  obtain⟨hz,hTI,⟨a1,a2,a3,hTO⟩,t1,t2,t3⟩:=st
  exact ⟨k _ (by simp) _ hz,k _ (by simp) _ hTI,⟨a1,a2,a3,k _ (by simp) _ hTO⟩,t1.at λo e=>k _ (by simp) _ e,t2.at λo e=>k _ (by simp) _ e,t3.at λo e=>k _ (by simp) _ e⟩
 item:=by
  intro X hP hw hK hc i pins s σ H E I hf st hg
  subst hP hw hK
  obtain⟨hz,hTI,⟨a1,a2,a3,hTO⟩,t1,t2,t3⟩:=st
  obtain⟨ys1,x1,ys2,x2,ys3,x3,q1,q2,q3,e1,e2,e3⟩:=hg
  obtain⟨its1,rv1,p1,z1⟩:=I.sq q1
  obtain⟨u1,hu1,ru1⟩:=rv1.get e1
  obtain⟨its2,rv2,p2,z2⟩:=I.sq q2
  obtain⟨u2,hu2,ru2⟩:=rv2.get e2
  obtain⟨its3,rv3,p3,z3⟩:=I.sq q3
  obtain⟨u3,hu3,ru3⟩:=rv3.get e3
  refine KY D hz hTI hTO t1 t2 t3 p1 p2 p3 (show its1.toArray[i]?=some u1 by simpa using hu1) (show its2.toArray[i]?=some u2 by simpa using hu2) (show its3.toArray[i]?=some u3 by simpa using hu3) λh' b1 b2 c1 c2 c3 b5 b6 b7=>?_
  have hTn:s.heap.objs.size≠z:=Z1 (L0 hz)
  refine ⟨_,rfl,wpAny_letOwnedTupleGo_zip (s:={ s with heap:=h' }) b1 λh2 hz2 hs2=>?_⟩
  have kp:∀b o,b∉[z,TI,TO,i1,i2,i3]->s.heap.get? b=some o->h2.get? b=some o:=λb o hb e=>by
   have hb:b≠z/\b≠TI/\b≠TO/\b≠i1/\b≠i2/\b≠i3:=by simpa using hb
   obtain⟨g1,g2,g3,f1,f2,f3⟩:=hb
   exact hs2.extBut _ _ g1 (b7 b o g1 g3 f1 f2 f3 e)
  have hTI2:IQ h2 TI (.ref i1) (.ref i2) (.ref i3):=hs2.extBut _ _ D.TIz (b7 TI _ D.TIz (Z2 D.TOTI) (Z2 D.i1TI) (Z2 D.i2TI) (Z2 D.i3TI) hTI)
  have hT2:IQ h2 s.heap.objs.size u1 u2 u3:=hs2.extBut _ _ hTn b5
  have hfr:H s.heap.objs.size=none:=I.hok.fresh (R0 _)
  have I2:Inv X pins σ (NQ H s.heap.objs.size (.tup [x1,x2,x3])) { s with heap:=h2 }:=by
   have nfp:∀b u,H b=some u->b∉[z,TI,TO,i1,i2,i3]:=λb u e hb=>by have:=(hf b hb).1;rw[e]at this;cases this
   refine I.step (g':=s.gens) (d':=s.drawn) (ch:=[z,TI,TO,i1,i2,i3]) (λb hb=>?_) (λb o _ _ hc' e _=>kp b o hc' e) (λb o _ _ hc' e _=>⟨o.slots,kp b o hc' e⟩) (λb o _ e n=>?_)
    (λb o hc' e=>⟨o,kp b o hc' e⟩) (λb xs e=>?_) (λb o xs e=>?_) (λb ps e=>⟨#[],?_⟩) (λm hm=>?_) (λb o e=>?_) I.bare
   ·obtain⟨f0,f1,f2,f3,f4,f5⟩:=hf b hb
    exact ⟨f3,f1,f4,f5⟩
   ·rw[dQ (W0 (L0 e))];exact n
   ·rw[dQ (jQ e hfr)];exact e
   ·rw[dQ (jQ e hfr)];exact e
   ·rw[dQ (jQ e hfr),e];simp
   ·obtain⟨o,es',ep,ho,r⟩:=hm
    exact ⟨o,es',ep,kp _ o (λhb=>(hf _ hb).2.1 rfl) ho,r⟩
   ·by_cases hb:b=s.heap.objs.size
    ·subst hb
     rw[iQ]at e
     cases e
     exact ⟨by show 3<=sizeLine;decide,[u1,u2,u3],.cons ru1 (.cons ru2 (.cons ru3 .nil)),_,hT2,rfl,_,rfl,rfl⟩
    ·rw[dQ hb]at e
     refine (I.hok b o e).stay (λc v hc' q=>kp c v ?_ q) (λc q=>by rw[dQ (jQ q hfr)];exact q) λc xs q=>by rw[dQ (jQ q hfr)];exact q
     rcases hc' with rfl|hc'
     ·exact nfp _ _ e
     ·exact nfp _ _ hc'
  refine ⟨.ref s.heap.objs.size,_,I2,rfl,⟨_,x1,x2,x3,hfr,rfl,rfl,(λys hy=>by rw[I.sq_inj hy q1];exact e1),(λys hy=>by rw[I.sq_inj hy q2];exact e2),(λys hy=>by rw[I.sq_inj hy q3];exact e3)⟩,⟨hz2,hTI2,⟨u1,u2,u3,hs2.extBut _ _ D.TOz b2⟩,c1.at λo e=>hs2.extBut _ _ D.i1z e,c2.at λo e=>hs2.extBut _ _ D.i2z e,c3.at λo e=>hs2.extBut _ _ D.i3z e⟩,λb hb=>?_⟩
  rw[dQ ?_]
  ·exact (hf b hb).1
  ·intro e
   subst e
   have hb:s.heap.objs.size=z\/s.heap.objs.size=TI\/s.heap.objs.size=TO\/s.heap.objs.size=i1\/s.heap.objs.size=i2\/s.heap.objs.size=i3:=by simpa using hb
   rcases hb with e|e|e|e|e|e
   ·exact hTn e
   ·exact Z1 (L0 hTI) e
   ·exact Z1 (L0 hTO) e
   ·obtain⟨o,eo,_⟩:=t1.obj
    exact Z1 (L0 eo) e
   ·obtain⟨o,eo,_⟩:=t2.obj
    exact Z1 (L0 eo) e
   ·obtain⟨o,eo,_⟩:=t3.obj
    exact Z1 (L0 eo) e
 done:=by
  intro X hP hw hK hc i pins s σ H E I hf st hg
  subst hP hw hK
  obtain⟨hz,hTI,⟨a1,a2,a3,hTO⟩,t1,t2,t3⟩:=st
  obtain⟨ys1,ys2,ys3,q1,q2,q3,hend⟩:=hg
  obtain⟨its1,rv1,p1,z1⟩:=I.sq q1
  have len1:=rv1.length
  obtain⟨its2,rv2,p2,z2⟩:=I.sq q2
  have len2:=rv2.length
  obtain⟨its3,rv3,p3,z3⟩:=I.sq q3
  have len3:=rv3.length
  refine LW (I.ok.hd hc) D hz hTI hTO t1 t2 t3 p1 p2 p3 ?_ λh' kp=>⟨rfl,?_⟩
  ·rcases hend with h|h|h
   ·exact .inl (by simp;omega)
   ·exact .inr (.inl (by simp;omega))
   ·exact .inr (.inr (by simp;omega))
  ·have nfp:∀b u,H b=some u->b∉[z,TI,TO,i1,i2,i3]:=λb u e hb=>by have:=(hf b hb).1;rw[e]at this;cases this
   have kp':∀b o,b∉[z,TI,TO,i1,i2,i3]->s.heap.get? b=some o->h'.get? b=some o:=λb o hb e=>by
    have hb:b≠z/\b≠TI/\b≠TO/\b≠i1/\b≠i2/\b≠i3:=by simpa using hb
    obtain⟨g1,g2,g3,f1,f2,f3⟩:=hb
    exact kp b o g1 g3 f1 f2 f3 e
   refine I.step (g':=s.gens) (d':=s.drawn) (ch:=[z,TI,TO,i1,i2,i3]) (λb hb=>?_) (λb o _ _ hc' e _=>kp' b o hc' e) (λb o _ _ hc' e _=>⟨o.slots,kp' b o hc' e⟩) (λb o _ e n=>n)
    (λb o hc' e=>⟨o,kp' b o hc' e⟩) (λb xs e=>e) (λb o xs e=>e) (λb ps e=>⟨#[],by rw[e];simp⟩) (λm hm=>?_) (λb o e=>?_) I.bare
   ·obtain⟨f0,f1,f2,f3,f4,f5⟩:=hf b hb
    exact ⟨f3,f1,f4,f5⟩
   ·obtain⟨o,es',ep,ho,r⟩:=hm
    exact ⟨o,es',ep,kp' _ o (λhb=>(hf _ hb).2.1 rfl) ho,r⟩
   ·refine (I.hok b o e).stay (λc v hc' q=>kp' c v ?_ q) (λ_ q=>q) λ_ _ q=>q
    rcases hc' with rfl|hc'
    ·exact nfp _ _ e
    ·exact nfp _ _ hc'
 self:=λ_ _ _ _ _ st h=>wpAny_pyIter_zip st.1 h
noncomputable def OG(K:J0)(ta:TA):TI:=λσ H R=>ta σ H λvs H1=>∃(k1:Kd) (l1:Addr) (ys1:List V) (k2:Kd) (l2:Addr) (ys2:List V),vs=[.ref l1,.ref l2]/\Sq k1 K H1 l1 ys1/\Sq k2 K H1 l2 ys2/\R (Uy K k1 k2 l1 l2) H1
theorem Lx{X:Cx}{es:List Expr}{kk:Nat}{tpos:Pos}{a b:Expr}{ta:TA}{p pos:Pos}(hg:Gl X "zip")(hm:X.mg "zip"=none)(ha:PA X [a,b] ta)(hs:starEach [a,b] X.env=(false,eval a X.env) :: starEach [b] X.env:=by rfl)(hpl:(backTo pos (starEach [b] X.env)).any (·.1)=false:=by rfl) :
  PI X (.Tuple es kk tpos) (.Call (.Name "zip" p) [a,b] [] pos) (OG X.K ta):=by
 intro pins s σ H R I h
 refine Call_ (HJ I hg hm boot_zip (U3 (wX (ha pos pins s σ H _ I h) λus s1 ⟨vs,H1,I1,r1,q1⟩=>?_) hs hpl))
 obtain⟨k1,l1,ys1,k2,l2,ys2,e,q1,q2,q⟩:=q1
 subst e
 obtain rfl:us=[.ref l1,.ref l2]:=by
  cases r1 with|cons r rr=>cases r;cases rr with|cons r rr=>cases r;cases rr;rfl
 obtain⟨its1,rv1,p1,z1⟩:=I1.sq q1
 obtain⟨its2,rv2,p2,z2⟩:=I1.sq q2
 have lt:∀{k:Kd}{l:Addr}{xs:Array Value},SqAt k s1.heap l xs->l < s1.heap.objs.size:=λ{k l xs} p=>by
  cases k with
  | l=>obtain⟨o,e,_⟩:=p;exact L0 e
  | t=>obtain⟨o,e,_⟩:=p;exact L0 e
 refine callType_new F.called_zip (by decide) (F.typeCall_zip_2 _ _) (F.newCall_zip_2 _ _) (λobj=>F.args_object_init_3 obj _ _) F.entry_zip_new (rU k1 k2 l1 l2 its1.toArray its2.toArray) ⟨p1,p2,?_⟩
 have zI:(ZF s1.heap k1 k2 l1 l2).objs.size=s1.heap.objs.size+2:=by simp[O1]
 have zT:(aD s1.heap k1 k2 l1 l2).objs.size=s1.heap.objs.size+3:=by simp[O1]
 have zO:(bD s1.heap k1 k2 l1 l2).objs.size=s1.heap.objs.size+4:=by simp[O1]
 have gZ:(WZ s1.heap k1 k2 l1 l2).get? (bD s1.heap k1 k2 l1 l2).objs.size=some _:=G0 _ rfl
 have gO:(WZ s1.heap k1 k2 l1 l2).get? (aD s1.heap k1 k2 l1 l2).objs.size=some _:=j0 _ (G0 _ rfl)
 have gT:(WZ s1.heap k1 k2 l1 l2).get? (ZF s1.heap k1 k2 l1 l2).objs.size=some _:=j0 _ (j0 _ (G0 _ rfl))
 have g1:(WZ s1.heap k1 k2 l1 l2).get? s1.heap.objs.size=some (SQ k1 l1):=j0 _ (j0 _ (j0 _ (j0 _ (G0 _ (by cases k1<;>rfl)))))
 have g2:(WZ s1.heap k1 k2 l1 l2).get? (s1.heap.push (SQ k1 l1)).objs.size=some (SQ k2 l2):=j0 _ (j0 _ (j0 _ (G0 _ (by cases k2<;>rfl))))
 have zz2:(s1.heap.push (SQ k1 l1)).objs.size=s1.heap.objs.size+1:=by simp[O1]
 rw[zO,zT,zI]at gZ
 rw[zI,zz2]at gT
 rw[zT]at gO
 rw[zz2]at g2
 show _/\_
 rw[zO]
 have kp:∀b o,s1.heap.get? b=some o->(WZ s1.heap k1 k2 l1 l2).get? b=some o:=λb o e=>j0 _ (j0 _ (j0 _ (j0 _ (j0 _ (e)))))
 refine ⟨⟨_,gZ,rfl⟩,wpAny_pyIter_zip (s:={ s1 with heap:=WZ s1.heap k1 k2 l1 l2 }) gZ ?_⟩
 refine ⟨_,[s1.heap.objs.size+4,s1.heap.objs.size+2,s1.heap.objs.size+3,s1.heap.objs.size,s1.heap.objs.size+1],_,_,H1,rfl,I1.kept (t':=s1.toks) kp,eD k1 k2 _ _ _ _ _ l1 l2 (AC _ l1 l2 (lt p1) (lt p2)),⟨gZ,gT,⟨_,_,gO⟩,ItAt.new k1 g1,ItAt.new k2 g2⟩,λb hb=>?_,q⟩
 have hb:s1.heap.objs.size<=b:=by
  have hb:b=s1.heap.objs.size+4\/b=s1.heap.objs.size+2\/b=s1.heap.objs.size+3\/b=s1.heap.objs.size\/b=s1.heap.objs.size+1:=by simpa using hb
  rcases hb with rfl|rfl|rfl|rfl|rfl
  all_goals first|exact O4 _ _|exact R0 _
 exact I1.fpOk hb (I1.hok.fresh hb)
noncomputable def QG(K:J0)(ta:TA):TI:=λσ H R=>ta σ H λvs H1=>∃(k1:Kd) (l1:Addr) (ys1:List V) (k2:Kd) (l2:Addr) (ys2:List V) (k3:Kd) (l3:Addr) (ys3:List V),vs=[.ref l1,.ref l2,.ref l3]/\Sq k1 K H1 l1 ys1/\Sq k2 K H1 l2 ys2/\Sq k3 K H1 l3 ys3/\R (Vy K k1 k2 k3 l1 l2 l3) H1
theorem LY(a b c:Value):checkTypeCall "zip" ⟨[a,b,c],[]⟩=pure ():=by kernel_rfl
theorem MW(a b c:Value):checkBuiltinCall "zip.__new__" ⟨[.type "zip",a,b,c],[]⟩=pure ():=by kernel_rfl
theorem JJ(a b c d:Value):argsOk "object.__init__" ⟨[a,b,c,d],[]⟩:=by
 unfold argsOk;rw[signature?_of (id:="object.__init__") (n:=['_','_','t','i','n','i','_','_']) (o:=['t','c','e','j','b','o']) (by kernel_rfl) F.owner_object];kernel_rfl
theorem Mx{X:Cx}{es:List Expr}{kk:Nat}{tpos:Pos}{a b c:Expr}{ta:TA}{p pos:Pos}(hg:Gl X "zip")(hm:X.mg "zip"=none)(ha:PA X [a,b,c] ta)(hs:starEach [a,b,c] X.env=(false,eval a X.env) :: starEach [b,c] X.env:=by rfl)(hpl:(backTo pos (starEach [b,c] X.env)).any (·.1)=false:=by rfl) :
  PI X (.Tuple es kk tpos) (.Call (.Name "zip" p) [a,b,c] [] pos) (QG X.K ta):=by
 intro pins s σ H R I h
 refine Call_ (HJ I hg hm boot_zip (U3 (wX (ha pos pins s σ H _ I h) λus s1 ⟨vs,H1,I1,r1,q1⟩=>?_) hs hpl))
 obtain⟨k1,l1,ys1,k2,l2,ys2,k3,l3,ys3,e,q1,q2,q3,q⟩:=q1
 subst e
 obtain rfl:us=[.ref l1,.ref l2,.ref l3]:=by
  cases r1 with|cons r rr=>cases r;cases rr with|cons r rr=>cases r;cases rr with|cons r rr=>cases r;cases rr;rfl
 obtain⟨its1,rv1,p1,z1⟩:=I1.sq q1
 obtain⟨its2,rv2,p2,z2⟩:=I1.sq q2
 obtain⟨its3,rv3,p3,z3⟩:=I1.sq q3
 have lt:∀{k:Kd}{l:Addr}{xs:Array Value},SqAt k s1.heap l xs->l < s1.heap.objs.size:=λ{k l xs} p=>by
  cases k with
  | l=>obtain⟨o,e,_⟩:=p;exact L0 e
  | t=>obtain⟨o,e,_⟩:=p;exact L0 e
 refine callType_new F.called_zip (by decide) (LY _ _ _) (MW _ _ _) (λobj=>JJ obj _ _ _) F.entry_zip_new (Nq k1 k2 k3 l1 l2 l3 its1.toArray its2.toArray its3.toArray) ⟨p1,p2,p3,?_⟩
 have zI:(Ix s1.heap k1 k2 k3 l1 l2 l3).objs.size=s1.heap.objs.size+3:=by simp[O1]
 have zT:(Jx s1.heap k1 k2 k3 l1 l2 l3).objs.size=s1.heap.objs.size+4:=by simp[O1]
 have zO:(Kx s1.heap k1 k2 k3 l1 l2 l3).objs.size=s1.heap.objs.size+5:=by simp[O1]
 have gZ:(GV s1.heap k1 k2 k3 l1 l2 l3).get? (Kx s1.heap k1 k2 k3 l1 l2 l3).objs.size=some _:=G0 _ rfl
 have gO:(GV s1.heap k1 k2 k3 l1 l2 l3).get? (Jx s1.heap k1 k2 k3 l1 l2 l3).objs.size=some _:=j0 _ (G0 _ rfl)
 have gT:(GV s1.heap k1 k2 k3 l1 l2 l3).get? (Ix s1.heap k1 k2 k3 l1 l2 l3).objs.size=some _:=j0 _ (j0 _ (G0 _ rfl))
 have g1:(GV s1.heap k1 k2 k3 l1 l2 l3).get? s1.heap.objs.size=some (SQ k1 l1):=j0 _ (j0 _ (j0 _ (j0 _ (j0 _ (G0 _ (by cases k1<;>rfl))))))
 have g2:(GV s1.heap k1 k2 k3 l1 l2 l3).get? (s1.heap.push (SQ k1 l1)).objs.size=some (SQ k2 l2):=j0 _ (j0 _ (j0 _ (j0 _ (G0 _ (by cases k2<;>rfl)))))
 have zz2:(s1.heap.push (SQ k1 l1)).objs.size=s1.heap.objs.size+1:=by simp[O1]
 have g3:(GV s1.heap k1 k2 k3 l1 l2 l3).get? ((s1.heap.push (SQ k1 l1)).push (SQ k2 l2)).objs.size=some (SQ k3 l3):=j0 _ (j0 _ (j0 _ (G0 _ (by cases k3<;>rfl))))
 have zz3:((s1.heap.push (SQ k1 l1)).push (SQ k2 l2)).objs.size=s1.heap.objs.size+2:=by simp[O1]
 rw[zO,zT,zI]at gZ
 rw[zI,zz2,zz3]at gT
 rw[zT]at gO
 rw[zz2]at g2
 rw[zz3]at g3
 show _/\_
 rw[zO]
 have kp:∀b o,s1.heap.get? b=some o->(GV s1.heap k1 k2 k3 l1 l2 l3).get? b=some o:=λb o e=>j0 _ (j0 _ (j0 _ (j0 _ (j0 _ (j0 _ (e))))))
 refine ⟨⟨_,gZ,rfl⟩,wpAny_pyIter_zip (s:={ s1 with heap:=GV s1.heap k1 k2 k3 l1 l2 l3 }) gZ ?_⟩
 refine ⟨_,[s1.heap.objs.size+5,s1.heap.objs.size+3,s1.heap.objs.size+4,s1.heap.objs.size,s1.heap.objs.size+1,s1.heap.objs.size+2],_,_,H1,rfl,I1.kept (t':=s1.toks) kp,fD k1 k2 k3 _ _ _ _ _ _ l1 l2 l3 (yL _ l1 l2 l3 (lt p1) (lt p2) (lt p3)),⟨gZ,gT,⟨_,_,_,gO⟩,ItAt.new k1 g1,ItAt.new k2 g2,ItAt.new k3 g3⟩,λb hb=>?_,q⟩
 have hb:s1.heap.objs.size<=b:=by
  have hb:b=s1.heap.objs.size+5\/b=s1.heap.objs.size+3\/b=s1.heap.objs.size+4\/b=s1.heap.objs.size\/b=s1.heap.objs.size+1\/b=s1.heap.objs.size+2:=by simpa using hb
  rcases hb with rfl|rfl|rfl|rfl|rfl|rfl
  all_goals first|exact O4 _ _|exact R0 _
 exact I1.fpOk hb (I1.hok.fresh hb)
mutual
inductive Is (K:J0) (H:Hp):V->PyData->Prop
 | non:Is K H .non .none
 | bl (b):Is K H (.bl b) (.bool b)
 | int (i):Is K H (.int i) (.int i)
 | str (x):Is K H (.str x) (.str x)
 | lst {a xs ds}:SqL K H a xs->IsAll K H xs ds->Is K H (.ref a) (.list ds)
 | tup {a xs ds}:SqT K H a xs->IsAll K H xs ds->Is K H (.ref a) (.tuple ds)
inductive IsAll (K:J0) (H:Hp):List V->List PyData->Prop
 | nil:IsAll K H [] []
 | cons {x xs d ds}:Is K H x d->IsAll K H xs ds->IsAll K H (x :: xs) (d :: ds)
end
section
variable {X:Cx}{pins:List (Addr×Obj)}{σ:St}{H:Hp}{s:Shared}
mutual
theorem Is.reads(I:Inv X pins σ H s):∀{x:V}{d:PyData}{u:Value},Is X.K H x d->RelV x u->∃as,Reads s.heap u d as
 | _,_,_,.non,r=>by cases r;exact ⟨_,.none⟩
 | _,_,_,.bl b,r=>by cases r;exact ⟨_,.bool b⟩
 | _,_,_,.int i,r=>by obtain⟨t,rfl⟩:=r;exact ⟨_,.int i t⟩
 | _,_,_,.str x,r=>by obtain⟨t,rfl⟩:=r;exact ⟨_,.str x t⟩
 | _,_,_,.lst hq ha,r=>by
  cases r
  obtain⟨its,rv,⟨o,n,e,c,d,q⟩,z⟩:=I.list hq
  obtain⟨as,hr⟩:=IsAll.reads I ha rv
  exact ⟨_,.list e c q (by simpa using hr)⟩
 | _,_,_,.tup hq ha,r=>by
  cases r
  obtain⟨its,rv,⟨o,e,c,n,q⟩,z⟩:=I.tuple hq
  obtain⟨as,hr⟩:=IsAll.reads I ha rv
  exact ⟨_,.tuple e c q (by simpa using hr)⟩
theorem IsAll.reads(I:Inv X pins σ H s):∀{xs:List V}{ds:List PyData}{us:List Value},IsAll X.K H xs ds->Vals xs us->∃as,ReadsAll s.heap us ds as
 | _,_,_,.nil,.nil=>⟨_,.nil⟩
 | _,_,_,.cons h t,.cons r rr=>by
  obtain⟨as,a⟩:=Is.reads I h r
  obtain⟨bs,b⟩:=IsAll.reads I t rr
  exact ⟨_,.cons a b⟩
end
end
open PySem.SeqAt in
noncomputable def NW(K:J0)(neg:Bool):R2:=λx y H Q=>∃d e:PyData,Is K H x d/\Is K H y e/\shaped d=true/\shaped e=true/\noMix d e=true/\Q (.bl (if neg then !same d e else same d e)) H
theorem Wy{X:Cx}(hu:X.A.units+64 < cLine):OpR X (compareOp .Eq) (NW X.K false):=by
 intro pins s σ H x y v u Q I r1 r2 h
 obtain⟨d,e,i1,i2,s1,s2,nm,q⟩:=h
 obtain⟨as,a⟩:=i1.reads I r1
 obtain⟨bs,b⟩:=i2.reads I r2
 exact eq_dataH_same a b s1 s2 hu nm ⟨.bl _,H,I,rfl,q⟩
theorem Xy{X:Cx}(hu:X.A.units+64 < cLine):OpR X (compareOp .NotEq) (NW X.K true):=by
 intro pins s σ H x y v u Q I r1 r2 h
 obtain⟨d,e,i1,i2,s1,s2,nm,q⟩:=h
 obtain⟨as,a⟩:=i1.reads I r1
 obtain⟨bs,b⟩:=i2.reads I r2
 exact ne_dataH_same a b s1 s2 hu nm ⟨.bl _,H,I,rfl,q⟩
structure Cal(P:Program)(w:World)(K:J0)(mg:Str->Option Value)(base:Heap)(k:Nat)(x:Str)(ps:List Str)(sp:Sp):Prop where
 ex:∃(f:Addr) (fd:FuncData),FnOk P w K mg base VZ k f fd ps sp/\mg x=some (.ref f)/\O5 K (.ref f)=true/\Binds K fd ps []
theorem sU{X:Cx}{k:Nat}{x:Str}{ps:List Str}{sp:Sp}{p pos:Pos}{e:Expr}{es:List Expr}{t:TA}(C:Cal X.prog X.w X.K X.mg X.base k x ps sp)(hr:Room k X.A)(ha:PA X (e :: es) t)(hg:Gl X x:=by rfl)
  (hdb:(x==("__debug__":Str))=false:=by decide) (he:starEach (e :: es) X.env=(false,eval e X.env) :: starEach es X.env:=by rfl) (hpl:(backTo pos (starEach es X.env)).any (·.1)=false:=by rfl) :
  PE X (.Call (.Name x p) (e :: es) [] pos) (cK sp [] E0 t):=by
 obtain⟨f,fd,F,hm,hk,hb⟩:=C.ex
 exact yx F hr hg hm hk hb .nil xC ha hdb he hpl
noncomputable def HV(ds:Scope)(N:List Str)(fr:List Nat)(sc:Scope):Bool :=
 decide (sc.kind=.function)&&(sc.names.all λy=>!decide (y.2=.cell)||decide (sc.names.lookup y.1=some .cell))&&(sc.names.all λy=>!decide (y.2=.local)||decide (sc.names.lookup y.1=some .local)) &&
 (sc.names.all λy=>!decide (y.2=.free)||(decide (ds.names.lookup y.1=some .cell)||decide (ds.names.lookup y.1=some .free))) &&
 (fr.all λi=>match N[i]? with|some x=>decide (sc.names.lookup x=some .free)|none=>false)
theorem nV{X:Cx}{own:List Str}{fr:List Nat}{sc:Scope}(h:HV X.env.scope X.N fr sc=true):CompSc X own fr sc:=by
 unfold HV at h
 simp only[L5,decide_eq_true_eq,List.all_eq_true,Bool.or_eq_true,Bool.not_eq_true',decide_eq_false_iff_not]at h
 obtain⟨⟨⟨⟨h1,h2⟩,h3⟩,h4⟩,h5⟩:=h
 refine ⟨h1,λy hy e=>?_,λy hy e=>?_,λy hy e=>?_,λi hi=>?_⟩
 ·rcases h2 y hy with z|z
  ·exact absurd e z
  ·exact z
 ·rcases h3 y hy with z|z
  ·exact absurd e z
  ·exact z
 ·rcases h4 y hy with z|z
  ·exact absurd e z
  ·exact z
 ·have:=h5 i hi
  cases q:X.N[i]? with
  | none=>rw[q]at this;cases this
  | some x=>rw[q]at this;exact ⟨x,rfl,of_decide_eq_true this⟩
noncomputable def BC(J:It)(own:List Str)(fr:List Nat)(g:TG)(tc:TT)(te:TE)(σ:St)(H:Hp)(Q:VK):Prop :=
 ∃W:Nat->Nat->List V->St->Hp->Prop,(∃m,W 0 m [] (Qy own σ fr) H)/\∀i m ys τ H,W i m ys τ H ->
   (J.stop i H/\∀D,H D=none->Q (.ref D) (NQ H D (.lst ys))) \/
   (J.go i H/\ys.length < sizeLine/\∃N:List V->St->Hp->Prop,(∀ys' τ' H',N ys' τ' H'->∃m',m' < m/\W (i+1) m' ys' τ' H')/\∀x H',J.yld i H x H'->g x τ H' λτ2 H2 =>
     tc τ2 H2 λb H3=>if b=true then te τ2 H3 λy H4=>N (ys++[y]) τ2 H4 else N ys τ2 H3)
noncomputable def MY(wi:TI)(own:List Str)(fr:List Nat)(g:TG)(tc:TT)(te:TE):TE:=λσ H Q=>wi σ H λJ H1=>BC J own fr g tc te σ H1 Q
theorem Oq{X:Cx}{tg iter elt:Expr}{ifs:List Expr}{sc:Scope}{pos:Pos}{own:List Str}{fr:List Nat}{wi:TI}{g:TG}{tc:TT}{te:TE}(hc:X.calm=true)(S:CompSc X own fr sc)(hi:PI X tg iter wi)
  (hg:∀C s H ex,PG (AQ X own fr sc C s H ex) tg g) (hif:∀C s H ex,Mq (AQ X own fr sc C s H ex) ifs tc) (he:∀C s H ex,PE (AQ X own fr sc C s H ex) elt te)
  (hs:∀x,foldedSetIterable iter X.env x=pure x:=by intro _;rfl):PE X (.ListComp elt [⟨tg,iter,ifs,0⟩] sc pos) (MY wi own fr g tc te):=Hx hc S hi hg hif he hs
theorem tU{X:Cx}{tg iter elt:Expr}{ifs:List Expr}{sc:Scope}{pos spos py:Pos}{i:Nat}{y:Str}{own:List Str}{fr:List Nat}{wi:TI}{g:TG}{tc:TT}{te:TE}(hN:X.N.Nodup)(hy:X.N[i]?=some y)(hl:X.env.scope.names.lookup y=some .local)(hc:X.calm=true)(S:CompSc X own fr sc)(hi:PI X tg iter wi)
  (hg:∀C s H ex,PG (AQ X own fr sc C s H ex) tg g) (hif:∀C s H ex,Mq (AQ X own fr sc C s H ex) ifs tc) (he:∀C s H ex,PE (AQ X own fr sc C s H ex) elt te)
  (hsw:swapsWith (.ListComp elt [⟨tg,iter,ifs,0⟩] sc pos) (some (.Name y py)) spos.line X.env=pure true:=by rfl)
  (hs:∀x,foldedSetIterable iter X.env x=pure x:=by intro _;rfl):PS X (.Assign [.Name y py] (.ListComp elt [⟨tg,iter,ifs,0⟩] sc pos) spos) (bY (MY wi own fr g tc te) (yZ i)):=xH hN hy hl hc S hi hg hif he hsw hs
section
variable {X:Cx}{K:J0}
theorem Pq(h:X.K=K):IxR X (Ax K):=by subst h;exact Ex
theorem Nx(h:X.K=K):IxR X (Dx K):=by subst h;exact Iy
noncomputable def CC(K:J0):List V->Hp->VK->Prop:=λxs H Q=>∃(p:Addr) (ys:List V),xs=[.ref p]/\(SqL K H p ys\/SqT K H p ys)/\Q (.int ys.length) H
theorem HX(h:X.K=K):BX X (.builtin "len") (CC K):=by subst h;exact FV
noncomputable def uU(K:J0):List V->Hp->VK->Prop:=λxs H Q=>∃(p:Addr) (ys:List V),xs=[.ref p]/\((SqL K H p ys/\∀l,H l=none->Q (.ref l) (NQ H l (.tup ys)))\/(SqT K H p ys/\Q (.ref p) H))
theorem BQ(h:X.K=K):BX X (.type "tuple") (uU K):=by subst h;exact KW
theorem Ox(h:X.K=K)(hu:X.A.units+64 < cLine):OpR X (compareOp .Eq) (NW K false):=by subst h;exact Wy hu
theorem Px(h:X.K=K)(hu:X.A.units+64 < cLine):OpR X (compareOp .NotEq) (NW K true):=by subst h;exact Xy hu
theorem Qq{es:List Expr}{kk:Nat}{tpos:Pos}{a b:Expr}{ta:TA}{p pos:Pos}(h:X.K=K)(hg:Gl X "zip")(hm:X.mg "zip"=none)(ha:PA X [a,b] ta)(hs:starEach [a,b] X.env=(false,eval a X.env) :: starEach [b] X.env:=by rfl)(hpl:(backTo pos (starEach [b] X.env)).any (·.1)=false:=by rfl) :
  PI X (.Tuple es kk tpos) (.Call (.Name "zip" p) [a,b] [] pos) (OG K ta):=by subst h;exact Lx hg hm ha hs hpl
theorem Rq{es:List Expr}{kk:Nat}{tpos:Pos}{a b c:Expr}{ta:TA}{p pos:Pos}(h:X.K=K)(hg:Gl X "zip")(hm:X.mg "zip"=none)(ha:PA X [a,b,c] ta)(hs:starEach [a,b,c] X.env=(false,eval a X.env) :: starEach [b,c] X.env:=by rfl)(hpl:(backTo pos (starEach [b,c] X.env)).any (·.1)=false:=by rfl) :
  PI X (.Tuple es kk tpos) (.Call (.Name "zip" p) [a,b,c] [] pos) (QG K ta):=by subst h;exact Mx hg hm ha hs hpl
theorem RG{es:List Expr}{k:Nat}{t:Yj}{n:Nat}{pos:Pos}(h:X.K=K)(hc:X.calm=true)(hh:Qw X es t)(hn:(assignEach es X.env).length=n:=by rfl)(hst:(assignEach es X.env).findIdx? (·.1)=none:=by rfl):PG X (.Tuple es k pos) (nq K n t):=by subst h;exact xy hc hh hn hst
end
theorem Tq{prog:Program}{w:World}{A:Around}{E:Value->Shared->Prop}{s:Shared}{t b:Addr}{ws:List Value}{Q:Value->Shared->Prop}(ht:IsTup s.heap t ([]:List Value).toArray)(hb:IsTup s.heap b ws.toArray)(h:Q (.ref b) s):wpAny (model prog w) A (binaryOp .Add (.ref t) (.ref b)) Q E s:=by
 obtain⟨⟨cls,dd,data,sl⟩,ho,hc,n,hd⟩:=id ht
 obtain⟨⟨cls2,dd2,data2,sl2⟩,ho2,hc2,n2,hd2⟩:=id hb
 simp only at hc hd hc2 hd2
 subst hc hd hc2 hd2
 exact concat_meets ⟨_,ho,rfl⟩ ⟨_,ho2,rfl⟩ noFill_tuple_add seq_tuple_add PySem.F.slot_tuple_add PySem.F.entry_tuple_add (PySem.F.args_tuple_add_2 _ _) (tuple_addW0 t b _ ws.toArray n n2 dd dd2 sl sl2 rfl) ⟨ho,ho2,h⟩
open PySem PySem.Spec
noncomputable abbrev DC(a:Addr):HO:=.ext λh=>∃o es ep,h.get? a=some o/\o.ExactDict/\o.data=.dict es ep
noncomputable def hL(k:List Int):Int:=reduceHash (o8 (k.map hashInt))
noncomputable def hB(k:List Int×List Int):Int:=reduceHash (o8 [hL k.1,hL k.2])
noncomputable abbrev TQ{κ:Type}(hs:κ->Int)(a:Addr)(ep:Nat)(xs:List (κ×Addr×V)):HO:=.ext λh=>(∃vs:List (κ×Addr×Value),Paired (λx v=>x.1=v.1/\x.2.1=v.2.1/\RelV x.2.2 v.2.2) xs vs /\
  ∃o es,h.get? a=some o/\o.ExactDict/\o.data=.dict es ep/\es.toList=vs.map λx=>⟨hs x.1,.ref x.2.1,x.2.2⟩)/\(xs.map (·.1)).Nodup/\xs.length<=sizeLine/\(a==sysModules)=false
noncomputable abbrev zL(a C:Addr):HO:=.ext λh=>∃o vs,h.get? a=some o/\o.cls=.ref C/\o.data=.fields vs
end L2
namespace L3
open PySem PySem.Spec L2
noncomputable abbrev D:=PyData
noncomputable abbrev Fg:=J0
noncomputable def Sub(F H:Hp):Prop:=∀a o,F a=some o->H a=some o
theorem Sub.refl(H:Hp):Sub H H:=λ_ _ h=>h
theorem Sub.trans{A B C:Hp}(h:Sub A B)(k:Sub B C):Sub A C:=λa o e=>k a o (h a o e)
theorem Sub.new{F:Hp}{a:Addr}{o:HO}(h:F a=none):Sub F (NQ F a o):=λb u e=>by rw[dQ (jQ e h)];exact e
theorem Sub.rd{F H:Hp}{a:Addr}{u:HO}(s:Sub F H):Rd F a u->Rd H a u
 | .inl h=>.inl (s _ _ h)
 | .inr ⟨o,h⟩=>.inr ⟨o,s _ _ h⟩
theorem Sub.sql{K:Fg}{F H:Hp}{a:Addr}{xs:List V}(s:Sub F H):SqL K F a xs->SqL K H a xs
 | .inl h=>.inl (s.rd h)
 | .inr h=>.inr h
noncomputable def Uq:XJ->D
 | .inl i=>.int i
 | .inr x=>.str x
noncomputable abbrev OX(ns:List Int):D:=.dict [(.none,.list (ns.map u0))]
noncomputable abbrev EC(C:Addr):D:=.dict [(.bool true,.int (C:Nat))]
noncomputable abbrev FC:D:=.dict [(.bool false,.none)]
noncomputable abbrev xX(ps:List (List Int×D)):D:=.dict [(.bool false,.list (ps.map λp=>.tuple [.tuple (p.1.map u0),p.2]))]
noncomputable abbrev AL(ps:List ((List Int×List Int)×D)):D:=.dict [(.bool false,.tuple (ps.map λp=>.tuple [.tuple [.tuple (p.1.1.map u0),.tuple (p.1.2.map u0)],p.2]))]
mutual
inductive Da (K:Fg) (F:Hp):V->D->Prop
 | non:Da K F .non .none
 | bl (b):Da K F (.bl b) (.bool b)
 | int (i):Da K F (.int i) (.int i)
 | str (x):Da K F (.str x) (.str x)
 | lst {a xs ds}:F a=some (.lst xs)->DaAll K F xs ds->Da K F (.ref a) (.list ds)
 | tup {a xs ds}:F a=some (.tup xs)->DaAll K F xs ds->Da K F (.ref a) (.tuple ds)
 | dk {a kvs es}:Rd F a (.dK kvs)->DaKV K F kvs es->Da K F (.ref a) (.dict es)
 | dt {a kvs es}:Rd F a (.dT kvs)->DaKT K F kvs es->Da K F (.ref a) (.dict es)
 | scr {a ns}:SqL K F a (ns.map V.int)->Da K F (.ref a) (OX ns)
 | exc {a C}:F a=some (zL a C)->Da K F (.ref a) (EC C)
 | opq {a}:F a=some (DC a)->Da K F (.ref a) FC
 | pd {a a' ep xs ps}:F a=some (TQ hL a' ep xs)->DaPd K F xs ps->Da K F (.ref a) (xX ps)
 | bd {a ep xs ps}:F a=some (TQ hB a ep xs)->DaBd K F xs ps->Da K F (.ref a) (AL ps)
inductive DaAll (K:Fg) (F:Hp):List V->List D->Prop
 | nil:DaAll K F [] []
 | cons {x xs d ds}:Da K F x d->DaAll K F xs ds->DaAll K F (x :: xs) (d :: ds)
inductive DaKV (K:Fg) (F:Hp):List (XJ×V)->List (D×D)->Prop
 | nil:DaKV K F [] []
 | cons {k v d kvs es}:Da K F v d->DaKV K F kvs es->DaKV K F ((k,v) :: kvs) ((Uq k,d) :: es)
inductive DaKT (K:Fg) (F:Hp):List (List XJ×V)->List (D×D)->Prop
 | nil:DaKT K F [] []
 | cons {ks v d kvs es}:Da K F v d->DaKT K F kvs es->DaKT K F ((ks,v) :: kvs) ((.tuple (ks.map Uq),d) :: es)
inductive DaPd (K:Fg) (F:Hp):List (List Int×Addr×V)->List (List Int×D)->Prop
 | nil:DaPd K F [] []
 | cons {k b v d xs ps}:F b=some (.tup (k.map V.int))->Da K F v d->DaPd K F xs ps->DaPd K F ((k,b,v) :: xs) ((k,d) :: ps)
inductive DaBd (K:Fg) (F:Hp):List ((List Int×List Int)×Addr×V)->List ((List Int×List Int)×D)->Prop
 | nil:DaBd K F [] []
 | cons {k b c e v d xs ps}:F b=some (.tup [.ref c,.ref e])->F c=some (.tup (k.1.map V.int))->F e=some (.tup (k.2.map V.int))->Da K F v d->DaBd K F xs ps->DaBd K F ((k,b,v) :: xs) ((k,d) :: ps)
end
section
variable {K:Fg}{F F':Hp}
mutual
theorem Da.mono(s:Sub F F'):∀{v:V}{d:D},Da K F v d->Da K F' v d
 | _,_,.non=>.non
 | _,_,.bl b=>.bl b
 | _,_,.int i=>.int i
 | _,_,.str x=>.str x
 | _,_,.lst h t=>.lst (s _ _ h) (DaAll.mono s t)
 | _,_,.tup h t=>.tup (s _ _ h) (DaAll.mono s t)
 | _,_,.dk h t=>.dk (s.rd h) (DaKV.mono s t)
 | _,_,.dt h t=>.dt (s.rd h) (DaKT.mono s t)
 | _,_,.scr h=>.scr (s.sql h)
 | _,_,.exc h=>.exc (s _ _ h)
 | _,_,.opq h=>.opq (s _ _ h)
 | _,_,.pd h t=>.pd (s _ _ h) (DaPd.mono s t)
 | _,_,.bd h t=>.bd (s _ _ h) (DaBd.mono s t)
theorem DaAll.mono(s:Sub F F'):∀{xs:List V}{ds:List D},DaAll K F xs ds->DaAll K F' xs ds
 | _,_,.nil=>.nil
 | _,_,.cons h t=>.cons (Da.mono s h) (DaAll.mono s t)
theorem DaKV.mono(s:Sub F F'):∀{xs:List (XJ×V)}{ds:List (D×D)},DaKV K F xs ds->DaKV K F' xs ds
 | _,_,.nil=>.nil
 | _,_,.cons h t=>.cons (Da.mono s h) (DaKV.mono s t)
theorem DaKT.mono(s:Sub F F'):∀{xs:List (List XJ×V)}{ds:List (D×D)},DaKT K F xs ds->DaKT K F' xs ds
 | _,_,.nil=>.nil
 | _,_,.cons h t=>.cons (Da.mono s h) (DaKT.mono s t)
theorem DaPd.mono(s:Sub F F'):∀{xs:List (List Int×Addr×V)}{ps:List (List Int×D)},DaPd K F xs ps->DaPd K F' xs ps
 | _,_,.nil=>.nil
 | _,_,.cons h v t=>.cons (s _ _ h) (Da.mono s v) (DaPd.mono s t)
theorem DaBd.mono(s:Sub F F'):∀{xs:List ((List Int×List Int)×Addr×V)}{ps:List ((List Int×List Int)×D)},DaBd K F xs ps->DaBd K F' xs ps
 | _,_,.nil=>.nil
 | _,_,.cons h h1 h2 v t=>.cons (s _ _ h) (s _ _ h1) (s _ _ h2) (Da.mono s v) (DaBd.mono s t)
end
theorem DaAll.length:∀{xs:List V}{ds:List D},DaAll K F xs ds->xs.length=ds.length
 | _,_,.nil=>rfl
 | _,_,.cons _ t=>by simp[DaAll.length t]
theorem DaAll.get:∀{xs:List V}{ds:List D}{i:Nat}{d:D},DaAll K F xs ds->ds[i]?=some d->∃v,xs[i]?=some v/\Da K F v d
 | _,_,_,_,.nil,e=>by simp at e
 | _,_,0,_,.cons h _,e=>by simp at e;subst e;exact ⟨_,rfl,h⟩
 | _,_,i+1,_,.cons _ t,e=>by
  obtain⟨v,a,b⟩:=DaAll.get (i:=i) t (by simpa using e)
  exact ⟨v,by simpa using a,b⟩
theorem DaAll.append:∀{xs ys:List V}{ds es:List D},DaAll K F xs ds->DaAll K F ys es->DaAll K F (xs++ys) (ds++es)
 | _,_,_,_,.nil,s=>s
 | _,_,_,_,.cons h t,s=>.cons h (DaAll.append t s)
theorem DaAll.set{v:V}{d:D}(h:Da K F v d):∀{xs:List V}{ds:List D} (i:Nat),DaAll K F xs ds->DaAll K F (xs.set i v) (ds.set i d)
 | _,_,_,.nil=>.nil
 | _,_,0,.cons _ t=>.cons h t
 | _,_,i+1,.cons q t=>.cons q (DaAll.set h i t)
theorem DaAll.rep{xs:List V}{ds:List D}(h:DaAll K F xs ds):∀k:Nat,DaAll K F (E2 k xs).flatten (E2 k ds).flatten
 | 0=>.nil
 | k+1=>by rw[T4,T4,W5,W5];exact h.append (DaAll.rep h k)
theorem DaAll.ints:∀ns:List Int,DaAll K F (ns.map V.int) (ns.map u0)
 | []=>.nil
 | n :: ns=>.cons (.int n) (DaAll.ints ns)
end
inductive Sl where
 | fz (d:D)|ow (d:D)|io (d:D)
noncomputable def Sl.d:Sl->D
 | .fz d=>d
 | .ow d=>d
 | .io d=>d
noncomputable def OQ:Sl->Bool
 | .fz _=>false
 | .ow _=>true
 | .io _=>true
noncomputable abbrev Ev:=List (Option Sl)
noncomputable def Own1(K:Fg)(F:Hp):HO->D->Prop
 | .lst xs,.list ds=>DaAll K F xs ds
 | .dK kvs,.dict es=>DaKV K F kvs es
 | .dT kvs,.dict es=>DaKT K F kvs es
 | .ext φ,.dict [(.bool false,.list L)]=>∃(a':Addr) (ep:Nat) (xs:List (List Int×Addr×V)) (ps:List (List Int×D)),HO.ext φ=TQ hL a' ep xs/\L=ps.map (λp=>.tuple [.tuple (p.1.map u0),p.2])/\DaPd K F xs ps
 | _,_=>False
section
variable {K:Fg}{F F':Hp}{o:HO}{d:D}{a:Addr}
theorem Own1.ext{φ:Heap->Prop}(h:Own1 K F (.ext φ) d):∃(a':Addr) (ep:Nat) (xs:List (List Int×Addr×V)) (ps:List (List Int×D)),HO.ext φ=TQ hL a' ep xs/\d=xX ps/\DaPd K F xs ps:=by
 unfold Own1 at h
 split at h
 ·rename_i z;cases z
 ·rename_i z;cases z
 ·rename_i z;cases z
 ·rename_i z
  obtain⟨a',ep,xs,ps,e,rfl,t⟩:=h
  exact ⟨a',ep,xs,ps,z.trans e,rfl,t⟩
 ·exact h.elim
theorem Own1.pd{a':Addr}{ep:Nat}{xs:List (List Int×Addr×V)}{ps:List (List Int×D)}(h:DaPd K F xs ps):Own1 K F (TQ hL a' ep xs) (xX ps):=⟨a',ep,xs,ps,rfl,rfl,h⟩
theorem Own1.mono(s:Sub F F')(h:Own1 K F o d):Own1 K F' o d:=by
 cases o with
 | ext φ =>
  obtain⟨a',ep,xs,ps,e,rfl,t⟩:=h.ext
  exact ⟨a',ep,xs,ps,e,rfl,t.mono s⟩
 | _=>cases d<;>first|exact DaAll.mono s h|exact DaKV.mono s h|exact DaKT.mono s h|exact h.elim
theorem Own1.da(h:Own1 K F o d)(e:F a=some o):Da K F (.ref a) d:=by
 cases o with
 | ext φ =>
  obtain⟨a',ep,xs,ps,z,rfl,t⟩:=h.ext
  rw[z]at e
  exact .pd e t
 | _=>cases d<;>first|exact .lst e h|exact .dk (.inl e) h|exact .dt (.inl e) h|exact h.elim
end
structure Gh where
 H0:Hp
 F0:Hp
 io:Nat->Option Addr
structure Rel(K:Fg)(G:Gh)(F:Hp)(σ:St)(H:Hp)(ρ:Ev):Prop where
 len:σ.length=ρ.length
 sub:Sub F H
 sub0:Sub G.F0 F
 fn:∀a o,F a=some o->G.F0 a=some o\/G.H0 a=none
 keep:∀a o,G.H0 a=some o->(∀i,G.io i≠some a)->H a=some o
 fz:∀(i:Nat) (d:D),ρ[i]?=some (some (Sl.fz d))->∃v,σ[i]?=some (some v)/\Da K F v d
 ow:∀(i:Nat) (s:Sl),ρ[i]?=some (some s)->OQ s=true->∃a o,σ[i]?=some (some (V.ref a))/\F a=none/\H a=some o/\Own1 K F o s.d
 new:∀(i:Nat) (d:D) (a:Addr),ρ[i]?=some (some (Sl.ow d))->σ[i]?=some (some (V.ref a))->G.H0 a=none
 io:∀(i:Nat) (a:Addr),G.io i=some a->∃d,ρ[i]?=some (some (Sl.io d))/\σ[i]?=some (some (V.ref a))
 ioi:∀(i:Nat) (d:D),ρ[i]?=some (some (Sl.io d))->∃a,G.io i=some a
 ap:∀(i j:Nat) (s t:Sl) (a:Addr),ρ[i]?=some (some s)->OQ s=true->ρ[j]?=some (some t)->OQ t=true->σ[i]?=some (some (V.ref a))->σ[j]?=some (some (V.ref a))->i=j
noncomputable def Res(K:Fg)(G:Gh)(F H:Hp)(σ:St)(ρ:Ev)(v:V):Sl->Prop
 | .fz d=>Da K F v d
 | .ow d=>∃a o,v=.ref a/\F a=none/\H a=some o/\Own1 K F o d/\G.H0 a=none/\∀(i:Nat) (s:Sl),ρ[i]?=some (some s)->OQ s=true->σ[i]?≠some (some (V.ref a))
 | .io _=>False
section
variable {K:Fg}{G:Gh}{F F' H:Hp}{σ:St}{ρ:Ev}{a:Addr}{o:HO}{d:D}{v:V}{s:Sl}
theorem Rel.bound(R:Rel K G F σ H ρ){i:Nat}(h:ρ[i]?=some (some s)):∃v,σ[i]?=some (some v):=by
 cases s with
 | fz d=>obtain⟨v,e,_⟩:=R.fz i d h;exact ⟨v,e⟩
 | ow d=>obtain⟨a,o,e,_⟩:=R.ow i _ h rfl;exact ⟨_,e⟩
 | io d=>obtain⟨a,o,e,_⟩:=R.ow i _ h rfl;exact ⟨_,e⟩
theorem Rel.h0(R:Rel K G F σ H ρ)(h:H a=none):G.H0 a=none:=by
 cases e:G.H0 a with
 | none=>rfl
 | some o =>
  by_cases q:∃i,G.io i=some a
  ·obtain⟨i,q⟩:=q
   obtain⟨d,h1,h2⟩:=R.io i a q
   obtain⟨a',o',h3,_,h4,_⟩:=R.ow i _ h1 rfl
   rw[h2]at h3
   cases h3
   rw[h]at h4;cases h4
  ·have:=R.keep a o e λi z=>q ⟨i,z⟩
   rw[h]at this;cases this
theorem Rel.f0(R:Rel K G F σ H ρ)(h:H a=none):F a=none:=by
 cases e:F a with
 | none=>rfl
 | some o=>rw[R.sub a o e]at h;cases h
theorem Rel.laid(R:Rel K G F σ H ρ)(h:H a=none):Rel K G F σ (NQ H a o) ρ where
 len:=R.len
 sub:=λb u e=>by rw[dQ (jQ (R.sub b u e) h)];exact R.sub b u e
 sub0:=R.sub0
 fn:=R.fn
 keep:=λb u e n=>by rw[dQ (jQ (R.keep b u e n) h)];exact R.keep b u e n
 fz:=R.fz
 ow:=λi s e w=>by
  obtain⟨a',o',h1,h2,h3,h4⟩:=R.ow i s e w
  exact ⟨a',o',h1,h2,by rw[dQ (jQ h3 h)];exact h3,h4⟩
 new:=R.new
 io:=R.io
 ioi:=R.ioi
 ap:=R.ap
theorem Rel.grow(R:Rel K G F σ H ρ)(h0:G.H0 a=none)(h:H a=some o)(hn:∀(i:Nat) (s:Sl),ρ[i]?=some (some s)->OQ s=true->σ[i]?≠some (some (V.ref a))):Sub F (NQ F a o)/\Rel K G (NQ F a o) σ H ρ:=by
 have sb:Sub F (NQ F a o):=λb u e=>by
  by_cases z:b=a
  ·subst z;rw[iQ,<- h];exact R.sub _ _ e
  ·rw[dQ z];exact e
 refine ⟨sb,R.len,λb u e=>?_,R.sub0.trans sb,λb u e=>?_,R.keep,λi d e=>?_,λi s e w=>?_,R.new,R.io,R.ioi,R.ap⟩
 ·by_cases z:b=a
  ·subst z;rw[iQ]at e;rw[h];exact e
  ·rw[dQ z]at e;exact R.sub _ _ e
 ·by_cases z:b=a
  ·subst z;exact .inr h0
  ·rw[dQ z]at e;exact R.fn _ _ e
 ·obtain⟨v,h1,h2⟩:=R.fz i d e
  exact ⟨v,h1,h2.mono sb⟩
 ·obtain⟨a',o',h1,h2,h3,h4⟩:=R.ow i s e w
  have z:a'≠a:=λz=>hn i s e w (by rw[h1,z])
  exact ⟨a',o',h1,by rw[dQ z];exact h2,h3,h4.mono sb⟩
theorem Res.frz(R:Rel K G F σ H ρ)(r:Res K G F H σ ρ v s):∃F',Sub F F'/\Rel K G F' σ H ρ/\Da K F' v s.d:=by
 cases s with
 | fz d=>exact ⟨F,Sub.refl _,R,r⟩
 | ow d =>
  obtain⟨a,o,rfl,h1,h2,h3,h4,h5⟩:=r
  obtain⟨sb,R'⟩:=R.grow h4 h2 h5
  exact ⟨_,sb,R',(h3.mono sb).da iQ⟩
 | io d=>exact r.elim
theorem Rel.newOw(R:Rel K G F σ H ρ)(h:H a=none)(w:Own1 K F o d):Rel K G F σ (NQ H a o) ρ/\Res K G F (NQ H a o) σ ρ (.ref a) (.ow d):=by
 refine ⟨R.laid h,a,o,rfl,R.f0 h,iQ,w,R.h0 h,λi s e w z=>?_⟩
 obtain⟨a',o',h1,h2,h3,h4⟩:=R.ow i s e w
 rw[z]at h1
 cases h1
 rw[h]at h3;cases h3
theorem Rel.newTup(R:Rel K G F σ H ρ){xs:List V}{ds:List D}(h:H a=none)(w:DaAll K F xs ds) :
  Sub F (NQ F a (.tup xs))/\Rel K G (NQ F a (.tup xs)) σ (NQ H a (.tup xs)) ρ/\Da K (NQ F a (.tup xs)) (.ref a) (.tuple ds):=by
 have R1:Rel K G F σ (NQ H a (.tup xs)) ρ:=R.laid h
 obtain⟨sb,R2⟩:=R1.grow (a:=a) (o:=.tup xs) (R.h0 h) iQ λi s e w z=>by
  obtain⟨a',o',h1,h2,h3,h4⟩:=R.ow i s e w
  rw[z]at h1
  cases h1
  rw[h]at h3;cases h3
 exact ⟨sb,R2,.tup iQ (w.mono sb)⟩
noncomputable def Sl.put:Sl->D->Sl
 | .fz _,d=>.fz d
 | .ow _,d=>.ow d
 | .io _,d=>.io d
theorem nQ{α:Type}{l:List α}{i j:Nat}{x y:α}(h:(l.set i x)[j]?=some y):(j=i/\y=x)\/(j≠i/\l[j]?=some y):=by
 by_cases z:i=j
 ·subst z
  rw[List.getElem?_set]at h
  simp at h
  exact .inl ⟨rfl,h.2.symm⟩
 ·rw[B1 z]at h
  exact .inr ⟨λq=>z q.symm,h⟩
theorem KZ{α:Type}{l:List α}{i:Nat}{x:α}(h:i < l.length):(l.set i x)[i]?=some x:=by simp[h]
theorem IX{α:Type}{l:List α}{i:Nat}{x:α}(h:l[i]?=some x):i < l.length:=(K1.mp h).1
theorem Rel.change(R:Rel K G F σ H ρ){i:Nat}{o':HO}{d':D}(h:ρ[i]?=some (some s))(w:OQ s=true)(ha:σ[i]?=some (some (V.ref a)))(q:Own1 K F o' d') :
  Rel K G F σ (NQ H a o') (ρ.set i (some (s.put d'))):=by
 obtain⟨a0,o0,h1,h2,h3,h4⟩:=R.ow i s h w
 rw[ha]at h1;cases h1
 have sw:OQ (s.put d')=true:=by cases s<;>first|rfl|cases w
 have hl:=IX h
 refine ⟨by rw[A5];exact R.len,λb u e=>?_,R.sub0,R.fn,λb u e n=>?_,λj d e=>?_,λj t e wt=>?_,λj d b e eb=>?_,λj b e=>?_,λj d e=>?_,λj k t u b e1 w1 e2 w2 e3 e4=>?_⟩
 ·have z:b≠a:=λz=>by subst z;rw[h2]at e;cases e
  rw[dQ z];exact R.sub _ _ e
 ·by_cases z:b=a
  ·subst z
   cases s with
   | fz d=>cases w
   | ow d=>rw[R.new i d b h ha]at e;cases e
   | io d =>
    obtain⟨a',e'⟩:=R.ioi i d h
    obtain⟨d',_,e2⟩:=R.io i a' e'
    rw[ha]at e2;cases e2
    exact absurd e' (n i)
  ·rw[dQ z];exact R.keep _ _ e n
 ·rcases nQ e with⟨rfl,z⟩|⟨n,z⟩
  ·cases s<;>simp[Sl.put,OQ]at z w
  ·exact R.fz j d z
 ·rcases nQ e with⟨rfl,z⟩|⟨n,z⟩
  ·cases z
   exact ⟨a,o',ha,h2,iQ,by cases s<;>first|exact q|cases w⟩
  ·obtain⟨b,u,g1,g2,g3,g4⟩:=R.ow j t z wt
   have nb:b≠a:=λx=>n (R.ap j i t s a z wt h w (by rw[g1,x]) ha)
   exact ⟨b,u,g1,g2,by rw[dQ nb];exact g3,g4⟩
 ·rcases nQ e with⟨rfl,z⟩|⟨n,z⟩
  ·cases s with
   | fz d=>cases w
   | ow d0=>exact R.new j d0 b h eb
   | io d=>cases z
  ·exact R.new j d b z eb
 ·obtain⟨d,e1,e2⟩:=R.io j b e
  by_cases z:j=i
  ·subst z
   rw[h]at e1
   cases e1
   exact ⟨d',by rw[KZ hl];rfl,e2⟩
  ·exact ⟨d,by rw[B1 (Z2 z)];exact e1,e2⟩
 ·rcases nQ e with⟨rfl,z⟩|⟨n,z⟩
  ·cases s with
   | fz d=>cases w
   | ow d0=>cases z
   | io d0=>exact R.ioi j d0 h
  ·exact R.ioi j d z
 ·have f:∀(j:Nat) (t:Sl),(ρ.set i (some (s.put d')))[j]?=some (some t)->OQ t=true->∃t',ρ[j]?=some (some t')/\OQ t'=true:=λj t e wt=>by
   rcases nQ e with⟨rfl,z⟩|⟨n,z⟩
   ·exact ⟨s,h,w⟩
   ·exact ⟨t,z,wt⟩
  obtain⟨t',e1',w1'⟩:=f j t e1 w1
  obtain⟨u',e2',w2'⟩:=f k u e2 w2
  exact R.ap j k t' u' b e1' w1' e2' w2' e3 e4
theorem Rel.forget(R:Rel K G F σ H ρ){i:Nat}(h:ρ[i]?=some (some (Sl.ow d))):Rel K G F σ H (ρ.set i none):=by
 refine ⟨by rw[A5];exact R.len,R.sub,R.sub0,R.fn,R.keep,λj d e=>?_,λj t e wt=>?_,λj d b e eb=>?_,λj b e=>?_,λj d e=>?_,λj k t u b e1 w1 e2 w2 e3 e4=>?_⟩
 ·rcases nQ e with⟨rfl,z⟩|⟨n,z⟩
  ·cases z
  ·exact R.fz j d z
 ·rcases nQ e with⟨rfl,z⟩|⟨n,z⟩
  ·cases z
  ·exact R.ow j t z wt
 ·rcases nQ e with⟨rfl,z⟩|⟨n,z⟩
  ·cases z
  ·exact R.new j d b z eb
 ·obtain⟨d',e1,e2⟩:=R.io j b e
  have n:i≠j:=λz=>by subst z;rw[h]at e1;cases e1
  exact ⟨d',by rw[B1 n];exact e1,e2⟩
 ·rcases nQ e with⟨rfl,z⟩|⟨n,z⟩
  ·cases z
  ·exact R.ioi j d z
 ·rcases nQ e1 with⟨rfl,z⟩|⟨n,z⟩
  ·cases z
  ·rcases nQ e2 with⟨rfl,z'⟩|⟨n',z'⟩
   ·cases z'
   ·exact R.ap j k t u b z w1 z' w2 e3 e4
theorem Rel.freeze(R:Rel K G F σ H ρ){i:Nat}(h:ρ[i]?=some (some (Sl.ow d))):∃F' v,Sub F F'/\Rel K G F' σ H (ρ.set i (some (Sl.fz d)))/\σ[i]?=some (some v)/\Da K F' v d:=by
 obtain⟨a,o,h1,h2,h3,h4⟩:=R.ow i _ h rfl
 have hl:=IX h
 have R1:=R.forget h
 have hn:∀(j:Nat) (s:Sl),(ρ.set i none)[j]?=some (some s)->OQ s=true->σ[j]?≠some (some (V.ref a)):=λj s e w z=>by
  rcases nQ e with⟨rfl,q⟩|⟨n,q⟩
  ·cases q
  ·exact n (R.ap j i s _ a q w h rfl z h1)
 obtain⟨sb,R2⟩:=R1.grow (R.new i d a h h1) h3 hn
 have dd:Da K (NQ F a o) (.ref a) d:=(h4.mono sb).da iQ
 refine ⟨_,_,sb,?_,h1,dd⟩
 refine ⟨by rw[A5];exact R.len,R2.sub,R2.sub0,R2.fn,R2.keep,λj d' e=>?_,λj t e wt=>?_,λj d b e eb=>?_,λj b e=>?_,λj d e=>?_,λj k t u b e1 w1 e2 w2 e3 e4=>?_⟩
 ·rcases nQ e with⟨rfl,z⟩|⟨n,z⟩
  ·cases z;exact ⟨_,h1,dd⟩
  ·exact R2.fz j d' (by rw[B1 (Z2 n)];exact z)
 ·rcases nQ e with⟨rfl,z⟩|⟨n,z⟩
  ·cases z;cases wt
  ·exact R2.ow j t (by rw[B1 (Z2 n)];exact z) wt
 ·rcases nQ e with⟨rfl,z⟩|⟨n,z⟩
  ·cases z
  ·exact R.new j d b z eb
 ·obtain⟨d',e1,e2⟩:=R.io j b e
  have n:i≠j:=λz=>by subst z;rw[h]at e1;cases e1
  exact ⟨d',by rw[B1 n];exact e1,e2⟩
 ·rcases nQ e with⟨rfl,z⟩|⟨n,z⟩
  ·cases z
  ·exact R.ioi j d z
 ·rcases nQ e1 with⟨rfl,z⟩|⟨n,z⟩
  ·cases z;cases w1
  ·rcases nQ e2 with⟨rfl,z'⟩|⟨n',z'⟩
   ·cases z';cases w2
   ·exact R.ap j k t u b z w1 z' w2 e3 e4
theorem Rel.forgetRes(R:Rel K G F σ H ρ){i:Nat}(h:ρ[i]?=some (some (Sl.ow d))):∃v,σ[i]?=some (some v)/\Res K G F H σ (ρ.set i none) v (.ow d):=by
 obtain⟨a,o,h1,h2,h3,h4⟩:=R.ow i _ h rfl
 refine ⟨_,h1,a,o,rfl,h2,h3,h4,R.new i d a h h1,λj s e w z=>?_⟩
 rcases nQ e with⟨rfl,q⟩|⟨n,q⟩
 ·cases q
 ·exact n (R.ap j i s _ a q w h rfl z h1)
noncomputable def OW(ρ:Ev)(i:Nat):Prop:=match ρ[i]? with
 | some (some (Sl.io _))=>False
 | some _=>True
 | none=>False
theorem Rel.asg(R:Rel K G F σ H ρ){i:Nat}(hi:OW ρ i)(r:Res K G F H σ ρ v s):Rel K G F (σ.set i (some v)) H (ρ.set i (some s)):=by
 have hl:i < ρ.length:=by
  cases e:ρ[i]? with
  | none=>unfold OW at hi;rw[e]at hi;exact hi.elim
  | some x=>exact IX e
 have hl':i < σ.length:=by rw[R.len];exact hl
 have ni:∀d,ρ[i]?≠some (some (Sl.io d)):=λd e=>by unfold OW at hi;rw[e]at hi;exact hi
 refine ⟨by rw[A5,A5];exact R.len,R.sub,R.sub0,R.fn,R.keep,λj d e=>?_,λj t e wt=>?_,λj d b e eb=>?_,λj b e=>?_,λj d e=>?_,λj k t u b e1 w1 e2 w2 e3 e4=>?_⟩
 ·rcases nQ e with⟨rfl,z⟩|⟨n,z⟩
  ·cases z;exact ⟨v,KZ hl',r⟩
  ·rw[B1 (Z2 n)];exact R.fz j d z
 ·rcases nQ e with⟨rfl,z⟩|⟨n,z⟩
  ·cases z
   cases s with
   | fz d=>cases wt
   | ow d =>
    obtain⟨a,o,rfl,h1,h2,h3,_⟩:=r
    exact ⟨a,o,KZ hl',h1,h2,h3⟩
   | io d=>exact r.elim
  ·rw[B1 (Z2 n)];exact R.ow j t z wt
 ·rcases nQ e with⟨rfl,z⟩|⟨n,z⟩
  ·cases z
   obtain⟨a,o,rfl,h1,h2,h3,h4,_⟩:=r
   rw[KZ hl']at eb;cases eb
   exact h4
  ·rw[B1 (Z2 n)]at eb;exact R.new j d b z eb
 ·obtain⟨d,e1,e2⟩:=R.io j b e
  have n:i≠j:=λz=>by subst z;exact ni d e1
  exact ⟨d,by rw[B1 n];exact e1,by rw[B1 n];exact e2⟩
 ·rcases nQ e with⟨rfl,z⟩|⟨n,z⟩
  ·cases z;exact r.elim
  ·exact R.ioi j d z
 ·have own:∀(j:Nat) (t:Sl),j≠i->ρ[j]?=some (some t)->OQ t=true->(σ.set i (some v))[j]?=some (some (V.ref b))->s.d=s.d->OQ s=true->v=.ref b->False:=λj t n e w eb _ ws ev=>by
   subst ev
   cases s with
   | fz d=>cases ws
   | io d=>exact r
   | ow d =>
    obtain⟨a,o,z,h1,h2,h3,h4,h5⟩:=r
    cases z
    rw[B1 (Z2 n)]at eb
    exact h5 j t e w eb
  rcases nQ e1 with⟨rfl,z⟩|⟨n,z⟩
  ·rcases nQ e2 with⟨rfl,z'⟩|⟨n',z'⟩
   ·rfl
   ·rw[KZ hl']at e3;cases e3
    cases z
    exact (own k u n' z' w2 e4 rfl w1 rfl).elim
  ·rcases nQ e2 with⟨rfl,z'⟩|⟨n',z'⟩
   ·rw[KZ hl']at e4;cases e4
    cases z'
    exact (own j t n z w1 e3 rfl w2 rfl).elim
   ·rw[B1 (Z2 n)]at e3
    rw[B1 (Z2 n')]at e4
    exact R.ap j k t u b z w1 z' w2 e3 e4
end
noncomputable abbrev TD:=Ev->(Sl->Ev->Prop)->Prop
noncomputable abbrev UK:=Ev->(Bool->Ev->Prop)->Prop
noncomputable abbrev IV:=Sum Nat D
noncomputable abbrev AD:=Sum Nat TD
noncomputable def lift(K:Fg)(td:TD):TE:=λσ H Q=>∃(G:Gh) (F:Hp) (ρ:Ev) (Qd:Sl->Ev->Prop),Rel K G F σ H ρ/\td ρ Qd /\
 ∀v H' F' r ρ',Sub F F'->Rel K G F' σ H' ρ'->Res K G F' H' σ ρ' v r->Qd r ρ'->Q v H'
noncomputable def vQ(K:Fg)(tc:UK):TT:=λσ H Q=>∃(G:Gh) (F:Hp) (ρ:Ev) (Qd:Bool->Ev->Prop),Rel K G F σ H ρ/\tc ρ Qd /\
 ∀b H' F' ρ',Sub F F'->Rel K G F' σ H' ρ'->Qd b ρ'->Q b H'
noncomputable def uQ(K:Fg):AD->TE
 | .inl i=>bK i
 | .inr td=>lift K td
noncomputable def CQ:List TE->TA
 | []=>yq
 | t :: ts=>zq t (CQ ts)
theorem GK{K:Fg}{a:AD}{σ:St}{H:Hp}{Q Q':VK}(m:∀v H,Q v H->Q' v H)(h:uQ K a σ H Q):uQ K a σ H Q':=by
 cases a with
 | inl i=>obtain⟨v,e,q⟩:=h;exact ⟨v,e,m _ _ q⟩
 | inr td =>
  obtain⟨G,F,ρ,Qd,R,w,k⟩:=h
  exact ⟨G,F,ρ,Qd,R,w,λv H' F' r ρ' s R' r' q=>m _ _ (k v H' F' r ρ' s R' r' q)⟩
theorem Vq{K:Fg}{a:AD}{σ:St}{H:Hp}{P:VK}(h:CQ ([a].map (uQ K)) σ H λvs H2=>∃x,vs=[x]/\P x H2):uQ K a σ H P :=
 GK (λv H q=>by obtain⟨x,e,q⟩:=q;cases e;exact q) h
theorem GC{K:Fg}{a b:AD}{σ:St}{H:Hp}{P:V->V->Hp->Prop}(h:CQ ([a,b].map (uQ K)) σ H λvs H2=>∃x y,vs=[x,y]/\P x y H2):uQ K a σ H λx H1=>uQ K b σ H1 λy H2=>P x y H2 :=
 GK (λv H q=>GK (λu H q=>by obtain⟨x,y,e,q⟩:=q;cases e;exact q) q) h
noncomputable def Qx(i:Nat):TD:=λρ Q=>match ρ[i]? with
 | some (some (.fz d))=>Q (.fz d) ρ
 | some (some (.ow d))=>Q (.fz d) (ρ.set i (some (.fz d)))
 | _=>False
noncomputable def dC(d:D):TD:=λρ Q=>Q (.fz d) ρ
section
variable {K:Fg}{σ:St}{H:Hp}{Q:VK}
theorem HC{i:Nat}(h:lift K (Qx i) σ H Q):bK i σ H Q:=by
 obtain⟨G,F,ρ,Qd,R,w,k⟩:=h
 unfold Qx at w
 split at w
 ·rename_i d e
  obtain⟨v,e1,h1⟩:=R.fz i d e
  exact ⟨v,e1,k v H F (.fz d) ρ (Sub.refl _) R h1 w⟩
 ·rename_i d e
  obtain⟨F',v,sb,R',e1,h1⟩:=R.freeze e
  exact ⟨v,e1,k v H F' (.fz d) _ sb R' h1 w⟩
 ·exact w.elim
theorem dN{v:V}{d:D}(hv:∀F,Da K F v d)(h:lift K (dC d) σ H Q):tC v σ H Q:=by
 obtain⟨G,F,ρ,Qd,R,w,k⟩:=h
 exact k v H F (.fz d) ρ (Sub.refl _) R (hv F) w
end
noncomputable def oV(K:Fg)(F:Hp)(σ:St)(v:V):IV->Prop
 | .inl i=>σ[i]?=some (some v)
 | .inr d=>Da K F v d
inductive OpdsAt (K:Fg) (F:Hp) (σ:St):List V->List IV->Prop
 | nil:OpdsAt K F σ [] []
 | cons {v x vs xs}:oV K F σ v x->OpdsAt K F σ vs xs->OpdsAt K F σ (v :: vs) (x :: xs)
noncomputable def JX:List AD->Ev->(List IV->Ev->Prop)->Prop
 | [],ρ,Q=>Q [] ρ
 | .inl i :: as,ρ,Q=>match ρ[i]? with
  | some (some _)=>JX as ρ λxs ρ'=>Q (.inl i :: xs) ρ'
  | _=>False
 | .inr td :: as,ρ,Q=>td ρ λr ρ1=>JX as ρ1 λxs ρ2=>Q (.inr r.d :: xs) ρ2
theorem gJ{K:Fg}{G:Gh}{σ:St}:∀{as:List AD}{F H:Hp}{ρ:Ev}{Qd:List IV->Ev->Prop}{Qv:List V->Hp->Prop},Rel K G F σ H ρ->JX as ρ Qd ->
  (∀vs H' F' xs ρ',Sub F F'->Rel K G F' σ H' ρ'->OpdsAt K F' σ vs xs->vs.length=as.length->Qd xs ρ'->Qv vs H')->CQ (as.map (uQ K)) σ H Qv
 | [],F,H,ρ,Qd,Qv,R,w,k=>k [] H F [] ρ (Sub.refl _) R .nil rfl w
 | .inl i :: as,F,H,ρ,Qd,Qv,R,w,k=>by
  unfold JX at w
  split at w
  ·rename_i s e
   obtain⟨v,ev⟩:=R.bound e
   refine ⟨v,ev,gJ (as:=as) R w λvs H' F' xs ρ' sb R' o hl q=>?_⟩
   exact k (v :: vs) H' F' (.inl i :: xs) ρ' sb R' (.cons ev o) (by simp[hl]) q
  ·exact w.elim
 | .inr td :: as,F,H,ρ,Qd,Qv,R,w,k=>by
  refine ⟨G,F,ρ,_,R,w,λv H1 F1 r ρ1 s1 R1 r1 w1=>?_⟩
  obtain⟨F2,s2,R2,d2⟩:=r1.frz R1
  refine gJ (as:=as) R2 w1 λvs H' F' xs ρ' sb R' o hl q=>?_
  exact k (v :: vs) H' F' (.inr r.d :: xs) ρ' (s1.trans (s2.trans sb)) R' (.cons (d2.mono sb) o) (by simp[hl]) q
theorem yX{K:Fg}{G:Gh}{σ:St}{as:List AD}{F H:Hp}{ρ:Ev}{Qd:List IV->Ev->Prop}{Qv:List V->Hp->Prop}(R:Rel K G F σ H ρ)(w:JX as ρ Qd)
  (k:∀vs H' F' xs ρ',Sub F F'->Rel K G F' σ H' ρ'->OpdsAt K F' σ vs xs->Qd xs ρ'->Qv vs H'):CQ (as.map (uQ K)) σ H Qv:=gJ R w λvs H' F' xs ρ' s R' o _ q=>k vs H' F' xs ρ' s R' o q
noncomputable def At(K:Fg)(F H:Hp)(v:V)(d:D):Prop:=Da K F v d\/∃a o,v=.ref a/\F a=none/\H a=some o/\Own1 K F o d
inductive AtAll (K:Fg) (F H:Hp):List V->List D->Prop
 | nil:AtAll K F H [] []
 | cons {v d vs ds}:At K F H v d->AtAll K F H vs ds->AtAll K F H (v :: vs) (d :: ds)
noncomputable def cX(ρ:Ev):List IV->(List D->Prop)->Prop
 | [],k=>k []
 | .inr d :: xs,k=>cX ρ xs λds=>k (d :: ds)
 | .inl i :: xs,k=>match ρ[i]? with
  | some (some s)=>cX ρ xs λds=>k (s.d :: ds)
  | _=>False
section
variable {K:Fg}{G:Gh}{F H:Hp}{σ:St}{ρ:Ev}
theorem Rel.at(R:Rel K G F σ H ρ){i:Nat}{s:Sl}{v:V}(e:ρ[i]?=some (some s))(ev:σ[i]?=some (some v)):At K F H v s.d:=by
 cases s with
 | fz d =>
  obtain⟨v',e1,h1⟩:=R.fz i d e
  rw[ev]at e1;cases e1
  exact .inl h1
 | ow d =>
  obtain⟨a,o,h1,h2,h3,h4⟩:=R.ow i _ e rfl
  rw[ev]at h1;cases h1
  exact .inr ⟨a,o,rfl,h2,h3,h4⟩
 | io d =>
  obtain⟨a,o,h1,h2,h3,h4⟩:=R.ow i _ e rfl
  rw[ev]at h1;cases h1
  exact .inr ⟨a,o,rfl,h2,h3,h4⟩
theorem NY(R:Rel K G F σ H ρ){xs:List IV}{vs:List V}{k:List D->Prop}(o:OpdsAt K F σ vs xs)(h:cX ρ xs k):∃ds,AtAll K F H vs ds/\k ds:=by
 induction o generalizing k with
 | nil=>exact ⟨[],.nil,h⟩
 | @cons v x vs xs o t ih =>
  cases x with
  | inr d =>
   obtain⟨ds,a,q⟩:=ih (k:=λds=>k (d :: ds)) h
   exact ⟨d :: ds,.cons (.inl o) a,q⟩
  | inl i =>
   unfold cX at h
   split at h
   ·rename_i s e
    obtain⟨ds,a,q⟩:=ih (k:=λds=>k (s.d :: ds)) h
    exact ⟨s.d :: ds,.cons (R.at e o) a,q⟩
   ·exact h.elim
end
noncomputable def UG(as:List AD)(f:List D->(Sl->Prop)->Prop):TD:=λρ Q=>JX as ρ λxs ρ1=>cX ρ1 xs λds=>f ds λr=>Q r ρ1
noncomputable def eX(K:Fg)(r:List V->Hp->VK->Prop)(f:List D->(Sl->Prop)->Prop):Prop :=
 ∀(G:Gh) (F:Hp) (σ:St) (H:Hp) (ρ:Ev) (vs:List V) (ds:List D) (Q:VK) (Qd:Sl->Prop),Rel K G F σ H ρ->AtAll K F H vs ds->f ds Qd ->
  (∀v H' F' s,Sub F F'->Rel K G F' σ H' ρ->Res K G F' H' σ ρ v s->Qd s->Q v H')->r vs H Q
theorem gD{K:Fg}{as:List AD}{r:List V->Hp->VK->Prop}{f:List D->(Sl->Prop)->Prop}(ok:eX K r f){σ:St}{H:Hp}{Q:VK}(h:lift K (UG as f) σ H Q):CQ (as.map (uQ K)) σ H λvs H1=>r vs H1 Q:=by
 obtain⟨G,F,ρ,Qd,R,w,k⟩:=h
 refine yX R w λvs H' F' xs ρ' sb R' o q=>?_
 obtain⟨ds,ha,q⟩:=NY R' o q
 exact ok G F' σ H' ρ' vs ds Q _ R' ha q λv H2 F2 s s2 R2 r2 q2=>k v H2 F2 s ρ' (sb.trans s2) R2 r2 q2
noncomputable def o1(f:D->(Sl->Prop)->Prop):List D->(Sl->Prop)->Prop
 | [x],Q=>f x Q
 | _,_=>False
noncomputable def o2(f:D->D->(Sl->Prop)->Prop):List D->(Sl->Prop)->Prop
 | [x,y],Q=>f x y Q
 | _,_=>False
noncomputable def o3(f:D->D->D->(Sl->Prop)->Prop):List D->(Sl->Prop)->Prop
 | [x,y,z],Q=>f x y z Q
 | _,_=>False
noncomputable def Wq(td:TD):UK:=λρ Q=>td ρ λr ρ'=>match r with
 | .fz (.bool b)=>Q b ρ'
 | _=>False
noncomputable def Yy(c:UK):UK:=λρ Q=>c ρ λb ρ'=>Q (!b) ρ'
noncomputable def Zy(c e:UK):UK:=λρ Q=>c ρ λb ρ'=>if b=true then e ρ' Q else Q false ρ'
noncomputable def BL(c e:UK):UK:=λρ Q=>c ρ λb ρ'=>if b=true then Q true ρ' else e ρ' Q
noncomputable def iD:UK:=λρ Q=>Q true ρ
section
variable {K:Fg}{σ:St}{H:Hp}
theorem Sw{td:TD}{t:TE}(ht:∀{σ H Q},lift K td σ H Q->t σ H Q){Q:Bool->Hp->Prop}(h:vQ K (Wq td) σ H Q):xq t σ H Q:=by
 obtain⟨G,F,ρ,Qd,R,w,k⟩:=h
 refine ht ⟨G,F,ρ,_,R,w,λv H' F' r ρ' sb R' r' q=>?_⟩
 split at q
 ·rename_i b
  cases r'
  exact ⟨b,rfl,k b H' F' ρ' sb R' q⟩
 ·exact q.elim
theorem IC{c:UK}{Q:Bool->Hp->Prop}(h:vQ K (Yy c) σ H Q):fy (vQ K c) σ H Q:=by
 obtain⟨G,F,ρ,Qd,R,w,k⟩:=h
 exact ⟨G,F,ρ,_,R,w,λb H' F' ρ' sb R' q=>k (!b) H' F' ρ' sb R' q⟩
theorem JC{c e:UK}{Q:Bool->Hp->Prop}(h:vQ K (Zy c e) σ H Q):dy (vQ K c) (vQ K e) σ H Q:=by
 obtain⟨G,F,ρ,Qd,R,w,k⟩:=h
 refine ⟨G,F,ρ,_,R,w,λb H' F' ρ' sb R' q=>?_⟩
 cases b with
 | true=>exact ⟨G,F',ρ',Qd,R',q,λb H2 F2 ρ2 s2 R2 q2=>k b H2 F2 ρ2 (sb.trans s2) R2 q2⟩
 | false=>exact k false H' F' ρ' sb R' q
theorem CL{c e:UK}{Q:Bool->Hp->Prop}(h:vQ K (BL c e) σ H Q):rL (vQ K c) (vQ K e) σ H Q:=by
 obtain⟨G,F,ρ,Qd,R,w,k⟩:=h
 refine ⟨G,F,ρ,_,R,w,λb H' F' ρ' sb R' q=>?_⟩
 cases b with
 | true=>exact k true H' F' ρ' sb R' q
 | false=>exact ⟨G,F',ρ',Qd,R',q,λb H2 F2 ρ2 s2 R2 q2=>k b H2 F2 ρ2 (sb.trans s2) R2 q2⟩
theorem KC{Q:Bool->Hp->Prop}(h:vQ K iD σ H Q):zC σ H Q:=by
 obtain⟨G,F,ρ,Qd,R,w,k⟩:=h
 exact k true H F ρ (Sub.refl _) R w
end
noncomputable def Xq(a b:TD):TD:=λρ Q=>a ρ λr ρ'=>match r with
 | .fz (.bool c)=>if c=true then b ρ' Q else Q (.fz (.bool false)) ρ'
 | _=>False
noncomputable def au(a b:TD):TD:=λρ Q=>a ρ λr ρ'=>match r with
 | .fz (.bool c)=>if c=true then Q (.fz (.bool true)) ρ' else b ρ' Q
 | _=>False
section
variable {K:Fg}{σ:St}{H:Hp}{Q:VK}{a b:TD}{c:UK}
theorem bu(h:lift K (Xq a b) σ H Q):fq (lift K a) (lift K b) σ H Q:=by
 obtain⟨G,F,ρ,Qd,R,w,k⟩:=h
 refine ⟨G,F,ρ,_,R,w,λv H' F' r ρ' sb R' r' q=>?_⟩
 split at q
 ·rename_i c
  cases r'
  refine ⟨c,rfl,?_⟩
  cases c with
  | true=>exact ⟨G,F',ρ',Qd,R',q,λv H2 F2 r ρ2 s2 R2 r2 q2=>k v H2 F2 r ρ2 (sb.trans s2) R2 r2 q2⟩
  | false=>exact k _ H' F' (.fz (.bool false)) ρ' sb R' (Da.bl false) q
 ·exact q.elim
theorem LC(h:lift K (au a b) σ H Q):my (lift K a) (lift K b) σ H Q:=by
 obtain⟨G,F,ρ,Qd,R,w,k⟩:=h
 refine ⟨G,F,ρ,_,R,w,λv H' F' r ρ' sb R' r' q=>?_⟩
 split at q
 ·rename_i c
  cases r'
  refine ⟨c,rfl,?_⟩
  cases c with
  | true=>exact k _ H' F' (.fz (.bool true)) ρ' sb R' (Da.bl true) q
  | false=>exact ⟨G,F',ρ',Qd,R',q,λv H2 F2 r ρ2 s2 R2 r2 q2=>k v H2 F2 r ρ2 (sb.trans s2) R2 r2 q2⟩
 ·exact q.elim
end
theorem lY{ρ:Ev}{i:Nat}{P:Prop}(h:match ρ[i]? with|some (some (.io _))=>False|some _=>P|none=>False):OW ρ i/\P:=by
 unfold OW
 cases e:ρ[i]? with
 | none=>rw[e]at h;exact h.elim
 | some x =>
  rw[e]at h
  cases x with
  | none=>exact ⟨trivial,h⟩
  | some s=>cases s with
   | fz d=>exact ⟨trivial,h⟩
   | ow d=>exact ⟨trivial,h⟩
   | io d=>exact h.elim
structure DE where
 nx:Ev->Prop
 rt:Sl->Ev->Prop
 bk:Ev->Prop
 ct:Ev->Prop
noncomputable abbrev DJ:=DE->Ev->Prop
noncomputable def oQ(K:Fg)(ts:DJ):TS:=λD σ H=>∃(G:Gh) (F:Hp) (ρ:Ev) (E:DE),Rel K G F σ H ρ/\ts E ρ /\
 (∀σ' H' F' ρ',Sub F F'->Rel K G F' σ' H' ρ'->E.nx ρ'->D.nx σ' H') /\
 (∀v σ' H' F' r ρ',Sub F F'->Rel K G F' σ' H' ρ'->Res K G F' H' σ' ρ' v r->E.rt r ρ'->D.rt v H') /\
 (∀σ' H' F' ρ',Sub F F'->Rel K G F' σ' H' ρ'->E.bk ρ'->D.bk σ' H') /\
 (∀σ' H' F' ρ',Sub F F'->Rel K G F' σ' H' ρ'->E.ct ρ'->D.ct σ' H')
noncomputable def Yq:DJ:=λE ρ=>E.nx ρ
noncomputable def Rx(t u:DJ):DJ:=λE ρ=>t { nx:=λρ'=>u E ρ',rt:=E.rt,bk:=E.bk,ct:=E.ct } ρ
noncomputable def cu(a:TD):DJ:=λE ρ=>a ρ E.rt
noncomputable def Zq(a:TD):DJ:=λE ρ=>a ρ λ_ ρ'=>E.nx ρ'
noncomputable def du(c:UK)(t u:DJ):DJ:=λE ρ=>c ρ λb ρ'=>if b=true then t E ρ' else u E ρ'
noncomputable def az(i:Nat)(a:TD):DJ:=λE ρ=>a ρ λr ρ'=>match ρ'[i]? with
 | some (some (.io _))=>False
 | some _=>E.nx (ρ'.set i (some r))
 | none=>False
section
variable {K:Fg}{σ:St}{H:Hp}{E:Ends}{t u:DJ}{a:TD}{c:UK}
theorem fu(h:oQ K Yq E σ H):gq E σ H:=by
 obtain⟨G,F,ρ,D,R,w,n,r,b,c⟩:=h
 exact n σ H F ρ (Sub.refl _) R w
theorem later{G:Gh}{F F1 H1:Hp}{ρ1:Ev}{σ1:St}{D:DE}{ts:DJ}(s:Sub F F1)(R:Rel K G F1 σ1 H1 ρ1)(w:ts D ρ1)
  (n:∀σ' H' F' ρ',Sub F F'->Rel K G F' σ' H' ρ'->D.nx ρ'->E.nx σ' H')
  (r:∀v σ' H' F' r ρ',Sub F F'->Rel K G F' σ' H' ρ'->Res K G F' H' σ' ρ' v r->D.rt r ρ'->E.rt v H')
  (b:∀σ' H' F' ρ',Sub F F'->Rel K G F' σ' H' ρ'->D.bk ρ'->E.bk σ' H')
  (c:∀σ' H' F' ρ',Sub F F'->Rel K G F' σ' H' ρ'->D.ct ρ'->E.ct σ' H'):oQ K ts E σ1 H1 :=
 ⟨G,F1,ρ1,D,R,w,λ_ _ _ _ s' R' q=>n _ _ _ _ (s.trans s') R' q,λ_ _ _ _ _ _ s' R' r' q=>r _ _ _ _ _ _ (s.trans s') R' r' q,
   λ_ _ _ _ s' R' q=>b _ _ _ _ (s.trans s') R' q,λ_ _ _ _ s' R' q=>c _ _ _ _ (s.trans s') R' q⟩
theorem MC(h:oQ K (Rx t u) E σ H):sy (oQ K t) (oQ K u) E σ H:=by
 obtain⟨G,F,ρ,D,R,w,n,r,b,c⟩:=h
 exact ⟨G,F,ρ,_,R,w,λσ' H' F' ρ' s R' q=>later s R' q n r b c,r,b,c⟩
theorem NC(h:oQ K (cu a) E σ H):lq (lift K a) E σ H:=by
 obtain⟨G,F,ρ,D,R,w,n,r,b,c⟩:=h
 exact ⟨G,F,ρ,_,R,w,λv H' F' x ρ' s R' r' q=>r v σ H' F' x ρ' s R' r' q⟩
theorem gu(h:oQ K (Zq a) E σ H):jq (lift K a) E σ H:=by
 obtain⟨G,F,ρ,D,R,w,n,r,b,c⟩:=h
 exact ⟨G,F,ρ,_,R,w,λv H' F' x ρ' s R' r' q=>n σ H' F' ρ' s R' q⟩
theorem OC(h:oQ K (du c t u) E σ H):uy (vQ K c) (oQ K t) (oQ K u) E σ H:=by
 obtain⟨G,F,ρ,D,R,w,n,r,b,c⟩:=h
 refine ⟨G,F,ρ,_,R,w,λx H' F' ρ' s R' q=>?_⟩
 cases x with
 | true=>exact later s R' q n r b c
 | false=>exact later s R' q n r b c
theorem Tw{i:Nat}(h:oQ K (az i a) E σ H):bY (lift K a) (yZ i) E σ H:=by
 obtain⟨G,F,ρ,D,R,w,n,r,b,c⟩:=h
 refine ⟨G,F,ρ,_,R,w,λv H' F' x ρ' s R' r' q=>?_⟩
 have hn:=lY q
 exact n _ H' F' _ s (R'.asg hn.1 r') hn.2
end
noncomputable def VG(i:Nat):DJ:=λE ρ=>match ρ[i]? with
 | some (some (.fz d))=>E.rt (.fz d) ρ
 | some (some (.ow d))=>E.rt (.ow d) (ρ.set i none)
 | _=>False
noncomputable def XG(i j:Nat):DJ:=λE ρ=>match ρ[j]? with
 | some (some (.fz d))=>(match ρ[i]? with
   | some (some (.io _))=>False
   | some _=>E.nx (ρ.set i (some (.fz d)))
   | none=>False)
 | some (some (.ow d))=>(match (ρ.set j none)[i]? with
   | some (some (.io _))=>False
   | some _=>E.nx ((ρ.set j none).set i (some (.ow d)))
   | none=>False)
 | _=>False
section
variable {K:Fg}{σ:St}{H:Hp}{E:Ends}
theorem iu{i:Nat}(h:oQ K (VG i) E σ H):lq (bK i) E σ H:=by
 obtain⟨G,F,ρ,D,R,w,n,r,b,c⟩:=h
 unfold VG at w
 split at w
 ·rename_i d e
  obtain⟨v,e1,h1⟩:=R.fz i d e
  exact ⟨v,e1,r v σ H F (.fz d) ρ (Sub.refl _) R h1 w⟩
 ·rename_i d e
  obtain⟨v,e1,h1⟩:=R.forgetRes e
  exact ⟨v,e1,r v σ H F (.ow d) _ (Sub.refl _) (R.forget e) h1 w⟩
 ·exact w.elim
theorem ju{i j:Nat}(h:oQ K (XG i j) E σ H):bY (bK j) (yZ i) E σ H:=by
 obtain⟨G,F,ρ,D,R,w,n,r,b,c⟩:=h
 unfold XG at w
 split at w
 ·rename_i d e
  obtain⟨v,e1,h1⟩:=R.fz j d e
  obtain⟨hn,w⟩:=lY w
  exact ⟨v,e1,n _ H F _ (Sub.refl _) (R.asg (s:=.fz d) hn h1) w⟩
 ·rename_i d e
  obtain⟨v,e1,h1⟩:=R.forgetRes e
  obtain⟨hn,w⟩:=lY w
  exact ⟨v,e1,n _ H F _ (Sub.refl _) ((R.forget e).asg (s:=.ow d) hn h1) w⟩
 ·exact w.elim
end
noncomputable abbrev KJ:=D->Ev->(Ev->Prop)->Prop
noncomputable def oX(K:Fg)(g:KJ):TG:=λv σ H Q=>∃(G:Gh) (F:Hp) (ρ:Ev) (d:D) (Qd:Ev->Prop),Rel K G F σ H ρ/\Da K F v d/\g d ρ Qd/\∀σ' ρ',Rel K G F σ' H ρ'->Qd ρ'->Q σ' H
noncomputable def PC(i:Nat):KJ:=λd ρ Q=>match ρ[i]? with
 | some (some (.io _))=>False
 | some _=>Q (ρ.set i (some (.fz d)))
 | none=>False
noncomputable def QC:List KJ->List D->Ev->(Ev->Prop)->Prop
 | [],[],ρ,Q=>Q ρ
 | g :: gs,d :: ds,ρ,Q=>g d ρ λρ'=>QC gs ds ρ' Q
 | _,_,_,_=>False
noncomputable def MI(gs:List KJ):KJ:=λd ρ Q=>match d with
 | .tuple ds=>ds.length=gs.length/\QC gs ds ρ Q
 | _=>False
noncomputable def QW:List TG->Yj
 | []=>wy
 | g :: gs=>DG g (QW gs)
section
variable {K:Fg}{σ:St}{H:Hp}{v:V}{Q:St->Hp->Prop}
theorem DL{i:Nat}(h:oX K (PC i) v σ H Q):yZ i v σ H Q:=by
 obtain⟨G,F,ρ,d,Qd,R,hd,w,k⟩:=h
 obtain⟨hn,w⟩:=lY w
 exact k _ _ (R.asg (s:=.fz d) hn hd) w
theorem RC{G:Gh}{F:Hp}:∀{gs:List KJ}{ds:List D}{vs:List V}{σ:St}{ρ:Ev}{Qd:Ev->Prop},Rel K G F σ H ρ->DaAll K F vs ds->QC gs ds ρ Qd->(∀σ' ρ',Rel K G F σ' H ρ'->Qd ρ'->Q σ' H)->QW (gs.map (oX K)) vs σ H Q
 | [],[],_,σ,ρ,Qd,R,.nil,w,k=>⟨rfl,k σ ρ R w⟩
 | g :: gs,d :: ds,_,σ,ρ,Qd,R,.cons h t,w,k=>⟨_,_,rfl,G,F,ρ,d,_,R,h,w,λσ' ρ' R' w'=>RC (gs:=gs) R' t w' k⟩
 | [],_ :: _,_,σ,ρ,Qd,R,_,w,k=>by exact w.elim
 | _ :: _,[],_,σ,ρ,Qd,R,_,w,k=>by exact w.elim
theorem EL{gs:List KJ}{n:Nat}(hn:gs.length=n)(h:oX K (MI gs) v σ H Q):nq K n (QW (gs.map (oX K))) v σ H Q:=by
 obtain⟨G,F,ρ,d,Qd,R,hd,w,k⟩:=h
 unfold MI at w
 split at w
 ·cases hd with
  | tup e t=>exact ⟨_,_,rfl,SqT.of (R.sub _ _ e),by rw[t.length,w.1,hn],RC R t w.2 k⟩
 ·exact w.elim
end
noncomputable def Walks(K:Fg)(J:It)(F:Hp)(ds:List D):Prop:=∀(i:Nat) (H F1:Hp),Sub F F1->Sub F1 H ->
 (∀d,ds[i]?=some d->J.go i H/\∀x H',J.yld i H x H'->∃F2,Sub F1 F2/\(∀b o,F2 b=some o->F1 b=some o\/H b=none)/\Sub F2 H'/\Sub H H'/\Da K F2 x d)/\(ds.length=i->J.stop i H)
noncomputable abbrev pH:=Ev->(List D->Ev->Prop)->Prop
noncomputable def pX(K:Fg)(ti:pH):TI:=λσ H R=>∃(G:Gh) (F:Hp) (ρ:Ev) (Qd:List D->Ev->Prop),Rel K G F σ H ρ/\ti ρ Qd /\
 ∀J H' F' ds ρ',Sub F F'->Rel K G F' σ H' ρ'->Walks K J F' ds->Qd ds ρ'->R J H'
theorem Rel.turn{K:Fg}{G:Gh}{F F2 H H':Hp}{σ:St}{ρ:Ev}(R:Rel K G F σ H ρ)(s:Sub F F2)(n:∀b o,F2 b=some o->F b=some o\/H b=none)(s2:Sub F2 H')(s3:Sub H H'):Rel K G F2 σ H' ρ where
 len:=R.len
 sub:=s2
 sub0:=R.sub0.trans s
 fn:=λb o e=>by
  rcases n b o e with q|q
  ·exact R.fn b o q
  ·exact .inr (R.h0 q)
 keep:=λa o e m=>s3 _ _ (R.keep a o e m)
 fz:=λi d e=>by
  obtain⟨v,h1,h2⟩:=R.fz i d e
  exact ⟨v,h1,h2.mono s⟩
 ow:=λi t e w=>by
  obtain⟨a,o,h1,h2,h3,h4⟩:=R.ow i t e w
  refine ⟨a,o,h1,?_,s3 _ _ h3,h4.mono s⟩
  cases q:F2 a with
  | none=>rfl
  | some u =>
   rcases n a u q with z|z
   ·rw[h2]at z;cases z
   ·rw[h3]at z;cases z
 new:=R.new
 io:=R.io
 ioi:=R.ioi
 ap:=R.ap
theorem vU{α:Type}{l:List α}{i:Nat}{x:α}(h:l[i]?=some x):l.drop i=x :: l.drop (i+1):=by
 obtain⟨hl,rfl⟩:=K1.mp h
 exact u4 hl
noncomputable def BH(c:UK)(tb:DJ):DJ:=λE ρ=>∃W:Nat->Ev->Prop,(∃m,W m ρ)/\∀m ρ,W m ρ->c ρ λb ρ1=>if b=true then
 ∃N:Ev->Prop,(∀ρ',N ρ'->∃m',m' < m/\W m' ρ')/\tb { nx:=N,rt:=E.rt,bk:=E.nx,ct:=N } ρ1 else E.nx ρ1
theorem Tx{K:Fg}{c:UK}{tb:DJ}{E:Ends}{σ:St}{H:Hp}(h:oQ K (BH c tb) E σ H):qH (vQ K c) (oQ K tb) E σ H:=by
 obtain⟨G,F,ρ,D,R,⟨W,⟨m0,w0⟩,st⟩,n,r,b,c⟩:=h
 refine ⟨λm σ H=>∃F' ρ',Sub F F'/\Rel K G F' σ H ρ'/\W m ρ',⟨m0,F,ρ,Sub.refl _,R,w0⟩,?_⟩
 rintro m σ H ⟨F',ρ',s',R',w'⟩
 refine ⟨G,F',ρ',_,R',st m ρ' w',λx H1 F1 ρ1 s1 R1 q=>?_⟩
 cases x with
 | false=>exact n σ H1 F1 ρ1 (s'.trans s1) R1 q
 | true =>
  obtain⟨N,hN,q⟩:=q
  refine ⟨λσ2 H2=>∃F2 ρ2,Sub F F2/\Rel K G F2 σ2 H2 ρ2/\N ρ2,λσ2 H2 ⟨F2,ρ2,z1,z2,z3⟩=>?_,?_⟩
  ·obtain⟨m',hm,hw⟩:=hN ρ2 z3
   exact ⟨m',hm,F2,ρ2,z1,z2,hw⟩
  ·refine ⟨G,F1,ρ1,_,R1,q,λσ4 H4 F4 ρ4 s4 R4 q=>?_,λv σ4 H4 F4 x4 ρ4 s4 R4 r4 q=>?_,λσ4 H4 F4 ρ4 s4 R4 q=>?_,λσ4 H4 F4 ρ4 s4 R4 q=>?_⟩
   ·exact ⟨F4,ρ4,s'.trans (s1.trans s4),R4,q⟩
   ·exact r v σ4 H4 F4 x4 ρ4 (s'.trans (s1.trans s4)) R4 r4 q
   ·exact n σ4 H4 F4 ρ4 (s'.trans (s1.trans s4)) R4 q
   ·exact ⟨F4,ρ4,s'.trans (s1.trans s4),R4,q⟩
noncomputable def Ux:Option Sl->Option Sl
 | some (.ow d)=>some (.io d)
 | x=>x
noncomputable def OY(own:List Str)(fr:List Nat)(ρ:Ev):Ev:=own.map (λ_=>none)++fr.map λi=>Ux ((ρ[i]?).getD none)
noncomputable def Vx:Option Sl->Option (Option Sl)->Option Sl
 | some (.ow d),some (some (.io d'))=>some (.ow d')
 | some (.io d),some (some (.io d'))=>some (.io d')
 | x,_=>x
noncomputable def HK(fr:List Nat)(τ:Ev):Nat->Ev->Ev
 | _,[]=>[]
 | j,x :: ρ=>Vx x ((fr.zip τ).lookup j) :: HK fr τ (j+1) ρ
theorem PY(fr:List Nat)(τ:Ev):∀(ρ:Ev) (j i:Nat),(HK fr τ j ρ)[i]?=(ρ[i]?).map λx=>Vx x ((fr.zip τ).lookup (j+i))
 | [],j,i=>by simp[HK]
 | x :: ρ,j,0=>by simp[HK]
 | x :: ρ,j,i+1=>by
  have:=PY fr τ ρ (j+1) i
  simp only[HK,V3]
  rw[this,show j+1+i=j+(i+1) by omega]
theorem wU(fr:List Nat)(τ:Ev):∀(ρ:Ev) (j:Nat),(HK fr τ j ρ).length=ρ.length
 | [],_=>rfl
 | x :: ρ,j=>by simp[HK,wU fr τ ρ (j+1)]
theorem QY:∀{fr:List Nat}{τ:Ev}{k i:Nat}{x:Option Sl},fr.Nodup->fr[k]?=some i->τ[k]?=some x->(fr.zip τ).lookup i=some x
 | [],_,_,_,_,_,e,_=>by simp at e
 | j :: fr,[],_,_,_,_,_,e=>by simp at e
 | j :: fr,y :: τ,0,i,x,_,e,e'=>by simp at e e';subst e e';simp[r8]
 | j :: fr,y :: τ,k+1,i,x,nd,e,e'=>by
  have nd':=T5.mp nd
  simp at e e'
  have hm:i∈fr:=W2 e
  have ne:(i==j)=false:=by simp;intro z;subst z;exact nd'.1 hm
  simp[r8,ne]
  exact QY nd'.2 e e'
theorem iJ:∀{fr:List Nat}{τ:Ev}{i:Nat}{x:Option Sl},(fr.zip τ).lookup i=some x->∃k:Nat,fr[k]?=some i/\τ[k]?=some x
 | [],_,_,_,e=>by simp at e
 | j :: fr,[],_,_,e=>by simp at e
 | j :: fr,y :: τ,i,x,e=>by
  by_cases z:i=j
  ·subst z;simp[r8]at e;subst e;exact ⟨0,by simp,by simp⟩
  ·have ne:(i==j)=false:=by simp[z]
   simp[r8,ne]at e
   obtain⟨k,h1,h2⟩:=iJ e
   exact ⟨k+1,by simpa using h1,by simpa using h2⟩
noncomputable def bz(σ:St)(ρ:Ev)(i:Nat):Option Addr:=match ρ[i]?,σ[i]? with
 | some (some s),some (some (.ref a))=>if OQ s=true then some a else none
 | _,_=>none
theorem jD{σ:St}{ρ:Ev}{i:Nat}{a:Addr}(h:bz σ ρ i=some a):∃s,ρ[i]?=some (some s)/\OQ s=true/\σ[i]?=some (some (V.ref a)):=by
 unfold bz at h
 split at h
 ·rename_i s b e1 e2
  split at h
  ·rename_i w;cases h;exact ⟨s,e1,w,e2⟩
  ·cases h
 ·cases h
theorem Wx{σ:St}{ρ:Ev}{i:Nat}{a:Addr}{s:Sl}(h1:ρ[i]?=some (some s))(h2:OQ s=true)(h3:σ[i]?=some (some (V.ref a))):bz σ ρ i=some a:=by
 unfold bz;rw[h1,h3];simp[h2]
noncomputable def ax(own:List Str)(fr:List Nat)(F H:Hp)(σ:St)(ρ:Ev):Gh:=⟨H,F,λj=>if own.length<=j then (match fr[j - own.length]? with|some i=>bz σ ρ i|none=>none) else none⟩
theorem CH{own:List Str}{fr:List Nat}{F H:Hp}{σ:St}{ρ:Ev}{j:Nat}{a:Addr}(h:(ax own fr F H σ ρ).io j=some a):∃k i s,j=own.length+k/\fr[k]?=some i/\ρ[i]?=some (some s)/\OQ s=true/\σ[i]?=some (some (V.ref a)):=by
 unfold ax at h
 simp only at h
 split at h
 ·rename_i hl
  split at h
  ·rename_i i e
   obtain⟨s,h1,h2,h3⟩:=jD h
   exact ⟨j - own.length,i,s,by omega,e,h1,h2,h3⟩
  ·cases h
 ·cases h
theorem DH{own:List Str}{fr:List Nat}{F H:Hp}{σ:St}{ρ:Ev}{k i:Nat}{a:Addr}{s:Sl}(h0:fr[k]?=some i)(h1:ρ[i]?=some (some s))(h2:OQ s=true)(h3:σ[i]?=some (some (V.ref a))):(ax own fr F H σ ρ).io (own.length+k)=some a:=by
 unfold ax
 simp only
 rw[if_pos (O4 _ _),u6,h0]
 exact Wx h1 h2 h3
theorem kD{α:Type}{own:List Str}{fr:List Nat}{f:Nat->Option α}{j:Nat}{x:α}(h:(own.map (λ_=>(none:Option α))++fr.map f)[j]?=some (some x)):∃k i,j=own.length+k/\fr[k]?=some i/\f i=some x:=by
 by_cases hl:j < own.length
 ·rw[B3 (by simpa using hl)]at h
  simp at h
 ·rw[Y1 (by simpa using L8 hl)]at h
  simp at h
  obtain⟨i,h1,h2⟩:=h
  exact ⟨j - own.length,i,by omega,h1,h2⟩
theorem xU{α:Type}{own:List Str}{fr:List Nat}{f:Nat->Option α}{k i:Nat}(h:fr[k]?=some i):(own.map (λ_=>(none:Option α))++fr.map f)[own.length+k]?=some (f i):=by
 rw[Y1 (by simp)]
 simp[h]
theorem cz{x:Option Sl}{s:Sl}(h:Ux x=some s):∃s0,x=some s0/\((∃d,s0=.fz d/\s=.fz d)\/(OQ s0=true/\s=.io s0.d)):=by
 cases x with
 | none=>cases h
 | some s0 =>
  cases s0 with
  | fz d=>cases h;exact ⟨_,rfl,.inl ⟨d,rfl,rfl⟩⟩
  | ow d=>cases h;exact ⟨_,rfl,.inr ⟨rfl,rfl⟩⟩
  | io d=>cases h;exact ⟨_,rfl,.inr ⟨rfl,rfl⟩⟩
theorem getD_some{α:Type}{o:Option (Option α)}{x:α}(h:o.getD none=some x):o=some (some x):=by
 cases o with
 | none=>cases h
 | some y=>simp at h;rw[h]
section
variable {K:Fg}{G:Gh}{F F' H H':Hp}{σ τ:St}{ρ μ:Ev}{own:List Str}{fr:List Nat}
theorem VX{j:Nat}{s:Sl}(h:(OY own fr ρ)[j]?=some (some s)):∃k i s0,j=own.length+k/\fr[k]?=some i/\ρ[i]?=some (some s0)/\((∃d,s0=.fz d/\s=.fz d)\/(OQ s0=true/\s=.io s0.d)):=by
 obtain⟨k,i,h1,h2,h3⟩:=kD h
 obtain⟨s0,h4,h5⟩:=cz h3
 exact ⟨k,i,s0,h1,h2,getD_some h4,h5⟩
theorem RY{k i:Nat}(h:fr[k]?=some i):(Qy own σ fr)[own.length+k]?=some ((σ[i]?).getD none):=xU (f:=λi=>(σ[i]?).getD none) h
theorem mD{k i:Nat}(h:fr[k]?=some i):(OY own fr ρ)[own.length+k]?=some (Ux ((ρ[i]?).getD none)):=xU (f:=λi=>Ux ((ρ[i]?).getD none)) h
theorem dz{fr:List Nat}(nd:fr.Nodup){k l i:Nat}(a:fr[k]?=some i)(b:fr[l]?=some i):k=l:=by
 obtain⟨h1,e1⟩:=K1.mp a
 obtain⟨h2,e2⟩:=K1.mp b
 exact (List.getElem_inj nd).mp (e1.trans e2.symm)
theorem Rel.inner(R:Rel K G F σ H ρ)(nd:fr.Nodup):Rel K (ax own fr F H σ ρ) F (Qy own σ fr) H (OY own fr ρ) where
 len:=by simp[Qy,SB,OY]
 sub:=R.sub
 sub0:=Sub.refl _
 fn:=λ_ _ e=>.inl e
 keep:=λ_ _ e _=>e
 fz:=λj d e=>by
  obtain⟨k,i,s0,rfl,h2,h3,h4⟩:=VX e
  rcases h4 with⟨d0,rfl,z⟩|⟨_,z⟩
  ·cases z
   obtain⟨v,e1,e2⟩:=R.fz i d h3
   exact ⟨v,by rw[RY h2,e1];rfl,e2⟩
  ·cases z
 ow:=λj s e w=>by
  obtain⟨k,i,s0,rfl,h2,h3,h4⟩:=VX e
  rcases h4 with⟨d0,rfl,z⟩|⟨w0,z⟩
  ·cases z;cases w
  ·cases z
   obtain⟨a,o,e1,e2,e3,e4⟩:=R.ow i s0 h3 w0
   exact ⟨a,o,by rw[RY h2,e1];rfl,e2,e3,e4⟩
 new:=λj d a e _=>by
  obtain⟨k,i,s0,rfl,h2,h3,h4⟩:=VX e
  rcases h4 with⟨d0,rfl,z⟩|⟨w0,z⟩<;>cases z
 io:=λj a e=>by
  obtain⟨k,i,s,rfl,h1,h2,h3,h4⟩:=CH e
  refine ⟨s.d,?_,by rw[RY h1,h4];rfl⟩
  rw[mD h1,h2]
  cases s<;>first|rfl|cases h3
 ioi:=λj d e=>by
  obtain⟨k,i,s0,rfl,h2,h3,h4⟩:=VX e
  rcases h4 with⟨d0,rfl,z⟩|⟨w0,z⟩
  ·cases z
  ·obtain⟨a,o,e1,_⟩:=R.ow i s0 h3 w0
   exact ⟨a,DH h2 h3 w0 e1⟩
 ap:=λj l s t a e1 w1 e2 w2 e3 e4=>by
  obtain⟨k,i,s0,rfl,h2,h3,h4⟩:=VX e1
  obtain⟨k',i',s0',rfl,h2',h3',h4'⟩:=VX e2
  have p1:OQ s0=true:=by
   rcases h4 with⟨d0,rfl,z⟩|⟨w0,z⟩
   ·subst z;cases w1
   ·exact w0
  have p2:OQ s0'=true:=by
   rcases h4' with⟨d0,rfl,z⟩|⟨w0,z⟩
   ·subst z;cases w2
   ·exact w0
  rw[RY h2]at e3
  rw[RY h2']at e4
  have q:=R.ap i i' s0 s0' a h3 p1 h3' p2 (getD_some (V1 e3)) (getD_some (V1 e4))
  subst q
  rw[dz nd h2 h2']
theorem jJ(R:Rel K G F σ H ρ)(R':Rel K (ax own fr F H σ ρ) F' τ H' μ)(nd:fr.Nodup){i:Nat}{s:Sl}(h:(HK fr (μ.drop own.length) 0 ρ)[i]?=some (some s)) :
  ∃s0,ρ[i]?=some (some s0)/\((s=s0/\(OQ s0=true->i∉fr))\/(OQ s0=true/\∃k d',fr[k]?=some i/\μ[own.length+k]?=some (some (Sl.io d'))/\s=s0.put d')):=by
 rw[PY]at h
 cases e:ρ[i]? with
 | none=>rw[e]at h;cases h
 | some x =>
  rw[e]at h
  simp only[E5,S8]at h
  have h:=V1 h
  cases x with
  | none=>simp[Vx]at h
  | some s0 =>
   refine ⟨s0,rfl,?_⟩
   by_cases w0:OQ s0=true
   ·by_cases hm:i∈fr
    ·obtain⟨k,hk⟩:=g9.mp hm
     obtain⟨a,o,e1,_⟩:=R.ow i s0 e w0
     obtain⟨d',g1,g2⟩:=R'.io _ _ (DH (own:=own) (F:=F) (H:=H) hk e w0 e1)
     have z:=QY (τ:=μ.drop own.length) nd hk (by rw[J9];exact g1)
     rw[z]at h
     refine .inr ⟨w0,k,d',hk,g1,?_⟩
     cases s0 with
     | fz d=>cases w0
     | ow d=>simp[Vx]at h;exact h.symm
     | io d=>simp[Vx]at h;exact h.symm
    ·refine .inl ⟨?_,λ_=>hm⟩
     have z:(fr.zip (μ.drop own.length)).lookup i=none:=by
      cases q:(fr.zip (μ.drop own.length)).lookup i with
      | none=>rfl
      | some y =>
       obtain⟨k,h1,_⟩:=iJ q
       exact (hm (W2 h1)).elim
     rw[z]at h
     cases s0 with
     | fz d=>cases w0
     | ow d=>simp[Vx]at h;exact h.symm
     | io d=>simp[Vx]at h;exact h.symm
   ·refine .inl ⟨?_,λz=>(w0 z).elim⟩
    cases s0 with
    | fz d=>simp[Vx]at h;exact h.symm
    | ow d=>exact (w0 rfl).elim
    | io d=>exact (w0 rfl).elim
theorem ku{d:D}(x:Option (Option Sl)):∃d',Vx (some (.io d)) x=some (.io d'):=by
 rcases x with _|_|(d'|d'|d')
 ·exact ⟨d,rfl⟩
 ·exact ⟨d,rfl⟩
 ·exact ⟨d,rfl⟩
 ·exact ⟨d,rfl⟩
 ·exact ⟨d',rfl⟩
theorem Rel.outer(R:Rel K G F σ H ρ)(R':Rel K (ax own fr F H σ ρ) F' τ H' μ)(nd:fr.Nodup):Rel K G F' σ H' (HK fr (μ.drop own.length) 0 ρ):=by
 have sb:Sub F F':=R'.sub0
 have owns:∀{i:Nat}{s:Sl},(HK fr (μ.drop own.length) 0 ρ)[i]?=some (some s)->OQ s=true->∃s0,ρ[i]?=some (some s0)/\OQ s0=true:=λ{i s} e w=>by
  obtain⟨s0,h1,h2⟩:=jJ R R' nd e
  rcases h2 with⟨rfl,_⟩|⟨w0,_⟩
  ·exact ⟨s,h1,w⟩
  ·exact ⟨s0,h1,w0⟩
 refine ⟨by rw[wU];exact R.len,R'.sub,R.sub0.trans sb,λa o e=>?_,λa o e n=>?_,λi d e=>?_,λi s e w=>?_,λi d a e ea=>?_,λi a e=>?_,λi d e=>?_,λi j s t a e1 w1 e2 w2 e3 e4=>?_⟩
 ·rcases R'.fn a o e with q|q
  ·exact R.fn a o q
  ·exact .inr (R.h0 q)
 ·refine R'.keep a o (R.keep a o e n) λj z=>?_
  obtain⟨k,i,s,rfl,h1,h2,h3,h4⟩:=CH z
  cases s with
  | fz d=>cases h3
  | ow d=>rw[R.new i d a h2 h4]at e;cases e
  | io d =>
   obtain⟨a',g⟩:=R.ioi i d h2
   obtain⟨_,_,g2⟩:=R.io i a' g
   rw[h4]at g2;cases g2
   exact n i g
 ·obtain⟨s0,h1,h2⟩:=jJ R R' nd e
  rcases h2 with⟨rfl,_⟩|⟨w0,k,d',_,_,z⟩
  ·obtain⟨v,g1,g2⟩:=R.fz i d h1
   exact ⟨v,g1,g2.mono sb⟩
  ·cases s0<;>simp[Sl.put,OQ]at z w0
 ·obtain⟨s0,h1,h2⟩:=jJ R R' nd e
  rcases h2 with⟨rfl,hm⟩|⟨w0,k,d',hk,hd,rfl⟩
  ·obtain⟨a,o,g1,g2,g3,g4⟩:=R.ow i s h1 w
   have nio:∀j,(ax own fr F H σ ρ).io j≠some a:=λj z=>by
    obtain⟨k,i',s',rfl,q1,q2,q3,q4⟩:=CH z
    have:=R.ap i i' s s' a h1 w q2 q3 g1 q4
    subst this
    exact hm w (W2 q1)
   refine ⟨a,o,g1,?_,R'.keep a o g3 nio,g4.mono sb⟩
   cases q:F' a with
   | none=>rfl
   | some u =>
    rcases R'.fn a u q with z|z
    ·have z:F a=some u:=z
     rw[g2]at z;cases z
    ·have z:H a=none:=z
     rw[g3]at z;cases z
  ·obtain⟨a,o,g1,g2,g3,g4⟩:=R.ow i s0 h1 w0
   obtain⟨d2,q1,q2⟩:=R'.io _ _ (DH (own:=own) (F:=F) (H:=H) hk h1 w0 g1)
   obtain⟨a',o',p1,p2,p3,p4⟩:=R'.ow _ _ hd rfl
   rw[q2]at p1;cases p1
   exact ⟨a,o',g1,p2,p3,by cases s0<;>first|exact p4|cases w0⟩
 ·obtain⟨s0,h1,h2⟩:=jJ R R' nd e
  rcases h2 with⟨rfl,_⟩|⟨w0,k,d',_,_,z⟩
  ·exact R.new i d a h1 ea
  ·cases s0 with
   | fz d=>cases w0
   | ow d0=>exact R.new i d0 a h1 ea
   | io d0=>cases z
 ·obtain⟨d,h1,h2⟩:=R.io i a e
  obtain⟨d',hd⟩:=ku (d:=d) ((fr.zip (μ.drop own.length)).lookup i)
  exact ⟨d',by rw[PY,h1];simp only[E5,S8];rw[hd],h2⟩
 ·obtain⟨s0,h1,h2⟩:=jJ R R' nd e
  rcases h2 with⟨rfl,_⟩|⟨w0,k,d',_,_,z⟩
  ·exact R.ioi i d h1
  ·cases s0 with
   | fz d=>cases w0
   | ow d0=>cases z
   | io d0=>exact R.ioi i d0 h1
 ·obtain⟨s0,g1,g2⟩:=owns e1 w1
  obtain⟨t0,g3,g4⟩:=owns e2 w2
  exact R.ap i j s0 t0 a g1 g2 g3 g4 e3 e4
end
noncomputable abbrev Con:=List Sl->(Sl->Ev->Prop)->Prop
noncomputable def kQ(K:Fg)(con:Con):Sp:=λvs H Q _=>∃(G:Gh) (F:Hp) (args:List Sl) (Qd:Sl->Ev->Prop),Rel K G F (vs.map some) H (args.map some)/\con args Qd /\
 ∀v H' F' r ρ',Sub F F'->Rel K G F' (vs.map some) H' ρ'->Res K G F' H' (vs.map some) ρ' v r->Qd r ρ'->Q v H'
mutual
noncomputable def noMut:D->Bool
 | .none=>true
 | .bool _=>true
 | .int _=>true
 | .str _=>true
 | .tuple xs=>noMutAll xs
 | .list _=>false
 | .dict _=>false
noncomputable def noMutAll:List D->Bool
 | []=>true
 | x :: xs=>noMut x&&noMutAll xs
end
theorem DX:∀ns:List Int,noMutAll (ns.map u0)=true
 | []=>rfl
 | n :: ns=>by simp[noMutAll,noMut,DX ns]
section
variable {K:Fg}{F F':Hp}
mutual
theorem Da.noMut(h:∀b xs,F b=some (.tup xs)->F' b=some (.tup xs)):∀{v:V}{d:D},Da K F v d->noMut d=true->Da K F' v d
 | _,_,.non,_=>.non
 | _,_,.bl b,_=>.bl b
 | _,_,.int i,_=>.int i
 | _,_,.str x,_=>.str x
 | _,_,.lst _ _,z=>by simp[L3.noMut]at z
 | _,_,.tup e t,z=>.tup (h _ _ e) (DaAll.noMut h t (by simpa [L3.noMut]using z))
 | _,_,.dk _ _,z=>by simp[L3.noMut]at z
 | _,_,.dt _ _,z=>by simp[L3.noMut]at z
 | _,_,.scr _,z=>by simp[L3.noMut,OX]at z
theorem DaAll.noMut(h:∀b xs,F b=some (.tup xs)->F' b=some (.tup xs)):∀{xs:List V}{ds:List D},DaAll K F xs ds->noMutAll ds=true->DaAll K F' xs ds
 | _,_,.nil,_=>.nil
 | _,_,.cons a t,z=>by
  simp[noMutAll]at z
  exact .cons (Da.noMut h a z.1) (DaAll.noMut h t z.2)
end
end
noncomputable def WQ(ρ:Ev):List IV->Bool
 | []=>false
 | .inr _ :: xs=>WQ ρ xs
 | .inl i :: xs=>(match ρ[i]? with|some (some s)=>OQ s|_=>false)||WQ ρ xs
noncomputable def iz(con:Con)(as:List AD):TD:=λρ Q=>JX as ρ λxs ρ1=>cX ρ1 xs λds=>con (ds.map Sl.fz) λr _=>match WQ ρ1 xs with
 | false=>Q r ρ1
 | true=>noMut r.d=true/\Q r ρ1
noncomputable def jz(con:Con)(i:Nat)(xs:List IV)(ρ1:Ev)(Q:Sl->Ev->Prop):Prop:=match ρ1[i]? with
 | some (some s)=>match OQ s,WQ ρ1 xs with
  | true,false=>cX ρ1 xs λds=>con (.io s.d :: ds.map Sl.fz) λr outs=>match outs with
   | some (.io d') :: _=>Q r (ρ1.set i (some (s.put d')))
   | _=>False
  | _,_=>False
 | _=>False
noncomputable def JV(con:Con)(i:Nat)(as:List AD):TD:=λρ Q=>JX (.inl i :: as) ρ λxs ρ1=>jz con i xs.tail ρ1 Q
noncomputable def LentA(σ:St)(ρ:Ev)(xs:List IV)(a:Addr):Prop:=∃(i:Nat) (s:Sl),Sum.inl i∈xs/\ρ[i]?=some (some s)/\OQ s=true/\σ[i]?=some (some (V.ref a))
theorem LJ{σ:St}{ρ:Ev}:∀{xs:List IV}{a:Addr},LentA σ ρ xs a->WQ ρ xs=true
 | [],a,⟨i,s,h,_⟩=>by cases h
 | .inr d :: xs,a,⟨i,s,h,h1,h2,h3⟩=>by
  rcases V0.mp h with h|h
  ·cases h
  ·exact LJ (xs:=xs) ⟨i,s,h,h1,h2,h3⟩
 | .inl j :: xs,a,⟨i,s,h,h1,h2,h3⟩=>by
  unfold WQ
  rcases V0.mp h with h|h
  ·cases h;rw[h1];simp[h2]
  ·rw[LJ (xs:=xs) ⟨i,s,h,h1,h2,h3⟩];simp
open Classical in
noncomputable def kJ(σ:St)(ρ:Ev)(xs:List IV)(F H:Hp):Hp:=λb=>if LentA σ ρ xs b then H b else F b
open Classical in
noncomputable def PX(σ:St)(ρ:Ev)(xs:List IV)(F:Hp):Hp:=λb=>if LentA σ ρ xs b then none else F b
section
variable {K:Fg}{G:Gh}{F F' H H':Hp}{σ:St}{ρ:Ev}{xs:List IV}
theorem jK{b:Addr}(h:¬LentA σ ρ xs b):kJ σ ρ xs F H b=F b:=by unfold kJ;rw[if_neg h]
theorem mY{b:Addr}(h:LentA σ ρ xs b):kJ σ ρ xs F H b=H b:=by unfold kJ;rw[if_pos h]
theorem WX{b:Addr}(h:¬LentA σ ρ xs b):PX σ ρ xs F b=F b:=by unfold PX;rw[if_neg h]
theorem qD{b:Addr}(h:LentA σ ρ xs b):PX σ ρ xs F b=none:=by unfold PX;rw[if_pos h]
theorem LentA.own(R:Rel K G F σ H ρ){b:Addr}(h:LentA σ ρ xs b):∃(i:Nat) (s:Sl) (o:HO),ρ[i]?=some (some s)/\OQ s=true/\σ[i]?=some (some (V.ref b))/\F b=none/\H b=some o/\Own1 K F o s.d:=by
 obtain⟨i,s,_,h1,h2,h3⟩:=h
 obtain⟨a,o,g1,g2,g3,g4⟩:=R.ow i s h1 h2
 rw[h3]at g1;cases g1
 exact ⟨i,s,o,h1,h2,h3,g2,g3,g4⟩
theorem kK(R:Rel K G F σ H ρ):Sub F (kJ σ ρ xs F H):=λb o e=>by
 have n:¬LentA σ ρ xs b:=λz=>by
  obtain⟨_,_,_,_,_,_,h,_⟩:=z.own R
  rw[h]at e;cases e
 rw[jK n];exact e
theorem YG(R:Rel K G F σ H ρ):Sub (kJ σ ρ xs F H) H:=λb o e=>by
 by_cases z:LentA σ ρ xs b
 ·rw[mY z]at e;exact e
 ·rw[jK z]at e;exact R.sub _ _ e
theorem SY(R:Rel K G F σ H ρ){ys:List IV}{vs:List V}{k:List D->Prop}(m:∀y∈ys,y∈xs)(o:OpdsAt K F σ vs ys)(h:cX ρ ys k):∃ds,DaAll K (kJ σ ρ xs F H) vs ds/\k ds:=by
 induction o generalizing k with
 | nil=>exact ⟨[],.nil,h⟩
 | @cons v x vs ys o t ih =>
  cases x with
  | inr d =>
   obtain⟨ds,a,q⟩:=ih (k:=λds=>k (d :: ds)) (λy hy=>m y (K0 _ hy)) h
   exact ⟨d :: ds,.cons (Da.mono (kK R) o) a,q⟩
  | inl i =>
   unfold cX at h
   split at h
   ·rename_i s e
    obtain⟨ds,a,q⟩:=ih (k:=λds=>k (s.d :: ds)) (λy hy=>m y (K0 _ hy)) h
    refine ⟨s.d :: ds,.cons ?_ a,q⟩
    have o:σ[i]?=some (some v):=o
    have own:OQ s=true->Da K (kJ σ ρ xs F H) v s.d:=λw=>by
     obtain⟨b,u,h1,h2,h3,h4⟩:=R.ow i s e w
     rw[o]at h1;cases h1
     have l:LentA σ ρ xs b:=⟨i,s,m _ O0,e,w,o⟩
     exact (h4.mono (kK R)).da (by rw[mY l];exact h3)
    cases s with
    | fz d =>
     obtain⟨v,e1,e2⟩:=R.fz i d e
     rw[o]at e1;cases e1
     exact e2.mono (kK R)
    | ow d=>exact own rfl
    | io d=>exact own rfl
   ·exact h.elim
theorem rD{o:HO}{d:D}(h:Own1 K F o d):noMut d=false:=by
 cases o with
 | ext φ=>obtain⟨a',ep,xs,ps,z,rfl,t⟩:=h.ext;rfl
 | _=>cases d<;>first|rfl|exact h.elim
theorem uZ{ds:List D}{i:Nat}{s:Sl}(h:((ds.map Sl.fz).map some)[i]?=some (some s)):∃d,ds[i]?=some d/\s=.fz d:=by
 rw[Q0,X0]at h
 cases e:ds[i]? with
 | none=>rw[e]at h;cases h
 | some d=>rw[e]at h;cases h;exact ⟨d,rfl,rfl⟩
theorem lu{vs:List V}{i:Nat}{v:V}(h:vs[i]?=some v):(vs.map some)[i]?=some (some v):=by rw[X0,h];rfl
theorem yU{vs:List V}{ds:List D}(s:Sub F H)(da:DaAll K F vs ds):Rel K ⟨H,F,λ_=>none⟩ F (vs.map some) H ((ds.map Sl.fz).map some) where
 len:=by simp[da.length]
 sub:=s
 sub0:=Sub.refl _
 fn:=λ_ _ e=>.inl e
 keep:=λ_ _ e _=>e
 fz:=λi d e=>by
  obtain⟨d',e1,e2⟩:=uZ e
  cases e2
  obtain⟨v,h1,h2⟩:=da.get e1
  exact ⟨v,lu h1,h2⟩
 ow:=λi s e w=>by obtain⟨d',e1,rfl⟩:=uZ e;cases w
 new:=λi d a e _=>by obtain⟨d',e1,e2⟩:=uZ e;cases e2
 io:=λi a e=>by cases e
 ioi:=λi d e=>by obtain⟨d',e1,e2⟩:=uZ e;cases e2
 ap:=λi j s t a e w _ _ _ _=>by obtain⟨d',e1,rfl⟩:=uZ e;cases w
theorem Rel.called(R:Rel K G F σ H ρ){σ1:St}{ρ1:Ev}(R':Rel K ⟨H,kJ σ ρ xs F H,λ_=>none⟩ F' σ1 H' ρ1):Sub F (PX σ ρ xs F')/\Rel K G (PX σ ρ xs F') σ H' ρ:=by
 have nl:∀{b:Addr}{o:HO},F b=some o->¬LentA σ ρ xs b:=λ{b o} e z=>by
  obtain⟨_,_,_,_,_,_,h,_⟩:=z.own R
  rw[h]at e;cases e
 have sb:Sub F (PX σ ρ xs F'):=λb o e=>by
  rw[WX (nl e)]
  exact R'.sub0 _ _ (kK R _ _ e)
 have ul:∀{b:Addr}{o:HO},PX σ ρ xs F' b=some o->¬LentA σ ρ xs b/\F' b=some o:=λ{b o} e=>by
  by_cases z:LentA σ ρ xs b
  ·rw[qD z]at e;cases e
  ·rw[WX z]at e;exact ⟨z,e⟩
 have kp:∀{b:Addr}{o:HO},H b=some o->H' b=some o:=λ{b o} e=>R'.keep b o e λi z=>by cases z
 refine ⟨sb,R.len,λb o e=>R'.sub _ _ (ul e).2,R.sub0.trans sb,λb o e=>?_,λa o e n=>kp (R.keep a o e n),λi d e=>?_,λi s e w=>?_,R.new,R.io,R.ioi,R.ap⟩
 ·obtain⟨n,e⟩:=ul e
  rcases R'.fn b o e with q|q
  ·have q:kJ σ ρ xs F H b=some o:=q
   rw[jK n]at q
   exact R.fn b o q
  ·exact .inr (R.h0 q)
 ·obtain⟨v,h1,h2⟩:=R.fz i d e
  exact ⟨v,h1,h2.mono sb⟩
 ·obtain⟨a,o,h1,h2,h3,h4⟩:=R.ow i s e w
  refine ⟨a,o,h1,?_,kp h3,h4.mono sb⟩
  cases q:PX σ ρ xs F' a with
  | none=>rfl
  | some u =>
   obtain⟨n,q⟩:=ul q
   rcases R'.fn a u q with z|z
   ·have z:kJ σ ρ xs F H a=some u:=z
    rw[jK n,h2]at z;cases z
   ·have z:H a=none:=z
    rw[h3]at z;cases z
theorem Res.called(R:Rel K G F σ H ρ){σ1:St}{ρ1:Ev}{v:V}{r:Sl}(R':Rel K ⟨H,kJ σ ρ xs F H,λ_=>none⟩ F' σ1 H' ρ1)(q:Res K ⟨H,kJ σ ρ xs F H,λ_=>none⟩ F' H' σ1 ρ1 v r)
  (hl:WQ ρ xs=true->noMut r.d=true):Res K G (PX σ ρ xs F') H' σ ρ v r:=by
 have tp:∀b ys,F' b=some (.tup ys)->PX σ ρ xs F' b=some (.tup ys):=λb ys e=>by
  have n:¬LentA σ ρ xs b:=λz=>by
   obtain⟨_,_,o,_,_,_,_,h,w⟩:=z.own R
   have e2:=R'.sub0 b o (by show kJ σ ρ xs F H b=some o;rw[mY z];exact h)
   rw[e]at e2;cases e2
   exact w
  rw[WX n];exact e
 by_cases l:WQ ρ xs=true
 ·cases r with
  | fz d=>exact Da.noMut tp q (hl l)
  | ow d =>
   obtain⟨a,o,_,_,_,w,_⟩:=q
   have:=hl l
   rw[show (Sl.ow d).d=d from rfl,rD w]at this;cases this
  | io d=>exact q.elim
 ·have e:PX σ ρ xs F'=F':=funext λb=>WX λz=>l (LJ z)
  rw[e]
  cases r with
  | fz d=>exact q
  | io d=>exact q.elim
  | ow d =>
   obtain⟨a,o,h1,h2,h3,h4,h5,_⟩:=q
   refine ⟨a,o,h1,h2,h3,h4,R.h0 h5,λi s es w z=>?_⟩
   obtain⟨a',o',g1,_,g3,_⟩:=R.ow i s es w
   rw[z]at g1;cases g1
   have h5:H a=none:=h5
   rw[h5]at g3;cases g3
theorem nu{con:Con}{as:List AD}{E:XK}{Q:VK}(h:lift K (iz con as) σ H Q):cK (kQ K con) [] E (CQ (as.map (uQ K))) σ H Q:=by
 obtain⟨G,F,ρ,Qd,R,w,k⟩:=h
 refine yX R w λvs H1 F1 xs ρ1 s1 R1 o w1=>?_
 obtain⟨ds,da,w1⟩:=SY (xs:=xs) R1 (λy hy=>hy) o w1
 rw[Q1]
 refine ⟨_,_,ds.map Sl.fz,_,yU (YG R1) da,w1,λv H' F' r ρ' s' R' r' q=>?_⟩
 obtain⟨sb,R2⟩:=R1.called R'
 have hq:(WQ ρ1 xs=true->noMut r.d=true)/\Qd r ρ1:=by
  split at q
  ·rename_i e;exact ⟨λz=>(by rw[e]at z;cases z),q⟩
  ·exact ⟨λ_=>q.1,q.2⟩
 exact k v H' _ r ρ1 (s1.trans sb) R2 (Res.called R1 R' r' hq.1) hq.2
end
section
variable {K:Fg}{G:Gh}{F F' H H':Hp}{σ:St}{ρ:Ev}{xs:List IV}
noncomputable def NI(a:Addr):Nat->Option Addr:=λj=>if j=0 then some a else none
theorem zU{a b:Addr}{j:Nat}(h:NI a j=some b):j=0/\b=a:=by
 unfold NI at h
 split at h
 ·rename_i z;cases h;exact ⟨z,rfl⟩
 ·cases h
theorem tD{vs:List V}{ds:List D}{a:Addr}{o:HO}{d:D}(s:Sub F H)(h1:F a=none)(h2:H a=some o)(h3:Own1 K F o d)(da:DaAll K F vs ds) :
  Rel K ⟨H,F,NI a⟩ F ((V.ref a :: vs).map some) H ((Sl.io d :: ds.map Sl.fz).map some) where
 len:=by simp[da.length]
 sub:=s
 sub0:=Sub.refl _
 fn:=λ_ _ e=>.inl e
 keep:=λ_ _ e _=>e
 fz:=λi d' e=>by
  cases i with
  | zero=>simp at e
  | succ i =>
   have e:((ds.map Sl.fz).map some)[i]?=some (some (Sl.fz d')):=by simpa using e
   obtain⟨d2,e1,e2⟩:=uZ e
   cases e2
   obtain⟨v,g1,g2⟩:=da.get e1
   exact ⟨v,by simpa using g1,g2⟩
 ow:=λi s e w=>by
  cases i with
  | zero=>simp at e;subst e;exact ⟨a,o,by simp,h1,h2,h3⟩
  | succ i =>
   have e:((ds.map Sl.fz).map some)[i]?=some (some s):=by simpa using e
   obtain⟨d2,e1,rfl⟩:=uZ e
   cases w
 new:=λi d' b e _=>by
  cases i with
  | zero=>simp at e
  | succ i =>
   have e:((ds.map Sl.fz).map some)[i]?=some (some (Sl.ow d')):=by simpa using e
   obtain⟨d2,e1,e2⟩:=uZ e
   cases e2
 io:=λi b e=>by
  obtain⟨rfl,rfl⟩:=zU e
  exact ⟨d,by simp,by simp⟩
 ioi:=λi d' e=>by
  cases i with
  | zero=>exact ⟨a,rfl⟩
  | succ i =>
   have e:((ds.map Sl.fz).map some)[i]?=some (some (Sl.io d')):=by simpa using e
   obtain⟨d2,e1,e2⟩:=uZ e
   cases e2
 ap:=λi j s t b e1 w1 e2 w2 _ _=>by
  have f:∀{i:Nat}{s:Sl},((Sl.io d :: ds.map Sl.fz).map some)[i]?=some (some s)->OQ s=true->i=0:=λ{i s} e w=>by
   cases i with
   | zero=>rfl
   | succ i =>
    have e:((ds.map Sl.fz).map some)[i]?=some (some s):=by simpa using e
    obtain⟨d2,e1,rfl⟩:=uZ e
    cases w
  rw[f e1 w1,f e2 w2]
theorem Rel.calledI(R:Rel K G F σ H ρ){i:Nat}{s:Sl}{a:Addr}{d':D}{σ1:St}{ρ1:Ev}(e:ρ[i]?=some (some s))(w:OQ s=true)(ea:σ[i]?=some (some (V.ref a)))
  (R':Rel K ⟨H,F,NI a⟩ F' (some (V.ref a) :: σ1) H' (some (Sl.io d') :: ρ1)):Rel K G F' σ H' (ρ.set i (some (s.put d'))):=by
 obtain⟨a0,o0,g1,g2,g3,g4⟩:=R.ow i s e w
 rw[ea]at g1;cases g1
 have sb:Sub F F':=R'.sub0
 have hl:=IX e
 have kp:∀{b:Addr}{o:HO},b≠a->H b=some o->H' b=some o:=λ{b o} n q=>R'.keep b o q λj z=>n (zU z).2
 have ow':∀{j:Nat}{t:Sl},j≠i->ρ[j]?=some (some t)->OQ t=true->∃b o,σ[j]?=some (some (V.ref b))/\F' b=none/\H' b=some o/\Own1 K F' o t.d:=λ{j t} n q wt=>by
  obtain⟨b,o,q1,q2,q3,q4⟩:=R.ow j t q wt
  have nb:b≠a:=λz=>n (R.ap j i t s a q wt e w (by rw[q1,z]) ea)
  refine ⟨b,o,q1,?_,kp nb q3,q4.mono sb⟩
  cases z:F' b with
  | none=>rfl
  | some u =>
   rcases R'.fn b u z with y|y
   ·have y:F b=some u:=y
    rw[q2]at y;cases y
   ·have y:H b=none:=y
    rw[q3]at y;cases y
 refine ⟨by rw[A5];exact R.len,R'.sub,R.sub0.trans sb,λb o q=>?_,λb o q n=>?_,λj d q=>?_,λj t q wt=>?_,λj d b q eb=>?_,λj b q=>?_,λj d q=>?_,λj k t u b e1 w1 e2 w2 e3 e4=>?_⟩
 ·rcases R'.fn b o q with y|y
  ·exact R.fn b o y
  ·exact .inr (R.h0 y)
 ·refine kp (λz=>?_) (R.keep b o q n)
  subst z
  cases s with
  | fz d=>cases w
  | ow d=>rw[R.new i d b e ea]at q;cases q
  | io d =>
   obtain⟨a',y⟩:=R.ioi i d e
   obtain⟨_,_,y2⟩:=R.io i a' y
   rw[ea]at y2;cases y2
   exact n i y
 ·rcases nQ q with⟨rfl,z⟩|⟨n,z⟩
  ·cases s<;>simp[Sl.put,OQ]at z w
  ·obtain⟨v,y1,y2⟩:=R.fz j d z
   exact ⟨v,y1,y2.mono sb⟩
 ·rcases nQ q with⟨rfl,z⟩|⟨n,z⟩
  ·cases z
   obtain⟨b,o,y1,y2,y3,y4⟩:=R'.ow 0 (.io d') (by simp) rfl
   simp at y1;subst y1
   exact ⟨a,o,ea,y2,y3,by cases s<;>first|exact y4|cases w⟩
  ·exact ow' n z wt
 ·rcases nQ q with⟨rfl,z⟩|⟨n,z⟩
  ·cases s with
   | fz d=>cases w
   | ow d0=>exact R.new j d0 b e eb
   | io d0=>cases z
  ·exact R.new j d b z eb
 ·obtain⟨d,y1,y2⟩:=R.io j b q
  by_cases z:j=i
  ·subst z
   rw[e]at y1;cases y1
   exact ⟨d',by rw[KZ hl];rfl,y2⟩
  ·exact ⟨d,by rw[B1 (Z2 z)];exact y1,y2⟩
 ·rcases nQ q with⟨rfl,z⟩|⟨n,z⟩
  ·cases s with
   | fz d=>cases w
   | ow d0=>cases z
   | io d0=>exact R.ioi j d0 e
  ·exact R.ioi j d z
 ·have f:∀(j:Nat) (t:Sl),(ρ.set i (some (s.put d')))[j]?=some (some t)->OQ t=true->∃t',ρ[j]?=some (some t')/\OQ t'=true:=λj t q wt=>by
   rcases nQ q with⟨rfl,z⟩|⟨n,z⟩
   ·exact ⟨s,e,w⟩
   ·exact ⟨t,z,wt⟩
  obtain⟨t',e1',w1'⟩:=f j t e1 w1
  obtain⟨u',e2',w2'⟩:=f k u e2 w2
  exact R.ap j k t' u' b e1' w1' e2' w2' e3 e4
theorem RQ(R:Rel K G F σ H ρ){ys:List IV}{vs:List V}{k:List D->Prop}(m:WQ ρ ys=false)(o:OpdsAt K F σ vs ys)(h:cX ρ ys k):∃ds,DaAll K F vs ds/\k ds:=by
 induction o generalizing k with
 | nil=>exact ⟨[],.nil,h⟩
 | @cons v x vs ys o t ih =>
  cases x with
  | inr d =>
   obtain⟨ds,a,q⟩:=ih (k:=λds=>k (d :: ds)) m h
   exact ⟨d :: ds,.cons o a,q⟩
  | inl i =>
   unfold cX at h
   unfold WQ at m
   simp only[Bool.or_eq_false_iff]at m
   split at h
   ·rename_i s e
    obtain⟨ds,a,q⟩:=ih (k:=λds=>k (s.d :: ds)) m.2 h
    refine ⟨s.d :: ds,.cons ?_ a,q⟩
    have m1:=m.1
    rw[e]at m1
    cases s with
    | fz d =>
     obtain⟨v',e1,e2⟩:=R.fz i d e
     have o:σ[i]?=some (some v):=o
     rw[o]at e1;cases e1
     exact e2
    | ow d=>cases m1
    | io d=>cases m1
   ·exact h.elim
theorem Xx{con:Con}{i:Nat}{as:List AD}{E:XK}{Q:VK}(h:lift K (JV con i as) σ H Q):cK (kQ K con) [] E (CQ ((.inl i :: as).map (uQ K))) σ H Q:=by
 obtain⟨G,F,ρ,Qd,R,w,k⟩:=h
 unfold JV JX at w
 split at w
 ·rename_i s0 e0
  obtain⟨v,ev⟩:=R.bound e0
  refine ⟨v,ev,yX R w λvs H1 F1 xs ρ1 s1 R1 o w1=>?_⟩
  show kQ K con (v :: vs++[]) H1 Q E
  rw[Q1]
  have w1:jz con i xs ρ1 Qd:=w1
  unfold jz at w1
  split at w1
  ·rename_i s e
   split at w1
   ·rename_i p1 p2
    obtain⟨a,o',g1,g2,g3,g4⟩:=R1.ow i s e p1
    rw[ev]at g1;cases g1
    obtain⟨ds,da,w1⟩:=RQ R1 p2 o w1
    refine ⟨_,F1,.io s.d :: ds.map Sl.fz,_,tD R1.sub g2 g3 g4 da,w1,λv H' F' r ρ' s' R' r' q=>?_⟩
    split at q
    ·rename_i d' ρ2
     have R2:=R1.calledI e p1 ev R'
     refine k v H' F' r _ (s1.trans s') R2 ?_ q
     cases r with
     | fz d=>exact r'
     | io d=>exact r'.elim
     | ow d =>
      obtain⟨b,u,h1,h2,h3,h4,h5,_⟩:=r'
      have h5:H1 b=none:=h5
      refine ⟨b,u,h1,h2,h3,h4,R1.h0 h5,λj t es w z=>?_⟩
      have own:∃t',ρ1[j]?=some (some t')/\OQ t'=true:=by
       rcases nQ es with⟨rfl,y⟩|⟨n,y⟩
       ·exact ⟨s,e,p1⟩
       ·exact ⟨t,y,w⟩
      obtain⟨t',y1,y2⟩:=own
      obtain⟨a',o',q1,_,q3,_⟩:=R1.ow j t' y1 y2
      rw[z]at q1;cases q1
      rw[h5]at q3;cases q3
    ·exact q.elim
   ·exact w1.elim
  ·exact w1.elim
 ·exact w.elim
noncomputable def TY(n:Nat)(args:List Sl):Ev:=args.map some++E2 (n - args.length) none
noncomputable def outs:List Sl->Ev->Ev
 | [],_=>[]
 | .io _ :: as,ρ=>(ρ.headD none) :: outs as ρ.tail
 | .fz d :: as,ρ=>some (.fz d) :: outs as ρ.tail
 | .ow d :: as,ρ=>some (.ow d) :: outs as ρ.tail
theorem QX{α:Type}{l:List (Option α)}{n i:Nat}{x:α}(h:(l++E2 n none)[i]?=some (some x)):l[i]?=some (some x):=by
 by_cases z:i < l.length
 ·rw[B3 z]at h;exact h
 ·rw[Y1 (L8 z),O8]at h
  split at h<;>cases h
theorem lK{α:Type}{l m:List α}{i:Nat}{x:α}(h:l[i]?=some x):(l++m)[i]?=some x:=by rw[B3 (IX h)];exact h
theorem Rel.start{vs:List V}{args:List Sl}{N:List Str}(R:Rel K G F (vs.map some) H (args.map some)):Rel K G F (L2.start N vs) H (TY N.length args) where
 len:=by have:=R.len;simp[L2.start,TY]at this ⊢;omega
 sub:=R.sub
 sub0:=R.sub0
 fn:=R.fn
 keep:=R.keep
 fz:=λi d e=>by
  obtain⟨v,h1,h2⟩:=R.fz i d (QX e)
  exact ⟨v,lK h1,h2⟩
 ow:=λi s e w=>by
  obtain⟨a,o,h1,h2⟩:=R.ow i s (QX e) w
  exact ⟨a,o,lK h1,h2⟩
 new:=λi d a e ea=>R.new i d a (QX e) (QX ea)
 io:=λi a e=>by
  obtain⟨d,h1,h2⟩:=R.io i a e
  exact ⟨d,lK h1,lK h2⟩
 ioi:=λi d e=>R.ioi i d (QX e)
 ap:=λi j s t a e1 w1 e2 w2 e3 e4=>R.ap i j s t a (QX e1) w1 (QX e2) w2 (QX e3) (QX e4)
theorem AZ:∀{args:List Sl}{ρ:Ev}{i:Nat}{s:Sl},(outs args ρ)[i]?=some (some s)->(∃d,args[i]?=some (.io d)/\ρ[i]?=some (some s))\/(args[i]?=some s/\∀d,s≠.io d)
 | [],ρ,i,s,h=>by simp[outs]at h
 | .io d :: as,ρ,0,s,h=>by
  simp[outs]at h
  cases ρ with
  | nil=>simp at h
  | cons x ρ=>simp at h;exact .inl ⟨d,by simp,by simp[h]⟩
 | .fz d :: as,ρ,0,s,h=>by simp[outs]at h;subst h;exact .inr ⟨by simp,λd z=>by cases z⟩
 | .ow d :: as,ρ,0,s,h=>by simp[outs]at h;subst h;exact .inr ⟨by simp,λd z=>by cases z⟩
 | .io d :: as,ρ,i+1,s,h=>by
  simp only[outs,V3]at h
  rcases AZ h with⟨d,h1,h2⟩|⟨h1,h2⟩
  ·exact .inl ⟨d,by simpa using h1,by cases ρ with|nil=>simp at h2|cons x ρ=>simpa using h2⟩
  ·exact .inr ⟨by simpa using h1,h2⟩
 | .fz d :: as,ρ,i+1,s,h=>by
  simp only[outs,V3]at h
  rcases AZ h with⟨d,h1,h2⟩|⟨h1,h2⟩
  ·exact .inl ⟨d,by simpa using h1,by cases ρ with|nil=>simp at h2|cons x ρ=>simpa using h2⟩
  ·exact .inr ⟨by simpa using h1,h2⟩
 | .ow d :: as,ρ,i+1,s,h=>by
  simp only[outs,V3]at h
  rcases AZ h with⟨d,h1,h2⟩|⟨h1,h2⟩
  ·exact .inl ⟨d,by simpa using h1,by cases ρ with|nil=>simp at h2|cons x ρ=>simpa using h2⟩
  ·exact .inr ⟨by simpa using h1,h2⟩
theorem aF:∀{args:List Sl}{ρ:Ev}{i:Nat}{d:D}{x:Option Sl},args[i]?=some (.io d)->ρ[i]?=some x->(outs args ρ)[i]?=some x
 | [],_,_,_,_,h,_=>by simp at h
 | _ :: _,[],_,_,_,_,h=>by simp at h
 | s :: as,y :: ρ,0,d,x,h,h'=>by simp at h h';subst h h';simp[outs]
 | s :: as,y :: ρ,i+1,d,x,h,h'=>by
  have:=aF (args:=as) (ρ:=ρ) (i:=i) (by simpa using h) (by simpa using h')
  cases s<;>simpa [outs]using this
theorem AU:∀(args:List Sl) (ρ:Ev),(outs args ρ).length=args.length
 | [],_=>rfl
 | s :: as,ρ=>by cases s<;>simp[outs,AU as]
theorem kz{args:List Sl}{i:Nat}{s:Sl}(h:(args.map some)[i]?=some (some s)):args[i]?=some s:=by
 rw[X0]at h
 cases e:args[i]? with
 | none=>rw[e]at h;cases h
 | some x=>rw[e]at h;cases h;rfl
theorem mK{args:List Sl}{i:Nat}{s:Sl}(h:args[i]?=some s):(args.map some)[i]?=some (some s):=by rw[X0,h];rfl
theorem Rel.ret{vs:List V}{args:List Sl}{σ':St}{ρ':Ev}(hn:∀s∈args,∀d,s≠.ow d)(R:Rel K G F (vs.map some) H (args.map some))(sb:Sub F F')(R':Rel K G F' σ' H' ρ'):Rel K G F' (vs.map some) H' (outs args ρ'):=by
 have own:∀{i:Nat}{s:Sl},(outs args ρ')[i]?=some (some s)->OQ s=true->∃d a,args[i]?=some (.io d)/\ρ'[i]?=some (some s)/\G.io i=some a/\(vs.map some)[i]?=some (some (V.ref a))/\σ'[i]?=some (some (V.ref a)):=λ{i s} e w=>by
  rcases AZ e with⟨d,h1,h2⟩|⟨h1,h2⟩
  ·obtain⟨a,h3⟩:=R.ioi i d (mK h1)
   obtain⟨_,_,h4⟩:=R.io i a h3
   obtain⟨_,_,h5⟩:=R'.io i a h3
   exact ⟨d,a,h1,h2,h3,h4,h5⟩
  ·cases s with
   | fz d=>cases w
   | ow d=>exact (hn _ (W2 h1) d rfl).elim
   | io d=>exact (h2 d rfl).elim
 refine ⟨by rw[AU];simpa using R.len,R'.sub,R'.sub0,R'.fn,R'.keep,λi d e=>?_,λi s e w=>?_,λi d a e ea=>?_,λi a e=>?_,λi d e=>?_,λi j s t a e1 w1 e2 w2 e3 e4=>?_⟩
 ·rcases AZ e with⟨d',h1,h2⟩|⟨h1,h2⟩
  ·obtain⟨a,h3⟩:=R.ioi i d' (mK h1)
   obtain⟨d2,h4,_⟩:=R'.io i a h3
   rw[h2]at h4;cases h4
  ·obtain⟨v,h3,h4⟩:=R.fz i d (mK h1)
   exact ⟨v,h3,h4.mono sb⟩
 ·obtain⟨d,a,h1,h2,h3,h4,h5⟩:=own e w
  obtain⟨b,o,g1,g2⟩:=R'.ow i s h2 w
  rw[h5]at g1;cases g1
  exact ⟨a,o,h4,g2⟩
 ·obtain⟨d',b,h1,h2,h3,h4,h5⟩:=own e rfl
  rw[h4]at ea;cases ea
  exact R'.new i d _ h2 h5
 ·obtain⟨d,h1,h2⟩:=R.io i a e
  obtain⟨d',h3,h4⟩:=R'.io i a e
  exact ⟨d',aF (kz h1) h3,h2⟩
 ·obtain⟨d',a,h1,h2,h3,h4,h5⟩:=own e rfl
  exact ⟨a,h3⟩
 ·obtain⟨_,a1,_,h2,_,h4,h5⟩:=own e1 w1
  obtain⟨_,a2,_,g2,_,g4,g5⟩:=own e2 w2
  rw[h4]at e3;cases e3
  rw[g4]at e4;cases e4
  exact R'.ap i j s t a h2 w1 g2 w2 h5 g5
theorem Res.ret{vs:List V}{args:List Sl}{σ':St}{ρ':Ev}{v:V}{r:Sl}(hn:∀s∈args,∀d,s≠.ow d)(R:Rel K G F (vs.map some) H (args.map some))(R':Rel K G F' σ' H' ρ')(q:Res K G F' H' σ' ρ' v r):Res K G F' H' (vs.map some) (outs args ρ') v r:=by
 cases r with
 | fz d=>exact q
 | io d=>exact q.elim
 | ow d =>
  obtain⟨a,o,h1,h2,h3,h4,h5,h6⟩:=q
  refine ⟨a,o,h1,h2,h3,h4,h5,λi s e w z=>?_⟩
  rcases AZ e with⟨d',g1,g2⟩|⟨g1,g2⟩
  ·obtain⟨b,g3⟩:=R.ioi i d' (mK g1)
   obtain⟨_,_,g4⟩:=R.io i b g3
   obtain⟨_,_,g5⟩:=R'.io i b g3
   rw[g4]at z;cases z
   exact h6 i s g2 w g5
  ·cases s with
   | fz d=>cases w
   | ow d=>exact (hn _ (W2 g1) d rfl).elim
   | io d=>exact (g2 d rfl).elim
noncomputable def EH(args:List Sl)(Qd:Sl->Ev->Prop):DE:={ nx:=λρ=>Qd (.fz .none) (outs args ρ),rt:=λr ρ=>Qd r (outs args ρ),bk:=λ_=>False,ct:=λ_=>False }
theorem SC{N:List Str}{con:Con}{ts:DJ}{vs:List V}{Q:VK}{E:XK}(hc:∀args Qd,con args Qd->(∀s∈args,∀d,s≠.ow d)/\ts (EH args Qd) (TY N.length args))(h:kQ K con vs H Q E):oQ K ts { nx:=λ_ H'=>Q .non H',rt:=Q } (L2.start N vs) H:=by
 obtain⟨G,F,args,Qd,R,w,k⟩:=h
 obtain⟨hn,w⟩:=hc args Qd w
 refine ⟨G,F,_,_,R.start,w,λσ' H' F' ρ' s R' q=>?_,λv σ' H' F' r ρ' s R' r' q=>?_,λ_ _ _ _ _ _ q=>q.elim,λ_ _ _ _ _ _ q=>q.elim⟩
 ·exact k .non H' F' (.fz .none) _ s (R.ret hn s R') Da.non q
 ·exact k v H' F' r _ s (R.ret hn s R') (r'.ret hn R R') q
end
section
variable {K:Fg}{F H:Hp}{v:V}
theorem At.int{i:Int}(h:At K F H v (.int i)):v=.int i:=by
 rcases h with h|⟨a,o,rfl,_,_,h⟩
 ·cases h;rfl
 ·cases o<;>exact h.elim
theorem At.str{x:Str}(h:At K F H v (.str x)):v=.str x:=by
 rcases h with h|⟨a,o,rfl,_,_,h⟩
 ·cases h;rfl
 ·cases o<;>exact h.elim
theorem At.list{ds:List D}(s:Sub F H)(h:At K F H v (.list ds)):∃a xs,v=.ref a/\H a=some (.lst xs)/\DaAll K F xs ds:=by
 rcases h with h|⟨a,o,rfl,_,e,h⟩
 ·cases h with
  | lst e t=>exact ⟨_,_,rfl,s _ _ e,t⟩
 ·cases o<;>first|exact h.elim|exact ⟨_,_,rfl,e,h⟩
theorem At.tuple{ds:List D}(s:Sub F H)(h:At K F H v (.tuple ds)):∃a xs,v=.ref a/\F a=some (.tup xs)/\H a=some (.tup xs)/\DaAll K F xs ds:=by
 rcases h with h|⟨a,o,rfl,_,e,h⟩
 ·cases h with
  | tup e t=>exact ⟨_,_,rfl,e,s _ _ e,t⟩
 ·cases o<;>exact h.elim
theorem bF(k:XJ):Uq k≠.none:=by cases k<;>(intro z;cases z)
theorem Da.scr_inv{ns:List Int}:∀{d:D},Da K F v d->d=OX ns->∃a,v=.ref a/\SqL K F a (ns.map V.int)
 | _,.non,e=>by cases e
 | _,.bl _,e=>by cases e
 | _,.int _,e=>by cases e
 | _,.str _,e=>by cases e
 | _,.lst _ _,e=>by cases e
 | _,.tup _ _,e=>by cases e
 | _,.dk _ t,e=>by
  cases t with
  | nil=>injection e with e;cases e
  | cons _ _ =>
   injection e with e
   injection e with e _
   injection e with e _
   exact (bF _ e).elim
 | _,.dt _ t,e=>by
  cases t with
  | nil=>injection e with e;cases e
  | cons _ _ =>
   injection e with e
   injection e with e _
   injection e with e _
   cases e
 | _,.scr (ns:=ns') q,e=>by
  injection e with e
  injection e with e _
  injection e with _ e
  injection e with e2
  have:∀(l m:List Int),l.map u0=m.map u0->l=m:=by
   intro l
   induction l with
   | nil=>intro m e;cases m with|nil=>rfl|cons=>simp at e
   | cons a l ih=>intro m e;cases m with|nil=>simp at e|cons b m=>simp at e;rw[e.1,ih m e.2]
  rw[<- this _ _ e2]
  exact ⟨_,rfl,q⟩
theorem At.scr{ns:List Int}(s:Sub F H)(h:At K F H v (OX ns)):∃a,v=.ref a/\SqL K H a (ns.map V.int):=by
 rcases h with h|⟨a,o,rfl,_,e,h⟩
 ·obtain⟨a,h1,h2⟩:=h.scr_inv rfl
  exact ⟨a,h1,s.sql h2⟩
 ·exfalso
  cases o<;>first|exact h.elim|skip
  ·rename_i kvs
   have h:DaKV K F kvs [(.none,.list (ns.map u0))]:=h
   generalize q:[(PyData.none,E1 (ns.map u0))]=es at h
   cases h with
   | nil=>cases q
   | cons _ _ =>
    injection q with q _
    injection q with q _
    exact bF _ q.symm
  ·rename_i kvs
   have h:DaKT K F kvs [(.none,.list (ns.map u0))]:=h
   cases h
theorem AtAll.one{vs:List V}{d:D}(h:AtAll K F H vs [d]):∃v,vs=[v]/\At K F H v d:=by
 cases h with|cons a t=>cases t;exact ⟨_,rfl,a⟩
theorem AtAll.two{vs:List V}{d e:D}(h:AtAll K F H vs [d,e]):∃v u,vs=[v,u]/\At K F H v d/\At K F H u e:=by
 cases h with|cons a t=>cases t with|cons b t=>cases t;exact ⟨_,_,rfl,a,b⟩
end
noncomputable def UY(r:R2):List V->Hp->VK->Prop:=λvs H Q=>∃x y,vs=[x,y]/\r x y H Q
noncomputable def DM(r:V->Hp->VK->Prop):List V->Hp->VK->Prop:=λvs H Q=>∃x,vs=[x]/\r x H Q
theorem Uw{K:Fg}{r:R2}{f:D->D->(Sl->Prop)->Prop}(h:∀(G:Gh) (F:Hp) (σ:St) (H:Hp) (ρ:Ev) (x y:V) (d e:D) (Q:VK) (Qd:Sl->Prop),Rel K G F σ H ρ->At K F H x d->At K F H y e->f d e Qd ->
    (∀v H' F' s,Sub F F'->Rel K G F' σ H' ρ->Res K G F' H' σ ρ v s->Qd s->Q v H')->r x y H Q):eX K (UY r) (o2 f):=by
 intro G F σ H ρ vs ds Q Qd R a w k
 match ds,a,w with
 | [d,e],a,w =>
  obtain⟨v,u,rfl,h1,h2⟩:=a.two
  exact ⟨v,u,rfl,h G F σ H ρ v u d e Q Qd R h1 h2 w k⟩
theorem bx{K:Fg}{r:List V->Hp->VK->Prop}{f:D->(Sl->Prop)->Prop}(h:∀(G:Gh) (F:Hp) (σ:St) (H:Hp) (ρ:Ev) (x:V) (d:D) (Q:VK) (Qd:Sl->Prop),Rel K G F σ H ρ->At K F H x d->f d Qd ->
    (∀v H' F' s,Sub F F'->Rel K G F' σ H' ρ->Res K G F' H' σ ρ v s->Qd s->Q v H')->r [x] H Q):eX K r (o1 f):=by
 intro G F σ H ρ vs ds Q Qd R a w k
 match ds,a,w with
 | [d],a,w =>
  obtain⟨v,rfl,h1⟩:=a.one
  exact h G F σ H ρ v d Q Qd R h1 w k
noncomputable def fI(C:Int->Int->Prop)(g:Int->Int->D):D->D->(Sl->Prop)->Prop
 | .int i,.int j,Q=>C i j/\Q (.fz (g i j))
 | _,_,_=>False
noncomputable def TB(g:Int->Int->D):D->D->(Sl->Prop)->Prop
 | .int i,.int j,Q=>Q (.fz (g i j))
 | _,_,_=>False
theorem Yx{K:Fg}{C:Int->Int->Prop}{g:Int->Int->V}{g':Int->Int->D}(hg:∀F i j,Da K F (g i j) (g' i j)):eX K (UY (rI C g)) (o2 (fI C g')):=Uw λG F σ H ρ x y d e Q Qd R h1 h2 w k=>by
 cases d<;>first|exact w.elim|skip
 cases e<;>first|exact w.elim|skip
 case int.int i j =>
  cases h1.int
  cases h2.int
  exact ⟨i,j,rfl,rfl,w.1,k _ H F (.fz _) (Sub.refl _) R (hg F i j) w.2⟩
theorem BU{K:Fg}{g:Int->Int->V}{g':Int->Int->D}(hg:∀F i j,Da K F (g i j) (g' i j)):eX K (UY (oH g)) (o2 (TB g')):=Uw λG F σ H ρ x y d e Q Qd R h1 h2 w k=>by
 cases d<;>first|exact w.elim|skip
 cases e<;>first|exact w.elim|skip
 case int.int i j =>
  cases h1.int
  cases h2.int
  exact ⟨i,j,rfl,rfl,k _ H F (.fz _) (Sub.refl _) R (hg F i j) w⟩
noncomputable def nK(r r':R2):R2:=λx y H Q=>r x y H Q\/r' x y H Q
noncomputable def lz:R2:=λx y H Q=>∃(a b:Addr) (xs ys:List V),x=.ref a/\y=.ref b/\H a=some (.tup xs)/\H b=some (.tup ys)/\xs.length+ys.length<=sizeLine /\
 (xs=[]->Q (.ref b) H)/\(xs≠[]->ys=[]->Q (.ref a) H)/\(xs≠[]->ys≠[]->∀p,H p=none->Q (.ref p) (NQ H p (.tup (xs++ys))))
noncomputable def FL:D->D->(Sl->Prop)->Prop
 | .int i,.int j,Q=>Q (.fz (.int (i+j)))
 | .tuple xs,.tuple ys,Q=>xs.length+ys.length<=sizeLine/\Q (.fz (.tuple (xs++ys)))
 | .list xs,.list ys,Q=>xs.length+ys.length<=sizeLine/\Q (.ow (.list (xs++ys)))
 | _,_,_=>False
theorem DaAll.nil_of{K:Fg}{F:Hp}{ds:List D}(h:DaAll K F [] ds):ds=[]:=by cases h;rfl
theorem YQ{K:Fg}:eX K (UY (nK (oH λi j=>.int (i+j)) (nK lz Ky))) (o2 FL):=Uw λG F σ H ρ x y d e Q Qd R h1 h2 w k=>by
 cases d<;>first|exact w.elim|(cases e<;>first|exact w.elim|skip)
 case int.int i j =>
  cases h1.int
  cases h2.int
  exact .inl ⟨i,j,rfl,rfl,k _ H F (.fz _) (Sub.refl _) R (Da.int _) w⟩
 case tuple.tuple xs ys =>
  obtain⟨a,us,rfl,f1,e1,d1⟩:=h1.tuple R.sub
  obtain⟨b,ws,rfl,f2,e2,d2⟩:=h2.tuple R.sub
  refine .inr (.inl ⟨a,b,us,ws,rfl,rfl,e1,e2,by rw[d1.length,d2.length];exact w.1,λz=>?_,λ_ z=>?_,λ_ _ p hp=>?_⟩)
  ·subst z
   have:=d1.nil_of
   subst this
   exact k _ H F (.fz _) (Sub.refl _) R (Da.tup f2 d2) w.2
  ·subst z
   have:=d2.nil_of
   subst this
   refine k _ H F (.fz _) (Sub.refl _) R (Da.tup f1 d1) ?_
   have:=w.2
   rw[Q1]at this
   exact this
  ·obtain⟨sb,R',dd⟩:=R.newTup hp (d1.append d2)
   exact k _ _ _ (.fz _) sb R' dd w.2
 case list.list xs ys =>
  obtain⟨a,us,rfl,e1,d1⟩:=h1.list R.sub
  obtain⟨b,ws,rfl,e2,d2⟩:=h2.list R.sub
  refine .inr (.inr ⟨a,b,us,ws,rfl,rfl,e1,e2,by rw[d1.length,d2.length];exact w.1,λp hp=>?_⟩)
  obtain⟨R',r'⟩:=R.newOw (o:=.lst (us++ws)) (d:=.list (xs++ys)) hp (d1.append d2)
  exact k _ _ F _ (Sub.refl _) R' r' w.2
noncomputable def GL:D->D->(Sl->Prop)->Prop
 | .int i,.int j,Q=>CMul i j/\Q (.fz (.int (i * j)))
 | .list xs,.int k,Q=>-(2 ^ 63)<=k/\k < 2 ^ 63/\xs.length * k.toNat<=sizeLine/\Q (.ow (.list (E2 k.toNat xs).flatten))
 | _,_,_=>False
theorem LZ{K:Fg}:eX K (UY (nK (rI CMul λi j=>.int (i * j)) My)) (o2 GL):=Uw λG F σ H ρ x y d e Q Qd R h1 h2 w k=>by
 cases d<;>first|exact w.elim|(cases e<;>first|exact w.elim|skip)
 case int.int i j =>
  cases h1.int
  cases h2.int
  exact .inl ⟨i,j,rfl,rfl,w.1,k _ H F (.fz _) (Sub.refl _) R (Da.int _) w.2⟩
 case list.int xs j =>
  cases h2.int
  obtain⟨a,us,rfl,e1,d1⟩:=h1.list R.sub
  refine .inr ⟨a,j,us,rfl,rfl,e1,w.1,w.2.1,by rw[d1.length];exact w.2.2.1,λp hp=>?_⟩
  obtain⟨R',r'⟩:=R.newOw (o:=.lst (E2 j.toNat us).flatten) (d:=.list (E2 j.toNat xs).flatten) hp (d1.rep _)
  exact k _ _ F _ (Sub.refl _) R' r' w.2.2.2
noncomputable def HL:D->(Sl->Prop)->Prop
 | .list ds,Q=>Q (.fz (.int ds.length))
 | .tuple ds,Q=>Q (.fz (.int ds.length))
 | .dict [(.none,.list ds)],Q=>∃ns:List Int,ds=ns.map u0/\Q (.fz (.int ns.length))
 | _,_=>False
theorem lJ{K:Fg}:eX K (CC K) (o1 HL):=bx λG F σ H ρ x d Q Qd R h1 w k=>by
 cases d<;>first|exact w.elim|skip
 case list ds =>
  obtain⟨a,us,rfl,e1,d1⟩:=h1.list R.sub
  exact ⟨a,us,rfl,.inl (SqL.of e1),k _ H F (.fz _) (Sub.refl _) R (Da.int _) (by rw[d1.length];exact w)⟩
 case tuple ds =>
  obtain⟨a,us,rfl,_,e1,d1⟩:=h1.tuple R.sub
  exact ⟨a,us,rfl,.inr (SqT.of e1),k _ H F (.fz _) (Sub.refl _) R (Da.int _) (by rw[d1.length];exact w)⟩
 case dict es =>
  rcases es with _|⟨⟨c1,c2⟩,_|⟨c3,c4⟩⟩
  ·exact w.elim
  ·cases c1<;>first|exact w.elim|skip
   cases c2<;>first|exact w.elim|skip
   obtain⟨ns,rfl,w⟩:=w
   obtain⟨a,rfl,q⟩:=h1.scr R.sub
   exact ⟨a,_,rfl,.inl q,k _ H F (.fz _) (Sub.refl _) R (Da.int _) (by rw[A0];exact w)⟩
  ·cases c1<;>first|exact w.elim|(cases c2<;>exact w.elim)
noncomputable def EM:D->D->(Sl->Prop)->Prop
 | .list ds,.int i,Q=>∃d,GW ds i=some d/\Q (.fz d)
 | .tuple ds,.int i,Q=>∃d,GW ds i=some d/\Q (.fz d)
 | .dict [(.none,.list ds)],.int i,Q=>∃(ns:List Int) (n:Int),ds=ns.map u0/\GW ns i=some n/\Q (.fz (.int n))
 | _,_,_=>False
theorem DaAll.at{K:Fg}{F:Hp}{xs:List V}{ds:List D}{i:Int}{d:D}(h:DaAll K F xs ds)(e:GW ds i=some d):∃v,GW xs i=some v/\Da K F v d:=by
 unfold GW at e ⊢
 rw[h.length]
 cases q:Zj ds.length i with
 | none=>rw[q]at e;cases e
 | some j=>rw[q]at e;exact h.get e
theorem Zx{α β:Type}(f:α->β){l:List α}{i:Int}{x:α}(h:GW l i=some x):GW (l.map f) i=some (f x):=by
 unfold GW at h ⊢
 rw[A0]
 cases q:Zj l.length i with
 | none=>rw[q]at h;cases h
 | some j=>rw[q]at h;simp at h ⊢;exact ⟨x,h,rfl⟩
theorem TC{K:Fg}:eX K (UY (nK (Ax K) (Dx K))) (o2 EM):=Uw λG F σ H ρ x y d e Q Qd R h1 h2 w k=>by
 cases d<;>first|exact w.elim|skip
 case list ds =>
  cases e<;>first|exact w.elim|skip
  rename_i i
  obtain⟨d,w1,w2⟩:=w
  cases h2.int
  obtain⟨a,us,rfl,e1,d1⟩:=h1.list R.sub
  obtain⟨v,g1,g2⟩:=d1.at w1
  exact .inl ⟨a,us,i,v,rfl,rfl,SqL.of e1,g1,k _ H F (.fz _) (Sub.refl _) R g2 w2⟩
 case tuple ds =>
  cases e<;>first|exact w.elim|skip
  rename_i i
  obtain⟨d,w1,w2⟩:=w
  cases h2.int
  obtain⟨a,us,rfl,_,e1,d1⟩:=h1.tuple R.sub
  obtain⟨v,g1,g2⟩:=d1.at w1
  exact .inr ⟨a,us,i,v,rfl,rfl,SqT.of e1,g1,k _ H F (.fz _) (Sub.refl _) R g2 w2⟩
 case dict es =>
  rcases es with _|⟨⟨c1,c2⟩,_|⟨c3,c4⟩⟩
  ·exact w.elim
  ·cases c1<;>first|exact w.elim|skip
   cases c2<;>first|exact w.elim|skip
   cases e<;>first|exact w.elim|skip
   rename_i i
   obtain⟨ns,n,e,w1,w2⟩:=w
   subst e
   cases h2.int
   obtain⟨a,rfl,q⟩:=h1.scr R.sub
   exact .inl ⟨a,_,i,_,rfl,rfl,q,Zx V.int w1,k _ H F (.fz _) (Sub.refl _) R (Da.int _) w2⟩
  ·cases c1<;>first|exact w.elim|(cases c2<;>exact w.elim)
noncomputable def FM:D->(Sl->Prop)->Prop
 | .list ds,Q=>Q (.ow (.list ds))
 | .tuple ds,Q=>Q (.ow (.list ds))
 | _,_=>False
noncomputable def ou:D->(Sl->Prop)->Prop
 | .list ds,Q=>Q (.fz (.tuple ds))
 | .tuple ds,Q=>Q (.fz (.tuple ds))
 | _,_=>False
theorem bX{K:Fg}:eX K (uU K) (o1 ou):=bx λG F σ H ρ x d Q Qd R h1 w k=>by
 match d,h1,w with
 | .list ds,h1,w =>
  obtain⟨a,us,rfl,e1,d1⟩:=h1.list R.sub
  refine ⟨a,us,rfl,.inl ⟨SqL.of e1,λp hp=>?_⟩⟩
  obtain⟨sb,R',dd⟩:=R.newTup hp d1
  exact k _ _ _ (.fz _) sb R' dd w
 | .tuple ds,h1,w =>
  obtain⟨a,us,rfl,f1,e1,d1⟩:=h1.tuple R.sub
  exact ⟨a,us,rfl,.inr ⟨SqT.of e1,k _ H F (.fz _) (Sub.refl _) R (Da.tup f1 d1) w⟩⟩
noncomputable def IL:D->(Sl->Prop)->Prop
 | .int i,Q=>Q (.fz (.int (if i < 0 then -i else i)))
 | _,_=>False
theorem FH{K:Fg}:eX K (λxs H Q=>∃i,xs=[V.int i]/\Q (V.int (if i < 0 then -i else i)) H) (o1 IL):=bx λG F σ H ρ x d Q Qd R h1 w k=>by
 match d,h1,w with
 | .int i,h1,w=>cases h1.int;exact ⟨i,rfl,k _ H F (.fz _) (Sub.refl _) R (Da.int _) w⟩
noncomputable def uD(as:List AD)(f:List D->(Sl->Prop)->Prop):TD:=λρ Q=>JX as ρ λxs ρ1=>match WQ ρ1 xs with
 | false=>cX ρ1 xs λds=>f ds λr=>Q r ρ1
 | true=>False
noncomputable def mz(ds:List D)(Q:Sl->Prop):Prop:=Q (.fz (.tuple ds))
noncomputable def nz(ds:List D)(Q:Sl->Prop):Prop:=Q (.ow (.list ds))
theorem sQ{n:Nat}(h:n<=1000):n<=sizeLine:=L1 h (by decide)
theorem UC{K:Fg}{as:List AD}(hl:as.length<=1000){σ:St}{H:Hp}{Q:VK}(h:lift K (uD as mz) σ H Q):Aq (CQ (as.map (uQ K))) σ H Q:=by
 obtain⟨G,F,ρ,Qd,R,w,k⟩:=h
 refine gJ R w λvs H' F' xs ρ' sb R' o hn q=>?_
 split at q
 ·rename_i e
  obtain⟨ds,da,q⟩:=RQ R' e o q
  refine ⟨sQ (by omega),λp hp=>?_⟩
  obtain⟨s2,R2,dd⟩:=R'.newTup hp da
  exact k _ _ _ (.fz _) _ (sb.trans s2) R2 dd q
 ·exact q.elim
theorem VC{K:Fg}{as:List AD}(hl:as.length<=1000){σ:St}{H:Hp}{Q:VK}(h:lift K (uD as nz) σ H Q):Ey (CQ (as.map (uQ K))) σ H Q:=by
 obtain⟨G,F,ρ,Qd,R,w,k⟩:=h
 refine gJ R w λvs H' F' xs ρ' sb R' o hn q=>?_
 split at q
 ·rename_i e
  obtain⟨ds,da,q⟩:=RQ R' e o q
  refine ⟨sQ (by omega),λp hp=>?_⟩
  obtain⟨R2,r2⟩:=R'.newOw (o:=.lst vs) (d:=.list ds) hp da
  exact k _ _ _ _ _ sb R2 r2 q
 ·exact q.elim
noncomputable def cF(i:Nat)(as:List AD)(f:List D->List D->(D->D->Prop)->Prop):TD:=λρ Q=>match ρ[i]? with
 | some (some s0)=>match s0.d,OQ s0 with
  | .list _,true=>JX as ρ λxs ρ1=>match ρ1[i]?,WQ ρ1 xs with
   | some (some s),false=>match s.d,OQ s with
    | .list es,true=>cX ρ1 xs λds=>f es ds λd' r=>Q (.fz r) (ρ1.set i (some (s.put d')))
    | _,_=>False
   | _,_=>False
  | _,_=>False
 | _=>False
noncomputable def WC(K:Fg)(r:V->List V->Hp->VK->Prop)(f:List D->List D->(D->D->Prop)->Prop):Prop :=
 ∀(F H:Hp) (a:Addr) (xs:List V) (es:List D) (vs:List V) (ds:List D) (Q:VK) (k:D->D->Prop),Sub F H->H a=some (.lst xs)->DaAll K F xs es->DaAll K F vs ds->f es ds k ->
  (∀v o' d' res,Own1 K F o' d'->Da K F v res->k d' res->Q v (NQ H a o'))->r (.ref a) vs H Q
theorem pu{K:Fg}{i:Nat}{as:List AD}{r:V->List V->Hp->VK->Prop}{f:List D->List D->(D->D->Prop)->Prop}(ok:WC K r f){σ:St}{H:Hp}{Q:VK}(h:lift K (cF i as f) σ H Q) :
  ∃a xs,σ[i]?=some (some (V.ref a))/\SqL K H a xs/\CQ (as.map (uQ K)) σ H λvs H2=>r (.ref a) vs H2 Q:=by
 obtain⟨G,F,ρ,Qd,R,w,k⟩:=h
 unfold cF at w
 split at w
 ·rename_i s0 e0
  split at w
  ·rename_i es0 p1 p2
   obtain⟨a,o,g1,g2,g3,g4⟩:=R.ow i s0 e0 p2
   have gl:∃xs,H a=some (.lst xs):=by
    rw[p1]at g4
    cases o<;>first|exact g4.elim|exact ⟨_,g3⟩
   obtain⟨xs0,gl⟩:=gl
   refine ⟨a,xs0,g1,SqL.of gl,yX R w λvs H1 F1 xs ρ1 s1 R1 o1 w1=>?_⟩
   split at w1
   ·rename_i s e en
    split at w1
    ·rename_i es q1 q2
     obtain⟨ds,da,w1⟩:=RQ R1 en o1 w1
     obtain⟨a',o',h1,h2,h3,h4⟩:=R1.ow i s e q2
     rw[g1]at h1;cases h1
     rw[q1]at h4
     have hl:∃us,o'=.lst us/\DaAll K F1 us es:=by cases o'<;>first|exact h4.elim|exact ⟨_,rfl,h4⟩
     obtain⟨us,rfl,h4⟩:=hl
     refine ok F1 H1 a us es vs ds Q _ R1.sub h3 h4 da w1 λv o2 d2 res ho hv hk=>?_
     have R2:=R1.change (o':=o2) (d':=d2) e q2 g1 ho
     exact k v _ F1 (.fz res) _ s1 R2 hv hk
    ·exact w1.elim
   ·exact w1.elim
  ·exact w.elim
 ·exact w.elim
noncomputable def ck:List D->List D->(D->D->Prop)->Prop
 | es,[x],k=>es.length < sizeLine/\k (.list (es++[x])) .none
 | _,_,_=>False
theorem xJ{K:Fg}:WC K LG ck:=by
 intro F H a xs es vs ds Q k s e d1 d2 w q
 match ds,d2,w with
 | [x],.cons h .nil,w=>exact ⟨a,xs,_,rfl,rfl,e,by rw[d1.length];exact w.1,q _ (.lst (xs++[_])) (.list (es++[x])) _ (d1.append (.cons h .nil)) .non w.2⟩
noncomputable def fk:List D->List D->(D->D->Prop)->Prop
 | es,[.list ys],k=>es.length+ys.length<=sizeLine/\k (.list (es++ys)) .none
 | _,_,_=>False
theorem IK{K:Fg}:WC K MG fk:=by
 intro F H a xs es vs ds Q k s e d1 d2 w q
 match ds,d2,w with
 | [.list ys],.cons h .nil,w =>
  cases h with
  | lst e2 t=>exact ⟨a,_,xs,_,rfl,rfl,e,s _ _ e2,by rw[d1.length,t.length];exact w.1,q _ (.lst (xs++_)) (.list (es++ys)) _ (d1.append t) .non w.2⟩
noncomputable def OI:List D->List D->(D->D->Prop)->Prop
 | es,[.int i,x],k=>es.length < sizeLine/\0<=i/\i<=es.length/\k (.list (es.take i.toNat++x :: es.drop i.toNat)) .none
 | _,_,_=>False
noncomputable def GH(j:Nat)(ai:AD)(te:TD):DJ:=λE ρ=>te ρ λr ρ1=>match ρ1[j]? with
 | some (some _)=>JX [ai] ρ1 λxs ρ2=>cX ρ2 xs λds=>match ds,ρ2[j]? with
  | [.int k],some (some s)=>match s.d,OQ s with
   | .list es,true=>∃n,Zj es.length k=some n/\E.nx (ρ2.set j (some (s.put (.list (es.set n r.d)))))
   | _,_=>False
  | _,_=>False
 | _=>False
theorem gk{K:Fg}{j:Nat}{ai:AD}{te:TD}{σ:St}{H:Hp}{E:Ends}(h:oQ K (GH j ai te) E σ H):bY (lift K te) (yy (bK j) (uQ K ai) KG) E σ H:=by
 obtain⟨G,F,ρ,D,R,w,n,r,b,c⟩:=h
 refine ⟨G,F,ρ,_,R,w,λv H1 F1 x ρ1 s1 R1 r1 w1=>?_⟩
 obtain⟨F2,s2,R2,d2⟩:=r1.frz R1
 split at w1
 ·rename_i s0 e0
  obtain⟨u,eu⟩:=R2.bound e0
  refine ⟨u,eu,Vq (P:=λi H2=>KG u i v H2 λH3=>E.nx σ H3) (yX R2 w1 λvs H3 F3 xs ρ3 s3 R3 o3 w3=>?_)⟩
  obtain⟨ds,ha,w3⟩:=NY R3 o3 w3
  split at w3
  ·rename_i k s e
   obtain⟨iv,rfl,hi⟩:=ha.one
   cases hi.int
   split at w3
   ·rename_i es p1 p2
    obtain⟨m,w4,w5⟩:=w3
    obtain⟨a,o,g1,g2,g3,g4⟩:=R3.ow j s e p2
    rw[eu]at g1;cases g1
    rw[p1]at g4
    have hl:∃us,o=.lst us/\DaAll K F3 us es:=by cases o<;>first|exact g4.elim|exact ⟨_,rfl,g4⟩
    obtain⟨us,rfl,g4⟩:=hl
    refine ⟨_,rfl,a,us,k,m,rfl,rfl,g3,by rw[g4.length];exact w4,?_⟩
    have R4:=R3.change (o':=.lst (us.set m v)) (d':=.list (es.set m x.d)) e p2 eu (g4.set (d2.mono s3) m)
    exact n σ _ F3 _ (s1.trans (s2.trans s3)) R4 w5
   ·exact w3.elim
  ·exact w3.elim
 ·exact w1.elim
noncomputable def XC(K:Fg)(tl:TE):TI:=λσ H R=>tl σ H λx H1=>∃a,x=.ref a/\(((∃xs,SqL K H1 a xs)/\R (uL K a) H1)\/((∃xs,SqT K H1 a xs)/\R (vL K a) H1))
noncomputable def oz(a:TD):pH:=λρ Q=>a ρ λr ρ1=>match r.d with
 | .list ds=>Q ds ρ1
 | .tuple ds=>Q ds ρ1
 | _=>False
theorem HH{K:Fg}{F:Hp}{a:Addr}{xs:List V}{ds:List D}(e:F a=some (.lst xs))(h:DaAll K F xs ds):Walks K (uL K a) F ds:=λi H F1 s1 s2=>by
 have q:=SqL.of (K:=K) (s2 _ _ (s1 _ _ e))
 refine ⟨λd ed=>?_,λhl=>⟨xs,q,by rw[h.length];omega⟩⟩
 obtain⟨v,h1,h2⟩:=h.get ed
 refine ⟨⟨xs,v,q,h1⟩,λx H' ⟨e1,e2⟩=>?_⟩
 subst e1
 have:=e2 xs q
 rw[h1]at this;cases this
 exact ⟨F1,Sub.refl _,λ_ _ z=>.inl z,s2,Sub.refl _,h2.mono s1⟩
theorem vD{K:Fg}{F:Hp}{a:Addr}{xs:List V}{ds:List D}(e:F a=some (.tup xs))(h:DaAll K F xs ds):Walks K (vL K a) F ds:=λi H F1 s1 s2=>by
 have q:=SqT.of (K:=K) (s2 _ _ (s1 _ _ e))
 refine ⟨λd ed=>?_,λhl=>⟨xs,q,by rw[h.length];omega⟩⟩
 obtain⟨v,h1,h2⟩:=h.get ed
 refine ⟨⟨xs,v,q,h1⟩,λx H' ⟨e1,e2⟩=>?_⟩
 subst e1
 have:=e2 xs q
 rw[h1]at this;cases this
 exact ⟨F1,Sub.refl _,λ_ _ z=>.inl z,s2,Sub.refl _,h2.mono s1⟩
theorem qu{K:Fg}{a:TD}{σ:St}{H:Hp}{R:It->Hp->Prop}(h:pX K (oz a) σ H R):XC K (lift K a) σ H R:=by
 obtain⟨G,F,ρ,Qd,Rl,w,k⟩:=h
 refine ⟨G,F,ρ,_,Rl,w,λv H1 F1 r ρ1 s1 R1 r1 w1=>?_⟩
 obtain⟨F2,s2,R2,d2⟩:=r1.frz R1
 split at w1
 ·rename_i ds e
  rw[e]at d2
  cases d2 with
  | lst q t=>exact ⟨_,rfl,.inl ⟨⟨_,SqL.of (R2.sub _ _ q)⟩,k _ H1 F2 ds ρ1 (s1.trans s2) R2 (HH q t) w1⟩⟩
 ·rename_i ds e
  rw[e]at d2
  cases d2 with
  | tup q t=>exact ⟨_,rfl,.inr ⟨⟨_,SqT.of (R2.sub _ _ q)⟩,k _ H1 F2 ds ρ1 (s1.trans s2) R2 (vD q t) w1⟩⟩
 ·exact w1.elim
noncomputable def MQ(lo:Int)(n:Nat):List D:=(X2 n).map λ(i:Nat)=>u0 (lo+i)
theorem CU{K:Fg}{F:Hp}{lo:Int}{n:Nat}:Walks K (JI lo n) F (MQ lo n):=λi H F1 s1 s2=>by
 have hl:(MQ lo n).length=n:=by simp[MQ]
 refine ⟨λd ed=>?_,λh=>by rw[hl]at h;exact Nat.le_of_eq h⟩
 have hi:i < n:=by have:=IX ed;rw[hl]at this;exact this
 have e:(MQ lo n)[i]?=some (.int (lo+i)):=by simp[MQ,hi]
 rw[e]at ed;cases ed
 refine ⟨hi,λx H' ⟨e1,e2⟩=>?_⟩
 subst e1 e2
 exact ⟨F1,Sub.refl _,λ_ _ z=>.inl z,s2,Sub.refl _,.int _⟩
noncomputable def IH(a:AD):pH:=λρ Q=>JX [a] ρ λxs ρ1=>cX ρ1 xs λds=>match ds with
 | [.int j]=>-(2 ^ 62)<=j/\j < 2 ^ 62/\Q (MQ 0 j.toNat) ρ1
 | _=>False
theorem tu{K:Fg}{a:AD}{σ:St}{H:Hp}{R:It->Hp->Prop}(h:pX K (IH a) σ H R):uq (CQ ([a].map (uQ K))) σ H R:=by
 obtain⟨G,F,ρ,Qd,Rl,w,k⟩:=h
 refine yX Rl w λvs H' F' xs ρ' sb R' o w1=>?_
 obtain⟨ds,ha,w1⟩:=NY R' o w1
 split at w1
 ·rename_i j
  obtain⟨v,rfl,h1⟩:=ha.one
  cases h1.int
  exact ⟨j,rfl,w1.1,w1.2.1,k _ H' F' _ ρ' sb R' CU w1.2.2⟩
 ·exact w1.elim
noncomputable def eN(K:Fg)(F:Hp)(v:V)(ds:List D):Prop:=∃k a xs,v=.ref a/\(F a=some (match k with|Kd.l=>HO.lst xs|Kd.t=>HO.tup xs))/\DaAll K F xs ds
theorem EJ{K:Fg}{H:Hp}{a:Addr}{xs:List V}{k:Kd}(e:H a=some (match k with|Kd.l=>HO.lst xs|Kd.t=>HO.tup xs)):Sq k K H a xs:=by
 cases k with
 | l=>exact SqL.of e
 | t=>exact SqT.of e
noncomputable def wD:D->Option (List D)
 | .list ds=>some ds
 | .tuple ds=>some ds
 | _=>none
theorem oK{K:Fg}{F:Hp}{v:V}{d:D}{ds:List D}(h:Da K F v d)(e:wD d=some ds):∃k a xs,v=.ref a/\(F a=some (match k with|Kd.l=>HO.lst xs|Kd.t=>HO.tup xs))/\DaAll K F xs ds:=by
 cases h with
 | lst q t=>cases e;exact ⟨.l,_,_,rfl,q,t⟩
 | tup q t=>cases e;exact ⟨.t,_,_,rfl,q,t⟩
 | non=>cases e
 | bl=>cases e
 | int=>cases e
 | str=>cases e
 | dk _ _=>cases e
 | dt _ _=>cases e
 | scr _=>cases e
 | exc _=>cases e
 | opq _=>cases e
 | pd _ _=>cases e
 | bd _ _=>cases e
noncomputable def VY(ds es:List D):List D:=(ds.zip es).map λp=>U0 [p.1,p.2]
noncomputable def WY(ds es fs:List D):List D:=(ds.zip (es.zip fs)).map λp=>U0 [p.1,p.2.1,p.2.2]
noncomputable def KH(a b:AD):pH:=λρ Q=>JX [a,b] ρ λxs ρ1=>match WQ ρ1 xs with
 | false=>cX ρ1 xs λds=>match ds with
  | [x,y]=>match wD x,wD y with
   | some us,some ws=>Q (VY us ws) ρ1
   | _,_=>False
  | _=>False
 | true=>False
theorem LH{K:Fg}{F:Hp}{a b:Addr}{k1 k2:Kd}{xs ys:List V}{ds es:List D}(e1:F a=some (match k1 with|Kd.l=>HO.lst xs|Kd.t=>HO.tup xs))(h1:DaAll K F xs ds)
  (e2:F b=some (match k2 with|Kd.l=>HO.lst ys|Kd.t=>HO.tup ys)) (h2:DaAll K F ys es):Walks K (Uy K k1 k2 a b) F (VY ds es):=λi H F1 s1 s2=>by
 have q1:Sq k1 K H a xs:=EJ (s2 _ _ (s1 _ _ e1))
 have q2:Sq k2 K H b ys:=EJ (s2 _ _ (s1 _ _ e2))
 refine ⟨λd ed=>?_,λhl=>⟨xs,ys,q1,q2,?_⟩⟩
 ·simp only[VY,X0,w6]at ed
  obtain⟨⟨x,y⟩,ez,rfl⟩:=ed
  rw[S5]at ez
  obtain⟨v,g1,g2⟩:=h1.get ez.1
  obtain⟨u,g3,g4⟩:=h2.get ez.2
  refine ⟨⟨xs,v,ys,u,q1,q2,g1,g3⟩,λz H' ⟨T,x1,x2,hT,ex,eH,f1,f2⟩=>?_⟩
  subst ex eH
  have f1:=f1 xs q1
  have f2:=f2 ys q2
  rw[g1]at f1;cases f1
  rw[g3]at f2;cases f2
  have fT:F1 T=none:=by
   cases z:F1 T with
   | none=>rfl
   | some o=>rw[s2 _ _ z]at hT;cases hT
  refine ⟨NQ F1 T (.tup [v,u]),Sub.new fT,λc o ec=>?_,λc o ec=>?_,Sub.new hT,.tup iQ (.cons (g2.mono (s1.trans (Sub.new fT))) (.cons (g4.mono (s1.trans (Sub.new fT))) .nil))⟩
  ·by_cases z:c=T
   ·subst z;exact .inr hT
   ·rw[dQ z]at ec;exact .inl ec
  ·by_cases z:c=T
   ·subst z;rw[iQ]at ec ⊢;exact ec
   ·rw[dQ z]at ec ⊢;exact s2 _ _ ec
 ·simp only[VY,A0,P1]at hl
  rw[h1.length,h2.length]
  omega
theorem uu{K:Fg}{a b:AD}{σ:St}{H:Hp}{R:It->Hp->Prop}(h:pX K (KH a b) σ H R):OG K (CQ ([a,b].map (uQ K))) σ H R:=by
 obtain⟨G,F,ρ,Qd,Rl,w,k⟩:=h
 refine yX Rl w λvs H' F' xs ρ' sb R' o w1=>?_
 split at w1
 ·rename_i e
  obtain⟨ds,da,w1⟩:=RQ R' e o w1
  split at w1
  ·rename_i x y
   split at w1
   ·rename_i us ws p1 p2
    cases da with
    | cons d1 t =>
     cases t with
     | cons d2 t =>
      cases t
      obtain⟨k1,a1,us',rfl,e1,g1⟩:=oK d1 p1
      obtain⟨k2,a2,ws',rfl,e2,g2⟩:=oK d2 p2
      exact ⟨k1,a1,us',k2,a2,ws',rfl,EJ (R'.sub _ _ e1),EJ (R'.sub _ _ e2),k _ H' F' _ ρ' sb R' (LH e1 g1 e2 g2) w1⟩
   ·exact w1.elim
  ·exact w1.elim
 ·exact w1.elim
noncomputable def NH(a b c:AD):pH:=λρ Q=>JX [a,b,c] ρ λxs ρ1=>match WQ ρ1 xs with
 | false=>cX ρ1 xs λds=>match ds with
  | [x,y,z]=>match wD x,wD y,wD z with
   | some us,some ws,some ts=>Q (WY us ws ts) ρ1
   | _,_,_=>False
  | _=>False
 | true=>False
theorem OH{K:Fg}{F:Hp}{a b c:Addr}{k1 k2 k3:Kd}{xs ys zs:List V}{ds es fs:List D}(e1:F a=some (match k1 with|Kd.l=>HO.lst xs|Kd.t=>HO.tup xs))(h1:DaAll K F xs ds)
  (e2:F b=some (match k2 with|Kd.l=>HO.lst ys|Kd.t=>HO.tup ys)) (h2:DaAll K F ys es) (e3:F c=some (match k3 with|Kd.l=>HO.lst zs|Kd.t=>HO.tup zs)) (h3:DaAll K F zs fs):Walks K (Vy K k1 k2 k3 a b c) F (WY ds es fs):=λi H F1 s1 s2=>by
 have q1:Sq k1 K H a xs:=EJ (s2 _ _ (s1 _ _ e1))
 have q2:Sq k2 K H b ys:=EJ (s2 _ _ (s1 _ _ e2))
 have q3:Sq k3 K H c zs:=EJ (s2 _ _ (s1 _ _ e3))
 refine ⟨λd ed=>?_,λhl=>⟨xs,ys,zs,q1,q2,q3,?_⟩⟩
 ·simp only[WY,X0,w6]at ed
  obtain⟨⟨x,y,t⟩,ez,rfl⟩:=ed
  rw[S5,S5]at ez
  obtain⟨v,g1,g2⟩:=h1.get ez.1
  obtain⟨u,g3,g4⟩:=h2.get ez.2.1
  obtain⟨w,g5,g6⟩:=h3.get ez.2.2
  refine ⟨⟨xs,v,ys,u,zs,w,q1,q2,q3,g1,g3,g5⟩,λz H' ⟨T,x1,x2,x3,hT,ex,eH,f1,f2,f3⟩=>?_⟩
  subst ex eH
  have f1:=f1 xs q1
  have f2:=f2 ys q2
  have f3:=f3 zs q3
  rw[g1]at f1;cases f1
  rw[g3]at f2;cases f2
  rw[g5]at f3;cases f3
  have fT:F1 T=none:=by
   cases z:F1 T with
   | none=>rfl
   | some o=>rw[s2 _ _ z]at hT;cases hT
  have sn:=s1.trans (Sub.new (o:=.tup [v,u,w]) fT)
  refine ⟨NQ F1 T (.tup [v,u,w]),Sub.new fT,λc o ec=>?_,λc o ec=>?_,Sub.new hT,.tup iQ (.cons (g2.mono sn) (.cons (g4.mono sn) (.cons (g6.mono sn) .nil)))⟩
  ·by_cases z:c=T
   ·subst z;exact .inr hT
   ·rw[dQ z]at ec;exact .inl ec
  ·by_cases z:c=T
   ·subst z;rw[iQ]at ec ⊢;exact ec
   ·rw[dQ z]at ec ⊢;exact s2 _ _ ec
 ·simp only[WY,A0,P1]at hl
  rw[h1.length,h2.length,h3.length]
  omega
theorem vu{K:Fg}{a b c:AD}{σ:St}{H:Hp}{R:It->Hp->Prop}(h:pX K (NH a b c) σ H R):QG K (CQ ([a,b,c].map (uQ K))) σ H R:=by
 obtain⟨G,F,ρ,Qd,Rl,w,k⟩:=h
 refine yX Rl w λvs H' F' xs ρ' sb R' o w1=>?_
 split at w1
 ·rename_i e
  obtain⟨ds,da,w1⟩:=RQ R' e o w1
  split at w1
  ·rename_i x y z
   split at w1
   ·rename_i us ws ts p1 p2 p3
    cases da with
    | cons d1 t =>
     cases t with
     | cons d2 t =>
      cases t with
      | cons d3 t =>
       cases t
       obtain⟨k1,a1,us',rfl,e1,g1⟩:=oK d1 p1
       obtain⟨k2,a2,ws',rfl,e2,g2⟩:=oK d2 p2
       obtain⟨k3,a3,ts',rfl,e3,g3⟩:=oK d3 p3
       exact ⟨k1,a1,us',k2,a2,ws',k3,a3,ts',rfl,EJ (R'.sub _ _ e1),EJ (R'.sub _ _ e2),EJ (R'.sub _ _ e3),k _ H' F' _ ρ' sb R' (OH e1 g1 e2 g2 e3 g3) w1⟩
   ·exact w1.elim
  ·exact w1.elim
 ·exact w1.elim
section
variable {K:Fg}{F H:Hp}
theorem DaAll.keys:∀{xs:List V}{ks:List XJ},DaAll K F xs (ks.map Uq)->xs=ks.map kV
 | [],[],_=>rfl
 | x :: xs,k :: ks,.cons h t=>by
  have e:x=kV k:=by cases k<;>(cases h;rfl)
  rw[e,DaAll.keys t];rfl
end
open PySem PySem.Spec PyProof.Rows L2
noncomputable def EQ:Expr->Bool
 | .Starred _ _=>false
 | _=>true
theorem tQ{e:Expr}{es:List Expr}{env:Env}(h:EQ e=true):starEach (e :: es) env=(false,eval e env) :: starEach es env:=by
 cases e<;>first|rfl|cases h
theorem gX{env:Env}{pos:Pos}:∀{es:List Expr},es.all EQ=true->(backTo pos (starEach es env)).any (·.1)=false:=by
 intro es
 induction es with
 | nil=>intro _;rfl
 | cons e es ih =>
  intro h
  simp only[List.all_cons,L5]at h
  rw[tQ h.1]
  have:=ih h.2
  simp[backTo]at this ⊢
  exact this
noncomputable def LV:Expr->Bool
 | .Set _ _ _=>false
 | _=>true
theorem JK{e:Expr}{env:Env}(h:LV e=true)(x:Value):foldedSetIterable e env x=pure x:=by
 cases e<;>first|rfl|cases h
noncomputable def yJ:Expr->Bool
 | .ListComp _ _ _ _=>false
 | .SetComp _ _ _ _=>false
 | .DictComp _ _ _ _ _=>false
 | _=>true
theorem mJ{e:Expr}{t:Option Expr}{n:Nat}{env:Env}(h:yJ e=true):swapsWith e t n env=pure false:=by
 cases e<;>first|rfl|cases h
section
variable {X:Cx}{K:Fg}
theorem MV{e:Expr}{t t':TE}(h:PE X e t)(m:∀{σ H Q},t' σ H Q->t σ H Q):PE X e t':=λpins s σ H Q I w=>h pins s σ H Q I (m w)
theorem JL{e:Expr}{t t':TT}(h:PT X e t)(m:∀{σ H Q},t' σ H Q->t σ H Q):PT X e t':=λpins s σ H Q I w=>h pins s σ H Q I (m w)
theorem GM{e:Expr}{t t':TT}(h:PW X e t)(m:∀{σ H Q},t' σ H Q->t σ H Q):PW X e t':=λwh pins s σ H Q I w=>h wh pins s σ H Q I (m w)
theorem xD{e:Stmt}{t t':TS}(h:PS X e t)(m:∀{D σ H},t' D σ H->t D σ H):PS X e t':=λpins s σ H D I w=>h pins s σ H D I (m w)
theorem YC{e:List Stmt}{t t':TS}(h:PSs X e t)(m:∀{D σ H},t' D σ H->t D σ H):PSs X e t':=λpins s σ H D I w=>h pins s σ H D I (m w)
theorem HM{e:Expr}{t t':TG}(h:PG X e t)(m:∀{v σ H Q},t' v σ H Q->t v σ H Q):PG X e t':=by
 unfold PG at h ⊢
 intros
 exact h _ _ _ _ _ _ _ (by assumption) (by assumption) (m (by assumption))
theorem UB{g e:Expr}{t t':TI}(h:PI X g e t)(m:∀{σ H R},t' σ H R->t σ H R):PI X g e t':=λpins s σ H R I w=>h pins s σ H R I (m w)
theorem KL{es:List Expr}{t t':TT}(h:Mq X es t)(m:∀{σ H Q},t' σ H Q->t σ H Q):Mq X es t':=λpins s σ H Q I w=>h pins s σ H Q I (m w)
theorem ik{e:Expr}{es:List Expr}{a:AD}{as:List AD}(ha:PE X e (uQ K a))(hr:PA X es (CQ (as.map (uQ K))))(hs:starEach (e :: es) X.env=(false,eval e X.env) :: starEach es X.env:=by exact tQ rfl):PA X (e :: es) (CQ ((a :: as).map (uQ K))):=EV ha hr hs
variable {e:Expr}{a b c:AD}{as:List AD}{td te:TD}{tc td':UK}
theorem xu{i:Nat}(h:PE X e (bK i)):PE X e (lift K (Qx i)):=MV h HC
theorem yu{v:V}{d:D}(hv:∀F,Da K F v d)(h:PE X e (tC v)):PE X e (lift K (dC d)):=MV h (dN hv)
theorem LL{r:R2}{f:D->D->(Sl->Prop)->Prop}(ok:eX K (UY r) (o2 f))(h:PE X e (RB r (uQ K a) (uQ K b))):PE X e (lift K (UG [a,b] (o2 f))):=MV h λq=>GC (gD ok q)
theorem fN{r:V->Hp->VK->Prop}{f:D->(Sl->Prop)->Prop}(ok:eX K (DM r) (o1 f))(h:PE X e (yM r (uQ K a))):PE X e (lift K (UG [a] (o1 f))):=MV h λq=>Vq (gD ok q)
theorem IM{r:List V->Hp->VK->Prop}{f:List D->(Sl->Prop)->Prop}(ok:eX K r f)(h:PE X e (wL r (CQ (as.map (uQ K))))):PE X e (lift K (UG as f)):=MV h λq=>gD ok q
theorem zu(hl:as.length<=1000)(h:PE X e (Aq (CQ (as.map (uQ K))))):PE X e (lift K (uD as mz)):=MV h (UC hl)
theorem Au(hl:as.length<=1000)(h:PE X e (Ey (CQ (as.map (uQ K))))):PE X e (lift K (uD as nz)):=MV h (VC hl)
theorem Bu(h:PE X e (fq (lift K td) (lift K te))):PE X e (lift K (Xq td te)):=MV h bu
theorem ZC(h:PE X e (my (lift K td) (lift K te))):PE X e (lift K (au td te)):=MV h LC
theorem aE{con:Con}{E:XK}(h:PE X e (cK (kQ K con) [] E (CQ (as.map (uQ K))))):PE X e (lift K (iz con as)):=MV h nu
theorem Cu{con:Con}{E:XK}{i:Nat}(h:PE X e (cK (kQ K con) [] E (CQ ((Sum.inl i :: as).map (uQ K))))):PE X e (lift K (JV con i as)):=MV h Xx
theorem ML{i:Nat}{r:V->List V->Hp->VK->Prop}{f:List D->List D->(D->D->Prop)->Prop}(ok:WC K r f)(h:PE X e (BM K "list" r (bK i) (CQ (as.map (uQ K))))):PE X e (lift K (cF i as f)):=MV h λq=>by
 obtain⟨a,xs,e1,sq,w⟩:=pu ok q
 exact ⟨_,e1,.inl ⟨rfl,xs,sq⟩,w⟩
theorem gN{r:R2}{f:D->D->(Sl->Prop)->Prop}(ok:eX K (UY r) (o2 f))(h:PT X e (xq (RB r (uQ K a) (uQ K b)))):PT X e (vQ K (Wq (UG [a,b] (o2 f)))):=JL h λq=>Sw (λz=>GC (gD ok z)) q
theorem Du(h:PT X e (tB (lift K td))):PT X e (vQ K (Wq td)):=JL h λq=>Sw (λz=>z) q
theorem Eu(h:PT X e (fy (vQ K tc))):PT X e (vQ K (Yy tc)):=JL h IC
theorem Fu(h:PW X e (dy (vQ K tc) (vQ K td'))):PW X e (vQ K (Zy tc td')):=GM h JC
theorem bE(h:PW X e (rL (vQ K tc) (vQ K td'))):PW X e (vQ K (BL tc td')):=GM h CL
variable {st:Stmt}{sts:List Stmt}{t u:DJ}
theorem jk(h:PSs X sts gq):PSs X sts (oQ K Yq):=YC h fu
theorem Gu(h:PSs X sts (sy (oQ K t) (oQ K u))):PSs X sts (oQ K (Rx t u)):=YC h MC
theorem Hu(h:PS X st (lq (lift K td))):PS X st (oQ K (cu td)):=xD h NC
theorem nk{i:Nat}(h:PS X st (lq (bK i))):PS X st (oQ K (VG i)):=xD h iu
theorem pk{i j:Nat}(h:PS X st (bY (bK j) (yZ i))):PS X st (oQ K (XG i j)):=xD h ju
theorem qk(h:PS X st (jq (lift K td))):PS X st (oQ K (Zq td)):=xD h gu
theorem cE(h:PS X st (uy (vQ K tc) (oQ K t) (oQ K u))):PS X st (oQ K (du tc t u)):=xD h OC
theorem Iu{i:Nat}(h:PS X st (bY (lift K td) (yZ i))):PS X st (oQ K (az i td)):=xD h Tw
theorem dE{j:Nat}(h:PS X st (bY (lift K td) (yy (bK j) (uQ K a) KG))):PS X st (oQ K (GH j a td)):=xD h gk
theorem qz(h:PS X st (qH (vQ K tc) (oQ K t))):PS X st (oQ K (BH tc t)):=xD h Tx
theorem sk{i:Nat}(h:PG X e (yZ i)):PG X e (oX K (PC i)):=HM h DL
theorem Ju{n:Nat}{gs:List KJ}(h:PG X e (nq K n (QW (gs.map (oX K)))))(hn:gs.length=n:=by rfl):PG X e (oX K (MI gs)):=HM h (EL hn)
theorem rz{es:List Expr}{g:KJ}{gs:List KJ}(h1:PG X e (oX K g))(h2:Qw X es (QW (gs.map (oX K))))(hs:(assignEach (e :: es) X.env).map (·.2)=assign e X.env :: (assignEach es X.env).map (·.2):=by rfl):Qw X (e :: es) (QW ((g :: gs).map (oX K))):=zY h1 h2 hs
theorem uk:Mq X [] (vQ K iD):=KL Ry KC
variable {tg:Expr}
theorem vk{l:Expr}{tl:TE}(hK:X.K=K)(hl:PE X l tl):PI X tg l (XC K tl):=by
 subst hK
 intro pins s σ H R I h
 refine wX (hl pins s σ H _ I h) λv s1 ⟨x,H1,I1,r1,q1⟩=>?_
 obtain⟨a,e,q1⟩:=q1
 subst e
 cases r1
 rcases q1 with⟨⟨xs,hq⟩,q⟩|⟨⟨xs,hq⟩,q⟩
 ·obtain⟨its,rv,p,hz⟩:=I1.list hq
  refine wpAny_pyIter_list p.isList ?_
  refine ⟨s1.heap.objs.size,[s1.heap.objs.size],_,_,H1,rfl,I1.kept (t':=s1.toks) λb o e=>j0 _ e,RF a _,⟨_,G0 _ rfl,rfl,rfl⟩,λb hb=>?_,q⟩
  have e:b=s1.heap.objs.size:=by simpa using hb
  subst e
  exact I1.fpOk (R0 _) (I1.hok.fresh (R0 _))
 ·obtain⟨its,rv,p,hz⟩:=I1.tuple hq
  refine wpAny_pyIter_tuple (show s1.heap.IsTuple a its.toArray from p) ?_
  refine ⟨s1.heap.objs.size,[s1.heap.objs.size],_,_,H1,rfl,I1.kept (t':=s1.toks) λb o e=>j0 _ e,rH a _,⟨_,G0 _ rfl,rfl,rfl⟩,λb hb=>?_,q⟩
  have e:b=s1.heap.objs.size:=by simpa using hb
  subst e
  exact I1.fpOk (R0 _) (I1.hok.fresh (R0 _))
theorem Ku{l:Expr}(hK:X.K=K)(hl:PE X l (lift K td)):PI X tg l (pX K (oz td)):=UB (vk hK hl) qu
theorem xk{l:Expr}(h:PI X tg l (uq (CQ ([a].map (uQ K))))):PI X tg l (pX K (IH a)):=UB h tu
theorem yk{l:Expr}(h:PI X tg l (OG K (CQ ([a,b].map (uQ K))))):PI X tg l (pX K (KH a b)):=UB h uu
theorem zk{l:Expr}(h:PI X tg l (QG K (CQ ([a,b,c].map (uQ K))))):PI X tg l (pX K (NH a b c)):=UB h vu
noncomputable def eE(_ j:Int):Prop:=0 < j
theorem op_catB:OpR X (binaryOp .Add) lz:=by
 intro pins s σ H x y v u Q I rx ry h
 obtain⟨a,b,xs,ys,rfl,rfl,ha,hb,hz,q1,q2,q3⟩:=h
 have ha':SqT X.K H a xs:=SqT.of ha
 have hb':SqT X.K H b ys:=SqT.of hb
 by_cases hx:xs=[]
 ·subst hx
  cases rx
  cases ry
  obtain⟨its,r1,p1,_⟩:=I.tuple ha'
  obtain⟨its2,r2,p2,_⟩:=I.tuple hb'
  cases r1
  exact Tq p1 p2 ⟨.ref b,H,I,rfl,q1 rfl⟩
 ·exact zx pins s σ H (.ref a) (.ref b) v u Q I rx ry ⟨a,b,xs,ys,rfl,rfl,ha',hb',hx,hz,λe=>q2 hx e,λe p hp=>q3 hx e p hp⟩
theorem JQ:OpR X (binaryOp .Add) (nK (oH λi j=>.int (i+j)) (nK lz Ky)):=op_add.or (op_catB.or Ly)
theorem fZ:OpR X (binaryOp .Mult) (nK (rI CMul λi j=>.int (i * j)) My):=op_mul.or Ny
theorem hX:eX K (UY (oH λi j=>.int (i - j))) (o2 (TB λi j=>.int (i - j))):=BU λ_ _ _=>.int _
theorem nY:eX K (UY (rI Dy λi j=>.int (i / j))) (o2 (fI Dy λi j=>.int (i / j))):=Yx λ_ _ _=>.int _
theorem MJ:eX K (UY (rI (λ_ j=>0 < j) λi j=>.int (i % j))) (o2 (fI eE λi j=>.int (i % j))):=Yx (C:=eE) λ_ _ _=>.int _
theorem PH:eX K (UY (rI TF λi j=>.int (i ^ j.toNat))) (o2 (fI TF λi j=>.int (i ^ j.toNat))):=Yx λ_ _ _=>.int _
theorem XY:eX K (UY (rI TF λi j=>.int (i * 2 ^ j.toNat))) (o2 (fI TF λi j=>.int (i * 2 ^ j.toNat))):=Yx λ_ _ _=>.int _
theorem DU:eX K (UY (oH λi j=>.bl (decide (i < j)))) (o2 (TB λi j=>.bool (decide (i < j)))):=BU λ_ _ _=>.bl _
theorem fE:eX K (UY (oH λi j=>.bl (decide (i<=j)))) (o2 (TB λi j=>.bool (decide (i<=j)))):=BU λ_ _ _=>.bl _
theorem pV:eX K (UY (oH λi j=>.bl (decide (j < i)))) (o2 (TB λi j=>.bool (decide (j < i)))):=BU λ_ _ _=>.bl _
theorem iE:eX K (UY (oH λi j=>.bl (decide (j<=i)))) (o2 (TB λi j=>.bool (decide (j<=i)))):=BU λ_ _ _=>.bl _
theorem Ak(hK:X.K=K):IxR X (nK (Ax K) (Dx K)):=(Pq hK).or (Nx hK)
end
mutual
noncomputable def HQ:D->Bool
 | .none=>true
 | .bool _=>true
 | .int _=>true
 | .str _=>true
 | .list xs=>plainAll xs
 | .tuple xs=>plainAll xs
 | .dict _=>false
noncomputable def plainAll:List D->Bool
 | []=>true
 | x :: xs=>HQ x&&plainAll xs
end
section
variable {K:Fg}{F H:Hp}
mutual
theorem Da.is(s:Sub F H):∀{v:V}{d:D},Da K F v d->HQ d=true->Is K H v d
 | _,_,.non,_=>.non
 | _,_,.bl b,_=>.bl b
 | _,_,.int i,_=>.int i
 | _,_,.str x,_=>.str x
 | _,_,.lst e t,z=>.lst (SqL.of (s _ _ e)) (DaAll.is s t (by simpa [HQ]using z))
 | _,_,.tup e t,z=>.tup (SqT.of (s _ _ e)) (DaAll.is s t (by simpa [HQ]using z))
 | _,_,.dk _ _,z=>by simp[HQ]at z
 | _,_,.dt _ _,z=>by simp[HQ]at z
 | _,_,.scr _,z=>by simp[HQ,OX]at z
 | _,_,.exc _,z=>by simp[HQ,EC]at z
 | _,_,.opq _,z=>by simp[HQ,FC]at z
 | _,_,.pd _ _,z=>by simp[HQ,xX]at z
 | _,_,.bd _ _,z=>by simp[HQ,AL]at z
theorem DaAll.is(s:Sub F H):∀{xs:List V}{ds:List D},DaAll K F xs ds->plainAll ds=true->IsAll K H xs ds
 | _,_,.nil,_=>.nil
 | _,_,.cons a t,z=>by
  simp[plainAll]at z
  exact .cons (Da.is s a z.1) (DaAll.is s t z.2)
end
theorem At.is{v:V}{d:D}(s:Sub F H)(h:At K F H v d)(p:HQ d=true):Is K H v d:=by
 rcases h with h|⟨a,o,rfl,_,e,h⟩
 ·exact h.is s p
 ·cases o<;>cases d<;>first|exact h.elim|(simp[HQ]at p)|skip
  ·rename_i xs ds
   exact .lst (SqL.of e) (DaAll.is s h (by simpa [HQ]using p))
end
noncomputable def Bk(x y:D)(Q:Sl->Prop):Prop:=HQ x=true/\HQ y=true/\SeqAt.shaped x=true/\SeqAt.shaped y=true/\SeqAt.noMix x y=true/\Q (.fz (.bool (same x y)))
noncomputable def Ck(x y:D)(Q:Sl->Prop):Prop:=HQ x=true/\HQ y=true/\SeqAt.shaped x=true/\SeqAt.shaped y=true/\SeqAt.noMix x y=true/\Q (.fz (.bool (!same x y)))
noncomputable def JM:D->D->(Sl->Prop)->Prop
 | .int i,.int j,Q=>Q (.fz (.bool (decide (i=j))))
 | .list xs,y,Q=>Bk (.list xs) y Q
 | .tuple xs,y,Q=>Bk (.tuple xs) y Q
 | .str x,.str y,Q=>Q (.fz (.bool (decide (x=y))))
 | x,y,Q=>Bk x y Q
noncomputable def KM:D->D->(Sl->Prop)->Prop
 | .int i,.int j,Q=>Q (.fz (.bool (!decide (i=j))))
 | .list xs,y,Q=>Ck (.list xs) y Q
 | .tuple xs,y,Q=>Ck (.tuple xs) y Q
 | .str x,.str y,Q=>Q (.fz (.bool (!decide (x=y))))
 | x,y,Q=>Ck x y Q
theorem WK{K:Fg}:eX K (UY (nK KI (NW K false))) (o2 JM):=Uw λG F σ H ρ x y d e Q Qd R h1 h2 w k=>by
 have gen:Bk d e Qd->nK KI (NW K false) x y H Q:=λ⟨p1,p2,p3,p4,p5,w⟩=>.inr ⟨d,e,h1.is R.sub p1,h2.is R.sub p2,p3,p4,p5,k _ H F (.fz _) (Sub.refl _) R (Da.bl _) w⟩
 unfold JM at w
 split at w
 ·rename_i i j
  cases h1.int
  cases h2.int
  refine .inl ⟨rfl,k _ H F (.fz _) (Sub.refl _) R (Da.bl _) ?_⟩
  have e:decide (V.int i=V.int j)=decide (i=j):=by rw[jY,G6]
  rw[e];exact w
 ·exact gen w
 ·exact gen w
 ·rename_i i j
  cases h1.str
  cases h2.str
  refine .inl ⟨rfl,k _ H F (.fz _) (Sub.refl _) R (Da.bl _) ?_⟩
  have e:decide (V.str i=V.str j)=decide (i=j):=by rw[kY,G6]
  rw[e];exact w
 ·exact gen w
theorem Vw{K:Fg}:eX K (UY (nK LI (NW K true))) (o2 KM):=Uw λG F σ H ρ x y d e Q Qd R h1 h2 w k=>by
 have gen:Ck d e Qd->nK LI (NW K true) x y H Q:=λ⟨p1,p2,p3,p4,p5,w⟩=>.inr ⟨d,e,h1.is R.sub p1,h2.is R.sub p2,p3,p4,p5,k _ H F (.fz _) (Sub.refl _) R (Da.bl _) w⟩
 unfold KM at w
 split at w
 ·rename_i i j
  cases h1.int
  cases h2.int
  refine .inl ⟨rfl,k _ H F (.fz _) (Sub.refl _) R (Da.bl _) ?_⟩
  have e:decide (V.int i=V.int j)=decide (i=j):=by rw[jY,G6]
  rw[e];exact w
 ·exact gen w
 ·exact gen w
 ·rename_i i j
  cases h1.str
  cases h2.str
  refine .inl ⟨rfl,k _ H F (.fz _) (Sub.refl _) R (Da.bl _) ?_⟩
  have e:decide (V.str i=V.str j)=decide (i=j):=by rw[kY,G6]
  rw[e];exact w
 ·exact gen w
theorem nJ{X:Cx}{K:Fg}(hK:X.K=K)(hu:X.A.units+64 < cLine):OpR X (compareOp .Eq) (nK KI (NW K false)):=op_eq.or (Ox hK hu)
theorem tz{X:Cx}{K:Fg}(hK:X.K=K)(hu:X.A.units+64 < cLine):OpR X (compareOp .NotEq) (nK LI (NW K true)):=op_ne.or (Px hK hu)
section
variable {P:Program}{w:World}{K:Fg}{mg:Str->Option Value}{base:Heap}
theorem iN{x qual:Str}{st:Stmt}{f:Addr}{fd:FuncData}{N ps:List Str}{k:Nat}{con:Con}{ts:DJ}(F:Fun K x qual st f fd)(S:FnScope N ps (gQ st))
  (hb:∀(cdv:Value) (A:Around) (outer:List Env) (s:Shared) (H:Hp) (E:XK),Room k (A.deeper (envOfC qual (gQ st) s.heap.objs.size f cdv))->PSs (oU VZ P w K mg base N qual (gQ st) f cdv A outer s H E).nox (XX st) (oQ K ts))
  (hl:∀args Qd,con args Qd->args.length=ps.length) (hc:∀args Qd,con args Qd->(∀s∈args,∀d,s≠.ow d)/\ts (EH args Qd) (TY N.length args)):FnOk P w K mg base VZ (k+1) f fd ps (kQ K con):=by
 refine F.ok S (λvs H Q E h=>?_) (λcdv A outer s H vs Q E hr h=>⟨_,hb cdv A outer s H E hr,SC hc h⟩)
 obtain⟨G,F',args,Qd,R,w',_⟩:=h
 have h1:=hl args Qd w'
 have h2:=R.len
 rw[A0,A0]at h2
 rw[h2,h1]
end
noncomputable def jE:List Sl->Bool
 | []=>true
 | .ow _ :: _=>false
 | _ :: as=>jE as
theorem yQ:∀{as:List Sl},jE as=true->∀s∈as,∀d,s≠.ow d
 | .fz _ :: as,h,s,hs,d,z=>by
  rcases V0.mp hs with e|e
  ·subst e;cases z
  ·exact yQ (as:=as) h s e d z
 | .io _ :: as,h,s,hs,d,z=>by
  rcases V0.mp hs with e|e
  ·subst e;cases z
  ·exact yQ (as:=as) h s e d z
theorem DaAll.intsV{K:Fg}{F:Hp}:∀{xs:List V}{ns:List Int},DaAll K F xs (ns.map u0)->xs=ns.map V.int
 | [],[],_=>rfl
 | x :: xs,b :: bs,.cons h t=>by cases h;simp[DaAll.intsV t]
noncomputable def clean1(ρ:Ev)(i:Nat):Ev:=match ρ[i]? with
 | some (some (.io _))=>ρ
 | some _=>ρ.set i none
 | none=>ρ
noncomputable def clean(ks:List Nat)(ρ:Ev):Ev:=match ks with
 | []=>ρ
 | i :: r=>clean r (clean1 ρ i)
section
variable {K:Fg}{G:Gh}{F H:Hp}{σ:L2.St}{ρ:Ev}
theorem Rel.drop(R:Rel K G F σ H ρ){i:Nat}(hn:∀d,ρ[i]?≠some (some (Sl.io d))):Rel K G F σ H (ρ.set i none):=by
 refine ⟨by rw[A5];exact R.len,R.sub,R.sub0,R.fn,R.keep,λj d e=>?_,λj t e wt=>?_,λj d b e eb=>?_,λj b e=>?_,λj d e=>?_,λj k t u b e1 w1 e2 w2 e3 e4=>?_⟩
 ·rcases nQ e with⟨rfl,z⟩|⟨n,z⟩
  ·cases z
  ·exact R.fz j d z
 ·rcases nQ e with⟨rfl,z⟩|⟨n,z⟩
  ·cases z
  ·exact R.ow j t z wt
 ·rcases nQ e with⟨rfl,z⟩|⟨n,z⟩
  ·cases z
  ·exact R.new j d b z eb
 ·obtain⟨d',e1,e2⟩:=R.io j b e
  have n:i≠j:=λz=>by subst z;exact hn _ e1
  exact ⟨d',by rw[B1 n];exact e1,e2⟩
 ·rcases nQ e with⟨rfl,z⟩|⟨n,z⟩
  ·cases z
  ·exact R.ioi j d z
 ·rcases nQ e1 with⟨rfl,z⟩|⟨n,z⟩
  ·cases z
  ·rcases nQ e2 with⟨rfl,z'⟩|⟨n',z'⟩
   ·cases z'
   ·exact R.ap j k t u b z w1 z' w2 e3 e4
theorem Rel.clean1(R:Rel K G F σ H ρ)(i:Nat):Rel K G F σ H (clean1 ρ i):=by
 unfold L3.clean1
 split
 ·exact R
 ·rename_i e1 e2
  exact R.drop λd z=>by rw[e2]at z;cases z;exact e1 _ rfl
 ·exact R
theorem Rel.clean(ks:List Nat):∀{ρ:Ev},Rel K G F σ H ρ->Rel K G F σ H (clean ks ρ):=by
 induction ks with
 | nil=>intro ρ R;exact R
 | cons i r ih=>intro ρ R;exact ih (R.clean1 i)
end
noncomputable def GX(ks:List Nat)(g:KJ)(tb:DJ)(E:DE):List D->Ev->Prop
 | [],ρ=>E.nx ρ
 | d :: ds,ρ=>g d ρ λρ'=>tb { nx:=λρ2=>GX ks g tb E ds (clean ks ρ2),rt:=E.rt,bk:=λρ2=>E.nx (clean ks ρ2),ct:=λρ2=>GX ks g tb E ds (clean ks ρ2) } ρ'
noncomputable def uz(ks:List Nat)(ti:pH)(g:KJ)(tb:DJ):DJ:=λE ρ=>ti ρ λds ρ'=>GX ks g tb E ds (clean ks ρ')
theorem Lu{K:Fg}{ks:List Nat}{ti:pH}{g:KJ}{tb:DJ}{E:Ends}{σ:L2.St}{H:Hp}(h:oQ K (uz ks ti g tb) E σ H):Ay (pX K ti) (oX K g) (oQ K tb) E σ H:=by
 obtain⟨G,F,ρ,D,R,w,n,r,b,c⟩:=h
 refine ⟨G,F,ρ,_,R,w,λJ H1 F1 ds ρ1 s1 R1 wk w1=>?_⟩
 refine ⟨λi m σ H=>m=ds.length - i/\i<=ds.length/\∃F' ρ',Sub F1 F'/\Rel K G F' σ H ρ'/\GX ks g tb D (ds.drop i) ρ',⟨ds.length,rfl,Q3 _,F1,_,Sub.refl _,R1.clean ks,w1⟩,?_⟩
 rintro i m σ H ⟨rfl,hi,F',ρ',s',R',w'⟩
 obtain⟨hgo,hst⟩:=wk i H F' s' R'.sub
 cases e:ds[i]? with
 | none =>
  have hl:ds.length<=i:=X4.mp e
  refine .inl ⟨hst (by omega),?_⟩
  rw[t7 hl]at w'
  exact n σ H F' ρ' (s1.trans s') R' w'
 | some d =>
  obtain⟨go,yl⟩:=hgo d e
  have hl:=IX e
  rw[vU e]at w'
  refine .inr ⟨go,λσ2 H2=>∃F2 ρ2,Sub F1 F2/\Rel K G F2 σ2 H2 ρ2/\GX ks g tb D (ds.drop (i+1)) ρ2,λσ2 H2 ⟨F2,ρ2,z1,z2,z3⟩=>⟨ds.length - (i+1),by omega,rfl,hl,F2,ρ2,z1,z2,z3⟩,λx H2 y=>?_⟩
  obtain⟨F2,t1,t2,t3,t4,t5⟩:=yl x H2 y
  have R2:=R'.turn t1 t2 t3 t4
  refine ⟨G,F2,ρ',d,_,R2,t5,w',λσ3 ρ3 R3 w3=>?_⟩
  refine ⟨G,F2,ρ3,_,R3,w3,λσ4 H4 F4 ρ4 s4 R4 q=>?_,λv σ4 H4 F4 x4 ρ4 s4 R4 r4 q=>?_,λσ4 H4 F4 ρ4 s4 R4 q=>?_,λσ4 H4 F4 ρ4 s4 R4 q=>?_⟩
  ·exact ⟨F4,_,s'.trans (t1.trans s4),R4.clean ks,q⟩
  ·exact r v σ4 H4 F4 x4 ρ4 (s1.trans (s'.trans (t1.trans s4))) R4 r4 q
  ·exact n σ4 H4 F4 _ (s1.trans (s'.trans (t1.trans s4))) (R4.clean ks) q
  ·exact ⟨F4,_,s'.trans (t1.trans s4),R4.clean ks,q⟩
theorem Dk{X:Cx}{K:Fg}{st:Stmt}{t:DJ}(ks:List Nat){ti:pH}{g:KJ}(h:PS X st (Ay (pX K ti) (oX K g) (oQ K t))):PS X st (oQ K (uz ks ti g t)):=xD h Lu
theorem LX{ks:List Nat}{g:KJ}{tb:DJ}{E:DE}(J:List D->Ev->Prop)
  (hs:∀d ds ρ,J (d :: ds) ρ->∀N:Ev->Prop,(∀ρ2,J ds ρ2->N ρ2)->g d ρ λρ'=>tb { nx:=λρ2=>N (clean ks ρ2),rt:=E.rt,bk:=λρ2=>E.nx (clean ks ρ2),ct:=λρ2=>N (clean ks ρ2) } ρ')
  (hd:∀ρ,J [] ρ->E.nx ρ):∀{ds:List D}{ρ:Ev},J ds ρ->GX ks g tb E ds ρ
 | [],ρ,h=>hd ρ h
 | d :: ds,ρ,h=>hs d ds ρ h _ λρ2 h2=>LX J hs hd h2
noncomputable def hZ(n:Nat)(g:KJ)(tc:UK)(te:TD):List D->List D->Ev->(List D->Ev->Prop)->Prop
 | [],acc,τ,Q=>Q acc τ
 | d :: ds,acc,τ,Q=>g d τ λτ1=>tc τ1 λb τ2=>if b=true then te τ2 λr τ3=>hZ n g tc te ds (acc++[r.d]) (clean (X2 n) τ3) Q else hZ n g tc te ds acc (clean (X2 n) τ2) Q
noncomputable def YY(ti:pH)(own:List Str)(fr:List Nat)(g:KJ)(tc:UK)(te:TD):TD:=λρ Q=>ti ρ λds ρ1=>ds.length<=sizeLine/\hZ own.length g tc te ds [] (OY own fr ρ1) λys τ=>Q (.ow (.list ys)) (HK fr (τ.drop own.length) 0 ρ1)
theorem dF{K:Fg}{ti:pH}{own:List Str}{fr:List Nat}{g:KJ}{tc:UK}{te:TD}(nd:fr.Nodup){σ:L2.St}{H:Hp}{Q:VK}(h:lift K (YY ti own fr g tc te) σ H Q):MY (pX K ti) own fr (oX K g) (vQ K tc) (lift K te) σ H Q:=by
 obtain⟨G,F,ρ,Qd,R,w,k⟩:=h
 refine ⟨G,F,ρ,_,R,w,λJ H1 F1 ds ρ1 s1 R1 wk ⟨hz,w1⟩=>?_⟩
 have Ri:=R1.inner (own:=own) nd
 refine ⟨λi m ys τ H=>m=ds.length - i/\i<=ds.length/\∃F' ρ' acc,Rel K (ax own fr F1 H1 σ ρ1) F' τ H ρ'/\DaAll K F' ys acc/\acc.length<=i/\hZ own.length g tc te (ds.drop i) acc ρ' (λys τ=>Qd (.ow (.list ys)) (HK fr (τ.drop own.length) 0 ρ1)),
   ⟨ds.length,rfl,Q3 _,F1,_,[],Ri,.nil,Q3 _,w1⟩,?_⟩
 rintro i m ys τ H' ⟨rfl,hi,F',ρ',acc,R',da,hl,w'⟩
 obtain⟨hgo,hst⟩:=wk i H' F' R'.sub0 R'.sub
 cases e:ds[i]? with
 | none =>
  have hl':ds.length<=i:=X4.mp e
  refine .inl ⟨hst (by omega),λDd hD=>?_⟩
  rw[t7 hl']at w'
  have Ro:=R1.outer R' nd
  obtain⟨Rn,rn⟩:=Ro.newOw (o:=.lst ys) (d:=.list acc) hD da
  exact k _ _ F' _ _ (s1.trans R'.sub0) Rn rn w'
 | some d =>
  obtain⟨go,yl⟩:=hgo d e
  have hlt:=IX e
  rw[vU e]at w'
  refine .inr ⟨go,by rw[da.length];omega,λys2 τ2 H2=>∃F2 ρ2 acc2,Rel K (ax own fr F1 H1 σ ρ1) F2 τ2 H2 ρ2/\DaAll K F2 ys2 acc2/\acc2.length<=i+1/\hZ own.length g tc te (ds.drop (i+1)) acc2 ρ2 (λys τ=>Qd (.ow (.list ys)) (HK fr (τ.drop own.length) 0 ρ1)),
    λys2 τ2 H2 ⟨F2,ρ2,acc2,z1,z2,z3,z4⟩=>⟨ds.length - (i+1),by omega,rfl,hlt,F2,ρ2,acc2,z1,z2,z3,z4⟩,λx H2 y=>?_⟩
  obtain⟨F2,t1,t2,t3,t4,t5⟩:=yl x H2 y
  have R2:=R'.turn t1 t2 t3 t4
  refine ⟨_,F2,ρ',d,_,R2,t5,w',λτ3 ρ3 R3 w3=>?_⟩
  refine ⟨_,F2,ρ3,_,R3,w3,λb H4 F4 ρ4 s4 R4 w4=>?_⟩
  cases b with
  | false=>exact ⟨F4,_,acc,R4.clean _,da.mono (t1.trans s4),by omega,w4⟩
  | true =>
   refine ⟨_,F4,ρ4,_,R4,w4,λv H5 F5 r ρ5 s5 R5 r5 w5=>?_⟩
   obtain⟨F6,s6,R6,d6⟩:=r5.frz R5
   exact ⟨F6,_,acc++[r.d],R6.clean _,(da.mono (t1.trans (s4.trans (s5.trans s6)))).append (.cons d6 .nil),by simp;omega,w5⟩
section
variable {X:Cx}{K:Fg}{e:Expr}{st:Stmt}{ti:pH}{own:List Str}{fr:List Nat}{g:KJ}{tc:UK}{te:TD}
theorem vz(nd:fr.Nodup)(h:PE X e (MY (pX K ti) own fr (oX K g) (vQ K tc) (lift K te))):PE X e (lift K (YY ti own fr g tc te)):=MV h (dF nd)
theorem wz{i:Nat}(nd:fr.Nodup)(h:PS X st (bY (MY (pX K ti) own fr (oX K g) (vQ K tc) (lift K te)) (yZ i))):PS X st (oQ K (az i (YY ti own fr g tc te))):=xD h λq=>dF nd (Tw q)
end
theorem xz{n:Nat}{g:KJ}{tc:UK}{te:TD}{Q:List D->Ev->Prop}(J:List D->List D->Ev->Prop)
  (hs:∀d ds acc τ,J (d :: ds) acc τ->∀N:List D->Ev->Prop,(∀acc2 τ2,J ds acc2 τ2->N acc2 τ2)->g d τ λτ1=>tc τ1 λb τ2=>if b=true then te τ2 λr τ3=>N (acc++[r.d]) (clean (X2 n) τ3) else N acc (clean (X2 n) τ2))
  (hd:∀acc τ,J [] acc τ->Q acc τ):∀{ds acc:List D}{τ:Ev},J ds acc τ->hZ n g tc te ds acc τ Q
 | [],acc,τ,h=>hd acc τ h
 | d :: ds,acc,τ,h=>hs d ds acc τ h _ λacc2 τ2 h2=>xz J hs hd h2
theorem EU{n:Nat}{g:KJ}{te:TD}{Q:List D->Ev->Prop}(J:List D->List D->Ev->Prop)
  (hs:∀d ds acc τ,J (d :: ds) acc τ->∀N:List D->Ev->Prop,(∀acc2 τ2,J ds acc2 τ2->N acc2 τ2)->g d τ λτ1=>te τ1 λr τ3=>N (acc++[r.d]) (clean (X2 n) τ3))
  (hd:∀acc τ,J [] acc τ->Q acc τ) {ds acc:List D}{τ:Ev} (h:J ds acc τ):hZ n g iD te ds acc τ Q :=
 xz J (λd ds acc τ h N hN=>by
   have q:=hs d ds acc τ h N hN
   have e:(λτ1=>te τ1 λr τ3=>N (acc++[r.d]) (clean (X2 n) τ3))=λτ1=>iD τ1 λb τ2=>if b=true then te τ2 (λr τ3=>N (acc++[r.d]) (clean (X2 n) τ3)) else N acc (clean (X2 n) τ2):=by
     funext τ1
     show _=(if true=true then te τ1 (λr τ3=>N (acc++[r.d]) (clean (X2 n) τ3)) else N acc (clean (X2 n) τ1))
     rw[if_pos rfl]
   rw[<- e]
   exact q) hd h
theorem XZ{n:Nat}{g:KJ}{te:TD}{Q:List D->Ev->Prop}(f:D->D){τ:Ev}{ds:List D}
  (hs:∀d∈ds,∀N:D->Ev->Prop,N (f d) τ->g d τ λτ1=>te τ1 λr τ3=>N r.d (clean (X2 n) τ3))
  (hd:Q (ds.map f) τ):hZ n g iD te ds [] τ Q:=by
 refine EU (λrest acc τ'=>τ'=τ/\∃pre,ds=pre++rest/\acc=pre.map f) ?_ ?_ ⟨rfl,[],rfl,rfl⟩
 ·rintro d ds' acc τ' ⟨rfl,pre,e,rfl⟩ N hN
  exact hs d (by rw[e];simp) (λx τ3=>N (pre.map f++[x]) τ3) (hN _ _ ⟨rfl,pre++[d],by rw[e];simp,by simp⟩)
 ·rintro acc τ' ⟨rfl,pre,e,rfl⟩
  rw[Q1]at e
  subst e
  exact hd
theorem kE{n:Nat}{g:KJ}{tc:UK}{te:TD}{Q:List D->Ev->Prop}(p:D->Bool)(f:D->D){τ:Ev}{ds:List D}
  (hs:∀d∈ds,∀(N:D->Ev->Prop) (M:Ev->Prop),(p d=true->N (f d) τ)->(p d=false->M τ)->g d τ λτ1=>tc τ1 λb τ2=>if b=true then te τ2 λr τ3=>N r.d (clean (X2 n) τ3) else M (clean (X2 n) τ2))
  (hd:Q ((ds.filter p).map f) τ):hZ n g tc te ds [] τ Q:=by
 refine xz (λrest acc τ'=>τ'=τ/\∃pre,ds=pre++rest/\acc=(pre.filter p).map f) ?_ ?_ ⟨rfl,[],rfl,rfl⟩
 ·rintro d ds' acc τ' ⟨rfl,pre,e,rfl⟩ N hN
  exact hs d (by rw[e];simp) (λx τ3=>N ((pre.filter p).map f++[x]) τ3) (λτ3=>N ((pre.filter p).map f) τ3) (λhp=>hN _ _ ⟨rfl,pre++[d],by rw[e];simp,by simp[hp]⟩)
   (λhp=>hN _ _ ⟨rfl,pre++[d],by rw[e];simp,by simp[hp]⟩)
 ·rintro acc τ' ⟨rfl,pre,e,rfl⟩
  rw[Q1]at e
  subst e
  exact hd
noncomputable def Ww(K:Fg):List V->Hp->VK->Prop:=λxs H Q=>∃(x:V) (d:PyData),xs=[x]/\Is K H x d/\d.showable=true/\d.hasDict=false/\d.depth+1<=64/\d.shown.length<=sizeLine/\Q (.str d.shown) H
theorem MZ{X:Cx}{K:Fg}{k:Nat}(hK:X.K=K)(hr:Room k X.A):BX X (.builtin "repr") (Ww K):=by
 subst hK
 intro pins s σ H xs us Q I r h
 obtain⟨x,d,rfl,hd,hs,hn,hz,hl,q⟩:=h
 obtain⟨u,rfl,ru⟩:=aJ r
 obtain⟨as,ra⟩:=hd.reads I ru
 have hu:=hr.units
 cases hd with
 | non=>cases ru;exact PySem.P.repr_of_none ⟨.str _,H,I.tok _,⟨_,rfl⟩,q⟩
 | bl b=>cases ru;exact PySem.P.repr_of_bool ⟨.str _,H,I.tok _,⟨_,rfl⟩,by cases b<;>exact q⟩
 | int i =>
  obtain⟨t,rfl⟩:=ru
  exact PySem.P.repr_of_int (by simpa [PyData.showable]using hs) ⟨.str _,H,I.tok _,⟨_,rfl⟩,q⟩
 | str x =>
  obtain⟨t,rfl⟩:=ru
  exact PySem.P.repr_of_str ⟨.str _,H,I.tok _,⟨_,rfl⟩,q⟩ hl
 | lst _ _ =>
  cases ru
  exact repr_of_reads' ra hs (λz=>by rw[hn]at z;cases z) hr.gd (by omega) (λ_ _ e=>e) (λh' u tk hk=>⟨.str _,H,I.kept hk,⟨u,rfl⟩,q⟩) hl
 | tup _ _ =>
  cases ru
  exact repr_of_reads' ra hs (λz=>by rw[hn]at z;cases z) hr.gd (by omega) (λ_ _ e=>e) (λh' u tk hk=>⟨.str _,H,I.kept hk,⟨u,rfl⟩,q⟩) hl
noncomputable def lE(d:D)(Q:Sl->Prop):Prop:=HQ d=true/\d.showable=true/\d.depth+1<=64/\d.shown.length<=sizeLine/\Q (.fz (.str d.shown))
mutual
theorem pK:∀{d:D},HQ d=true->d.hasDict=false
 | .none,_=>rfl
 | .bool _,_=>rfl
 | .int _,_=>rfl
 | .str _,_=>rfl
 | .list xs,h=>by
  have:=plainAll_noDict (xs:=xs) (by simpa [HQ]using h)
  simpa [PyData.hasDict]using this
 | .tuple xs,h=>by
  have:=plainAll_noDict (xs:=xs) (by simpa [HQ]using h)
  simpa [PyData.hasDict]using this
 | .dict _,h=>by simp[HQ]at h
theorem plainAll_noDict:∀{xs:List D},plainAll xs=true->V9 xs=false
 | [],_=>rfl
 | x :: xs,h=>by
  simp[plainAll]at h
  simp[V9,pK h.1,plainAll_noDict h.2]
end
theorem oY{K:Fg}:eX K (Ww K) (o1 lE):=bx λG F σ H ρ x d Q Qd R h1 w k=>by
 obtain⟨p1,p2,p3,p4,w⟩:=w
 exact ⟨x,d,rfl,h1.is R.sub p1,p2,pK p1,p3,p4,k _ H F (.fz _) (Sub.refl _) R (Da.str _) w⟩
structure WE(X:Cx)(e:Expr)(t:TE):Prop where
 h:PE X e t
structure WA(X:Cx)(es:List Expr)(t:TA):Prop where
 h:PA X es t
structure WT(X:Cx)(e:Expr)(t:TT):Prop where
 h:PT X e t
structure WW(X:Cx)(e:Expr)(t:TT):Prop where
 h:PW X e t
structure WS(X:Cx)(s:Stmt)(t:TS):Prop where
 h:PS X s t
structure WSs(X:Cx)(s:List Stmt)(t:TS):Prop where
 h:PSs X s t
structure WG(X:Cx)(e:Expr)(t:TG):Prop where
 h:PG X e t
structure WGs(X:Cx)(es:List Expr)(t:Yj):Prop where
 h:Qw X es t
structure WI(X:Cx)(g e:Expr)(t:TI):Prop where
 h:PI X g e t
structure WIf(X:Cx)(es:List Expr)(t:TT):Prop where
 h:Mq X es t
section
variable {X:Cx}{K:Fg}{e e1 e2 e3:Expr}{es:List Expr}{a b c:AD}{as:List AD}{td te tf:TD}{tc tc':UK}{st:Stmt}{sts:List Stmt}{t u:DJ}{p pos pos' p2 apos cpos tpos:Pos}{x:Str}{tg:Expr}
theorem wn(i:Nat)(hN:X.N[i]?=some x:=by rfl)(hv:cC X.env.scope x:=by first|exact Or.inl rfl|exact Or.inr (Or.inl rfl)|exact Or.inr (Or.inr rfl))(hd:(x==("__debug__":Str))=false:=by decide)
  (hcd:(x==("__classdict__":Str))=false:=by decide):WE X (.Name x pos) (uQ K (.inl i)):=⟨dq hN hv hd hcd⟩
theorem wv(i:Nat)(hN:X.N[i]?=some x:=by rfl)(hv:cC X.env.scope x:=by first|exact Or.inl rfl|exact Or.inr (Or.inl rfl)|exact Or.inr (Or.inr rfl))(hd:(x==("__debug__":Str))=false:=by decide)
  (hcd:(x==("__classdict__":Str))=false:=by decide):WE X (.Name x pos) (lift K (Qx i)):=⟨xu (dq hN hv hd hcd)⟩
theorem wx(h:WE X e (lift K td)):WE X e (uQ K (.inr td)):=⟨h.h⟩
theorem bQ:WA X [] (CQ (([]:List AD).map (uQ K))):=⟨DV⟩
theorem aQ(ha:WE X e (uQ K a))(hr:WA X es (CQ (as.map (uQ K))))(hs:EQ e=true:=by rfl):WA X (e :: es) (CQ ((a :: as).map (uQ K))):=⟨ik ha.h hr.h (tQ hs)⟩
theorem cQ{i:Int}{k:Nat}:WE X (.Constant (.int i) k pos) (lift K (dC (.int i))):=⟨yu (λ_=>.int _) Zv⟩
theorem eY{b:Bool}{k:Nat}:WE X (.Constant (.bool b) k pos) (lift K (dC (.bool b))):=⟨yu (λ_=>.bl _) Pw⟩
theorem mE{k:Nat}:WE X (.Constant .none k pos) (lift K (dC .none)):=⟨yu (λ_=>.non) ay⟩
theorem w_bin{op:Operator}{r:R2}{f:D->D->(Sl->Prop)->Prop}(ok:eX K (UY r) (o2 f))(ho:OpR X (binaryOp op) r)(ha:WE X e1 (uQ K a))(hb:WE X e2 (uQ K b)):WE X (.BinOp e1 op e2 pos) (lift K (UG [a,b] (o2 f))):=⟨LL ok (kC ho ha.h hb.h)⟩
theorem yz{op:CmpOp}{r:R2}{f:D->D->(Sl->Prop)->Prop}(ok:eX K (UY r) (o2 f))(ho:OpR X (compareOp op) r)(ha:WE X e1 (uQ K a))(hb:WE X e2 (uQ K b))(hm:op≠.In:=by decide)(hm2:op≠.NotIn:=by decide):WE X (.Compare e1 [op] [e2] pos) (lift K (UG [a,b] (o2 f))):=⟨LL ok (vx ho ha.h hb.h (wq _ hm hm2))⟩
theorem Xw{op:BoolOp}{tr:TE}(h:WE X e tr):WE X (.BoolOp op [e] pos) tr:=⟨oy h.h⟩
theorem nE{rest:List Expr}(ha:WE X e1 (lift K td))(hb:WE X (.BoolOp .And (e2 :: rest) pos) (lift K te)):WE X (.BoolOp .And (e1 :: e2 :: rest) pos) (lift K (Xq td te)):=⟨Bu (qy ha.h hb.h)⟩
theorem OL{rest:List Expr}(ha:WE X e1 (lift K td))(hb:WE X (.BoolOp .Or (e2 :: rest) pos) (lift K te)):WE X (.BoolOp .Or (e1 :: e2 :: rest) pos) (lift K (au td te)):=⟨ZC (gC ha.h hb.h)⟩
theorem iZ{k:Nat}{ps:List Str}{con:Con}(C:Cal X.prog X.w X.K X.mg X.base k x ps (kQ K con))(hr:Room k X.A)(ha:WA X (e :: es) (CQ (as.map (uQ K))))(hg:Gl X x:=by rfl)(hdb:(x==("__debug__":Str))=false:=by decide)
  (he:EQ e=true:=by rfl) (hpl:es.all EQ=true:=by rfl):WE X (.Call (.Name x p) (e :: es) [] pos) (lift K (iz con as)):=⟨aE (sU C hr ha.h hg hdb (tQ he) (gX hpl))⟩
theorem YX{k i:Nat}{ps:List Str}{con:Con}(C:Cal X.prog X.w X.K X.mg X.base k x ps (kQ K con))(hr:Room k X.A)(ha:WA X (e :: es) (CQ ((Sum.inl i :: as).map (uQ K))))(hg:Gl X x:=by rfl)(hdb:(x==("__debug__":Str))=false:=by decide)
  (he:EQ e=true:=by rfl) (hpl:es.all EQ=true:=by rfl):WE X (.Call (.Name x p) (e :: es) [] pos) (lift K (JV con i as)):=⟨Cu (sU C hr ha.h hg hdb (tQ he) (gX hpl))⟩
theorem DQ{id:String}{r:List V->Hp->VK->Prop}{f:List D->(Sl->Prop)->Prop}(ok:eX K r f)(hc:BX X (.builtin id) r)(hm:X.mg x=none)(hv:bootBuiltins x=some (.builtin id))(ha:WA X (e :: es) (CQ (as.map (uQ K))))(hg:Gl X x:=by rfl)(hn:x ≠ "__name__":=by decide)(hdb:(x==("__debug__":Str))=false:=by decide)
  (he:EQ e=true:=by rfl) (hpl:es.all EQ=true:=by rfl):WE X (.Call (.Name x p) (e :: es) [] pos) (lift K (UG as f)):=⟨IM ok (pU hc hg hm hv ha.h hn hdb (tQ he) (gX hpl))⟩
theorem kX{T:String}{r:List V->Hp->VK->Prop}{f:List D->(Sl->Prop)->Prop}(ok:eX K r f)(hc:BX X (.type T) r)(hm:X.mg x=none)(hv:bootBuiltins x=some (.type T))(ha:WA X (e :: es) (CQ (as.map (uQ K))))(hg:Gl X x:=by rfl)(hn:x ≠ "__name__":=by decide)(hdb:(x==("__debug__":Str))=false:=by decide)
  (he:EQ e=true:=by rfl) (hpl:es.all EQ=true:=by rfl):WE X (.Call (.Name x p) (e :: es) [] pos) (lift K (UG as f)):=⟨IM ok (jV hc hg hm hv ha.h hn hdb (tQ he) (gX hpl))⟩
theorem dX(hK:X.K=K)(ha:WE X e1 (uQ K a))(hb:WE X e2 (uQ K b))(hs:JG e2:=by exact λ_ _=>rfl):WE X (.Subscript e1 e2 pos) (lift K (UG [a,b] (o2 EM))):=⟨LL TC (vC (Ak hK) ha.h hb.h hs)⟩
theorem AX{k:Nat}(h:WA X es (CQ (as.map (uQ K))))(hl:as.length<=1000:=by decide):WE X (.Tuple es k pos) (lift K (uD as mz)):=⟨zu hl (Bq h.h)⟩
theorem jX(h:WA X es (CQ (as.map (uQ K))))(hl:as.length<=1000:=by decide):WE X (.List es pos) (lift K (uD as nz)):=⟨Au hl (Fy h.h)⟩
theorem iX{elt iter:Expr}{ifs:List Expr}{sc:Scope}{own:List Str}{fr:List Nat}{ti:pH}{g:KJ}(hc:X.calm=true)(S:HV X.env.scope X.N fr sc=true)(hi:WI X tg iter (pX K ti))(hg:∀C s H ex,WG (AQ X own fr sc C s H ex) tg (oX K g))
  (hif:∀C s H ex,WIf (AQ X own fr sc C s H ex) ifs (vQ K tc)) (he:∀C s H ex,WE (AQ X own fr sc C s H ex) elt (lift K te)) (nd:fr.Nodup:=by decide) (hs:LV iter=true:=by rfl):WE X (.ListComp elt [⟨tg,iter,ifs,0⟩] sc pos) (lift K (YY ti own fr g tc te)) :=
 ⟨vz nd (Oq hc (nV S) hi.h (λC s H ex=>(hg C s H ex).h) (λC s H ex=>(hif C s H ex).h) (λC s H ex=>(he C s H ex).h) (JK hs))⟩
theorem Mu{name:Str}{id:String}{i:Nat}{r:V->List V->Hp->VK->Prop}{f:List D->List D->(D->D->Prop)->Prop}(ok:WC K r f)(hK:X.K=K)(slot:Slot "list" name id)(hty:typeOf (.builtin id)=pure (.type "method_descriptor"))(hm:zM X id r)(ho:WE X (.Name x p) (uQ K (.inl i)))(ha:WA X (e :: es) (CQ (as.map (uQ K))))
  (hbase:attributeBase (.Name x p) name X.env (eval (.Name x p) X.env)=eval (.Name x p) X.env:=by rfl)
  (hfew:((backTo cpos (starEach (e :: es) X.env)).all (λx=>!x.1)&&(backToKw cpos (keywordEach [] X.env)).all (λx=>x.1.isSome)&&decide ((e :: es).length+([]:List Keyword).length+(if ([]:List Keyword).isEmpty then 0 else 1) < 30))=true:=by rfl)
  (hline:(apos.endLine==cpos.line)=true:=by rfl) (he:EQ e=true:=by rfl) (hpl:es.all EQ=true:=by rfl):WE X (.Call (.Attribute (.Name x p) name apos) (e :: es) [] cpos) (lift K (cF i as f)):=by
 subst hK
 exact ⟨ML ok (wC PySem.F.plainAttrs_list slot hty hm ho.h ha.h hbase hfew hline (tQ he) (gX hpl))⟩
theorem EX{op:CmpOp}{r:R2}{f:D->D->(Sl->Prop)->Prop}(ok:eX K (UY r) (o2 f))(ho:OpR X (compareOp op) r)(ha:WE X e1 (uQ K a))(hb:WE X e2 (uQ K b))(hm:op≠.In:=by decide)(hm2:op≠.NotIn:=by decide):WT X (.Compare e1 [op] [e2] pos) (vQ K (Wq (UG [a,b] (o2 f)))):=⟨gN ok (xx ho ha.h hb.h (wq _ hm hm2))⟩
theorem FU(h:WT X e (vQ K tc)):WT X (.UnaryOp .Not e pos) (vQ K (Yy tc)):=⟨Eu (jy h.h)⟩
theorem zz(h:WT X e (vQ K tc)):WW X (.BoolOp .And [e] pos) (vQ K tc):=⟨kx h.h⟩
theorem Az(h:WT X e (vQ K tc)):WW X (.BoolOp .Or [e] pos) (vQ K tc):=⟨gy h.h⟩
theorem Yw{rest:List Expr}(ha:WT X e1 (vQ K tc))(hb:WW X (.BoolOp .And (e2 :: rest) pos) (vQ K tc')):WW X (.BoolOp .And (e1 :: e2 :: rest) pos) (vQ K (Zy tc tc')):=⟨Fu (iy ha.h hb.h)⟩
theorem Ek{rest:List Expr}(ha:WT X e1 (vQ K tc))(hb:WW X (.BoolOp .Or (e2 :: rest) pos) (vQ K tc')):WW X (.BoolOp .Or (e1 :: e2 :: rest) pos) (vQ K (BL tc tc')):=⟨bE (eC ha.h hb.h)⟩
theorem oE{tt:TT}(h:WW X e tt):WT X e tt:=⟨h.h.pt⟩
theorem GU(h:WE X e (lift K td))(he:∀whole,isTrue e X.env whole=(do let v<-whole;standAt e.pos;holding [v] (truthy v)):=by intro _;rfl):WT X e (vQ K (Wq td)):=⟨Du (cy h.h he)⟩
theorem lQ{i:Nat}(hN:X.N.Nodup)(hi:X.N[i]?=some x)(hx:ix X.env.scope x)(hf:X.fn x=true\/X.env.scope.names.lookup x=some .local:=by first|exact .inl rfl|exact .inr rfl|assumption):WG X (.Name x pos) (oX K (PC i)):=⟨sk (BV hN hi hx hf)⟩
theorem aZ:WGs X [] (QW (([]:List KJ).map (oX K))):=⟨EG⟩
theorem zQ{g:KJ}{gs:List KJ}(h1:WG X e (oX K g))(h2:WGs X es (QW (gs.map (oX K))))(hs:(assignEach (e :: es) X.env).map (·.2)=assign e X.env :: (assignEach es X.env).map (·.2):=by rfl):WGs X (e :: es) (QW ((g :: gs).map (oX K))):=⟨rz h1.h h2.h hs⟩
theorem UZ{gs:List KJ}{k:Nat}(hK:X.K=K)(hc:X.calm=true)(hh:WGs X es (QW (gs.map (oX K))))(hn:(assignEach es X.env).length=gs.length:=by rfl)(hst:(assignEach es X.env).findIdx? (·.1)=none:=by rfl):WG X (.Tuple es k pos) (oX K (MI gs)):=⟨Ju (RG hK hc hh.h hn hst) rfl⟩
theorem HW:WIf X [] (vQ K iD):=⟨uk⟩
theorem LM(h:WT X e (vQ K tc)):WIf X [e] (vQ K tc):=⟨Ty h.h⟩
theorem qX(hK:X.K=K)(hl:WE X e (lift K td)):WI X tg e (pX K (oz td)):=⟨Ku hK hl.h⟩
theorem NJ(hm:X.mg "range"=none)(ha:WA X [e1] (CQ ([a].map (uQ K))))(hg:Gl X "range":=by rfl)(he:EQ e1=true:=by rfl):WI X tg (.Call (.Name "range" p) [e1] [] pos) (pX K (IH a)):=⟨xk (SF hg hm ha.h (by rw[tQ he];rfl))⟩
theorem KK{ts:List Expr}{kk:Nat}(hK:X.K=K)(hm:X.mg "zip"=none)(ha:WA X [e1,e2] (CQ ([a,b].map (uQ K))))(hg:Gl X "zip":=by rfl)(he:EQ e1=true:=by rfl)(hpl:[e2].all EQ=true:=by rfl):WI X (.Tuple ts kk tpos) (.Call (.Name "zip" p) [e1,e2] [] pos) (pX K (KH a b)):=⟨yk (Qq hK hg hm ha.h (tQ he) (gX hpl))⟩
theorem QH{ts:List Expr}{kk:Nat}(hK:X.K=K)(hm:X.mg "zip"=none)(ha:WA X [e1,e2,e3] (CQ ([a,b,c].map (uQ K))))(hg:Gl X "zip":=by rfl)(he:EQ e1=true:=by rfl)(hpl:[e2,e3].all EQ=true:=by rfl):WI X (.Tuple ts kk tpos) (.Call (.Name "zip" p) [e1,e2,e3] [] pos) (pX K (NH a b c)):=⟨zk (Rq hK hg hm ha.h (tQ he) (gX hpl))⟩
theorem nZ:WSs X [] (oQ K Yq):=⟨jk ox⟩
theorem pQ{tr:TS}(h:WS X st tr):WSs X [st] tr:=⟨qx h.h⟩
theorem eQ(h:WS X st (oQ K t))(h2:WSs X sts (oQ K u)):WSs X (st :: sts) (oQ K (Rx t u)):=⟨Gu (iq h.h h2.h)⟩
theorem XQ(h:WE X e (lift K td)):WS X (.Return (some e) pos) (oQ K (cu td)):=⟨Hu (mq h.h)⟩
theorem OJ{i:Nat}(h:WE X e (uQ K (.inl i))):WS X (.Return (some e) pos) (oQ K (VG i)):=⟨nk (mq h.h)⟩
theorem PJ(h:WE X e (lift K td))(hs:yJ e=true:=by rfl):WS X (.Expr e pos) (oQ K (Zq td)):=⟨qk (sx h.h (mJ hs))⟩
theorem BJ{sa sb:List Stmt}(hc:WT X e (vQ K tc))(ha:WSs X sa (oQ K t))(hb:WSs X sb (oQ K u)):WS X (.If e sa sb pos) (oQ K (du tc t u)):=⟨cE (iC hc.h ha.h hb.h)⟩
theorem RX{iter:Expr}{body:List Stmt}(ks:List Nat){ti:pH}{g:KJ}(hp:PassesOwn (model X.prog X.w) X.A X.env X.xe)(hc:X.calm=true)(hi:WI X tg iter (pX K ti))(hg:WG X tg (oX K g))(hb:WSs X body (oQ K t))(hs:LV iter=true:=by rfl):WS X (.For tg iter body [] pos) (oQ K (uz ks ti g t)):=⟨Dk ks (By hp hc hi.h hg.h hb.h (JK hs))⟩
theorem fF{body:List Stmt}(hp:PassesOwn (model X.prog X.w) X.A X.env X.xe)(hc:WT X e (vQ K tc))(hb:WSs X body (oQ K t)):WS X (.While e body [] pos) (oQ K (BH tc t)):=⟨qz (rq hp hc.h hb.h)⟩
theorem wQ{i:Nat}(hN:X.N.Nodup)(hi:X.N[i]?=some x)(hx:ix X.env.scope x)(he:WE X e (lift K td))(hs:yJ e=true:=by rfl)(hf:X.fn x=true\/X.env.scope.names.lookup x=some .local:=by first|exact .inl rfl|exact .inr rfl|assumption):WS X (.Assign [.Name x pos'] e pos) (oQ K (az i td)):=⟨Iu (qq hN hi hx he.h (mJ hs) hf)⟩
theorem ZY{i j:Nat}(hN:X.N.Nodup)(hi:X.N[i]?=some x)(hx:ix X.env.scope x)(he:WE X e (uQ K (.inl j)))(hs:yJ e=true:=by rfl)(hf:X.fn x=true\/X.env.scope.names.lookup x=some .local:=by first|exact .inl rfl|exact .inr rfl|assumption):WS X (.Assign [.Name x pos'] e pos) (oQ K (XG i j)):=⟨pk (qq hN hi hx he.h (mJ hs) hf)⟩
theorem NV{elt iter:Expr}{ifs:List Expr}{sc:Scope}{own:List Str}{fr:List Nat}{ti:pH}{g:KJ}{i:Nat}(hN:X.N.Nodup)(hy:X.N[i]?=some x)(hl:X.env.scope.names.lookup x=some .local)(hc:X.calm=true)(S:HV X.env.scope X.N fr sc=true)(hi:WI X tg iter (pX K ti))(hg:∀C s H ex,WG (AQ X own fr sc C s H ex) tg (oX K g))
  (hif:∀C s H ex,WIf (AQ X own fr sc C s H ex) ifs (vQ K tc)) (he:∀C s H ex,WE (AQ X own fr sc C s H ex) elt (lift K te)) (nd:fr.Nodup:=by decide) (hs:LV iter=true:=by rfl) (hsw:swapsWith (.ListComp elt [⟨tg,iter,ifs,0⟩] sc p) (some (.Name x pos')) pos.line X.env=pure true:=by rfl) :
  WS X (.Assign [.Name x pos'] (.ListComp elt [⟨tg,iter,ifs,0⟩] sc p) pos) (oQ K (az i (YY ti own fr g tc te))) :=
 ⟨wz nd (tU hN hy hl hc (nV S) hi.h (λC s H ex=>(hg C s H ex).h) (λC s H ex=>(hif C s H ex).h) (λC s H ex=>(he C s H ex).h) hsw (JK hs))⟩
theorem Nu{j:Nat}(he:WE X e (lift K td))(ho:WE X e1 (uQ K (.inl j)))(hi:WE X e2 (uQ K a))(hs:swapsWithSole [.Subscript e1 e2 pos'] e pos.line X.env=pure false:=by rfl)(hw:swappedStores [.Subscript e1 e2 pos'] e X.env=pure none:=by rfl)
  (ha:∀v,assign (.Subscript e1 e2 pos') X.env v=(do
    let ov<-holding [v] (eval e1 X.env)
    let iv<-holding [v,ov] (eval e2 X.env)
    standAt pos'
    holding [v,ov,iv] (setItem ov iv v)
    release [v,ov,iv] []):=by intro _;rfl) (h1:(assignEach [.Subscript e1 e2 pos'] X.env).map (·.2)=[assign (.Subscript e1 e2 pos') X.env]:=by rfl):WS X (.Assign [.Subscript e1 e2 pos'] e pos) (oQ K (GH j a td)):=⟨dE (oq he.h (zy ho.h hi.h Gq ha) hs hw h1)⟩
end
section
variable {P:Program}{w:World}{K:Fg}{mg:Str->Option Value}{base:Heap}
theorem fY{x qual:Str}{st:Stmt}{f:Addr}{fd:FuncData}{N ps:List Str}{k:Nat}{con:Con}{ts:DJ}(F:Fun K x qual st f fd)(S:FnScope N ps (gQ st))
  (hb:∀(cdv:Value) (A:Around) (outer:List Env) (s:Shared) (H:Hp) (E:XK),Room k (A.deeper (envOfC qual (gQ st) s.heap.objs.size f cdv))->WSs (oU VZ P w K mg base N qual (gQ st) f cdv A outer s H E).nox (XX st) (oQ K ts))
  (hl:∀args Qd,con args Qd->args.length=ps.length) (hc:∀args Qd,con args Qd->(∀s∈args,∀d,s≠.ow d)/\ts (EH args Qd) (TY N.length args)):FnOk P w K mg base VZ (k+1) f fd ps (kQ K con) :=
 iN F S (λcdv A outer s H E hr=>(hb cdv A outer s H E hr).h) hl hc
end
end L3
namespace L2
open PySem PySem.Spec PyProof.Rows
theorem SX:plainId "dict.update.loop"=true:=by decide +kernel
theorem oJ:entryFor table "dict.update.loop"=some Builtin.«dict.update.loop»:=entryFor_of_tree (by kernel_rfl)
section
variable {prog:Program}{w:World}{A:Around}{E:Value->Shared->Prop}{s:Shared}
end
section
variable {prog:Program}{w:World}{A:Around}{R:Result->Shared->Prop}{I:Addr}{fp wr:List Addr}{n:Nat}{P:Nat->Value->Prop}{St:Nat->Heap->Prop}
end
theorem Vals.getV:∀{xs:List V}{us:List Value}{i:Nat}{u:Value},Vals xs us->us[i]?=some u->∃x,xs[i]?=some x/\RelV x u
 | _,_,0,_,.cons r _,e=>⟨_,rfl,by cases e;exact r⟩
 | _,_,i+1,_,.cons _ t,e=>Vals.getV (i:=i) t e
section
variable {X:Cx}
end
noncomputable abbrev QJ(h:Heap)(z TI TO T:Addr)(fl:Bool):Prop :=
 h.get? z=some { cls:=.type "zip",dict:=none,data:=.fields #[rawInt T,.bool fl,.bool false,.ref TI,.ref TO],slots:=#[] }
section
variable {prog:Program}{w:World}{A:Around}{E:Value->Shared->Prop}{s:Shared}
theorem pE{a:Addr}{o:Obj}{Q:Option Obj->Shared->Prop}(ho:s.heap.get? a=some o)(h:Q (some o) s):wpAny (model prog w) A (loadIfAlive a) Q E s:=λΓ p _=>by
 show Sem.wp _ Γ (.loadIfAlive a λx=>.pure x) _ _ p s
 rw[Sem.wp_loadIfAlive,ho]
 exact h
theorem gF{z TI TO T:Addr}{fl:Bool}{ot:Obj}{Q:Bool->Shared->Prop}(hz:QJ s.heap z TI TO T fl)(hT:s.heap.get? T=some ot)
  (h:∀h₁,QJ h₁ z TI TO T true->J2 z s.heap h₁->Q false { s with heap:=h₁ }):wpAny (model prog w) A (G1 (.ref z)) Q E s:=by
 unfold G1
 refine wpAny_bind (wpAny_field hz rfl (x:=rawInt T) rfl ?_)
 show wpAny _ _ (loadIfAlive T >>= _) _ _ _
 refine wpAny_bind (pE hT ?_)
 rw[if_neg (show ¬((some ot).isNone=true) from J1)]
 refine wpAny_bind (wpAny_field hz rfl (x:=.bool fl) rfl ?_)
 cases fl with
 | true =>
  rw[if_neg (by decide)]
  exact wpAny_pure (h s.heap hz ⟨rfl,λ_ _=>rfl⟩)
 | false =>
  rw[if_pos (by decide)]
  exact wpAny_bind (wpAny_setField_rec hz (by simp) λh₁ hz₁ hs₁=>wpAny_pure (h h₁ hz₁ hs₁))
theorem SH{z TI TO T i1 i2 l1 l2:Addr}{fl:Bool}{k:Nat}{k1:Kd}{k2:Kd}{xs1 xs2:Array Value}{ot:Obj}{x1 x2:Value}{Q:Value->Shared->Prop}(D:ZAp2 z TI TO i1 i2 l1 l2)
  (hz:QJ s.heap z TI TO T fl) (hTI:xQ s.heap TI (.ref i1) (.ref i2)) (hT:s.heap.get? T=some ot)
  (h1:ItAt k1 s.heap i1 l1 k) (h2:ItAt k2 s.heap i2 l2 k) (hl1:SqAt k1 s.heap l1 xs1) (hl2:SqAt k2 s.heap l2 xs2) (hx1:xs1[k]?=some x1) (hx2:xs2[k]?=some x2)
  (hQ:∀h',QJ h' z TI TO T true->ItAt k1 h' i1 l1 (k+1)->ItAt k2 h' i2 l2 (k+1)->xQ h' s.heap.objs.size x1 x2->h'.objs.size=s.heap.objs.size+1 ->
    (∀c o,c≠z->c≠i1->c≠i2->s.heap.get? c=some o->h'.get? c=some o)->Q (.ref s.heap.objs.size) { s with heap:=h' }) :
  wpAny (model prog w) A (Builtin.«zip.__next__» ⟨[.ref z],[]⟩) (λfin s'=>∃v,fin=.done (.ret v)/\Q v s') E s:=by
 show wpAny _ _ (field (.ref z) 2 >>= _) _ _ _
 refine wpAny_bind (wpAny_field hz rfl (x:=.bool false) rfl ?_)
 show wpAny _ _ (field (.ref z) 3 >>= _) _ _ _
 refine wpAny_bind (wpAny_field hz rfl (x:=.ref TI) rfl ?_)
 refine wpAny_bind (wpAny_seqItems hTI rfl ?_)
 show wpAny _ _ (G1 (.ref z) >>= _) _ _ _
 refine wpAny_bind (gF hz hT λh₁ hz₁ hs₁=>?_)
 simp only[O2,if_false]
 rw[K9]
 simp only[B5,P5]
 refine wpAny_bind (wpAny_bind (wpAny_bind (wpAny_holding ?_)))
 show wpAny _ _ (Y0 (.ref i1) >>= _) _ _ _
 refine wpAny_bind (LQ (h1.at λo e=>hs₁.extBut _ o D.i1z e) (hl1.at λo e=>hs₁.extBut _ o D.l1z e) hx1 λha1 hi1 hsa1=>wpAny_pure (wpAny_pure ?_))
 refine wpAny_bind (wpAny_bind (wpAny_holding ?_))
 show wpAny _ _ (Y0 (.ref i2) >>= _) _ _ _
 refine wpAny_bind (LQ ((h2.at λo e=>hs₁.extBut _ o D.i2z e).at λo e=>hsa1.extBut _ o D.i2i1 e) ((hl2.at λo e=>hs₁.extBut _ o D.l2z e).at λo e=>hsa1.extBut _ o D.l2i1 e) hx2 λha2 hi2 hsa2=>wpAny_pure (wpAny_pure (wpAny_pure ?_)))
 refine wpAny_bind (wpAny_newTuple (hsz:=by show 2<=sizeLine;decide) ?_)
 have hsz:ha2.objs.size=s.heap.objs.size:=by rw[hsa2.1,hsa1.1,hs₁.1]
 have hzG:QJ ha2 z TI TO T true:=hsa2.extBut _ _ D.i2z.symm (hsa1.extBut _ _ D.i1z.symm hz₁)
 refine wpAny_pure ⟨_,rfl,?_⟩
 show Q (.ref ha2.objs.size) _
 rw[hsz]
 refine hQ _ (j0 _ hzG) ((hi1.at λo e=>hsa2.extBut _ o D.i2i1.symm e).at λo e=>j0 _ e) (hi2.at λo e=>j0 _ e) ?_ ?_ λc o c1 d1 d2 e=>j0 _ (hsa2.extBut _ _ d2 (hsa1.extBut _ _ d1 (hs₁.extBut _ _ c1 e)))
 ·rw[<- hsz];exact G0 _ rfl
 ·rw[O1,hsz]
theorem RW{z TI TO T i1 i2 l1 l2:Addr}{fl:Bool}{k:Nat}{k1:Kd}{k2:Kd}{xs1 xs2:Array Value}{ot:Obj}{Q:Fin->Shared->Prop}(hh:A.handled=none)(D:ZAp2 z TI TO i1 i2 l1 l2)
  (hz:QJ s.heap z TI TO T fl) (hTI:xQ s.heap TI (.ref i1) (.ref i2)) (hT:s.heap.get? T=some ot)
  (h1:ItAt k1 s.heap i1 l1 k) (h2:ItAt k2 s.heap i2 l2 k) (hl1:SqAt k1 s.heap l1 xs1) (hl2:SqAt k2 s.heap l2 xs2) (hend:xs1[k]?=none\/xs2[k]?=none)
  (hE:∀h' e,(∀c o,c≠z->c≠i1->c≠i2->s.heap.get? c=some o->h'.get? c=some o)->(∃o,h'.get? e=some o/\o.cls=.type "StopIteration")->E (.ref e) { s with heap:=h' }) :
  wpAny (model prog w) A (Builtin.«zip.__next__» ⟨[.ref z],[]⟩) Q E s:=by
 show wpAny _ _ (field (.ref z) 2 >>= _) _ _ _
 refine wpAny_bind (wpAny_field hz rfl (x:=.bool false) rfl ?_)
 show wpAny _ _ (field (.ref z) 3 >>= _) _ _ _
 refine wpAny_bind (wpAny_field hz rfl (x:=.ref TI) rfl ?_)
 refine wpAny_bind (wpAny_seqItems hTI rfl ?_)
 show wpAny _ _ (G1 (.ref z) >>= _) _ _ _
 refine wpAny_bind (gF hz hT λh₁ hz₁ hs₁=>?_)
 simp only[O2,if_false]
 rw[K9]
 simp only[B5,P5]
 refine wpAny_bind (wpAny_bind (wpAny_bind (wpAny_holding ?_)))
 show wpAny _ _ (Y0 (.ref i1) >>= _) _ _ _
 cases hx1:xs1[k]? with
 | none =>
  exact wpAny_bind (FX hh (h1.at λo e=>hs₁.extBut _ o D.i1z e) (hl1.at λo e=>hs₁.extBut _ o D.l1z e) hx1 λhq e hsq he=>hE hq e (λc o c1 d1 d2 x=>hsq _ _ d1 (hs₁.extBut _ _ c1 x)) he)
 | some x1 =>
  have hx2:xs2[k]?=none:=by
   rcases hend with h|h
   ·rw[hx1]at h;cases h
   ·exact h
  refine wpAny_bind (LQ (h1.at λo e=>hs₁.extBut _ o D.i1z e) (hl1.at λo e=>hs₁.extBut _ o D.l1z e) hx1 λha1 hi1 hsa1=>wpAny_pure (wpAny_pure ?_))
  refine wpAny_bind (wpAny_bind (wpAny_holding ?_))
  show wpAny _ _ (Y0 (.ref i2) >>= _) _ _ _
  exact wpAny_bind (FX hh ((h2.at λo e=>hs₁.extBut _ o D.i2z e).at λo e=>hsa1.extBut _ o D.i2i1 e) ((hl2.at λo e=>hs₁.extBut _ o D.l2z e).at λo e=>hsa1.extBut _ o D.l2i1 e) hx2 λhq e hsq he=>hE hq e (λc o c1 d1 d2 x=>hsq _ _ d2 (hsa1.extBut _ _ d1 (hs₁.extBut _ _ c1 x))) he)
end
section
variable {prog:Program}{w:World}{A:Around}{E:Value->Shared->Prop}{s:Shared}
noncomputable def ZSt(h:Heap)(z TI TO S i1 i2 l1 l2:Addr)(k1 k2:Kd)(i:Nat):Prop :=
 xQ h TI (.ref i1) (.ref i2)/\ItAt k1 h i1 l1 i/\ItAt k2 h i2 l2 i /\
  ((IsZip h z TI TO .none/\∃a1 a2,xQ h TO a1 a2)\/∃T fl ot,QJ h z TI TO T fl/\h.get? T=some ot/\T≠z/\T≠i1/\T≠i2/\T≠S)
theorem TH{z TI TO S i1 i2 l1 l2:Addr}{k:Nat}{k1 k2:Kd}{xs1 xs2:Array Value}{x1 x2:Value}{Q:Option Value->Shared->Prop}(D:ZAp2 z TI TO i1 i2 l1 l2)(hS:S < s.heap.objs.size)
  (st:ZSt s.heap z TI TO S i1 i2 l1 l2 k1 k2 k) (hl1:SqAt k1 s.heap l1 xs1) (hl2:SqAt k2 s.heap l2 xs2) (hx1:xs1[k]?=some x1) (hx2:xs2[k]?=some x2)
  (hQ:∀h',ZSt h' z TI TO S i1 i2 l1 l2 k1 k2 (k+1)->xQ h' s.heap.objs.size x1 x2->h'.objs.size=s.heap.objs.size+1 ->
    (∀c o,c≠z->c≠TO->c≠i1->c≠i2->s.heap.get? c=some o->h'.get? c=some o)->Q (some (.ref s.heap.objs.size)) { s with heap:=h' }) :
  wpAny (model prog w) A (pyNext (.ref z)) Q E s:=by
 obtain⟨hTI,h1,h2,hz⟩:=st
 have gz:∀{b:Addr}{o:Obj},s.heap.get? b=some o->s.heap.objs.size≠b:=λe=>Z1 (L0 e)
 obtain⟨o1,g1,_⟩:=h1.obj
 obtain⟨o2,g2,_⟩:=h2.obj
 rcases hz with⟨hz,a1,a2,hTO⟩|⟨T,fl,ot,hz,hT,t1,t2,t3,t4⟩
 ·refine fJ D hz hTI hTO h1 h2 hl1 hl2 hx1 hx2 λh' b1 b2 c1 c2 b5 b6 b7=>hQ h' ⟨b7 TI _ D.TIz (Z2 D.TOTI) (Z2 D.i1TI) (Z2 D.i2TI) hTI,c1,c2,.inr ⟨s.heap.objs.size,false,_,b1,b5,gz hz,gz g1,gz g2,Z1 hS⟩⟩ b5 b6 b7
 ·have hTy:s.TypeIs (.ref z) "zip":=⟨_,hz,rfl⟩
  unfold pyNext
  exact wpAny_bind (wpAny_attempt (wpAny_callSpecial?_slot (name:=Str.ofString "__next__") hTy F.slot_zip_next
    (wpAny_call_entry F.slot_zip_next hTy F.entry_zip_next (wpAny_mono (SH (Q:=λv s'=>Q (some v) s') D hz hTI hT h1 h2 hl1 hl2 hx1 hx2 λh' b1 c1 c2 b5 b6 b7=>hQ h' ⟨b7 TI _ D.TIz (Z2 D.i1TI) (Z2 D.i2TI) hTI,c1,c2,.inr ⟨T,true,ot,b1,b7 T _ t1 t2 t3 hT,t1,t2,t3,t4⟩⟩ b5 b6 λc o d1 _ d3 d4 e=>b7 c o d1 d3 d4 e) (λfin s' z=>by obtain⟨v,rfl,z⟩:=z;exact ⟨_,rfl,wpAny_pure z⟩) λ_ _ z=>z) (F.args_zip_next_1 _))))
theorem SW{z TI TO S i1 i2 l1 l2:Addr}{k:Nat}{k1 k2:Kd}{xs1 xs2:Array Value}{Q:Option Value->Shared->Prop}(hh:A.handled=none)(D:ZAp2 z TI TO i1 i2 l1 l2)
  (st:ZSt s.heap z TI TO S i1 i2 l1 l2 k1 k2 k) (hl1:SqAt k1 s.heap l1 xs1) (hl2:SqAt k2 s.heap l2 xs2) (hend:xs1[k]?=none\/xs2[k]?=none)
  (hQ:∀h',(∀c o,c≠z->c≠TO->c≠i1->c≠i2->s.heap.get? c=some o->h'.get? c=some o)->Q none { s with heap:=h' }):wpAny (model prog w) A (pyNext (.ref z)) Q E s:=by
 obtain⟨hTI,h1,h2,hz⟩:=st
 rcases hz with⟨hz,a1,a2,hTO⟩|⟨T,fl,ot,hz,hT,t1,t2,t3,t4⟩
 ·exact CJ hh D hz hTI hTO h1 h2 hl1 hl2 hend hQ
 ·have hTy:s.TypeIs (.ref z) "zip":=⟨_,hz,rfl⟩
  unfold pyNext
  refine wpAny_bind (wpAny_attempt (wpAny_callSpecial?_slot (name:=Str.ofString "__next__") hTy F.slot_zip_next
    (wpAny_call_entry F.slot_zip_next hTy F.entry_zip_next (RW hh D hz hTI hT h1 h2 hl1 hl2 hend λh' e hk he=>?_) (F.args_zip_next_1 _))))
  obtain⟨o,ho,hc⟩:=he
  refine wpAny_bind (wpAny_isInstance (T:="StopIteration") (b:=true) ⟨o,ho,hc⟩ isSubtype_stop ?_)
  exact wpAny_pure (hQ _ λc o d1 _ d3 d4 e=>hk c o d1 d3 d4 e)
theorem ZSt.keep{h h':Heap}{z TI TO S i1 i2 l1 l2:Addr}{k1 k2:Kd}{i:Nat}(x:ZSt h z TI TO S i1 i2 l1 l2 k1 k2 i)(hk:∀b o,b≠S->h.get? b=some o->h'.get? b=some o)(n1:z≠S)(n2:TI≠S)(n3:TO≠S)(n4:i1≠S)(n5:i2≠S) :
  ZSt h' z TI TO S i1 i2 l1 l2 k1 k2 i:=by
 obtain⟨hTI,h1,h2,hz⟩:=x
 refine ⟨hk _ _ n2 hTI,h1.at λo e=>hk _ _ n4 e,h2.at λo e=>hk _ _ n5 e,?_⟩
 rcases hz with⟨hz,a1,a2,hTO⟩|⟨T,fl,ot,hz,hT,t1,t2,t3,t4⟩
 ·exact .inl ⟨hk _ _ n1 hz,a1,a2,hk _ _ n3 hTO⟩
 ·exact .inr ⟨T,fl,ot,hk _ _ n1 hz,hk _ _ t4 hT,t1,t2,t3,t4⟩
end
structure ZG(xs1 xs2:Array Value)(lo:Addr)(h:Heap)(as:List Addr):Prop where
 rise:as.Pairwise (· < ·)
 above:∀a∈as,lo < a
 pairs:∀(j:Nat) (a:Addr),as[j]?=some a->∃x y,xs1[j]?=some x/\xs2[j]?=some y/\xQ h a x y
section
variable {prog:Program}{w:World}{A:Around}{s:Shared}{R:Result->Shared->Prop}
end
end L2
namespace L3
open PySem PySem.Spec L2
theorem UH{A:Around}{k:Nat}(hr:Room k A):A.units+2 < cLine:=W3 (x9 (by decide:2<=64) _) hr.units
noncomputable def PL:D->Option (List D)
 | .list ds=>some ds
 | .tuple ds=>some ds
 | _=>none
section
variable {K:Fg}{F H:Hp}
theorem At.seq{v:V}{d:D}{ds:List D}(s:Sub F H)(h:At K F H v d)(e:PL d=some ds):∃k a xs,v=.ref a/\Sq k K H a xs/\DaAll K F xs ds:=by
 cases d<;>first|cases e|skip
 ·obtain⟨a,xs,rfl,e1,d1⟩:=h.list s
  exact ⟨.l,a,xs,rfl,SqL.of e1,d1⟩
 ·obtain⟨a,xs,rfl,_,e1,d1⟩:=h.tuple s
  exact ⟨.t,a,xs,rfl,SqT.of e1,d1⟩
end
section
variable {X:Cx}{K:Fg}{e e1 e2:Expr}{a b:AD}{p pos pos' p2:Pos}
end
mutual
theorem RJ:∀d:D,HQ d=true->SeqAt.noMix d d=true
 | .none,_=>by simp[SeqAt.noMix]
 | .bool _,_=>by simp[SeqAt.noMix]
 | .int _,_=>by simp[SeqAt.noMix]
 | .str _,_=>by simp[SeqAt.noMix]
 | .list xs,h=>by simp[SeqAt.noMix];exact noMixAll_self xs (by simpa [HQ]using h)
 | .tuple xs,h=>by simp[SeqAt.noMix];exact noMixAll_self xs (by simpa [HQ]using h)
 | .dict _,h=>by simp[HQ]at h
theorem noMixAll_self:∀xs:List D,plainAll xs=true->SeqAt.noMixAll xs xs=true
 | [],_=>by simp[SeqAt.noMixAll]
 | x :: xs,h=>by
  simp[plainAll]at h
  simp[SeqAt.noMixAll]
  exact ⟨RJ x h.1,noMixAll_self xs h.2⟩
end
structure Nice(n:Nat)(d:D):Prop where
 p:HQ d=true
 c:d.canLay0=true
 d:d.depth<=n
theorem Nice.int(n:Nat)(i:Int):Nice n (.int i):=⟨rfl,by simp[m9],by simp[P9]⟩
theorem aW{n:Nat}:∀{l:List D},(∀d∈l,Nice n d)->plainAll l=true/\w8 l=true/\Z8 l<=n
 | [],_=>⟨rfl,by simp[w8],by simp[Z8]⟩
 | x :: l,h=>by
  have h1:=h x O0
  have h2:=aW (l:=l) λd hd=>h d (K0 _ hd)
  refine ⟨by simp[plainAll,h1.p,h2.1],by simp[w8,h1.c,h2.2.1],?_⟩
  have:=h1.d
  have:=h2.2.2
  simp[Z8]
  omega
theorem Nice.list{n:Nat}{l:List D}(h:∀d∈l,Nice n d):Nice (n+1) (.list l):=by
 obtain⟨a,b,c⟩:=aW h
 exact ⟨by simp[HQ,a],by simp[m9,b],by simp[P9];omega⟩
theorem Nice.tuple{n:Nat}{l:List D}(h:∀d∈l,Nice n d):Nice (n+1) (.tuple l):=by
 obtain⟨a,b,c⟩:=aW h
 exact ⟨by simp[HQ,a],by simp[m9,b],by simp[P9];omega⟩
theorem Nice.ints(l:List Int):Nice 1 (.list (l.map u0)):=.list λd hd=>by
 obtain⟨i,_,rfl⟩:=M0.mp hd
 exact .int 0 i
theorem Nice.tup(l:List Int):Nice 1 (.tuple (l.map u0)):=.tuple λd hd=>by
 obtain⟨i,_,rfl⟩:=M0.mp hd
 exact .int 0 i
theorem Nice.sh{n:Nat}{d:D}(h:Nice n d)(k:n<=64):SeqAt.shaped d=true:=by
 have:=h.d
 unfold SeqAt.shaped
 rw[h.c]
 simp
 omega
end L3
namespace L2
open PySem PySem.Spec PyProof.Rows
inductive PrsT (H:Hp):List (V×V)->List (List XJ×V)->Prop
 | nil:PrsT H [] []
 | cons {b ks v ps kvs}:H b=some (.tup (ks.map kV))->PrsT H ps kvs->PrsT H ((.ref b,v) :: ps) ((ks,v) :: kvs)
section
variable {X:Cx}{pins:List (Addr×Obj)}{σ:St}{a:Addr}{E:Value->Shared->Prop}
end
end L2
namespace L3
open PySem PySem.Spec PyProof.Rows L2
theorem Ou{A:Around}{k:Nat}(hr:Room k A):A.units < cLine:=W3 (O4 _ 64) hr.units
noncomputable def Pu:List (D×D)->Bool
 | (.none,_) :: _=>false
 | (.bool _,_) :: _=>false
 | _=>true
section
variable {X:Cx}{K:Fg}{e e1 e2:Expr}{a b:AD}{ta tb:TD}{st:Stmt}{p pos p2 pos' px py pt:Pos}{x y:Str}
end
theorem lX(s:String):(Str.ofString s).length=s.length:=by
 rw[Str.ofString_eq_toList]
 simp only[Str.length,Z0,A0]
 first|rfl|exact String.length_toList|exact String.length_toList _|simp
theorem yD{i:Int}{k:Nat}(hk:0 < k)(h:i.natAbs < 10 ^ k):(u0 i).shown.length<=k+1:=by
 show (Str.ofString (toString i)).length<=k+1
 rw[lX]
 cases i with
 | ofNat n =>
  show (Nat.repr n).length<=k+1
  have:=(W8 (n:=n) hk).mpr h
  omega
 | negSucc m =>
  show ("-"++Nat.repr (m+1)).length<=k+1
  have h1:m+1 < 10 ^ k:=by simpa using h
  have:=(W8 (n:=m+1) hk).mpr h1
  rw[String.length_append]
  have e:("-":String).length=1:=by decide
  omega
theorem HU(sep:Str)(b:Nat):∀ts:List Str,(∀t∈ts,t.length<=b)->(Str.join sep ts).length<=ts.length * (b+sep.length)
 | [],_=>by simp[Str.join,Str.length,Str.empty]
 | [x],h=>by
  have:=h x O0
  show x.length<=_
  simp
  omega
 | x :: y :: r,h=>by
  have h1:=h x O0
  have h2:=HU sep b (y :: r) λt ht=>h t (K0 _ ht)
  show (x++sep++Str.join sep (y :: r)).length<=_
  rw[Str.length_append,Str.length_append,X1,Z7]
  omega
theorem NZ:∀l:List D,U7 l=l.map T8
 | []=>rfl
 | x :: l=>by simp[U7,NZ l]
theorem pJ{b:Nat}{l:List D}(h:∀d∈l,d.shown.length<=b):(U0 l).shown.length<=l.length * (b+2)+3:=by
 show (tupleText (U7 l)).length<=_
 rw[NZ]
 have hj:=HU (Str.ofString ", ") b (l.map T8) λt ht=>by
  obtain⟨d,hd,rfl⟩:=M0.mp ht
  exact h d hd
 rw[A0,lX]at hj
 have e2:(", ":String).length=2:=by decide
 rw[e2]at hj
 unfold tupleText
 rw[Str.length_append,Str.length_append,lX,lX]
 have e1:("(":String).length=1:=by decide
 have e3:(if (((l.map T8).length==1)=true) then ",)" else ")":String).length<=2:=by split<;>decide
 omega
theorem bW{b:Nat}{l:List D}(h:∀d∈l,d.shown.length<=b):(E1 l).shown.length<=l.length * (b+2)+3:=by
 have gen:∀(ts:List Str) (k:Nat) (acc:Str),(∀t∈ts,t.length<=b)->(textFrom k acc ts).length<=acc.length+ts.length * (b+2):=by
  intro ts
  induction ts with
  | nil=>intro k acc _;simp[textFrom]
  | cons t ts ih =>
   intro k acc ht
   have h1:=ht t O0
   have h2:=ih (k+1) (acc++Str.ofString (if k > 0 then ", " else "")++t) λx hx=>ht x (K0 _ hx)
   rw[Str.length_append,Str.length_append,lX]at h2
   have e3:(if k > 0 then ", " else "":String).length<=2:=by split<;>decide
   show (textFrom (k+1) (acc++Str.ofString (if k > 0 then ", " else "")++t) ts).length<=_
   rw[X1,Z7]
   omega
 show (listText (U7 l)).length<=_
 rw[NZ]
 have hg:=gen (l.map T8) 0 (Str.ofString "[") λt ht=>by
  obtain⟨d,hd,rfl⟩:=M0.mp ht
  exact h d hd
 unfold listText
 rw[Str.length_append,lX]
 rw[lX,A0]at hg
 have e1:("[":String).length=1:=by decide
 have e2:("]":String).length=1:=by decide
 omega
theorem showableAll_of:∀{l:List D},(∀d∈l,d.showable=true)->L9 l=true
 | [],_=>rfl
 | x :: l,h=>by
  simp[L9,h x O0]
  exact showableAll_of λd hd=>h d (K0 _ hd)
theorem OV{i:Int}{k:Nat}(h:i.natAbs < 2 ^ k)(hk:k<=1920):(u0 i).showable=true:=by
 show decide (i.natAbs.log2 < 1920)=true
 refine decide_eq_true ?_
 by_cases h0:i.natAbs=0
 ·rw[h0];decide
 ·exact S0 ((Nat.log2_lt h0).mpr h) hk
end L3
namespace L2
open PySem PySem.Spec PyProof.Rows
noncomputable def qE:V->Int
 | .int i=>i
 | _=>0
theorem qJ(l:List Int):(l.map V.int).map qE=l:=by rw[Q0];exact List.map_id l
theorem Bz{l m:List Int}(e:l.map V.int=m.map V.int):l=m:=by rw[<- qJ l,<- qJ m,e]
noncomputable def lN(H:Hp)(p:List Int)(y:Value):Bool:=@decide (∃c,y=.ref c/\H c=some (.tup (p.map V.int))) (Classical.propDecidable _)
theorem YK{ns:List Int}{us:List Value}(r:Vals (ns.map V.int) us){k:Nat}(h:k < us.length):∃t,us[k]=.int (ns.getD k 0) t:=by
 have hl:=r.length
 rw[A0]at hl
 have hk:k < ns.length:=by omega
 obtain⟨u,hu,ru⟩:=r.get (i:=k) (x:=.int ns[k]) (by rw[X0,P0 hk];rfl)
 obtain⟨t,e⟩:=ru
 rw[P0 h]at hu
 have hu:=V1 hu
 refine ⟨t,?_⟩
 rw[hu,e,Y3,P0 hk]
 rfl
end L2
namespace L3
open PySem PySem.Spec PyProof.Rows L2
theorem DaAll.ints_of{K:Fg}{F:Hp}{ys:List V}{p:List Int}(h:DaAll K F ys (p.map u0)):ys=p.map V.int:=by
 have e:p.map u0=(p.map λn=>(.inl n:XJ)).map Uq:=by rw[Q0];rfl
 rw[e]at h
 have:=h.keys
 rw[this,Q0];rfl
end L3
namespace L2
open PySem PySem.Spec PyProof.Rows
theorem qK:∀{vs:List Value}{ns:List Int},IntsAre vs ns->Vals (ns.map V.int) vs
 | _,_,.nil=>.nil
 | _,_,.cons n t r=>.cons ⟨t,rfl⟩ (qK r)
end L2
namespace L3
open PySem PySem.Spec PyProof.Rows L2
end L3
namespace L2
open PySem PySem.Spec PyProof.Rows
section
variable {prog:Program}{w:World}{A:Around}{E:Value->Shared->Prop}{s:Shared}
theorem Cz{l:Addr}{xs:Array (Int×Tok)}{Q:Value->Shared->Prop}(hh:A.handled=none)(ht:s.heap.IsTuple l (intItems xs))(hne:0 < xs.size)
  (h:∀v h' tk,(intItems xs)[argBest (λi j=>decide (numAt xs i < numAt xs j)) (xs.size - 1)]?=some v->(∀b o,s.heap.get? b=some o->h'.get? b=some o)->Q v { s with heap:=h',toks:=tk }) :
  wpAny (model prog w) A (call (.builtin "min") [.ref l]) Q E s:=by
 obtain⟨o,ho,hc,n,hd⟩:=id ht
 have hn:l≠s.heap.objs.size:=W0 (L0 ho)
 refine call_min_walk (wpAny_pyIter_tuple ht ?_)
 refine ⟨s.heap.objs.size,_,_,_,_,_,_,rfl,Walks.tuple (A:=A.in1) hh _ l hn (intItems xs),⟨⟨_,G0 _ rfl,rfl,rfl⟩,ht.push _⟩,λb hb=>?_,by simpa [intItems]using hne,CmpOf.ints_lt (numAt xs) (λ_ _=>intItems_at),λv h' tk hP hk=>?_⟩
 ·rcases V0.mp hb with rfl|hb
  ·exact L0 (G0 _ rfl)
  ·obtain rfl:=Y2.mp hb
   exact L0 (j0 _ ho)
 ·exact h v h' tk (by simpa [intItems]using hP) λb o e=>hk b o (λhb=>absurd (L0 e) ((Y2.mp hb) ▸ O3 _)) (j0 _ e)
theorem Dz{l:Addr}{xs:Array (Int×Tok)}{Q:Value->Shared->Prop}(hh:A.handled=none)(ht:s.heap.IsTuple l (intItems xs))(hne:0 < xs.size)
  (h:∀v h' tk,(intItems xs)[argBest (λi j=>decide (numAt xs i > numAt xs j)) (xs.size - 1)]?=some v->(∀b o,s.heap.get? b=some o->h'.get? b=some o)->Q v { s with heap:=h',toks:=tk }) :
  wpAny (model prog w) A (call (.builtin "max") [.ref l]) Q E s:=by
 obtain⟨o,ho,hc,n,hd⟩:=id ht
 have hn:l≠s.heap.objs.size:=W0 (L0 ho)
 refine call_max_walk (wpAny_pyIter_tuple ht ?_)
 refine ⟨s.heap.objs.size,_,_,_,_,_,_,rfl,Walks.tuple (A:=A.in1) hh _ l hn (intItems xs),⟨⟨_,G0 _ rfl,rfl,rfl⟩,ht.push _⟩,λb hb=>?_,by simpa [intItems]using hne,CmpOf.ints_gt (numAt xs) (λ_ _=>intItems_at),λv h' tk hP hk=>?_⟩
 ·rcases V0.mp hb with rfl|hb
  ·exact L0 (G0 _ rfl)
  ·obtain rfl:=Y2.mp hb
   exact L0 (j0 _ ho)
 ·exact h v h' tk (by simpa [intItems]using hP) λb o e=>hk b o (λhb=>absurd (L0 e) ((Y2.mp hb) ▸ O3 _)) (j0 _ e)
end
noncomputable def rE(K:J0):List V->Hp->VK->Prop:=λxs H Q=>∃(a:Addr) (ns:List Int),xs=[.ref a]/\(SqL K H a (ns.map V.int)\/SqT K H a (ns.map V.int))/\0 < ns.length/\∀M,M∈ns->(∀y∈ns,M<=y)->Q (.int M) H
noncomputable def sE(K:J0):List V->Hp->VK->Prop:=λxs H Q=>∃(a:Addr) (ns:List Int),xs=[.ref a]/\(SqL K H a (ns.map V.int)\/SqT K H a (ns.map V.int))/\0 < ns.length/\∀M,M∈ns->(∀y∈ns,y<=M)->Q (.int M) H
theorem rK{X:Cx}{K:J0}(hK:X.K=K)(hc:X.calm=true):BX X (.builtin "min") (rE K):=by
 subst hK
 intro pins s σ H xs us Q I r h
 obtain⟨a,ns,rfl,hq,hp,q⟩:=h
 obtain⟨u,rfl,ru⟩:=aJ r
 cases ru
 have hh:=I.ok.hd hc
 have fin:∀{its:List Value}{zs:Array (Int×Tok)},Vals (ns.map V.int) its->its.toArray=intItems zs->0 < zs.size/\∀(v:Value) (h':Heap) (tk:Nat),(intItems zs)[argBest (λi j=>decide (numAt zs i < numAt zs j)) (zs.size - 1)]?=some v->(∀b o,s.heap.get? b=some o->h'.get? b=some o)->EP X pins σ Q v { s with heap:=h',toks:=tk }:=by
  intro its zs rv e
  have hi:IntsAre its ns:=KQ rv
  have hns:ns=zs.toList.map (·.1):=by rw[<- nums_intItems,<- e];exact (show numsOf its.toArray.toList=ns from hi.numsOf).symm
  have hsz:0 < zs.size:=by have h3:=hp;rw[hns,A0,T0]at h3;exact h3
  refine ⟨hsz,λv h' tk hv hk=>?_⟩
  obtain⟨t,rfl⟩:=intItems_at hv
  obtain⟨h1,h2⟩:=argBest_lt (numAt zs) (zs.size - 1)
  refine ⟨.int _,H,I.kept hk,⟨t,rfl⟩,q _ ?_ λy hy=>?_⟩
  ·rw[hns,numAt_eq];exact getD_mem (by rw[A0,T0];omega)
  ·rw[hns]at hy
   obtain⟨j,hj,rfl⟩:=mem_getD hy
   rw[A0,T0]at hj
   rw[<- numAt_eq];exact h2 j (by omega)
 rcases hq with hq|hq
 ·obtain⟨its,rv,p,hz⟩:=I.list hq
  obtain⟨zs,hx⟩:=(KQ rv).allInts.items
  obtain⟨hs,f⟩:=fin rv hx
  exact min_intList hh (hx ▸ p.isList) hs f
 ·obtain⟨its,rv,p,hz⟩:=I.tuple hq
  obtain⟨zs,hx⟩:=(KQ rv).allInts.items
  obtain⟨hs,f⟩:=fin rv hx
  exact Cz hh (show s.heap.IsTuple a (intItems zs) from hx ▸ p) hs f
theorem sK{X:Cx}{K:J0}(hK:X.K=K)(hc:X.calm=true):BX X (.builtin "max") (sE K):=by
 subst hK
 intro pins s σ H xs us Q I r h
 obtain⟨a,ns,rfl,hq,hp,q⟩:=h
 obtain⟨u,rfl,ru⟩:=aJ r
 cases ru
 have hh:=I.ok.hd hc
 have fin:∀{its:List Value}{zs:Array (Int×Tok)},Vals (ns.map V.int) its->its.toArray=intItems zs->0 < zs.size/\∀(v:Value) (h':Heap) (tk:Nat),(intItems zs)[argBest (λi j=>decide (numAt zs i > numAt zs j)) (zs.size - 1)]?=some v->(∀b o,s.heap.get? b=some o->h'.get? b=some o)->EP X pins σ Q v { s with heap:=h',toks:=tk }:=by
  intro its zs rv e
  have hi:IntsAre its ns:=KQ rv
  have hns:ns=zs.toList.map (·.1):=by rw[<- nums_intItems,<- e];exact (show numsOf its.toArray.toList=ns from hi.numsOf).symm
  have hsz:0 < zs.size:=by have h3:=hp;rw[hns,A0,T0]at h3;exact h3
  refine ⟨hsz,λv h' tk hv hk=>?_⟩
  obtain⟨t,rfl⟩:=intItems_at hv
  obtain⟨h1,h2⟩:=argBest_gt (numAt zs) (zs.size - 1)
  refine ⟨.int _,H,I.kept hk,⟨t,rfl⟩,q _ ?_ λy hy=>?_⟩
  ·rw[hns,numAt_eq];exact getD_mem (by rw[A0,T0];omega)
  ·rw[hns]at hy
   obtain⟨j,hj,rfl⟩:=mem_getD hy
   rw[A0,T0]at hj
   rw[<- numAt_eq];exact h2 j (by omega)
 rcases hq with hq|hq
 ·obtain⟨its,rv,p,hz⟩:=I.list hq
  obtain⟨zs,hx⟩:=(KQ rv).allInts.items
  obtain⟨hs,f⟩:=fin rv hx
  exact max_intList hh (hx ▸ p.isList) hs f
 ·obtain⟨its,rv,p,hz⟩:=I.tuple hq
  obtain⟨zs,hx⟩:=(KQ rv).allInts.items
  obtain⟨hs,f⟩:=fin rv hx
  exact Dz hh (show s.heap.IsTuple a (intItems zs) from hx ▸ p) hs f
end L2
namespace L3
open PySem PySem.Spec PyProof.Rows L2
section
variable {K:Fg}{σ:L2.St}{H:Hp}{v:V}{Q:L2.St->Hp->Prop}
end
noncomputable def QL:D->(Sl->Prop)->Prop
 | .list ds,Q=>∃ns:List Int,ds=ns.map u0/\0 < ns.length/\∀M,M∈ns->(∀y∈ns,M<=y)->Q (.fz (.int M))
 | .tuple ds,Q=>∃ns:List Int,ds=ns.map u0/\0 < ns.length/\∀M,M∈ns->(∀y∈ns,M<=y)->Q (.fz (.int M))
 | _,_=>False
noncomputable def RL:D->(Sl->Prop)->Prop
 | .list ds,Q=>∃ns:List Int,ds=ns.map u0/\0 < ns.length/\∀M,M∈ns->(∀y∈ns,y<=M)->Q (.fz (.int M))
 | .tuple ds,Q=>∃ns:List Int,ds=ns.map u0/\0 < ns.length/\∀M,M∈ns->(∀y∈ns,y<=M)->Q (.fz (.int M))
 | _,_=>False
theorem PV{K:Fg}:eX K (rE K) (o1 QL):=bx λG F σ H ρ x d Q Qd R h1 w k=>by
 match d,h1,w with
 | .list ds,h1,⟨ns,e,hp,w⟩ =>
  subst e
  obtain⟨a,us,rfl,e1,d1⟩:=h1.list R.sub
  have:=d1.intsV
  subst this
  exact ⟨a,ns,rfl,.inl (SqL.of e1),hp,λM m1 m2=>k _ H F (.fz _) (Sub.refl _) R (Da.int _) (w M m1 m2)⟩
 | .tuple ds,h1,⟨ns,e,hp,w⟩ =>
  subst e
  obtain⟨a,us,rfl,_,e1,d1⟩:=h1.tuple R.sub
  have:=d1.intsV
  subst this
  exact ⟨a,ns,rfl,.inr (SqT.of e1),hp,λM m1 m2=>k _ H F (.fz _) (Sub.refl _) R (Da.int _) (w M m1 m2)⟩
theorem QV{K:Fg}:eX K (sE K) (o1 RL):=bx λG F σ H ρ x d Q Qd R h1 w k=>by
 match d,h1,w with
 | .list ds,h1,⟨ns,e,hp,w⟩ =>
  subst e
  obtain⟨a,us,rfl,e1,d1⟩:=h1.list R.sub
  have:=d1.intsV
  subst this
  exact ⟨a,ns,rfl,.inl (SqL.of e1),hp,λM m1 m2=>k _ H F (.fz _) (Sub.refl _) R (Da.int _) (w M m1 m2)⟩
 | .tuple ds,h1,⟨ns,e,hp,w⟩ =>
  subst e
  obtain⟨a,us,rfl,_,e1,d1⟩:=h1.tuple R.sub
  have:=d1.intsV
  subst this
  exact ⟨a,ns,rfl,.inr (SqT.of e1),hp,λM m1 m2=>k _ H F (.fz _) (Sub.refl _) R (Da.int _) (w M m1 m2)⟩
open PySem PySem.Spec L2
section
variable {K:Fg}{G:Gh}{F F' H H':Hp}{σ:L2.St}{ρ:Ev}
theorem Rel.grown(R:Rel K G F σ H ρ)(sb:Sub F F')(su:Sub F' H')(fn:∀b o,F' b=some o->F b=some o\/H b=none)(kp:∀b o,H b=some o->H' b=some o):Rel K G F' σ H' ρ:=by
 refine ⟨R.len,su,R.sub0.trans sb,λb o e=>?_,λa o e n=>kp _ _ (R.keep a o e n),λi d e=>?_,λi s e w=>?_,R.new,R.io,R.ioi,R.ap⟩
 ·rcases fn b o e with q|q
  ·exact R.fn b o q
  ·exact .inr (R.h0 q)
 ·obtain⟨v,h1,h2⟩:=R.fz i d e
  exact ⟨v,h1,h2.mono sb⟩
 ·obtain⟨a,o,h1,h2,h3,h4⟩:=R.ow i s e w
  refine ⟨a,o,h1,?_,kp _ _ h3,h4.mono sb⟩
  cases q:F' a with
  | none=>rfl
  | some u =>
   rcases fn a u q with z|z
   ·rw[h2]at z;cases z
   ·rw[h3]at z;cases z
noncomputable def Zw:Sl->Bool
 | .fz d=>noMut d
 | .ow (.list ds)=>noMutAll ds
 | _=>false
noncomputable def Ez(con:Con)(as:List AD):TD:=λρ Q=>JX as ρ λxs ρ1=>cX ρ1 xs λds=>con (ds.map Sl.fz) λr _=>Zw r=true/\Q r ρ1
theorem Res.calledL{xs:List IV}(R:Rel K G F σ H ρ){σ1:L2.St}{ρ1:Ev}{v:V}{r:Sl}(R':Rel K ⟨H,kJ σ ρ xs F H,λ_=>none⟩ F' σ1 H' ρ1)(q:Res K ⟨H,kJ σ ρ xs F H,λ_=>none⟩ F' H' σ1 ρ1 v r)
  (hl:Zw r=true):Res K G (PX σ ρ xs F') H' σ ρ v r:=by
 have tp:∀b ys,F' b=some (.tup ys)->PX σ ρ xs F' b=some (.tup ys):=λb ys e=>by
  have n:¬LentA σ ρ xs b:=λz=>by
   obtain⟨_,_,o,_,_,_,_,h,w⟩:=z.own R
   have e2:=R'.sub0 b o (by show kJ σ ρ xs F H b=some o;rw[mY z];exact h)
   rw[e]at e2;cases e2
   exact w
  rw[WX n];exact e
 cases r with
 | fz d=>exact Da.noMut tp q hl
 | io d=>exact q.elim
 | ow d =>
  obtain⟨a,o,h1,h2,h3,h4,h5,_⟩:=q
  have h5:H a=none:=h5
  have nl:¬LentA σ ρ xs a:=λz=>by
   obtain⟨_,_,o,_,_,_,_,h,w⟩:=z.own R
   rw[h5]at h;cases h
  refine ⟨a,o,h1,by rw[WX nl];exact h2,h3,?_,R.h0 h5,λi s es w z=>?_⟩
  ·cases d with
   | list ds =>
    cases o with
    | lst ys=>exact DaAll.noMut tp h4 hl
    | _=>exact h4.elim
   | _=>cases hl
  ·obtain⟨a',o',g1,_,g3,_⟩:=R.ow i s es w
   rw[z]at g1;cases g1
   rw[h5]at g3;cases g3
theorem Fk{con:Con}{as:List AD}{E:XK}{Q:VK}(h:lift K (Ez con as) σ H Q):cK (kQ K con) [] E (CQ (as.map (uQ K))) σ H Q:=by
 obtain⟨G,F,ρ,Qd,R,w,k⟩:=h
 refine yX R w λvs H1 F1 xs ρ1 s1 R1 o w1=>?_
 obtain⟨ds,da,w1⟩:=SY (xs:=xs) R1 (λy hy=>hy) o w1
 rw[Q1]
 refine ⟨_,_,ds.map Sl.fz,_,yU (YG R1) da,w1,λv H' F' r ρ' s' R' r' q=>?_⟩
 obtain⟨sb,R2⟩:=R1.called R'
 exact k v H' _ r ρ1 (s1.trans sb) R2 (Res.calledL R1 R' r' q.1) q.2
end
section
variable {X:Cx}{K:Fg}{e:Expr}{es:List Expr}{as:List AD}{x:Str}{p pos:Pos}
theorem iF{k:Nat}{ps:List Str}{con:Con}(C:Cal X.prog X.w X.K X.mg X.base k x ps (kQ K con))(hr:Room k X.A)(ha:WA X (e :: es) (CQ (as.map (uQ K))))(hg:Gl X x:=by rfl)(hdb:(x==("__debug__":Str))=false:=by decide)
  (he:EQ e=true:=by rfl) (hpl:es.all EQ=true:=by rfl):WE X (.Call (.Name x p) (e :: es) [] pos) (lift K (Ez con as)):=⟨MV (sU C hr ha.h hg hdb (tQ he) (gX hpl)) Fk⟩
end
end L3
namespace SG
open PySem PyProof.Rows
noncomputable def zD:Bool->Keyed->Array Keyed->Nat->Nat->Nat->StateT SortSt Sem (Option Nat):=sortPriv% PySem.Builtin.gallop
noncomputable def QI:Array Keyed->Array Keyed->StateT SortSt Sem (Array Keyed):=sortPriv% PySem.Builtin.mergeLo
noncomputable def RI:Array Keyed->Array Keyed->StateT SortSt Sem (Array Keyed):=sortPriv% PySem.Builtin.mergeHi
noncomputable abbrev tK(z:SortSt)(g:Nat):SortSt:=SortSt.mk' (kindOf z) (arrOf z) (pendingOf z) g (failedOf z)
theorem Qu(lf:Bool)(ky:Keyed)(xs:Array Keyed)(bs n ht:Nat):zD lf ky xs bs n ht=(do
    let ov (i:Nat):StateT SortSt Sem (Option Bool):=do
      let z<-elem' xs (bs+i)
      if lf then lt' z ky else return (<- lt' ky z).map (!·)
    let mut la:=0
    let mut o:=1
    let mut l:=0
    let mut h:=0
    let some rt<-ov ht|return none
    if rt then
      let mx:=n - ht
      for _ in [0:n] do
        if o ≥ mx then break
        let some mo<-ov (ht+o)|return none
        if !mo then break
        la:=o
        o:=2 * o+1
      l:=ht+la+1
      h:=ht+min o mx
    else
      let mx:=ht+1
      for _ in [0:n] do
        if o ≥ mx then break
        let some fo<-ov (ht - o)|return none
        if fo then break
        la:=o
        o:=2 * o+1
      l:=ht+1 - min o mx
      h:=ht - la
    for _ in [0:n] do
      if l ≥ h then break
      let m:=l+(h - l) / 2
      let some mo<-ov m|return none
      if mo then l:=m+1 else h:=m
    return some h):=rfl
section
variable {prog:Program}{w:World}{A:Around}{E:Value->Shared->Prop}{s:Shared}{κ:SortKind}{rk:Keyed->Nat}{S:Keyed->Prop}
noncomputable def jZ(prog:Program)(w:World)(A:Around)(s:Shared)(κ:SortKind)(rk:Keyed->Nat)(S:Keyed->Prop):Prop :=
 ∀x y:Keyed,S x->S y->∀Q:Bool->Shared->Prop,Q (decide (rk x < rk y)) s->wpAny (model prog w) A (keyLt' κ x.1 y.1) Q (λ_ _=>False) s
theorem w_lt(q:jZ prog w A s κ rk S){x y:Keyed}{st:SortSt}{Q:Option Bool->SortSt->Prop}(hk:kindOf st=κ)(hx:S x)(hy:S y)(h:Q (some (decide (rk x < rk y))) st) :
  wpS (model prog w) A E s (lt' x y) Q st:=by
 rw[lt'_eq]
 refine wpS_bind (wpS_get ?_)
 rw[hk]
 refine wpS_bind (wpS_lift (wpAny_attempt (wpAny_mono (q x y hx hy (λb s'=>b=decide (rk x < rk y)/\s'=s) ⟨rfl,rfl⟩) (λb s' e=>?_) λ_ _ e=>e.elim)))
 obtain⟨rfl,rfl⟩:=e
 exact ⟨rfl,wpS_pure h⟩
theorem VQ{xs:Array Keyed}{i:Nat}{st:SortSt}{Q:Keyed->SortSt->Prop}(hi:i < xs.size)(h:Q xs[i] st):wpS (model prog w) A E s (elem' xs i) Q st:=by
 rw[elem'_eq,getElem?_pos xs i hi]
 exact wpS_pure h
noncomputable def Ov(prog:Program)(w:World)(A:Around)(E:Value->Shared->Prop)(s:Shared)(n:Nat)(b:Nat->Bool)(st:SortSt)(ov:Nat->StateT SortSt Sem (Option Bool)):Prop :=
 ∀i,i < n->∀Q:Option Bool->SortSt->Prop,Q (some (b i)) st->wpS (model prog w) A E s (ov i) Q st
noncomputable def tE(ov:Nat->StateT SortSt Sem (Option Bool))(n l₀ h₀:Nat):StateT SortSt Sem (Option Nat):=do
 let mut l:=l₀
 let mut h:=h₀
 for _ in [0:n] do
  if l ≥ h then break
  let m:=l+(h - l) / 2
  let some mo<-ov m|return none
  if mo then l:=m+1 else h:=m
 return some h
theorem w_bin{ov:Nat->StateT SortSt Sem (Option Bool)}{n l h':Nat}{b:Nat->Bool}{st:SortSt}{Q:Option Nat->SortSt->Prop}(hO:Ov prog w A E s n b st ov)
  (hm:∀i j,i<=j->j < n->b j=true->b i=true) (h1:l<=h') (h2:h'<=n) (h3:∀i,i < l->b i=true) (h4:∀i,h'<=i->i < n->b i=false)
  (h:∀k,k<=n->(∀i,i < k->b i=true)->(∀i,k<=i->i < n->b i=false)->Q (some k) st):wpS (model prog w) A E s (tE ov n l h') Q st:=by
 unfold tE
 refine wpS_bind (wpS_mono (wpS_forRange (I:=λx c st'=>st'=st/\∃l h',c=(none,l,h')/\l<=h'/\h'<=n/\h' - l<=n - x/\(∀i,i < l->b i=true)/\∀i,h'<=i->i < n->b i=false)
   (Q:=λc st'=>st'=st/\∃k,c=(none,k,k)/\k<=n/\(∀i,i < k->b i=true)/\∀i,k<=i->i < n->b i=false) ?step ?fin ⟨rfl,l,h',rfl,h1,h2,by omega,h3,h4⟩) ?post)
 case fin =>
  rintro c st' ⟨rfl,l,h',rfl,a1,a2,a3,a4,a5⟩
  have:l=h':=by omega
  subst this
  exact ⟨rfl,l,rfl,a2,a4,a5⟩
 case post =>
  rintro c st' ⟨rfl,k,rfl,a1,a2,a3⟩
  exact wpS_pure (h k a1 a2 a3)
 case step =>
  rintro x c st' _ hx ⟨rfl,l,h',rfl,a1,a2,a3,a4,a5⟩
  dsimp only
  by_cases hge:l ≥ h'
  ·rw[if_pos hge]
   have:l=h':=by omega
   subst this
   exact wpS_pure ⟨rfl,l,rfl,a2,a4,a5⟩
  ·rw[if_neg hge]
   refine wpS_bind (hO _ (by omega) _ ?_)
   cases hb:b (l+(h' - l) / 2) with
   | true =>
    refine wpS_pure ⟨rfl,_,_,rfl,by omega,a2,by omega,λi hi=>hm _ _ (by omega) (by omega) hb,a5⟩
   | false =>
    refine wpS_pure ⟨rfl,_,_,rfl,by omega,by omega,by omega,a4,λi i1 i2=>?_⟩
    cases hbi:b i with
    | false=>rfl
    | true=>rw[hm _ _ i1 i2 hbi]at hb;cases hb
theorem uE{lf:Bool}{ky:Keyed}{xs:Array Keyed}{bs n ht:Nat}{st:SortSt}{Q:Option Nat->SortSt->Prop}{b:Nat->Bool}
  (hO:Ov prog w A E s n b st (λi=>do
    let z<-elem' xs (bs+i)
    if lf then lt' z ky else return (<- lt' ky z).map (!·)))
  (hm:∀i j,i<=j->j < n->b j=true->b i=true) (hh:ht < n)
  (h:∀k,k<=n->(∀i,i < k->b i=true)->(∀i,k<=i->i < n->b i=false)->Q (some k) st):wpS (model prog w) A E s (zD lf ky xs bs n ht) Q st:=by
 rw[Qu]
 generalize hov:(λi=>(do
     let z<-elem' xs (bs+i)
     if lf then lt' z ky else return (<- lt' ky z).map (!·):StateT SortSt Sem (Option Bool)))=ov at hO
 dsimp only
 clear hov
 refine wpS_bind (hO ht hh _ ?_)
 cases hb:b ht with
 | true =>
  dsimp only
  rw[if_pos rfl]
  refine wpS_bind (wpS_mono (wpS_forRange (I:=λx c st'=>st'=st/\∃la o:Nat,c=(none,la,o)/\la < o/\x+1<=o/\ht+la < n/\b (ht+la)=true)
    (Q:=λc st'=>st'=st/\∃la o:Nat,c=(none,la,o)/\la < o/\ht+la < n/\b (ht+la)=true/\(n - ht<=o\/b (ht+o)=false)) ?step ?fin ⟨rfl,0,1,rfl,by omega,by omega,by omega,hb⟩) ?post)
  case fin =>
   rintro c st' ⟨rfl,la,o,rfl,a1,a2,a3,a4⟩
   exact ⟨rfl,la,o,rfl,a1,a3,a4,.inl (by omega)⟩
  case step =>
   rintro x c st' _ hx ⟨rfl,la,o,rfl,a1,a2,a3,a4⟩
   dsimp only
   by_cases hge:o ≥ n - ht
   ·rw[if_pos hge]
    exact wpS_pure ⟨rfl,la,o,rfl,a1,a3,a4,.inl hge⟩
   ·rw[if_neg hge]
    refine wpS_bind (hO _ (by omega) _ ?_)
    cases hbo:b (ht+o) with
    | true=>exact wpS_pure ⟨rfl,o,2 * o+1,rfl,by omega,by omega,by omega,hbo⟩
    | false=>exact wpS_pure ⟨rfl,la,o,rfl,a1,a3,a4,.inr hbo⟩
  case post =>
   rintro c st' ⟨rfl,la,o,rfl,a1,a3,a4,a5⟩
   refine w_bin hO hm (l:=ht+la+1) (h':=ht+min o (n - ht)) (by omega) (by omega) (λi hi=>hm _ _ (by omega) a3 a4) (λi i1 i2=>?_) h
   rcases a5 with a5|a5
   ·omega
   ·cases hbi:b i with
    | false=>rfl
    | true=>rw[hm (ht+o) i (by omega) i2 hbi]at a5;cases a5
 | false =>
  dsimp only
  rw[if_neg (by decide)]
  refine wpS_bind (wpS_mono (wpS_forRange (I:=λx c st'=>st'=st/\∃la o:Nat,c=(none,la,o)/\la < o/\x+1<=o/\la<=ht/\b (ht - la)=false)
    (Q:=λc st'=>st'=st/\∃la o:Nat,c=(none,la,o)/\la < o/\la<=ht/\b (ht - la)=false/\(ht+1<=o\/b (ht - o)=true)) ?step2 ?fin2 ⟨rfl,0,1,rfl,by omega,by omega,by omega,hb⟩) ?post2)
  case fin2 =>
   rintro c st' ⟨rfl,la,o,rfl,a1,a2,a3,a4⟩
   exact ⟨rfl,la,o,rfl,a1,a3,a4,.inl (by omega)⟩
  case step2 =>
   rintro x c st' _ hx ⟨rfl,la,o,rfl,a1,a2,a3,a4⟩
   dsimp only
   by_cases hge:o ≥ ht+1
   ·rw[if_pos hge]
    exact wpS_pure ⟨rfl,la,o,rfl,a1,a3,a4,.inl hge⟩
   ·rw[if_neg hge]
    refine wpS_bind (hO _ (by omega) _ ?_)
    cases hbo:b (ht - o) with
    | false=>exact wpS_pure ⟨rfl,o,2 * o+1,rfl,by omega,by omega,by omega,hbo⟩
    | true=>exact wpS_pure ⟨rfl,la,o,rfl,a1,a3,a4,.inr hbo⟩
  case post2 =>
   rintro c st' ⟨rfl,la,o,rfl,a1,a3,a4,a5⟩
   have up:∀i,ht - la<=i->i < n->b i=false:=λi i1 i2=>by
    cases hbi:b i with
    | false=>rfl
    | true=>rw[hm (ht - la) i i1 i2 hbi]at a4;cases a4
   refine w_bin hO hm (l:=ht+1 - min o (ht+1)) (h':=ht - la) (by omega) (by omega) (λi hi=>?_) up h
   rcases a5 with a5|a5
   ·omega
   ·exact hm _ (ht - o) (by omega) (by omega) a5
theorem BZ(q:jZ prog w A s κ rk S){lf:Bool}{ky:Keyed}{xs:Array Keyed}{bs n ht:Nat}{st:SortSt}{Q:Option Nat->SortSt->Prop}(hk:kindOf st=κ)(hy:S ky)(hS:∀i (h:i < xs.size),S xs[i])
  (hn:bs+n<=xs.size) (hs:∀i j (h:j < xs.size) (h2:i<=j),bs<=i->j < bs+n->rk (xs[i]'(by omega))<=rk xs[j]) (hh:ht < n)
  (h:∀k,k<=n->(∀i (h:i < xs.size),bs<=i->i < bs+k->if lf=true then rk xs[i] < rk ky else rk xs[i]<=rk ky)->(∀i (h:i < xs.size),bs+k<=i->i < bs+n->if lf=true then rk ky<=rk xs[i] else rk ky < rk xs[i])->Q (some k) st) :
  wpS (model prog w) A E s (zD lf ky xs bs n ht) Q st:=by
 refine uE (b:=λi=>if hi:bs+i < xs.size then (if lf=true then decide (rk xs[bs+i] < rk ky) else !decide (rk ky < rk xs[bs+i])) else false) ?_ ?_ hh ?_
 ·intro i hi Q hQ
  have hi':bs+i < xs.size:=by omega
  simp only[dif_pos hi']at hQ
  refine wpS_bind (VQ hi' ?_)
  cases lf with
  | true=>exact w_lt q hk (hS _ _) hy hQ
  | false=>exact wpS_bind (w_lt q hk hy (hS _ _) (wpS_pure hQ))
 ·intro i j hij hj hb
  have hj':bs+j < xs.size:=by omega
  have hi':bs+i < xs.size:=by omega
  have hle:=hs (bs+i) (bs+j) hj' (by omega) (by omega) (by omega)
  simp only[dif_pos hj']at hb
  simp only[dif_pos hi']
  cases lf with
  | true=>simp at hb ⊢;omega
  | false=>simp at hb ⊢;omega
 ·intro k hk h1 h2
  refine h k hk (λi hi i1 i2=>?_) (λi hi i1 i2=>?_)
  ·have:=h1 (i - bs) (by omega)
   have e:bs+(i - bs)=i:=by omega
   simp only[e,dif_pos hi]at this
   cases lf with
   | true=>simpa using this
   | false=>simpa using this
  ·have:=h2 (i - bs) (by omega) (by omega)
   have e:bs+(i - bs)=i:=by omega
   simp only[e,dif_pos hi]at this
   cases lf with
   | true=>simpa using this
   | false=>simpa using this
end
section
variable {α:Type}{le:α->α->Prop}{a b out:List α}{i j:Nat}
structure Mg(le:α->α->Prop)(a b out:List α)(i j:Nat):Prop where
 perm:out.Perm (a.take i++b.take j)
 srt:out.Pairwise le
 la:∀x∈out,∀y∈a.drop i,le x y
 lb:∀x∈out,∀y∈b.drop j,le x y
theorem Mg.comm(h:Mg le a b out i j):Mg le b a out j i:=⟨h.perm.trans A7,h.srt,h.lb,h.la⟩
theorem Mg.takeA(h:Mg le a b out i j)(ha:a.Pairwise le)(k:Nat)(hk:∀x∈(a.drop i).take k,∀y∈b.drop j,le x y):Mg le a b (out++(a.drop i).take k) (i+k) j where
 perm:=by
  rw[List.take_add]
  refine (h.perm.append_right _).trans ?_
  rw[P2,P2]
  exact List.Perm.append_left _ A7
 srt:=j5.mpr ⟨h.srt,(ha.sublist (m7 _ _)).sublist (v8 _ _),λx hx y hy=>h.la x hx y (N6 hy)⟩
 la:=λx hx y hy=>by
  rw[<- o9]at hy
  rcases G4.mp hx with hx|hx
  ·exact h.la x hx y (List.mem_of_mem_drop hy)
  ·have p:=ha.sublist (m7 i _)
   rw[<- B4 k (a.drop i)]at p
   exact (j5.mp p).2.2 x hx y hy
 lb:=λx hx y hy=>by
  rcases G4.mp hx with hx|hx
  ·exact h.lb x hx y hy
  ·exact hk x hx y hy
theorem Mg.oneA(h:Mg le a b out i j)(ha:a.Pairwise le)(hi:i < a.length)(hk:∀y∈b.drop j,le a[i] y):Mg le a b (out++[a[i]]) (i+1) j:=by
 have e:(a.drop i).take 1=[a[i]]:=by rw[u4 hi];rfl
 have:=h.takeA ha 1 (by rw[e];simpa using hk)
 rwa [e]at this
theorem Mg.fin(h:Mg le a b out i j)(ha:a.Pairwise le)(hb:b.Pairwise le)(hx:∀x∈a.drop i,∀y∈b.drop j,le x y):(out++a.drop i++b.drop j).Perm (a++b)/\(out++a.drop i++b.drop j).Pairwise le:=by
 constructor
 ·have e:(a.take i++b.take j++a.drop i++b.drop j).Perm (a.take i++a.drop i++(b.take j++b.drop j)):=by
   simp only[P2]
   refine List.Perm.append_left _ ?_
   rw[<- P2,<- P2]
   exact A7.append_right _
  rw[B4,B4]at e
  exact ((h.perm.append_right _).append_right _).trans e
 ·rw[P2]
  refine j5.mpr ⟨h.srt,j5.mpr ⟨ha.sublist (m7 _ _),hb.sublist (m7 _ _),hx⟩,λx hx y hy=>?_⟩
  rcases G4.mp hy with hy|hy
  ·exact h.la x hx y hy
  ·exact h.lb x hx y hy
theorem Mg.finC(h:Mg le a b out i j)(ha:a.Pairwise le)(hb:b.Pairwise le)(hx:∀x∈b.drop j,∀y∈a.drop i,le x y):(out++b.drop j++a.drop i).Perm (a++b)/\(out++b.drop j++a.drop i).Pairwise le:=by
 obtain⟨h1,h2⟩:=h.comm.fin hb ha hx
 exact ⟨h1.trans A7,h2⟩
end
noncomputable abbrev Gk:=Option (Array Keyed)×Array Keyed×Nat×Nat×Nat×Nat×Nat
noncomputable abbrev SI:=Option (Array Keyed)×Array Keyed×Nat×Nat×Nat×Nat
noncomputable abbrev UI:=Option (Array Keyed)×Array Keyed×Nat×Nat×Nat
section
variable (x y:Array Keyed)
noncomputable def dn(o:Array Keyed)(i j:Nat):Array Keyed:=o++x.extract i x.size++y.extract j y.size
noncomputable def ls(o:Array Keyed)(i j:Nat):Array Keyed:=o++y.extract j y.size++x.extract i x.size
noncomputable def VI(o:Array Keyed)(i j g ac bc:Nat):StateT SortSt Sem (ForInStep Gk):=do
 let z<-elem' x i
 if (i+1+1==x.size)=true then pure (.done (some (ls x y (o.push z) (i+1) j),o.push z,i+1,j,g,ac,bc))
 else if (decide (ac < 7)&&decide (bc < 7))=true then pure (.done (none,o.push z,i+1,j,g,ac,bc))
 else pure (.yield (none,o.push z,i+1,j,g,ac,bc))
noncomputable def XI(o:Array Keyed)(i j g ac bc:Nat):StateT SortSt Sem (ForInStep Gk):=do
 let z<-elem' y j
 if (j+1==y.size)=true then pure (.done (some (dn x y (o.push z) i (j+1)),o.push z,i,j+1,g,ac,bc))
 else do
  let u<-elem' x i
  let some k<-zD true u y (j+1) (y.size - (j+1)) 0|pure (.done (some (dn x y (o.push z) i (j+1)),o.push z,i,j+1,g,ac,bc))
  if k > 0 then
   if (j+1+k==y.size)=true then pure (.done (some (dn x y (o.push z++y.extract (j+1) (j+1+k)) i (j+1+k)),o.push z++y.extract (j+1) (j+1+k),i,j+1+k,g,ac,k))
   else VI x y (o.push z++y.extract (j+1) (j+1+k)) i (j+1+k) g ac k
  else VI x y (o.push z) i (j+1) g ac k
noncomputable def YI(o:Array Keyed)(i j g ac bc:Nat):StateT SortSt Sem (ForInStep Gk):=do
 modify λv=>tK v g
 let z<-elem' y j
 let some k<-zD false z x i (x.size - i) 0|pure (.done (some (dn x y o i j),o,i,j,g,ac,bc))
 if k > 0 then
   if (i+k+1==x.size)=true then pure (.done (some (ls x y (o++x.extract i (i+k)) (i+k) j),o++x.extract i (i+k),i+k,j,g,k,bc))
   else if (i+k==x.size)=true then pure (.done (some (dn x y (o++x.extract i (i+k)) (i+k) j),o++x.extract i (i+k),i+k,j,g,k,bc))
   else XI x y (o++x.extract i (i+k)) (i+k) j g k bc
 else XI x y o i j g k bc
noncomputable def SL(t:Gk):StateT SortSt Sem (ForInStep Gk) :=
 if t.2.2.2.2.1 > 1 then YI x y t.2.1 t.2.2.1 t.2.2.2.1 (t.2.2.2.2.1 - 1) t.2.2.2.2.2.1 t.2.2.2.2.2.2
 else YI x y t.2.1 t.2.2.1 t.2.2.2.1 t.2.2.2.2.1 t.2.2.2.2.2.1 t.2.2.2.2.2.2
noncomputable def TL(g:Nat)(t:SI):StateT SortSt Sem (ForInStep SI):=do
 let z<-elem' y t.2.2.2.1
 let u<-elem' x t.2.2.1
 let some yw<-lt' z u|pure (.done (some (dn x y t.2.1 t.2.2.1 t.2.2.2.1),t.2.1,t.2.2.1,t.2.2.2.1,t.2.2.2.2.1,t.2.2.2.2.2))
 if yw=true then do
   let z<-elem' y t.2.2.2.1
   if (t.2.2.2.1+1==y.size)=true then pure (.done (some (dn x y (t.2.1.push z) t.2.2.1 (t.2.2.2.1+1)),t.2.1.push z,t.2.2.1,t.2.2.2.1+1,0,t.2.2.2.2.2+1))
   else if t.2.2.2.2.2+1 ≥ g then pure (.done (none,t.2.1.push z,t.2.2.1,t.2.2.2.1+1,0,t.2.2.2.2.2+1))
   else pure (.yield (none,t.2.1.push z,t.2.2.1,t.2.2.2.1+1,0,t.2.2.2.2.2+1))
 else do
   let z<-elem' x t.2.2.1
   if (t.2.2.1+1+1==x.size)=true then pure (.done (some (ls x y (t.2.1.push z) (t.2.2.1+1) t.2.2.2.1),t.2.1.push z,t.2.2.1+1,t.2.2.2.1,t.2.2.2.2.1+1,0))
   else if t.2.2.2.2.1+1 ≥ g then pure (.done (none,t.2.1.push z,t.2.2.1+1,t.2.2.2.1,t.2.2.2.2.1+1,0))
   else pure (.yield (none,t.2.1.push z,t.2.2.1+1,t.2.2.2.1,t.2.2.2.2.1+1,0))
noncomputable def ZI(t:UI):StateT SortSt Sem (ForInStep UI):=do
 let v<-forIn [:x.size+y.size] ((none,t.2.1,t.2.2.1,t.2.2.2.1,0,0):SI) λ_ v=>TL x y t.2.2.2.2 v
 match v.1 with
 | some r=>pure (.done (some r,v.2.1,v.2.2.1,v.2.2.2.1,t.2.2.2.2))
 | none=>do
  liftM (rule "list.sort.gallop")
  let u<-forIn [:x.size+y.size] ((none,v.2.1,v.2.2.1,v.2.2.2.1,t.2.2.2.2+1,v.2.2.2.2.1,v.2.2.2.2.2):Gk) λ_ u=>SL x y u
  match u.1 with
  | some r=>pure (.done (some r,u.2.1,u.2.2.1,u.2.2.2.1,u.2.2.2.2.1))
  | none=>do
   modify λz=>tK z (u.2.2.2.2.1+1)
   pure (.yield (none,u.2.1,u.2.2.1,u.2.2.2.1,u.2.2.2.2.1+1))
end
theorem Hk(x y:Array Keyed):QI x y=(do
    rule "list.sort.merge-lo"
    let tt:=x.size+y.size
    let dn (o:Array Keyed) (i j:Nat):=o++x.extract i x.size++y.extract j y.size
    let ls (o:Array Keyed) (i j:Nat):=o++y.extract j y.size++x.extract i x.size
    let mut o:Array Keyed:=#[<- elem' y 0]
    let mut i:=0
    let mut j:=1
    if j==y.size then return dn o i j
    if i+1==x.size then return ls o i j
    let mut g:=gallopOf (<- get)
    for _ in [0:tt] do
      let mut ac:=0
      let mut bc:=0
      for _ in [0:tt] do
        let some yw<-lt' (<- elem' y j) (<- elem' x i)|return dn o i j
        if yw then
          o:=o.push (<- elem' y j);j:=j+1;bc:=bc+1;ac:=0
          if j==y.size then return dn o i j
          if bc ≥ g then break
        else
          o:=o.push (<- elem' x i);i:=i+1;ac:=ac+1;bc:=0
          if i+1==x.size then return ls o i j
          if ac ≥ g then break
      rule "list.sort.gallop"
      g:=g+1
      for _ in [0:tt] do
        if g > 1 then g:=g - 1
        modify (tK · g)
        let some k<-zD false (<- elem' y j) x i (x.size - i) 0|return dn o i j
        ac:=k
        if k > 0 then
          o:=o++x.extract i (i+k);i:=i+k
          if i+1==x.size then return ls o i j
          if i==x.size then return dn o i j
        o:=o.push (<- elem' y j);j:=j+1
        if j==y.size then return dn o i j
        let some k<-zD true (<- elem' x i) y j (y.size - j) 0|return dn o i j
        bc:=k
        if k > 0 then
          o:=o++y.extract j (j+k);j:=j+k
          if j==y.size then return dn o i j
        o:=o.push (<- elem' x i);i:=i+1
        if i+1==x.size then return ls o i j
        if ac < 7&&bc < 7 then break
      g:=g+1
      modify (tK · g)
    unsupported "internal:list.sort.merge-bound"):=rfl
theorem Ru(x y:Array Keyed):QI x y=(do
    liftM (rule "list.sort.merge-lo")
    let z<-elem' y 0
    if (1==y.size)=true then pure (dn x y #[z] 0 1)
    else if (0+1==x.size)=true then pure (ls x y #[z] 0 1)
    else do
      let s<-get
      let v<-forIn [:x.size+y.size] ((none,#[z],0,1,gallopOf s):UI) λ_ v=>ZI x y v
      match v.1 with
      | some r=>pure r
      | none=>unsupported "internal:list.sort.merge-bound"):=by
 rw[Hk]
 dsimp only
 refine congrArg (bind _) (funext λ_=>?_)
 refine congrArg (bind _) (funext λz=>?_)
 refine congr (congrArg _ rfl) ?_
 refine congr (congrArg _ rfl) ?_
 refine congrArg (bind _) (funext λs=>?_)
 refine congr (congrArg bind ?A) (funext λv=>by obtain⟨r,v⟩:=v;cases r<;>rfl)
 refine congrArg _ (funext λ_=>funext λv=>?_)
 unfold ZI
 refine congr (congrArg bind rfl) (funext λv=>?_)
 obtain⟨r,v⟩:=v
 cases r with
 | some r=>rfl
 | none =>
  refine congrArg (bind _) (funext λ_=>?_)
  refine congr (congrArg bind ?A2) (funext λv=>by obtain⟨r,v⟩:=v;cases r<;>rfl)
  rfl
section
variable {α:Type}{x y o:Array α}{i j k:Nat}
theorem pY:(x.extract i x.size).toList=x.toList.drop i:=by
 rw[Q4,K3,u7 (by simp)]
theorem av:(x.extract i (i+k)).toList=(x.toList.drop i).take k:=by
 rw[Q4,K3,u6]
theorem MX{v:α}(h:v∈x.toList.drop i):∃(n:Nat) (hn:n < x.size),i<=n/\v=x[n]:=by
 obtain⟨n,hn,e⟩:=U4 h
 rw[J7,T0]at hn
 refine ⟨i+n,by omega,by omega,?_⟩
 rw[<- e,x8,G3]
theorem SJ{v:α}(h:v∈(x.toList.drop i).take k):∃(n:Nat) (hn:n < x.size),i<=n/\n < i+k/\v=x[n]:=by
 obtain⟨n,hn,e⟩:=U4 h
 rw[Z3,J7,T0]at hn
 refine ⟨i+n,by omega,by omega,by omega,?_⟩
 rw[<- e,y8,x8,G3]
end
theorem Ik(x y o:Array Keyed)(i j:Nat):(dn x y o i j).toList=o.toList++x.toList.drop i++y.toList.drop j:=by
 unfold dn
 rw[V2,V2,pY,pY]
theorem Jk(x y o:Array Keyed)(i j:Nat):(ls x y o i j).toList=o.toList++y.toList.drop j++x.toList.drop i:=by
 unfold ls
 rw[V2,V2,pY,pY]
section
variable {prog:Program}{w:World}{A:Around}{E:Value->Shared->Prop}{s:Shared}{κ:SortKind}{rk:Keyed->Nat}{S:Keyed->Prop}{x y:Array Keyed}
noncomputable abbrev TW(rk:Keyed->Nat):Keyed->Keyed->Prop:=λa b=>rk a<=rk b
structure Hy(rk:Keyed->Nat)(S:Keyed->Prop)(x y:Array Keyed):Prop where
 hx:x.toList.Pairwise (TW rk)
 hy:y.toList.Pairwise (TW rk)
 Sx:∀i (h:i < x.size),S x[i]
 Sy:∀i (h:i < y.size),S y[i]
 x0:0 < x.size
 y0:0 < y.size
 hl:∀i (h:i < y.size),rk y[i]<=rk x[x.size - 1]
 hf:∀i (h:i < x.size),rk y[0]<=rk x[i]
theorem bZ{x:Array Keyed}(h:x.toList.Pairwise (TW rk)){i j:Nat}(hj:j < x.size)(hij:i<=j):rk (x[i]'(by omega))<=rk x[j]:=by
 rcases Q9 i j with h1|h1
 ·have:=S2.mp h i j (by simpa using (by omega:i < x.size)) (by simpa using hj) h1
  simpa using this
 ·have:i=j:=by omega
  subst this
  exact R0 _
noncomputable def Po(rk:Keyed->Nat)(x y r:Array Keyed):Prop:=r.toList.Perm (x.toList++y.toList)/\r.toList.Pairwise (TW rk)
theorem IU(H:Hy rk S x y){o:Array Keyed}{i j:Nat}(m:Mg (TW rk) x.toList y.toList o.toList i j)(h:y.size<=j\/x.size<=i):Po rk x y (dn x y o i j):=by
 unfold Po
 rw[Ik]
 refine m.fin H.hx H.hy λv hv u hu=>?_
 obtain⟨n,hn,n1,_⟩:=MX hv
 obtain⟨k,hk,k1,_⟩:=MX hu
 omega
theorem jF(H:Hy rk S x y){o:Array Keyed}{i j:Nat}(m:Mg (TW rk) x.toList y.toList o.toList i j)(h:i+1=x.size):Po rk x y (ls x y o i j):=by
 unfold Po
 rw[Jk]
 refine m.finC H.hx H.hy λv hv u hu=>?_
 obtain⟨n,hn,n1,rfl⟩:=MX hv
 obtain⟨k,hk,k1,rfl⟩:=MX hu
 have:k=x.size - 1:=by omega
 subst this
 exact H.hl n hn
theorem qV{α:Type}(o:Array α)(z:α):(o.push z).toList=o.toList++[z]:=K6
structure J(rk:Keyed->Nat)(x y:Array Keyed)(N:Nat)(o:Array Keyed)(i j:Nat):Prop where
 m:Mg (TW rk) x.toList y.toList o.toList i j
 hi:i+1 < x.size
 hj:j < y.size
 hN:N<=i+j
theorem J.pushX(H:Hy rk S x y){N:Nat}{o:Array Keyed}{i j:Nat}(m:Mg (TW rk) x.toList y.toList o.toList i j)(hi:i < x.size)(h:∀n (hn:n < y.size),j<=n->rk x[i]<=rk y[n]):Mg (TW rk) x.toList y.toList (o.push x[i]).toList (i+1) j:=by
 rw[qV]
 have:=m.oneA H.hx (by simpa using hi) λv hv=>by
  obtain⟨n,hn,n1,rfl⟩:=MX hv
  simpa using h n hn n1
 simpa using this
theorem J.pushY(H:Hy rk S x y){N:Nat}{o:Array Keyed}{i j:Nat}(m:Mg (TW rk) x.toList y.toList o.toList i j)(hj:j < y.size)(h:∀n (hn:n < x.size),i<=n->rk y[j]<=rk x[n]):Mg (TW rk) x.toList y.toList (o.push y[j]).toList i (j+1):=by
 rw[qV]
 have:=m.comm.oneA H.hy (by simpa using hj) λv hv=>by
  obtain⟨n,hn,n1,rfl⟩:=MX hv
  simpa using h n hn n1
 have:=this.comm
 simpa using this
noncomputable def RT(rk:Keyed->Nat)(x y:Array Keyed)(N:Nat)(c:Gk):Prop:=(∃t,c.1=some t/\Po rk x y t)\/(c.1=none/\J rk x y N c.2.1 c.2.2.1 c.2.2.2.1)
noncomputable def Gs(z z':SortSt):Prop:=∃g,z'=tK z g
theorem Gs.refl(z:SortSt):Gs z z:=⟨gallopOf z,rfl⟩
theorem Gs.set{z z':SortSt}(h:Gs z z')(g:Nat):Gs z (tK z' g):=by obtain⟨_,rfl⟩:=h;exact ⟨g,rfl⟩
theorem Gs.kind{z z':SortSt}(h:Gs z z'):kindOf z'=kindOf z:=by obtain⟨_,rfl⟩:=h;rfl
noncomputable def aL(rk:Keyed->Nat)(x y:Array Keyed)(N:Nat)(st:SortSt)(r:ForInStep Gk)(st':SortSt):Prop :=
 Gs st st'/\match r with
  | .done c=>RT rk x y N c
  | .yield c=>c.1=none/\J rk x y N c.2.1 c.2.2.1 c.2.2.2.1
theorem bv(H:Hy rk S x y){N:Nat}{o:Array Keyed}{i j g ac bc:Nat}{st st':SortSt}(hg:Gs st st')(m:Mg (TW rk) x.toList y.toList o.toList i j)(hi:i+1 < x.size)(hj:j < y.size)(hN:N<=i+j+1)
  (h:∀n (hn:n < y.size),j<=n->rk (x[i]'(by omega))<=rk y[n]):wpS (model prog w) A E s (VI x y o i j g ac bc) (aL rk x y N st) st':=by
 unfold VI
 have m':=J.pushX H (N:=N) m (by omega) h
 refine wpS_bind (VQ (by omega) ?_)
 by_cases h1:i+1+1=x.size
 ·rw[if_pos (by simpa using h1)]
  exact wpS_pure ⟨hg,.inl ⟨_,rfl,jF H m' h1⟩⟩
 ·rw[if_neg (by simpa using h1)]
  have jj:J rk x y N (o.push (x[i]'(by omega))) (i+1) j:=⟨m',by omega,hj,by omega⟩
  by_cases h2:(decide (ac < 7)&&decide (bc < 7))=true
  ·rw[if_pos h2]
   exact wpS_pure ⟨hg,.inr ⟨rfl,jj⟩⟩
  ·rw[if_neg h2]
   exact wpS_pure ⟨hg,rfl,jj⟩
theorem cv(q:jZ prog w A s κ rk S)(H:Hy rk S x y){N:Nat}{o:Array Keyed}{i j g ac bc:Nat}{st st':SortSt}(hk:kindOf st=κ)(hg:Gs st st')(m:Mg (TW rk) x.toList y.toList o.toList i j)(hi:i+1 < x.size)(hj:j < y.size)(hN:N<=i+j+1)
  (h:∀n (hn:n < x.size),i<=n->rk (y[j]'(by omega))<=rk x[n]):wpS (model prog w) A E s (XI x y o i j g ac bc) (aL rk x y N st) st':=by
 unfold XI
 have m':=J.pushY H (N:=N) m hj h
 refine wpS_bind (VQ hj ?_)
 by_cases h1:j+1=y.size
 ·rw[if_pos (by simpa using h1)]
  exact wpS_pure ⟨hg,.inl ⟨_,rfl,IU H m' (.inl (by omega))⟩⟩
 ·rw[if_neg (by simpa using h1)]
  refine wpS_bind (VQ (by omega) ?_)
  refine wpS_bind (BZ q (hg.kind.trans hk) (H.Sx _ _) H.Sy (by omega) (λa b hb hab _ _=>bZ H.hy hb hab) (by omega) λk kn k1 k2=>?_)
  dsimp only
  by_cases hk0:k > 0
  ·rw[if_pos hk0]
   have m2:Mg (TW rk) x.toList y.toList (o.push (y[j]'hj)++y.extract (j+1) (j+1+k)).toList i (j+1+k):=by
    rw[V2,av]
    refine (m'.comm.takeA H.hy k λv hv u hu=>?_).comm
    obtain⟨n,hn,n1,n2,rfl⟩:=SJ hv
    obtain⟨p,hp,p1,rfl⟩:=MX hu
    have:=k1 n hn n1 n2
    rw[if_pos rfl]at this
    have:=bZ H.hx hp p1
    show rk _<=rk _
    omega
   by_cases h2:j+1+k=y.size
   ·rw[if_pos (by simpa using h2)]
    exact wpS_pure ⟨hg,.inl ⟨_,rfl,IU H m2 (.inl (by omega))⟩⟩
   ·rw[if_neg (by simpa using h2)]
    refine bv H hg m2 hi (by omega) (by omega) λn hn n1=>?_
    have:=k2 n hn (by omega) (by omega)
    rw[if_pos rfl]at this
    exact this
  ·rw[if_neg hk0]
   refine bv H hg m' hi (by omega) (by omega) λn hn n1=>?_
   have:=k2 n hn (by omega) (by omega)
   rw[if_pos rfl]at this
   exact this
theorem jv(q:jZ prog w A s κ rk S)(H:Hy rk S x y){N:Nat}{o:Array Keyed}{i j g ac bc:Nat}{st st':SortSt}(hk:kindOf st=κ)(hg:Gs st st')(m:Mg (TW rk) x.toList y.toList o.toList i j)(hi:i+1 < x.size)(hj:j < y.size)(hN:N<=i+j+1) :
  wpS (model prog w) A E s (YI x y o i j g ac bc) (aL rk x y N st) st':=by
 unfold YI
 refine wpS_bind (wpS_modify ?_)
 have hg':=hg.set g
 refine wpS_bind (VQ hj ?_)
 refine wpS_bind (BZ q (hg'.kind.trans hk) (H.Sy _ _) H.Sx (by omega) (λa b hb hab _ _=>bZ H.hx hb hab) (by omega) λk kn k1 k2=>?_)
 dsimp only
 by_cases hk0:k > 0
 ·rw[if_pos hk0]
  have m2:Mg (TW rk) x.toList y.toList (o++x.extract i (i+k)).toList (i+k) j:=by
   rw[V2,av]
   refine m.takeA H.hx k λv hv u hu=>?_
   obtain⟨n,hn,n1,n2,rfl⟩:=SJ hv
   obtain⟨p,hp,p1,rfl⟩:=MX hu
   have:=k1 n hn n1 n2
   rw[if_neg (by decide)]at this
   have:=bZ H.hy hp p1
   show rk _<=rk _
   omega
  by_cases h2:i+k+1=x.size
  ·rw[if_pos (by simpa using h2)]
   exact wpS_pure ⟨hg',.inl ⟨_,rfl,jF H m2 h2⟩⟩
  ·rw[if_neg (by simpa using h2)]
   by_cases h3:i+k=x.size
   ·rw[if_pos (by simpa using h3)]
    exact wpS_pure ⟨hg',.inl ⟨_,rfl,IU H m2 (.inr (by omega))⟩⟩
   ·rw[if_neg (by simpa using h3)]
    refine cv q H hk hg' m2 (by omega) hj (by omega) λn hn n1=>?_
    have:=k2 n hn (by omega) (by omega)
    rw[if_neg (by decide)]at this
    omega
 ·rw[if_neg hk0]
  refine cv q H hk hg' m hi hj (by omega) λn hn n1=>?_
  have:=k2 n hn (by omega) (by omega)
  rw[if_neg (by decide)]at this
  omega
theorem vE(q:jZ prog w A s κ rk S)(H:Hy rk S x y){N:Nat}{c:Gk}{st st':SortSt}(hk:kindOf st=κ)(hg:Gs st st')(hJ:J rk x y N c.2.1 c.2.2.1 c.2.2.2.1) :
  wpS (model prog w) A E s (SL x y c) (aL rk x y (N+1) st) st':=by
 unfold SL
 have:=hJ.hN
 split
 ·exact jv q H hk hg hJ.m hJ.hi hJ.hj (by omega)
 ·exact jv q H hk hg hJ.m hJ.hi hJ.hj (by omega)
theorem wE(q:jZ prog w A s κ rk S)(H:Hy rk S x y){N g:Nat}{c:SI}{st:SortSt}(hk:kindOf st=κ)(hJ:J rk x y N c.2.1 c.2.2.1 c.2.2.2.1) :
  wpS (model prog w) A E s (TL x y g c) (λr st'=>st'=st/\match r with
    | .done c=>(∃t,c.1=some t/\Po rk x y t)\/(c.1=none/\J rk x y (N+1) c.2.1 c.2.2.1 c.2.2.2.1)
    | .yield c=>c.1=none/\J rk x y (N+1) c.2.1 c.2.2.1 c.2.2.2.1) st:=by
 unfold TL
 obtain⟨m,hi,hj,hN⟩:=hJ
 refine wpS_bind (VQ hj ?_)
 refine wpS_bind (VQ (by omega) ?_)
 refine wpS_bind (w_lt q hk (H.Sy _ _) (H.Sx _ _) ?_)
 dsimp only
 by_cases hlt:rk (y[c.2.2.2.1]'hj) < rk (x[c.2.2.1]'(by omega))
 ·rw[if_pos (by simpa using hlt)]
  have m':=J.pushY H (N:=N) m hj λn hn n1=>by have:=bZ H.hx hn n1;omega
  refine wpS_bind (VQ hj ?_)
  by_cases h1:c.2.2.2.1+1=y.size
  ·rw[if_pos (by simpa using h1)]
   exact wpS_pure ⟨rfl,.inl ⟨_,rfl,IU H m' (.inl (by omega))⟩⟩
  ·rw[if_neg (by simpa using h1)]
   have jj:J rk x y (N+1) (c.2.1.push (y[c.2.2.2.1]'hj)) c.2.2.1 (c.2.2.2.1+1):=⟨m',hi,by omega,by omega⟩
   split
   ·exact wpS_pure ⟨rfl,.inr ⟨rfl,jj⟩⟩
   ·exact wpS_pure ⟨rfl,rfl,jj⟩
 ·rw[if_neg (by simpa using hlt)]
  have m':=J.pushX H (N:=N) m (by omega) λn hn n1=>by have:=bZ H.hy hn n1;omega
  refine wpS_bind (VQ (by omega) ?_)
  by_cases h1:c.2.2.1+1+1=x.size
  ·rw[if_pos (by simpa using h1)]
   exact wpS_pure ⟨rfl,.inl ⟨_,rfl,jF H m' h1⟩⟩
  ·rw[if_neg (by simpa using h1)]
   have jj:J rk x y (N+1) (c.2.1.push (x[c.2.2.1]'(by omega))) (c.2.2.1+1) c.2.2.2.1:=⟨m',by omega,hj,by omega⟩
   split
   ·exact wpS_pure ⟨rfl,.inr ⟨rfl,jj⟩⟩
   ·exact wpS_pure ⟨rfl,rfl,jj⟩
theorem xE(q:jZ prog w A s κ rk S)(H:Hy rk S x y){N:Nat}{c:UI}{st st':SortSt}(hk:kindOf st=κ)(hg:Gs st st')(hJ:J rk x y N c.2.1 c.2.2.1 c.2.2.2.1) :
  wpS (model prog w) A E s (ZI x y c) (λr st'=>Gs st st'/\match r with
    | .done c=>∃t,c.1=some t/\Po rk x y t
    | .yield c=>c.1=none/\J rk x y (N+1) c.2.1 c.2.2.1 c.2.2.2.1) st':=by
 unfold ZI
 refine wpS_bind (wpS_mono (wpS_forRange (I:=λn c st''=>st''=st'/\c.1=none/\J rk x y (N+n) c.2.1 c.2.2.1 c.2.2.2.1)
   (Q:=λc st''=>st''=st'/\((∃t,c.1=some t/\Po rk x y t)\/(c.1=none/\J rk x y N c.2.1 c.2.2.1 c.2.2.2.1))) ?step ?fin ⟨rfl,rfl,hJ⟩) ?post)
 case fin =>
  rintro c st'' ⟨rfl,_,h⟩
  have h1:=h.hi
  have h2:=h.hj
  have h3:=h.hN
  omega
 case step =>
  rintro n c st'' _ _ ⟨rfl,_,h⟩
  refine wpS_mono (wE q H (hg.kind.trans hk) h) ?_
  rintro r st3 ⟨rfl,h⟩
  cases r with
  | done c =>
   refine ⟨rfl,h.imp id λh=>⟨h.1,h.2.m,h.2.hi,h.2.hj,?_⟩⟩
   have:=h.2.hN
   omega
  | yield c=>exact ⟨rfl,h.1,h.2⟩
 case post =>
  rintro c st'' ⟨rfl,h⟩
  obtain⟨r,c⟩:=c
  rcases h with⟨t,e,h⟩|⟨e,h⟩
  ·cases e
   exact wpS_pure ⟨hg,_,rfl,h⟩
  ·cases e
   dsimp only
   refine wpS_bind (wpS_lift (wpAny_rule ⟨rfl,?_⟩))
   refine wpS_bind (wpS_mono (wpS_forRange (I:=λn c st''=>Gs st st''/\c.1=none/\J rk x y (N+n) c.2.1 c.2.2.1 c.2.2.2.1)
     (Q:=λc st''=>Gs st st''/\RT rk x y (N+1) c) ?step2 ?fin2 ⟨hg,rfl,h⟩) ?post2)
   case fin2 =>
    rintro c st'' ⟨_,_,h⟩
    have h1:=h.hi
    have h2:=h.hj
    have h3:=h.hN
    omega
   case step2 =>
    rintro n c st'' _ _ ⟨hg2,_,h⟩
    refine wpS_mono (vE q H hk hg2 h) ?_
    rintro r st3 ⟨hg3,h⟩
    cases r with
    | done c =>
     refine ⟨hg3,Or.imp id (λh=>⟨h.1,h.2.m,h.2.hi,h.2.hj,?_⟩) h⟩
     have:=h.2.hN
     omega
    | yield c=>exact ⟨hg3,h.1,h.2⟩
   case post2 =>
    rintro c st'' ⟨hg2,h⟩
    obtain⟨r,c⟩:=c
    rcases h with⟨t,e,h⟩|⟨e,h⟩
    ·cases e
     exact wpS_pure ⟨hg2,_,rfl,h⟩
    ·cases e
     exact wpS_bind (wpS_modify (wpS_pure ⟨hg2.set _,rfl,h⟩))
theorem yE(q:jZ prog w A s κ rk S)(H:Hy rk S x y){st:SortSt}{Q:Array Keyed->SortSt->Prop}(hk:kindOf st=κ)(h:∀r st',Gs st st'->Po rk x y r->Q r st'):wpS (model prog w) A E s (QI x y) Q st:=by
 rw[Ru]
 refine wpS_bind (wpS_lift (wpAny_rule ⟨rfl,?_⟩))
 refine wpS_bind (VQ H.y0 ?_)
 have m0:Mg (TW rk) x.toList y.toList (#[]:Array Keyed).toList 0 0:=⟨by simp,by simp,by simp,by simp⟩
 have m1:=J.pushY H (N:=0) m0 H.y0 λn hn _=>H.hf n hn
 have e1:(#[]:Array Keyed).push (y[0]'H.y0)=#[y[0]'H.y0]:=rfl
 rw[e1]at m1
 have hy0:=H.y0
 have hx0:=H.x0
 by_cases h1:1=y.size
 ·rw[if_pos (by simpa using h1)]
  exact wpS_pure (h _ _ (Gs.refl _) (IU H m1 (.inl (by omega))))
 ·rw[if_neg (by simpa using h1)]
  by_cases h2:0+1=x.size
  ·rw[if_pos (by simpa using h2)]
   exact wpS_pure (h _ _ (Gs.refl _) (jF H m1 h2))
  ·rw[if_neg (by simpa using h2)]
   refine wpS_bind (wpS_get ?_)
   refine wpS_bind (wpS_mono (wpS_forRange (I:=λn c st''=>Gs st st''/\c.1=none/\J rk x y n c.2.1 c.2.2.1 c.2.2.2.1)
     (Q:=λc st''=>Gs st st''/\∃t,c.1=some t/\Po rk x y t) ?step ?fin ⟨Gs.refl _,rfl,m1,by show 0+1 < x.size;omega,by show 1 < y.size;omega,by omega⟩) ?post)
   case fin =>
    rintro c st'' ⟨_,_,h⟩
    have h1:=h.hi
    have h2:=h.hj
    have h3:=h.hN
    omega
   case step =>
    rintro n c st'' _ _ ⟨hg2,_,h⟩
    refine wpS_mono (xE q H hk hg2 h) ?_
    rintro r st3 ⟨hg3,h⟩
    cases r with
    | done c=>exact ⟨hg3,h⟩
    | yield c=>exact ⟨hg3,h⟩
   case post =>
    rintro c st'' ⟨hg2,t,e,hP⟩
    obtain⟨r,c⟩:=c
    cases e
    exact wpS_pure (h _ _ hg2 hP)
end
noncomputable abbrev Kk:=Option (Array Keyed)×Nat×Nat×Array Keyed×Nat×Nat×Nat
noncomputable abbrev bL:=Option (Array Keyed)×Nat×Nat×Array Keyed×Nat×Nat
noncomputable abbrev cL:=Option (Array Keyed)×Nat×Nat×Array Keyed×Nat
section
variable (x y:Array Keyed)
noncomputable def cx(o:Array Keyed)(i j:Nat):Array Keyed:=x.extract 0 i++y.extract 0 j++o.reverse
noncomputable def VB(o:Array Keyed)(i j:Nat):Array Keyed:=y.extract 0 j++x.extract 0 i++o.reverse
noncomputable def hi2(i j:Nat)(o:Array Keyed)(g ac bc:Nat):StateT SortSt Sem (ForInStep Kk):=do
 let z<-elem' x (i - 1)
 if (i - 1==0)=true then pure (.done (some (cx x y (o.push z) (i - 1) j),i - 1,j,o.push z,g,ac,bc))
 else if (decide (ac < 7)&&decide (bc < 7))=true then pure (.done (none,i - 1,j,o.push z,g,ac,bc))
 else pure (.yield (none,i - 1,j,o.push z,g,ac,bc))
noncomputable def hi1(i j:Nat)(o:Array Keyed)(g ac bc:Nat):StateT SortSt Sem (ForInStep Kk):=do
 let z<-elem' y (j - 1)
 if (j - 1==1)=true then pure (.done (some (VB x y (o.push z) i (j - 1)),i,j - 1,o.push z,g,ac,bc))
 else do
  let u<-elem' x (i - 1)
  let some p<-zD true u y 0 (j - 1) (j - 1 - 1)|pure (.done (some (cx x y (o.push z) i (j - 1)),i,j - 1,o.push z,g,ac,bc))
  if j - 1 - p > 0 then
   if (p==1)=true then pure (.done (some (VB x y (o.push z++(y.extract p (j - 1)).reverse) i p),i,p,o.push z++(y.extract p (j - 1)).reverse,g,ac,j - 1 - p))
   else if (p==0)=true then pure (.done (some (cx x y (o.push z++(y.extract p (j - 1)).reverse) i p),i,p,o.push z++(y.extract p (j - 1)).reverse,g,ac,j - 1 - p))
   else hi2 x y i p (o.push z++(y.extract p (j - 1)).reverse) g ac (j - 1 - p)
  else hi2 x y i (j - 1) (o.push z) g ac (j - 1 - p)
noncomputable def dL(i j:Nat)(o:Array Keyed)(g ac bc:Nat):StateT SortSt Sem (ForInStep Kk):=do
 modify λv=>tK v g
 let z<-elem' y (j - 1)
 let some p<-zD false z x 0 i (i - 1)|pure (.done (some (cx x y o i j),i,j,o,g,ac,bc))
 if i - p > 0 then
   if (p==0)=true then pure (.done (some (cx x y (o++(x.extract p i).reverse) p j),p,j,o++(x.extract p i).reverse,g,i - p,bc))
   else hi1 x y p j (o++(x.extract p i).reverse) g (i - p) bc
 else hi1 x y i j o g (i - p) bc
noncomputable def UL(t:Kk):StateT SortSt Sem (ForInStep Kk) :=
 if t.2.2.2.2.1 > 1 then dL x y t.2.1 t.2.2.1 t.2.2.2.1 (t.2.2.2.2.1 - 1) t.2.2.2.2.2.1 t.2.2.2.2.2.2
 else dL x y t.2.1 t.2.2.1 t.2.2.2.1 t.2.2.2.2.1 t.2.2.2.2.2.1 t.2.2.2.2.2.2
noncomputable def VL(g:Nat)(t:bL):StateT SortSt Sem (ForInStep bL):=do
 let z<-elem' y (t.2.2.1 - 1)
 let u<-elem' x (t.2.1 - 1)
 let some xw<-lt' z u|pure (.done (some (cx x y t.2.2.2.1 t.2.1 t.2.2.1),t.2.1,t.2.2.1,t.2.2.2.1,t.2.2.2.2.1,t.2.2.2.2.2))
 if xw=true then do
   let z<-elem' x (t.2.1 - 1)
   if (t.2.1 - 1==0)=true then pure (.done (some (cx x y (t.2.2.2.1.push z) (t.2.1 - 1) t.2.2.1),t.2.1 - 1,t.2.2.1,t.2.2.2.1.push z,t.2.2.2.2.1+1,0))
   else if t.2.2.2.2.1+1 ≥ g then pure (.done (none,t.2.1 - 1,t.2.2.1,t.2.2.2.1.push z,t.2.2.2.2.1+1,0))
   else pure (.yield (none,t.2.1 - 1,t.2.2.1,t.2.2.2.1.push z,t.2.2.2.2.1+1,0))
 else do
   let z<-elem' y (t.2.2.1 - 1)
   if (t.2.2.1 - 1==1)=true then pure (.done (some (VB x y (t.2.2.2.1.push z) t.2.1 (t.2.2.1 - 1)),t.2.1,t.2.2.1 - 1,t.2.2.2.1.push z,0,t.2.2.2.2.2+1))
   else if t.2.2.2.2.2+1 ≥ g then pure (.done (none,t.2.1,t.2.2.1 - 1,t.2.2.2.1.push z,0,t.2.2.2.2.2+1))
   else pure (.yield (none,t.2.1,t.2.2.1 - 1,t.2.2.2.1.push z,0,t.2.2.2.2.2+1))
noncomputable def eL(t:cL):StateT SortSt Sem (ForInStep cL):=do
 let v<-forIn [:x.size+y.size] ((none,t.2.1,t.2.2.1,t.2.2.2.1,0,0):bL) λ_ v=>VL x y t.2.2.2.2 v
 match v.1 with
 | some r=>pure (.done (some r,v.2.1,v.2.2.1,v.2.2.2.1,t.2.2.2.2))
 | none=>do
  liftM (rule "list.sort.gallop")
  let u<-forIn [:x.size+y.size] ((none,v.2.1,v.2.2.1,v.2.2.2.1,t.2.2.2.2+1,v.2.2.2.2.1,v.2.2.2.2.2):Kk) λ_ u=>UL x y u
  match u.1 with
  | some r=>pure (.done (some r,u.2.1,u.2.2.1,u.2.2.2.1,u.2.2.2.2.1))
  | none=>do
   modify λz=>tK z (u.2.2.2.2.1+1)
   pure (.yield (none,u.2.1,u.2.2.1,u.2.2.2.1,u.2.2.2.2.1+1))
end
theorem Lk(x y:Array Keyed):RI x y=(do
    rule "list.sort.merge-hi"
    let tt:=x.size+y.size
    let dn (o:Array Keyed) (i j:Nat):=x.extract 0 i++y.extract 0 j++o.reverse
    let fs (o:Array Keyed) (i j:Nat):=y.extract 0 j++x.extract 0 i++o.reverse
    let mut i:=x.size - 1
    let mut j:=y.size
    let mut o:Array Keyed:=#[<- elem' x i]
    if i==0 then return dn o i j
    if j==1 then return fs o i j
    let mut g:=gallopOf (<- get)
    for _ in [0:tt] do
      let mut ac:=0
      let mut bc:=0
      for _ in [0:tt] do
        let some xw<-lt' (<- elem' y (j - 1)) (<- elem' x (i - 1))|return dn o i j
        if xw then
          i:=i - 1;o:=o.push (<- elem' x i);ac:=ac+1;bc:=0
          if i==0 then return dn o i j
          if ac ≥ g then break
        else
          j:=j - 1;o:=o.push (<- elem' y j);bc:=bc+1;ac:=0
          if j==1 then return fs o i j
          if bc ≥ g then break
      rule "list.sort.gallop"
      g:=g+1
      for _ in [0:tt] do
        if g > 1 then g:=g - 1
        modify (tK · g)
        let some p<-zD false (<- elem' y (j - 1)) x 0 i (i - 1)|return dn o i j
        let k:=i - p
        ac:=k
        if k > 0 then
          o:=o++(x.extract p i).reverse;i:=p
          if i==0 then return dn o i j
        j:=j - 1;o:=o.push (<- elem' y j)
        if j==1 then return fs o i j
        let some p<-zD true (<- elem' x (i - 1)) y 0 j (j - 1)|return dn o i j
        let k:=j - p
        bc:=k
        if k > 0 then
          o:=o++(y.extract p j).reverse;j:=p
          if j==1 then return fs o i j
          if j==0 then return dn o i j
        i:=i - 1;o:=o.push (<- elem' x i)
        if i==0 then return dn o i j
        if ac < 7&&bc < 7 then break
      g:=g+1
      modify (tK · g)
    unsupported "internal:list.sort.merge-bound"):=rfl
theorem Su(x y:Array Keyed):RI x y=(do
    liftM (rule "list.sort.merge-hi")
    let z<-elem' x (x.size - 1)
    if (x.size - 1==0)=true then pure (cx x y #[z] (x.size - 1) y.size)
    else if (y.size==1)=true then pure (VB x y #[z] (x.size - 1) y.size)
    else do
      let s<-get
      let v<-forIn [:x.size+y.size] ((none,x.size - 1,y.size,#[z],gallopOf s):cL) λ_ v=>eL x y v
      match v.1 with
      | some r=>pure r
      | none=>unsupported "internal:list.sort.merge-bound"):=by
 rw[Lk]
 dsimp only
 refine congrArg (bind _) (funext λ_=>?_)
 refine congrArg (bind _) (funext λz=>?_)
 refine congr (congrArg _ rfl) ?_
 refine congr (congrArg _ rfl) ?_
 refine congrArg (bind _) (funext λs=>?_)
 refine congr (congrArg bind ?A) (funext λv=>by obtain⟨r,v⟩:=v;cases r<;>rfl)
 refine congrArg _ (funext λ_=>funext λv=>?_)
 unfold eL
 refine congr (congrArg bind rfl) (funext λv=>?_)
 obtain⟨r,v⟩:=v
 cases r with
 | some r=>rfl
 | none =>
  refine congrArg (bind _) (funext λ_=>?_)
  refine congr (congrArg bind ?A2) (funext λv=>by obtain⟨r,v⟩:=v;cases r<;>rfl)
  rfl
section
variable {α:Type}{x:Array α}{i j k:Nat}
theorem CZ(hi:i<=x.size):x.toList.reverse.drop (x.size - i)=(x.toList.take i).reverse:=by
 rw[List.drop_reverse,T0,Nat.sub_sub_self hi]
theorem rJ{v:α}(hi:i<=x.size)(h:v∈x.toList.reverse.drop (x.size - i)):∃(n:Nat) (hn:n < x.size),n < i/\v=x[n]:=by
 rw[CZ hi,List.mem_reverse]at h
 obtain⟨n,hn,e⟩:=U4 h
 rw[Z3,T0]at hn
 refine ⟨n,by omega,by omega,?_⟩
 rw[<- e,y8,G3]
theorem RV(hk:k<=i)(hi:i<=x.size):(x.extract k i).reverse.toList=(x.toList.reverse.drop (x.size - i)).take (i - k):=by
 rw[O6,Q4,K3,CZ hi,List.take_reverse,Z3,T0,Nat.min_eq_left hi,Nat.sub_sub_self hk,List.drop_take]
theorem kF:(x.extract 0 i).toList=x.toList.take i:=by
 rw[Q4,K3,List.drop_zero,Nat.sub_zero]
end
section
variable {prog:Program}{w:World}{A:Around}{E:Value->Shared->Prop}{s:Shared}{κ:SortKind}{rk:Keyed->Nat}{S:Keyed->Prop}{x y:Array Keyed}
noncomputable abbrev MM(rk:Keyed->Nat):Keyed->Keyed->Prop:=λa b=>rk b<=rk a
structure MH(rk:Keyed->Nat)(x y:Array Keyed)(o:Array Keyed)(i j:Nat):Prop where
 m:Mg (MM rk) x.toList.reverse y.toList.reverse o.toList (x.size - i) (y.size - j)
 hi:i<=x.size
 hj:j<=y.size
theorem MH.comm{o:Array Keyed}{i j:Nat}(h:MH rk x y o i j):MH rk y x o j i:=⟨h.m.comm,h.hj,h.hi⟩
theorem MH.chunk(hx:x.toList.Pairwise (TW rk)){o:Array Keyed}{i j p:Nat}(h:MH rk x y o i j)(hp:p<=i)(hk:∀n (hn:n < x.size) k (hk:k < y.size),p<=n->n < i->k < j->rk y[k]<=rk x[n]) :
  MH rk x y (o++(x.extract p i).reverse) p j:=by
 have hi:=h.hi
 refine ⟨?_,by omega,h.hj⟩
 rw[V2,RV hp hi]
 have e:x.size - p=x.size - i+(i - p):=by omega
 rw[e]
 refine h.m.takeA (Z4.mpr hx) (i - p) λv hv u hu=>?_
 obtain⟨k,hk1,hk2,rfl⟩:=rJ h.hj hu
 rw[<- RV hp hi,O6,List.mem_reverse,Q4,K3]at hv
 obtain⟨n,hn,n1,n2,rfl⟩:=SJ hv
 exact hk n hn k hk1 n1 (by omega) hk2
theorem MH.push(hx:x.toList.Pairwise (TW rk)){o:Array Keyed}{i j:Nat}(h:MH rk x y o i j)(h0:0 < i)(hk:∀k (hk:k < y.size),k < j->rk y[k]<=rk (x[i - 1]'(by have:=h.hi;omega))) :
  MH rk x y (o.push (x[i - 1]'(by have:=h.hi;omega))) (i - 1) j:=by
 have hi:=h.hi
 have e:o.push (x[i - 1]'(by omega))=o++(x.extract (i - 1) i).reverse:=by
  apply Array.toList_inj.mp
  rw[K6,V2,RV (by omega) hi,show i - (i - 1)=1 by omega,u4 (by simp;omega)]
  simp only[List.take_succ_cons,List.take_zero,List.getElem_reverse,G3,T0]
  congr 3
  omega
 rw[e]
 refine h.chunk hx (by omega) λn hn k hk1 n1 n2 k2=>?_
 have:n=i - 1:=by omega
 subst this
 exact hk k hk1 k2
theorem lF{a b o r:List Keyed}(h:(o++a++b).Perm (x.toList.reverse++y.toList.reverse)/\(o++a++b).Pairwise (MM rk))(e:r=(o++a++b).reverse):r.Perm (x.toList++y.toList)/\r.Pairwise (TW rk):=by
 subst e
 exact ⟨((A8 _).trans h.1).trans ((A8 _).append (A8 _)),Z4.mpr h.2⟩
theorem cW(H:Hy rk S x y){o:Array Keyed}{i j:Nat}(m:MH rk x y o i j)(h:i=0\/j=0):Po rk x y (cx x y o i j):=by
 refine lF (m.m.finC (Z4.mpr H.hx) (Z4.mpr H.hy) λv hv u hu=>?_) ?_
 ·obtain⟨n,hn,n1,_⟩:=rJ m.hj hv
  obtain⟨k,hk,k1,_⟩:=rJ m.hi hu
  omega
 ·unfold cx
  rw[V2,V2,kF,kF,CZ m.hi,CZ m.hj,O6]
  simp
theorem SV(H:Hy rk S x y){o:Array Keyed}{i j:Nat}(m:MH rk x y o i j)(h:j=1):Po rk x y (VB x y o i j):=by
 refine lF (m.m.fin (Z4.mpr H.hx) (Z4.mpr H.hy) λv hv u hu=>?_) ?_
 ·obtain⟨n,hn,n1,rfl⟩:=rJ m.hi hv
  obtain⟨k,hk,k1,rfl⟩:=rJ m.hj hu
  have:k=0:=by omega
  subst this
  exact H.hf n hn
 ·unfold VB
  rw[V2,V2,kF,kF,CZ m.hi,CZ m.hj,O6]
  simp
structure JH(rk:Keyed->Nat)(x y:Array Keyed)(N:Nat)(i j:Nat)(o:Array Keyed):Prop where
 m:MH rk x y o i j
 hi:1<=i
 hj:2<=j
 hN:N+i+j<=x.size+y.size
noncomputable def RH(rk:Keyed->Nat)(x y:Array Keyed)(N:Nat)(c:Kk):Prop:=(∃t,c.1=some t/\Po rk x y t)\/(c.1=none/\JH rk x y N c.2.1 c.2.2.1 c.2.2.2.1)
noncomputable def fL(rk:Keyed->Nat)(x y:Array Keyed)(N:Nat)(st:SortSt)(r:ForInStep Kk)(st':SortSt):Prop :=
 Gs st st'/\match r with
  | .done c=>RH rk x y N c
  | .yield c=>c.1=none/\JH rk x y N c.2.1 c.2.2.1 c.2.2.2.1
theorem kv(H:Hy rk S x y){N:Nat}{o:Array Keyed}{i j g ac bc:Nat}{st st':SortSt}(hg:Gs st st')(m:MH rk x y o i j)(hi:1<=i)(hj:2<=j)(hN:N+i+j<=x.size+y.size+1)
  (h:∀n (hn:n < y.size),n < j->rk y[n]<=rk (x[i - 1]'(by have:=m.hi;omega))):wpS (model prog w) A E s (hi2 x y i j o g ac bc) (fL rk x y N st) st':=by
 unfold hi2
 have hi':=m.hi
 have m':=m.push H.hx hi h
 refine wpS_bind (VQ (by omega) ?_)
 by_cases h1:i - 1=0
 ·rw[if_pos (by simpa using h1)]
  exact wpS_pure ⟨hg,.inl ⟨_,rfl,cW H m' (.inl h1)⟩⟩
 ·rw[if_neg (by simpa using h1)]
  have jj:JH rk x y N (i - 1) j (o.push (x[i - 1]'(by omega))):=⟨m',by omega,hj,by omega⟩
  by_cases h2:(decide (ac < 7)&&decide (bc < 7))=true
  ·rw[if_pos h2]
   exact wpS_pure ⟨hg,.inr ⟨rfl,jj⟩⟩
  ·rw[if_neg h2]
   exact wpS_pure ⟨hg,rfl,jj⟩
theorem lv(q:jZ prog w A s κ rk S)(H:Hy rk S x y){N:Nat}{o:Array Keyed}{i j g ac bc:Nat}{st st':SortSt}(hk:kindOf st=κ)(hg:Gs st st')(m:MH rk x y o i j)(hi:1<=i)(hj:2<=j)(hN:N+i+j<=x.size+y.size+1)
  (h:∀n (hn:n < x.size),n < i->rk x[n]<=rk (y[j - 1]'(by have:=m.hj;omega))):wpS (model prog w) A E s (hi1 x y i j o g ac bc) (fL rk x y N st) st':=by
 unfold hi1
 have hi':=m.hi
 have hj':=m.hj
 have m':=(m.comm.push H.hy (by omega) h).comm
 refine wpS_bind (VQ (by omega) ?_)
 by_cases h1:j - 1=1
 ·rw[if_pos (by simpa using h1)]
  exact wpS_pure ⟨hg,.inl ⟨_,rfl,SV H m' h1⟩⟩
 ·rw[if_neg (by simpa using h1)]
  refine wpS_bind (VQ (by omega) ?_)
  refine wpS_bind (BZ q (hg.kind.trans hk) (H.Sx _ _) H.Sy (by omega) (λa b hb hab _ _=>bZ H.hy hb hab) (by omega) λp pn k1 k2=>?_)
  dsimp only
  have k1':∀n (hn:n < y.size),n < p->rk y[n] < rk (x[i - 1]'(by omega)):=λn hn hp=>by
   have:=k1 n hn (Q3 _) (by omega)
   rw[if_pos rfl]at this
   exact this
  by_cases hk0:j - 1 - p > 0
  ·rw[if_pos hk0]
   have m2:=(m'.comm.chunk H.hy (p:=p) pn λn hn k hk1 n1 n2 n3=>by
     have:=k2 n hn (by omega) (by omega)
     rw[if_pos rfl]at this
     have:=bZ H.hx (i:=k) (j:=i - 1) (by omega) (by omega)
     omega).comm
   by_cases h2:p=1
   ·rw[if_pos (by simpa using h2)]
    exact wpS_pure ⟨hg,.inl ⟨_,rfl,SV H m2 h2⟩⟩
   ·rw[if_neg (by simpa using h2)]
    by_cases h3:p=0
    ·rw[if_pos (by simpa using h3)]
     exact wpS_pure ⟨hg,.inl ⟨_,rfl,cW H m2 (.inr h3)⟩⟩
    ·rw[if_neg (by simpa using h3)]
     exact kv H hg m2 hi (by omega) (by omega) λn hn n1=>J5 (k1' n hn n1)
  ·rw[if_neg hk0]
   exact kv H hg m' hi (by omega) (by omega) λn hn n1=>J5 (k1' n hn (by omega))
theorem nv(q:jZ prog w A s κ rk S)(H:Hy rk S x y){N:Nat}{o:Array Keyed}{i j g ac bc:Nat}{st st':SortSt}(hk:kindOf st=κ)(hg:Gs st st')(m:MH rk x y o i j)(hi:1<=i)(hj:2<=j)(hN:N+i+j<=x.size+y.size+1) :
  wpS (model prog w) A E s (dL x y i j o g ac bc) (fL rk x y N st) st':=by
 unfold dL
 have hi':=m.hi
 have hj':=m.hj
 refine wpS_bind (wpS_modify ?_)
 have hg':=hg.set g
 refine wpS_bind (VQ (by omega) ?_)
 refine wpS_bind (BZ q (hg'.kind.trans hk) (H.Sy _ _) H.Sx (by omega) (λa b hb hab _ _=>bZ H.hx hb hab) (by omega) λp pn k1 k2=>?_)
 dsimp only
 have k1':∀n (hn:n < x.size),n < p->rk x[n]<=rk (y[j - 1]'(by omega)):=λn hn hp=>by
  have:=k1 n hn (Q3 _) (by omega)
  rw[if_neg (by decide)]at this
  exact this
 by_cases hk0:i - p > 0
 ·rw[if_pos hk0]
  have m2:=m.chunk H.hx (p:=p) pn λn hn k hk1 n1 n2 n3=>by
   have:=k2 n hn (by omega) (by omega)
   rw[if_neg (by decide)]at this
   have:=bZ H.hy (i:=k) (j:=j - 1) (by omega) (by omega)
   omega
  by_cases h3:p=0
  ·rw[if_pos (by simpa using h3)]
   exact wpS_pure ⟨hg',.inl ⟨_,rfl,cW H m2 (.inl h3)⟩⟩
  ·rw[if_neg (by simpa using h3)]
   exact lv q H hk hg' m2 (by omega) hj (by omega) k1'
 ·rw[if_neg hk0]
  exact lv q H hk hg' m hi hj (by omega) λn hn n1=>k1' n hn (by omega)
theorem zE(q:jZ prog w A s κ rk S)(H:Hy rk S x y){N:Nat}{c:Kk}{st st':SortSt}(hk:kindOf st=κ)(hg:Gs st st')(hJ:JH rk x y N c.2.1 c.2.2.1 c.2.2.2.1) :
  wpS (model prog w) A E s (UL x y c) (fL rk x y (N+1) st) st':=by
 unfold UL
 have:=hJ.hN
 split
 ·exact nv q H hk hg hJ.m hJ.hi hJ.hj (by omega)
 ·exact nv q H hk hg hJ.m hJ.hi hJ.hj (by omega)
theorem AE(q:jZ prog w A s κ rk S)(H:Hy rk S x y){N g:Nat}{c:bL}{st:SortSt}(hk:kindOf st=κ)(hJ:JH rk x y N c.2.1 c.2.2.1 c.2.2.2.1) :
  wpS (model prog w) A E s (VL x y g c) (λr st'=>st'=st/\match r with
    | .done c=>(∃t,c.1=some t/\Po rk x y t)\/(c.1=none/\JH rk x y (N+1) c.2.1 c.2.2.1 c.2.2.2.1)
    | .yield c=>c.1=none/\JH rk x y (N+1) c.2.1 c.2.2.1 c.2.2.2.1) st:=by
 unfold VL
 obtain⟨m,hi,hj,hN⟩:=hJ
 have hi':=m.hi
 have hj':=m.hj
 refine wpS_bind (VQ (by omega) ?_)
 refine wpS_bind (VQ (by omega) ?_)
 refine wpS_bind (w_lt q hk (H.Sy _ _) (H.Sx _ _) ?_)
 dsimp only
 by_cases hlt:rk (y[c.2.2.1 - 1]'(by omega)) < rk (x[c.2.1 - 1]'(by omega))
 ·rw[if_pos (by simpa using hlt)]
  have m':=m.push H.hx hi λn hn n1=>by have:=bZ H.hy (i:=n) (j:=c.2.2.1 - 1) (by omega) (by omega);omega
  refine wpS_bind (VQ (by omega) ?_)
  by_cases h1:c.2.1 - 1=0
  ·rw[if_pos (by simpa using h1)]
   exact wpS_pure ⟨rfl,.inl ⟨_,rfl,cW H m' (.inl h1)⟩⟩
  ·rw[if_neg (by simpa using h1)]
   have jj:JH rk x y (N+1) (c.2.1 - 1) c.2.2.1 (c.2.2.2.1.push (x[c.2.1 - 1]'(by omega))):=⟨m',by omega,hj,by omega⟩
   split
   ·exact wpS_pure ⟨rfl,.inr ⟨rfl,jj⟩⟩
   ·exact wpS_pure ⟨rfl,rfl,jj⟩
 ·rw[if_neg (by simpa using hlt)]
  have m':=(m.comm.push H.hy (by omega) λn hn n1=>by have:=bZ H.hx (i:=n) (j:=c.2.1 - 1) (by omega) (by omega);omega).comm
  refine wpS_bind (VQ (by omega) ?_)
  by_cases h1:c.2.2.1 - 1=1
  ·rw[if_pos (by simpa using h1)]
   exact wpS_pure ⟨rfl,.inl ⟨_,rfl,SV H m' h1⟩⟩
  ·rw[if_neg (by simpa using h1)]
   have jj:JH rk x y (N+1) c.2.1 (c.2.2.1 - 1) (c.2.2.2.1.push (y[c.2.2.1 - 1]'(by omega))):=⟨m',by omega,by omega,by omega⟩
   split
   ·exact wpS_pure ⟨rfl,.inr ⟨rfl,jj⟩⟩
   ·exact wpS_pure ⟨rfl,rfl,jj⟩
theorem JH.false{N i j:Nat}{o:Array Keyed}(h:JH rk x y N i j o)(hN:x.size+y.size<=N):False:=by
 have h1:=h.hi
 have h2:=h.hj
 have h3:=h.hN
 omega
theorem BE(q:jZ prog w A s κ rk S)(H:Hy rk S x y){N:Nat}{c:cL}{st st':SortSt}(hk:kindOf st=κ)(hg:Gs st st')(hJ:JH rk x y N c.2.1 c.2.2.1 c.2.2.2.1) :
  wpS (model prog w) A E s (eL x y c) (λr st'=>Gs st st'/\match r with
    | .done c=>∃t,c.1=some t/\Po rk x y t
    | .yield c=>c.1=none/\JH rk x y (N+1) c.2.1 c.2.2.1 c.2.2.2.1) st':=by
 unfold eL
 refine wpS_bind (wpS_mono (wpS_forRange (I:=λn c st''=>st''=st'/\c.1=none/\JH rk x y (N+n) c.2.1 c.2.2.1 c.2.2.2.1)
   (Q:=λc st''=>st''=st'/\((∃t,c.1=some t/\Po rk x y t)\/(c.1=none/\JH rk x y N c.2.1 c.2.2.1 c.2.2.2.1))) ?step ?fin ⟨rfl,rfl,hJ⟩) ?post)
 case fin =>
  rintro c st'' ⟨rfl,_,h⟩
  exact (h.false (by omega)).elim
 case step =>
  rintro n c st'' _ _ ⟨rfl,_,h⟩
  refine wpS_mono (AE q H (hg.kind.trans hk) h) ?_
  rintro r st3 ⟨rfl,h⟩
  cases r with
  | done c =>
   refine ⟨rfl,h.imp id λh=>⟨h.1,h.2.m,h.2.hi,h.2.hj,?_⟩⟩
   have:=h.2.hN
   omega
  | yield c=>exact ⟨rfl,h.1,h.2⟩
 case post =>
  rintro c st'' ⟨rfl,h⟩
  obtain⟨r,c⟩:=c
  rcases h with⟨t,e,h⟩|⟨e,h⟩
  ·cases e
   exact wpS_pure ⟨hg,_,rfl,h⟩
  ·cases e
   dsimp only
   refine wpS_bind (wpS_lift (wpAny_rule ⟨rfl,?_⟩))
   refine wpS_bind (wpS_mono (wpS_forRange (I:=λn c st''=>Gs st st''/\c.1=none/\JH rk x y (N+n) c.2.1 c.2.2.1 c.2.2.2.1)
     (Q:=λc st''=>Gs st st''/\RH rk x y (N+1) c) ?step2 ?fin2 ⟨hg,rfl,h⟩) ?post2)
   case fin2 =>
    rintro c st'' ⟨_,_,h⟩
    exact (h.false (by omega)).elim
   case step2 =>
    rintro n c st'' _ _ ⟨hg2,_,h⟩
    refine wpS_mono (zE q H hk hg2 h) ?_
    rintro r st3 ⟨hg3,h⟩
    cases r with
    | done c =>
     refine ⟨hg3,Or.imp id (λh=>⟨h.1,h.2.m,h.2.hi,h.2.hj,?_⟩) h⟩
     have:=h.2.hN
     omega
    | yield c=>exact ⟨hg3,h.1,h.2⟩
   case post2 =>
    rintro c st'' ⟨hg2,h⟩
    obtain⟨r,c⟩:=c
    rcases h with⟨t,e,h⟩|⟨e,h⟩
    ·cases e
     exact wpS_pure ⟨hg2,_,rfl,h⟩
    ·cases e
     exact wpS_bind (wpS_modify (wpS_pure ⟨hg2.set _,rfl,h⟩))
theorem EE(q:jZ prog w A s κ rk S)(H:Hy rk S x y){st:SortSt}{Q:Array Keyed->SortSt->Prop}(hk:kindOf st=κ)(h:∀r st',Gs st st'->Po rk x y r->Q r st'):wpS (model prog w) A E s (RI x y) Q st:=by
 rw[Su]
 have hy0:=H.y0
 have hx0:=H.x0
 refine wpS_bind (wpS_lift (wpAny_rule ⟨rfl,?_⟩))
 refine wpS_bind (VQ (by omega) ?_)
 have m0:MH rk x y #[] x.size y.size:=⟨⟨by simp,by simp,by simp,by simp⟩,R0 _,R0 _⟩
 have m1:=m0.push H.hx hx0 λn hn _=>H.hl n hn
 have e1:(#[]:Array Keyed).push (x[x.size - 1]'(by omega))=#[x[x.size - 1]'(by omega)]:=rfl
 rw[e1]at m1
 by_cases h1:x.size - 1=0
 ·rw[if_pos (by simpa using h1)]
  exact wpS_pure (h _ _ (Gs.refl _) (cW H m1 (.inl h1)))
 ·rw[if_neg (by simpa using h1)]
  by_cases h2:y.size=1
  ·rw[if_pos (by simpa using h2)]
   exact wpS_pure (h _ _ (Gs.refl _) (SV H m1 h2))
  ·rw[if_neg (by simpa using h2)]
   refine wpS_bind (wpS_get ?_)
   refine wpS_bind (wpS_mono (wpS_forRange (I:=λn c st''=>Gs st st''/\c.1=none/\JH rk x y n c.2.1 c.2.2.1 c.2.2.2.1)
     (Q:=λc st''=>Gs st st''/\∃t,c.1=some t/\Po rk x y t) ?step ?fin ⟨Gs.refl _,rfl,m1,by show 1<=x.size - 1;omega,by show 2<=y.size;omega,by show 0+(x.size - 1)+y.size<=_;omega⟩) ?post)
   case fin =>
    rintro c st'' ⟨_,_,h⟩
    exact (h.false (by omega)).elim
   case step =>
    rintro n c st'' _ _ ⟨hg2,_,h⟩
    refine wpS_mono (BE q H hk hg2 h) ?_
    rintro r st3 ⟨hg3,h⟩
    cases r with
    | done c=>exact ⟨hg3,h⟩
    | yield c=>exact ⟨hg3,h⟩
   case post =>
    rintro c st'' ⟨hg2,t,e,hP⟩
    obtain⟨r,c⟩:=c
    cases e
    exact wpS_pure (h _ _ hg2 hP)
end
noncomputable def KR(rk:Keyed->Nat)(xs:Array Keyed)(i:Nat):Nat:=match xs[i]? with
 | some p=>rk p
 | none=>0
theorem KR_at{rk:Keyed->Nat}{xs:Array Keyed}{i:Nat}(h:i < xs.size):KR rk xs i=rk xs[i]:=by
 unfold KR;rw[getElem?_pos xs i h]
theorem rX{rk:Keyed->Nat}{xs ys:Array Keyed}{i j:Nat}(h:xs[i]?=ys[j]?):KR rk xs i=KR rk ys j:=by unfold KR;rw[h]
theorem LK{rk:Keyed->Nat}{xs:Array Keyed}{i j:Nat}(hj:j<=xs.size)(k:Nat) :
  KR rk (mirror xs i j ((j - i) / 2)) k=if i<=k/\k < j then KR rk xs (i+j - 1 - k) else KR rk xs k:=by
 have e:=getElem?_mirror_all (i:=i) hj k
 split
 ·rename_i h1;rw[if_pos h1]at e;exact rX e
 ·rename_i h1;rw[if_neg h1]at e;exact rX e
theorem rV{rk:Keyed->Nat}{xs:Array Keyed}{c d:Nat}(hs:c < xs.size)(hd:d<=c)(k:Nat) :
  KR rk (bubble xs c d) k=if k=c - d then KR rk xs c else if c - d < k/\k<=c then KR rk xs (k - 1) else KR rk xs k:=by
 have e:=getElem?_bubble hs d hd k
 split
 ·rename_i h1;rw[if_pos h1]at e;exact rX e
 ·rename_i h1
  rw[if_neg h1]at e
  split
  ·rename_i h2;rw[if_pos h2]at e;exact rX e
  ·rename_i h2;rw[if_neg h2]at e;exact rX e
noncomputable def Sg(rk:Keyed->Nat)(xs:Array Keyed)(lo n:Nat):Prop:=∀i j,lo<=i->i<=j->j < lo+n->KR rk xs i<=KR rk xs j
noncomputable def Dg(rk:Keyed->Nat)(xs:Array Keyed)(lo n:Nat):Prop:=∀i j,lo<=i->i<=j->j < lo+n->KR rk xs j<=KR rk xs i
structure Bs(κ:SortKind)(st:SortSt)(lo n:Nat)(st':SortSt):Prop where
 perm:(arrOf st').Perm (arrOf st)
 kind:kindOf st'=κ
 failed:failedOf st'=none
 pend:pendingOf st'=pendingOf st
 keep:∀i,i < lo\/lo+n<=i->(arrOf st')[i]?=(arrOf st)[i]?
theorem Bs.size{κ:SortKind}{st st':SortSt}{lo n:Nat}(h:Bs κ st lo n st'):(arrOf st').size=(arrOf st).size:=h.perm.size_eq
theorem Bs.mir{κ:SortKind}{st st':SortSt}{lo n i j:Nat}(h:Bs κ st lo n st')(hj:j<=(arrOf st).size)(h1:lo<=i)(h2:j<=lo+n):Bs κ st lo n (setArr st' (mirror (arrOf st') i j ((j - i) / 2))) :=
 ⟨(mirror_perm _ _ _ _).trans h.perm,h.kind,h.failed,h.pend,λk hk=>by
   show (mirror (arrOf st') i j ((j - i) / 2))[k]?=_
   rw[getElem?_mirror_all (by rw[h.size];exact hj),if_neg (by omega)]
   exact h.keep k hk⟩
section
variable {prog:Program}{w:World}{A:Around}{E:Value->Shared->Prop}{s:Shared}{κ:SortKind}{rk:Keyed->Nat}{S:Keyed->Prop}{st:SortSt}
noncomputable abbrev AllS(S:Keyed->Prop)(xs:Array Keyed):Prop:=∀p,p∈xs.toList->S p
theorem Bs.inS{st':SortSt}{lo n:Nat}(hS:AllS S (arrOf st))(h:Bs κ st lo n st'){i:Nat}(hi:i < (arrOf st').size):S (arrOf st')[i] :=
 hS _ ((Q5.mp h.perm).mem_iff.mp (by simp))
theorem dW(q:jZ prog w A s κ rk S){st':SortSt}{lo n i j:Nat}{Q:Option Bool->SortSt->Prop}(hS:AllS S (arrOf st))(hB:Bs κ st lo n st')(hi:i < (arrOf st).size)(hj:j < (arrOf st).size)
  (h:Q (some (decide (KR rk (arrOf st') i < KR rk (arrOf st') j))) st'):wpS (model prog w) A E s (ltAt' i j) Q st':=by
 have hi':i < (arrOf st').size:=by rw[hB.size];exact hi
 have hj':j < (arrOf st').size:=by rw[hB.size];exact hj
 rw[ltAt'_eq]
 refine wpS_bind (wpS_get ?_)
 refine wpS_bind (VQ hi' (wpS_bind (VQ hj' ?_)))
 refine w_lt q hB.kind (hB.inS hS _) (hB.inS hS _) ?_
 rw[KR_at hi',KR_at hj']at h
 exact h
noncomputable def BD(lo a nrem:Nat):StateT SortSt Sem AscSt :=
 forIn [a:nrem] ((none,a):AscSt) λ_ z=>do
  let some sm<-ltAt' (lo+z.2) (lo+z.2 - 1)|pure (.done (some none,z.2))
  if sm=true then pure (.done (none,z.2)) else pure (.yield (none,z.2+1))
noncomputable def WB(lo n nrem:Nat):StateT SortSt Sem (Option Nat):=do
 reverseSlice' lo (lo+n)
 let z<-BD lo n nrem
 match z.1 with
 | some r=>pure r
 | none=>pure (some z.2)
noncomputable def mF(lo n nrem:Nat):StateT SortSt Sem DescSt :=
 forIn [n:nrem] ((none,n,0):DescSt) λ_ z=>do
  let some sm<-ltAt' (lo+z.2.1) (lo+z.2.1 - 1)|pure (.done (some none,z.2.1,z.2.2))
  if sm=true then
   if z.2.2 > 0 then do
    reverseSlice' (lo+z.2.1 - (z.2.2+1)) (lo+z.2.1)
    pure (.yield (none,z.2.1+1,0))
   else pure (.yield (none,z.2.1+1,0))
  else do
   let some la<-ltAt' (lo+z.2.1 - 1) (lo+z.2.1)|pure (.done (some none,z.2.1,z.2.2))
   if la=true then pure (.done (none,z.2.1,z.2.2)) else pure (.yield (none,z.2.1+1,z.2.2+1))
noncomputable def FE(lo n nrem:Nat):StateT SortSt Sem (Option Nat):=do
 liftM (rule "list.sort.descending-run")
 let z<-mF lo (n+1) nrem
 match z.1 with
 | some r=>pure r
 | none =>
  if z.2.2 > 0 then do
   reverseSlice' (lo+z.2.1 - (z.2.2+1)) (lo+z.2.1)
   WB lo z.2.1 nrem
  else WB lo z.2.1 nrem
theorem Tu(lo nrem:Nat):countRun' lo nrem=(do
    let z<-BD lo 1 nrem
    match z.1 with
    | some r=>pure r
    | none =>
      if (z.2==nrem)=true then pure (some z.2)
      else if z.2 > 1 then do
        let some ro<-ltAt' lo (lo+z.2 - 1)|pure none
        if ro=true then pure (some z.2) else do
          reverseSlice' lo (lo+z.2)
          FE lo z.2 nrem
      else FE lo z.2 nrem):=by
 have te:∀m,(do
     reverseSlice' lo (lo+m)
     let z<-BD lo m nrem
     match z.1 with
     | some r=>pure r
     | none=>pure (some z.2))=WB lo m nrem:=λm=>rfl
 rw[countRun'_eq]
 unfold FE WB mF BD
 refine congr (congrArg bind rfl) (funext λz=>?_)
 obtain⟨r,n⟩:=z
 cases r with
 | some r=>rfl
 | none =>
  dsimp only
  have tl:∀z:AscSt,(match z.1 with|some r=>pure r|none=>pure (some z.2):StateT SortSt Sem (Option Nat))=match z.1 with|some r=>pure r|none=>pure (some z.2):=λz=>rfl
  split
  ·rfl
  ·split
   ·congr 1
    funext x
    cases x with
    | none=>rfl
    | some ro =>
     dsimp only
     split
     ·rfl
     ·congr 1
      funext _
      congr 1
      funext _
      congr 1
      funext z
      obtain⟨r,m,q⟩:=z
      cases r with
      | some r=>rfl
      | none =>
       dsimp only
       split
       ·congr 1;funext _;congr 1;funext _;congr 1;funext z;obtain⟨r,k⟩:=z;cases r<;>rfl
       ·congr 1;funext _;congr 1;funext z;obtain⟨r,k⟩:=z;cases r<;>rfl
   ·congr 1
    funext _
    congr 1
    funext z
    obtain⟨r,m,q⟩:=z
    cases r with
    | some r=>rfl
    | none =>
     dsimp only
     split
     ·congr 1;funext _;congr 1;funext _;congr 1;funext z;obtain⟨r,k⟩:=z;cases r<;>rfl
     ·congr 1;funext _;congr 1;funext z;obtain⟨r,k⟩:=z;cases r<;>rfl
theorem nF{i j:Nat}{st':SortSt}{Q:Unit->SortSt->Prop}(h:Q () (setArr st' (mirror (arrOf st') i j ((j - i) / 2)))):wpS (model prog w) A E s (reverseSlice' i j) Q st':=by
 rw[reverseSlice'_eq]
 exact wpS_modify h
theorem qv(q:jZ prog w A s κ rk S){st':SortSt}{lo N a nrem:Nat}{Q:AscSt->SortSt->Prop}(hS:AllS S (arrOf st))(hn:lo+nrem<=(arrOf st).size)(ha:1<=a)(han:a<=nrem)(hB:Bs κ st lo N st')(hs:Sg rk (arrOf st') lo a)
  (h:∀n,a<=n->n<=nrem->Sg rk (arrOf st') lo n->(n=nrem\/KR rk (arrOf st') (lo+n) < KR rk (arrOf st') (lo+n - 1))->Q (none,n) st'):wpS (model prog w) A E s (BD lo a nrem) Q st':=by
 unfold BD
 refine wpS_forRange (I:=λx c z=>z=st'/\c=(none,x)/\Sg rk (arrOf st') lo x) ?step ?fin ⟨rfl,rfl,hs⟩
 case fin =>
  rintro c z ⟨rfl,rfl,h1⟩
  rw[show max a nrem=nrem by omega]at h1 ⊢
  exact h nrem han (R0 _) h1 (.inl rfl)
 case step =>
  rintro x c z hax hxn ⟨rfl,rfl,h1⟩
  dsimp only
  refine wpS_bind (dW q hS hB (by omega) (by omega) ?_)
  dsimp only
  by_cases hl:KR rk (arrOf z) (lo+x) < KR rk (arrOf z) (lo+x - 1)
  ·rw[if_pos (by simpa using hl)]
   exact wpS_pure (h x hax (by omega) h1 (.inr hl))
  ·rw[if_neg (by simpa using hl)]
   refine wpS_pure ⟨rfl,rfl,λi j hi hij hj=>?_⟩
   by_cases hjx:j < lo+x
   ·exact h1 i j hi hij hjx
   ·have:j=lo+x:=by omega
    subst this
    by_cases hi':i=lo+x
    ·subst hi';exact R0 _
    ·have:=h1 i (lo+x - 1) hi (by omega) (by omega)
     omega
theorem GE(q:jZ prog w A s κ rk S){st':SortSt}{lo n nrem:Nat}{Q:Option Nat->SortSt->Prop}(hS:AllS S (arrOf st))(hn:lo+nrem<=(arrOf st).size)(h1:1<=n)(hnn:n<=nrem)(hB:Bs κ st lo nrem st')(hs:Dg rk (arrOf st') lo n)
  (h:∀m z,Bs κ st lo nrem z->1<=m->m<=nrem->Sg rk (arrOf z) lo m->Q (some m) z):wpS (model prog w) A E s (WB lo n nrem) Q st':=by
 unfold WB
 refine wpS_bind (nF ?_)
 have hz:lo+n<=(arrOf st').size:=by rw[hB.size];omega
 have hB':=hB.mir (i:=lo) (j:=lo+n) (by omega) (R0 _) (by omega)
 refine wpS_bind (qv q hS hn h1 hnn hB' (λi j hi hij hj=>?_) λm m1 m2 hm _=>wpS_pure (h m _ hB' (by omega) m2 hm))
 show KR rk (mirror _ _ _ _) i<=KR rk (mirror _ _ _ _) j
 rw[LK hz,LK hz,if_pos (by omega),if_pos (by omega)]
 exact hs _ _ (by omega) (by omega) (by omega)
theorem sJ{xs:Array Keyed}{i j:Nat}(hj:j<=xs.size)(he:∀k,i<=k->k < j->KR rk xs k=KR rk xs (j - 1))(k:Nat):KR rk (mirror xs i j ((j - i) / 2)) k=KR rk xs k:=by
 rw[LK hj]
 split
 ·rw[he _ (by omega) (by omega),he k (by omega) (by omega)]
 ·rfl
theorem Uu(q:jZ prog w A s κ rk S){st':SortSt}{lo n nrem:Nat}{Q:DescSt->SortSt->Prop}(hS:AllS S (arrOf st))(hn:lo+nrem<=(arrOf st).size)(h1:1<=n)(hnn:n<=nrem)(hB:Bs κ st lo nrem st')(hs:Dg rk (arrOf st') lo n)
  (h:∀m e z,Bs κ st lo nrem z->n<=m->m<=nrem->Dg rk (arrOf z) lo m->e+1<=m->(∀i,lo+m - (e+1)<=i->i < lo+m->KR rk (arrOf z) i=KR rk (arrOf z) (lo+m - 1))->Q (none,m,e) z) :
  wpS (model prog w) A E s (mF lo n nrem) Q st':=by
 unfold mF
 refine wpS_forRange (I:=λx c z=>∃e,c=(none,x,e)/\Bs κ st lo nrem z/\Dg rk (arrOf z) lo x/\e+1<=x/\∀i,lo+x - (e+1)<=i->i < lo+x->KR rk (arrOf z) i=KR rk (arrOf z) (lo+x - 1)) ?step ?fin
  ⟨0,rfl,hB,hs,by omega,λi i1 i2=>by congr 1;omega⟩
 case fin =>
  rintro c z ⟨e,rfl,b,d,e1,e2⟩
  rw[show max n nrem=nrem by omega]at d e1 e2 ⊢
  exact h nrem e z b hnn (R0 _) d e1 e2
 case step =>
  rintro x c z hax hxn ⟨e,rfl,b,d,e1,e2⟩
  dsimp only
  have hz:lo+x<=(arrOf z).size:=by rw[b.size];omega
  refine wpS_bind (dW q hS b (by omega) (by omega) ?_)
  dsimp only
  by_cases hl:KR rk (arrOf z) (lo+x) < KR rk (arrOf z) (lo+x - 1)
  ·rw[if_pos (by simpa using hl)]
   have st1:∀xs:Array Keyed,(∀k,KR rk xs k=KR rk (arrOf z) k)->Dg rk xs lo (x+1):=λxs hk i j hi hij hj=>by
    rw[hk,hk]
    by_cases hjx:j < lo+x
    ·exact d i j hi hij hjx
    ·have:j=lo+x:=by omega
     subst this
     by_cases hi':i=lo+x
     ·subst hi';exact R0 _
     ·have:=d i (lo+x - 1) hi (by omega) (by omega)
      omega
   by_cases he:e > 0
   ·rw[if_pos he]
    exact wpS_bind (nF (wpS_pure ⟨0,rfl,b.mir (by omega) (by omega) (by omega),st1 _ (sJ hz e2),by omega,λi i1 i2=>by congr 1;omega⟩))
   ·rw[if_neg he]
    exact wpS_pure ⟨0,rfl,b,st1 _ (λ_=>rfl),by omega,λi i1 i2=>by congr 1;omega⟩
  ·rw[if_neg (by simpa using hl)]
   refine wpS_bind (dW q hS b (by omega) (by omega) ?_)
   dsimp only
   by_cases hg:KR rk (arrOf z) (lo+x - 1) < KR rk (arrOf z) (lo+x)
   ·rw[if_pos (by simpa using hg)]
    exact wpS_pure (h x e z b hax (by omega) d e1 e2)
   ·rw[if_neg (by simpa using hg)]
    refine wpS_pure ⟨e+1,rfl,b,λi j hi hij hj=>?_,by omega,λi i1 i2=>?_⟩
    ·by_cases hjx:j < lo+x
     ·exact d i j hi hij hjx
     ·have:j=lo+x:=by omega
      subst this
      by_cases hi':i=lo+x
      ·subst hi';exact R0 _
      ·have:=d i (lo+x - 1) hi (by omega) (by omega)
       omega
    ·rw[show lo+(x+1) - 1=lo+x by omega]
     by_cases hix:i=lo+x
     ·subst hix;rfl
     ·have:=e2 i (by omega) (by omega)
      omega
theorem HE(q:jZ prog w A s κ rk S){st':SortSt}{lo n nrem:Nat}{Q:Option Nat->SortSt->Prop}(hS:AllS S (arrOf st))(hn:lo+nrem<=(arrOf st).size)(hnn:n+1<=nrem)(hB:Bs κ st lo nrem st')(hs:Dg rk (arrOf st') lo (n+1))
  (h:∀m z,Bs κ st lo nrem z->1<=m->m<=nrem->Sg rk (arrOf z) lo m->Q (some m) z):wpS (model prog w) A E s (FE lo n nrem) Q st':=by
 unfold FE
 refine wpS_bind (wpS_lift (wpAny_rule ⟨rfl,?_⟩))
 refine wpS_bind (Uu q hS hn (by omega) hnn hB hs λm e z b m1 m2 d e1 e2=>?_)
 dsimp only
 have hz:lo+m<=(arrOf z).size:=by rw[b.size];omega
 by_cases he:e > 0
 ·rw[if_pos he]
  refine wpS_bind (nF (GE q hS hn (by omega) m2 (b.mir (by omega) (by omega) (by omega)) (λi j hi hij hj=>?_) h))
  show KR rk (mirror _ _ _ _) j<=KR rk (mirror _ _ _ _) i
  rw[sJ hz e2,sJ hz e2]
  exact d i j hi hij hj
 ·rw[if_neg he]
  exact GE q hS hn (by omega) m2 b d h
theorem WL(q:jZ prog w A s κ rk S){lo nrem:Nat}{Q:Option Nat->SortSt->Prop}(hS:AllS S (arrOf st))(hn:lo+nrem<=(arrOf st).size)(h1:1<=nrem)(hB:Bs κ st lo nrem st)
  (h:∀m z,Bs κ st lo nrem z->1<=m->m<=nrem->Sg rk (arrOf z) lo m->Q (some m) z):wpS (model prog w) A E s (countRun' lo nrem) Q st:=by
 rw[Tu]
 refine wpS_bind (qv q hS hn (R0 1) h1 hB (λi j hi hij hj=>by have:i=j:=(by omega);subst this;exact R0 _) λn n1 n2 sn hor=>?_)
 dsimp only
 by_cases hnn:n=nrem
 ·rw[if_pos (by simpa using hnn)]
  exact wpS_pure (h n st hB n1 n2 sn)
 ·rw[if_neg (by simpa using hnn)]
  have hlt:=hor.resolve_left hnn
  by_cases hgt:n > 1
  ·rw[if_pos hgt]
   refine wpS_bind (dW q hS hB (by omega) (by omega) ?_)
   dsimp only
   by_cases hr:KR rk (arrOf st) lo < KR rk (arrOf st) (lo+n - 1)
   ·rw[if_pos (by simpa using hr)]
    exact wpS_pure (h n st hB n1 n2 sn)
   ·rw[if_neg (by simpa using hr)]
    have hz:lo+n<=(arrOf st).size:=by omega
    have all:∀k,lo<=k->k < lo+n->KR rk (arrOf st) k=KR rk (arrOf st) (lo+n - 1):=λk k1 k2=>by
     have a1:=sn lo k (by omega) k1 k2
     have a2:=sn k (lo+n - 1) k1 (by omega) (by omega)
     omega
    refine wpS_bind (nF (HE q hS hn (by omega) (hB.mir (by omega) (by omega) (by omega)) (λi j hi hij hj=>?_) h))
    show KR rk (mirror _ _ _ _) j<=KR rk (mirror _ _ _ _) i
    rw[sJ hz all,sJ hz all]
    by_cases hjn:j < lo+n
    ·have:=all i hi (by omega)
     have:=all j (by omega) hjn
     omega
    ·have:j=lo+n:=by omega
     subst this
     by_cases hi':i=lo+n
     ·subst hi';exact R0 _
     ·have:=all i hi (by omega)
      omega
  ·rw[if_neg hgt]
   have:n=1:=by omega
   subst this
   refine HE q hS hn (by omega) hB (λi j hi hij hj=>?_) h
   by_cases hi':i=j
   ·subst hi';exact R0 _
   ·have e1:i=lo:=by omega
    have e2:j=lo+1:=by omega
    subst e1;subst e2
    exact J5 hlt
theorem Vu(q:jZ prog w A s κ rk S){st':SortSt}{lo N n ok:Nat}{Q:Bool->SortSt->Prop}(hS:AllS S (arrOf st))(hn:lo+n<=(arrOf st).size)(hnN:n<=N)(hok:ok<=n)(hB:Bs κ st lo N st')(hs:Sg rk (arrOf st') lo ok)
  (h:∀z,Bs κ st lo N z->Sg rk (arrOf z) lo n->Q true z):wpS (model prog w) A E s (binarySort' lo n ok) Q st':=by
 rw[binarySort'_eq]
 refine wpS_bind (wpS_mono (wpS_forRange (I:=λk c z=>c=(none,())/\Bs κ st lo N z/\Sg rk (arrOf z) lo (min k n)) (Q:=λc z=>c=(none,())/\Bs κ st lo N z/\Sg rk (arrOf z) lo n) ?step ?fin ?init) ?post)
 case post =>
  rintro c z ⟨rfl,b,hs'⟩
  exact wpS_pure (h z b hs')
 case init =>
  refine ⟨rfl,hB,λi j hi hij hj=>?_⟩
  by_cases h1:ok=0
  ·have:i=j:=by omega
   subst this;exact R0 _
  ·exact hs i j hi hij (by omega)
 case fin =>
  rintro c z ⟨hc,b,hs'⟩
  refine ⟨hc,b,?_⟩
  rwa [show min (max (max ok 1) n) n=n by omega]at hs'
 case step =>
  rintro k c z hak hkn ⟨rfl,b,hs'⟩
  rw[show min k n=k by omega]at hs'
  refine wpS_bind (wpS_mono (wpS_forRange (I:=λx c z'=>z'=z/\∃l r,c=(none,l,r)/\l<=r/\r<=k/\r - l<=k - x/\(∀i,i < l->KR rk (arrOf z) (lo+i)<=KR rk (arrOf z) (lo+k))/\(∀i,r<=i->i < k->KR rk (arrOf z) (lo+k) < KR rk (arrOf z) (lo+i)))
    (Q:=λc z'=>z'=z/\∃l r,c=(none,l,r)/\l<=k/\(∀i,i < l->KR rk (arrOf z) (lo+i)<=KR rk (arrOf z) (lo+k))/\(∀i,l<=i->i < k->KR rk (arrOf z) (lo+k) < KR rk (arrOf z) (lo+i))) ?istep ?ifin ?iinit) ?ipost)
  case iinit=>exact ⟨rfl,0,k,rfl,by omega,by omega,by omega,λi hi=>by omega,λi h1 h2=>by omega⟩
  case ifin =>
   rintro c z' ⟨rfl,l,r,rfl,hlr,hrk,hm,hlo,hhi⟩
   have:l=r:=by omega
   subst this
   exact ⟨rfl,l,l,rfl,hrk,hlo,hhi⟩
  case istep =>
   rintro x c z' _ hxk ⟨rfl,l,r,rfl,hlr,hrk,hm,hlo,hhi⟩
   dsimp only
   by_cases hge:l ≥ r
   ·rw[if_pos hge]
    have:l=r:=by omega
    subst this
    exact wpS_pure ⟨rfl,l,l,rfl,hrk,hlo,hhi⟩
   ·rw[if_neg hge]
    refine wpS_bind (dW q hS b (by omega) (by omega) ?_)
    dsimp only
    by_cases hl:KR rk (arrOf z') (lo+k) < KR rk (arrOf z') (lo+(l+r) / 2)
    ·rw[if_pos (by simpa using hl)]
     refine wpS_pure ⟨rfl,l,(l+r) / 2,rfl,by omega,by omega,by omega,hlo,λi h1 h2=>?_⟩
     have:=hs' (lo+(l+r) / 2) (lo+i) (by omega) (by omega) (by omega)
     omega
    ·rw[if_neg (by simpa using hl)]
     refine wpS_pure ⟨rfl,(l+r) / 2+1,r,rfl,by omega,by omega,by omega,λi h1=>?_,hhi⟩
     have:=hs' (lo+i) (lo+(l+r) / 2) (by omega) (by omega) (by omega)
     omega
  case ipost =>
   rintro c z' ⟨rfl,l,r,rfl,hlk,hlo,hhi⟩
   show wpS _ _ _ _ (do moveDown' (lo+k) (lo+l);pure (ForInStep.yield (none,()))) _ _
   rw[moveDown'_eq]
   have hks:lo+k < (arrOf z').size:=by rw[b.size];omega
   refine wpS_bind (wpS_modify (wpS_pure ⟨rfl,⟨(bubble_perm _ _ _).trans b.perm,b.kind,b.failed,b.pend,λi hi=>?_⟩,?_⟩))
   ·show (bubble (arrOf z') _ _)[i]?=_
    rw[getElem?_bubble hks _ (by omega),if_neg (by omega),if_neg (by omega)]
    exact b.keep i hi
   ·rw[show min (k+1) n=k+1 by omega]
    intro i j hi hij hj
    show KR rk (bubble (arrOf z') (lo+k) (lo+k - (lo+l))) i<=KR rk (bubble (arrOf z') (lo+k) (lo+k - (lo+l))) j
    rw[rV hks (by omega),rV hks (by omega),show lo+k - (lo+k - (lo+l))=lo+l by omega]
    have hlo':∀i,lo<=i->i < lo+l->KR rk (arrOf z') i<=KR rk (arrOf z') (lo+k):=λi h1 h2=>by
     have:=hlo (i - lo) (by omega)
     rwa [show lo+(i - lo)=i by omega]at this
    have hhi':∀i,lo+l<=i->i < lo+k->KR rk (arrOf z') (lo+k) < KR rk (arrOf z') i:=λi h1 h2=>by
     have:=hhi (i - lo) (by omega) (by omega)
     rwa [show lo+(i - lo)=i by omega]at this
    repeat' split
    all_goals first
     | (exfalso;omega)
     | exact R0 _
     | exact hlo' _ (by omega) (by omega)
     | exact J5 (hhi' _ (by omega) (by omega))
     | exact hs' _ _ (by omega) (by omega) (by omega)
end
noncomputable def wb(xs:Array Keyed)(c:Nat)(m:List Keyed)(n:Nat):Array Keyed:=(m.zipIdx n).foldl (λa pj=>a.setIfInBounds (c+pj.2) pj.1) xs
theorem Wu(i:Nat):mergeAt' i=(do
    let z<-get
    let (some (sa,na,pw),some (sb,nb,_)):=((pendingOf z)[i]?,(pendingOf z)[i+1]?)|unsupported "internal:list.sort.pending"
    set (setPending z (((pendingOf z).setIfInBounds i (sa,na+nb,pw)).eraseIdxIfInBounds (i+1)))
    let some k<-zD false (<- elem' (arrOf z) sb) (arrOf z) sa na 0|return false
    let (sa,na):=(sa+k,na - k)
    if na==0 then return true
    let some nb<-zD true (<- elem' (arrOf z) (sa+na - 1)) (arrOf z) sb nb (nb - 1)|return false
    if nb==0 then return true
    let x:=(arrOf z).extract sa sb
    let y:=(arrOf z).extract sb (sb+nb)
    let r<-if na<=nb then QI x y else RI x y
    modify λv=>setArr v (wb (arrOf v) sa r.toList 0)
    return (failedOf (<- get)).isNone):=rfl
theorem VH:∀(m:List Keyed) (n c:Nat) (xs:Array Keyed),c+n+m.length<=xs.size->∀k,(wb xs c m n)[k]?=if c+n<=k/\k < c+n+m.length then m[k - (c+n)]? else xs[k]?
 | [],n,c,xs,_,k=>by
  show xs[k]?=_
  rw[if_neg (by simp)]
 | p :: m,n,c,xs,h,k=>by
  have hl:(p :: m).length=m.length+1:=rfl
  show (wb (xs.setIfInBounds (c+n) p) c m (n+1))[k]?=_
  rw[VH m (n+1) c _ (by rw[Array.size_setIfInBounds];omega),Array.getElem?_setIfInBounds]
  by_cases h1:c+n=k
  ·subst h1
   rw[if_neg (by omega),if_pos rfl,if_pos (by omega),if_pos (by omega)]
   simp
  ·by_cases h2:c+(n+1)<=k/\k < c+(n+1)+m.length
   ·rw[if_pos h2,if_pos (by omega)]
    have e:k - (c+n)=(k - (c+(n+1)))+1:=by omega
    rw[e,V3]
   ·rw[if_neg h2,if_neg h1,if_neg (by omega)]
theorem Nk{xs:Array Keyed}{c:Nat}{m:List Keyed}(h:c+m.length<=xs.size):(wb xs c m 0).toList=xs.toList.take c++m++xs.toList.drop (c+m.length):=by
 apply B8
 intro k
 rw[Q2,VH m 0 c xs (by omega)]
 have hl:(xs.toList.take c).length=c:=by rw[Z3,T0];omega
 rw[P2]
 by_cases h1:k < c
 ·rw[if_neg (by omega),B3 (by omega),J8 h1,Q2]
 ·rw[Y1 (by omega),hl]
  by_cases h2:k - c < m.length
  ·rw[if_pos (by omega),B3 h2]
   rfl
  ·rw[if_neg (by omega),Y1 (by omega),J9,Q2]
   congr 1
   omega
section
variable {prog:Program}{w:World}{A:Around}{E:Value->Shared->Prop}{s:Shared}{κ:SortKind}{rk:Keyed->Nat}{S:Keyed->Prop}{st:SortSt}
theorem ext_at{xs:Array Keyed}{a b i:Nat}(hb:b<=xs.size)(hi:i < (xs.extract a b).size):(xs.extract a b)[i]=xs[a+i]'(by rw[Y6]at hi;omega):=by
 rw[Array.getElem_extract]
theorem Fz{xs:Array Keyed}{a b:Nat}(hb:b<=xs.size)(h:∀i j,a<=i->i<=j->j < b->KR rk xs i<=KR rk xs j):(xs.extract a b).toList.Pairwise (TW rk):=by
 rw[S2]
 intro i j hi hj hij
 rw[T0]at hi hj
 rw[G3,G3,ext_at hb,ext_at hb]
 have hz:(xs.extract a b).size=b - a:=by rw[Y6];omega
 have:=h (a+i) (a+j) (by omega) (by omega) (by omega)
 rwa [KR_at (by omega),KR_at (by omega)]at this
structure Mt(κ:SortKind)(rk:Keyed->Nat)(st:SortSt)(i sa na nb pw:Nat)(st':SortSt):Prop where
 perm:(arrOf st').Perm (arrOf st)
 kind:kindOf st'=κ
 failed:failedOf st'=none
 pend:pendingOf st'=((pendingOf st).setIfInBounds i (sa,na+nb,pw)).eraseIdxIfInBounds (i+1)
 keep:∀j,j < sa\/sa+(na+nb)<=j->(arrOf st')[j]?=(arrOf st)[j]?
 sg:Sg rk (arrOf st') sa (na+nb)
theorem IE(q:jZ prog w A s κ rk S){i sa na nb pw pw':Nat}{Q:Bool->SortSt->Prop}(hS:AllS S (arrOf st))(hk:kindOf st=κ)(hF:failedOf st=none)(p1:(pendingOf st)[i]?=some (sa,na,pw))(p2:(pendingOf st)[i+1]?=some (sa+na,nb,pw'))
  (hz:sa+na+nb<=(arrOf st).size) (n1:1<=na) (n2:1<=nb) (s1:Sg rk (arrOf st) sa na) (s2:Sg rk (arrOf st) (sa+na) nb) (h:∀st',Mt κ rk st i sa na nb pw st'->Q true st') :
  wpS (model prog w) A E s (mergeAt' i) Q st:=by
 rw[Wu]
 refine wpS_bind (wpS_get ?_)
 rw[p1,p2]
 dsimp only
 refine wpS_bind (wpS_modify (f:=λ_=>setPending st (((pendingOf st).setIfInBounds i (sa,na+nb,pw)).eraseIdxIfInBounds (i+1))) ?_)
 generalize hst1:setPending st (((pendingOf st).setIfInBounds i (sa,na+nb,pw)).eraseIdxIfInBounds (i+1))=st1
 have hk1:kindOf st1=κ:=by rw[<- hst1];exact hk
 have hF1:failedOf st1=none:=by rw[<- hst1];exact hF
 have hA1:arrOf st1=arrOf st:=by rw[<- hst1]
 have hP1:pendingOf st1=((pendingOf st).setIfInBounds i (sa,na+nb,pw)).eraseIdxIfInBounds (i+1):=by rw[<- hst1]
 have hSi:∀j (hj:j < (arrOf st).size),S (arrOf st)[j]:=λj hj=>hS _ (by simp)
 have s1':∀a b,sa<=a->a<=b->b < sa+na->KR rk (arrOf st) a<=KR rk (arrOf st) b:=s1
 have s2':∀a b,sa+na<=a->a<=b->b < sa+na+nb->KR rk (arrOf st) a<=KR rk (arrOf st) b:=s2
 refine wpS_bind (VQ (by omega) ?_)
 refine wpS_bind (BZ q hk1 (hSi _ _) hSi (by omega) (λa b hb hab h1 h2=>by
   have:=s1' a b h1 hab h2
   rwa [KR_at (by omega),KR_at hb]at this) (by omega) λk kn k1 k2=>?_)
 dsimp only
 have k1':∀a,sa<=a->a < sa+k->KR rk (arrOf st) a<=KR rk (arrOf st) (sa+na):=λa h1 h2=>by
  have:=k1 a (by omega) h1 h2
  rw[if_neg (by decide)]at this
  rwa [KR_at (by omega),KR_at (by omega)]
 have k2':∀a,sa+k<=a->a < sa+na->KR rk (arrOf st) (sa+na) < KR rk (arrOf st) a:=λa h1 h2=>by
  have:=k2 a (by omega) h1 h2
  rw[if_neg (by decide)]at this
  rwa [KR_at (by omega),KR_at (by omega)]
 by_cases h0:na - k=0
 ·rw[if_pos (by simpa using h0)]
  refine wpS_pure (h st1 ⟨by rw[hA1],hk1,hF1,hP1,λj _=>by rw[hA1],λa b h1 h2 h3=>?_⟩)
  rw[hA1]
  by_cases hb:b < sa+na
  ·exact s1' a b h1 h2 hb
  ·by_cases ha:a < sa+na
   ·exact L1 (k1' a h1 (by omega)) (s2' (sa+na) b (by omega) (by omega) (by omega))
   ·exact s2' a b (by omega) h2 (by omega)
 ·rw[if_neg (by simpa using h0)]
  refine wpS_bind (VQ (by omega) ?_)
  refine wpS_bind (BZ q hk1 (hSi _ _) hSi (by omega) (λa b hb hab h1 h2=>by
    have:=s2' a b h1 hab h2
    rwa [KR_at (by omega),KR_at hb]at this) (by omega) λl ln l1 l2=>?_)
  dsimp only
  have l1':∀a,sa+na<=a->a < sa+na+l->KR rk (arrOf st) a < KR rk (arrOf st) (sa+k+(na - k) - 1):=λa h1 h2=>by
   have:=l1 a (by omega) h1 h2
   rw[if_pos rfl]at this
   rwa [KR_at (by omega),KR_at (by omega)]
  have l2':∀a,sa+na+l<=a->a < sa+na+nb->KR rk (arrOf st) (sa+k+(na - k) - 1)<=KR rk (arrOf st) a:=λa h1 h2=>by
   have:=l2 a (by omega) h1 h2
   rw[if_pos rfl]at this
   rwa [KR_at (by omega),KR_at (by omega)]
  have el:sa+k+(na - k) - 1=sa+na - 1:=by omega
  rw[el]at l1' l2'
  by_cases hl0:l=0
  ·rw[if_pos (by simpa using hl0)]
   refine wpS_pure (h st1 ⟨by rw[hA1],hk1,hF1,hP1,λj _=>by rw[hA1],λa b h1 h2 h3=>?_⟩)
   rw[hA1]
   by_cases hb:b < sa+na
   ·exact s1' a b h1 h2 hb
   ·by_cases ha:a < sa+na
    ·exact L1 (s1' a (sa+na - 1) h1 (by omega) (by omega)) (l2' b (by omega) (by omega))
    ·exact s2' a b (by omega) h2 (by omega)
  ·rw[if_neg (by simpa using hl0)]
   have hxz:((arrOf st).extract (sa+k) (sa+na)).size=na - k:=by rw[Y6];omega
   have hyz:((arrOf st).extract (sa+na) (sa+na+l)).size=l:=by rw[Y6];omega
   have H:Hy rk S ((arrOf st).extract (sa+k) (sa+na)) ((arrOf st).extract (sa+na) (sa+na+l)):=by
    refine ⟨Fz (by omega) λa b h1 h2 h3=>s1' a b (by omega) h2 h3,Fz (by omega) λa b h1 h2 h3=>s2' a b h1 h2 (by omega),λj hj=>?_,λj hj=>?_,by omega,by omega,λj hj=>?_,λj hj=>?_⟩
    ·rw[ext_at (by omega)];exact hSi _ _
    ·rw[ext_at (by omega)];exact hSi _ _
    ·rw[ext_at (by omega),ext_at (by omega)]
     have:=l1' (sa+na+j) (by omega) (by omega)
     rw[KR_at (by omega),KR_at (by omega)]at this
     simp only[hxz]
     have e2:sa+k+(na - k - 1)=sa+na - 1:=by omega
     simp only[e2]
     exact J5 this
    ·rw[ext_at (by omega),ext_at (by omega)]
     have:=k2' (sa+k+j) (by omega) (by omega)
     rw[KR_at (by omega),KR_at (by omega)]at this
     simp only[Nat.add_zero]
     exact J5 this
   have go:∀(r:Array Keyed) (st2:SortSt),Gs st1 st2->Po rk ((arrOf st).extract (sa+k) (sa+na)) ((arrOf st).extract (sa+na) (sa+na+l)) r->wpS (model prog w) A E s (do
       modify λv=>setArr v (wb (arrOf v) (sa+k) r.toList 0)
       let v<-get
       pure (failedOf v).isNone) Q st2:=by
    rintro r st2 ⟨g,rfl⟩ ⟨hp,hw⟩
    refine wpS_bind (wpS_modify (wpS_bind (wpS_get ?_)))
    have hlen:r.toList.length=na - k+l:=by rw[hp.length_eq,A1,T0,T0,hxz,hyz]
    have hb:sa+k+r.toList.length<=(arrOf st).size:=by omega
    have eA:arrOf (setArr (tK st1 g) (wb (arrOf (tK st1 g)) (sa+k) r.toList 0))=wb (arrOf st) (sa+k) r.toList 0:=by
     show wb (arrOf st1) _ _ _=_
     rw[hA1]
    have eF:failedOf (setArr (tK st1 g) (wb (arrOf (tK st1 g)) (sa+k) r.toList 0))=none:=hF1
    rw[eF]
    have gt:∀j,(wb (arrOf st) (sa+k) r.toList 0)[j]?=if sa+k<=j/\j < sa+k+r.toList.length then r.toList[j - (sa+k)]? else (arrOf st)[j]?:=λj=>VH r.toList 0 (sa+k) (arrOf st) hb j
    have mid:∀j,sa+k<=j->j < sa+na+l->∃n,sa+k<=n/\n < sa+na+l/\KR rk (wb (arrOf st) (sa+k) r.toList 0) j=KR rk (arrOf st) n:=λj j1 j2=>by
     have hj:j - (sa+k) < r.toList.length:=by omega
     have e:KR rk (wb (arrOf st) (sa+k) r.toList 0) j=rk (r.toList[j - (sa+k)]'hj):=by
      unfold KR
      rw[gt,if_pos (by omega),P0 hj]
     have hm:=hp.mem_iff.mp (P3 hj)
     rw[e]
     rcases G4.mp hm with hm|hm
     ·obtain⟨n,hn,en⟩:=U4 hm
      rw[T0]at hn
      rw[G3,ext_at (by omega)]at en
      refine ⟨sa+k+n,by omega,by omega,?_⟩
      rw[<- en,KR_at (by omega)]
     ·obtain⟨n,hn,en⟩:=U4 hm
      rw[T0]at hn
      rw[G3,ext_at (by omega)]at en
      refine ⟨sa+na+n,by omega,by omega,?_⟩
      rw[<- en,KR_at (by omega)]
    have out:∀j,j < sa+k\/sa+na+l<=j->(wb (arrOf st) (sa+k) r.toList 0)[j]?=(arrOf st)[j]?:=λj hj=>by rw[gt,if_neg (by omega)]
    refine wpS_pure (h _ ⟨?_,hk1,hF1,hP1,?_,?_⟩)
    ·rw[eA,Q5,Nk hb]
     have e:(arrOf st).toList=(arrOf st).toList.take (sa+k)++(((arrOf st).extract (sa+k) (sa+na)).toList++((arrOf st).extract (sa+na) (sa+na+l)).toList)++(arrOf st).toList.drop (sa+k+r.toList.length):=by
      rw[Q4,Q4,K3,K3]
      have e1:(arrOf st).toList.drop (sa+na)=((arrOf st).toList.drop (sa+k)).drop (na - k):=by rw[o9];congr 1;omega
      rw[e1,show sa+na - (sa+k)=na - k by omega,show sa+na+l - (sa+na)=l by omega,<- List.take_add,hlen]
      have e2:(arrOf st).toList.drop (sa+k+(na - k+l))=((arrOf st).toList.drop (sa+k)).drop (na - k+l):=by rw[o9]
      rw[e2,P2,B4,B4]
     conv=>rhs;rw[e]
     exact (hp.append_left _).append_right _
    ·intro j hj
     rw[eA]
     exact out j (by omega)
    ·rw[eA]
     intro a b h1 h2 h3
     have kA:∀a,a < sa+k->KR rk (wb (arrOf st) (sa+k) r.toList 0) a=KR rk (arrOf st) a:=λa ha=>rX (out a (.inl ha))
     have kB:∀a,sa+na+l<=a->KR rk (wb (arrOf st) (sa+k) r.toList 0) a=KR rk (arrOf st) a:=λa ha=>rX (out a (.inr ha))
     by_cases ha:a < sa+k
     ·rw[kA a ha]
      by_cases hb1:b < sa+k
      ·rw[kA b hb1];exact s1' a b h1 h2 (by omega)
      ·by_cases hb2:b < sa+na+l
       ·obtain⟨n,m1,m2,en⟩:=mid b (by omega) hb2
        rw[en]
        by_cases hn:n < sa+na
        ·exact s1' a n h1 (by omega) hn
        ·exact L1 (k1' a h1 ha) (s2' (sa+na) n (by omega) (by omega) (by omega))
       ·rw[kB b (by omega)]
        exact L1 (k1' a h1 ha) (s2' (sa+na) b (by omega) (by omega) (by omega))
     ·by_cases ha2:a < sa+na+l
      ·by_cases hb2:b < sa+na+l
       ·have ha':a - (sa+k) < r.toList.length:=by omega
        have hb':b - (sa+k) < r.toList.length:=by omega
        have ea:KR rk (wb (arrOf st) (sa+k) r.toList 0) a=rk (r.toList[a - (sa+k)]'ha'):=by
         unfold KR
         rw[gt,if_pos (by omega),P0 ha']
        have eb:KR rk (wb (arrOf st) (sa+k) r.toList 0) b=rk (r.toList[b - (sa+k)]'hb'):=by
         unfold KR
         rw[gt,if_pos (by omega),P0 hb']
        rw[ea,eb]
        rcases Q9 a b with hab|hab
        ·exact S2.mp hw _ _ ha' hb' (by omega)
        ·have:a=b:=by omega
         subst this
         exact R0 _
       ·obtain⟨n,m1,m2,en⟩:=mid a (by omega) ha2
        rw[en,kB b (by omega)]
        by_cases hn:n < sa+na
        ·exact L1 (s1' n (sa+na - 1) (by omega) (by omega) (by omega)) (l2' b (by omega) (by omega))
        ·exact s2' n b (by omega) (by omega) (by omega)
      ·rw[kB a (by omega),kB b (by omega)]
       exact s2' a b (by omega) h2 (by omega)
   by_cases hle:na - k<=l
   ·simp only[if_pos hle]
    exact wpS_bind (yE q H hk1 λr st2 hg hP=>go r st2 hg hP)
   ·simp only[if_neg hle]
    exact wpS_bind (EE q H hk1 λr st2 hg hP=>go r st2 hg hP)
end
noncomputable def Ch(rk:Keyed->Nat)(xs:Array Keyed):List (Nat×Nat×Nat)->Nat->Nat->Prop
 | [],b,e=>b=e
 | p :: l,b,e=>p.1=b/\1<=p.2.1/\Sg rk xs b p.2.1/\Ch rk xs l (b+p.2.1) e
theorem Ch.len{rk:Keyed->Nat}{xs:Array Keyed}:∀{l:List (Nat×Nat×Nat)}{b e:Nat},Ch rk xs l b e->b+l.length<=e
 | [],b,e,h=>by cases h;simp
 | p :: l,b,e,h=>by
  have:=h.2.2.2.len
  have:=h.2.1
  rw[X1]
  omega
theorem Ch.append{rk:Keyed->Nat}{xs:Array Keyed}:∀{l l':List (Nat×Nat×Nat)}{b e:Nat},Ch rk xs (l++l') b e ↔ ∃m,Ch rk xs l b m/\Ch rk xs l' m e
 | [],l',b,e=>⟨λh=>⟨b,rfl,h⟩,λ⟨m,h1,h2⟩=>by cases h1;exact h2⟩
 | p :: l,l',b,e=>⟨λ⟨h1,h2,h3,h4⟩=>by
     obtain⟨m,h5,h6⟩:=Ch.append.mp h4
     exact ⟨m,⟨h1,h2,h3,h5⟩,h6⟩,λ⟨m,⟨h1,h2,h3,h5⟩,h6⟩=>⟨h1,h2,h3,Ch.append.mpr ⟨m,h5,h6⟩⟩⟩
theorem Ch.congr{rk:Keyed->Nat}{xs ys:Array Keyed}:∀{l:List (Nat×Nat×Nat)}{b e:Nat},(∀i,b<=i->i < e->ys[i]?=xs[i]?)->Ch rk xs l b e->Ch rk ys l b e
 | [],_,_,_,h=>h
 | p :: l,b,e,k,⟨h1,h2,h3,h4⟩=>by
  have:=h4.len
  refine ⟨h1,h2,λi j hi hij hj=>?_,h4.congr λi hi he=>k i (by omega) he⟩
  rw[rX (k i hi (by omega)),rX (k j (by omega) (by omega))]
  exact h3 i j hi hij hj
structure In(κ:SortKind)(rk:Keyed->Nat)(st:SortSt)(lo:Nat)(st':SortSt):Prop where
 perm:(arrOf st').Perm (arrOf st)
 kind:kindOf st'=κ
 failed:failedOf st'=none
 ch:Ch rk (arrOf st') (pendingOf st').toList 0 lo
theorem In.size{κ:SortKind}{rk:Keyed->Nat}{st st':SortSt}{lo:Nat}(h:In κ rk st lo st'):(arrOf st').size=(arrOf st).size:=h.perm.size_eq
section
variable {prog:Program}{w:World}{A:Around}{E:Value->Shared->Prop}{s:Shared}{κ:SortKind}{rk:Keyed->Nat}{S:Keyed->Prop}{st:SortSt}
theorem AllS.perm{xs ys:Array Keyed}(h:AllS S xs)(p:ys.Perm xs):AllS S ys:=λq hq=>h q ((Q5.mp p).mem_iff.mp hq)
theorem sv(q:jZ prog w A s κ rk S){i lo:Nat}{st':SortSt}{Q:Bool->SortSt->Prop}(hS:AllS S (arrOf st))(hI:In κ rk st lo st')(hlo:lo<=(arrOf st).size)(hi:i+1 < (pendingOf st').size)
  (h:∀st'',In κ rk st lo st''->(pendingOf st'').size+1=(pendingOf st').size->(∀j,lo<=j->(arrOf st'')[j]?=(arrOf st')[j]?)->Q true st''):wpS (model prog w) A E s (mergeAt' i) Q st':=by
 obtain⟨perm,kind,failed,ch⟩:=hI
 have hl:(pendingOf st').toList.length=(pendingOf st').size:=T0
 obtain⟨pre,p,p',post,e,ep⟩:∃pre p p' post,(pendingOf st').toList=pre++p :: p' :: post/\pre.length=i:=by
  refine ⟨(pendingOf st').toList.take i,(pendingOf st').toList[i]'(by omega),(pendingOf st').toList[i+1]'(by omega),(pendingOf st').toList.drop (i+2),?_,by rw[Z3];omega⟩
  have e1:=u4 (l:=(pendingOf st').toList) (i:=i) (by omega)
  have e2:=u4 (l:=(pendingOf st').toList) (i:=i+1) (by omega)
  rw[<- e2,<- e1,B4]
 rw[e]at ch
 obtain⟨m,c1,c2⟩:=Ch.append.mp ch
 obtain⟨sa,na,pw⟩:=p
 obtain⟨sb,nb,pw'⟩:=p'
 obtain⟨f1,f2,f3,g1,g2,g3,c3⟩:=c2
 dsimp only at f1 f2 f3 g1 g2 g3 c3
 subst f1
 subst g1
 have hlen:=c3.len
 have q1:(pendingOf st')[i]?=some (sa,na,pw):=by rw[<- Q2,e,Y1 (by omega),ep,Nat.sub_self];rfl
 have q2:(pendingOf st')[i+1]?=some (sa+na,nb,pw'):=by rw[<- Q2,e,Y1 (by omega),ep,u6];rfl
 have hz:=perm.size_eq
 refine IE q (hS.perm perm) kind failed q1 q2 (by omega) f2 g2 f3 g3 λst'' M=>?_
 have el:(pendingOf st'').toList=pre++(sa,na+nb,pw) :: post:=by
  rw[M.pend,Array.toList_eraseIdxIfInBounds,Array.toList_setIfInBounds,e,<- ep,List.set_append_right _ _ (R0 _),Nat.sub_self,List.eraseIdx_append_of_length_le (by omega),u6]
  rfl
 refine h st'' ⟨M.perm.trans perm,M.kind,M.failed,?_⟩ ?_ λj hj=>M.keep j (.inr (by omega))
 ·rw[el]
  refine Ch.append.mpr ⟨sa,c1.congr λj _ hj=>M.keep j (.inl hj),rfl,by show 1<=na+nb;omega,M.sg,?_⟩
  show Ch rk _ post (sa+(na+nb)) lo
  rw[<- Nat.add_assoc]
  exact c3.congr λj hj _=>M.keep j (.inr (by omega))
 ·have e1:=congrArg L4 el
  have e2:=congrArg L4 e
  rw[T0]at e1 e2
  simp only[A1,X1]at e1 e2
  omega
theorem Ch.modify{xs:Array Keyed}(pw:Nat):∀{l:List (Nat×Nat×Nat)}{i b e:Nat},Ch rk xs l b e->Ch rk xs (l.modify i λx=>(x.1,x.2.1,pw)) b e
 | [],i,_,_,h=>by cases i<;>exact h
 | p :: l,0,_,_,h=>h
 | p :: l,i+1,_,_,⟨h1,h2,h3,h4⟩=>⟨h1,h2,h3,h4.modify pw (i:=i)⟩
theorem In.put{lo n pw:Nat}{z:SortSt}(h:In κ rk st lo z):In κ rk st lo (setPending z ((pendingOf z).modify ((pendingOf z).size - 1) λx=>(x.1,x.2.1,pw))) :=
 ⟨h.perm,h.kind,h.failed,by
   show Ch rk (arrOf z) ((pendingOf z).modify ((pendingOf z).size - 1) λx=>(x.1,x.2.1,pw)).toList 0 lo
   rw[Array.toList_modify]
   exact h.ch.modify pw⟩
theorem In.push{lo n:Nat}{z:SortSt}(h:In κ rk st lo z)(hn:1<=n)(hs:Sg rk (arrOf z) lo n):In κ rk st (lo+n) (setPending z ((pendingOf z).push (lo,n,0))) :=
 ⟨h.perm,h.kind,h.failed,by
   show Ch rk (arrOf z) ((pendingOf z).push (lo,n,0)).toList 0 (lo+n)
   rw[K6]
   exact Ch.append.mpr ⟨lo,h.ch,rfl,hn,hs,rfl⟩⟩
theorem In.run{lo n:Nat}{z z':SortSt}(h:In κ rk st lo z)(b:Bs κ z lo n z'):In κ rk st lo z' :=
 ⟨b.perm.trans h.perm,b.kind,b.failed,by
   rw[b.pend]
   exact h.ch.congr λi _ hi=>b.keep i (.inl hi)⟩
theorem Sg.congr{xs ys:Array Keyed}{lo n:Nat}(h:Sg rk xs lo n)(k:∀j,lo<=j->ys[j]?=xs[j]?):Sg rk ys lo n:=λi j hi hij hj=>by
 rw[rX (k i hi),rX (k j (by omega))]
 exact h i j hi hij hj
theorem w_sort(q:jZ prog w A s κ rk S){Q:Unit->SortSt->Prop}(hS:AllS S (arrOf st))(hk:kindOf st=κ)(hF:failedOf st=none)(hP:pendingOf st=#[])
  (h:∀st',(arrOf st').Perm (arrOf st)->failedOf st'=none->Sg rk (arrOf st') 0 (arrOf st).size->Q () st'):wpS (model prog w) A E s sortRuns' Q st:=by
 rw[sortRuns'_eq]
 refine wpS_bind (wpS_get ?_)
 dsimp only
 have I0:In κ rk st 0 st:=⟨Array.Perm.refl _,hk,hF,by rw[hP];rfl⟩
 refine wpS_bind (wpS_mono (wpS_forRange (I:=λx c z=>∃lo,c=(none,lo)/\In κ rk st lo z/\lo<=(arrOf st).size/\(x<=lo\/lo=(arrOf st).size)) (Q:=λc z=>c=(none,(arrOf st).size)/\In κ rk st (arrOf st).size z) ?step ?fin ⟨0,rfl,I0,Q3 _,.inl (R0 _)⟩) ?post)
 case fin =>
  rintro c z ⟨lo,rfl,hI,h1,h2⟩
  have:lo=(arrOf st).size:=by omega
  subst this
  exact ⟨rfl,hI⟩
 case step =>
  rintro x c z _ hx ⟨lo,rfl,hI,h1,h2⟩
  dsimp only
  by_cases hge:lo ≥ (arrOf st).size
  ·rw[if_pos hge]
   have:lo=(arrOf st).size:=by omega
   subst this
   exact wpS_pure ⟨rfl,hI⟩
  ·rw[if_neg hge]
   have hz:=hI.size
   have hS':AllS S (arrOf z):=AllS.perm hS hI.perm
   refine wpS_bind (WL q hS' (by omega) (by omega) ⟨Array.Perm.refl _,hI.kind,hI.failed,rfl,λ_ _=>rfl⟩ λn z1 b1 n1 n2 g1=>?_)
   dsimp only
   have rest:∀(n:Nat) (z1:SortSt),In κ rk st lo z1->1<=n->lo+n<=(arrOf st).size->Sg rk (arrOf z1) lo n->∃c,c=n/\In κ rk st lo z1/\Sg rk (arrOf z1) lo c/\1<=c/\lo+c<=(arrOf st).size:=λn z1 a b c d=>⟨n,rfl,a,d,b,c⟩
   by_cases hlt:n < minRun' (arrOf st).size (arrOf st).size 0
   case' pos =>
    rw[if_pos hlt]
    refine wpS_bind (wpS_lift (wpAny_rule ⟨rfl,?_⟩))
    refine wpS_bind (Vu (N:=(arrOf st).size - lo) q hS' (n:=min ((arrOf st).size - lo) (minRun' (arrOf st).size (arrOf st).size 0)) (by omega) (by omega) (by omega) b1 g1 λz2 b2 g2=>?_)
    simp only[G8,O2,if_false]
    have hI2:=hI.run b2
    have m1:1<=min ((arrOf st).size - lo) (minRun' (arrOf st).size (arrOf st).size 0):=by omega
    have m2:lo+min ((arrOf st).size - lo) (minRun' (arrOf st).size (arrOf st).size 0)<=(arrOf st).size:=by omega
    clear b2 b1 g1
    generalize min ((arrOf st).size - lo) (minRun' (arrOf st).size (arrOf st).size 0)=m at *
   case' neg =>
    rw[if_neg hlt]
    have hI2:=hI.run b1
    have m1:=n1
    have m2:lo+n<=(arrOf st).size:=by omega
    have g2:=g1
    clear b1 g1 n1 n2 hlt
    generalize n=m at *
    generalize z1=z2 at *
   all_goals
    refine wpS_bind (wpS_get ?_)
    cases hb:(pendingOf z2).back? with
    | none=>exact wpS_bind (wpS_modify (wpS_pure ⟨lo+m,rfl,hI2.push m1 g2,m2,.inl (by omega)⟩))
    | some pb =>
     obtain⟨s1,n1,pv⟩:=pb
     dsimp only
     refine wpS_bind (wpS_mono (wpS_forRange (I:=λ_ c z=>c=(none,())/\In κ rk st lo z/\∀j,lo<=j->(arrOf z)[j]?=(arrOf z2)[j]?) (Q:=λc z=>c=(none,())/\In κ rk st lo z/\∀j,lo<=j->(arrOf z)[j]?=(arrOf z2)[j]?) ?_ (λ_ _ hh=>hh) ⟨rfl,hI2,λ_ _=>rfl⟩) ?_)
     ·rintro y c z _ _ ⟨rfl,hI3,k3⟩
      refine wpS_bind (wpS_get ?_)
      by_cases hp:(pendingOf z).size > 1
      ·rw[if_pos hp]
       cases hq:(pendingOf z)[(pendingOf z).size - 2]? with
       | none=>exact wpS_pure ⟨rfl,hI3,k3⟩
       | some pq =>
        obtain⟨u1,u2,older⟩:=pq
        dsimp only
        split
        ·exact wpS_pure ⟨rfl,hI3,k3⟩
        ·refine wpS_bind (sv q hS hI3 (by omega) (by omega) λz4 hI4 _ k4=>?_)
         simp only[G8,O2,if_false]
         exact wpS_pure ⟨rfl,hI4,λj hj=>(k4 j hj).trans (k3 j hj)⟩
      ·rw[if_neg hp]
       exact wpS_pure ⟨rfl,hI3,k3⟩
     ·rintro c z ⟨rfl,hI3,k3⟩
      exact wpS_bind (wpS_modify (wpS_bind (wpS_modify (wpS_pure ⟨lo+m,rfl,(hI3.put (n:=0)).push m1 (g2.congr k3),m2,.inl (by omega)⟩))))
 case post =>
  rintro c z ⟨rfl,hI⟩
  dsimp only
  refine wpS_bind (wpS_mono (wpS_forRange (I:=λx c z=>c=(none,())/\In κ rk st (arrOf st).size z/\(pendingOf z).size+x<=(arrOf st).size) (Q:=λc z=>c=(none,())/\In κ rk st (arrOf st).size z/\(pendingOf z).size<=1) ?_ ?_ ⟨rfl,hI,?_⟩) ?_)
  ·rintro x c z _ hx ⟨rfl,hI,hx2⟩
   refine wpS_bind (wpS_get ?_)
   by_cases hp:(pendingOf z).size<=1
   ·rw[if_pos hp]
    exact wpS_pure ⟨rfl,hI,hp⟩
   ·rw[if_neg hp]
    refine wpS_bind (sv q hS hI (R0 _) (by (repeat' split)<;>omega) λz4 hI4 hs4 _=>?_)
    simp only[G8,O2,if_false]
    exact wpS_pure ⟨rfl,hI4,by omega⟩
  ·rintro c z ⟨rfl,hI,hx2⟩
   exact ⟨rfl,hI,by omega⟩
  ·have:=hI.ch.len
   rw[T0]at this
   omega
  ·rintro c z ⟨rfl,hI,hp⟩
   refine wpS_pure (h z hI.perm hI.failed ?_)
   have hc:=hI.ch
   have hl:(pendingOf z).toList.length<=1:=by rw[T0];exact hp
   match (pendingOf z).toList,hc,hl with
   | [],hc,_ =>
    have:0=(arrOf st).size:=hc
    intro i j _ _ hj
    omega
   | [p],⟨h1,h2,h3,h4⟩,_ =>
    have h4:0+p.2.1=(arrOf st).size:=h4
    rw[S8]at h4
    rw[h4]at h3
    exact h3
end
end SG
namespace L2
open PySem PySem.Spec PyProof.Rows PySem.W
section
variable {prog:Program}{w:World}{A:Around}{E:Value->Shared->Prop}{s:Shared}{κ:SortKind}{vs:List Value}{rk:Value->Nat}
theorem sV{p:Keyed}(h:p∈(pairsOf vs).toList):p.1=p.2/\p.2∈vs:=by
 have h:p∈(vs.toArray.zip vs.toArray).toList:=h
 rw[Array.toList_zip]at h
 obtain⟨i,hi,e⟩:=U4 h
 rw[Q6]at e
 subst e
 exact ⟨rfl,P3 _⟩
theorem uK{a:Addr}{n:Nat}{P:Fin->Shared->Prop}(ho:s.heap.get? a=some (seqObj "list" vs.toArray n))(hz:vs.length<=sizeLine)
  (hk:2<=vs.length->∀s':Shared,(∀b o,b≠a->s.heap.get? b=some o->s'.heap.get? b=some o)->∀Q':SortKind->Shared->Prop,Q' κ s'->wpAny (model prog w) A (keyKind' vs.toArray) Q' E s')
  (hlt:∀s':Shared,(∀b o,b≠a->s.heap.get? b=some o->s'.heap.get? b=some o)->∀x y,x∈vs->y∈vs->∀Q':Bool->Shared->Prop,Q' (decide (rk x < rk y)) s'->wpAny (model prog w) A (keyLt' κ x y) Q' (λ_ _=>False) s')
  (h:∀out:List Value,out.Perm vs->out.Pairwise (λx y=>rk x<=rk y)->P (.done (.ret .none)) { s with heap:=sortedHeap s.heap a vs out.toArray }) :
  wpAny (model prog w) A (Builtin.«list.sort» ⟨[.ref a],[]⟩) P E s:=by
 rw[list_sort_plain]
 have ha:a < s.heap.objs.size:=L0 ho
 refine wpAny_bind (listItems_at ho rfl ?_)
 refine wpAny_bind (listUpdate_at ho rfl ?_)
 obtain⟨e1,ho1⟩:∃e1,(s.heap.update a (B2 λ_=>#[])).get? a=some (seqObj "list" #[] e1):=⟨_,get?_update_seq ho (λ_=>#[])⟩
 refine wpAny_bind (seqEpoch_at ho1 rfl ?_)
 refine wpAny_bind (wpAny_newTuple ?_)
 refine wpAny_bind (wpAny_newList ?_)
 refine wpAny_holding ?_
 have ho6:(((s.heap.update a (B2 λ_=>#[])).push (seqObj "tuple" vs.toArray 0)).push (seqObj "list" #[] 0)).get? a=some (seqObj "list" #[] e1):=by
  rw[o7 _ _ _ (by rw[size_push',M8];exact W0 (S3 ha)),o7 _ _ _ (by rw[M8];exact W0 ha)]
  exact ho1
 have kp:∀b o,b≠a->s.heap.get? b=some o->(((s.heap.update a (B2 λ_=>#[])).push (seqObj "tuple" vs.toArray 0)).push (seqObj "list" #[] 0)).get? b=some o:=λb o hb e=>by
  refine j0 _ (j0 _ ?_)
  rw[Y7 _ _ _ _ hb]
  exact e
 show wpAny (model prog w) A _ P E { s with heap:=((s.heap.update a (B2 λ_=>#[])).push (seqObj "tuple" vs.toArray 0)).push (seqObj "list" #[] 0) }
 dsimp only
 have hsz:vs.toArray.size=vs.length:=by simp
 have out0:((pairsOf vs).map (·.2))=vs.toArray:=by
  apply Array.toList_inj.mp
  rw[K7]
  show (vs.toArray.zip vs.toArray).toList.map (·.2)=_
  simp only[Array.toList_zip]
  exact List.map_snd_zip (R0 _)
 by_cases h2:vs.toArray.size < 2
 ·rw[if_pos h2,if_pos h2]
  refine wpAny_bind (wpAny_pure ?_)
  rw[StateT.run_pure]
  refine wpAny_bind (wpAny_pure ?_)
  dsimp only
  refine wpAny_bind (seqEpoch_at ho6 rfl ?_)
  refine wpAny_bind (listUpdate_at ho6 rfl ?_ (hsz2:=by rw[Array.size_map];show (pairsOf vs).size<=_;rw[pairsOf_size];exact E8 hz))
  simp only[bne_self_eq_false,O2,if_false]
  have h':=h vs (List.Perm.refl _) (by
    match vs,h2 with
    | [],_=>exact .nil
    | [x],_=>exact G2 _ _
    | x :: y :: z,h2=>simp at h2;omega)
  rw[<- out0]at h'
  exact wpAny_pure h'
 ·rw[if_neg h2,if_neg h2]
  have h2':2<=vs.length:=by omega
  refine wpAny_bind (hk h2' _ kp _ ?_)
  have run:=SG.w_sort (prog:=prog) (w:=w) (A:=A) (E:=E) (κ:=κ) (rk:=λp=>rk p.1) (S:=λp=>p.1∈vs) (st:=SortSt.mk' κ (pairsOf vs) #[] 7 none)
   (s:={ s with heap:=((s.heap.update a (B2 λ_=>#[])).push (seqObj "tuple" vs.toArray 0)).push (seqObj "list" #[] 0) })
   (Q:=λ_ st'=>(arrOf st').Perm (pairsOf vs)/\failedOf st'=none/\SG.Sg (λp=>rk p.1) (arrOf st') 0 (pairsOf vs).size)
   (λx y hx hy Q' hQ'=>hlt _ kp _ _ hx hy Q' hQ') (λp hp=>by have:=sV hp;show p.1∈vs;rw[this.1];exact this.2) rfl rfl rfl λst' p1 p2 p3=>⟨p1,p2,p3⟩
  refine wpAny_bind (wpAny_mono run ?_ λ_ _ e=>e)
  rintro⟨⟨⟩,st'⟩ s' ⟨rfl,hp,hf,hs⟩
  dsimp only at hp hf hs ⊢
  refine wpAny_bind (seqEpoch_at ho6 rfl ?_)
  have hpl:=Q5.mp hp
  have eq12:∀p∈(arrOf st').toList,p.1=p.2:=λp h=>(sV (hpl.mem_iff.mp h)).1
  have hO:((arrOf st').map (·.2)).toList.Perm vs:=by
   rw[K7]
   have e:(pairsOf vs).toList.map (·.2)=vs:=by rw[<- K7,out0]
   have:=hpl.map (·.2)
   rw[e]at this
   exact this
  have hL:((arrOf st').map (·.2)).toList.length=vs.length:=hO.length_eq
  rw[T0]at hL
  refine wpAny_bind (listUpdate_at ho6 rfl ?_ (hsz2:=by rw[hL];exact E8 hz))
  rw[hf]
  simp only[bne_self_eq_false,O2,if_false]
  refine wpAny_pure ?_
  have:=h ((arrOf st').map (·.2)).toList hO (by
    rw[K7,m5,S2]
    intro i j hi hj hij
    rw[T0]at hi hj
    have hz2:(arrOf st').size=(pairsOf vs).size:=hp.size_eq
    have:=hs i j (Q3 _) (by omega) (by omega)
    rw[SG.KR_at hi,SG.KR_at hj]at this
    rw[G3,G3,<- eq12 _ (by simp),<- eq12 _ (by simp)]
    exact this)
  rw[Array.toArray_toList]at this
  exact this
theorem CD{l:Addr}{Q:Value->Shared->Prop}(hl:s.heap.IsList l vs.toArray)(hz:vs.length<=sizeLine)
  (hk:2<=vs.length->∀s':Shared,(∀b o,s.heap.get? b=some o->s'.heap.get? b=some o)->∀(E:Value->Shared->Prop) (Q':SortKind->Shared->Prop),Q' κ s'->wpAny (model prog w) A.in1.in1 (keyKind' vs.toArray) Q' E s')
  (hlt:∀s':Shared,(∀b o,s.heap.get? b=some o->s'.heap.get? b=some o)->∀x y,x∈vs->y∈vs->∀Q':Bool->Shared->Prop,Q' (decide (rk x < rk y)) s'->wpAny (model prog w) A.in1.in1 (keyLt' κ x y) Q' (λ_ _=>False) s')
  (h:∀out:List Value,out.Perm vs->out.Pairwise (λx y=>rk x<=rk y)->Q (.ref (s.heap.objs.size+1)) { s with heap:=sortedAll s.heap vs out.toArray }) :
  wpAny (model prog w) A (call (.builtin "sorted") [.ref l]) Q E s:=by
 refine Calls.call_function_entry kind_sorted plain_sorted entry_sorted (args_sorted1 _) ?_
 unfold Builtin.«sorted»
 refine wpAny_bind (m:=checkCount "sorted" 1 1 _) (wpAny_pure ?_)
 refine wpAny_bind (collect_list hl ?_ (hsz:=hz))
 refine wpAny_bind (wpAny_newList ?_ hz)
 have hsz:((s.heap.push (seqObj "list" #[] 0)).update s.heap.objs.size (B2 (·++vs.toArray))).objs.size=s.heap.objs.size+1:=by
  rw[M8,size_push']
 have hoL:(((s.heap.push (seqObj "list" #[] 0)).update s.heap.objs.size (B2 (·++vs.toArray))).push (seqObj "list" vs.toArray 0)).get? (s.heap.objs.size+1)=some (seqObj "list" vs.toArray 0):=by
  rw[<- hsz];exact G0 _ rfl
 have keep:∀b o,s.heap.get? b=some o->b≠s.heap.objs.size+1/\(((s.heap.push (seqObj "list" #[] 0)).update s.heap.objs.size (B2 (·++vs.toArray))).push (seqObj "list" vs.toArray 0)).get? b=some o:=λb o q=>by
  have hlt:b < s.heap.objs.size:=L0 q
  refine ⟨W0 (S3 hlt),?_⟩
  rw[o7 _ _ _ (by rw[hsz];exact W0 (S3 hlt)),Y7 _ _ _ _ (W0 hlt),o7 _ _ _ (W0 hlt)]
  exact q
 show wpAny _ _ _ _ _ { s with heap:=((s.heap.push (seqObj "list" #[] 0)).update s.heap.objs.size (B2 (·++vs.toArray))).push (seqObj "list" vs.toArray 0) }
 rw[hsz]
 refine wpAny_bind (wpAny_holding (wpAny_call_entry slot_list_sort ⟨_,hoL,rfl⟩ entry_list_sort (uK (κ:=κ) (rk:=rk) hoL hz (λh2 s' k Q' q=>hk h2 s' (λb o e=>k b o (keep b o e).1 (keep b o e).2) _ Q' q)
   (λs' k x y hx hy Q' q=>hlt s' (λb o e=>k b o (keep b o e).1 (keep b o e).2) x y hx hy Q' q) λout o1 o2=>⟨_,rfl,?_⟩) (args_list_sort _)))
 exact wpAny_pure ⟨_,rfl,h out o1 o2⟩
end
end L2
namespace SG
structure Wk{α:Type}(lt:α->α->Bool):Prop where
 irr:∀a,lt a a=false
 tr:∀a b c,lt a b=true->lt b c=true->lt a c=true
 nt:∀a b c,lt a b=false->lt b c=false->lt a c=false
theorem WH{α:Type}{p q:α->Bool}:∀{l:List α},(∀a∈l,p a=true->q a=true)->l.countP p<=l.countP q
 | [],_=>R0 _
 | a :: l,h=>by
  have ih:=WH (l:=l) λx hx=>h x (K0 _ hx)
  rw[L7,L7]
  have:=h a O0
  cases hp:p a
  ·simp;omega
  ·rw[this hp];simp;omega
theorem Gz{α:Type}{p q:α->Bool}:∀{l:List α},(∀a∈l,p a=true->q a=true)->(∃a∈l,p a=false/\q a=true)->l.countP p < l.countP q
 | [],_,⟨_,h,_⟩=>by simp at h
 | a :: l,h,⟨x,hx,h1,h2⟩=>by
  rw[L7,L7]
  rcases V0.mp hx with rfl|hx
  ·have:=WH (l:=l) λx hx=>h x (K0 _ hx)
   rw[h1,h2]
   simp
   omega
  ·have ih:=Gz (l:=l) (λx hx=>h x (K0 _ hx)) ⟨x,hx,h1,h2⟩
   have:=h a O0
   cases hp:p a
   ·simp;omega
   ·rw[this hp];simp;omega
theorem rank{α:Type}{lt:α->α->Bool}(W:Wk lt){l:List α}{x y:α}(hx:x∈l)(hy:y∈l):decide (l.countP (λa=>lt a x) < l.countP (λa=>lt a y))=lt x y:=by
 cases h:lt x y
 ·rw[decide_eq_false_iff_not,Nat.not_lt]
  refine WH λa _ ha=>?_
  cases h2:lt a x
  ·rw[W.nt a x y h2 h]at ha;cases ha
  ·rfl
 ·rw[decide_eq_true_eq]
  exact Gz (λa _ ha=>W.tr a x y ha h) ⟨x,hx,W.irr x,h⟩
theorem lex_wk:Wk HT.lexLt:=by
 refine ⟨λa=>?_,λa=>?_,λa=>?_⟩
 ·induction a with
  | nil=>rfl
  | cons x a ih=>rw[HT.lexLt_cons,if_pos rfl];exact ih
 ·induction a with
  | nil =>
   intro b c h1 h2
   cases c with
   | nil=>cases b<;>cases h2
   | cons z c=>rfl
  | cons x a ih =>
   intro b c h1 h2
   cases b with
   | nil=>cases h1
   | cons y b =>
    cases c with
    | nil=>cases h2
    | cons z c =>
     rw[HT.lexLt_cons]at h1 h2 ⊢
     by_cases e1:x=y
     ·subst e1
      rw[if_pos rfl]at h1
      by_cases e2:x=z
      ·subst e2
       rw[if_pos rfl]at h2 ⊢
       exact ih b c h1 h2
      ·rw[if_neg e2]at h2 ⊢;exact h2
     ·rw[if_neg e1]at h1
      have h1:=of_decide_eq_true h1
      by_cases e2:y=z
      ·subst e2
       rw[if_neg e1]
       exact decide_eq_true h1
      ·rw[if_neg e2]at h2
       have h2:=of_decide_eq_true h2
       rw[if_neg (by omega)]
       exact decide_eq_true (by omega)
 ·induction a with
  | nil =>
   intro b c h1 h2
   cases b with
   | nil=>exact h2
   | cons y b=>cases h1
  | cons x a ih =>
   intro b c h1 h2
   cases c with
   | nil=>rfl
   | cons z c =>
    cases b with
    | nil=>cases h2
    | cons y b =>
     rw[HT.lexLt_cons]at h1 h2 ⊢
     by_cases e1:x=y
     ·subst e1
      rw[if_pos rfl]at h1
      by_cases e2:x=z
      ·subst e2
       rw[if_pos rfl]at h2 ⊢
       exact ih b c h1 h2
      ·rw[if_neg e2]at h2 ⊢;exact h2
     ·rw[if_neg e1]at h1
      have h1:=of_decide_eq_false h1
      by_cases e2:y=z
      ·subst e2
       rw[if_neg e1]
       exact decide_eq_false h1
      ·rw[if_neg e2]at h2
       have h2:=of_decide_eq_false h2
       rw[if_neg (by omega)]
       exact decide_eq_false (by omega)
theorem lex_eq:∀{a b:List Int},HT.lexLt a b=false->HT.lexLt b a=false->a=b
 | [],[],_,_=>rfl
 | [],_ :: _,h,_=>by cases h
 | _ :: _,[],_,h=>by cases h
 | x :: a,y :: b,h1,h2=>by
  rw[HT.lexLt_cons]at h1 h2
  by_cases e:x=y
  ·subst e
   rw[if_pos rfl]at h1 h2
   rw[lex_eq h1 h2]
  ·rw[if_neg e]at h1
   rw[if_neg (λz=>e z.symm)]at h2
   have h1:=of_decide_eq_false h1
   have h2:=of_decide_eq_false h2
   omega
theorem sorted_uniq{α:Type}{lt:α->α->Bool}(an:∀a b,lt a b=false->lt b a=false->a=b):∀{l m:List α},l.Perm m->l.Pairwise (λa b=>lt b a=false)->m.Pairwise (λa b=>lt b a=false)->l=m
 | [],m,p,_,_=>by rw[List.nil_perm.mp p]
 | x :: l,[],p,_,_=>by simp at p
 | x :: l,y :: m,p,h1,h2=>by
  have e:x=y:=by
   have hx:x∈y :: m:=p.mem_iff.mp O0
   have hy:y∈x :: l:=p.mem_iff.mpr O0
   rcases V0.mp hx with e|hx
   ·exact e
   ·rcases V0.mp hy with e|hy
    ·exact e.symm
    ·exact an x y ((X3.mp h2).1 x hx) ((X3.mp h1).1 y hy)
  subst e
  rw[sorted_uniq an (List.perm_cons x |>.mp p) (X3.mp h1).2 (X3.mp h2).2]
end SG
namespace L2
open PySem PySem.Spec PyProof.Rows PySem.W
section
variable {X:Cx}{α:Type}[Inhabited α]
noncomputable def TJ(K:J0)(Rep:Hp->Addr->α->Prop)(fn:Hp->V->α)(lt:α->α->Bool):List V->Hp->VK->Prop:=λxs H Q=>∃(a:Addr) (us:List V),xs=[.ref a]/\SqL K H a us/\us.length<=sizeLine /\
 (∀v∈us,∃c x,v=.ref c/\Rep H c x)/\∀(p:Addr) (us':List V),H p=none->us'.Perm us->(us'.map (fn H)).Pairwise (λa b=>lt b a=false)->Q (.ref p) (NQ H p (.lst us'))
theorem ED{us:List V}{its:List Value}:∀{out:List Value},out.Perm its->Vals us its->∃us':List V,us'.Perm us/\Vals us' out:=by
 intro out p
 induction p generalizing us with
 | nil=>intro h;exact ⟨us,List.Perm.refl _,h⟩
 | cons x _ ih =>
  intro h
  cases h with
  | cons h t =>
   obtain⟨us',p,r⟩:=ih t
   exact ⟨_,p.cons _,.cons h r⟩
 | swap x y l =>
  intro h
  cases h with
  | cons h1 t=>cases t with|cons h2 t=>exact ⟨_,List.Perm.swap _ _ _,.cons h2 (.cons h1 t)⟩
 | trans _ _ ih1 ih2 =>
  intro h
  obtain⟨u2,p2,r2⟩:=ih2 h
  obtain⟨u1,p1,r1⟩:=ih1 r2
  exact ⟨u1,p1.trans p2,r1⟩
end
section
variable {X:Cx}{α:Type}[Inhabited α]{Rep:Hp->Addr->α->Prop}{fn:Hp->V->α}{lt:α->α->Bool}{κ:SortKind}
theorem JU{c:Addr}{u:Value}(h:RelV (.ref c) u):u=.ref c:=h
noncomputable def tJ(fn:Hp->V->α)(H:Hp):Value->α
 | .ref c=>fn H (.ref c)
 | _=>default
theorem eW(W:SG.Wk lt)(hf:∀H c a,Rep H c a->fn H (.ref c)=a)
  (hkind:∀{pins:List (Addr×Obj)}{s:Shared}{σ:St}{H:Hp},Inv X pins σ H s->∀its:List Value,2<=its.length->(∀u∈its,∃c x,u=.ref c/\Rep H c x)->∀(s':Shared),(∀b o,s.heap.get? b=some o->s'.heap.get? b=some o)->∀(E:Value->Shared->Prop) (Q':SortKind->Shared->Prop),Q' κ s'->wpAny (model X.prog X.w) X.A.in1.in1 (keyKind' its.toArray) Q' E s')
  (hcmp:∀{pins:List (Addr×Obj)}{s:Shared}{σ:St}{H:Hp},Inv X pins σ H s->∀(c d:Addr) (x y:α),Rep H c x->Rep H d y->∀(s':Shared),(∀b o,s.heap.get? b=some o->s'.heap.get? b=some o)->∀Q':Bool->Shared->Prop,Q' (lt x y) s'->wpAny (model X.prog X.w) X.A.in1.in1 (keyLt' κ (.ref c) (.ref d)) Q' (λ_ _=>False) s') :
  BX X (.builtin "sorted") (TJ X.K Rep fn lt):=by
 intro pins s σ H xs us Q I r h
 obtain⟨a,vs,rfl,hs,hz,hrep,q⟩:=h
 obtain⟨u,rfl,ru⟩:=aJ r
 cases ru
 obtain⟨its,rv,⟨o,n,e,c,d1,d2⟩,hz'⟩:=I.list hs
 have hl:=rv.length
 have at':∀u∈its,∃c x,u=.ref c/\Rep H c x:=λu hu=>by
  obtain⟨i,hi,rfl⟩:=U4 hu
  have hi2:i < vs.length:=by omega
  obtain⟨c,x,hv,hr⟩:=hrep _ (P3 hi2)
  obtain⟨u,hu,ru⟩:=rv.get (P0 hi2)
  rw[hv]at ru
  rw[P0 hi]at hu
  have:its[i]=u:=V1 hu
  rw[this]
  exact ⟨c,x,JU ru,hr⟩
 have key:∀x∈its,∀y∈its,decide ((its.map (tJ fn H)).countP (λa=>lt a (tJ fn H x)) < (its.map (tJ fn H)).countP (λa=>lt a (tJ fn H y)))=lt (tJ fn H x) (tJ fn H y):=λx hx y hy =>
  SG.rank W (y9 hx) (y9 hy)
 refine CD (κ:=κ) (rk:=λv=>(its.map (tJ fn H)).countP (λa=>lt a (tJ fn H v))) (vs:=its) ⟨o,e,c,n,by first|exact d2|exact d1⟩ (by omega) (λh2 s' k E' Q' q'=>?_) (λs' k x y hx hy Q' q'=>?_) (λout o1 o2=>?_)
 ·exact hkind I its h2 at' s' k E' Q' q'
 ·rw[key x hx y hy]at q'
  obtain⟨c,x',rfl,hx'⟩:=at' x hx
  obtain⟨d,y',rfl,hy'⟩:=at' y hy
  refine hcmp I c d x' y' hx' hy' s' k Q' ?_
  have e1:tJ fn H (.ref c)=x':=hf H c x' hx'
  have e2:tJ fn H (.ref d)=y':=hf H d y' hy'
  rw[e1,e2]at q'
  exact q'
 ·obtain⟨ep,he⟩:=sortedAll_at s.heap its out.toArray
  have hn:H (s.heap.objs.size+1)=none:=I.hok.fresh (U5 _)
  obtain⟨us',p',r'⟩:=ED o1 rv
  refine ⟨.ref (s.heap.objs.size+1),NQ H (s.heap.objs.size+1) (.lst us'),I.laid (t':=s.toks) (λb u e=>sortedAll_old e) (U5 _) ?_,rfl,q _ us' hn p' ?_⟩
  ·exact ⟨by rw[p'.length_eq];exact hz,out,ep,r',by rw[he]⟩
  ·rw[m5,S2]
   intro i j hi hj hij
   have hl':=r'.length
   have o3:=S2.mp o2 i j (by omega) (by omega) hij
   have hxm:out[i]'(by omega)∈its:=o1.mem_iff.mp (P3 _)
   have hym:out[j]'(by omega)∈its:=o1.mem_iff.mp (P3 _)
   have k2:=key _ hym _ hxm
   rw[decide_eq_false (Nat.not_lt.mpr o3)]at k2
   have ev:∀(m:Nat) (hm:m < us'.length),fn H us'[m]=tJ fn H (out[m]'(by omega)):=λm hm=>by
    obtain⟨c,x,hv,hr⟩:=hrep _ (p'.mem_iff.mp (P3 hm))
    obtain⟨u,hu,ru⟩:=r'.get (P0 hm)
    rw[P0 (by omega)]at hu
    have hu:out[m]'(by omega)=u:=V1 hu
    rw[hv]at ru ⊢
    rw[hu,JU ru]
    rfl
   rw[ev i hi,ev j hj]
   exact k2.symm
end
section
variable {prog:Program}{w:World}{A:Around}{s:Shared}
theorem Pk(b:Bool){n m:Int}{t u:Tok}{Q:Bool->Shared->Prop}{E:Value->Shared->Prop}(h:Q (decide (n < m)) s):wpAny (model prog w) A (oneLt' b (.int n t) (.int m u)) Q E s:=by
 cases b with
 | true=>exact oneLt_int h
 | false=>exact kat_one _ _ (lt_int h)
theorem KU{b:Bool}{Q:Bool->Shared->Prop}:∀{ns ms:List Int}{xs ys:List Value} (i:Nat),IntsAre xs ns->IntsAre ys ms->Q (HT.lexLt ns ms) s->KatLex prog w A b (decide (xs.length < ys.length)) Q (xs.zip ys) i s
 | _,_,_,_,i,.nil,.nil,h=>h
 | _,_,_,_,i,.nil,.cons m u r,h=>h
 | _,_,_,_,i,.cons n t r,.nil,h=>h
 | _,_,_,_,i,.cons (vs:=xs) (ns:=ns) n t r,.cons (vs:=ys) (ns:=ms) m u r',h=>by
  have e:decide ((E7 n t :: xs).length < (E7 m u :: ys).length)=decide (xs.length < ys.length):=by simp
  rw[e]
  rw[HT.lexLt_cons]at h
  show KatLex prog w A b _ Q ((E7 n t,E7 m u) :: xs.zip ys) i s
  refine kat_cons (SeqAt.EqAt.int_int n t m u _ _ _ _ ?_)
  refine kat_go (λq=>kat_yes ?_) (λq=>kat_no ?_)
  ·rw[if_pos (by simpa using q)]at h
   exact KU (i+1) r r' h
  ·rw[if_neg (by simpa using q)]at h
   exact Pk _ h
end
noncomputable def FD(H:Hp)(c:Addr)(r:List Int):Prop:=H c=some (.tup (r.map V.int))/\r≠[]
noncomputable def iU(H:Hp):V->List Int
 | .ref c=>match H c with
  | some (.tup xs)=>xs.map qE
  | _=>[]
 | _=>[]
theorem TV(H:Hp)(c:Addr)(r:List Int)(h:FD H c r):iU H (.ref c)=r:=by
 show (match H c with|some (.tup xs)=>xs.map qE|_=>[])=r
 rw[h.1]
 exact qJ r
theorem XH{X:Cx}:BX X (.builtin "sorted") (TJ X.K FD iU HT.lexLt):=by
 refine eW (κ:=tuples' true) SG.lex_wk TV (λ{pins s σ H} I its h2 at' s' k E' Q' q'=>?_) (λ{pins s σ H} I c d x y hx hy s' k Q' q'=>?_)
 ·have gen:∀(l:List Value),(∀v∈l,∃(c:Addr) (r:List Int),v=.ref c/\FD H c r)->∃fs:List Value,KatTups s'.heap l fs/\fs.length=l.length/\∀v∈fs,Looks (model X.prog X.w) s'.heap (typeOf v) (.type "int"):=by
   intro l
   induction l with
   | nil=>intro _;exact ⟨[],.nil,rfl,λv hv=>by simp at hv⟩
   | cons v l ih =>
    intro hl
    obtain⟨fs,f1,f2,f3⟩:=ih λx hx=>hl x (K0 _ hx)
    obtain⟨c,r,rfl,hc,hr⟩:=hl v O0
    obtain⟨_,itc,rc,ob,e1,e2,m,e3,_⟩:=(show ObjOk X.prog X.w H s.heap c (.tup (r.map V.int)) from I.hok c _ hc)
    cases r with
    | nil=>exact absurd rfl hr
    | cons n r =>
     rw[J3]at rc
     cases rc with
     | cons h1 rc =>
      obtain⟨t,rfl⟩:=h1
      refine ⟨.int n t :: fs,.cons (k _ _ e1) e2 e3 rfl f1,by simp[f2],λv hv=>?_⟩
      rcases V0.mp hv with rfl|hv
      ·exact Looks.of_pure rfl
      ·exact f3 v hv
  obtain⟨fs,f1,f2,f3⟩:=gen its at'
  exact kat_kind (T:=.type "int") f1 (by omega) f3 (by decide) q'
 ·obtain⟨_,ic,rc,oc,c1,c2,m1,c3,_⟩:=(show ObjOk X.prog X.w H s.heap c (.tup (x.map V.int)) from I.hok c _ hx.1)
  obtain⟨_,id',rd,od,d1,d2,m2,d3,_⟩:=(show ObjOk X.prog X.w H s.heap d (.tup (y.map V.int)) from I.hok d _ hy.1)
  refine kat_lt (k _ _ c1) c3 (k _ _ d1) d3 ?_
  have:=KU (prog:=X.prog) (w:=X.w) (A:=X.A.in1.in1) (s:=s') (b:=true) (Q:=Q') 0 (KQ rc) (KQ rd) q'
  simpa using this
end L2
namespace L3
open PySem PySem.Spec PyProof.Rows L2
noncomputable def Xu:D->(Sl->Prop)->Prop
 | .list ds,Q=>∃rows:List (List Int),ds=rows.map (λr=>.tuple (r.map u0))/\rows.length<=sizeLine/\(∀r∈rows,r≠[])/\∀rows':List (List Int),rows'.Perm rows->rows'.Pairwise (λa b=>HT.lexLt b a=false)->Q (.ow (.list (rows'.map λr=>.tuple (r.map u0))))
 | _,_=>False
theorem DaAll.mem{K:Fg}{F:Hp}:∀{us:List V}{ds:List D},DaAll K F us ds->∀v∈us,∃d∈ds,Da K F v d
 | _,_,.nil,v,h=>by simp at h
 | _,_,.cons a t,v,h=>by
  rcases V0.mp h with rfl|h
  ·exact ⟨_,O0,a⟩
  ·obtain⟨d,h1,h2⟩:=DaAll.mem t v h
   exact ⟨d,K0 _ h1,h2⟩
theorem DaAll.map_of{K:Fg}{F:Hp}{f:V->D}:∀{us:List V},(∀v∈us,Da K F v (f v))->DaAll K F us (us.map f)
 | [],_=>.nil
 | v :: us,h=>.cons (h v O0) (DaAll.map_of λx hx=>h x (K0 _ hx))
theorem DaAll.map_eq{K:Fg}{F:Hp}{α:Type}{g:α->D}{f:V->α}(hg:∀v a,Da K F v (g a)->f v=a):∀{us:List V}{as:List α},DaAll K F us (as.map g)->us.map f=as
 | [],[],_=>rfl
 | _ :: _,[],h=>by cases h
 | [],_ :: _,h=>by cases h
 | v :: us,a :: as,h=>by
  cases h with
  | cons h t=>rw[J3,hg v a h,DaAll.map_eq hg t]
theorem vZ{K:Fg}{F:Hp}{v:V}{r:List Int}(h:Da K F v (.tuple (r.map u0))):∃c,v=.ref c/\F c=some (.tup (r.map V.int)):=by
 cases h with
 | tup h t =>
  have:=t.ints_of
  subst this
  exact ⟨_,rfl,h⟩
theorem Hz{K:Fg}:eX K (TJ K FD iU HT.lexLt) (o1 Xu):=bx λG F σ H ρ x d Q Qd R h1 w k=>by
 cases d<;>first|exact w.elim|skip
 case list ds =>
  obtain⟨rows,e,hz,hne,w⟩:=w
  subst e
  obtain⟨a,us,rfl,e1,d1⟩:=h1.list R.sub
  have hl:=d1.length
  rw[A0]at hl
  have hrep:∀v∈us,∃c r,v=.ref c/\FD F c r/\r∈rows:=λv hv=>by
   obtain⟨d,hd,dv⟩:=d1.mem v hv
   obtain⟨r,hr,rfl⟩:=M0.mp hd
   obtain⟨c,rfl,hc⟩:=vZ dv
   exact ⟨c,r,rfl,⟨hc,hne r hr⟩,hr⟩
  have hfe:∀v∈us,iU H v=iU F v:=λv hv=>by
   obtain⟨c,r,rfl,hc,_⟩:=hrep v hv
   rw[TV F c r hc,TV H c r ⟨R.sub _ _ hc.1,hc.2⟩]
  refine ⟨a,us,rfl,SqL.of e1,by omega,λv hv=>?_,λp us' hp p' o'=>?_⟩
  ·obtain⟨c,r,rfl,hc,_⟩:=hrep v hv
   exact ⟨c,r,rfl,R.sub _ _ hc.1,hc.2⟩
  ·have em:us.map (iU F)=rows:=by
    refine DaAll.map_eq (K:=K) (F:=F) (g:=λr:List Int=>U0 (r.map u0)) (λv a h=>?_) d1
    obtain⟨c,rfl,hc⟩:=vZ h
    show (match F c with|some (.tup xs)=>xs.map qE|_=>[])=a
    rw[hc]
    exact qJ a
   have ee:us'.map (iU H)=us'.map (iU F):=V4 λv hv=>hfe v (p'.mem_iff.mp hv)
   rw[ee]at o'
   have dall:DaAll K F us' ((us'.map (iU F)).map λr=>U0 (r.map u0)):=by
    rw[Q0]
    refine DaAll.map_of λv hv=>?_
    obtain⟨c,r,rfl,hc,_⟩:=hrep v (p'.mem_iff.mp hv)
    show Da K F (.ref c) (.tuple ((iU F (.ref c)).map u0))
    rw[TV F c r hc]
    exact .tup hc.1 (DaAll.ints r)
   obtain⟨R',r'⟩:=R.newOw (o:=.lst us') (d:=.list _) hp dall
   exact k _ _ F _ (Sub.refl _) R' r' (w _ (by rw[<- em];exact p'.map _) o')
theorem LU{X:Cx}{K:Fg}(h:X.K=K):BX X (.builtin "sorted") (TJ K FD iU HT.lexLt):=by subst h;exact XH
end L3
namespace L2
open PySem PySem.Spec PyProof.Rows
noncomputable def uv:V->Hp->VK->Prop:=λx H Q=>∃i:Int,x=.int i/\Q (.int (G5 i:Nat)) H
theorem Qk{X:Cx}{o:Expr}{to:TE}{apos cpos:Pos}(ho:PE X o to)(hbase:attributeBase o "bit_length" X.env (eval o X.env)=eval o X.env:=by rfl)(hline:(apos.endLine==cpos.line)=true:=by rfl) :
  PE X (.Call (.Attribute o "bit_length" apos) [] [] cpos) (yM uv to):=by
 intro pins s σ H Q I h
 refine wpAny_Call_method0_late hbase hline (wX (ho pins s σ H _ I h) λv s1 ⟨x,H1,I1,r1,q1⟩=>?_)
 obtain⟨i,rfl,q⟩:=q1
 obtain⟨t,rfl⟩:=r1
 exact ⟨"int","int.bit_length",PySem.F.plainAttrs_int,PySem.F.slot_int_bit_length,PySem.F.type_int_bit_length,typeIs_int _ _ _,λb eb=>(by cases eb),Calls.callWith_builtin rfl (PySem.evalArgs_none (call_int_bit_length ⟨.int (G5 i:Nat),H1,I1.tok _,⟨_,rfl⟩,q⟩))⟩
end L2
namespace L3
open PySem PySem.Spec PyProof.Rows L2
noncomputable def vv:D->(Sl->Prop)->Prop
 | .int i,Q=>Q (.fz (.int (G5 i:Nat)))
 | _,_=>False
theorem Rk{K:Fg}:eX K (DM uv) (o1 vv):=bx λG F σ H ρ x d Q Qd R h1 w k=>by
 cases d<;>first|exact w.elim|skip
 case int i =>
  cases h1.int
  exact ⟨_,rfl,i,rfl,k _ H F (.fz _) (Sub.refl _) R (Da.int _) w⟩
theorem Yu{X:Cx}{K:Fg}{o:Expr}{a:AD}{apos cpos:Pos}(ho:WE X o (uQ K a))(hbase:attributeBase o "bit_length" X.env (eval o X.env)=eval o X.env:=by rfl)(hline:(apos.endLine==cpos.line)=true:=by rfl) :
  WE X (.Call (.Attribute o "bit_length" apos) [] [] cpos) (lift K (UG [a] (o1 vv))):=⟨fN Rk (Qk ho.h hbase hline)⟩
noncomputable def frz(ρ:Ev):Ev:=ρ.map λx=>x.map λs=>Sl.fz s.d
section
variable {K:Fg}{G:Gh}{F H H':Hp}{σ:L2.St}{ρ:Ev}{a:Addr}{o:HO}{d:D}{v:V}
theorem Rel.nobody(R:Rel K G F σ H ρ)(h:H a=none):∀(i:Nat) (s:Sl),ρ[i]?=some (some s)->OQ s=true->σ[i]?≠some (some (V.ref a)):=λi s e w z=>by
 obtain⟨b,u,g1,g2,g3,g4⟩:=R.ow i s e w
 rw[z]at g1
 cases g1
 rw[h]at g3;cases g3
end
noncomputable def only(a:Addr)(o:HO):Hp:=λb=>if b=a then some o else none
theorem oF{a b:Addr}{o u:HO}(h:only a o b=some u):b=a/\u=o:=by
 unfold only at h
 split at h
 ·rename_i e;exact ⟨e,by cases h;rfl⟩
 ·cases h
section
variable {X:Cx}{K:Fg}{ec:Expr}{p p1 p2 p3 p4 p5 p6 p7 p8 p9 pa pb pc pd pe pf pg ph pi' pj:Pos}{x y a b:Str}{tc:UK}
end
end L3
namespace L2
open PySem PySem.Spec PyProof.Rows
theorem fW{b n:Nat}(k:Nat)(h:b < n):b≠n+k:=by omega
theorem MU:typeLookup (.type "zip") "keys"=pure none:=by rw[typeLookup_type,builtinLookup_eq_fast];kernel_rfl
theorem gW:typeLookup (.type "zip") "__getattr__"=pure none:=by rw[typeLookup_type,builtinLookup_eq_fast];kernel_rfl
theorem OZ:entryFor table "zip.__getattribute__"=some Builtin.«object.__getattribute__»:=entryFor_alias (id':="object.__getattribute__") (by kernel_rfl) (by decide +kernel) (by decide +kernel) (by kernel_rfl)
theorem UW(a:Addr)(fs:Array Value)(sl:Array (Option Value))(u:Tok) :
  Meets (Builtin.«object.__getattribute__» ⟨[.ref a,.str "keys" u],[]⟩) (λA R s=>s.heap.get? a=some { cls:=.type "zip",dict:=none,data:=.fields fs,slots:=sl }/\raisesAttr (.ref a) "keys" A R s):=.of_wp λprog w A R s hs=>by
 obtain⟨hp,g,d,tk,os⟩:=s
 obtain⟨hx,hs⟩:=hs
 have hT:(⟨hp,g,d,tk,os⟩:Shared).TypeIs (.ref a) "zip":=⟨_,hx,rfl⟩
 have hmiss:=MU
 have hname:(["__module__","__name__","__qualname__","__doc__","__annotations__"]:List Str).contains "keys"=false:=by decide +kernel
 unfold Builtin.«object.__getattribute__»
 repeat (any_goals (first|assumption|wp_step))
 all_goals (try simp only[hname,O2,if_false])
 repeat (any_goals (first|assumption|wp_step))
 exact wpAny_raiseAttrError hs.1 hs.2 (attrMsg_fits (by decide +kernel) (by size_fits))
section
variable {prog:Program}{w:World}{A:Around}{E:Value->Shared->Prop}{s:Shared}
theorem VW{a:Addr}{fs:Array Value}{sl:Array (Option Value)}{Q:Option Value->Shared->Prop}(hx:s.heap.get? a=some { cls:=.type "zip",dict:=none,data:=.fields fs,slots:=sl })(hA:A.handled=none)
  (h:∀h' tk,(∀b o,s.heap.get? b=some o->h'.get? b=some o)->Q none { s with heap:=h',toks:=tk }) :
  wpAny (model prog w) A (getAttr? (.ref a) "keys") Q E s:=by
 obtain⟨hp,g,d,tk,os⟩:=s
 have hT:∀tk',(⟨hp,g,d,tk',os⟩:Shared).TypeIs (.ref a) "zip":=λ_=>⟨_,hx,rfl⟩
 have f1:=sub_AttributeError
 have f3:=F.slot_zip_getattribute.lookup
 have f4:=F.slot_zip_getattribute.bind (.ref a)
 have f5:=gW
 unfold getAttr? getAttrBy? getAttrBy
 repeat (any_goals (first|assumption|exact hT _|((with_reducible show wpAny _ _ (call (Value.builtin "zip.__getattribute__") _ _) _ _ _);refine call_meets F.slot_zip_getattribute (hT _) OZ (F.args_zip_getattribute_2 _ _) (UW a fs sl _) ⟨hx,hA,λh' tk' e hx'=>?_⟩)|wp_step))
 obtain⟨t',u',he⟩:=hx'.there
 show wpAny _ _ (getattributeRaised _ _ _ _ _ _ _) _ _ _
 unfold getattributeRaised
 repeat (any_goals (first|assumption|wp_step))
 exact h _ _ hx'.keeps
end
section
variable {prog:Program}{w:World}{A:Around}{R:Result->Shared->Prop}
theorem GD{z TI TO d i1 i2 l1 l2:Addr}{k1 k2:Kd}{xs1 xs2:Array Value}{n:Nat}(hh:A.handled=none)(D:ZAp2 z TI TO i1 i2 l1 l2)(n1:z≠d)(n2:TI≠d)(n3:TO≠d)(n4:i1≠d)(n5:i2≠d)(n6:l1≠d)(n7:l2≠d)
  (hn1:n<=xs1.size) (hn2:n<=xs2.size) (hend:xs1[n]?=none\/xs2[n]?=none) (J:Nat->Heap->Prop)
  (hfr:∀i h h',J i h->(∀b o,b≠z->b≠TO->b≠i1->b≠i2->h.get? b=some o->h'.get? b=some o)->J i h')
  (step:∀(i:Nat) (x y:Value) (s:Shared) (Q:Unit->Shared->Prop) (E:Value->Shared->Prop),i < n->xs1[i]?=some x->xs2[i]?=some y->J i s.heap ->
    (∀h' tk,J (i+1) h'->J2 d s.heap h'->Q () { s with heap:=h',toks:=tk })->wpAny (model prog w) A.in1 (dictSet d x y) Q E s) :
  ∀(k i:Nat) (s:Shared) (tA:Tok),n - i=k->i<=n->ZSt s.heap z TI TO d i1 i2 l1 l2 k1 k2 i->SqAt k1 s.heap l1 xs1->SqAt k2 s.heap l2 xs2->J i s.heap->d < s.heap.objs.size ->
  (∀h' tk,J n h'->R (.ok (.ret .none)) { s with heap:=h',toks:=tk }) ->
  codeAny (model prog w) A (.builtin "dict.update.loop" ⟨[.ref d,.ref z,.int i tA,.none],[]⟩) R s:=by
 intro k
 induction k with
 | zero =>
  intro i s tA hk hi hst q1 q2 hJ hd hR
  have hin:i=n:=by omega
  subst hin
  refine codeAny_builtin oJ ?_
  rw[Around.under_plainId SX _]
  show wpAny _ A.in1 (pyNext (.ref z) >>= _) _ _ s
  refine wpAny_bind (SW (A:=A.in1) hh D hst q1 q2 hend λh' he=>?_)
  show wpAny _ _ (Builtin.Dict.addKeywords d [] >>= _) _ _ _
  exact wpAny_bind (wpAny_pure (wpAny_pure (hR h' s.toks (hfr _ _ _ hJ he))))
 | succ k ih =>
  intro i s tA hk hi hst q1 q2 hJ hd hR
  have hlt:i < n:=by omega
  obtain⟨x,hx⟩:∃p,xs1[i]?=some p:=⟨xs1[i],T2 (by omega)⟩
  obtain⟨y,hy⟩:∃p,xs2[i]?=some p:=⟨xs2[i],T2 (by omega)⟩
  refine codeAny_builtin oJ ?_
  rw[Around.under_plainId SX _]
  show wpAny _ A.in1 (pyNext (.ref z) >>= _) _ _ s
  refine wpAny_bind (TH (S:=d) D hd hst q1 q2 hx hy λh' hst' ht hz hkp=>?_)
  have hJ':=hfr _ _ _ hJ hkp
  show wpAny _ A.in1 (holding [.ref s.heap.objs.size] _ >>= _) _ _ _
  refine wpAny_bind (wpAny_holding ?_)
  refine wpAny_bind (wpAny_tryCatch ?_)
  unfold Builtin.Dict.pairItems
  refine wpAny_bind (wpAny_typeOf (T:="tuple") ⟨_,ht,rfl⟩ ?_)
  rw[if_pos (by decide)]
  refine wpAny_bind (wpAny_seqItems ht rfl (wpAny_pure ?_))
  show wpAny _ A.in1 (holding [x,y] (dictSet d x y)) _ _ _
  refine wpAny_holding (wpAny_mono (step i x y { s with heap:=h' } (λ_ s''=>∃h'' tk',s''={ s with heap:=h'',toks:=tk' }/\J (i+1) h''/\J2 d h' h'') (λ_ _=>False) hlt hx hy hJ' λh'' tk' j sb=>⟨h'',tk',rfl,j,sb⟩) (λ_ s'' z=>?_) λ_ _ z=>z.elim)
  obtain⟨h'',tk',rfl,j,sb⟩:=z
  have kp:∀b o,b≠d->h'.get? b=some o->h''.get? b=some o:=λb o nb e=>(sb.2 b nb).trans e
  refine wpAny_pure ⟨plainId_quiet SX _,?_⟩
  refine ih (i+1) { s with heap:=h'',toks:=tk' } 0 (by omega) hlt (hst'.keep kp n1 n2 n3 n4 n5) (q1.at λo e=>kp _ _ n6 (hkp _ o D.l1z D.l1TO D.l1i1 D.l1i2 e)) (q2.at λo e=>kp _ _ n7 (hkp _ o D.l2z D.l2TO D.l2i1 D.l2i2 e)) j ?_ λh3 tk3 j3=>hR h3 tk3 j3
  have:xQ h'' s.heap.objs.size x y:=kp _ _ (Z1 hd) ht
  exact Nat.lt_trans hd (L0 this)
end
theorem XW{prog:Program}{w:World}{A:Around}{E:Value->Shared->Prop}{s:Shared}{z TI TO i1 i2 l1 l2:Addr}{k1 k2:Kd}{xs1 xs2:Array Value}{n:Nat}{Q:Value->Shared->Prop}(J:Nat->Heap->Prop)(hh:A.handled=none)(D:ZAp2 z TI TO i1 i2 l1 l2)
  (hn1:n<=xs1.size) (hn2:n<=xs2.size) (hend:xs1[n]?=none\/xs2[n]?=none) {a1 a2:Value}
  (hz:IsZip s.heap z TI TO .none) (hTI:xQ s.heap TI (.ref i1) (.ref i2)) (hTO:xQ s.heap TO a1 a2) (h1:ItAt k1 s.heap i1 l1 0) (h2:ItAt k2 s.heap i2 l2 0) (hl1:SqAt k1 s.heap l1 xs1) (hl2:SqAt k2 s.heap l2 xs2) (b1:l1 < s.heap.objs.size) (b2:l2 < s.heap.objs.size)
  (h0:∀h',(∀b ob,s.heap.get? b=some ob->h'.get? b=some ob)->h'.get? s.heap.objs.size=some { cls:=.type "dict",data:=.dict #[] }->J 0 h')
  (hfr:∀i h h',J i h->(∀b o,b≠z->b≠TO->b≠i1->b≠i2->h.get? b=some o->h'.get? b=some o)->J i h')
  (step:∀(i:Nat) (x y:Value) (s':Shared) (Q':Unit->Shared->Prop) (E':Value->Shared->Prop),i < n->xs1[i]?=some x->xs2[i]?=some y->J i s'.heap ->
    (∀h' tk,J (i+1) h'->J2 s.heap.objs.size s'.heap h'->Q' () { s' with heap:=h',toks:=tk })->wpAny (model prog w) A.in1.in1 (dictSet s.heap.objs.size x y) Q' E' s')
  (h:∀h' tk,J n h'->Q (.ref s.heap.objs.size) { s with heap:=h',toks:=tk }) :
  wpAny (model prog w) A (call (.type "dict") [.ref z]) Q E s:=by
 refine callType_codes (Q₁:=λobj s₁=>obj=.ref s.heap.objs.size/\s₁={ s with heap:=s.heap.push { cls:=.type "dict",data:=.dict #[] } }) F.kt_called_dict (F.kt_typeCall_dict_1 _) F.entry_dict_init (kt_code_dict_new _ ⟨rfl,rfl⟩) ?_
 rintro obj s₁ ⟨rfl,rfl⟩
 have hnew:(s.heap.push { cls:=.type "dict",data:=.dict #[] }).get? s.heap.objs.size=some { cls:=.type "dict",data:=.dict #[] }:=G0 _ rfl
 have hkp:∀b ob,s.heap.get? b=some ob->(s.heap.push { cls:=.type "dict",data:=.dict #[] }).get? b=some ob:=λb ob e=>j0 _ e
 refine ⟨⟨_,hnew,rfl⟩,F.args_dict_init_2 _ _,?_⟩
 unfold Builtin.«dict.__init__»
 refine wpAny_bind ?_
 unfold Builtin.Dict.selfAndRest
 refine wpAny_bind (wpAny_notOrdered_dict ⟨_,hnew,rfl⟩ ?_)
 show wpAny _ _ (pure (s.heap.objs.size,[U1 z])) _ _ _
 refine wpAny_pure ?_
 show wpAny _ _ (P8 "dict.__init__" s.heap.objs.size (.ref z) [] .none) _ _ _
 unfold P8
 refine wpAny_bind (wpAny_typeOf (T:="zip") ⟨_,hkp _ _ hz,rfl⟩ ?_)
 rw[if_pos (by decide)]
 refine wpAny_bind (VW (hkp _ _ hz) hh λh1' tk1 kk1=>?_)
 simp only[M9,if_true]
 refine wpAny_bind (wpAny_rule ?_)
 refine wpAny_bind (wpAny_pyIter_zip (s:={ s with heap:=h1',toks:=tk1 }) (kk1 _ _ (hkp _ _ hz)) ?_)
 have kp:∀b ob,s.heap.get? b=some ob->h1'.get? b=some ob:=λb ob e=>kk1 b ob (hkp b ob e)
 obtain⟨o1,g1,_⟩:=h1.obj
 obtain⟨o2,g2,_⟩:=h2.obj
 have hlt:s.heap.objs.size < h1'.objs.size:=L0 (kk1 _ _ hnew)
 refine wpAny_pure ⟨plainId_quiet SX _,GD (A:=A.in1) hh D (W0 (L0 hz)) (W0 (L0 hTI)) (W0 (L0 hTO)) (W0 (L0 g1)) (W0 (L0 g2)) (W0 b1) (W0 b2) hn1 hn2 hend J hfr step n 0 _ 0 rfl (Q3 _)
   ⟨kp _ _ hTI,h1.at λo e=>kp _ _ e,h2.at λo e=>kp _ _ e,.inl ⟨kp _ _ hz,a1,a2,kp _ _ hTO⟩⟩ (hl1.at λo e=>kp _ _ e) (hl2.at λo e=>kp _ _ e) (h0 h1' kp (kk1 _ _ hnew)) hlt λh' tk j=>⟨rfl,h h' tk j⟩⟩
end L2
namespace L3
open PySem PySem.Spec PyProof.Rows L2
section
variable {X:Cx}{K:Fg}{e e1 e2:Expr}{a b:AD}{p pos pos' p2:Pos}
end
end L3
namespace L2
open PySem PySem.Spec PyProof.Rows
end L2
namespace L3
open PySem PySem.Spec PyProof.Rows L2
theorem FQ{t u:DJ}{E:DE}{ρ:Ev}(J:Ev->Prop)(h1:∀N:Ev->Prop,(∀ρ',J ρ'->N ρ')->t { nx:=N,rt:=E.rt,bk:=E.bk,ct:=E.ct } ρ)(h2:∀ρ',J ρ'->u E ρ'):Rx t u E ρ:=h1 _ h2
theorem xv{i:Nat}{d:D}{ρ:Ev}{Q:Ev->Prop}(h:PC i d ρ Q=Q (ρ.set i (some (.fz d))))(w:Q (ρ.set i (some (.fz d)))):PC i d ρ Q:=by rw[h];exact w
end L3
namespace L2
open PySem
noncomputable def jU(xs:Array Nat):Prop:=∀a b,a < b->b < xs.size->∀d,xs.getD a d < xs.getD b d
theorem pF{xs:Array Nat}{i d d':Nat}(h:i < xs.size):xs.getD i d=xs.getD i d':=by
 simp[X6,h]
theorem UV(xs:Array Nat)(j:Nat)(R:jU xs):∀(fuel lo hi:Nat),hi - lo<=fuel->lo<=hi->hi<=xs.size->(∀i,i < lo->xs.getD i j < j)->(∀i,hi<=i->i < xs.size->¬xs.getD i j < j) ->
  SetTable.below.go xs j fuel lo hi<=xs.size/\(∀i,i < SetTable.below.go xs j fuel lo hi->xs.getD i j < j)/\∀i,SetTable.below.go xs j fuel lo hi<=i->i < xs.size->¬xs.getD i j < j
 | 0,lo,hi,hf,hl,hh,h1,h2=>by
  have:lo=hi:=by omega
  subst this
  exact ⟨hh,h1,h2⟩
 | fuel+1,lo,hi,hf,hl,hh,h1,h2=>by
  unfold SetTable.below.go
  by_cases hlt:lo < hi
  ·rw[if_pos hlt]
   dsimp only
   by_cases hm:xs.getD ((lo+hi) / 2) j < j
   ·rw[if_pos hm]
    refine UV xs j R fuel _ hi (by omega) (by omega) hh (λi hi'=>?_) h2
    by_cases e:i=(lo+hi) / 2
    ·rw[e];exact hm
    ·have:=R i ((lo+hi) / 2) (by omega) (by omega) j
     omega
   ·rw[if_neg hm]
    refine UV xs j R fuel lo _ (by omega) (by omega) (by omega) h1 (λi hi' hs=>?_)
    by_cases e:i=(lo+hi) / 2
    ·rw[e];exact hm
    ·have:=R ((lo+hi) / 2) i (by omega) hs j
     omega
  ·rw[if_neg hlt]
   have:lo=hi:=by omega
   subst this
   exact ⟨hh,h1,h2⟩
theorem UJ{xs:Array Nat}(R:jU xs)(j:Nat):SetTable.below xs j<=xs.size/\(∀i,i < SetTable.below xs j->xs.getD i j < j)/\∀i,SetTable.below xs j<=i->i < xs.size->¬xs.getD i j < j :=
 UV xs j R xs.size 0 xs.size (by omega) (Q3 _) (R0 _) (λi h=>absurd h (b9 _)) (λi h1 h2=>absurd h2 (by omega))
theorem YH{xs:Array Nat}(R:jU xs){i:Nat}(h:i < xs.size):SetTable.below xs (xs.getD i 0+1)=i+1:=by
 obtain⟨h1,h2,h3⟩:=UJ R (xs.getD i 0+1)
 have a1:¬SetTable.below xs (xs.getD i 0+1)<=i:=λz=>by
  have:=h3 i z h
  rw[pF (d':=0) h]at this
  omega
 by_cases z:i+1 < SetTable.below xs (xs.getD i 0+1)
 ·have b1:=h2 (i+1) z
  have b2:=R i (i+1) (by omega) (by omega) 0
  rw[pF (d':=0) (by omega)]at b1
  omega
 ·omega
theorem ZH{xs:Array Nat}(R:jU xs):SetTable.below xs 0=0:=by
 obtain⟨h1,h2,h3⟩:=UJ R 0
 by_cases z:0 < SetTable.below xs 0
 ·exact absurd (h2 0 z) (b9 _)
 ·omega
theorem ris_iff{xs:Array Nat}:jU xs ↔ xs.toList.Pairwise (· < ·):=by
 rw[S2]
 constructor
 ·intro R i j hi hj hij
  have:=R i j hij (by simpa using hj) 0
  simpa [X6,show i < xs.size by simpa using hi,show j < xs.size by simpa using hj]using this
 ·intro P a b hab hb d
  have ha:a < xs.size:=by omega
  have:=P a b (by simpa using ha) (by simpa using hb) hab
  simpa [X6,ha,hb]using this
theorem aG{xs:Array Nat}(R:jU xs){j:Nat}(hj:xs[SetTable.below xs j]?≠some j):jU (SetTable.insertAt xs (SetTable.below xs j) j):=by
 obtain⟨h1,h2,h3⟩:=UJ R j
 have P:=ris_iff.mp R
 rw[ris_iff,SetTable.toList_insertAt]
 have e:xs.toList.take (SetTable.below xs j)++xs.toList.drop (SetTable.below xs j)=xs.toList:=B4 _ _
 rw[<- e,j5]at P
 obtain⟨p1,p2,p3⟩:=P
 have lo:∀a∈xs.toList.take (SetTable.below xs j),a < j:=λa ha=>by
  obtain⟨i,hi,rfl⟩:=e6.mp ha
  rw[Z3]at hi
  have:=h2 i (by omega)
  rw[y8]
  simpa [X6,show i < xs.size by simp at hi;omega]using this
 have hi':∀a∈xs.toList.drop (SetTable.below xs j),j < a:=λa ha=>by
  obtain⟨i,hi,rfl⟩:=e6.mp ha
  rw[J7]at hi
  have hs:SetTable.below xs j+i < xs.size:=by simp at hi;omega
  have:=h3 (SetTable.below xs j+i) (by omega) hs
  rw[x8]
  have g:xs.getD (SetTable.below xs j+i) j=xs.toList[SetTable.below xs j+i]'(by simpa using hs):=by simp[X6,hs]
  rw[g]at this
  by_cases z:xs.toList[SetTable.below xs j+i]'(by simpa using hs)=j
  ·exfalso
   by_cases i0:i=0
   ·subst i0
    apply hj
    rw[T2 (by simpa using hs)]
    simpa using z
   ·have r:=R (SetTable.below xs j) (SetTable.below xs j+i) (by omega) hs j
    have:=h3 (SetTable.below xs j) (R0 _) (by omega)
    rw[g,z]at r
    exact this r
  ·omega
 rw[j5]
 refine ⟨p1,X3.mpr ⟨hi',p2⟩,λa ha b hb=>?_⟩
 rcases V0.mp hb with rfl|hb
 ·exact lo a ha
 ·exact p3 a ha b hb
noncomputable def NL(t:SetTable)(j:Nat):Prop:=t.place[SetTable.below t.place j]?≠some j
theorem qF{t:SetTable}{j:Nat}(h:∀i,t.slot j≠.live i):NL t j:=λz=>by
 unfold SetTable.slot at h
 dsimp only at h
 rw[if_pos (by rw[z];simp)]at h
 exact h _ rfl
theorem FJ(t:SetTable)(p:SetTable.Probe):(t.advance p).dummy=p.dummy:=by
 unfold SetTable.advance
 split<;>rfl
theorem hW(t:SetTable)(ha:Nat->Int)(h:Int):∀(fuel:Nat) (p:SetTable.Probe),(∀d,p.dummy=some d->NL t d)->∀j dm,SetTable.probe.go t ha h fuel p=some (.empty j dm)->NL t j/\∀d,dm=some d->NL t d
 | 0,p,_,j,dm,e=>by cases e
 | fuel+1,p,hp,j,dm,e=>by
  unfold SetTable.probe.go at e
  cases hs:t.slot p.j with
  | empty =>
   rw[hs]at e
   cases e
   exact ⟨qF (λi z=>by rw[hs]at z;cases z),hp⟩
  | dummy =>
   rw[hs]at e
   refine hW t ha h fuel _ (λd hd=>?_) j dm e
   rw[FJ]at hd
   cases hd
   exact qF λi z=>by rw[hs]at z;cases z
  | live i =>
   rw[hs]at e
   dsimp only at e
   split at e
   ·cases e
   ·exact hW t ha h fuel _ (λd hd=>by rw[FJ]at hd;exact hp d hd) j dm e
theorem Sk{t:SetTable}{h:Int}{j:Nat}{wd:Bool}(e:t.freeSlot h=some (j,wd)):NL t j:=by
 unfold SetTable.freeSlot at e
 split at e
 ·rename_i j' dm hp
  have:=hW t _ h _ _ (λd hd=>by cases hd) j' dm hp
  cases e
  cases dm with
  | none=>exact this.1
  | some d=>exact this.2 d rfl
 ·cases e
theorem rZ(t:SetTable)(n:Nat):jU (t.standIn n).place:=by
 show jU (Array.range n)
 rw[ris_iff,Array.toList_range]
 exact X8
theorem YW{t:SetTable}{n:Nat}(R:jU t.place):jU (t.orStandIn n).place:=by
 unfold SetTable.orStandIn
 split
 ·exact R
 ·exact rZ t n
theorem bG{t:SetTable}{es:Array (Int×Value)}{h:Int}{x:Value}(R:jU t.place):jU (layNew t es h x).2.1.place:=by
 unfold layNew
 cases e:t.freeSlot h with
 | none=>exact rZ t _
 | some p =>
  obtain⟨j,wd⟩:=p
  exact YW (aG R (Sk e))
theorem Iz{mask finger moves:Nat}{led plain:Bool}{hs:Array Int}{t:SetTable}{o:Array Nat}(e:SetTable.laid mask finger moves led plain hs=some (t,o)):jU t.place:=by
 unfold SetTable.laid at e
 cases ho:SetTable.layClean mask hs with
 | none=>rw[ho]at e;cases e
 | some owner =>
  rw[ho]at e
  cases e
  rw[ris_iff]
  dsimp only
  have gen:∀(g:Nat->Option Nat) (l:List Nat),(l.filterMap λj=>(g j).map (j,·)).map (·.1)=l.filter λj=>(g j).isSome:=by
   intro g l
   induction l with
   | nil=>rfl
   | cons a l ih =>
    cases hg:g a with
    | none=>simp[hg,ih]
    | some b=>simp[hg,ih]
  rw[gen]
  exact List.Pairwise.sublist List.filter_sublist X8
theorem WV{t:SetTable}{es:Array (Int×Value)}{wanted:Nat}:jU (relayAll t es wanted).2.1.place:=by
 unfold relayAll
 cases e:t.relaid (es.map (·.1)) wanted with
 | none=>exact rZ t _
 | some p =>
  obtain⟨t',o⟩:=p
  dsimp only
  split
  ·exact Iz e
  ·exact rZ t _
theorem cG(t:SetTable)(es:Array (Int×Value))(h:Int)(x:Value):(layNew t es h x).2.1.led=t.led:=by
 unfold layNew
 cases e:t.freeSlot h with
 | none=>rfl
 | some p =>
  obtain⟨j,wd⟩:=p
  show (SetTable.orStandIn _ _).led=t.led
  unfold SetTable.orStandIn
  split<;>rfl
theorem XV(t:SetTable)(es:Array (Int×Value))(wanted:Nat):(relayAll t es wanted).2.1.led=t.led:=by
 unfold relayAll
 cases e:t.relaid (es.map (·.1)) wanted with
 | none=>rfl
 | some p =>
  obtain⟨t',o⟩:=p
  dsimp only
  split
  ·show t'.led=t.led
   unfold SetTable.relaid SetTable.laid at e
   cases ho:SetTable.layClean (SetTable.sizeAbove wanted - 1) (es.map (·.1)) with
   | none=>rw[ho]at e;cases e
   | some owner=>rw[ho]at e;cases e;rfl
  ·rfl
open PySem PySem.Spec PyProof.Rows
noncomputable def sX:Value->Int
 | .int n _=>n
 | _=>0
noncomputable def IS(P:Program)(w:World)(ld:Bool)(h:Heap)(a:Addr)(σ:List Int):Prop :=
 ∃o es ep t,h.get? a=some o/\o.ExactSet/\o.data=.set es ep t/\ElemsOf (intKind P w) es.toList/\(es.toList.map λe=>sX e.2).Perm σ/\es.size < scanBound/\t.fits es.size=true/\jU t.place/\t.led=ld
section
variable {P:Program}{w:World}{A:Around}{E:Value->Shared->Prop}{s:Shared}{a:Addr}{σ:List Int}{ld:Bool}
theorem NU{l:List (Int×Value)}(h:ElemsOf (intKind P w) l){e:Int×Value}(he:e∈l):∃tk,e.2=.int (sX e.2) tk:=by
 obtain⟨⟨k,hk,_⟩,_⟩:=h e he
 obtain⟨tk,z⟩:=t8 hk
 rw[z]
 exact ⟨tk,rfl⟩
theorem HD{l:List (Int×Value)}{k:Int}(hl:ElemsOf (intKind P w) l)(hp:(l.map λe=>sX e.2).Perm σ)(hf:l.findIdx? (λe=>(intKind P w).is k e.2)=none):σ.any (·==k)=false:=by
 rw[u5]
 intro z
 obtain⟨m,hm,hk⟩:=M7.mp z
 obtain rfl:m=k:=by simpa using hk
 obtain⟨e,he,rfl⟩:=M0.mp (hp.mem_iff.mpr hm)
 have:=List.findIdx?_eq_none_iff.mp hf e he
 obtain⟨tk,q⟩:=NU hl he
 rw[q]at this
 rw[show sX (E7 (sX e.2) tk)=sX e.2 from rfl,intKind_is]at this
 cases this
theorem ID{l:List (Int×Value)}{k:Int}{j:Nat}(hp:(l.map λe=>sX e.2).Perm σ)(hf:l.findIdx? (λe=>(intKind P w).is k e.2)=some j):σ.any (·==k)=true:=by
 obtain⟨hj,hk,_⟩:=List.findIdx?_eq_some_iff_getElem.mp hf
 obtain⟨tk,q⟩:=t8 hk
 refine M7.mpr ⟨k,hp.mem_iff.mp (M0.mpr ⟨_,P3 hj,?_⟩),by simp⟩
 rw[q];rfl
theorem OU{h:Heap}{o:Obj}{es:Array (Int×Value)}{ep:Nat}{t:SetTable}(q1:h.get? a=some o)(q2:o.ExactSet)(q3:o.data=.set es ep t){fs:Array (Int×Value)}{u:SetTable}{τ:List Int}
  (r1:ElemsOf (intKind P w) fs.toList) (r2:(fs.toList.map λe=>sX e.2).Perm τ) (r3:fs.size < scanBound) (r4:u.fits fs.size=true) (r5:jU u.place) (r6:u.led=ld) :
  (h.update a (Obj.putSet fs u)).get? a=some { o with data:=.set fs (ep+1) u }/\IS P w ld (h.update a (Obj.putSet fs u)) a τ:=by
 have g:=(SetOf_store (knd:=intKind P w) (S':=λk=>decide (∃e∈fs.toList,(intKind P w).is k e.2=true)) q1 q2 q3 r1 (λk=>by rw[decide_eq_true_eq]) r3 r4).1
 exact ⟨g,_,fs,ep+1,u,g,q2,rfl,r1,r2,r3,r4,r5,r6⟩
end
section
variable {P:Program}{w:World}{A:Around}{E:Value->Shared->Prop}{s:Shared}{a:Addr}{σ:List Int}{ld:Bool}
theorem iW(b:Bool){s₁:Shared}{R:Unit->Shared->Prop}(r:R () s₁):wpAny (model P w) A (match b with|true=>rule "set.scan.the-table-gave-way" | false=>pure ()) R E s₁:=by
 cases b
 ·exact wpAny_pure r
 ·exact wpAny_rule r
theorem rF{g:Bool->Sem Unit}(hg:∀(b:Bool) (s₁:Shared) (R:Unit->Shared->Prop),R () s₁->wpAny (model P w) A (g b) R E s₁){o:Obj}{es:Array (Int×Value)}{ep:Nat}{t:SetTable}
  (q1:s.heap.get? a=some o) (q2:o.ExactSet) (q3:o.data=.set es ep t) {fs:Array (Int×Value)}{u:SetTable}{τ:List Int} (r1:ElemsOf (intKind P w) fs.toList) (r2:(fs.toList.map λe=>sX e.2).Perm τ)
  (r3:fs.size < scanBound) (r4:u.fits fs.size=true) (r5:jU u.place) (r6:u.led=ld) {wd:Bool}{R:Option Bool->Shared->Prop} (k:∀h',J2 a s.heap h'->IS P w ld h' a τ->R (some true) { s with heap:=h' }) :
  wpAny (model P w) A (do
    storeSet a fs u
    if (!wd&&u.tooFull)=true then do
      g (relayAll u fs (SetTable.grown fs.size)).2.2
      storeSet a (relayAll u fs (SetTable.grown fs.size)).1 (relayAll u fs (SetTable.grown fs.size)).2.1
      pure (some true)
    else pure (some true)) R E s:=by
 obtain⟨g1,g2⟩:=OU q1 q2 q3 r1 r2 r3 r4 r5 r6
 have sb:=U2 s.heap a (Obj.putSet fs u)
 refine wpAny_bind (wpAny_storeSet_of q1 q3 ?_ (fits_of_scanBound r3))
 by_cases hb:(!wd&&u.tooFull)=true
 ·rw[if_pos hb]
  have pm:=relayAll_perm u fs (SetTable.grown fs.size)
  have ft:=relayAll_fits u fs (SetTable.grown fs.size)
  have rs:=WV (t:=u) (es:=fs) (wanted:=SetTable.grown fs.size)
  have lr:=XV u fs (SetTable.grown fs.size)
  revert pm ft rs lr
  generalize relayAll u fs (SetTable.grown fs.size)=L
  intro pm ft rs lr
  have sz:L.1.size=fs.size:=by have:=pm.length_eq;simpa using this
  refine wpAny_bind (hg _ _ _ ?_)
  refine wpAny_bind (wpAny_storeSet_of g1 rfl ?_ (fits_of_scanBound (by rw[sz];exact r3)))
  obtain⟨_,z⟩:=OU (P:=P) (w:=w) g1 q2 rfl (r1.perm pm) ((pm.map _).trans r2) (by rw[sz];exact r3) ft rs (lr.trans r6)
  exact wpAny_pure (k _ (sb.trans (U2 _ a _)) z)
 ·rw[if_neg hb]
  exact wpAny_pure (k _ sb g2)
theorem Zu{k:Int}{tk:Tok}{Q:Bool->Shared->Prop}(hS:IS P w ld s.heap a σ)(hroom:σ.length+1 < scanBound)(hQ:∀h' b,J2 a s.heap h'->IS P w ld h' a (step_dedup σ k)->Q b { s with heap:=h' }) :
  wpAny (model P w) A (setAddHashed a (.int k tk) ((intKind P w).hash k)) Q E s:=by
 have hS0:=hS
 obtain⟨o,es,ep,t,q1,q2,q3,q4,q5,q6,q7,q8,q9⟩:=hS
 have hsz:es.size=σ.length:=by have:=q5.length_eq;simpa using this
 unfold setAddHashed setAddHashedIn
 refine wpAny_holding (wpAny_bind (wpAny_setState_of q1 q3 q7 ?_))
 dsimp only
 rw[byScan_of (knd:=intKind P w) (x:=.int k tk) rfl q6 q4]
 simp only[↓reduceIte]
 unfold setAddByScan
 refine wpAny_bind (wpAny_bind (wpAny_rule ?_))
 refine wpAny_bind (wpAny_setScan_of (knd:=intKind P w) (intKind_is P w k tk) q1 q3 q7 q4 ?_)
 cases hr:es.toList.findIdx? (λe=>(intKind P w).is k e.2) with
 | some j =>
  dsimp only
  refine wpAny_pure (wpAny_pure ?_)
  have e:step_dedup σ k=σ:=by unfold step_dedup;rw[if_pos (ID q5 hr)]
  have z:=hQ s.heap false (J2.refl a s.heap) (by rw[e];exact hS0)
  cases s
  exact z
 | none =>
  dsimp only
  have e:step_dedup σ k=σ++[k]:=by unfold step_dedup;rw[HD q4 q5 hr];rfl
  rw[e]at hQ
  have pm:=layNew_perm t es ((intKind P w).hash k) (.int k tk)
  have ft:=layNew_fits t es ((intKind P w).hash k) (.int k tk)
  have rs:=bG (es:=es) (h:=(intKind P w).hash k) (x:=.int k tk) q8
  have lr:=(cG t es ((intKind P w).hash k) (.int k tk)).trans q9
  revert pm ft rs lr
  generalize layNew t es ((intKind P w).hash k) (.int k tk)=L
  intro pm ft rs lr
  obtain⟨fs,u,wd,gv⟩:=L
  dsimp only at pm ft rs lr ⊢
  rw[K6]at pm
  have r1:ElemsOf (intKind P w) fs.toList:=(q4.push (intKind_is P w k tk) rfl).perm pm
  have r2:(fs.toList.map λe=>sX e.2).Perm (σ++[k]):=(pm.map _).trans (by rw[W4];exact q5.append_right _)
  have r3:fs.size < scanBound:=by have:=r2.length_eq;simp at this;omega
  refine wpAny_bind (iW _ ?_)
  by_cases hp:u.plain=true
  ·rw[if_pos hp,hashByValue_scannable 8 rfl]
   refine wpAny_bind (wpAny_pure ?_)
   refine rF (λb s₁ R r=>iW b r) q1 q2 q3 r1 r2 r3 ?_ ?_ ?_ λh' sb z=>wpAny_pure (hQ h' _ sb z)
   ·split
    ·exact ft
    ·exact SetTable.fits_plain_off ft
   ·split
    ·exact rs
    ·exact rs
   ·split
    ·exact lr
    ·exact lr
  ·rw[if_neg hp]
   refine wpAny_bind (wpAny_pure ?_)
   simp only[↓reduceIte]
   exact rF (λb s₁ R r=>iW b r) q1 q2 q3 r1 r2 r3 ft rs lr λh' sb z=>wpAny_pure (hQ h' _ sb z)
end
theorem IS.keeps{P:Program}{w:World}{ld:Bool}{h h':Heap}{a:Addr}{σ:List Int}(x:IS P w ld h a σ)(k:∀o,h.get? a=some o->h'.get? a=some o):IS P w ld h' a σ:=by
 obtain⟨o,es,ep,t,q1,r⟩:=x
 exact ⟨o,es,ep,t,k o q1,r⟩
section
variable {P:Program}{w:World}{A:Around}{R:Result->Shared->Prop}{I:Addr}{fp wr:List Addr}{G:Array GenState->Array GenState->Prop}{n:Nat}{Pv:Nat->Value->Prop}{St:Nat->Shared->Prop}{ld:Bool}
theorem Tk(W:WalksS P w A.in1 I fp wr G n Pv St){S:Addr}(nS:S∉fp){val:Nat->Int}(hv:∀i v,Pv i v->∃tk,v=.int (val i) tk)(hb:n+1 < scanBound) :
  ∀(m i:Nat) (s:Shared),i+m=n->St i s->IS P w ld s.heap S (firstMet val i)->(∀s',Moved (S :: wr) G s s'->IS P w ld s'.heap S (firstMet val n)->R (.ok (.ret .none)) s') ->
   codeAny (model P w) A (.builtin "set.update.loop" ⟨[.ref S,.ref I],[]⟩) R s:=by
 have nw:S∉wr:=λz=>nS (W.sub _ z)
 have up:∀b∈wr,b∈S :: wr:=λb z=>K0 _ z
 intro m
 induction m with
 | zero =>
  intro i s e st x k
  obtain rfl:i=n:=by omega
  refine codeAny_builtin F.entry_set_update_loop ?_;rw[Around.under_plainId F.plain_set_update_loop _];show wpAny _ A.in1 (pyNext (.ref I) >>= _) _ _ s
  refine wpAny_bind (W.done s _ _ st λs' mv=>?_)
  show wpAny _ A.in1 (ret A3) _ _ s'
  exact wpAny_pure (k s' (mv.mono up) (x.keeps λo q=>mv.heap S o nw q))
 | succ m ih =>
  intro i s e st x k
  refine codeAny_builtin F.entry_set_update_loop ?_;rw[Around.under_plainId F.plain_set_update_loop _];show wpAny _ A.in1 (pyNext (.ref I) >>= _) _ _ s
  refine wpAny_bind (W.item i s _ _ (by omega) st λv s1 hp st1 mv=>?_)
  obtain⟨tk,rfl⟩:=hv i v hp
  have x1:IS P w ld s1.heap S (firstMet val i):=x.keeps λo q=>mv.heap S o nw q
  show wpAny _ A.in1 (holding [E7 (val i) tk] (setAdd S (.int (val i) tk)) >>= _) _ _ s1
  refine wpAny_bind (wpAny_holding ?_)
  unfold setAdd
  refine wpAny_holding (wpAny_bind ((intKind P w).pyHash (k:=val i) (intKind_is _ _ _ _) ?_))
  have rm:(firstMet val i).length+1 < scanBound:=by have:=firstMet_length_le val i;omega
  refine Zu (s:={ s1 with toks:=s1.toks+1 }) x1 rm λh' b sb x2=>?_
  rw[<- firstMet_succ]at x2
  have oth:∀b o,b≠S->s1.heap.get? b=some o->h'.get? b=some o:=λb o nb q=>(sb.2 b nb).trans q
  refine wpAny_pure ⟨plainId_quiet F.plain_set_update_loop _,ih (i+1) _ (by omega) (W.frame _ s1 h' _ st1 (U5 _) λb z o q=>oth b o (λy=>nS (y ▸ z)) q) x2 λs2 mv2 x3=>?_⟩
  exact k s2 (((mv.mono up).then_heap (U5 _) λb o nb q=>oth b o (λy=>nb (y ▸ O0)) q).trans W.gtrans mv2) x3
end
noncomputable abbrev MK(led:Bool):Obj:={ cls:=.type "set",dict:=none,data:=.set #[] 0 (.fresh 0 0 led) }
theorem Z9{P:Program}{w:World}{h:Heap}{a:Addr}{led:Bool}(e:h.get? a=some (MK led)):IS P w led h a [] :=
 ⟨_,#[],0,_,e,⟨rfl,rfl,rfl⟩,rfl,(λx z=>by simp at z),List.Perm.refl _,by decide,rfl,λa b _ z=>absurd z (b9 _),rfl⟩
section
variable {P:Program}{w:World}{A:Around}{E:Value->Shared->Prop}{s:Shared}
theorem Uk{led:Bool}{l:Addr}{items:Array Value}{ns:List Int}{Q:Value->Shared->Prop}(hh:A.handled=none)(hl:s.heap.IsList l items)(hi:IntsAre items.toList ns)(hb:items.size+1 < scanBound)
  (k:∀h' tk,IS P w led h' s.heap.objs.size (firstMet (λi=>ns.getD i 0) items.size)->(∀b o,b < s.heap.objs.size->s.heap.get? b=some o->h'.get? b=some o)->Q .none { s with heap:=h',toks:=tk }) :
  codeAny (model P w) A (.call (.builtin "set.__init__") ⟨[.ref s.heap.objs.size,.ref l],[]⟩) (wants Q E) { s with heap:=s.heap.push (MK led) }:=by
 have e0:(s.heap.push (MK led)).get? s.heap.objs.size=some (MK led):=G0 _ rfl
 refine codeAny_call_builtin F.called_set.init.plain F.entry_set_init (check_set_init_1 ⟨_,e0,rfl⟩ ?_)
 have hl1:(s.heap.push (MK led)).IsList l items:=hl.push _
 have hlS:l < s.heap.objs.size:=by obtain⟨ol,q,_⟩:=hl;exact L0 q
 have z1:=F.sub_list_set
 have z2:=F.sub_list_frozenset
 have z3:(W6 "list"==W6 "dict")=false:=by decide
 have hl2:=hl1
 obtain⟨⟨oc,odc,odt,osl⟩,q1,q2,nl,q3⟩:=hl2
 obtain rfl:oc=.type "list":=q2
 obtain rfl:odt=.seq items nl:=q3
 unfold Builtin.«set.__init__» noKeywords Builtin.Frozenset.updateFrom
 generalize hPI:pyIter=PI
 wp_walk
 subst hPI
 refine wpAny_pyIter_list hl1 ?_
 refine wpAny_bind (wpAny_runValue ?_)
 have sz:(s.heap.push (MK led)).objs.size=s.heap.objs.size+1:=O1 ..
 have n1:l≠(s.heap.push (MK led)).objs.size:=W0 (by rw[sz];exact S3 hlS)
 have n2:s.heap.objs.size∉[(s.heap.push (MK led)).objs.size,l]:=by
  rw[sz]
  simp only[V0,j4,or_false,not_or]
  exact ⟨W0 (t6 _),Z1 hlS⟩
 have vi:∀(i:Nat) (v:Value),items[i]?=some v->∃tk,v=.int ((λi=>ns.getD i 0) i) tk:=λi v hv=>IntsAre.int_at hi i v (by rw[Q2];exact hv)
 refine Tk (ld:=led) ((Walks.list (by simp[hh]) _ l n1 items).toS) n2 vi hb items.size 0 _ (S8 _) ⟨⟨_,G0 _ rfl,rfl,rfl⟩,hl1.push _⟩ ?x ?y
 case x =>
  rw[firstMet_zero]
  exact Z9 (j0 _ e0)
 case y =>
  intro s' mv x
  obtain⟨h',g',d',tk',os'⟩:=s'
  obtain rfl:g'=s.gens:=mv.gens
  obtain rfl:d'=s.drawn:=mv.drawn
  obtain rfl:os'=s.os:=mv.os
  show wpAny _ _ _ _ _ _
  refine wpAny_pure ?_
  show wpAny _ _ (ret A3) _ _ _
  refine wpAny_pure (k h' tk' x λb o lb q=>mv.heap b o ?_ (j0 _ (j0 _ q)))
  rw[sz]
  simp only[V0,j4,or_false,not_or]
  exact ⟨W0 lb,W0 (S3 lb)⟩
theorem aB(a:Value){Q:Value->Shared->Prop}(k:Q (.ref s.heap.objs.size) { s with heap:=s.heap.push (MK (!w.params.followText "set-order")) }) :
  codeAny (model P w) A (.call (.builtin "set.__new__") ⟨[.type "set",a],[]⟩) (wants Q E) s:=by
 refine codeAny_of_tree ?_
 show wpAny _ A.in1 (do checkBuiltinCall "set.__new__" ⟨[.type "set",a],[]⟩;again (.builtin "set.__new__" ⟨[.type "set",a],[]⟩)) _ _ s
 refine wpAny_bind (wpAny_of_eq (F.newCall_set_1 a) (wpAny_pure ⟨plainId_quiet F.plain_set_new _,codeAny_builtin F.entry_set_new ?_⟩));rw[Around.under_plainId F.plain_set_new _]
 unfold Builtin.«set.__new__» Builtin.Frozenset.newClass
 have y:=sub_set_self
 cases s
 dsimp only
 wp_walk
 refine wpAny_askSetting (wpAny_pure ?_)
 dsimp only
 simp only[newObj]
 exact wpAny_bind (wpAny_alloc (wpAny_pure (wpAny_pure k)))
theorem PU{l:Addr}{items:Array Value}{ns:List Int}{Q:Value->Shared->Prop}(hh:A.handled=none)(hl:s.heap.IsList l items)(hi:IntsAre items.toList ns)(hb:items.size+1 < scanBound)
  (k:∀h' tk,IS P w (!w.params.followText "set-order") h' s.heap.objs.size (firstMet (λi=>ns.getD i 0) items.size)->(∀b o,b < s.heap.objs.size->s.heap.get? b=some o->h'.get? b=some o)->Q (.ref s.heap.objs.size) { s with heap:=h',toks:=tk }) :
  wpAny (model P w) A (call (.type "set") [.ref l]) Q E s:=by
 obtain⟨c,tl,y1⟩:=F.called_set.mro
 have y2:=F.called_set.made
 have y3:=F.called_set.sub
 have y4:=F.called_set.notType
 have y5:=F.called_set.canCreate
 have y6:=F.typeCall_set_1 (.ref l)
 refine wpAny_call (codeAny_of_tree ?_)
 show wpAny _ _ (callAny (.type "set") _) _ _ _
 refine wpAny_pure ⟨Code.quiet_builtin _ (by decide +kernel),codeAny_builtin F.entry_type_call ?_⟩
 rw[Around.under_plain (weight_type_call_type "set" [.ref l] []) rfl]
 repeat (any_goals (first|assumption|wp_step))
 refine codeAny_mono (aB (.ref l) (E:=E) (Q:=λv s1=>v=.ref s.heap.objs.size/\s1={ s with heap:=s.heap.push (MK (!w.params.followText "set-order")) }) ⟨rfl,rfl⟩) λr s1 hr=>?_
 match r,hr with
 | .error e,hr=>exact hr
 | .ok (.ret v),⟨e1,e2⟩ =>
  subst e1
  subst e2
  generalize hld:(!w.params.followText "set-order")=led at *
  have e0:(s.heap.push (MK led)).get? s.heap.objs.size=some (MK led):=G0 _ rfl
  have T:Shared.TypeIs { s with heap:=s.heap.push (MK led) } (.ref s.heap.objs.size) "set":=⟨_,e0,rfl⟩
  have i1:=F.called_set.init.lookup
  have i2:=F.called_set.init.bind (.ref s.heap.objs.size)
  repeat (any_goals (first|assumption|wp_step))
  refine codeAny_mono (Uk (s:=s) (led:=led) (E:=E) (Q:=λv s2=>v=.none/\∃h' tk,s2={ s with heap:=h',toks:=tk }/\IS P w led h' s.heap.objs.size (firstMet (λi=>ns.getD i 0) items.size)/\∀b o,b < s.heap.objs.size->s.heap.get? b=some o->h'.get? b=some o)
    (by simp[hh]) hl hi hb λh' tk x kp=>⟨rfl,h',tk,rfl,x,kp⟩) λr2 s2 hr2=>?_
  match r2,hr2 with
  | .error e,hr2=>exact hr2
  | .ok (.ret v),⟨e3,h',tk,e4,x,kp⟩ =>
   subst e3
   subst e4
   repeat (any_goals (first|assumption|wp_step))
   exact k _ _ x kp
  | .ok .next,hr2=>exact hr2.elim
  | .ok .brk,hr2=>exact hr2.elim
  | .ok .cont,hr2=>exact hr2.elim
 | .ok .next,hr=>exact hr.elim
 | .ok .brk,hr=>exact hr.elim
 | .ok .cont,hr=>exact hr.elim
end
theorem VJ{α:Type}:∀(l:List α) (i:Nat) (h:i < l.length),(l[i] :: l.eraseIdx i).Perm l
 | a :: l,0,h=>List.Perm.refl _
 | a :: l,i+1,h=>by
  rw[List.eraseIdx_cons_succ,List.getElem_cons_succ]
  exact (List.Perm.swap a _ _).trans ((VJ l i (by simpa using h)).cons a)
theorem tF{α:Type}(next:Nat->Nat):∀(fuel k:Nat) (left:List α) (out:Array α),left.length=fuel->(pickOrder.go next fuel k left out).toList.Perm (out.toList++left)
 | 0,k,left,out,e=>by
  have:left=[]:=Q8.mp e
  subst this
  rw[Q1]
  exact List.Perm.refl _
 | fuel+1,k,left,out,e=>by
  have hlt:next k % left.length < left.length:=Nat.mod_lt _ (by omega)
  unfold pickOrder.go
  rw[P0 hlt]
  dsimp only
  refine (tF next fuel (k+1) _ _ (by rw[n8 hlt];omega)).trans ?_
  rw[K6,P2]
  refine List.Perm.append_left _ ?_
  exact VJ left _ hlt
theorem tV{α:Type}(next:Nat->Nat)(xs:Array α):(pickOrder next xs).toList.Perm xs.toList:=by
 have z:=tF next xs.size 0 xs.toList #[] (by simp)
 exact z
section
variable {M:Model}{A:Around}{E:Value->Shared->Prop}{s:Shared}
theorem dG{src:Source}{n:Nat}{Q:Nat->Shared->Prop}(hn:n≠0)(h:∀i d,i < n->Q i { s with drawn:=d }):wpAny M A (choose src n) Q E s:=λΓ p hΓ =>
 ⟨hn,h _ _ (Nat.mod_lt _ (Nat.pos_of_ne_zero hn))⟩
theorem QU{α:Type}:∀(n:Nat) (xs:List α) {s:Shared}{Q:List α->Shared->Prop},xs.length=n->(∀ys d,ys.Perm xs->Q ys { s with drawn:=d })->wpAny M A (drawOrder n xs) Q E s
 | 0,xs,s,Q,e,h=>by
  have:xs=[]:=Q8.mp e
  subst this
  unfold drawOrder
  exact wpAny_pure (h [] s.drawn (List.Perm.refl _))
 | n+1,[],s,Q,e,h=>by cases e
 | n+1,x :: xs,s,Q,e,h=>by
  unfold drawOrder
  refine wpAny_bind (dG (by simp) λi d hi=>?_)
  rw[P0 hi]
  dsimp only
  refine wpAny_bind (QU n _ (by rw[n8 hi];simp at e ⊢;omega) λys d' hp=>?_)
  exact wpAny_pure (h _ d' ((hp.cons _).trans (VJ _ i hi)))
end
theorem jW:Slot "set" "__iter__" "set.__iter__":=.of (owner:="set") (n:="__iter__") (by rw[typeLookup_type,builtinLookup_eq_fast];kernel_rfl) (by decide +kernel) (by decide +kernel) (by decide +kernel) (by first|exact .inl (by decide +kernel)|exact .inr (by decide +kernel)) (by rw[isSubtype_type];kernel_rfl)
theorem slot_snext:Slot "set_iterator" "__next__" "set_iterator.__next__":=.of (owner:="set_iterator") (n:="__next__") (by rw[typeLookup_type,builtinLookup_eq_fast];kernel_rfl) (by decide +kernel) (by decide +kernel) (by decide +kernel) (by first|exact .inl (by decide +kernel)|exact .inr (by decide +kernel)) (by rw[isSubtype_type];kernel_rfl)
theorem RU:entryFor table "set.__iter__"=some Builtin.«frozenset.__iter__»:=entryFor_alias (id':="frozenset.__iter__") (by kernel_rfl) rfl (by decide +kernel) (by kernel_rfl)
theorem sZ:entryFor table "set_iterator.__next__"=some Builtin.«set_iterator.__next__»:=entryFor_of_fast (by kernel_rfl)
theorem eG(a:Value):argsOk "set.__iter__" ⟨[a],[]⟩:=by unfold argsOk;kernel_rfl
theorem PZ(a:Value):argsOk "set_iterator.__next__" ⟨[a],[]⟩:=by unfold argsOk;kernel_rfl
noncomputable abbrev ZW(first:Value)(i:Nat)(S:Addr)(n ep:Nat):Obj:={ cls:=.type "set_iterator",data:=.fields #[first,rawInt i,.ref S,rawInt n,rawInt ep] }
section
variable {P:Program}{w:World}{A:Around}{E:Value->Shared->Prop}{s:Shared}{S:Addr}{σ:List Int}{ld:Bool}
theorem Jz{o:Obj}{es:Array (Int×Value)}{ep:Nat}{t:SetTable}{Q:Value->Shared->Prop}(q1:s.heap.get? S=some o)(q2:o.ExactSet)(q3:o.data=.set es ep t)(q4:t.fits es.size=true)(q5:es.size < scanBound)
  (k1:(!w.params.followText "set-order"&&(!t.plain&&decide (es.size > 1)))=false->Q (.ref s.heap.objs.size) { s with heap:=s.heap.push (ZW (rawInt 0) 0 S es.size ep) })
  (k2:(!w.params.followText "set-order"&&(!t.plain&&decide (es.size > 1)))=true->∀(ys:List Nat) d,ys.Perm (X2 es.size) ->
    Q (.ref (s.heap.objs.size+1)) { s with heap:=(s.heap.push { cls:=.type "tuple",data:=.seq (ys.map λ(i:Nat)=>rawInt i).toArray }).push (ZW (.ref s.heap.objs.size) 0 S es.size ep),drawn:=d }) :
  wpAny (model P w) A (pyIter (.ref S)) Q E s:=by
 have hT:s.TypeIs (.ref S) "set":=⟨o,q1,q2.1⟩
 refine wpAny_pyIter_slot hT jW (wpAny_call_entry jW hT RU ?_ (eG _))
 unfold Builtin.«frozenset.__iter__»
 show wpAny _ _ (K8 S >>= _) _ _ s
 refine wpAny_bind ?_
 unfold K8
 refine wpAny_bind (wpAny_setEntries_of q1 q3 q4 (wpAny_pure ?_))
 refine wpAny_bind ?_
 unfold setDrawn setsByText
 refine wpAny_bind (wpAny_setState_of q1 q3 q4 ?_)
 refine wpAny_bind (wpAny_bind (wpAny_askSetting (wpAny_pure ?_)))
 refine wpAny_pure ?_
 show wpAny _ _ (if (!w.params.followText "set-order"&&(!t.plain&&decide (es.size > 1)))=true then _ else _) _ _ s
 have ne:∀(fv:Value) (s1:Shared) (o1:s1.heap.get? S=some o) (kq:Q (.ref s1.heap.objs.size) { s1 with heap:=s1.heap.push (ZW fv 0 S es.size ep) }),
   wpAny (model P w) A.in1 (do let e<-setEpoch S;let v<-newFields "set_iterator" [fv,rawInt 0,U1 S,rawInt (es.size:Nat),rawInt (e:Nat)];ret v)
    (λfin s'=>∃v,fin=Fin.done (Flow.ret v)/\∃T' r,s'.TypeIs v T'/\typeLookup (W6 T') (Str.ofString "__next__")=pure (some r)/\Q v s') E s1:=λfv s1 o1 kq=>by
  unfold setEpoch newFields
  refine wpAny_bind (wpAny_bind (wpAny_setState_of o1 q3 q4 (wpAny_pure ?_)))
  refine wpAny_bind (wpAny_newObj_type (wpAny_pure ⟨_,rfl,"set_iterator",_,⟨_,G0 _ rfl,rfl⟩,slot_snext.lookup,kq⟩))
 by_cases hb:(!w.params.followText "set-order"&&(!t.plain&&decide (es.size > 1)))=true
 ·rw[if_pos hb]
  refine wpAny_bind (QU _ _ (Y5) λys d hp=>?_)
  unfold newTuple
  have ysz:(ys.map λ(i:Nat)=>rawInt i).toArray.size=es.size:=by have:=hp.length_eq;simpa using this
  refine wpAny_bind (wpAny_newObj_type ?_ (by unfold sizeOk;dsimp only;rw[ysz];exact fits_of_scanBound q5))
  have z:=ne (.ref s.heap.objs.size) { s with heap:=s.heap.push { cls:=.type "tuple",data:=.seq (ys.map λ(i:Nat)=>rawInt i).toArray },drawn:=d } (j0 _ q1)
  refine z ?_
  have e1:(s.heap.push { cls:=.type "tuple",data:=.seq (ys.map λ(i:Nat)=>rawInt i).toArray }).objs.size=s.heap.objs.size+1:=O1 ..
  rw[e1]
  exact k2 hb ys d hp
 ·rw[if_neg hb]
  exact ne (rawInt 0) s q1 (k1 (u5.mpr hb))
end
section
variable {P:Program}{w:World}{A:Around}{E:Value->Shared->Prop}{s:Shared}{S:Addr}{σ:List Int}{ld:Bool}{o:Obj}{es:Array (Int×Value)}{ep:Nat}{t:SetTable}
theorem uV{slot i:Nat}{Q:Option (Value×Nat)->Shared->Prop}(q1:s.heap.get? S=some o)(q3:o.data=.set es ep t)(q4:t.fits es.size=true)(hb:w.params.followText "set-order"=true)
  (k:Q ((pickOrder (w.params.setOrder S ep) es)[i]?.map λe=>(e.2,slot)) s):wpAny (model P w) A (setNext S slot i ep) Q E s:=by
 unfold setNext setWalk setsByText
 refine wpAny_bind (wpAny_setState_of q1 q3 q4 ?_)
 refine wpAny_bind (wpAny_bind (wpAny_askSetting (wpAny_pure ?_)))
 show wpAny _ _ (if w.params.followText "set-order"=true then _ else _) _ _ s
 rw[if_pos hb]
 show wpAny _ _ (if (ep != ep)=true then _ else _) _ _ s
 rw[if_neg (by simp)]
 refine wpAny_bind (wpAny_bind (wpAny_setState_of q1 q3 q4 ?_))
 refine wpAny_bind (wpAny_bind (wpAny_askSetting (wpAny_pure ?_)))
 show wpAny _ _ (if w.params.followText "set-order"=true then _ else _) _ _ s
 rw[if_pos hb]
 refine wpAny_bind (wpAny_askSetting (wpAny_pure ?_))
 exact wpAny_pure k
theorem kW{slot i g:Nat}{Q:Option (Value×Nat)->Shared->Prop}(q1:s.heap.get? S=some o)(q3:o.data=.set es ep t)(q4:t.fits es.size=true)(hb:w.params.followText "set-order"=false)(hp:(!t.plain&&decide (es.size > 1))=false)(hl:t.led=true)
  (hi:SetTable.below t.place slot=i) (k:Q (match es[i]?,t.place[i]? with|some (_,x),some j=>some (x,j+1)|_,_=>none) s):wpAny (model P w) A (setNext S slot g ep) Q E s:=by
 unfold setNext setsByText
 refine wpAny_bind (wpAny_setState_of q1 q3 q4 ?_)
 refine wpAny_bind (wpAny_bind (wpAny_askSetting (wpAny_pure ?_)))
 show wpAny _ _ (if w.params.followText "set-order"=true then _ else _) _ _ s
 rw[if_neg (by rw[hb];decide)]
 show wpAny _ _ (if (!t.plain&&decide (es.size > 1))=true then _ else _) _ _ s
 rw[if_neg (by rw[hp];decide)]
 refine wpAny_bind ?_
 show wpAny _ _ (if (!t.led&&!es.isEmpty)=true then _ else _) _ _ s
 rw[if_neg (by rw[hl];simp)]
 refine wpAny_pure ?_
 dsimp only
 rw[hi]
 exact wpAny_pure k
end
section
variable {P:Program}{w:World}{A:Around}{E:Value->Shared->Prop}{s:Shared}{S:Addr}{σ:List Int}{ld:Bool}{o:Obj}{es:Array (Int×Value)}{ep:Nat}{t:SetTable}
theorem JD{p:Nat}{e:Int×Value}{Q:Value->Shared->Prop}(q1:s.heap.get? S=some o)(q3:o.data=.set es ep t)(q4:t.fits es.size=true)(hx:es[p]?=some e)(k:Q e.2 s) :
  wpAny (model P w) A (setNextDrawn S p ep) Q E s:=by
 unfold setNextDrawn
 refine wpAny_bind (wpAny_setState_of q1 q3 q4 ?_)
 show wpAny _ _ (if (ep != ep)=true then _ else _) _ _ s
 rw[if_neg (by simp)]
 show wpAny _ _ (match es[p]? with|some (_,x)=>_|_=>_) _ _ s
 rw[hx]
 exact wpAny_pure k
theorem Kz{I:Addr}{slot i nx:Nat}{x:Value}{Q:Option Value->Shared->Prop}(hI:s.heap.get? I=some (ZW (rawInt slot) i S es.size ep))(q1:s.heap.get? S=some o)(q3:o.data=.set es ep t)(q4:t.fits es.size=true)
  (hn:∀{A':Around}{E':Value->Shared->Prop}{Q':Option (Value×Nat)->Shared->Prop},Q' (some (x,nx)) s->wpAny (model P w) A' (setNext S slot i ep) Q' E' s)
  (k:∀h',h'.get? I=some (ZW (rawInt nx) (i+1) S es.size ep)->J2 I s.heap h'->Q (some x) { s with heap:=h' }):wpAny (model P w) A (pyNext (.ref I)) Q E s:=by
 have hT:s.TypeIs (.ref I) "set_iterator":=⟨_,hI,rfl⟩
 unfold pyNext
 refine wpAny_bind (wpAny_attempt (wpAny_callSpecial?_slot (name:=Str.ofString "__next__") hT slot_snext (wpAny_call_entry slot_snext hT sZ ?_ (PZ _))))
 unfold Builtin.«set_iterator.__next__»
 show wpAny _ _ (fieldsOf (.ref I) >>= _) _ _ s
 refine wpAny_bind (wpAny_fieldsOf hI rfl ?_)
 show wpAny _ _ (setEntries S >>= _) _ _ s
 refine wpAny_bind (wpAny_setEntries_of q1 q3 q4 ?_)
 show wpAny _ _ (if (((es.size:Nat):Int) != ((es.size:Nat):Int))=true then _ else _) _ _ s
 rw[if_neg (by simp)]
 show wpAny _ _ (setNext S slot i ep >>= _) _ _ s
 refine wpAny_bind (hn ?_)
 refine wpAny_bind (wpAny_setField hI rfl (by simp) ?_)
 have g1:(s.heap.update I (S6 (·.setIfInBounds 0 (rawInt nx)))).get? I=some (ZW (rawInt nx) i S es.size ep):=K2 _ hI (Y4 (K4 rfl _))
 refine wpAny_bind (wpAny_setField g1 rfl (by simp) ?_)
 have g2:((s.heap.update I (S6 (·.setIfInBounds 0 (rawInt nx)))).update I (S6 (·.setIfInBounds 1 (rawInt ((i:Int)+1))))).get? I=some (ZW (rawInt nx) (i+1) S es.size ep):=K2 _ g1 (Y4 (K4 rfl _))
 exact wpAny_pure ⟨x,rfl,wpAny_pure (k _ g2 ((U2 _ I _).trans (U2 _ I _)))⟩
end
section
variable {P:Program}{w:World}{A:Around}{E:Value->Shared->Prop}{s:Shared}{S:Addr}{σ:List Int}{ld:Bool}{o:Obj}{es:Array (Int×Value)}{ep:Nat}{t:SetTable}
theorem KD{I T:Addr}{i p:Nat}{ys:List Nat}{e:Int×Value}{ot:Obj}{c:Nat}{Q:Option Value->Shared->Prop}(hI:s.heap.get? I=some (ZW (.ref T) i S es.size ep))(q1:s.heap.get? S=some o)(q3:o.data=.set es ep t)(q4:t.fits es.size=true)
  (hT1:s.heap.get? T=some ot) (hT2:ot.data=.seq (ys.map λ(i:Nat)=>rawInt i).toArray c) (hy:ys[i]?=some p) (hx:es[p]?=some e)
  (k:∀h',h'.get? I=some (ZW (.ref T) (i+1) S es.size ep)->J2 I s.heap h'->Q (some e.2) { s with heap:=h' }):wpAny (model P w) A (pyNext (.ref I)) Q E s:=by
 have hT:s.TypeIs (.ref I) "set_iterator":=⟨_,hI,rfl⟩
 unfold pyNext
 refine wpAny_bind (wpAny_attempt (wpAny_callSpecial?_slot (name:=Str.ofString "__next__") hT slot_snext (wpAny_call_entry slot_snext hT sZ ?_ (PZ _))))
 unfold Builtin.«set_iterator.__next__»
 show wpAny _ _ (fieldsOf (.ref I) >>= _) _ _ s
 refine wpAny_bind (wpAny_fieldsOf hI rfl ?_)
 show wpAny _ _ (setEntries S >>= _) _ _ s
 refine wpAny_bind (wpAny_setEntries_of q1 q3 q4 ?_)
 show wpAny _ _ (if (((es.size:Nat):Int) != ((es.size:Nat):Int))=true then _ else _) _ _ s
 rw[if_neg (by simp)]
 show wpAny _ _ (seqItems? (.ref T) >>= _) _ _ s
 refine wpAny_bind (wpAny_seqItems hT1 hT2 ?_)
 show wpAny _ _ (match (ys.map λ(i:Nat)=>rawInt i).toArray[i]? with|some (.int place _)=>_|some _=>_|none=>_) _ _ s
 rw[show (ys.map λ(i:Nat)=>rawInt i).toArray[i]?=some (rawInt p) by simp[hy]]
 show wpAny _ _ (setNextDrawn S p ep >>= _) _ _ s
 refine wpAny_bind (JD q1 q3 q4 hx ?_)
 refine wpAny_bind (wpAny_setField hI rfl (by simp) ?_)
 have g1:(s.heap.update I (S6 (·.setIfInBounds 1 (rawInt ((i:Int)+1))))).get? I=some (ZW (.ref T) (i+1) S es.size ep):=K2 _ hI (Y4 (K4 rfl _))
 exact wpAny_pure ⟨e.2,rfl,wpAny_pure (k _ g1 (U2 _ I _))⟩
theorem SU{Q:PySem.Fin->Shared->Prop}(hh:A.handled=none)(k:∀h' e,(∀b o,s.heap.get? b=some o->h'.get? b=some o)->(∃oe,h'.get? e=some oe/\oe.cls=.type "StopIteration")->E (.ref e) { s with heap:=h' }) :
  wpAny (model P w) A (do let e<-newExc (.type "StopIteration") [];raiseNew e) Q E s:=by
 refine wpAny_bind ?_
 simp only[newExc,newTuple]
 refine wpAny_bind (wpAny_newObj_type ?_ (by size_fits));refine wpAny_bind (m:=firstArgMember _ _) (wpAny_of_eq (a:=A3) (by first|rfl|(simp only[firstArgMember];rfl)) ?_)
 refine wpAny_newObj_type ?_ (by size_fits);simp only[raiseNew]
 refine wpAny_bind (wpAny_handled ?_);rw[hh]
 refine wpAny_bind (wpAny_pure (wpAny_throw ?_))
 exact k _ _ (λb o q=>j0 _ (j0 _ q)) ⟨_,G0 _ rfl,rfl⟩
end
section
variable {P:Program}{w:World}{A:Around}{E:Value->Shared->Prop}{s:Shared}{S:Addr}{σ:List Int}{ld:Bool}{o:Obj}{es:Array (Int×Value)}{ep:Nat}{t:SetTable}
theorem QZ{h:Heap}{I:Addr}{f:Obj->Obj}{b:Addr}{u:Obj}(n:b≠I)(q:h.get? b=some u):(h.update I f).get? b=some u:=(v6 _ _ (Z2 n)).trans q
theorem Vk{I:Addr}{slot i:Nat}{Q:Option Value->Shared->Prop}(hh:A.handled=none)(hI:s.heap.get? I=some (ZW (rawInt slot) i S es.size ep))(q1:s.heap.get? S=some o)(q3:o.data=.set es ep t)(q4:t.fits es.size=true)
  (hn:∀{A':Around}{E':Value->Shared->Prop}{Q':Option (Value×Nat)->Shared->Prop},Q' none s->wpAny (model P w) A' (setNext S slot i ep) Q' E' s)
  (k:∀h',(∀b u,b≠I->s.heap.get? b=some u->h'.get? b=some u)->Q none { s with heap:=h' }):wpAny (model P w) A (pyNext (.ref I)) Q E s:=by
 have hT:s.TypeIs (.ref I) "set_iterator":=⟨_,hI,rfl⟩
 unfold pyNext
 refine wpAny_bind (wpAny_attempt (wpAny_callSpecial?_slot (name:=Str.ofString "__next__") hT slot_snext (wpAny_call_entry slot_snext hT sZ ?_ (PZ _))))
 unfold Builtin.«set_iterator.__next__»
 show wpAny _ _ (fieldsOf (.ref I) >>= _) _ _ s
 refine wpAny_bind (wpAny_fieldsOf hI rfl ?_)
 show wpAny _ _ (setEntries S >>= _) _ _ s
 refine wpAny_bind (wpAny_setEntries_of q1 q3 q4 ?_)
 show wpAny _ _ (if (((es.size:Nat):Int) != ((es.size:Nat):Int))=true then _ else _) _ _ s
 rw[if_neg (by simp)]
 show wpAny _ _ (setNext S slot i ep >>= _) _ _ s
 refine wpAny_bind (hn ?_)
 refine wpAny_bind (wpAny_setField hI rfl (by simp) ?_)
 refine SU (by simp[hh]) λh' e kp he=>?_
 refine wpAny_bind (wpAny_isInstance (T:="StopIteration") (b:=true) he isSubtype_stop ?_)
 exact wpAny_pure (k h' λb u nb q=>kp b u (QZ nb q))
theorem Lz{I T:Addr}{i:Nat}{ys:List Nat}{ot:Obj}{c:Nat}{Q:Option Value->Shared->Prop}(hh:A.handled=none)(hI:s.heap.get? I=some (ZW (.ref T) i S es.size ep))(q1:s.heap.get? S=some o)(q3:o.data=.set es ep t)(q4:t.fits es.size=true)
  (hT1:s.heap.get? T=some ot) (hT2:ot.data=.seq (ys.map λ(i:Nat)=>rawInt i).toArray c) (hy:ys[i]?=none)
  (k:∀h',(∀b u,b≠I->s.heap.get? b=some u->h'.get? b=some u)->Q none { s with heap:=h' }):wpAny (model P w) A (pyNext (.ref I)) Q E s:=by
 have hT:s.TypeIs (.ref I) "set_iterator":=⟨_,hI,rfl⟩
 unfold pyNext
 refine wpAny_bind (wpAny_attempt (wpAny_callSpecial?_slot (name:=Str.ofString "__next__") hT slot_snext (wpAny_call_entry slot_snext hT sZ ?_ (PZ _))))
 unfold Builtin.«set_iterator.__next__»
 show wpAny _ _ (fieldsOf (.ref I) >>= _) _ _ s
 refine wpAny_bind (wpAny_fieldsOf hI rfl ?_)
 show wpAny _ _ (setEntries S >>= _) _ _ s
 refine wpAny_bind (wpAny_setEntries_of q1 q3 q4 ?_)
 show wpAny _ _ (if (((es.size:Nat):Int) != ((es.size:Nat):Int))=true then _ else _) _ _ s
 rw[if_neg (by simp)]
 show wpAny _ _ (seqItems? (.ref T) >>= _) _ _ s
 refine wpAny_bind (wpAny_seqItems hT1 hT2 ?_)
 show wpAny _ _ (match (ys.map λ(i:Nat)=>rawInt i).toArray[i]? with|some (.int place _)=>_|some _=>_|none=>_) _ _ s
 rw[show (ys.map λ(i:Nat)=>rawInt i).toArray[i]?=none by simp at hy ⊢;exact hy]
 refine wpAny_bind (wpAny_setField hI rfl (by simp) ?_)
 have g1:(s.heap.update I (S6 (·.setIfInBounds 0 (rawInt 0)))).get? I=some (ZW (rawInt 0) i S es.size ep):=K2 _ hI (Y4 (K4 rfl _))
 refine wpAny_bind (wpAny_setField g1 rfl (by simp) ?_)
 refine SU (by simp[hh]) λh' e kp he=>?_
 refine wpAny_bind (wpAny_isInstance (T:="StopIteration") (b:=true) he isSubtype_stop ?_)
 exact wpAny_pure (k h' λb u nb q=>kp b u (QZ nb (QZ nb q)))
end
theorem lW:Slot "set_iterator" "__iter__" "set_iterator.__iter__":=.of (owner:="set_iterator") (n:="__iter__") (by rw[typeLookup_type,builtinLookup_eq_fast];kernel_rfl) (by decide +kernel) (by decide +kernel) (by decide +kernel) (by first|exact .inl (by decide +kernel)|exact .inr (by decide +kernel)) (by rw[isSubtype_type];kernel_rfl)
theorem TU:entryFor table "set_iterator.__iter__"=some Builtin.«dict_keyiterator.__iter__»:=entryFor_alias (id':="dict_keyiterator.__iter__") (by kernel_rfl) rfl (by decide +kernel) (by kernel_rfl)
theorem fG(a:Value):argsOk "set_iterator.__iter__" ⟨[a],[]⟩:=by unfold argsOk;kernel_rfl
section
variable {P:Program}{w:World}{A:Around}{S I:Addr}{o:Obj}{es:Array (Int×Value)}{ep:Nat}{t:SetTable}{ord:List Value}
theorem UU{E:Value->Shared->Prop}{s:Shared}{Q:Value->Shared->Prop}(hT:s.TypeIs (.ref I) "set_iterator")(k:Q (.ref I) s):wpAny (model P w) A (pyIter (.ref I)) Q E s:=by
 refine wpAny_pyIter_slot hT lW (wpAny_call_entry lW hT TU ?_ (fG _))
 unfold Builtin.«dict_keyiterator.__iter__»
 exact wpAny_pure ⟨_,rfl,"set_iterator",_,hT,slot_snext.lookup,k⟩
theorem VU(C:Nat->Nat->Prop)(hh:A.handled=none)(nI:S≠I)(q3:o.data=.set es ep t)(q4:t.fits es.size=true)
  (step:∀i slot,C i slot->i < es.size->∃x nx,ord[i]?=some x/\C (i+1) nx/\∀{s:Shared}{A':Around}{E':Value->Shared->Prop}{Q':Option (Value×Nat)->Shared->Prop},s.heap.get? S=some o->Q' (some (x,nx)) s->wpAny (model P w) A' (setNext S slot i ep) Q' E' s)
  (stop:∀slot,C es.size slot->∀{s:Shared}{A':Around}{E':Value->Shared->Prop}{Q':Option (Value×Nat)->Shared->Prop},s.heap.get? S=some o->Q' none s->wpAny (model P w) A' (setNext S slot es.size ep) Q' E' s) :
  WalksS P w A I [I,S] [I] (λa b=>b=a) es.size (λi v=>ord[i]?=some v) (λi s=>s.heap.get? S=some o/\∃slot,C i slot/\s.heap.get? I=some (ZW (rawInt slot) i S es.size ep)) where
 sub:=λb z=>by rw[Y2.mp z];exact O0
 grefl:=λ_=>rfl
 gtrans:=λ_ _ _ h1 h2=>h2.trans h1
 frame:=λi s h' tk ⟨g1,slot,c,g2⟩ _ kp=>⟨kp S (by simp) _ g1,slot,c,kp I (by simp) _ g2⟩
 item:=λi s Q E hi ⟨g1,slot,c,g2⟩ k=>by
  obtain⟨x,nx,h1,h2,h3⟩:=step i slot c hi
  refine Kz g2 g1 q3 q4 (λr=>h3 g1 r) λh' g3 sb=>k x _ h1 ⟨(sb.2 S nI).trans g1,nx,h2,g3⟩ ⟨λb u nb q=>(sb.2 b (by simpa using nb)).trans q,rfl,rfl,rfl,R0 _⟩
 done:=λs Q E ⟨g1,slot,c,g2⟩ k=>Vk hh g2 g1 q3 q4 (λr=>stop slot c g1 r) λh' kp=>k _ ⟨λb u nb q=>kp b u (by simpa using nb) q,rfl,rfl,rfl,R0 _⟩
 self:=λi s Q E ⟨g1,slot,c,g2⟩ k=>UU ⟨_,g2,rfl⟩ k
theorem LD{T:Addr}{ys:List Nat}{ot:Obj}{c:Nat}(hh:A.handled=none)(nI:S≠I)(nT:T≠I)(q3:o.data=.set es ep t)(q4:t.fits es.size=true)(hT2:ot.data=.seq (ys.map λ(i:Nat)=>rawInt i).toArray c)(hl:ys.length=es.size)
  (step:∀(i p:Nat),ys[i]?=some p->∃e,es[p]?=some e/\ord[i]?=some e.2) :
  WalksS P w A I [I,S,T] [I] (λa b=>b=a) es.size (λi v=>ord[i]?=some v) (λi s=>s.heap.get? S=some o/\s.heap.get? T=some ot/\s.heap.get? I=some (ZW (.ref T) i S es.size ep)) where
 sub:=λb z=>by rw[Y2.mp z];exact O0
 grefl:=λ_=>rfl
 gtrans:=λ_ _ _ h1 h2=>h2.trans h1
 frame:=λi s h' tk ⟨g1,g0,g2⟩ _ kp=>⟨kp S (by simp) _ g1,kp T (by simp) _ g0,kp I (by simp) _ g2⟩
 item:=λi s Q E hi ⟨g1,g0,g2⟩ k=>by
  obtain⟨p,hp⟩:∃p,ys[i]?=some p:=⟨_,P0 (by omega)⟩
  obtain⟨e,h1,h2⟩:=step i p hp
  exact KD g2 g1 q3 q4 g0 hT2 hp h1 λh' g3 sb=>k e.2 _ h2 ⟨(sb.2 S nI).trans g1,(sb.2 T nT).trans g0,g3⟩ ⟨λb u nb q=>(sb.2 b (by simpa using nb)).trans q,rfl,rfl,rfl,R0 _⟩
 done:=λs Q E ⟨g1,g0,g2⟩ k=>Lz hh g2 g1 q3 q4 g0 hT2 (by rw[X4];omega) λh' kp=>k _ ⟨λb u nb q=>kp b u (by simpa using nb) q,rfl,rfl,rfl,R0 _⟩
 self:=λi s Q E ⟨g1,g0,g2⟩ k=>UU ⟨_,g2,rfl⟩ k
end
theorem MD:typeLookup (.type "set") "__len__"=pure (some (.builtin "set.__len__")):=by rw[typeLookup_type,builtinLookup_eq_fast];kernel_rfl
section
variable {P:Program}{w:World}{A:Around}{E:Value->Shared->Prop}{s:Shared}{S:Addr}
theorem WU{Q:Bool->Shared->Prop}(hT:s.TypeIs (.ref S) "set")(k:Q false s):wpAny (model P w) A (e8 (.ref S)) Q E s:=by
 unfold e8
 refine wpAny_bind (wpAny_specialOf hT MD ?_)
 have sp:splitId "set.__len__"=some ("set","__len__"):=by decide +kernel
 simp only[sp]
 refine wpAny_bind (wpAny_isInstance hT sub_set_self ?_)
 simp only[G8,O2,if_false]
 rw[if_pos (by decide +kernel)]
 refine wpAny_bind (wpAny_typeOf hT ?_)
 exact wpAny_pure k
theorem mW{I l:Addr}{fp:List Addr}{n:Nat}{Pv:Nat->Value->Prop}{St:Nat->Shared->Prop}{R:Result->Shared->Prop}{E':Value->Shared->Prop}(W:WalksS P w A.in1 I fp [I] (λa b=>b=a) n Pv St)(hn:n<=sizeLine)(nl:l∉fp)
  (hl:s.heap.get? l=some { cls:=.type "list",data:=.seq #[] 0 }) (st:St 0 s)
  (k:∀s' acc c,Moved [l,I] (λa b=>b=a) s s'->s'.heap.get? l=some { cls:=.type "list",dict:=none,data:=.seq acc c,slots:=#[] }->ItemsOf Pv acc n->R (.ok (.ret (.ref l))) s') :
  wpAny (model P w) A.in1 (rule "list.extend.makes-room" >>= λ_=>Builtin.List.listTouch (.ref l) >>= λ_=>again (.builtin "list.extend.loop" ⟨[.ref l,.ref I,.ref l],[]⟩))
   (λfin s'=>match fin with | .done f=>R (.ok f) s' | .again c=>c.quiet=true/\codeAny (model P w) A c R s') E' s:=by
 refine wpAny_bind (wpAny_rule (wpAny_bind ?_))
 show wpAny _ A.in1 (updateSeq l (·.push .none) >>= λ_=>updateSeq l (·.pop)) _ _ _
 refine wpAny_bind (wpAny_updateSeq hl rfl ?_)
 have g1:=K2 (B2 (·.push A3)) hl rfl
 refine wpAny_updateSeq g1 rfl ?_
 have g2:=K2 (B2 (·.pop)) g1 rfl
 have oth:∀b u,b≠l->s.heap.get? b=some u->((s.heap.update l (B2 (·.push A3))).update l (B2 (·.pop))).get? b=some u:=λb u nb q=>QZ nb (QZ nb q)
 refine wpAny_pure ⟨plainId_quiet F.plain_extend_loop _,codeAny_extend_loopS W hn l nl _ n 0 _ _ _ rfl (Q3 _) (W.frame 0 s _ s.toks st (R0 _) λb z u q=>oth b u (λy=>nl (y ▸ z)) q) g2 (ItemsOf.nil Pv) λs' acc c mv g3 it=>?_⟩
 have m0:Moved [l,I] (λa b=>b=a) s { s with heap:=(s.heap.update l (B2 (·.push A3))).update l (B2 (·.pop)) }:=⟨λb u nb q=>oth b u (λy=>nb (by rw[y];exact O0)) q,rfl,rfl,rfl,R0 _⟩
 exact k s' acc c (Moved.trans W.gtrans m0 mv) g3 it
end
theorem ND{ord:List Value}{acc:Array Value}{n:Nat}(h:ItemsOf (λi v=>ord[i]?=some v) acc n)(hl:ord.length=n):acc.toList=ord:=by
 refine N7 (by rw[T0,h.1,hl]) λi h1 h2=>?_
 have:=h.2 i (acc.toList[i]) (by rw[<- Q2,P0 h1])
 have this:ord[i]?=some acc.toList[i]:=this
 rw[P0 h2]at this
 exact (V1 this).symm
theorem nW:∀{l:List Value},(∀v∈l,∃tk,v=.int (sX v) tk)->IntsAre l (l.map sX)
 | [],_=>.nil
 | v :: l,h=>by
  obtain⟨tk,e⟩:=h v O0
  have r:=nW (l:=l) λx hx=>h x (K0 _ hx)
  rw[J3]
  generalize sX v=m at e ⊢
  subst e
  exact .cons m tk r
section
variable {P:Program}{w:World}{A:Around}{E:Value->Shared->Prop}{s:Shared}{S:Addr}{σ:List Int}
theorem XU{Q:List Value->Shared->Prop}(hh:A.handled=none)(hS:IS P w (!w.params.followText "set-order") s.heap S σ)
  (k:∀h' d tk vs ms,(∀b u,s.heap.get? b=some u->h'.get? b=some u)->s.heap.objs.size < h'.objs.size->IntsAre vs ms->ms.Perm σ->Q vs { s with heap:=h',drawn:=d,toks:=tk }):wpAny (model P w) A (collect (.ref S)) Q E s:=by
 obtain⟨o,es,ep,t,q1,q2,q3,q4,q5,q6,q7,q8,q9⟩:=hS
 have lS:S < s.heap.objs.size:=L0 q1
 have psz:t.place.size=es.size:=by unfold SetTable.fits at q7;simp at q7;exact q7.1
 have fin:∀(ord:List Value),ord.Perm (es.toList.map (·.2))->IntsAre ord (ord.map sX)/\(ord.map sX).Perm σ/\ord.length=es.size:=λord hp=>by
  refine ⟨nW λv hv=>?_,?_,?_⟩
  ·obtain⟨e,he,rfl⟩:=M0.mp (hp.mem_iff.mp hv)
   exact NU q4 he
  ·refine (hp.map sX).trans ?_
   rw[Q0]
   exact q5
  ·have:=hp.length_eq;simpa using this
 unfold collect
 refine wpAny_bind (wpAny_runValue (codeAny_builtin F.entry_proto_collect ?_));rw[Around.under_plainId F.plain_proto_collect _]
 show wpAny _ A.in1 (newList [] >>= λl=>again (.builtin "list.__iadd__" ⟨[l,.ref S],[]⟩)) _ _ s
 refine wpAny_bind (wpAny_newObj_type ?_)
 refine wpAny_pure ⟨plainId_quiet F.plain_list_iadd _,codeAny_builtin F.entry_list_iadd ?_⟩;rw[Around.under_plainId F.plain_list_iadd _]
 have nS:s.heap.objs.size≠S:=Z1 lS
 have e0:=j0 (h:=s.heap) { cls:=.type "list",data:=.seq ([]:List Value).toArray } q1
 have el:(s.heap.push { cls:=.type "list",data:=.seq ([]:List Value).toArray }).get? s.heap.objs.size=some { cls:=.type "list",data:=.seq ([]:List Value).toArray }:=G0 _ rfl
 have sz:(s.heap.push { cls:=.type "list",data:=.seq ([]:List Value).toArray }).objs.size=s.heap.objs.size+1:=O1 ..
 show wpAny _ A.in1 (g8 (.ref s.heap.objs.size) (.ref S) (.ref s.heap.objs.size)) _ _ _
 unfold g8
 refine wpAny_bind (wpAny_typeOf (T:="set") ⟨o,e0,q2.1⟩ ?_)
 have h1:i6 (.ref s.heap.objs.size) (.ref S)=false:=by simp[i6,nS]
 have h2:(W6 "set"==W6 "list")=false:=by decide
 have h3:(W6 "set"==W6 "tuple")=false:=by decide
 simp only[h1,h2,h3,Bool.or_false,O2,if_false]
 have done:∀(ord:List Value) (I:Addr) (s2 s':Shared) (acc:Array Value) (c:Nat),ord.Perm (es.toList.map (·.2))->s.heap.objs.size<=I->s2.gens=s.gens->s2.os=s.os->(∀b u,s.heap.get? b=some u->s2.heap.get? b=some u)->Moved [s.heap.objs.size,I] (λa b=>b=a) s2 s' ->
   s'.heap.get? s.heap.objs.size=some { cls:=.type "list",dict:=none,data:=.seq acc c,slots:=#[] }->ItemsOf (λi v=>ord[i]?=some v) acc es.size ->
   wpAny (model P w) A (load s.heap.objs.size >>= λob=>match ob.data with | .seq xs _=>pure xs.toList|_=>unsupported "internal:collect") Q E s':=λord I s2 s' acc c hp nI hg ho kp mv g it=>by
  obtain⟨f1,f2,f3⟩:=fin ord hp
  obtain⟨h',g',d',tk',os'⟩:=s'
  obtain rfl:g'=s.gens:=mv.gens.trans hg
  obtain rfl:os'=s.os:=mv.os.trans ho
  refine wpAny_bind (wpAny_load g (wpAny_pure ?_))
  rw[ND it f3]
  refine k h' d' tk' ord _ (λb u q=>mv.heap b u ?_ (kp b u q)) (L0 g) f1 f2
  have lb:=L0 q
  simp only[V0,j4,or_false,not_or]
  exact ⟨W0 lb,W0 (S0 lb nI)⟩
 let RR:Result->Shared->Prop:=λr s'=>match r with
  | .ok (.ret v)=>wpAny (model P w) A (match v with | .ref a=>(do let ob<-load a;match ob.data with | .seq xs _=>pure xs.toList|_=>unsupported "internal:collect")|_=>unsupported "internal:collect") Q E s'
  | .ok _=>False
  | .error e=>E e s'
 have nIS:S≠s.heap.objs.size+1:=W0 (S3 lS)
 have hn:=fits_of_scanBound q6
 refine wpAny_bind (Jz e0 q2 q3 q7 q6 (λhb=>?a) (λhb ys d hp=>?b))
 case a =>
  refine wpAny_bind (wpAny_holding (WU ⟨o,j0 _ e0,q2.1⟩ ?_))
  rw[if_pos (by decide +kernel)]
  rw[show (s.heap.push { cls:=.type "list",data:=.seq ([]:List Value).toArray }).objs.size=s.heap.objs.size+1 from sz]
  have nl:s.heap.objs.size∉[s.heap.objs.size+1,S]:=by
   simp only[V0,j4,or_false,not_or]
   exact ⟨W0 (t6 _),nS⟩
  have gI:((s.heap.push { cls:=.type "list",data:=.seq ([]:List Value).toArray }).push (ZW (rawInt 0) 0 S es.size ep)).get? (s.heap.objs.size+1)=some (ZW (rawInt ((0:Nat):Int)) 0 S es.size ep):=by rw[<- sz];exact G0 _ rfl
  let s2:Shared:={ s with heap:=(s.heap.push { cls:=.type "list",data:=.seq ([]:List Value).toArray }).push (ZW (rawInt 0) 0 S es.size ep) }
  cases ht:w.params.followText "set-order" with
  | true =>
   have pz:(pickOrder (w.params.setOrder S ep) es).size=es.size:=by have:=(tV (w.params.setOrder S ep) es).length_eq;simpa using this
   refine wpAny_mono (mW (R:=RR) (E':=λe s'=>E e s') (s:=s2) (VU (ord:=(pickOrder (w.params.setOrder S ep) es).toList.map (·.2)) (λ_ _=>True) (A:=A.in1) hh nIS q3 q7 (λi slot _ hi=>?_) (λslot _=>?_)) hn nl (j0 _ el) ⟨j0 _ e0,0,trivial,gI⟩ λs' acc c mv g it=>?_) (λfin s' h=>by cases fin with|done f=>(cases f<;>exact h)|again c=>exact ⟨h.1,codeAny_mono h.2 λr s3 hr=>by cases r with|error e=>exact hr|ok f=>(cases f<;>exact hr)⟩) (λ_ _ h=>h)
   ·obtain⟨e,he⟩:∃e,(pickOrder (w.params.setOrder S ep) es)[i]?=some e:=⟨_,T2 (by rw[pz];exact hi)⟩
    exact ⟨e.2,slot,by rw[X0,Q2,he];rfl,trivial,λg1 r=>uV g1 q3 q7 ht (by rw[he];exact r)⟩
   ·exact λg1 r=>uV g1 q3 q7 ht (by rw[A6 (by rw[pz];exact R0 _)];exact r)
   ·exact done _ _ s2 s' acc c ((tV _ es).map _) (U5 _) rfl rfl (λb u q=>j0 _ (j0 _ q)) mv g it
  | false =>
   rw[ht]at hb q9
   have hpl:(!t.plain&&decide (es.size > 1))=false:=hb
   have hld:t.led=true:=q9
   refine wpAny_mono (mW (R:=RR) (E':=λe s'=>E e s') (s:=s2) (VU (ord:=es.toList.map (·.2)) (λi slot=>SetTable.below t.place slot=i) (A:=A.in1) hh nIS q3 q7 (λi slot hc hi=>?_) (λslot hc=>?_)) hn nl (j0 _ el) ⟨j0 _ e0,0,ZH q8,gI⟩ λs' acc c mv g it=>?_) (λfin s' h=>by cases fin with|done f=>(cases f<;>exact h)|again c=>exact ⟨h.1,codeAny_mono h.2 λr s3 hr=>by cases r with|error e=>exact hr|ok f=>(cases f<;>exact hr)⟩) (λ_ _ h=>h)
   ·obtain⟨e,he⟩:∃e,es[i]?=some e:=⟨_,T2 hi⟩
    have hj:t.place[i]?=some (t.place.getD i 0):=by rw[T2 (by rw[psz];exact hi)];simp[X6,show i < t.place.size by rw[psz];exact hi]
    exact ⟨e.2,t.place.getD i 0+1,by rw[X0,Q2,he];rfl,YH q8 (by rw[psz];exact hi),λg1 r=>kW g1 q3 q7 ht hpl hld hc (by rw[he,hj];exact r)⟩
   ·exact λg1 r=>kW g1 q3 q7 ht hpl hld hc (by rw[A6 (R0 _)];exact r)
   ·exact done _ _ s2 s' acc c (List.Perm.refl _) (U5 _) rfl rfl (λb u q=>j0 _ (j0 _ q)) mv g it
 case b =>
  refine wpAny_bind (wpAny_holding (WU ⟨o,j0 _ (j0 _ e0),q2.1⟩ ?_))
  rw[if_pos (by decide +kernel)]
  rw[show (s.heap.push { cls:=.type "list",data:=.seq ([]:List Value).toArray }).objs.size=s.heap.objs.size+1 from sz]
  have nl:s.heap.objs.size∉[s.heap.objs.size+1+1,S,s.heap.objs.size+1]:=by
   simp only[V0,j4,or_false,not_or]
   exact ⟨W0 (S3 (t6 _)),nS,W0 (t6 _)⟩
  let ot:Obj:={ cls:=.type "tuple",data:=.seq (ys.map λ(i:Nat)=>rawInt i).toArray }
  have gT:((s.heap.push { cls:=.type "list",data:=.seq ([]:List Value).toArray }).push ot).get? (s.heap.objs.size+1)=some ot:=by rw[<- sz];exact G0 _ rfl
  have sz2:((s.heap.push { cls:=.type "list",data:=.seq ([]:List Value).toArray }).push ot).objs.size=s.heap.objs.size+1+1:=by rw[O1,sz]
  have gI:(((s.heap.push { cls:=.type "list",data:=.seq ([]:List Value).toArray }).push ot).push (ZW (.ref (s.heap.objs.size+1)) 0 S es.size ep)).get? (s.heap.objs.size+1+1)=some (ZW (.ref (s.heap.objs.size+1)) 0 S es.size ep):=by rw[<- sz2];exact G0 _ rfl
  have hyl:ys.length=es.size:=by have:=hp.length_eq;simpa using this
  let s2:Shared:={ s with heap:=((s.heap.push { cls:=.type "list",data:=.seq ([]:List Value).toArray }).push ot).push (ZW (.ref (s.heap.objs.size+1)) 0 S es.size ep),drawn:=d }
  have hdf:∀p,p∈ys->p < es.size:=λp z=>o6.mp (hp.mem_iff.mp z)
  have oe:(ys.map λp=>(es.getD p (0,A3)).2).Perm (es.toList.map (·.2)):=by
   refine (hp.map _).trans (List.Perm.of_eq ?_)
   refine N7 (by simp) λi h1 h2=>?_
   have:i < es.size:=by simpa using h1
   simp[X6,this]
  refine wpAny_mono (mW (R:=RR) (E':=λe s'=>E e s') (s:=s2) (LD (ord:=ys.map λp=>(es.getD p (0,A3)).2) (A:=A.in1) hh (W0 (S3 (S3 lS))) (W0 (t6 _)) q3 q7 (ot:=ot) rfl hyl (λi p hy=>?_)) hn nl
    (j0 _ (j0 _ el)) ⟨j0 _ (j0 _ e0),j0 _ gT,gI⟩ λs' acc c mv g it=>?_) (λfin s' h=>by cases fin with|done f=>(cases f<;>exact h)|again c=>exact ⟨h.1,codeAny_mono h.2 λr s3 hr=>by cases r with|error e=>exact hr|ok f=>(cases f<;>exact hr)⟩) (λ_ _ h=>h)
  ·have hp2:p < es.size:=hdf p (W2 hy)
   refine ⟨es.getD p (0,A3),by rw[T2 hp2];simp[X6,hp2],by rw[X0,hy];rfl⟩
  ·exact done _ _ s2 s' acc c oe (E8 (U5 _)) rfl rfl (λb u q=>j0 _ (j0 _ (j0 _ q))) mv g it
end
open PySem PySem.Spec PyProof.Rows PySem.W
noncomputable def XB(ns:List Int)(v:Value):Nat:=(ns.filter λm=>decide (m < sX v)).length
theorem uF{ns:List Int}{a b:Int}(h:a<=b):(ns.filter λm=>decide (m < a)).length<=(ns.filter λm=>decide (m < b)).length:=by
 induction ns with
 | nil=>exact R0 _
 | cons c ns ih =>
  by_cases h1:c < a
  ·have h2:c < b:=by omega
   simp[h1,h2];exact ih
  ·by_cases h2:c < b
   ·simp[h1,h2];omega
   ·simp[h1,h2];exact ih
theorem Xk{ns:List Int}{a b:Int}(h:a < b)(ha:a∈ns):(ns.filter λm=>decide (m < a)).length < (ns.filter λm=>decide (m < b)).length:=by
 induction ns with
 | nil=>cases ha
 | cons c ns ih =>
  by_cases e:a=c
  ·subst e
   have:=uF (ns:=ns) (a:=a) (b:=b) (by omega)
   simp[h];omega
  ·have ih:=ih (by rcases V0.mp ha with z|z;exact absurd z e;exact z)
   by_cases h1:c < a
   ·have h2:c < b:=by omega
    simp[h1,h2];exact ih
   ·by_cases h2:c < b
    ·simp[h1,h2];omega
    ·simp[h1,h2];exact ih
theorem Mz{ns:List Int}{x y:Value}(hx:sX x∈ns)(hy:sX y∈ns):XB ns x < XB ns y ↔ sX x < sX y:=by
 constructor
 ·intro h
  by_cases z:sX x < sX y
  ·exact z
  ·have:=uF (ns:=ns) (a:=sX y) (b:=sX x) (by omega)
   unfold XB at h
   omega
 ·intro h;exact Xk h hx
theorem oW:∀{vs:List Value}{ns:List Int},IntsAre vs ns->vs.map sX=ns/\∀v∈vs,∃tk,v=.int (sX v) tk
 | _,_,.nil=>⟨rfl,λv h=>by cases h⟩
 | _,_,.cons n t r=>by
  obtain⟨h1,h2⟩:=oW r
  refine ⟨by rw[J3,h1];rfl,λv hv=>?_⟩
  rcases V0.mp hv with rfl|hv
  ·exact ⟨t,rfl⟩
  ·exact h2 v hv
section
variable {P:Program}{w:World}{A:Around}{E:Value->Shared->Prop}{s:Shared}
theorem Nz{a:Addr}{n:Nat}{vs:List Value}{ns:List Int}{R:PySem.Fin->Shared->Prop}(ho:s.heap.get? a=some (seqObj "list" vs.toArray n))(hz:vs.length<=sizeLine)(hI:IntsAre vs ns)
  (k:∀(out:List Value),out.Perm vs->(out.map sX).Pairwise (·<=·)->R (.done (.ret .none)) { s with heap:=sortedHeap s.heap a vs out.toArray }):wpAny (model P w) A (Builtin.«list.sort» ⟨[.ref a],[]⟩) R E s:=by
 obtain⟨v1,v2⟩:=oW hI
 have mem:∀v∈vs,sX v∈ns:=λv hv=>by rw[<- v1];exact M0.mpr ⟨v,hv,rfl⟩
 refine uK (κ:=oneType') (rk:=XB ns) ho hz (λh2 s' _ Q' q=>?_) (λs' _ x y hx hy Q' q=>?_) λout o1 o2=>k out o1 ?_
 ·match vs,h2,hI with
  | x :: y :: r,_,hI=>rw[keyKind_ints hI];exact wpAny_pure q
  | [_],h2,_=>simp at h2
  | [],h2,_=>simp at h2
 ·obtain⟨t1,e1⟩:=v2 x hx
  obtain⟨t2,e2⟩:=v2 y hy
  have r:=Mz (mem x hx) (mem y hy)
  rw[show decide (XB ns x < XB ns y)=decide (sX x < sX y) from by simp only[r]]at q
  rw[keyLt'_oneType]
  generalize sX x=m1 at e1 q
  generalize sX y=m2 at e2 q
  subst e1
  subst e2
  exact oneLt_int q
 ·rw[m5]
  refine o2.imp_of_mem λ{x y} hx hy h=>?_
  have r:=Mz (mem y (o1.mem_iff.mp hy)) (mem x (o1.mem_iff.mp hx))
  omega
end
theorem JE{h:Heap}{a:Addr}{vs:List Value}{n:Nat}{out:Array Value}(q:h.get? a=some (seqObj "list" vs.toArray n)):(∃e,(sortedHeap h a vs out).get? a=some (seqObj "list" out e))/\∀b u,b≠a->h.get? b=some u->(sortedHeap h a vs out).get? b=some u:=by
 obtain⟨e1,g1⟩:∃e1,(h.update a (B2 λ_=>#[])).get? a=some (seqObj "list" #[] e1):=⟨_,get?_update_seq q (λ_=>#[])⟩
 have g2:=j0 (seqObj "list" #[] 0) (j0 (seqObj "tuple" vs.toArray 0) g1)
 exact ⟨⟨_,get?_update_seq g2 (λ_=>out)⟩,λb u nb z=>QZ nb (j0 _ (j0 _ (QZ nb z)))⟩
section
variable {P:Program}{w:World}{A:Around}{E:Value->Shared->Prop}{s:Shared}{S:Addr}{σ:List Int}
theorem gG{Q:Value->Shared->Prop}(hh:A.handled=none)(hS:IS P w (!w.params.followText "set-order") s.heap S σ)(hz:σ.length<=sizeLine)
  (k:∀h' d tk p out e,(∀b u,s.heap.get? b=some u->h'.get? b=some u)->s.heap.objs.size<=p->h'.get? p=some (seqObj "list" out e)->(∃ms,IntsAre out.toList ms/\ms.Perm σ/\ms.Pairwise (·<=·))->Q (.ref p) { s with heap:=h',drawn:=d,toks:=tk }) :
  wpAny (model P w) A (call (.builtin "sorted") [.ref S]) Q E s:=by
 refine Calls.call_function_entry kind_sorted plain_sorted entry_sorted (args_sorted1 _) ?_;unfold Builtin.«sorted»
 refine wpAny_bind (m:=checkCount "sorted" 1 1 _) (wpAny_pure (wpAny_bind (XU hh hS λh1 d tk vs ms kp sz hI hp=>?_)))
 have vl:vs.length<=sizeLine:=by rw[IntsAre.length hI,hp.length_eq];exact hz
 refine wpAny_bind (wpAny_newList ?_ vl)
 have g:(h1.push (seqObj "list" vs.toArray 0)).get? h1.objs.size=some (seqObj "list" vs.toArray 0):=G0 _ rfl
 refine wpAny_bind (wpAny_holding (wpAny_call_entry slot_list_sort ⟨_,g,rfl⟩ entry_list_sort (Nz g vl hI λout o1 o2=>⟨_,rfl,?_⟩) (args_list_sort _)))
 obtain⟨⟨e,z1⟩,z2⟩:=JE (out:=out.toArray) g
 obtain⟨v1,v2⟩:=oW hI
 refine wpAny_pure ⟨_,rfl,k _ d tk _ out.toArray e (λb u q=>z2 b u (W0 (L0 (kp b u q))) (j0 _ (kp b u q))) (J5 sz) z1 ⟨out.map sX,?_,?_,o2⟩⟩
 ·exact nW λv hv=>v2 v (o1.mem_iff.mp hv)
 ·refine (o1.map sX).trans ?_
  rw[v1]
  exact hp
end
noncomputable abbrev Yk(P:Program)(w:World)(p:Addr)(σ:List Int):HO:=.ext λh=>IS P w (!w.params.followText "set-order") h p σ
noncomputable def zv(P:Program)(w:World)(K:J0):List V->Hp->VK->Prop:=λxs H Q=>∃(a:Addr) (ns:List Int),xs=[.ref a]/\SqL K H a (ns.map V.int)/\ns.length+1 < scanBound /\
 ∀p,H p=none->Q (.ref p) (NQ H p (Yk P w p (firstMet (λi=>ns.getD i 0) ns.length)))
theorem OD{X:Cx}(hc:X.calm=true):BX X (.type "set") (zv X.prog X.w X.K):=by
 intro pins s σ H xs us Q I r h
 obtain⟨a,ns,rfl,hs,hb,q⟩:=h
 obtain⟨u,rfl,ru⟩:=aJ r
 cases ru
 obtain⟨its,rv,⟨o,n,e,c,d1,d2⟩,hz⟩:=I.list hs
 have hl:=rv.length
 rw[A0]at hl
 refine PU (I.ok.hd hc) (items:=its.toArray) (ns:=ns) ⟨o,e,c,n,by first|exact d2|exact d1⟩ (by simpa using KQ rv) (by simpa [<- hl]using hb) λh' tk x kp=>?_
 have hn:H s.heap.objs.size=none:=I.hok.fresh (R0 _)
 have x2:IS X.prog X.w (!X.w.params.followText "set-order") h' s.heap.objs.size (firstMet (λi=>ns.getD i 0) ns.length):=by
  have z:its.toArray.size=ns.length:=by simp[hl]
  rw[z]at x
  exact x
 obtain⟨oo,_,_,_,g1,_⟩:=id x2
 refine ⟨.ref s.heap.objs.size,NQ H s.heap.objs.size (Yk X.prog X.w s.heap.objs.size (firstMet (λi=>ns.getD i 0) ns.length)),I.laid (t':=tk) (λb u e=>kp b u (L0 e) e) (R0 _) ?_,rfl,q _ hn⟩
 exact ⟨x2,⟨oo,g1⟩,λh1 h2 y z=>y.keeps z⟩
noncomputable def Oz(P:Program)(w:World):List V->Hp->VK->Prop:=λxs H Q=>∃(a:Addr) (σ:List Int),xs=[.ref a]/\H a=some (Yk P w a σ)/\σ.length<=sizeLine/\∀(p:Addr) (ms:List Int),H p=none->ms.Perm σ->ms.Pairwise (·<=·)->Q (.ref p) (NQ H p (.lst (ms.map V.int)))
theorem iG{X:Cx}(hc:X.calm=true):BX X (.builtin "sorted") (Oz X.prog X.w):=by
 intro pins s σ H xs us Q I r h
 obtain⟨a,τ,rfl,hs,hz,q⟩:=h
 obtain⟨u,rfl,ru⟩:=aJ r
 cases ru
 have x:IS X.prog X.w (!X.w.params.followText "set-order") s.heap a τ:=(I.hok a _ hs).1
 refine gG (I.ok.hd hc) x hz λh' d tk p out e kp hp g ⟨ms,m1,m2,m3⟩=>?_
 have hn:H p=none:=I.hok.fresh hp
 have J:=I.laid (a:=p) (o:=.lst (ms.map V.int)) (h':=h') (t':=tk) kp hp ⟨by rw[A0,m2.length_eq];exact hz,out.toList,e,qK m1,by rw[g]⟩
 exact ⟨.ref p,_,⟨J.ok,J.os,J.bare,J.base,J.loc,J.cell,J.free,J.freeC,J.pin,J.hok,J.len⟩,rfl,q p ms hn m2 m3⟩
end L2
namespace L3
open PySem PySem.Spec PyProof.Rows L2
noncomputable def NM:D->(Sl->Prop)->Prop
 | .list ds,Q=>∃ns:List Int,ds=ns.map u0/\ns.length+1 < scanBound/\∀ms:List Int,ms.Perm (firstMet (λi=>ns.getD i 0) ns.length)->ms.Pairwise (·<=·)->Q (.ow (.list (ms.map u0)))
 | _,_=>False
theorem KE{P:Program}{wd:World}{K:Fg}:eX K (λvs H Q=>zv P wd K vs H λv H1=>Oz P wd [v] H1 Q) (o1 NM):=bx λG F σ H ρ x d Q Qd R h1 w k=>by
 cases d with
 | list ds =>
  obtain⟨ns,e,hb,w⟩:=w
  subst e
  obtain⟨a,us,rfl,e1,d1⟩:=h1.list R.sub
  have:=d1.ints_of
  subst this
  have sl:(firstMet (λi=>ns.getD i 0) ns.length).length<=sizeLine:=L1 (firstMet_length_le _ _) (fits_of_scanBound (Z5 hb))
  refine ⟨a,ns,rfl,SqL.of e1,hb,λp hp=>⟨p,_,rfl,iQ,sl,λp2 ms hp2 m1 m2=>?_⟩⟩
  have R1:=R.laid (o:=Yk P wd p (firstMet (λi=>ns.getD i 0) ns.length)) hp
  obtain⟨R',r'⟩:=R1.newOw (o:=.lst (ms.map V.int)) (d:=.list (ms.map u0)) hp2 (DaAll.ints ms)
  exact k _ _ F _ (Sub.refl _) R' r' (w ms m1 m2)
 | _=>exact (w:False).elim
section
variable {X:Cx}{K:Fg}{e1:Expr}{a:AD}{p p2 pos pos':Pos}
theorem PD(hc:X.calm=true)(hK:X.K=K)(hm:X.mg "sorted"=none)(hm2:X.mg "set"=none)(ha:WA X [e1] (CQ ([a].map (uQ K))))(hg:Gl X "sorted":=by rfl)(hg2:Gl X "set":=by rfl)(he:EQ e1=true:=by rfl) :
  WE X (.Call (.Name "sorted" p) [.Call (.Name "set" p2) [e1] [] pos'] [] pos) (lift K (UG [a] (o1 NM))):=by
 subst hK
 exact ⟨MV (pU (iG hc) hg hm boot_sorted (EV (jV (OD hc) hg2 hm2 boot_set ha.h (by decide) (by decide) (tQ he) (gX rfl)) DV (tQ rfl)) (by decide) (by decide) (tQ rfl) (gX rfl)) λq=>gD KE q⟩
end
end L3
namespace L2
open PySem PySem.Spec PyProof.Rows PySem.W
noncomputable abbrev qZ:=List Int×List Int
noncomputable def YZ(x y:qZ):Bool:=if x.1=y.1 then HT.lexLt x.2 y.2 else HT.lexLt x.1 y.1
theorem ltB_wk:SG.Wk YZ:=by
 have W:=SG.lex_wk
 refine ⟨λa=>?_,λa b c h1 h2=>?_,λa b c h1 h2=>?_⟩
 ·unfold YZ;rw[if_pos rfl];exact W.irr _
 ·unfold YZ at h1 h2 ⊢
  by_cases e1:a.1=b.1
  ·rw[if_pos e1]at h1
   by_cases e2:b.1=c.1
   ·rw[if_pos e2]at h2
    rw[if_pos (e1.trans e2)]
    exact W.tr _ _ _ h1 h2
   ·rw[if_neg e2]at h2
    rw[if_neg (by rw[e1];exact e2),e1]
    exact h2
  ·rw[if_neg e1]at h1
   by_cases e2:b.1=c.1
   ·rw[if_neg (by rw[<- e2];exact e1),<- e2]
    exact h1
   ·rw[if_neg e2]at h2
    have h3:=W.tr _ _ _ h1 h2
    rw[if_neg (λz=>by rw[z,W.irr]at h3;cases h3)]
    exact h3
 ·unfold YZ at h1 h2 ⊢
  by_cases e1:a.1=b.1
  ·rw[if_pos e1]at h1
   by_cases e2:b.1=c.1
   ·rw[if_pos e2]at h2
    rw[if_pos (e1.trans e2)]
    exact W.nt _ _ _ h1 h2
   ·rw[if_neg e2]at h2
    rw[if_neg (by rw[e1];exact e2),e1]
    exact h2
  ·rw[if_neg e1]at h1
   by_cases e2:b.1=c.1
   ·rw[if_neg (by rw[<- e2];exact e1),<- e2]
    exact h1
   ·rw[if_neg e2]at h2
    have h3:=W.nt _ _ _ h1 h2
    by_cases e3:a.1=c.1
    ·exfalso
     rw[<- e3]at h2
     exact e1 (SG.lex_eq h1 h2)
    ·rw[if_neg e3];exact h3
theorem bB{a b:qZ}(h1:YZ a b=false)(h2:YZ b a=false):a=b:=by
 unfold YZ at h1 h2
 by_cases e:a.1=b.1
 ·rw[if_pos e]at h1
  rw[if_pos e.symm]at h2
  have:=SG.lex_eq h1 h2
  cases a;cases b;cases e;cases this;rfl
 ·rw[if_neg e]at h1
  rw[if_neg (λz=>e z.symm)]at h2
  exact absurd (SG.lex_eq h1 h2) e
noncomputable def RZ(H:Hp)(c:Addr)(x:qZ):Prop:=∃a b,H c=some (.tup [.ref a,.ref b])/\H a=some (.tup (x.1.map V.int))/\H b=some (.tup (x.2.map V.int))
noncomputable def Pz(H:Hp):V->qZ
 | .ref c=>match H c with
  | some (.tup [x,y])=>(iU H x,iU H y)
  | _=>([],[])
 | _=>([],[])
theorem Qz{H:Hp}{c:Addr}{r:List Int}(h:H c=some (.tup (r.map V.int))):iU H (.ref c)=r:=by
 show (match H c with|some (.tup xs)=>xs.map qE|_=>[])=r
 rw[h]
 exact qJ r
theorem WJ(H:Hp)(c:Addr)(x:qZ)(h:RZ H c x):Pz H (.ref c)=x:=by
 obtain⟨a,b,h1,h2,h3⟩:=h
 show (match H c with|some (.tup [x,y])=>(iU H x,iU H y)|_=>([],[]))=x
 rw[h1]
 show (iU H (.ref a),iU H (.ref b))=x
 rw[Qz h2,Qz h3]
theorem NK{X:Cx}{pins:List (Addr×Obj)}{σ:St}{H:Hp}{s:Shared}{a b:Addr}{x y:List Int}{A:Around}(I:Inv X pins σ H s)(hu:A.units < cLine)(ha:H a=some (.tup (x.map V.int)))(hb:H b=some (.tup (y.map V.int))){s':Shared}(k:∀b o,s.heap.get? b=some o->s'.heap.get? b=some o) :
  SeqAt.EqAt A s' (.ref a) (.ref b) (decide (x=y)):=by
 by_cases e:a=b
 ·subst e
  rw[ha]at hb
  injection hb with hb;injection hb with hb
  rw[Bz hb,decide_eq_true rfl]
  exact SeqAt.EqAt.same _
 ·have I':Inv X pins σ H { s with heap:=s'.heap }:=I.kept (t':=s.toks) k
  obtain⟨_,ia,ra,ta⟩:=(show ObjOk X.prog X.w H s'.heap a (.tup (x.map V.int)) from I'.hok a _ ha)
  obtain⟨_,ib,rb,tb⟩:=(show ObjOk X.prog X.w H s'.heap b (.tup (y.map V.int)) from I'.hok b _ hb)
  have la:=ra.length
  have lb:=rb.length
  rw[A0]at la lb
  have h:=SeqAt.RcAt.tuples (A:=A) (s:=s') (e:=λk=>x.getD k 0==y.getD k 0) ta.t tb.t hu λj h1 h2=>by
   obtain⟨t1,e1⟩:=YK ra (k:=j) (by simpa using h1)
   obtain⟨t2,e2⟩:=YK rb (k:=j) (by simpa using h2)
   simp only[List.getElem_toArray]
   rw[e1,e2]
   exact SeqAt.EqAt.int_int _ _ _ _
  have hv:((X2 (min ia.toArray.size ib.toArray.size)).all (λk=>x.getD k 0==y.getD k 0)&&ia.toArray.size==ib.toArray.size)=decide (x=y):=by
   simp only[Z0,<- la,<- lb]
   by_cases z:x=y
   ·subst z
    rw[decide_eq_true rfl]
    simp
   ·rw[decide_eq_false z,u5]
    intro hb
    rw[L5,List.all_eq_true,beq_iff_eq]at hb
    refine z (N7 hb.2 λk k1 k2=>?_)
    have:=hb.1 k (o6.mpr (by omega))
    rw[beq_iff_eq,Y3,Y3,P0 k1,P0 k2]at this
    exact this
  rw[<- hv]
  exact SeqAt.EqAt.of_refs e h
theorem jG{X:Cx}(hu:X.A.units+2 < cLine):BX X (.builtin "sorted") (TJ X.K RZ Pz YZ):=by
 have hu1:X.A.in1.in1.units < cLine:=by show X.A.units+2 < cLine;exact hu
 refine eW (κ:=tuples' false) ltB_wk WJ (λ{pins s σ H} I its h2 at' s' k E' Q' q'=>?_) (λ{pins s σ H} I c d x y hx hy s' k Q' q'=>?_)
 ·have gen:∀(l:List Value),(∀v∈l,∃(c:Addr) (r:qZ),v=.ref c/\RZ H c r)->∃fs:List Value,KatTups s'.heap l fs/\fs.length=l.length/\∀v∈fs,Looks (model X.prog X.w) s'.heap (typeOf v) (.type "tuple"):=by
   intro l
   induction l with
   | nil=>intro _;exact ⟨[],.nil,rfl,λv hv=>by simp at hv⟩
   | cons v l ih =>
    intro hl
    obtain⟨fs,f1,f2,f3⟩:=ih λx hx=>hl x (K0 _ hx)
    obtain⟨c,r,rfl,a,b,hc,ha,hb⟩:=hl v O0
    obtain⟨_,itc,rc,ob,e1,e2,m,e3,_⟩:=(show ObjOk X.prog X.w H s.heap c (.tup [.ref a,.ref b]) from I.hok c _ hc)
    obtain⟨u1,u2,rfl,r1,r2⟩:=BY rc
    cases r1
    obtain⟨_,itb,rb,oa,g1,g2,_⟩:=(show ObjOk X.prog X.w H s.heap a (.tup (r.1.map V.int)) from I.hok a _ ha)
    refine ⟨.ref a :: fs,.cons (k _ _ e1) e2 e3 rfl f1,by simp[f2],λv hv=>?_⟩
    rcases V0.mp hv with rfl|hv
    ·have:=(show Looks (model X.prog X.w) s'.heap (typeOf (.ref a)) oa.cls from (Looks.ld (k _ _ g1)).andThen .now)
     rw[g2]at this
     exact this
    ·exact f3 v hv
  obtain⟨fs,f1,f2,f3⟩:=gen its at'
  exact kat_kind (T:=.type "tuple") f1 (by omega) f3 (by decide) q'
 ·obtain⟨a1,b1,hc1,ha1,hb1⟩:=hx
  obtain⟨a2,b2,hc2,ha2,hb2⟩:=hy
  obtain⟨_,ic,rc,oc,c1,c2,m1,c3,_⟩:=(show ObjOk X.prog X.w H s.heap c (.tup [.ref a1,.ref b1]) from I.hok c _ hc1)
  obtain⟨_,id',rd,od,d1,d2,m2,d3,_⟩:=(show ObjOk X.prog X.w H s.heap d (.tup [.ref a2,.ref b2]) from I.hok d _ hc2)
  obtain⟨u1,u2,rfl,r1,r2⟩:=BY rc
  cases r1;cases r2
  obtain⟨w1,w2,rfl,r3,r4⟩:=BY rd
  cases r3;cases r4
  have I':Inv X pins σ H { s with heap:=s'.heap }:=I.kept (t':=s.toks) k
  have lt1:∀{a b:Addr}{x y:List Int}{Q:Bool->Shared->Prop},H a=some (.tup (x.map V.int))->H b=some (.tup (y.map V.int))->Q (HT.lexLt x y) s'->wpAny (model X.prog X.w) X.A.in1.in1 (oneLt' false (.ref a) (.ref b)) Q (λ_ _=>False) s':=λ{a b x y Q} ha hb hq=>by
   obtain⟨_,ia,ra,ta⟩:=(show ObjOk X.prog X.w H s'.heap a (.tup (x.map V.int)) from I'.hok a _ ha)
   obtain⟨_,ib,rb,tb⟩:=(show ObjOk X.prog X.w H s'.heap b (.tup (y.map V.int)) from I'.hok b _ hb)
   exact kat_one _ _ (HT.lt_tupInts ta.t tb.t (KQ ra) (KQ rb) hu1 hq)
  refine kat_lt (k _ _ c1) c3 (k _ _ d1) d3 (kat_cons ?_)
  refine NK I hu1 ha1 ha2 k _ _ _ _ ?_
  unfold YZ at q'
  refine kat_go (λq=>kat_yes (kat_cons ?_)) (λq=>kat_no ?_)
  ·have q:=of_decide_eq_true q
   rw[if_pos q]at q'
   refine NK I hu1 hb1 hb2 k _ _ _ _ ?_
   refine kat_go (λz=>kat_yes ?_) (λz=>kat_no ?_)
   ·have z:=of_decide_eq_true z
    rw[z,SG.lex_wk.irr]at q'
    exact q'
   ·exact lt1 hb1 hb2 q'
  ·have q:=of_decide_eq_false q
   rw[if_neg q]at q'
   exact lt1 ha1 ha2 q'
end L2
namespace L3
open PySem PySem.Spec PyProof.Rows L2
noncomputable abbrev mQ(b:qZ):D:=.tuple [.tuple (b.1.map u0),.tuple (b.2.map u0)]
noncomputable def cB:D->(Sl->Prop)->Prop
 | .list ds,Q=>∃rows:List qZ,ds=rows.map mQ/\rows.length<=sizeLine/\∀rows':List qZ,rows'.Perm rows->rows'.Pairwise (λa b=>YZ b a=false)->Q (.ow (.list (rows'.map mQ)))
 | _,_=>False
theorem YV{K:Fg}{F:Hp}{v:V}{r:qZ}(h:Da K F v (mQ r)):∃c,v=.ref c/\RZ F c r:=by
 cases h with
 | tup h t =>
  cases t with
  | cons h1 t =>
   cases t with
   | cons h2 t =>
    cases t
    obtain⟨a,rfl,ha⟩:=vZ h1
    obtain⟨b,rfl,hb⟩:=vZ h2
    exact ⟨_,rfl,a,b,h,ha,hb⟩
theorem Zk{K:Fg}{F:Hp}{c:Addr}{r:qZ}(h:RZ F c r):Da K F (.ref c) (mQ r):=by
 obtain⟨a,b,h1,h2,h3⟩:=h
 exact .tup h1 (.cons (.tup h2 (DaAll.ints _)) (.cons (.tup h3 (DaAll.ints _)) .nil))
theorem Rz{K:Fg}:eX K (TJ K RZ Pz YZ) (o1 cB):=bx λG F σ H ρ x d Q Qd R h1 w k=>by
 cases d<;>first|exact w.elim|skip
 case list ds =>
  obtain⟨rows,e,hz,w⟩:=w
  subst e
  obtain⟨a,us,rfl,e1,d1⟩:=h1.list R.sub
  have hl:=d1.length
  rw[A0]at hl
  have hrep:∀v∈us,∃c r,v=.ref c/\RZ F c r/\r∈rows:=λv hv=>by
   obtain⟨d,hd,dv⟩:=d1.mem v hv
   obtain⟨r,hr,rfl⟩:=M0.mp hd
   obtain⟨c,rfl,hc⟩:=YV dv
   exact ⟨c,r,rfl,hc,hr⟩
  have up:∀{c:Addr}{r:qZ},RZ F c r->RZ H c r:=λ{c r} ⟨a,b,h1,h2,h3⟩=>⟨a,b,R.sub _ _ h1,R.sub _ _ h2,R.sub _ _ h3⟩
  have hfe:∀v∈us,Pz H v=Pz F v:=λv hv=>by
   obtain⟨c,r,rfl,hc,_⟩:=hrep v hv
   rw[WJ F c r hc,WJ H c r (up hc)]
  refine ⟨a,us,rfl,SqL.of e1,by omega,λv hv=>?_,λp us' hp p' o'=>?_⟩
  ·obtain⟨c,r,rfl,hc,_⟩:=hrep v hv
   exact ⟨c,r,rfl,up hc⟩
  ·have em:us.map (Pz F)=rows:=by
    refine DaAll.map_eq (K:=K) (F:=F) (g:=mQ) (λv a h=>?_) d1
    obtain⟨c,rfl,hc⟩:=YV h
    exact WJ F c a hc
   have ee:us'.map (Pz H)=us'.map (Pz F):=V4 λv hv=>hfe v (p'.mem_iff.mp hv)
   rw[ee]at o'
   have dall:DaAll K F us' ((us'.map (Pz F)).map mQ):=by
    rw[Q0]
    refine DaAll.map_of λv hv=>?_
    obtain⟨c,r,rfl,hc,_⟩:=hrep v (p'.mem_iff.mp hv)
    show Da K F (.ref c) (mQ (Pz F (.ref c)))
    rw[WJ F c r hc]
    exact Zk hc
   obtain⟨R',r'⟩:=R.newOw (o:=.lst us') (d:=.list _) hp dall
   exact k _ _ F _ (Sub.refl _) R' r' (w _ (by rw[<- em];exact p'.map _) o')
theorem YU{X:Cx}{K:Fg}(h:X.K=K)(hu:X.A.units+2 < cLine):BX X (.builtin "sorted") (TJ K RZ Pz YZ):=by subst h;exact jG hu
end L3
namespace L2
open PySem PySem.Spec PyProof.Rows
noncomputable def OK(e l:Nat->Bool)(b:Bool):Nat->Nat->Bool
 | _,0=>b
 | k,m+1=>if e k=true then OK e l b (k+1) m else l k
section
open PySem.SeqAt
open PySem.AutoSeq1 (wpAny_loadPart')
open PySem.MeetsSeq PySem.MeetsSeq2 PySem.MeetsSeq3
theorem vK(l b:Addr)(items items2:Array Value)(n n2:Nat)(dd dd2:Option Addr)(sl sl2:Array (Option Value))(e lt:Nat->Bool) :
  Meets (Builtin.«tuple.__lt__» ⟨[.ref l,.ref b],[]⟩) (λA R s=>s.heap.get? l=some { cls:=.type "tuple",dict:=dd,data:=.seq items n,slots:=sl }/\s.heap.get? b=some { cls:=.type "tuple",dict:=dd2,data:=.seq items2 n2,slots:=sl2 } /\
    (∀(k:Nat) (x y:Value),items[k]?=some x->items2[k]?=some y->SeqAt.EqAt A.in1 s x y (e k)) /\
    (∀(k:Nat) (x y:Value),items[k]?=some x->items2[k]?=some y->e k=false->∀(prog:Program) (w:World) (E:Value->Shared->Prop) (Q:Value->Shared->Prop),Q (.bool (lt k)) s->wpAny (model prog w) A.in1 (richCompare .Lt x y) Q E s) /\
    R (.ok (.ret (.bool (OK e lt (decide (items.size < items2.size)) 0 (min items.size items2.size))))) s):=.of_wp λprog w A R s h=>by
 obtain⟨hp,g,d,tk,os⟩:=s
 obtain⟨hl,hb,hE,hL,h⟩:=h
 have f2:=AutoSeq1.sub_tuple_tuple
 wp_walk using wpAny_loadPart' hl,wpAny_loadPart' hb,wpAny_forIn_list _ (λrest b s'=>b.1=none/\s'=⟨hp,g,d,tk,os⟩/\∃k,rest=(items.toList.zip items2.toList).drop k/\k<=min items.size items2.size/\R (.ok (.ret (.bool (OK e lt (decide (items.size < items2.size)) k (min items.size items2.size - k))))) ⟨hp,g,d,tk,os⟩) _
 case turn =>
  rintro⟨y,x⟩ rest b s' ⟨hb',rfl,k,hz,hk,hR⟩
  have hlt:k < (items.toList.zip items2.toList).length:=by
   by_cases q:k < (items.toList.zip items2.toList).length
   ·exact q
   ·rw[t7 (by omega)]at hz;cases hz
  rw[u4 hlt]at hz
  injection hz with hyx hrest
  rw[Q6]at hyx
  injection hyx with hy hx
  rw[P1,T0,T0]at hlt
  have g1:items[k]?=some y:=by rw[hy,<- Q2];exact P0 _
  have g2:items2[k]?=some x:=by rw[hx,<- Q2];exact P0 _
  obtain⟨m,hm⟩:∃m,min items.size items2.size - k=m+1:=⟨min items.size items2.size - k - 1,by omega⟩
  rw[hm]at hR
  refine wpAny_bind (hE k y x g1 g2 prog w _ _ ?_)
  have hR:R (.ok (.ret (.bool (if e k=true then OK e lt (decide (items.size < items2.size)) (k+1) m else lt k)))) ⟨hp,g,d,tk,os⟩:=hR
  cases he:e k with
  | true =>
   rw[he,if_pos rfl]at hR
   wp_walk
   exact ⟨rfl,rfl,k+1,hrest,by omega,by rw[show min items.size items2.size - (k+1)=m by omega];exact hR⟩
  | false =>
   rw[he,if_neg J1]at hR
   have hri:=hL k y x g1 g2 he prog w
   wp_walk using hri
   exact ⟨_,rfl,by simpa using hR⟩
 case fin =>
  rintro⟨b1,b2⟩ s' ⟨hb',rfl,k,hz,hk,hR⟩
  simp only at hb'
  subst hb'
  have hk2:min items.size items2.size - k=0:=by
   have:=congrArg L4 hz
   rw[J7,P1,T0,T0]at this
   simp at this
   omega
  rw[hk2]at hR
  have hR:R (.ok (.ret (.bool (decide (items.size < items2.size))))) ⟨hp,g,d,tk,os⟩:=hR
  wp_walk
  exact ⟨_,rfl,by simpa [y7]using hR⟩
 case h =>
  exact ⟨rfl,rfl,0,rfl,Q3 _,h⟩
end
section
variable {prog:Program}{w:World}{A:Around}{R:Result->Shared->Prop}{I:Addr}{fp wr:List Addr}{n:Nat}{P:Nat->Value->Prop}{St:Nat->Heap->Prop}{base:Heap}
end
end L2
namespace L3
open PySem PySem.Spec PyProof.Rows L2
end L3
namespace L2
open PySem PySem.Spec PyProof.Rows PySem.W
theorem dB{X:Cx}{pins:List (Addr×Obj)}{σ:St}{H:Hp}{s:Shared}{c d:Addr}{x y:qZ}{A:Around}(I:Inv X pins σ H s)(hu:A.units+1 < cLine)(hx:RZ H c x)(hy:RZ H d y):SeqAt.EqAt A s (.ref c) (.ref d) (decide (x=y)):=by
 by_cases e:c=d
 ·subst e
  have:=(WJ H c x hx).symm.trans (WJ H c y hy)
  rw[decide_eq_true this]
  exact SeqAt.EqAt.same _
 ·obtain⟨a1,b1,hc1,ha1,hb1⟩:=hx
  obtain⟨a2,b2,hc2,ha2,hb2⟩:=hy
  obtain⟨_,ic,rc,tc⟩:=(show ObjOk X.prog X.w H s.heap c (.tup [.ref a1,.ref b1]) from I.hok c _ hc1)
  obtain⟨_,id',rd,td⟩:=(show ObjOk X.prog X.w H s.heap d (.tup [.ref a2,.ref b2]) from I.hok d _ hc2)
  obtain⟨u1,u2,rfl,r1,r2⟩:=BY rc
  obtain⟨w1,w2,rfl,r3,r4⟩:=BY rd
  cases r1;cases r2;cases r3;cases r4
  have hu1:A.in1.units < cLine:=hu
  have h:=SeqAt.RcAt.tuples (A:=A) (s:=s) (e:=λk=>if k=0 then decide (x.1=y.1) else decide (x.2=y.2)) tc.t td.t (Z5 hu) λj h1 h2=>by
   rcases j with _|_|j
   ·exact NK I hu1 ha1 ha2 λ_ _ z=>z
   ·exact NK I hu1 hb1 hb2 λ_ _ z=>z
   ·exact absurd h1 (by simp)
  have hv:((X2 (min #[U1 a1,U1 b1].size #[U1 a2,U1 b2].size)).all (λk=>if k=0 then decide (x.1=y.1) else decide (x.2=y.2))&&#[U1 a1,U1 b1].size==#[U1 a2,U1 b2].size)=decide (x=y):=by
   show ((X2 2).all (λk=>if k=0 then decide (x.1=y.1) else decide (x.2=y.2))&&true)=_
   rw[show X2 2=[0,1] from rfl,B6]
   cases x;cases y
   simp
  rw[<- hv]
  exact SeqAt.EqAt.of_refs e h
noncomputable def mN(H:Hp)(x:qZ)(y:Value):Bool:=@decide (∃c,y=.ref c/\RZ H c x) (Classical.propDecidable _)
end L2
namespace L3
open PySem PySem.Spec PyProof.Rows L2
section
variable {X:Cx}{K:Fg}{e1 e2:Expr}{a b:AD}{pos:Pos}
end
end L3
namespace L2
open PySem PySem.Spec PyProof.Rows
section
variable {prog:Program}{w:World}{A:Around}{E:Value->Shared->Prop}{s:Shared}
theorem PK:W7 "dict_itemiterator"=true:=by decide
theorem qY(d:Addr):¬((U1 d==A3)=true):=J1
theorem aw{it d:Addr}{i ep:Nat}{es:Array DictEntry}{ok ov:Value}{od:Obj}{Q:Option Value->Shared->Prop}(x:IsItemIter s.heap it d i es.size ep ok ov)(y:s.heap.get? d=some od)(yd:od.data=.dict es ep)(hi:i < es.size)
  (q:∀h',IsItemIterOut h' it d (i+1) es.size ep es[i].key es[i].val s.heap.objs.size->h'.get? s.heap.objs.size=some { cls:=.type "tuple",data:=.seq #[es[i].key,es[i].val] }->h'.objs.size=s.heap.objs.size+1 ->
    (∀b o,b≠it->s.heap.get? b=some o->h'.get? b=some o)->Q (some (.ref s.heap.objs.size)) { s with heap:=h' }) :
  wpAny (model prog w) A (pyNext (.ref it)) Q E s:=by
 obtain⟨hp,g,dr,tk,os⟩:=s
 have ty:Shared.TypeIs ⟨hp,g,dr,tk,os⟩ (.ref it) "dict_itemiterator":=⟨_,x,rfl⟩
 have lt0:it < hp.objs.size:=L0 x
 have ne0:hp.objs.size≠it:=Z1 lt0
 unfold pyNext
 refine wpAny_bind (wpAny_attempt (wpAny_callSpecial?_slot (name:=Str.ofString "__next__") ty F.slot_dict_itemiterator_next (wpAny_call_entry F.slot_dict_itemiterator_next ty F.entry_dict_itemiterator_next ?_ (F.args_dict_itemiterator_next_1 _))))
 refine wpAny_bind (wpAny_pure (wpAny_bind (wpAny_bind ?_)))
 first|refine wpAny_bind (wpAny_typeNameOfWhole_itemiter ty (wpAny_pure ?_))|refine wpAny_bind (wpAny_typeNameOf_itemiter ty (wpAny_pure ?_))
 refine wpAny_bind (wpAny_fieldsOf x rfl ?_)
 simp only[PK,if_true]
 show wpAny _ _ (if (U1 d==A3)=true then _ else _) _ _ _
 rw[if_neg (qY d)]
 refine wpAny_bind (wpAny_pure (wpAny_bind (wpAny_dictEntries y yd ?_)))
 rw[if_neg (by simp)]
 refine wpAny_bind (wpAny_pure (wpAny_bind (wpAny_dictEpoch y yd ?_)))
 rw[if_neg (by simp)]
 refine wpAny_pure ?_
 simp only[show ¬((i:Int) < 0) from by omega,if_false,S4,T2 hi]
 refine wpAny_bind ?_
 first|refine wpAny_bind (wpAny_typeNameOfWhole_itemiter ty (wpAny_pure ?_))|refine wpAny_bind (wpAny_typeNameOf_itemiter ty (wpAny_pure ?_))
 refine wpAny_bind (wpAny_isOneOf_itemiter ty ?_)
 show wpAny _ _ (setField (.ref it) 3 (rawInt ((i:Int)+1)) >>= _) _ _ ⟨hp,g,dr,tk,os⟩
 refine wpAny_bind (wpAny_setField_rec x (by simp) λh1 x1 s1=>?_)
 have s1:J2 it hp h1:=s1
 have x1:IsItemIter h1 it d (i+1) es.size ep ok ov:=by
  unfold IsItemIter
  rw[show ((i+1:Nat):Int)=(i:Int)+1 by omega]
  simpa [rawInt]using x1
 have ty1:Shared.TypeIs ⟨h1,g,dr,tk,os⟩ (.ref it) "dict_itemiterator":=⟨_,x1,rfl⟩
 refine wpAny_bind (wpAny_holding (wpAny_bind (wpAny_isOneOf_itemiter ty1 (wpAny_bind (wpAny_isOneOf_itemiter ty1 ?_)))))
 show wpAny _ _ (v7 (.ref it) 6 es[i].key es[i].val) _ _ ⟨h1,g,dr,tk,os⟩
 unfold v7
 refine wpAny_bind (wpAny_newTuple ?_)
 have z1:h1.objs.size=hp.objs.size:=s1.1
 obtain⟨h2,e2⟩:∃h2,h2=h1.push { cls:=.type "tuple",data:=.seq #[es[i].key,es[i].val] }:=⟨_,rfl⟩
 have x2:IsItemIter h2 it d (i+1) es.size ep ok ov:=by rw[e2];exact j0 _ x1
 have t2:h2.get? hp.objs.size=some { cls:=.type "tuple",data:=.seq #[es[i].key,es[i].val] }:=by rw[e2,<- z1];exact G0 _ rfl
 have z2:h2.objs.size=hp.objs.size+1:=by rw[e2,O1,z1]
 have k2:∀b o,b≠it->hp.get? b=some o->h2.get? b=some o:=λb o hb e=>by rw[e2];exact j0 _ (s1.extBut b o hb e)
 rw[<- e2]
 show wpAny _ _ (T6 (.ref it) >>= _) _ _ ⟨h2,g,dr,tk,os⟩
 rw[z1]
 refine wpAny_bind ?_
 unfold T6
 refine wpAny_bind (wpAny_field x2 rfl (x:=.none) rfl (wpAny_pure ?_))
 simp only[if_true]
 refine wpAny_bind (wpAny_field x2 rfl (x:=ok) rfl (wpAny_bind (wpAny_field x2 rfl (x:=ov) rfl ?_)))
 refine wpAny_bind (wpAny_setField_rec x2 (by simp) λh3 x3 s3=>?_)
 have s3:J2 it h2 h3:=s3
 have x3:IsItemIter h3 it d (i+1) es.size ep es[i].key ov:=x3
 refine wpAny_bind (wpAny_setField_rec x3 (by simp) λh4 x4 s4=>?_)
 have s4:J2 it h3 h4:=s4
 have x4:IsItemIter h4 it d (i+1) es.size ep es[i].key es[i].val:=x4
 refine wpAny_bind (wpAny_setField_rec x4 (by simp) λh5 x5 s5=>?_)
 have s5:J2 it h4 h5:=s5
 have x5:IsItemIterOut h5 it d (i+1) es.size ep es[i].key es[i].val hp.objs.size:=x5
 refine wpAny_bind (wpAny_setField_rec x5 (by simp) λh6 x6 s6=>?_)
 have s6:J2 it h5 h6:=s6
 have go:∀b o,b≠it->h2.get? b=some o->h6.get? b=some o:=λb o hb e=>s6.extBut b o hb (s5.extBut b o hb (s4.extBut b o hb (s3.extBut b o hb e)))
 refine wpAny_bind (wpAny_letGo (wpAny_pure (wpAny_pure ⟨_,rfl,wpAny_pure (q h6 x6 (go _ _ ne0 t2) ?_ λb o hb e=>go b o hb (k2 b o hb e))⟩)))
 show h6.objs.size=hp.objs.size+1
 rw[s6.1,s5.1,s4.1,s3.1,z2]
theorem eB{it d:Addr}{i ep:Nat}{es:Array DictEntry}{ok ov:Value}{od:Obj}{Q:Option Value->Shared->Prop}(hh:A.handled=none)(x:IsItemIter s.heap it d i es.size ep ok ov)(y:s.heap.get? d=some od)(yd:od.data=.dict es ep)(hi:es.size<=i)
  (q:∀h',i9 it s.heap h'->Q none { s with heap:=h' }):wpAny (model prog w) A (pyNext (.ref it)) Q E s:=by
 have ty:s.TypeIs (.ref it) "dict_itemiterator":=⟨_,x,rfl⟩
 unfold pyNext
 refine wpAny_bind (wpAny_attempt (wpAny_callSpecial?_slot (name:=Str.ofString "__next__") ty F.slot_dict_itemiterator_next (wpAny_call_entry F.slot_dict_itemiterator_next ty F.entry_dict_itemiterator_next ?_ (F.args_dict_itemiterator_next_1 _))))
 refine wpAny_bind (wpAny_pure (wpAny_bind (wpAny_bind ?_)))
 first|refine wpAny_bind (wpAny_typeNameOfWhole_itemiter ty (wpAny_pure ?_))|refine wpAny_bind (wpAny_typeNameOf_itemiter ty (wpAny_pure ?_))
 refine wpAny_bind (wpAny_fieldsOf x rfl ?_)
 simp only[PK,if_true]
 show wpAny _ _ (if (U1 d==A3)=true then _ else _) _ _ s
 rw[if_neg (qY d)]
 refine wpAny_bind (wpAny_pure (wpAny_bind (wpAny_dictEntries y yd ?_)))
 rw[if_neg (by simp)]
 refine wpAny_bind (wpAny_pure (wpAny_bind (wpAny_dictEpoch y yd ?_)))
 rw[if_neg (by simp)]
 refine wpAny_pure ?_
 simp only[show ¬((i:Int) < 0) from by omega,if_false,S4,A6 hi]
 refine wpAny_bind ?_
 first|refine wpAny_bind (wpAny_typeNameOfWhole_itemiter ty (wpAny_pure ?_))|refine wpAny_bind (wpAny_typeNameOf_itemiter ty (wpAny_pure ?_))
 show wpAny _ _ (setField (.ref it) 2 .none >>= _) _ _ s
 refine wpAny_bind (wpAny_setField x rfl (by simp) ?_)
 show wpAny _ _ (newExc (.type "StopIteration") [] >>= _) _ _ _
 refine wpAny_bind ?_
 simp only[newExc,newTuple]
 refine wpAny_bind (wpAny_newObj_type ?_ (by size_fits))
 refine wpAny_bind (m:=firstArgMember _ _) (wpAny_of_eq (a:=A3) (by first|rfl|(simp only[firstArgMember];rfl)) ?_)
 refine wpAny_newObj_type ?_ (by size_fits)
 simp only[raiseNew]
 refine wpAny_bind (wpAny_handled ?_)
 rw[show A.in1.handled=none from hh]
 refine wpAny_bind (wpAny_pure (wpAny_throw ?_))
 refine wpAny_bind (wpAny_isInstance (b:=true) (T:="StopIteration") ⟨_,G0 _ rfl,rfl⟩ isSubtype_stop ?_)
 exact wpAny_pure (q _ (((U2 ..).extBut.push _).push _))
theorem bw{v d:Addr}{es:Array DictEntry}{ep:Nat}{od:Obj}{Q:Value->Shared->Prop}(hv:s.heap.IsItemsView v d)(y:s.heap.get? d=some od)(yd:od.data=.dict es ep)
  (q:Q (.ref s.heap.objs.size) { s with heap:=s.heap.push { cls:=.type "dict_itemiterator",data:=.fields #[.none,.bool false,.ref d,.int 0 0,.int es.size 0,.int ep 0,.none,.none] } }) :
  wpAny (model prog w) A (pyIter (.ref v)) Q E s:=by
 obtain⟨ov,e1,e2,e3⟩:=id hv
 refine wpAny_pyIter_slot hv.typeIs F.slot_dict_items_iter (wpAny_call_entry F.slot_dict_items_iter hv.typeIs F.entry_dict_items_iter ?_ (F.args_dict_items_iter_1 _))
 unfold Builtin.«dict_items.__iter__»
 refine wpAny_bind (wpAny_pure (wpAny_bind ?_))
 unfold Builtin.Dict_items.dictOf
 refine wpAny_bind (wpAny_field e1 e3 (x:=.ref d) rfl (wpAny_pure (wpAny_bind ?_)))
 unfold Builtin.Dict_items.newIterator
 refine wpAny_bind (wpAny_dictEntries y yd (wpAny_bind (wpAny_dictEpoch y yd ?_)))
 simp only[PK,if_true]
 refine wpAny_newObj_type (wpAny_pure ⟨_,rfl,"dict_itemiterator",_,⟨_,G0 _ rfl,rfl⟩,F.slot_dict_itemiterator_next.lookup,?_⟩)
  (by simp only[sizeOk,U6,Z0,A1,X1,J4,sizeLine_eq];omega)
 simpa [rawInt,U6]using q
end
theorem QK:entryFor table "dict_itemiterator.__iter__"=some Builtin.«dict_keyiterator.__iter__»:=entryFor_alias (id':="dict_keyiterator.__iter__") (by kernel_rfl) (by decide +kernel) (by decide +kernel) (by kernel_rfl)
noncomputable def gL{κ:Type}(hs:κ->Int)(d d':Addr)(ep:Nat)(xs:List (κ×Addr×V)):It :=
 ⟨λi H=>H d=some (TQ hs d' ep xs)/\i < xs.length,
  λi H x H'=>∃T k b v,H T=none/\x=.ref T/\H'=NQ H T (.tup [.ref b,v])/\xs[i]?=some (k,b,v),
  λi H=>H d=some (TQ hs d' ep xs)/\xs.length<=i⟩
theorem rY{α β:Type}{R:α->β->Prop}:∀{l:List α}{m:List β},Paired R l m->∀{i:Nat}{x:α},l[i]?=some x->∃y,m[i]?=some y/\R x y
 | _,_,.nil,i,x,h=>by simp at h
 | _,_,.cons r t,0,x,h=>by
  simp only[R8,Option.some.injEq]at h
  subst h
  exact ⟨_,rfl,r⟩
 | _,_,.cons r t,i+1,x,h=>by
  simp only[V3]at h
  obtain⟨y,e,ry⟩:=rY t h
  exact ⟨y,e,ry⟩
section
variable {κ:Type}{hs:κ->Int}
theorem Sz{P:Program}{w:World}{H:Hp}{h:Heap}{d d':Addr}{ep:Nat}{xs:List (κ×Addr×V)}(e:ObjOk P w H h d (TQ hs d' ep xs)):d'=d:=by
 obtain⟨f,⟨o,ho⟩,st⟩:=e
 by_cases z:d'=d
 ·exact z
 exfalso
 obtain⟨⟨vs,pr,o',es,e1,e2,e3,e4⟩,_⟩:=id f
 obtain⟨⟨vs2,_,o2,es2,g1,g2,_⟩,_⟩:=st h (h.update d' λ_=>{ cls:=.type "tuple",data:=.seq #[] }) f λq hq=>by rw[Y7 _ d d' _ (Z2 z)];exact hq
 have g3:(h.update d' λ_=>{ cls:=.type "tuple",data:=.seq #[] }).get? d'=some { cls:=.type "tuple",data:=.seq #[] }:=K2 _ e1 rfl
 rw[g3]at g1
 injection g1 with g1
 rw[<- g1]at g2
 exact absurd g2.1 (by decide)
theorem ext_at{X:Cx}{pins:List (Addr×Obj)}{σ:St}{H:Hp}{s:Shared}{d d':Addr}{ep:Nat}{xs:List (κ×Addr×V)}(I:Inv X pins σ H s)(e:H d=some (TQ hs d' ep xs)) :
  ∃(vs:List (κ×Addr×Value)) (o:Obj) (es:Array DictEntry),Paired (λx v=>x.1=v.1/\x.2.1=v.2.1/\RelV x.2.2 v.2.2) xs vs/\s.heap.get? d=some o/\o.ExactDict/\o.data=.dict es ep/\(es.toList=vs.map λx=>⟨hs x.1,.ref x.2.1,x.2.2⟩)/\es.size=xs.length/\(xs.map (·.1)).Nodup/\xs.length<=sizeLine/\(d==sysModules)=false:=by
 have ed:=Sz (show ObjOk X.prog X.w H s.heap d (TQ hs d' ep xs) from I.hok d _ e)
 subst ed
 obtain⟨⟨⟨vs,pr,o,es,e1,e2,e3,e4⟩,nd,hl,hm⟩,_⟩:=(show ObjOk X.prog X.w H s.heap d' (TQ hs d' ep xs) from I.hok d' _ e)
 refine ⟨vs,o,es,pr,e1,e2,e3,e4,?_,nd,hl,hm⟩
 have:=congrArg L4 e4
 rw[A0,<- pr.length]at this
 simpa using this
theorem kG{P:Program}{w:World}{K:J0}{ts:List Expr}{kk:Nat}{pos:Pos}(it d d':Addr)(ep:Nat)(xs:List (κ×Addr×V))(ne:d≠it):Turn P w K (.Tuple ts kk pos) (gL hs d d' ep xs) [it] it
  (λi h=>∃ok ov,IsItemIter h it d i xs.length ep ok ov) where
 mem:=by simp
 obj:=λi h st b hb=>by
  obtain⟨ok,ov,he⟩:=st
  have hb:b=it:=by simpa using hb
  subst hb
  exact ⟨_,he,λv e=>by cases e⟩
 keep:=λi h h' st kp=>by
  obtain⟨ok,ov,he⟩:=st
  exact ⟨ok,ov,kp _ (by simp) _ he⟩
 item:=by
  intro X hP hw hK hc i pins s σ H E I hf st hg
  subst hP hw hK
  obtain⟨ok,ov,he⟩:=st
  obtain⟨hd,hi⟩:=hg
  obtain⟨vs,o,es,pr,e1,e2,e3,e4,hz,_⟩:=ext_at I hd
  obtain⟨⟨k,b,v⟩,hx⟩:∃x,xs[i]?=some x:=⟨_,P0 hi⟩
  obtain⟨⟨k',b',u⟩,hv,r1,r2,r3⟩:=rY pr hx
  have r2:b=b':=r2
  subst r2
  have r3:RelV v u:=r3
  have hi':i < es.size:=by rw[hz];exact hi
  have hent:es[i]=⟨hs k',.ref b,u⟩:=by
   have q:es.toList[i]?=some (⟨hs k',.ref b,u⟩:DictEntry):=by rw[e4,X0,hv];rfl
   have q2:es.toList[i]?=some es[i]:=by simp[hi']
   rw[q2]at q
   exact V1 q
  rw[<- hz]at he
  refine aw he e1 e3 hi' λh' b1 b3 b4 b5=>?_
  rw[hent]at b1 b3
  have hTn:s.heap.objs.size≠it:=Z1 (L0 he)
  refine ⟨_,rfl,wpAny_letOwnedTupleGo_items (s:={ s with heap:=h' }) b1 λh2 he2 hs2=>?_⟩
  have kp:∀c oc,c∉[it]->s.heap.get? c=some oc->h2.get? c=some oc:=λc oc hc' ec=>by
   have hc':c≠it:=by simpa using hc'
   exact hs2.extBut _ _ hc' (b5 c oc hc' ec)
  have hT2:h2.get? s.heap.objs.size=some { cls:=.type "tuple",data:=.seq #[.ref b,u] }:=hs2.extBut _ _ hTn b3
  have hfr:H s.heap.objs.size=none:=I.hok.fresh (R0 _)
  have I2:Inv X pins σ (NQ H s.heap.objs.size (.tup [.ref b,v])) { s with heap:=h2 }:=by
   have nfp:∀c y,H c=some y->c∉[it]:=λc y ec hb=>by have:=(hf c hb).1;rw[ec]at this;cases this
   refine I.step (g':=s.gens) (d':=s.drawn) (ch:=[it]) (λc hb=>?_) (λc oc _ _ hc' ec _=>kp c oc hc' ec) (λc oc _ _ hc' ec _=>⟨oc.slots,kp c oc hc' ec⟩) (λc oc _ ec n=>?_)
    (λc oc hc' ec=>⟨oc,kp c oc hc' ec⟩) (λc zs ec=>?_) (λc oc zs ec=>?_) (λc zs ec=>⟨#[],?_⟩) (λm hm=>?_) (λc oc ec=>?_) I.bare
   ·obtain⟨f0,f1,f2,f3,f4,f5⟩:=hf c hb
    exact ⟨f3,f1,f4,f5⟩
   ·rw[dQ (W0 (L0 ec))];exact n
   ·rw[dQ (jQ ec hfr)];exact ec
   ·rw[dQ (jQ ec hfr)];exact ec
   ·rw[dQ (jQ ec hfr),ec];simp
   ·obtain⟨om,es',ep',ho,r⟩:=hm
    exact ⟨om,es',ep',kp _ om (λhb=>(hf _ hb).2.1 rfl) ho,r⟩
   ·by_cases hb:c=s.heap.objs.size
    ·subst hb
     rw[iQ]at ec
     cases ec
     exact ⟨by show 2<=sizeLine;decide,[.ref b,u],.cons rfl (.cons r3 .nil),_,hT2,rfl,_,rfl,rfl⟩
    ·rw[dQ hb]at ec
     refine (I.hok c oc ec).stay (λe y hc' q=>kp e y ?_ q) (λe q=>by rw[dQ (jQ q hfr)];exact q) λe zs q=>by rw[dQ (jQ q hfr)];exact q
     rcases hc' with rfl|hc'
     ·exact nfp _ _ ec
     ·exact nfp _ _ hc'
  refine ⟨.ref s.heap.objs.size,_,I2,rfl,⟨_,k,b,v,hfr,rfl,rfl,hx⟩,⟨_,_,by rw[<- hz];exact he2⟩,λc hb=>?_⟩
  have hb:c=it:=by simpa using hb
  subst hb
  rw[dQ (Z2 hTn)]
  exact (hf c (by simp)).1
 done:=by
  intro X hP hw hK hc i pins s σ H E I hf st hg
  subst hP hw hK
  obtain⟨ok,ov,he⟩:=st
  obtain⟨hd,hi⟩:=hg
  obtain⟨vs,o,es,pr,e1,e2,e3,e4,hz,_⟩:=ext_at I hd
  rw[<- hz]at he
  refine eB (I.ok.hd hc) he e1 e3 (by omega) λh' hx=>⟨rfl,?_⟩
  have nfp:∀c y,H c=some y->c∉[it]:=λc y ec hb=>by have:=(hf c hb).1;rw[ec]at this;cases this
  have kp:∀c oc,c∉[it]->s.heap.get? c=some oc->h'.get? c=some oc:=λc oc hc' ec=>hx c oc (by simpa using hc') ec
  refine I.step (g':=s.gens) (d':=s.drawn) (ch:=[it]) (λc hb=>?_) (λc oc _ _ hc' ec _=>kp c oc hc' ec) (λc oc _ _ hc' ec _=>⟨oc.slots,kp c oc hc' ec⟩) (λc oc _ ec n=>n)
   (λc oc hc' ec=>⟨oc,kp c oc hc' ec⟩) (λc zs ec=>ec) (λc oc zs ec=>ec) (λc zs ec=>⟨#[],by rw[ec];simp⟩) (λm hm=>?_) (λc oc ec=>?_) I.bare
  ·obtain⟨f0,f1,f2,f3,f4,f5⟩:=hf c hb
   exact ⟨f3,f1,f4,f5⟩
  ·obtain⟨om,es',ep',ho,r⟩:=hm
   exact ⟨om,es',ep',kp _ om (λhb=>(hf _ hb).2.1 rfl) ho,r⟩
  ·refine (I.hok c oc ec).stay (λe y hc' q=>kp e y ?_ q) (λ_ q=>q) λ_ _ q=>q
   rcases hc' with rfl|hc'
   ·exact nfp _ _ ec
   ·exact nfp _ _ hc'
 self:=λ_ _ s _ _ st h=>by
  obtain⟨ok,ov,he⟩:=st
  have ty:s.TypeIs (.ref it) "dict_itemiterator":=⟨_,he,rfl⟩
  refine wpAny_pyIter_slot ty PySem.F.slot_dict_itemiterator_iter (wpAny_call_entry PySem.F.slot_dict_itemiterator_iter ty QK ?_ (PySem.F.args_dict_itemiterator_iter_1 _))
  show wpAny _ _ (ret (.ref it)) _ _ s
  exact wpAny_pure ⟨_,rfl,"dict_itemiterator",_,ty,PySem.F.slot_dict_itemiterator_next.lookup,h⟩
noncomputable def Tz(hs:κ->Int)(to:TE):TI:=λσ H R=>to σ H λx H1=>∃(d d':Addr) (ep:Nat) (xs:List (κ×Addr×V)),x=.ref d/\H1 d=some (TQ hs d' ep xs)/\R (gL hs d d' ep xs) H1
theorem lG{prog:Program}{w:World}{A:Around}{E:Value->Shared->Prop}{s:Shared}{d:Addr}{o:Obj}{Q:Value->Shared->Prop}(hm:(d==sysModules)=false)(e:s.heap.get? d=some o)(hx:o.ExactDict)
  (q:Q (.ref s.heap.objs.size) { s with heap:=s.heap.push { cls:=.type "dict_items",data:=.fields #[.ref d] } }):wpAny (model prog w) A (call (.builtin "dict.items") [.ref d]) Q E s:=by
 have ty:s.TypeIs (.ref d) "dict":=⟨o,e,hx.1⟩
 refine wpAny_call_entry PySem.F.slot_dict_items ty PySem.F.entry_dict_items ?_ (PySem.F.args_dict_items_1 _)
 unfold Builtin.«dict.items»
 refine wpAny_bind ?_
 unfold Builtin.Dict.noArgs
 refine wpAny_bind (wpAny_notOrdered_dict ty ?_)
 show wpAny _ _ (pure d) _ _ s
 refine wpAny_pure ?_
 show wpAny _ _ (J6 d >>= _) _ _ s
 unfold J6
 rw[if_neg (by rw[hm];decide)]
 exact wpAny_bind (wpAny_pure (wpAny_bind (wpAny_newObj_type (wpAny_pure ⟨_,rfl,q⟩))))
theorem Uz{X:Cx}{ts:List Expr}{kk:Nat}{tpos:Pos}{o:Expr}{to:TE}{apos cpos:Pos}(ho:PE X o to)
  (hbase:attributeBase o "items" X.env (eval o X.env)=eval o X.env:=by rfl) (hline:(apos.endLine==cpos.line)=true:=by rfl):PI X (.Tuple ts kk tpos) (.Call (.Attribute o "items" apos) [] [] cpos) (Tz hs to):=by
 intro pins s σ H R I h
 refine wpAny_Call_method0_late hbase hline (wX (ho pins s σ H _ I h) λv s1 ⟨x,H1,I1,r1,d,d',ep,xs,ex,hd,q1⟩=>?_)
 subst ex
 cases r1
 obtain⟨vs,ob,es,pr,e1,e2,e3,e4,hz,_,_,hm⟩:=ext_at I1 hd
 refine ⟨"dict","dict.items",PySem.F.plainAttrs_dict,PySem.F.slot_dict_items,PySem.F.type_dict_items,⟨ob,e1,e2.1⟩,λa z=>?_,Calls.callWith_builtin rfl (PySem.evalArgs_none (lG hm e1 e2 ?_))⟩
 ·cases z
  exact ⟨ob,e1,e2.2.1⟩
 have lt:d < s1.heap.objs.size:=L0 e1
 have g1:(s1.heap.push { cls:=.type "dict_items",data:=.fields #[.ref d] }).get? s1.heap.objs.size=some { cls:=.type "dict_items",data:=.fields #[.ref d] }:=G0 _ rfl
 have z1:(s1.heap.push { cls:=.type "dict_items",data:=.fields #[.ref d] }).objs.size=s1.heap.objs.size+1:=by simp[O1]
 refine bw (s:={ s1 with heap:=s1.heap.push { cls:=.type "dict_items",data:=.fields #[.ref d] } }) ⟨_,g1,rfl,rfl⟩ (j0 _ e1) e3 ?_
 show tL _ _ _ _ _ (.ref (s1.heap.push { cls:=.type "dict_items",data:=.fields #[.ref d] }).objs.size) _
 rw[z1,hz]
 have gE:((s1.heap.push { cls:=.type "dict_items",data:=.fields #[.ref d] }).push { cls:=.type "dict_itemiterator",data:=.fields #[.none,.bool false,.ref d,.int 0 0,.int xs.length 0,.int ep 0,.none,.none] }).get? (s1.heap.push { cls:=.type "dict_items",data:=.fields #[.ref d] }).objs.size=some { cls:=.type "dict_itemiterator",data:=.fields #[.none,.bool false,.ref d,.int 0 0,.int xs.length 0,.int ep 0,.none,.none] }:=G0 _ rfl
 rw[z1]at gE
 have kp:∀b oc,s1.heap.get? b=some oc->((s1.heap.push { cls:=.type "dict_items",data:=.fields #[.ref d] }).push { cls:=.type "dict_itemiterator",data:=.fields #[.none,.bool false,.ref d,.int 0 0,.int xs.length 0,.int ep 0,.none,.none] }).get? b=some oc:=λb oc e=>j0 _ (j0 _ e)
 refine ⟨_,[s1.heap.objs.size+1],_,_,H1,rfl,I1.kept (t':=s1.toks) kp,kG (hs:=hs) (s1.heap.objs.size+1) d d' ep xs (W0 (S3 lt)),⟨.none,.none,gE⟩,λb hb=>?_,q1⟩
 have hb:b=s1.heap.objs.size+1:=by simpa using hb
 subst hb
 exact I1.fpOk (U5 _) (I1.hok.fresh (U5 _))
end
noncomputable def OM(K:J0):List V->Hp->VK->Prop:=λvs H1 Q=>∃(k1:Kd) (l1:Addr) (k2:Kd) (l2:Addr) (xs:List (List Int×Addr×V)),vs=[.ref l1,.ref l2]/\Sq k1 K H1 l1 (xs.map λx=>V.ref x.2.1)/\Sq k2 K H1 l2 (xs.map λx=>x.2.2) /\
 (∀x∈xs,H1 x.2.1=some (.tup (x.1.map V.int)))/\(xs.map (·.1)).Nodup/\∀l ep,H1 l=none->Q (.ref l) (NQ H1 l (TQ hL l ep xs))
noncomputable def jN(K:J0)(ta:TA):TE:=λσ H Q=>ta σ H λvs H1=>OM K vs H1 Q
theorem wK{P:Program}{w:World}:∀{ks:List Int}{us:List Value},Vals (ks.map V.int) us->ItemsAre (intKind P w) ks us
 | [],_,r=>by cases r;exact .nil
 | k :: ks,_,r=>by
  cases r with
  | cons h t =>
   obtain⟨tk,rfl⟩:=h
   exact .cons (by show W9 k (.int k tk)=true;simp[W9]) (wK t)
theorem pW{α β:Type}{R:α->β->Prop}{x:α}{y:β}:∀{l:List α}{m:List β},Paired R l m->R x y->Paired R (l++[x]) (m++[y])
 | _,_,.nil,r=>.cons r .nil
 | _,_,.cons r0 t,r=>.cons r0 (pW t r)
theorem DZ{κ:Type}:∀{xs:List (κ×Addr×V)}{vs:List (κ×Addr×Value)},Paired (λx v=>x.1=v.1/\x.2.1=v.2.1/\RelV x.2.2 v.2.2) xs vs->vs.map (·.1)=xs.map (·.1)
 | _,_,.nil=>rfl
 | _,_,.cons r t=>by simp only[J3,DZ t,r.1]
theorem sY{α β:Type}{R:α->β->Prop}:∀{l:List α}{m:List β},Paired R l m->l.length=m.length
 | _,_,.nil=>rfl
 | _,_,.cons _ t=>by simp[sY t]
theorem tY{α β:Type}{R:α->β->Prop}:∀{l:List α}{m:List β},Paired R l m->∀y∈m,∃x∈l,R x y
 | _,_,.nil,y,h=>by cases h
 | _,_,.cons r t,y,h=>by
  rcases V0.mp h with z|z
  ·subst z;exact ⟨_,O0,r⟩
  ·obtain⟨x,hx,r'⟩:=tY t y z
   exact ⟨x,K0 _ hx,r'⟩
theorem fB{κ:Type}[DecidableEq κ]{vs:List (κ×Addr×Value)}{k:κ}(h:k∉vs.map (·.1)):atKey vs k=none:=atKey_none_of_get λj p e=>h (M0.mpr ⟨_,W2 e,rfl⟩)
theorem Vz{α:Type}{l:List α}{i:Nat}{x:α}(h:l[i]?=some x):l.take (i+1)=l.take i++[x]:=by
 have hi:=(K1.mp h).1
 have e:=(K1.mp h).2
 rw[List.take_add_one,h]
 rfl
theorem QD{κ:Type}{xs:List (κ×Addr×V)}{i:Nat}{x:κ×Addr×V}(nd:(xs.map (·.1)).Nodup)(h:xs[i]?=some x):x.1∉(xs.take i).map (·.1):=λz=>by
 obtain⟨y,hy,e⟩:=M0.mp z
 obtain⟨j,hj⟩:=g9.mp hy
 rw[List.getElem?_take]at hj
 split at hj
 ·rename_i hlt
  have a1:(xs.map (·.1))[j]?=some x.1:=by rw[X0,hj,E5,e]
  have a2:(xs.map (·.1))[i]?=some x.1:=by rw[X0,h];rfl
  have:=(List.getElem?_inj (K1.mp a1).1 nd).mp (a1.trans a2.symm)
  omega
 ·cases hj
theorem LE{X:Cx}{a b:Expr}{ta:TA}{p pos p0 pos0:Pos}(hcm:X.calm=true)(hu:X.A.units+2 < cLine)(hg0:Gl X "dict")(hm0:X.mg "dict"=none)(hv0:bootBuiltins "dict"=some (.type "dict"))(hg:Gl X "zip")(hm:X.mg "zip"=none)(ha:PA X [a,b] ta)
  (hs:starEach [a,b] X.env=(false,eval a X.env) :: starEach [b] X.env) (hpl:(backTo pos (starEach [b] X.env)).any (·.1)=false)
  (hs0:starEach [.Call (.Name "zip" p) [a,b] [] pos] X.env=(false,eval (.Call (.Name "zip" p) [a,b] [] pos) X.env) :: starEach [] X.env) (hpl0:(backTo pos0 (starEach [] X.env)).any (·.1)=false) :
  PE X (.Call (.Name "dict" p0) [.Call (.Name "zip" p) [a,b] [] pos] [] pos0) (jN X.K ta):=by
 intro pins s σ H Q I h
 refine wpAny_Call_Name_kw (HJ I hg0 hm0 hv0 ?_ (by decide) (by decide))
 refine U3 ?_ hs0 hpl0
 rw[hs0]
 show wpAny _ _ (spliced ((false,eval (.Call (.Name "zip" p) [a,b] [] pos) X.env) :: backTo pos0 (starEach [] X.env))) _ _ s
 refine Calls.spliced_cons ?_
 refine Call_ (HJ I hg hm boot_zip (U3 (wX (ha pos pins s σ H _ I h) λus s1 ⟨vs,H1,I1,r1,q1⟩=>?_) hs hpl))
 obtain⟨k1,l1,k2,l2,xs,e,q1,q2,hky,hnd,q⟩:=q1
 subst e
 obtain rfl:us=[.ref l1,.ref l2]:=by
  cases r1 with|cons r rr=>cases r;cases rr with|cons r rr=>cases r;cases rr;rfl
 obtain⟨its1,rv1,p1,z1⟩:=I1.sq q1
 obtain⟨its2,rv2,p2,z2⟩:=I1.sq q2
 have lt:∀{k:Kd}{l:Addr}{xs:Array Value},SqAt k s1.heap l xs->l < s1.heap.objs.size:=λ{k l xs} p=>by
  cases k with
  | l=>obtain⟨o,e,_⟩:=p;exact L0 e
  | t=>obtain⟨o,e,_⟩:=p;exact L0 e
 refine callType_new F.called_zip (by decide) (F.typeCall_zip_2 _ _) (F.newCall_zip_2 _ _) (λobj=>F.args_object_init_3 obj _ _) F.entry_zip_new (rU k1 k2 l1 l2 its1.toArray its2.toArray) ⟨p1,p2,?_⟩
 have zI:(ZF s1.heap k1 k2 l1 l2).objs.size=s1.heap.objs.size+2:=by simp[O1]
 have zT:(aD s1.heap k1 k2 l1 l2).objs.size=s1.heap.objs.size+3:=by simp[O1]
 have zO:(bD s1.heap k1 k2 l1 l2).objs.size=s1.heap.objs.size+4:=by simp[O1]
 have zZ:(WZ s1.heap k1 k2 l1 l2).objs.size=s1.heap.objs.size+5:=by simp[O1]
 have gZ:(WZ s1.heap k1 k2 l1 l2).get? (bD s1.heap k1 k2 l1 l2).objs.size=some _:=G0 _ rfl
 have gO:(WZ s1.heap k1 k2 l1 l2).get? (aD s1.heap k1 k2 l1 l2).objs.size=some _:=j0 _ (G0 _ rfl)
 have gT:(WZ s1.heap k1 k2 l1 l2).get? (ZF s1.heap k1 k2 l1 l2).objs.size=some _:=j0 _ (j0 _ (G0 _ rfl))
 have g1:(WZ s1.heap k1 k2 l1 l2).get? s1.heap.objs.size=some (SQ k1 l1):=j0 _ (j0 _ (j0 _ (j0 _ (G0 _ (by cases k1<;>rfl)))))
 have g2:(WZ s1.heap k1 k2 l1 l2).get? (s1.heap.push (SQ k1 l1)).objs.size=some (SQ k2 l2):=j0 _ (j0 _ (j0 _ (G0 _ (by cases k2<;>rfl))))
 have zz2:(s1.heap.push (SQ k1 l1)).objs.size=s1.heap.objs.size+1:=by simp[O1]
 rw[zO,zT,zI]at gZ
 rw[zI,zz2]at gT
 rw[zT]at gO
 rw[zz2]at g2
 show _/\_
 rw[zO]
 have kp:∀b o,s1.heap.get? b=some o->(WZ s1.heap k1 k2 l1 l2).get? b=some o:=λb o e=>j0 _ (j0 _ (j0 _ (j0 _ (j0 _ (e)))))
 refine ⟨⟨_,gZ,rfl⟩,Calls.spliced_nil ?_⟩
 have len1:=rv1.length
 have len2:=rv2.length
 have DD:=AC s1.heap.objs.size l1 l2 (lt p1) (lt p2)
 have hxl:its1.length=xs.length:=by rw[<- len1,A0]
 have hxl2:its2.length=xs.length:=by rw[<- len2,A0]
 have key:∀{x:List Int×Addr×V}{h':Heap},x∈xs->(∀b ob,s1.heap.get? b=some ob->h'.get? b=some ob)->(tupleKind (intKind X.prog X.w)).is h' x.1 x.2.1:=λ{x h'} hx kk=>by
  obtain⟨_,its,r,o,h1,h2,n,h3,_⟩:=(show ObjOk X.prog X.w H1 s1.heap x.2.1 (.tup (x.1.map V.int)) from I1.hok _ _ (hky x hx))
  exact ⟨o,its.toArray,n,kk _ _ h1,h2,h3,by simpa using wK r⟩
 have hb:(s1.heap.objs.size+5==sysModules)=false:=beq_eq_false_iff_ne.mpr (Z2 (W0 (S0 I1.big (O4 _ _))))
 have hz5:xs.length<=sizeLine:=by omega
 refine XW (s:={ s1 with heap:=WZ s1.heap k1 k2 l1 l2 }) (xs1:=its1.toArray) (xs2:=its2.toArray) (n:=xs.length) (λi h=>(∀b ob,s1.heap.get? b=some ob->h.get? b=some ob)/\∃vs:List (List Int×Addr×Value),Paired (λx v=>x.1=v.1/\x.2.1=v.2.1/\RelV x.2.2 v.2.2) (xs.take i) vs/\∃o es ep,h.get? (s1.heap.objs.size+5)=some o/\o.ExactDict/\o.data=.dict es ep/\es.toList=vs.map λx=>⟨hL x.1,.ref x.2.1,x.2.2⟩)
  (I1.ok.hd hcm) DD (by simp only[Z0];omega) (by simp only[Z0];omega) (.inl (by simp;omega)) gZ gT gO (ItAt.new k1 g1) (ItAt.new k2 g2)
  (p1.at λo e=>kp _ _ e) (p2.at λo e=>kp _ _ e) (by show l1 < (WZ s1.heap k1 k2 l1 l2).objs.size;rw[zZ];exact S0 (lt p1) (O4 _ _)) (by show l2 < (WZ s1.heap k1 k2 l1 l2).objs.size;rw[zZ];exact S0 (lt p2) (O4 _ _)) ?_ ?_ ?_ ?_
 ·intro h' kk e
  dsimp only at e
  rw[zZ]at e
  exact ⟨λb o x=>kk b o (kp b o x),[],.nil,_,#[],0,e,⟨rfl,rfl,rfl⟩,rfl,rfl⟩
 ·rintro i h1 h2 ⟨kk,vs,rel,o',es,ep,ho,rest⟩ k3
  have far:∀{b:Addr},b < s1.heap.objs.size->b≠s1.heap.objs.size+4/\b≠s1.heap.objs.size+3/\b≠s1.heap.objs.size/\b≠s1.heap.objs.size+1:=λ{b} z=>⟨fW 4 z,fW 3 z,fW 0 z,fW 1 z⟩
  refine ⟨λb o x=>?_,vs,rel,o',es,ep,?_,rest⟩
  ·obtain⟨f1,f2,f3,f4⟩:=far (L0 x)
   exact k3 b o f1 f2 f3 f4 (kk b o x)
  ·refine k3 _ _ ?_ ?_ ?_ ?_ ho<;>(show ¬(@Eq Nat _ _))<;>omega
 ·rintro i x y s' Q' E' hi hx hy ⟨kk,vs,rel,o',es,ep,ho,a1,a2,a3⟩ hq'
  dsimp only at hq' ⊢
  rw[zZ]at hq' ⊢
  obtain⟨y1,ey1,ry1⟩:=rv1.getV (by simpa using hx)
  obtain⟨y2,ey2,ry2⟩:=rv2.getV (by simpa using hy)
  obtain⟨⟨k,b,v⟩,hxi⟩:∃x,xs[i]?=some x:=⟨_,P0 hi⟩
  rw[X0,hxi]at ey1 ey2
  cases ey1
  cases ey2
  cases ry1
  have hxm:(k,b,v)∈xs:=W2 hxi
  have hvl:=sY rel
  rw[Z3]at hvl
  have hz2:vs.length<=sizeLine:=by omega
  have hfr:=QD hnd hxi
  rw[<- DZ rel]at hfr
  have hvn:(vs.map (·.1)).Nodup:=by rw[DZ rel,List.map_take];exact hnd.sublist (v8 _ _)
  refine wpAny_dictSet_heap (hsz:=hz2) (knd:=tupleKind (intKind X.prog X.w)) hu (key hxm kk) ⟨o',es,ep,ho,a1,a2,a3,λu hu'=>?_,hvn⟩ λh' dd' sb=>hq' h' _ ⟨λc o e=>?_,vs++[(k,b,y)],?_,?_⟩ sb
  ·obtain⟨x',hx',r1,r2,_⟩:=tY rel u hu'
   have:=key (N6 hx') kk
   rw[r1,r2]at this
   exact this
  ·have hc:c < s1.heap.objs.size:=L0 e
   exact (sb.2 c (fW 5 hc)).trans (kk c o e)
  ·rw[Vz hxi]
   exact pW rel ⟨rfl,rfl,ry2⟩
  ·obtain⟨q,es,ep,hq,h2,h3,h4,_,h5⟩:=dd'
   rw[storedH_new (fB hfr)]at h4
   exact ⟨q,es,ep,hq,h2,h3,h4⟩
 ·rintro h' tk ⟨kk,vs,rel,o',es,ep,f1,f2,f3,f4⟩
  rw[u7 (R0 _)]at rel
  have hfr:H1 (s1.heap.objs.size+5)=none:=I1.hok.fresh (O4 _ _)
  dsimp only
  rw[zZ]
  refine ⟨.ref (s1.heap.objs.size+5),_,I1.laid (t':=tk) kk (O4 _ _) (show ObjOk X.prog X.w _ h' _ (TQ hL (s1.heap.objs.size+5) ep xs) from ⟨⟨⟨vs,rel,o',es,f1,f2,f3,f4⟩,hnd,hz5,hb⟩,⟨o',f1⟩,λh1 h2 z k=>?_⟩),rfl,q _ ep hfr⟩
  obtain⟨⟨vs,r,o,es,g1,g2⟩,g3⟩:=z
  exact ⟨⟨vs,r,o,es,k _ g1,g2⟩,g3⟩
section
variable {X:Cx}{pins:List (Addr×Obj)}{σ:St}{H:Hp}{s:Shared}
end
end L2
namespace L3
open PySem PySem.Spec PyProof.Rows L2
noncomputable abbrev tI(k:List Int):D:=.tuple (k.map u0)
noncomputable abbrev b2(k:List Int×List Int):D:=.tuple [tI k.1,tI k.2]
section
variable {K:Fg}{F H:Hp}
theorem vF:∀{ks:List Int}{xs:List V},DaAll K F xs (ks.map u0)->xs=ks.map V.int
 | [],_,h=>by cases h;rfl
 | k :: ks,_,h=>by
  cases h with
  | cons h t =>
   rw[vF t]
   cases h
   rfl
theorem ME{v:V}{k:List Int}(h:Da K F v (tI k)):∃b,v=.ref b/\F b=some (.tup (k.map V.int)):=by
 cases h with
 | tup e t =>
  have:=vF t
  subst this
  exact ⟨_,rfl,e⟩
theorem uY{v:V}{d0:D}(h:Da K F v (.dict [(.bool false,d0)])):(∃a,v=.ref a/\d0=.none/\F a=some (DC a))\/(∃a a' ep xs ps,v=.ref a/\F a=some (TQ hL a' ep xs)/\DaPd K F xs ps/\d0=.list (ps.map λp=>.tuple [tI p.1,p.2])) \/
  ∃a ep xs ps,v=.ref a/\F a=some (TQ hB a ep xs)/\DaBd K F xs ps/\d0=.tuple (ps.map λp=>.tuple [b2 p.1,p.2]):=by
 generalize e0:(PyData.dict [(.bool false,d0)])=d at h
 cases h with
 | opq q=>cases e0;exact .inl ⟨_,rfl,rfl,q⟩
 | pd q t=>injection e0 with e0;injection e0 with e0 _;injection e0 with _ e0;exact .inr (.inl ⟨_,_,_,_,_,rfl,q,t,e0⟩)
 | bd q t=>injection e0 with e0;injection e0 with e0 _;injection e0 with _ e0;exact .inr (.inr ⟨_,_,_,_,rfl,q,t,e0⟩)
 | dk q t =>
  injection e0 with e0
  subst e0
  generalize e9:([(K5 false,d0)]:List (D×D))=es at t
  cases t with
  | nil=>cases e9
  | @cons k _ _ _ _ _ _=>cases k<;>cases e9
 | dt q t =>
  injection e0 with e0
  subst e0
  generalize e9:([(K5 false,d0)]:List (D×D))=es at t
  cases t with
  | nil=>cases e9
  | cons _ _=>cases e9
 | _=>cases e0
theorem DaPd.get:∀{xs:List (List Int×Addr×V)}{ps:List (List Int×D)},DaPd K F xs ps->∀{i:Nat}{x:List Int×Addr×V},xs[i]?=some x->∃d,ps[i]?=some (x.1,d)/\F x.2.1=some (.tup (x.1.map V.int))/\Da K F x.2.2 d
 | _,_,.nil,i,x,h=>by simp at h
 | _,_,.cons e h t,0,x,z=>by
  simp only[R8,Option.some.injEq]at z
  subst z
  exact ⟨_,rfl,e,h⟩
 | _,_,.cons e h t,i+1,x,z=>by
  simp only[V3]at z
  exact DaPd.get t z
theorem DaPd.length:∀{xs:List (List Int×Addr×V)}{ps:List (List Int×D)},DaPd K F xs ps->xs.length=ps.length
 | _,_,.nil=>rfl
 | _,_,.cons _ _ t=>by simp[DaPd.length t]
theorem Rel.newE{G:Gh}{σ:L2.St}{ρ:Ev}{a:Addr}{o:HO}(R:Rel K G F σ H ρ)(h:H a=none):Sub F (NQ F a o)/\Rel K G (NQ F a o) σ (NQ H a o) ρ:=by
 have R1:Rel K G F σ (NQ H a o) ρ:=R.laid h
 refine R1.grow (a:=a) (o:=o) (R.h0 h) iQ λi s e w z=>?_
 obtain⟨a',o',h1,h2,h3,h4⟩:=R.ow i s e w
 rw[z]at h1
 cases h1
 rw[h]at h3
 cases h3
end
noncomputable def PM:D->D->(Sl->Prop)->Prop:=λd e Q=>∃ps:List (List Int×D),PL d=some (ps.map λp=>tI p.1)/\PL e=some (ps.map (·.2))/\(ps.map (·.1)).Nodup/\Q (.fz (xX ps))
theorem Wz{K:Fg}{F:Hp}:∀{ps:List (List Int×D)}{ys1 ys2:List V},DaAll K F ys1 (ps.map λp=>tI p.1)->DaAll K F ys2 (ps.map (·.2)) ->
  ∃xs:List (List Int×Addr×V),xs.map (·.1)=ps.map (·.1)/\ys1=xs.map (λx=>V.ref x.2.1)/\ys2=xs.map (λx=>x.2.2)/\(∀x∈xs,F x.2.1=some (.tup (x.1.map V.int)))/\DaPd K F xs ps
 | [],_,_,h1,h2=>by
  cases h1;cases h2
  exact ⟨[],rfl,rfl,rfl,λx hx=>(by cases hx),.nil⟩
 | p :: ps,_,_,h1,h2=>by
  cases h1 with
  | @cons v _ _ _ h1 t1 =>
   cases h2 with
   | @cons u _ _ _ h2 t2 =>
    obtain⟨xs,e1,e2,e3,e4,e5⟩:=Wz t1 t2
    obtain⟨b,rfl,eb⟩:=ME h1
    refine ⟨(p.1,b,u) :: xs,by simp[e1],by simp[e2],by simp[e3],λx hx=>?_,.cons eb h2 e5⟩
    rcases V0.mp hx with z|z
    ·subst z;exact eb
    ·exact e4 x z
theorem OE{K:Fg}:eX K (OM K) (o2 PM):=by
 intro G F σ H ρ vs ds Q Qd R ha w k
 rcases ds with _|⟨d,_|⟨e,_|⟨e3,ds⟩⟩⟩<;>first|exact w.elim|skip
 ·obtain⟨v1,v2,rfl,h1,h2⟩:=ha.two
  obtain⟨ps,e1,e2,nd,w⟩:=w
  obtain⟨k1,l1,ys1,rfl,q1,d1⟩:=h1.seq R.sub e1
  obtain⟨k2,l2,ys2,rfl,q2,d2⟩:=h2.seq R.sub e2
  obtain⟨xs,g1,g2,g3,g4,g5⟩:=Wz d1 d2
  rw[g2]at q1
  rw[g3]at q2
  refine ⟨k1,l1,k2,l2,xs,rfl,q1,q2,λx hx=>R.sub _ _ (g4 x hx),by rw[g1];exact nd,λl ep hl=>?_⟩
  obtain⟨sb,R'⟩:=R.newE (o:=TQ hL l ep xs) hl
  exact k _ _ _ (.fz (xX ps)) sb R' (Da.pd iQ (g5.mono sb)) w
noncomputable def iL:D->(Sl->Prop)->Prop
 | .list ds,Q=>∃ps:List ((List Int×List Int)×D),(ds=ps.map λp=>.tuple [b2 p.1,p.2])/\(ps.map (·.1)).Nodup/\Q (.fz (AL ps))
 | _,_=>False
noncomputable def wF(a:AD):pH:=λρ Q=>JX [a] ρ λxs ρ1=>match WQ ρ1 xs with
 | true=>False
 | false=>cX ρ1 xs λds=>match ds with
  | [.dict [(.bool false,.list L)]]=>Q L ρ1
  | _=>False
theorem ZU{K:Fg}{F:Hp}{a a':Addr}{ep:Nat}{xs:List (List Int×Addr×V)}{ps:List (List Int×D)}(e1:F a=some (TQ hL a' ep xs))(h1:DaPd K F xs ps):Walks K (gL hL a a' ep xs) F (ps.map λp=>.tuple [tI p.1,p.2]):=λi H F1 s1 s2=>by
 have hl:=h1.length
 refine ⟨λd ed=>?_,λhz=>⟨s2 _ _ (s1 _ _ e1),by rw[A0]at hz;omega⟩⟩
 have hi:i < xs.length:=by
  have:=(K1.mp ed).1
  rw[A0]at this
  omega
 refine ⟨⟨s2 _ _ (s1 _ _ e1),hi⟩,λz H' ⟨T,k,b,v,hT,ex,eH,hx⟩=>?_⟩
 subst ex eH
 obtain⟨d',g1,g2,g3⟩:=h1.get hx
 rw[X0,g1]at ed
 cases ed
 have fT:F1 T=none:=by
  cases z:F1 T with
  | none=>rfl
  | some o=>rw[s2 _ _ z]at hT;cases hT
 have sF:Sub F1 (NQ F1 T (.tup [.ref b,v])):=Sub.new fT
 refine ⟨NQ F1 T (.tup [.ref b,v]),sF,λc o ec=>?_,λc o ec=>?_,Sub.new hT,.tup iQ (.cons (.tup (sF _ _ (s1 _ _ g2)) (DaAll.ints _)) (.cons (g3.mono (s1.trans sF)) .nil))⟩
 ·by_cases z:c=T
  ·subst z;exact .inr hT
  ·rw[dQ z]at ec;exact .inl ec
 ·by_cases z:c=T
  ·subst z;rw[iQ]at ec ⊢;exact ec
  ·rw[dQ z]at ec ⊢;exact s2 _ _ ec
theorem cw{K:Fg}{a:AD}{σ:L2.St}{H:Hp}{R:It->Hp->Prop}(h:pX K (wF a) σ H R):Tz hL (uQ K a) σ H R:=by
 obtain⟨G,F,ρ,Qd,Rl,w,k⟩:=h
 refine Vq (P:=λx H1=>∃(d d':Addr) (ep:Nat) (xs:List (List Int×Addr×V)),x=.ref d/\H1 d=some (TQ hL d' ep xs)/\R (gL hL d d' ep xs) H1) (yX Rl w λvs H' F' xs ρ' sb R' o w1=>?_)
 split at w1
 ·exact w1.elim
 rename_i m
 obtain⟨ds,da,w1⟩:=RQ R' m o w1
 split at w1
 ·rename_i L
  cases da with
  | cons d1 t =>
   cases t
   rcases uY d1 with⟨a,_,z,_⟩|⟨a,a',ep,ys,qs,rfl,e1,g1,z⟩|⟨a,ep,ys,qs,_,_,_,z⟩
   ·cases z
   ·injection z with z
    subst z
    exact ⟨_,rfl,a,a',ep,ys,rfl,R'.sub _ _ e1,k _ H' F' _ ρ' sb R' (ZU e1 g1) w1⟩
   ·cases z
 ·exact w1.elim
section
variable {X:Cx}{K:Fg}{e e1 e2:Expr}{a b:AD}{p pos pos' p2 tpos apos cpos:Pos}
theorem XL(hK:X.K=K)(hc:X.calm=true)(hu:X.A.units+2 < cLine)(hm:X.mg "dict"=none)(hv:bootBuiltins "dict"=some (.type "dict"))(hm2:X.mg "zip"=none)(ha:WA X [e1,e2] (CQ ([a,b].map (uQ K))))(hg:Gl X "dict":=by rfl)(hg2:Gl X "zip":=by rfl)(he:EQ e1=true:=by rfl)(he2:EQ e2=true:=by rfl) :
  WE X (.Call (.Name "dict" p) [.Call (.Name "zip" p2) [e1,e2] [] pos'] [] pos) (lift K (UG [a,b] (o2 PM))):=by
 subst hK
 exact ⟨MV (LE hc hu hg hm hv hg2 hm2 ha.h (tQ he) (gX (by simp[he2])) (tQ rfl) (gX rfl)) λq=>gD OE q⟩
theorem dw{ts:List Expr}{kk:Nat}(ha:WE X e1 (uQ K a))(hbase:attributeBase e1 "items" X.env (eval e1 X.env)=eval e1 X.env:=by rfl)(hline:(apos.endLine==cpos.line)=true:=by rfl):WI X (.Tuple ts kk tpos) (.Call (.Attribute e1 "items" apos) [] [] cpos) (pX K (wF a)) :=
 ⟨UB (Uz ha.h hbase hline) cw⟩
end
end L3
namespace L2
open PySem PySem.Spec PyProof.Rows PySem.W
theorem gB(x y:qZ)(f:Bool)(hf:f=false):OK (λj=>if j=0 then decide (x.1=y.1) else decide (x.2=y.2)) (λj=>if j=0 then HT.lexLt x.1 y.1 else HT.lexLt x.2 y.2) f 0 2=YZ x y:=by
 unfold YZ
 subst hf
 by_cases z1:x.1=y.1
 ·by_cases z2:x.2=y.2
  ·simp[OK,z1,z2,SG.lex_wk.irr]
  ·simp[OK,z1,z2]
 ·simp[OK,z1]
theorem Xz{X:Cx}{prog:Program}{w:World}{pins:List (Addr×Obj)}{σ:St}{H:Hp}{s s':Shared}{A:Around}{c d a1 b1 a2 b2:Addr}{r:List V}{x y:qZ}{Q E:Value->Shared->Prop}(I:Inv X pins σ H s)(k:∀b o,s.heap.get? b=some o->s'.heap.get? b=some o)(hu:A.units+1 < cLine)
  (hc:H c=some (.tup (.ref a1 :: .ref b1 :: r))) (ha1:H a1=some (.tup (x.1.map V.int))) (hb1:H b1=some (.tup (x.2.map V.int))) (hd:H d=some (.tup [.ref a2,.ref b2])) (ha2:H a2=some (.tup (y.1.map V.int))) (hb2:H b2=some (.tup (y.2.map V.int))) (h:Q (.bool (YZ x y)) s') :
  wpAny (model prog w) A (richCompare .Lt (.ref c) (.ref d)) Q E s':=by
 have I':Inv X pins σ H { s with heap:=s'.heap }:=I.kept (t':=s.toks) k
 obtain⟨_,ic,rc,⟨oc1,oc2,oc3,oc4⟩,c1,c2,m1,c3,_⟩:=(show ObjOk X.prog X.w H s.heap c (.tup (.ref a1 :: .ref b1 :: r)) from I.hok c _ hc)
 obtain⟨_,id',rd,⟨od1,od2,od3,od4⟩,d1,d2,m2,d3,_⟩:=(show ObjOk X.prog X.w H s.heap d (.tup [.ref a2,.ref b2]) from I.hok d _ hd)
 obtain⟨w1,w2,rfl,r3,r4⟩:=BY rd
 cases rc with
 | cons r1 rc =>
  cases rc with
  | cons r2 rc =>
   rename_i us
   cases r1
   cases r2
   cases r3
   cases r4
   simp only at c2 c3 d2 d3
   subst c2 c3 d2 d3
   have hu0:A.in1.units < cLine:=by show A.units+1 < cLine;exact hu
   have lt1:∀{prog:Program}{w:World}{a b:Addr}{x y:List Int}{Q E:Value->Shared->Prop},H a=some (.tup (x.map V.int))->H b=some (.tup (y.map V.int))->Q (.bool (HT.lexLt x y)) s'->wpAny (model prog w) A.in1 (richCompare .Lt (.ref a) (.ref b)) Q E s':=λ{prog w a b x y Q E} ha hb hq=>by
    obtain⟨_,ia,ra,ta⟩:=(show ObjOk X.prog X.w H s'.heap a (.tup (x.map V.int)) from I'.hok a _ ha)
    obtain⟨_,ib,rb,tb⟩:=(show ObjOk X.prog X.w H s'.heap b (.tup (y.map V.int)) from I'.hok b _ hb)
    exact HT.lt_tupInts (prog:=prog) (w:=w) ta.t tb.t (KQ ra) (KQ rb) hu0 hq
   refine richCompare_meets_room (op:=.Lt) ⟨_,k _ _ c1,rfl⟩ ⟨_,k _ _ d1,rfl⟩ PySem.F.slot_tuple_lt PySem.F.entry_tuple_lt (PySem.F.args_tuple_lt_2 _ _)
    (vK c d _ _ m1 m2 oc2 od2 oc4 od4 (λj=>if j=0 then decide (x.1=y.1) else decide (x.2=y.2)) (λj=>if j=0 then HT.lexLt x.1 y.1 else HT.lexLt x.2 y.2)) ⟨k _ _ c1,k _ _ d1,λj u v hx hy=>?_,λj u v hx hy he prog w E Q hq=>?_,?_⟩ (Z5 hu)
   ·rcases j with _|_|j
    ·cases hx;cases hy
     rw[if_pos rfl]
     exact NK I hu0 ha1 ha2 k
    ·cases hx;cases hy
     rw[if_neg (by decide)]
     exact NK I hu0 hb1 hb2 k
    ·simp at hy
   ·rcases j with _|_|j
    ·cases hx;cases hy
     exact lt1 ha1 ha2 hq
    ·cases hx;cases hy
     exact lt1 hb1 hb2 hq
    ·simp at hy
   ·have es:min (U1 a1 :: U1 b1 :: us).toArray.size [U1 a2,U1 b2].toArray.size=2:=by
     simp only[Z0,X1,J4]
     omega
    rw[es]
    have hf:decide ((U1 a1 :: U1 b1 :: us).toArray.size < [U1 a2,U1 b2].toArray.size)=false:=by
     refine decide_eq_false ?_
     simp only[Z0,X1,J4]
     omega
    rw[gB x y _ hf]
    exact ⟨(λz=>by cases z),h⟩
theorem iB{X:Cx}{prog:Program}{w:World}{pins:List (Addr×Obj)}{σ:St}{H:Hp}{s:Shared}{A:Around}{c d a1 a2:Addr}{t:V}{x y:qZ}{Q E:Value->Shared->Prop}(I:Inv X pins σ H s)(hu:A.units+2 < cLine)
  (hc:H c=some (.tup [.ref a1,t])) (h1:RZ H a1 x) (hd:H d=some (.tup [.ref a2])) (h2:RZ H a2 y) (h:Q (.bool (YZ x y)) s) :
  wpAny (model prog w) A (richCompare .Lt (.ref c) (.ref d)) Q E s:=by
 obtain⟨_,ic,rc,⟨oc1,oc2,oc3,oc4⟩,c1,c2,m1,c3,_⟩:=(show ObjOk X.prog X.w H s.heap c (.tup [.ref a1,t]) from I.hok c _ hc)
 obtain⟨_,id',rd,⟨od1,od2,od3,od4⟩,d1,d2,m2,d3,_⟩:=(show ObjOk X.prog X.w H s.heap d (.tup [.ref a2]) from I.hok d _ hd)
 obtain⟨u1,u2,rfl,r1,r2⟩:=BY rc
 cases rd with
 | cons r3 rd =>
  cases rd
  cases r1
  cases r3
  simp only at c2 c3 d2 d3
  subst c2 c3 d2 d3
  have hu0:A.in1.units+1 < cLine:=by show A.units+1+1 < cLine;exact hu
  refine richCompare_meets_room (op:=.Lt) ⟨_,c1,rfl⟩ ⟨_,d1,rfl⟩ PySem.F.slot_tuple_lt PySem.F.entry_tuple_lt (PySem.F.args_tuple_lt_2 _ _)
   (vK c d _ _ m1 m2 oc2 od2 oc4 od4 (λ_=>decide (x=y)) (λ_=>YZ x y)) ⟨c1,d1,λj u v hx hy=>?_,λj u v hx hy he prog w E Q hq=>?_,?_⟩ (Z5 (Z5 hu))
  ·rcases j with _|j
   ·cases hx;cases hy
    exact dB I hu0 h1 h2
   ·simp at hy
  ·rcases j with _|j
   ·cases hx;cases hy
    obtain⟨p1,q1,g1,g2,g3⟩:=h1
    obtain⟨p2,q2,f1,f2,f3⟩:=h2
    exact Xz I (λb o e=>e) hu0 g1 g2 g3 f1 f2 f3 hq
   ·simp at hy
  ·have e:OK (λ_=>decide (x=y)) (λ_=>YZ x y) (decide ((2:Nat) < 1)) 0 1=YZ x y:=by
    by_cases z:x=y
    ·subst z
     simp[OK,ltB_wk.irr]
    ·simp[OK,z]
   show F9 (OK _ _ (decide ((2:Nat) < 1)) 0 1)≠t9/\Q (.bool (OK _ _ (decide ((2:Nat) < 1)) 0 1)) s
   rw[e]
   exact ⟨(λz=>by cases z),h⟩
noncomputable def QE:R2:=λp q H Q=>∃(c d:Addr) (x y:qZ),p=.ref c/\q=.ref d/\((∃(a1 b1 a2 b2:Addr) (r:List V),H c=some (.tup (.ref a1 :: .ref b1 :: r))/\H a1=some (.tup (x.1.map V.int))/\H b1=some (.tup (x.2.map V.int))/\H d=some (.tup [.ref a2,.ref b2])/\H a2=some (.tup (y.1.map V.int))/\H b2=some (.tup (y.2.map V.int))) \/
  (∃(a1 a2:Addr) (t:V),H c=some (.tup [.ref a1,t])/\RZ H a1 x/\H d=some (.tup [.ref a2])/\RZ H a2 y))/\Q (.bl (YZ x y)) H
theorem jB{X:Cx}(hu:X.A.units+2 < cLine):OpR X (compareOp .Lt) QE:=by
 intro pins s σ H p q v u Q I rx ry h
 obtain⟨c,d,x,y,rfl,rfl,h,hq⟩:=h
 cases rx
 cases ry
 rcases h with⟨a1,b1,a2,b2,r,g1,g2,g3,g4,g5,g6⟩|⟨a1,a2,t,g1,g2,g3,g4⟩
 ·exact Xz I (λb o e=>e) (Z5 hu) g1 g2 g3 g4 g5 g6 ⟨.bl (YZ x y),H,I,rfl,hq⟩
 ·exact iB I hu g1 g2 g3 g4 ⟨.bl (YZ x y),H,I,rfl,hq⟩
end L2
namespace L3
open PySem PySem.Spec PyProof.Rows L2
noncomputable def YL:D->D->(Sl->Prop)->Prop:=λd e Q=>∃x y:qZ,((∃r,d=.tuple (.tuple (x.1.map u0) :: .tuple (x.2.map u0) :: r)/\e=mQ y)\/(∃t,d=.tuple [mQ x,t]/\e=.tuple [mQ y]))/\Q (.fz (.bool (YZ x y)))
theorem lB{K:Fg}:eX K (UY QE) (o2 YL):=Uw λG F σ H ρ p q d e Q Qd R h1 h2 w k=>by
 obtain⟨x,y,w,hq⟩:=w
 have fin:Q (.bl (YZ x y)) H:=k _ H F (.fz _) (Sub.refl _) R (Da.bl _) hq
 have up:∀{c:Addr}{r:qZ},RZ F c r->RZ H c r:=λ{c r} ⟨a,b,h1,h2,h3⟩=>⟨a,b,R.sub _ _ h1,R.sub _ _ h2,R.sub _ _ h3⟩
 rcases w with⟨r,rfl,rfl⟩|⟨t,rfl,rfl⟩
 ·obtain⟨c,us,rfl,_,e1,d1⟩:=h1.tuple R.sub
  obtain⟨d,vs,rfl,_,e2,d2⟩:=h2.tuple R.sub
  cases d1 with
  | cons p1 d1 =>
   cases d1 with
   | cons p2 d1 =>
    cases d2 with
    | cons p3 d2 =>
     cases d2 with
     | cons p4 d2 =>
      cases d2
      obtain⟨a1,rfl,ha1⟩:=vZ p1
      obtain⟨b1,rfl,hb1⟩:=vZ p2
      obtain⟨a2,rfl,ha2⟩:=vZ p3
      obtain⟨b2,rfl,hb2⟩:=vZ p4
      exact ⟨c,d,x,y,rfl,rfl,.inl ⟨a1,b1,a2,b2,_,e1,R.sub _ _ ha1,R.sub _ _ hb1,e2,R.sub _ _ ha2,R.sub _ _ hb2⟩,fin⟩
 ·obtain⟨c,us,rfl,_,e1,d1⟩:=h1.tuple R.sub
  obtain⟨d,vs,rfl,_,e2,d2⟩:=h2.tuple R.sub
  cases d1 with
  | cons p1 d1 =>
   cases d1 with
   | cons p2 d1 =>
    cases d1
    cases d2 with
    | cons p3 d2 =>
     cases d2
     obtain⟨a1,rfl,ha1⟩:=YV p1
     obtain⟨a2,rfl,ha2⟩:=YV p3
     exact ⟨c,d,x,y,rfl,rfl,.inr ⟨a1,a2,_,e1,up ha1,e2,up ha2⟩,fin⟩
end L3
namespace L2
open PySem PySem.Spec PyProof.Rows
section
variable {prog:Program}{w:World}{A:Around}{E:Value->Shared->Prop}{s:Shared}
theorem aH:W7 "dict_keyiterator"=false:=by decide
theorem xF{it d:Addr}{i ep:Nat}{es:Array DictEntry}{od:Obj}{Q:Option Value->Shared->Prop}(x:s.heap.IsKeyIter it d i es.size ep)(y:s.heap.get? d=some od)(yd:od.data=.dict es ep)(hi:i < es.size)
  (q:∀h',h'.IsKeyIter it d (i+1) es.size ep->J2 it s.heap h'->Q (some es[i].key) { s with heap:=h' }):wpAny (model prog w) A (pyNext (.ref it)) Q E s:=by
 obtain⟨o,e1,e2,e3⟩:=id x
 have ty:=x.typeIs
 unfold pyNext
 refine wpAny_bind (wpAny_attempt (wpAny_callSpecial?_slot (name:=Str.ofString "__next__") ty F.slot_dict_keyiterator_next (wpAny_call_entry F.slot_dict_keyiterator_next ty F.entry_dict_keyiterator_next ?_ (F.args_dict_keyiterator_next_1 _))))
 refine wpAny_bind (wpAny_pure (wpAny_bind (wpAny_bind ?_)))
 first|refine wpAny_bind (wpAny_typeNameOfWhole_keyiter ty (wpAny_pure ?_))|refine wpAny_bind (wpAny_typeNameOf_keyiter ty (wpAny_pure ?_))
 refine wpAny_bind (wpAny_fieldsOf e1 e3 ?_)
 simp only[aH,O2,if_false]
 show wpAny _ _ (if (U1 d==A3)=true then _ else _) _ _ _
 rw[if_neg (qY d)]
 refine wpAny_bind (wpAny_pure (wpAny_bind (wpAny_dictEntries y yd ?_)))
 rw[if_neg (by simp)]
 refine wpAny_bind (wpAny_pure (wpAny_bind (wpAny_dictEpoch y yd ?_)))
 rw[if_neg (by simp)]
 refine wpAny_pure ?_
 simp only[show ¬((i:Int) < 0) from by omega,if_false,S4,T2 hi]
 refine wpAny_bind ?_
 first|refine wpAny_bind (wpAny_typeNameOfWhole_keyiter ty (wpAny_pure ?_))|refine wpAny_bind (wpAny_typeNameOf_keyiter ty (wpAny_pure ?_))
 refine wpAny_bind (wpAny_isOneOf_keyiter ty ?_)
 show wpAny _ _ (setField (.ref it) 1 (rawInt ((i:Int)+1)) >>= _) _ _ s
 refine wpAny_bind (wpAny_setField e1 e3 (by simp) ?_)
 obtain⟨h1,z1⟩:∃h1,h1=s.heap.update it (S6 (·.setIfInBounds 1 (rawInt ((i:Int)+1)))):=⟨_,rfl⟩
 have x1:h1.IsKeyIter it d (i+1) es.size ep:=by
  rw[z1]
  exact ⟨_,K2 _ e1 (Y4 (K4 e3 _)),(Obj.cls_mapFields ..).trans e2,by rw[K4 e3];simp[rawInt]⟩
 have b1:J2 it s.heap h1:=by rw[z1];exact U2 ..
 rw[<- z1]
 refine wpAny_bind (wpAny_holding (wpAny_bind (wpAny_isOneOf_keyiter (s:={ s with heap:=h1 }) x1.typeIs ?_)))
 show wpAny _ _ (pure es[i].key) _ _ _
 exact wpAny_pure (wpAny_pure ⟨_,rfl,wpAny_pure (q h1 x1 b1)⟩)
theorem Yz{it d:Addr}{i ep:Nat}{es:Array DictEntry}{od:Obj}{Q:Option Value->Shared->Prop}(hh:A.handled=none)(x:s.heap.IsKeyIter it d i es.size ep)(y:s.heap.get? d=some od)(yd:od.data=.dict es ep)(hi:es.size<=i)
  (q:∀h',i9 it s.heap h'->Q none { s with heap:=h' }):wpAny (model prog w) A (pyNext (.ref it)) Q E s:=by
 obtain⟨o,e1,e2,e3⟩:=id x
 have ty:=x.typeIs
 unfold pyNext
 refine wpAny_bind (wpAny_attempt (wpAny_callSpecial?_slot (name:=Str.ofString "__next__") ty F.slot_dict_keyiterator_next (wpAny_call_entry F.slot_dict_keyiterator_next ty F.entry_dict_keyiterator_next ?_ (F.args_dict_keyiterator_next_1 _))))
 refine wpAny_bind (wpAny_pure (wpAny_bind (wpAny_bind ?_)))
 first|refine wpAny_bind (wpAny_typeNameOfWhole_keyiter ty (wpAny_pure ?_))|refine wpAny_bind (wpAny_typeNameOf_keyiter ty (wpAny_pure ?_))
 refine wpAny_bind (wpAny_fieldsOf e1 e3 ?_)
 simp only[aH,O2,if_false]
 show wpAny _ _ (if (U1 d==A3)=true then _ else _) _ _ s
 rw[if_neg (qY d)]
 refine wpAny_bind (wpAny_pure (wpAny_bind (wpAny_dictEntries y yd ?_)))
 rw[if_neg (by simp)]
 refine wpAny_bind (wpAny_pure (wpAny_bind (wpAny_dictEpoch y yd ?_)))
 rw[if_neg (by simp)]
 refine wpAny_pure ?_
 simp only[show ¬((i:Int) < 0) from by omega,if_false,S4,A6 hi]
 refine wpAny_bind ?_
 first|refine wpAny_bind (wpAny_typeNameOfWhole_keyiter ty (wpAny_pure ?_))|refine wpAny_bind (wpAny_typeNameOf_keyiter ty (wpAny_pure ?_))
 show wpAny _ _ (setField (.ref it) 0 .none >>= _) _ _ s
 refine wpAny_bind (wpAny_setField e1 e3 (by simp) ?_)
 show wpAny _ _ (newExc (.type "StopIteration") [] >>= _) _ _ _
 refine wpAny_bind ?_
 simp only[newExc,newTuple]
 refine wpAny_bind (wpAny_newObj_type ?_ (by size_fits))
 refine wpAny_bind (m:=firstArgMember _ _) (wpAny_of_eq (a:=A3) (by first|rfl|(simp only[firstArgMember];rfl)) ?_)
 refine wpAny_newObj_type ?_ (by size_fits)
 simp only[raiseNew]
 refine wpAny_bind (wpAny_handled ?_)
 rw[show A.in1.handled=none from hh]
 refine wpAny_bind (wpAny_pure (wpAny_throw ?_))
 refine wpAny_bind (wpAny_isInstance (b:=true) (T:="StopIteration") ⟨_,G0 _ rfl,rfl⟩ isSubtype_stop ?_)
 exact wpAny_pure (q _ (((U2 ..).extBut.push _).push _))
theorem yF{d:Addr}{es:Array DictEntry}{ep:Nat}{od:Obj}{Q:Value->Shared->Prop}(hm:(d==sysModules)=false)(y:s.heap.get? d=some od)(hx:od.ExactDict)(yd:od.data=.dict es ep)
  (q:Q (.ref s.heap.objs.size) { s with heap:=s.heap.push { cls:=.type "dict_keyiterator",data:=.fields #[.ref d,.int 0 0,.int es.size 0,.int ep 0] } }):wpAny (model prog w) A (pyIter (.ref d)) Q E s:=by
 have ty:s.TypeIs (.ref d) "dict":=⟨od,y,hx.1⟩
 refine wpAny_pyIter_slot ty F.slot_dict_iter (wpAny_call_entry F.slot_dict_iter ty F.entry_dict_iter ?_ (F.args_dict_iter_1 _))
 unfold Builtin.«dict.__iter__»
 refine wpAny_bind ?_
 unfold Builtin.Dict.dictSlotNone
 refine wpAny_bind (wpAny_notOrdered_dict ty ?_)
 show wpAny _ _ (pure (U1 d)) _ _ s
 refine wpAny_pure ?_
 show wpAny _ _ (J6 d >>= _) _ _ s
 unfold J6
 rw[if_neg (by rw[hm];decide)]
 refine wpAny_bind (wpAny_pure (wpAny_bind (wpAny_dictEntries y yd (wpAny_bind (wpAny_dictEpoch y yd ?_)))))
 refine wpAny_bind (wpAny_newObj_type (wpAny_pure ⟨_,rfl,"dict_keyiterator",_,⟨_,G0 _ rfl,rfl⟩,F.slot_dict_keyiterator_next.lookup,?_⟩))
 simpa [rawInt]using q
end
noncomputable def jL{κ:Type}(hs:κ->Int)(d d':Addr)(ep:Nat)(xs:List (κ×Addr×V)):It :=
 ⟨λi H=>H d=some (TQ hs d' ep xs)/\i < xs.length,
  λi H x H'=>∃k b v,x=.ref b/\H'=H/\xs[i]?=some (k,b,v),
  λi H=>H d=some (TQ hs d' ep xs)/\xs.length<=i⟩
section
variable {κ:Type}{hs:κ->Int}
theorem RD{P:Program}{w:World}{K:J0}{tg:Expr}(it d d':Addr)(ep:Nat)(xs:List (κ×Addr×V)):Turn P w K tg (jL hs d d' ep xs) [it] it (λi h=>h.IsKeyIter it d i xs.length ep) where
 mem:=by simp
 obj:=λi h st b hb=>by
  have e:b=it:=by simpa using hb
  subst e
  obtain⟨o,e,c,d⟩:=st
  exact ⟨o,e,λv z=>by rw[d]at z;cases z⟩
 keep:=λi h h' st k=>st.at λo e=>k it (by simp) o e
 item:=by
  intro X hP hw hK hc i pins s σ H E I hf st hg
  subst hP hw hK
  obtain⟨hd,hi⟩:=hg
  obtain⟨vs,o,es,pr,e1,e2,e3,e4,hz,_⟩:=ext_at I hd
  obtain⟨⟨k,b,v⟩,hx⟩:∃x,xs[i]?=some x:=⟨_,P0 hi⟩
  obtain⟨⟨k',b',u⟩,hv,r1,r2,r3⟩:=rY pr hx
  have r2:b=b':=r2
  subst r2
  have hi':i < es.size:=by rw[hz];exact hi
  have hent:es[i].key=.ref b:=by
   have q:es.toList[i]?=some (⟨hs k',.ref b,u⟩:DictEntry):=by rw[e4,X0,hv];rfl
   have q2:es.toList[i]?=some es[i]:=by simp[hi']
   rw[q2]at q
   rw[V1 q]
  obtain⟨f0,f1,f2,f3,f4,f5⟩:=hf it (by simp)
  rw[<- hz]at st
  refine xF st e1 e3 hi' λh' st' sb=>?_
  have I1:Inv X pins σ H { s with heap:=h' }:=I.turned (t':=s.toks) (λb o hb e=>(sb.2 b hb).trans e) f0 f1 f3 f4 f5
  obtain⟨o',g1,g2,g3⟩:=id st'
  rw[hent]
  rw[hz]at st'
  exact ⟨.ref b,rfl,FG (s:={ s with heap:=h' }) g1 g2 g3 (by decide) ⟨.ref b,H,I1,rfl,⟨k,b,v,rfl,rfl,hx⟩,st',λc hb=>(hf c hb).1⟩⟩
 done:=by
  intro X hP hw hK hc i pins s σ H E I hf st hg
  subst hP hw hK
  obtain⟨hd,hi⟩:=hg
  obtain⟨vs,o,es,pr,e1,e2,e3,e4,hz,_⟩:=ext_at I hd
  obtain⟨f0,f1,f2,f3,f4,f5⟩:=hf it (by simp)
  rw[<- hz]at st
  exact Yz (I.ok.hd hc) st e1 e3 (by omega) λh' eb=>⟨rfl,I.turned (t':=s.toks) (λb o hb e=>eb b o hb e) f0 f1 f3 f4 f5⟩
 self:=λ_ _ _ _ _ st h=>wpAny_pyIter_keyiter st h
noncomputable def Av(hs:κ->Int)(to:TE):TI:=λσ H R=>to σ H λx H1=>∃(d d':Addr) (ep:Nat) (xs:List (κ×Addr×V)),x=.ref d/\H1 d=some (TQ hs d' ep xs)/\R (jL hs d d' ep xs) H1
theorem fw{X:Cx}{tg o:Expr}{to:TE}(ho:PE X o to):PI X tg o (Av hs to):=by
 intro pins s σ H R I h
 refine wX (ho pins s σ H _ I h) λv s1 ⟨x,H1,I1,r1,d,d',ep,xs,ex,hd,q1⟩=>?_
 subst ex
 cases r1
 obtain⟨vs,ob,es,pr,e1,e2,e3,e4,hz,_,_,hm⟩:=ext_at I1 hd
 refine yF hm e1 e2 e3 ?_
 rw[hz]
 refine ⟨_,[s1.heap.objs.size],_,_,H1,rfl,I1.kept (t':=s1.toks) (λb oc e=>j0 _ e),RD (hs:=hs) s1.heap.objs.size d d' ep xs,⟨_,G0 _ rfl,rfl,rfl⟩,λb hb=>?_,q1⟩
 have hb:b=s1.heap.objs.size:=by simpa using hb
 subst hb
 exact I1.fpOk (R0 _) (I1.hok.fresh (R0 _))
end
end L2
namespace L3
open PySem PySem.Spec PyProof.Rows L2
noncomputable def uJ(L:List D):List D:=L.map λd=>match d with
 | .tuple (x :: _)=>x
 | _=>.none
noncomputable def Zz(a:AD):pH:=λρ Q=>JX [a] ρ λxs ρ1=>match WQ ρ1 xs with
 | true=>False
 | false=>cX ρ1 xs λds=>match ds with
  | [.dict [(.bool false,.list L)]]=>Q (uJ L) ρ1
  | _=>False
theorem EZ(ps:List (List Int×D)):uJ (ps.map λp=>.tuple [tI p.1,p.2])=ps.map λp=>tI p.1:=by
 unfold uJ
 rw[Q0]
 rfl
theorem mG{K:Fg}{F:Hp}{a a':Addr}{ep:Nat}{xs:List (List Int×Addr×V)}{ps:List (List Int×D)}(e1:F a=some (TQ hL a' ep xs))(h1:DaPd K F xs ps):Walks K (jL hL a a' ep xs) F (ps.map λp=>tI p.1):=λi H F1 s1 s2=>by
 have hl:=h1.length
 refine ⟨λd ed=>?_,λhz=>⟨s2 _ _ (s1 _ _ e1),by rw[A0]at hz;omega⟩⟩
 have hi:i < xs.length:=by
  have:=(K1.mp ed).1
  rw[A0]at this
  omega
 refine ⟨⟨s2 _ _ (s1 _ _ e1),hi⟩,λz H' ⟨k,b,v,ex,eH,hx⟩=>?_⟩
 subst ex eH
 obtain⟨d',g1,g2,g3⟩:=h1.get hx
 rw[X0,g1]at ed
 cases ed
 exact ⟨F1,Sub.refl _,λc o ec=>.inl ec,λc o ec=>s2 _ _ ec,Sub.refl _,.tup (s1 _ _ g2) (DaAll.ints _)⟩
theorem mB{K:Fg}{a:AD}{σ:L2.St}{H:Hp}{R:It->Hp->Prop}(h:pX K (Zz a) σ H R):Av hL (uQ K a) σ H R:=by
 obtain⟨G,F,ρ,Qd,Rl,w,k⟩:=h
 refine Vq (P:=λx H1=>∃(d d':Addr) (ep:Nat) (xs:List (List Int×Addr×V)),x=.ref d/\H1 d=some (TQ hL d' ep xs)/\R (jL hL d d' ep xs) H1) (yX Rl w λvs H' F' xs ρ' sb R' o w1=>?_)
 split at w1
 ·exact w1.elim
 rename_i m
 obtain⟨ds,da,w1⟩:=RQ R' m o w1
 split at w1
 ·rename_i L
  cases da with
  | cons d1 t =>
   cases t
   rcases uY d1 with⟨a,_,z,_⟩|⟨a,a',ep,ys,qs,rfl,e1,g1,z⟩|⟨a,ep,ys,qs,_,_,_,z⟩
   ·cases z
   ·injection z with z
    subst z
    rw[EZ]at w1
    exact ⟨_,rfl,a,a',ep,ys,rfl,R'.sub _ _ e1,k _ H' F' _ ρ' sb R' (mG e1 g1) w1⟩
   ·cases z
 ·exact w1.elim
section
variable {X:Cx}{K:Fg}{e1 tg:Expr}{a:AD}
theorem aj(ha:WE X e1 (uQ K a)):WI X tg e1 (pX K (Zz a)):=⟨UB (fw ha.h) mB⟩
end
end L3
namespace L2
open PySem PySem.Spec PyProof.Rows
noncomputable def SZ{α:Type}(xs:List (List Int×Addr×α))(k:List Int)(b:Addr)(v:α):List (List Int×Addr×α) :=
 if k∈xs.map (·.1) then xs.map (λx=>if x.1=k then (x.1,x.2.1,v) else x) else xs++[(k,b,v)]
theorem ZK{vs:List (List Int×Addr×Value)}{k:List Int}{b:Addr}{u:Value}:storedH vs k b u=SZ vs k b u:=by
 unfold storedH SZ
 have e:(atKey vs k).isSome=true ↔ k∈vs.map (·.1):=by
  unfold atKey
  rw[Option.isSome_map,List.find?_isSome]
  constructor
  ·rintro⟨x,hx,e⟩
   exact M0.mpr ⟨x,hx,of_decide_eq_true e⟩
  ·intro h
   obtain⟨x,hx,e⟩:=M0.mp h
   exact ⟨x,hx,decide_eq_true e⟩
 by_cases z:k∈vs.map (·.1)
 ·rw[if_pos (e.mpr z),if_pos z];rfl
 ·rw[if_neg (λy=>z (e.mp y)),if_neg z]
theorem bH{α:Type}(xs:List (List Int×Addr×α))(k:List Int)(b:Addr)(v:α):(SZ xs k b v).length<=xs.length+1:=by
 unfold SZ
 split
 ·rw[A0];omega
 ·rw[A1];simp
theorem qW{α:Type}{xs:List (List Int×Addr×α)}{k:List Int}{b:Addr}{v:α}(h:(xs.map (·.1)).Nodup):((SZ xs k b v).map (·.1)).Nodup:=by
 unfold SZ
 split
 ·rw[Q0]
  have e:((λx:List Int×Addr×α=>x.1) ∘ λx=>if x.1=k then (x.1,x.2.1,v) else x)=λx=>x.1:=by
   funext x
   show (if x.1=k then (x.1,x.2.1,v) else x).1=x.1
   split<;>rfl
  rw[e]
  exact h
 ·rename_i z
  rw[W4,F8]
  refine ⟨h,by simp,λa ha b hb e=>?_⟩
  have hb:b=k:=by simpa using hb
  rw[e,hb]at ha
  exact z ha
theorem cH{xs:List (List Int×Addr×V)}{vs:List (List Int×Addr×Value)}{k:List Int}{b:Addr}{v:V}{u:Value}(h:Paired (λx v=>x.1=v.1/\x.2.1=v.2.1/\RelV x.2.2 v.2.2) xs vs)(r:RelV v u) :
  Paired (λx v=>x.1=v.1/\x.2.1=v.2.1/\RelV x.2.2 v.2.2) (SZ xs k b v) (SZ vs k b u):=by
 unfold SZ
 rw[DZ h]
 split
 ·rename_i z
  clear z
  induction h with
  | nil=>exact .nil
  | @cons x y l m r1 t ih =>
   refine .cons ?_ ih
   obtain⟨a1,a2,a3⟩:=r1
   by_cases z:x.1=k
   ·have z2:y.1=k:=a1.symm.trans z
    dsimp only
    rw[if_pos z,if_pos z2]
    exact ⟨a1,a2,r⟩
   ·have z2:¬y.1=k:=λq=>z (a1.trans q)
    dsimp only
    rw[if_neg z,if_neg z2]
    exact ⟨a1,a2,a3⟩
 ·exact pW h ⟨rfl,rfl,r⟩
theorem nG{X:Cx}{pins:List (Addr×Obj)}{σ:St}{H:Hp}{s:Shared}{A:Around}{E:Value->Shared->Prop}{d d' b:Addr}{ep:Nat}{xs:List (List Int×Addr×V)}{k:List Int}{v:V}{u:Value}{Q:Unit->Shared->Prop}(hu:A.units+1 < cLine)(I:Inv X pins σ H s)
  (e:H d=some (TQ hL d' ep xs)) (hky:∀x∈xs,H x.2.1=some (.tup (x.1.map V.int))) (hk:H b=some (.tup (k.map V.int))) (rv:RelV v u) (hl:xs.length < sizeLine)
  (q:∀ep' s',Inv X pins σ (NQ H d (TQ hL d ep' (SZ xs k b v))) s'->Q () s'):wpAny (model X.prog X.w) A (setItem (.ref d) (.ref b) u) Q E s:=by
 obtain⟨vs,o,es,pr,e1,e2,e3,e4,hz,nd,_,hm⟩:=ext_at I e
 have key:∀{k:List Int}{b:Addr},H b=some (.tup (k.map V.int))->(tupleKind (intKind X.prog X.w)).is s.heap k b:=λ{k b} hb=>by
  obtain⟨_,its,r,o,h1,h2,n,h3,_⟩:=(show ObjOk X.prog X.w H s.heap b (.tup (k.map V.int)) from I.hok _ _ hb)
  exact ⟨o,its.toArray,n,h1,h2,h3,by simpa using wK r⟩
 have hvl:=sY pr
 refine wpAny_setItem_heap (hsz:=by omega) (knd:=tupleKind (intKind X.prog X.w)) (tupleKind_room_in1 hu) (key hk) ⟨o,es,ep,e1,e2,e3,e4,λx hx=>?_,by rw[DZ pr];exact nd⟩ λh' dd' sb=>?_
 ·obtain⟨y,hy,r1,r2,_⟩:=tY pr x hx
  have:=key (hky y hy)
  rw[r1,r2]at this
  exact this
 ·obtain⟨o2,es2,ep2,g1,g2,g3,g4,_,g5⟩:=dd'
  rw[ZK]at g4
  have hlen:=bH xs k b v
  refine q ep2 _ (NG I (by rw[e];exact True.intro) sb ⟨o2,g1⟩ ⟨⟨⟨SZ vs k b u,cH pr rv,o2,es2,g1,g2,g3,g4⟩,qW nd,by omega,hm⟩,⟨o2,g1⟩,λh1 h2 z k'=>?_⟩)
  obtain⟨⟨vs',r',o',es',f1,f2⟩,f3⟩:=z
  exact ⟨⟨vs',r',o',es',k' _ f1,f2⟩,f3⟩
noncomputable def Bv(td ty tv:TE):TS:=λE σ H=>tv σ H λv H1=>td σ H1 λx H2=>ty σ H2 λy H3=>∃(d d' b:Addr) (ep:Nat) (xs:List (List Int×Addr×V)) (k:List Int),x=.ref d/\y=.ref b/\H3 d=some (TQ hL d' ep xs)/\(∀z∈xs,H3 z.2.1=some (.tup (z.1.map V.int))) /\
 H3 b=some (.tup (k.map V.int))/\xs.length < sizeLine/\∀ep',E.nx σ (NQ H3 d (TQ hL d ep' (SZ xs k b v)))
theorem gw{X:Cx}{o i value:Expr}{td ty tv:TE}{pos pos':Pos}(hu:X.A.units+1 < cLine)(ho:PE X o td)(hi:PE X i ty)(hv:PE X value tv)(hs:swapsWith value (some (.Subscript o i pos')) pos.line X.env=pure false) :
  PS X (.Assign [.Subscript o i pos'] value pos) (Bv td ty tv):=by
 intro pins s σ H D I h
 refine wpAny_Assign_Subscript (wX (hv pins s σ H _ I h) λr s1 ⟨v,H1,I1,rv,q1⟩=>wX (ho pins s1 σ H1 _ I1 q1) λu s2 ⟨x,H2,I2,rx,q2⟩=>wX (hi pins s2 σ H2 _ I2 q2) λiv s3 ⟨y,H3,I3,ry,d,d',b,ep,xs,k,ex,ey,e1,e2,e3,e4,q3⟩=>?_) hs
 subst ex ey
 obtain rfl:u=U1 d:=rx
 obtain rfl:iv=U1 b:=ry
 exact nG hu I3 e1 e2 e3 rv e4 λep' s4 I4=>⟨σ,_,I4,q3 ep'⟩
noncomputable def bj:TE:=λ_ H Q=>∀p,H p=none->Q (.ref p) (NQ H p (TQ hL p 0 []))
theorem cj{X:Cx}{pos:Pos}:PE X (.Dict [] [] pos) bj:=λpins s σ H Q I h =>
 wpAny_Dict_empty ⟨.ref s.heap.objs.size,_,I.laid (a:=s.heap.objs.size) (o:=TQ hL s.heap.objs.size 0 []) (t':=s.toks) (λ_ _ q=>j0 _ q) (R0 _)
   ⟨⟨⟨[],.nil,_,#[],G0 _ rfl,⟨rfl,rfl,rfl⟩,rfl,rfl⟩,j7,Q3 _,beq_eq_false_iff_ne.mpr (Z2 (W0 I.big))⟩,⟨_,G0 _ rfl⟩,λh1 h2 z k=>by
     obtain⟨⟨vs,r,o,es,g1,g2⟩,g3⟩:=z
     exact ⟨⟨vs,r,o,es,k _ g1,g2⟩,g3⟩⟩,rfl,h _ (I.hok.fresh (R0 _))⟩
end L2
namespace L3
open PySem PySem.Spec PyProof.Rows L2
noncomputable def FZ(ps:List (List Int×D))(k:List Int)(d:D):List (List Int×D) :=
 if k∈ps.map (·.1) then ps.map (λx=>if x.1=k then (x.1,d) else x) else ps++[(k,d)]
theorem DaPd.keys{K:Fg}{F:Hp}:∀{xs:List (List Int×Addr×V)}{ps:List (List Int×D)},DaPd K F xs ps->xs.map (·.1)=ps.map (·.1)
 | _,_,.nil=>rfl
 | _,_,.cons _ _ t=>by simp only[J3,DaPd.keys t]
theorem DaPd.at{K:Fg}{F:Hp}:∀{xs:List (List Int×Addr×V)}{ps:List (List Int×D)},DaPd K F xs ps->∀z∈xs,F z.2.1=some (.tup (z.1.map V.int))
 | _,_,.nil,z,h=>by cases h
 | _,_,.cons e _ t,z,h=>by
  rcases V0.mp h with q|q
  ·subst q;exact e
  ·exact DaPd.at t z q
theorem DaPd.snoc{K:Fg}{F:Hp}{k:List Int}{b:Addr}{v:V}{d:D}(hb:F b=some (.tup (k.map V.int)))(hv:Da K F v d):∀{xs:List (List Int×Addr×V)}{ps:List (List Int×D)},DaPd K F xs ps->DaPd K F (xs++[(k,b,v)]) (ps++[(k,d)])
 | _,_,.nil=>.cons hb hv .nil
 | _,_,.cons e h t=>.cons e h (DaPd.snoc hb hv t)
theorem DaPd.repl{K:Fg}{F:Hp}{k:List Int}{v:V}{d:D}(hv:Da K F v d):∀{xs:List (List Int×Addr×V)}{ps:List (List Int×D)},DaPd K F xs ps->DaPd K F (xs.map λx=>if x.1=k then (x.1,x.2.1,v) else x) (ps.map λx=>if x.1=k then (x.1,d) else x)
 | _,_,.nil=>.nil
 | _,_,@DaPd.cons _ _ k' b' v' d' xs ps e h t=>by
  have ih:=DaPd.repl (k:=k) hv t
  rw[J3,J3]
  by_cases z:k'=k
  ·dsimp only
   rw[if_pos z,if_pos z]
   exact .cons e hv ih
  ·dsimp only
   rw[if_neg z,if_neg z]
   exact .cons e h ih
theorem DaPd.put{K:Fg}{F:Hp}{k:List Int}{b:Addr}{v:V}{d:D}{xs:List (List Int×Addr×V)}{ps:List (List Int×D)}(h:DaPd K F xs ps)(hb:F b=some (.tup (k.map V.int)))(hv:Da K F v d):DaPd K F (SZ xs k b v) (FZ ps k d):=by
 unfold SZ FZ
 rw[h.keys]
 split
 ·exact h.repl hv
 ·exact h.snoc hb hv
noncomputable def Cv(j:Nat)(ak:AD)(te:TD):DJ:=λE ρ=>te ρ λr ρ1=>match ρ1[j]? with
 | some (some _)=>JX [ak] ρ1 λxs ρ2=>match WQ ρ2 xs with
  | true=>False
  | false=>cX ρ2 xs λds=>match ρ2[j]? with
   | some (some s)=>∃(k:List Int) (ps:List (List Int×D)),ds=[tI k]/\s.d=xX ps/\OQ s=true/\ps.length < sizeLine/\E.nx (ρ2.set j (some (s.put (xX (FZ ps k r.d)))))
   | _=>False
 | _=>False
theorem nB{K:Fg}{j:Nat}{ak:AD}{te:TD}{σ:L2.St}{H:Hp}{E:Ends}(h:oQ K (Cv j ak te) E σ H):Bv (bK j) (uQ K ak) (lift K te) E σ H:=by
 obtain⟨G,F,ρ,D,R,w,n,r,b,c⟩:=h
 refine ⟨G,F,ρ,_,R,w,λv H1 F1 x ρ1 s1 R1 r1 w1=>?_⟩
 obtain⟨F2,s2,R2,d2⟩:=r1.frz R1
 split at w1
 ·rename_i s0 e0
  obtain⟨u,eu⟩:=R2.bound e0
  refine ⟨u,eu,Vq (P:=λy H3=>∃(d d' b:Addr) (ep:Nat) (xs:List (List Int×Addr×V)) (k:List Int),u=.ref d/\y=.ref b/\H3 d=some (TQ hL d' ep xs)/\(∀z∈xs,H3 z.2.1=some (.tup (z.1.map V.int))) /\
    H3 b=some (.tup (k.map V.int))/\xs.length < sizeLine/\∀ep',E.nx σ (NQ H3 d (TQ hL d ep' (SZ xs k b v)))) (yX R2 w1 λvs H3 F3 xs ρ3 s3 R3 o3 w3=>?_)⟩
  split at w3
  ·exact w3.elim
  rename_i m
  obtain⟨ds,ha,w3⟩:=RQ R3 m o3 w3
  split at w3
  ·rename_i s e
   obtain⟨k,ps,rfl,p1,p2,p3,w3⟩:=w3
   cases ha with
   | cons hk ht =>
    cases ht
    obtain⟨kb,rfl,hb⟩:=vZ hk
    obtain⟨a,o,g1,g2,g3,g4⟩:=R3.ow j s e p2
    rw[eu]at g1;cases g1
    rw[p1]at g4
    cases o with
    | ext φ =>
     obtain⟨a',ep,ys,qs,z,z2,t⟩:=g4.ext
     have t:DaPd K F3 ys ps:=by
      have e2:ps.map (λp=>U0 [U0 (p.1.map u0),p.2])=qs.map (λp=>U0 [U0 (p.1.map u0),p.2]):=by
       injection z2 with z2;injection z2 with z2 _;injection z2 with _ z2;injection z2
      have e3:ps=qs:=(Z6 (λx y q=>by
        injection q with q
        injection q with q1 q2
        injection q2 with q2 _
        injection q1 with q1
        exact Prod.ext ((Z6 (λx y z=>by injection z)).mp q1) q2)).mp e2
      rw[e3];exact t
     rw[z]at g3
     refine ⟨_,rfl,a,a',kb,ep,ys,k,rfl,rfl,g3,λq hq=>R3.sub _ _ (t.at q hq),R3.sub _ _ hb,by have:=congrArg L4 t.keys;rw[A0,A0]at this;omega,λep'=>?_⟩
     have R4:=R3.change (o':=TQ hL a ep' (SZ ys k kb v)) (d':=xX (FZ ps k x.d)) e p2 eu (Own1.pd (t.put hb (d2.mono s3)))
     exact n σ _ F3 _ (s1.trans (s2.trans s3)) R4 w3
    | dK kvs =>
     exfalso
     have h:DaKV K F3 kvs [(K5 false,E1 (ps.map λp=>U0 [U0 (p.1.map u0),p.2]))]:=g4
     generalize e9:[(K5 false,E1 (ps.map λp=>U0 [U0 (p.1.map u0),p.2]))]=es at h
     cases h with
     | nil=>cases e9
     | @cons k _ _ _ _ _ _=>cases k<;>cases e9
    | dT kvs =>
     exfalso
     have h:DaKT K F3 kvs [(K5 false,E1 (ps.map λp=>U0 [U0 (p.1.map u0),p.2]))]:=g4
     generalize e9:[(K5 false,E1 (ps.map λp=>U0 [U0 (p.1.map u0),p.2]))]=es at h
     cases h with
     | nil=>cases e9
     | cons _ _=>cases e9
    | _=>exact g4.elim
  ·exact w3.elim
 ·exact w1.elim
noncomputable def Dv:TD:=λρ Q=>Q (.ow (xX [])) ρ
theorem oB{K:Fg}{σ:L2.St}{H:Hp}{Q:VK}(h:lift K Dv σ H Q):bj σ H Q:=by
 obtain⟨G,F,ρ,Qd,R,w,k⟩:=h
 intro p hp
 obtain⟨R',r'⟩:=R.newOw (o:=TQ hL p 0 []) (d:=xX []) hp (Own1.pd .nil)
 exact k _ _ F _ ρ (Sub.refl _) R' r' w
section
variable {X:Cx}{K:Fg}{e e1 e2:Expr}{a:AD}{td:TD}{pos pos':Pos}
theorem oG{j:Nat}(hu:X.A.units+1 < cLine)(ho:WE X e1 (uQ K (.inl j)))(hi:WE X e2 (uQ K a))(hv:WE X e (lift K td))(hs:yJ e=true:=by rfl):WS X (.Assign [.Subscript e1 e2 pos'] e pos) (oQ K (Cv j a td)):=⟨xD (gw hu ho.h hi.h hv.h (mJ hs)) nB⟩
theorem iw:WE X (.Dict [] [] pos) (lift K Dv):=⟨MV cj oB⟩
end
end L3
namespace L2
open PySem PySem.Spec PyProof.Rows
theorem pG{X:Cx}{pins:List (Addr×Obj)}{σ:St}{H:Hp}{s:Shared}{A:Around}{E:Value->Shared->Prop}{d d' b:Addr}{ep:Nat}{xs:List (List Int×Addr×V)}{k:List Int}{v:V}{u:Value}{Q:Unit->Shared->Prop}(hu:A.units < cLine)(I:Inv X pins σ H s)
  (e:H d=some (TQ hL d' ep xs)) (hky:∀x∈xs,H x.2.1=some (.tup (x.1.map V.int))) (hk:H b=some (.tup (k.map V.int))) (rv:RelV v u) (hl:xs.length < sizeLine)
  (q:∀ep' s',Inv X pins σ (NQ H d (TQ hL d ep' (SZ xs k b v))) s'->Q () s'):wpAny (model X.prog X.w) A (dictSet d (.ref b) u) Q E s:=by
 obtain⟨vs,o,es,pr,e1,e2,e3,e4,hz,nd,_,hm⟩:=ext_at I e
 have key:∀{k:List Int}{b:Addr},H b=some (.tup (k.map V.int))->(tupleKind (intKind X.prog X.w)).is s.heap k b:=λ{k b} hb=>by
  obtain⟨_,its,r,o,h1,h2,n,h3,_⟩:=(show ObjOk X.prog X.w H s.heap b (.tup (k.map V.int)) from I.hok _ _ hb)
  exact ⟨o,its.toArray,n,h1,h2,h3,by simpa using wK r⟩
 have hvl:=sY pr
 refine wpAny_dictSet_heap (hsz:=by omega) (knd:=tupleKind (intKind X.prog X.w)) hu (key hk) ⟨o,es,ep,e1,e2,e3,e4,λx hx=>?_,by rw[DZ pr];exact nd⟩ λh' dd' sb=>?_
 ·obtain⟨y,hy,r1,r2,_⟩:=tY pr x hx
  have:=key (hky y hy)
  rw[r1,r2]at this
  exact this
 ·obtain⟨o2,es2,ep2,g1,g2,g3,g4,_,g5⟩:=dd'
  rw[ZK]at g4
  have hlen:=bH xs k b v
  refine q ep2 _ (NG I (by rw[e];exact True.intro) sb ⟨o2,g1⟩ ⟨⟨⟨SZ vs k b u,cH pr rv,o2,es2,g1,g2,g3,g4⟩,qW nd,by omega,hm⟩,⟨o2,g1⟩,λh1 h2 z k'=>?_⟩)
  obtain⟨⟨vs',r',o',es',f1,f2⟩,f3⟩:=z
  exact ⟨⟨vs',r',o',es',k' _ f1,f2⟩,f3⟩
noncomputable def dj:TE:=λ_ H Q=>∀p b ep,H p=none->H b=none->p≠b->Q (.ref p) (NQ (NQ H b (.tup [])) p (TQ hL p ep [([],b,.bl true)]))
theorem fj{X:Cx}{k v:Expr}{pos:Pos}(hu:X.A.units < cLine)(hk:PE X k (Aq yq))(hv:PE X v (tC (.bl true))):PE X (.Dict [some k] [v] pos) dj:=by
 intro pins s σ H Q I q
 have hn:=I.hok.fresh (R0 s.heap.objs.size)
 have I1:=I.laid (a:=s.heap.objs.size) (o:=TQ hL s.heap.objs.size 0 []) (h':=s.heap.push { cls:=.type "dict",data:=.dict #[] }) (t':=s.toks) (λ_ _ q=>j0 _ q) (R0 _)
  ⟨⟨⟨[],.nil,_,#[],G0 _ rfl,⟨rfl,rfl,rfl⟩,rfl,rfl⟩,j7,Q3 _,beq_eq_false_iff_ne.mpr (Z2 (W0 I.big))⟩,⟨_,G0 _ rfl⟩,λh1 h2 z k=>by
    obtain⟨⟨vs,r,o,es,g1,g2⟩,g3⟩:=z
    exact ⟨⟨vs,r,o,es,k _ g1,g2⟩,g3⟩⟩
 refine wpAny_Dict_any rfl rfl (by simp) (by simp) (wX (Iq hk hv Gx pins _ σ _ (λps H2=>∃b,NQ H s.heap.objs.size (TQ hL s.heap.objs.size 0 []) b=none/\ps=[(.ref b,.bl true)]/\H2=NQ (NQ H s.heap.objs.size (TQ hL s.heap.objs.size 0 [])) b (.tup [])) I1 ⟨Q3 _,λb hb=>⟨b,hb,rfl,rfl⟩⟩) λws s2 ⟨ps,H2,I2,rel,b,hb,eps,eH⟩=>?_)
 subst eps eH
 have hbp:s.heap.objs.size≠b:=λz=>by rw[<- z,iQ]at hb;cases hb
 have hb0:H b=none:=by rw[dQ (Z2 hbp)]at hb;exact hb
 cases rel with
 | @cons x y l m r t =>
  cases t
  obtain⟨u1,u2⟩:=y
  obtain⟨r1,r2⟩:=r
  cases (show u1=U1 b from r1)
  unfold storeAll
  rw[B5]
  refine wpAny_bind (wpAny_bind (pG (k:=[]) (xs:=[]) (ep:=0) hu I2 (by rw[dQ hbp,iQ]) (by simp) (by rw[iQ];rfl) r2 (by decide) λep s3 I3=>wpAny_pure ?_))
  dsimp only
  rw[P5]
  refine wpAny_pure ⟨.ref s.heap.objs.size,_,I3,rfl,?_⟩
  have e:NQ (NQ (NQ H s.heap.objs.size (TQ hL s.heap.objs.size 0 [])) b (.tup [])) s.heap.objs.size (TQ hL s.heap.objs.size ep (SZ [] [] b (.bl true)))=NQ (NQ H b (.tup [])) s.heap.objs.size (TQ hL s.heap.objs.size ep [([],b,.bl true)]):=by
   funext c
   by_cases z:c=s.heap.objs.size
   ·subst z;rw[iQ,iQ];rfl
   ·rw[dQ z,dQ z]
    by_cases z2:c=b
    ·subst z2;rw[iQ,iQ]
    ·rw[dQ z2,dQ z2,dQ z]
  rw[e]
  exact q _ b ep hn hb0 hbp
end L2
namespace L3
open PySem PySem.Spec PyProof.Rows L2
noncomputable def gj:TD:=λρ Q=>Q (.ow (xX [([],.bool true)])) ρ
theorem jw{K:Fg}{σ:L2.St}{H:Hp}{Q:VK}(h:lift K gj σ H Q):dj σ H Q:=by
 obtain⟨G,F,ρ,Qd,R,w,k⟩:=h
 intro p b ep hp hb hpb
 obtain⟨sb,R1⟩:=R.newE (o:=.tup []) hb
 have hp1:NQ H b (.tup []) p=none:=by rw[dQ hpb];exact hp
 obtain⟨R',r'⟩:=R1.newOw (o:=TQ hL p ep [([],b,.bl true)]) (d:=xX [([],.bool true)]) hp1 (Own1.pd (.cons iQ (.bl _) .nil))
 exact k _ _ _ _ ρ sb R' r' w
section
variable {X:Cx}{K:Fg}{k v:Expr}{pos:Pos}
theorem lw(hu:X.A.units < cLine)(hk:PE X k (Aq yq))(hv:PE X v (tC (.bl true))):WE X (.Dict [some k] [v] pos) (lift K gj):=⟨MV (fj hu hk hv) jw⟩
end
end L3
namespace L2
open PySem PySem.Spec PyProof.Rows
theorem SD{prog:Program}{w:World}{A:Around}{it d:Addr}{es:Array DictEntry}{ep:Nat}{od:Obj}(hh:A.handled=none)(nd:d≠it)(yd:od.data=.dict es ep) :
  PySem.Walks prog w A it [it,d] [it] es.size (λi v=>∃h:i < es.size,v=es[i].key) (λi h=>h.IsKeyIter it d i es.size ep/\h.get? d=some od) where
 sub:=λb hb=>V0.mpr (.inl (by simpa using hb))
 frame:=λi h h' st k=>⟨st.1.at λo e=>k it (by simp) o e,k d (by simp) od st.2⟩
 item:=λi s Q E hi st q=>xF st.1 st.2 yd hi λh' st' sb=>q es[i].key h' s.toks ⟨hi,rfl⟩ ⟨st',(sb.2 d nd).trans st.2⟩ λb o hb e=>(sb.2 b (by simpa using hb)).trans e
 done:=λs Q E st q=>Yz hh st.1 st.2 yd (R0 _) λh' eb=>q h' s.toks λb o hb e=>eb b o (by simpa using hb) e
 self:=λi s Q E st h=>wpAny_pyIter_keyiter st.1 h
theorem ij{prog:Program}{w:World}{d:Addr}{es:Array DictEntry}{ep:Nat}{od:Obj}(hm:(d==sysModules)=false)(hx:od.ExactDict)(yd:od.data=.dict es ep) :
  PySem.W.KdlSrc prog w "dict" d d es.size (λi v=>∃h:i < es.size,v=es[i].key) (λh=>h.get? d=some od) where
 type:=λs e=>⟨od,e,hx.1⟩
 there:=λh e=>⟨L0 e,L0 e⟩
 keep:=λh h' e k=>k d (.inl rfl) od e
 notList:=by decide
 notTuple:=by decide
 hint:=λA E s Q e q=>PySem.W.kdl_hint_dict ⟨od,e,hx.1⟩ q
 iter:=λA s hh e=>⟨_,_,λE Q q=>yF hm e hx yd q,SD hh (W0 (L0 e)) yd,⟨⟨_,G0 _ rfl,rfl,rfl⟩,j0 _ e⟩⟩
theorem vV:∀ys:List (List Int×Addr×V),Vals (ys.map λy=>V.ref y.2.1) (ys.map λy=>U1 y.2.1)
 | []=>.nil
 | _ :: ys=>.cons rfl (vV ys)
noncomputable def Fv:List V->Hp->VK->Prop:=λxs H Q=>∃(d d':Addr) (ep:Nat) (ys:List (List Int×Addr×V)),xs=[.ref d]/\H d=some (TQ hL d' ep ys)/\∀l,H l=none->Q (.ref l) (NQ H l (.lst (ys.map λy=>V.ref y.2.1)))
theorem qG{X:Cx}(hc:X.calm=true):BX X (.type "list") Fv:=by
 intro pins s σ H xs us Q I r h
 obtain⟨d,d',ep,ys,rfl,hd,q⟩:=h
 obtain⟨u,rfl,ru⟩:=aJ r
 cases ru
 obtain⟨vs,o,es,pr,e1,e2,e3,e4,hz,nd,hl,hm⟩:=ext_at I hd
 have hn:es.size<=sizeLine:=by rw[hz];exact hl
 refine PySem.W.kdl_call (ij hm e2 e3) (I.ok.hd hc) e1 hn λh' tk acc' c' hk hS hacc=>?_
 refine ⟨.ref s.heap.objs.size,_,I.laid (t':=tk) (o:=.lst (ys.map λy=>V.ref y.2.1)) hk (R0 _) ?_,rfl,q _ (I.hok.fresh (R0 _))⟩
 refine ⟨by rw[A0];exact hl,acc'.toList,c',?_,by simpa using hS⟩
 have e5:acc'.toList=ys.map λy=>U1 y.2.1:=by
  refine B8 λi=>?_
  by_cases hi:i < ys.length
  ·have hi':i < acc'.size:=by rw[hacc.1,hz];exact hi
   have hie:i < es.size:=by rw[hz];exact hi
   obtain⟨_,hv⟩:=hacc.2 i acc'[i] (by simp[hi'])
   have g1:acc'.toList[i]?=some acc'[i]:=by simp[hi']
   obtain⟨v,hv2,r1,r2,_⟩:=rY pr (P0 hi)
   have q2:es.toList[i]?=some es[i]:=by simp[hie]
   rw[e4,X0,hv2]at q2
   rw[g1,hv,X0,P0 hi]
   rw[<- V1 q2]
   show some (U1 v.2.1)=some (U1 ys[i].2.1)
   rw[r2]
  ·have h1:acc'.size<=i:=by rw[hacc.1,hz];omega
   rw[h9 (by simpa using h1),h9 (by rw[A0];omega)]
 rw[e5]
 exact vV ys
end L2
namespace L3
open PySem PySem.Spec PyProof.Rows L2
noncomputable def kj:D->(Sl->Prop)->Prop
 | .dict [(.bool false,.list L)],Q=>Q (.ow (.list (uJ L)))
 | _,_=>False
theorem Gv{K:Fg}{F H:Hp}{v:V}{L:List D}(s:Sub F H)(h1:At K F H v (.dict [(.bool false,.list L)])):∃(b b':Addr) (ep:Nat) (ys:List (List Int×Addr×V)) (qs:List (List Int×D)),v=.ref b/\H b=some (TQ hL b' ep ys)/\DaPd K F ys qs/\L=qs.map λp=>.tuple [tI p.1,p.2]:=by
 rcases h1 with h1|⟨b,o,rfl,g1,g2,g3⟩
 ·rcases uY h1 with⟨_,_,z,_⟩|⟨c,a',ep,ys,qs,rfl,e1,g1,z⟩|⟨_,_,_,_,_,_,_,z⟩
  ·cases z
  ·injection z with z
   exact ⟨c,a',ep,ys,qs,rfl,s _ _ e1,g1,z⟩
  ·cases z
 ·cases o with
  | ext φ =>
   obtain⟨a',ep,ys,qs,z,z2,t⟩:=g3.ext
   rw[z]at g2
   refine ⟨b,a',ep,ys,qs,rfl,g2,t,?_⟩
   injection z2 with z2;injection z2 with z2 _;injection z2 with _ z2;injection z2
  | dK kvs =>
   exfalso
   have h:DaKV K F kvs [(K5 false,E1 L)]:=g3
   generalize e9:[(K5 false,E1 L)]=es at h
   cases h with
   | nil=>cases e9
   | @cons k _ _ _ _ _ _=>cases k<;>cases e9
  | dT kvs =>
   exfalso
   have h:DaKT K F kvs [(K5 false,E1 L)]:=g3
   generalize e9:[(K5 false,E1 L)]=es at h
   cases h with
   | nil=>cases e9
   | cons _ _=>cases e9
  | _=>exact g3.elim
theorem dH{K:Fg}{F:Hp}:∀{xs:List (List Int×Addr×V)}{ps:List (List Int×D)},DaPd K F xs ps->DaAll K F (xs.map λy=>V.ref y.2.1) (ps.map λp=>tI p.1)
 | _,_,.nil=>.nil
 | _,_,.cons e _ t=>.cons (.tup e (DaAll.ints _)) (dH t)
theorem lj{K:Fg}:eX K Fv (o1 kj):=by
 intro G F σ H ρ vs ds Q Qd R a w k
 match ds,a,w with
 | [d],a,w =>
  obtain⟨v,rfl,h1⟩:=a.one
  have w:kj d Qd:=w
  unfold kj at w
  split at w
  rotate_left
  ·exact w.elim
  rename_i L w
  obtain⟨b,b',ep,ys,qs,rfl,hb,t,rfl⟩:=Gv R.sub h1
  refine ⟨b,b',ep,ys,rfl,hb,λl hl=>?_⟩
  rw[EZ]at w
  have da:DaAll K F (ys.map λy=>V.ref y.2.1) (qs.map λp=>tI p.1):=dH t
  obtain⟨R',r'⟩:=R.newOw (o:=.lst (ys.map λy:List Int×Addr×V=>V.ref y.2.1)) (d:=.list (qs.map λp:List Int×D=>tI p.1)) hl da
  exact k _ _ F _ (Sub.refl _) R' r' w
theorem mj{K:Fg}{F:Hp}{c:Addr}{xs:List V}(h:SqL K F c xs):∃F0:Hp,Sub F0 F/\SqL K F0 c xs/\∀b φ,F0 b≠some (.ext φ):=by
 rcases h with h|h
 ·have go:∀o,F c=some o->(∀φ,o≠.ext φ)->(∀F':Hp,F' c=some o->Rd F' c (.lst xs))->∃F0:Hp,Sub F0 F/\SqL K F0 c xs/\∀b φ,F0 b≠some (.ext φ):=λo e n k =>
   ⟨only c o,λb u z=>by obtain⟨rfl,rfl⟩:=oF z;exact e,.inl (k _ (by unfold only;rw[if_pos rfl])),λb φ z=>by obtain⟨_,z⟩:=oF z;exact n φ z.symm⟩
  rcases h with h|⟨o,h⟩
  ·exact go _ h (λφ z=>by cases z) λF' e=>.inl e
  ·exact go _ h (λφ z=>by cases z) λF' e=>.inr ⟨o,e⟩
 ·exact ⟨λ_=>none,λb u z=>(by cases z),.inr h,λb φ z=>(by cases z)⟩
theorem SqL.part{K:Fg}{F F':Hp}{c:Addr}{xs:List V}(h:SqL K F c xs)(k:∀b o,F b=some o->(∀φ,o≠.ext φ)->F' b=some o):SqL K F' c xs:=by
 rcases h with (h|⟨o,h⟩)|h
 ·exact .inl (.inl (k _ _ h λφ z=>by cases z))
 ·exact .inl (.inr ⟨o,k _ _ h λφ z=>by cases z⟩)
 ·exact .inr h
theorem DaPd.part{K:Fg}{F F':Hp}(k:∀b o,F b=some o->(∀φ,o≠.ext φ)->F' b=some o):∀{xs:List (List Int×Addr×V)}{rows:List (List Int×Int)},DaPd K F xs (rows.map λq=>(q.1,u0 q.2))->DaPd K F' xs (rows.map λq=>(q.1,u0 q.2))
 | [],[],.nil=>.nil
 | _ :: _,_ :: _,.cons e h t=>by
  cases h
  exact .cons (k _ _ e λφ z=>by cases z) (.int _) (DaPd.part k t)
theorem zF{K:Fg}{F F':Hp}{v:V}{p:List Int}(k:∀b o,F b=some o->(∀φ,o≠.ext φ)->F' b=some o)(h:Da K F v (tI p)):Da K F' v (tI p):=by
 obtain⟨b,rfl,hb⟩:=vZ h
 exact .tup (k _ _ hb λφ z=>by cases z) (DaAll.ints p)
theorem mw{K:Fg}{H F0:Hp}{g:Addr}{o:HO}{d:D}(s:Sub F0 H)(h1:F0 g=none)(h2:H g=some o)(h3:Own1 K F0 o d) :
  Rel K ⟨H,F0,λi=>if i=0 then some g else none⟩ F0 [some (.ref g)] H [some (.io d)]:=by
 refine ⟨rfl,s,Sub.refl _,λ_ _ e=>.inl e,λ_ _ e _=>e,λi d e=>?_,λi t e w=>?_,λi d a e ea=>?_,λi a e=>?_,λi d e=>?_,λi j t u a e1 w1 e2 w2 _ _=>?_⟩
 ·match i,e with
  | 0,e=>cases e
  | i+1,e=>simp at e
 ·match i,e with
  | 0,e=>cases e;exact ⟨g,o,rfl,h1,h2,h3⟩
  | i+1,e=>simp at e
 ·match i,e with
  | 0,e=>cases e
  | i+1,e=>simp at e
 ·by_cases z:i=0
  ·subst z;cases e;exact ⟨_,rfl,rfl⟩
  ·have e:(if i=0 then some g else none)=some a:=e
   rw[if_neg z]at e;cases e
 ·match i,e with
  | 0,e=>exact ⟨g,rfl⟩
  | i+1,e=>simp at e
 ·match i,j,e1,e2 with
  | 0,0,_,_=>rfl
  | 0,j+1,_,e2=>simp at e2
  | i+1,_,e1,_=>simp at e1
noncomputable abbrev pB(ns:List Int)(k l:Int):D:=.list [OX ns,.int k,.int l]
noncomputable abbrev kL(rows:List (List Int×Int)):D:=xX (rows.map λq=>(q.1,u0 q.2))
noncomputable def oj(x y i:Nat)(con:Con):DJ:=λE ρ=>∃(ns:List Int) (k l:Int) (s:Sl),ρ[i]?=some (some s)/\OQ s=true/\s.d=pB ns k l/\OW ρ x/\OW ρ y/\x≠y/\i≠x/\i≠y /\
 con [.io (pB ns k l)] λr o=>∃(k' l':Int) (p q:List Int) (rows:List (List Int×Int)),o[0]?=some (some (.io (pB ns k' l')))/\r=.fz (.tuple [.tuple [tI p,tI q],kL rows]) /\
  E.nx (((ρ.set i (some (s.put (pB ns k' l')))).set x (some (.fz (.tuple [tI p,tI q])))).set y (some (.ow (kL rows))))
theorem qB{ps qs:List (List Int×D)}(z2:xX ps=xX qs):ps=qs:=by
 have e2:ps.map (λp=>U0 [U0 (p.1.map u0),p.2])=qs.map (λp=>U0 [U0 (p.1.map u0),p.2]):=by
  injection z2 with z2;injection z2 with z2 _;injection z2 with _ z2;injection z2
 exact (Z6 (λx y q=>by
   injection q with q
   injection q with q1 q2
   injection q2 with q2 _
   injection q1 with q1
   exact Prod.ext ((Z6 (λx y z=>by injection z)).mp q1) q2)).mp e2
theorem rW{ρ:Ev}{i x:Nat}{t:Option Sl}(n:i≠x)(h:OW ρ x):OW (ρ.set i t) x:=by
 unfold OW at h ⊢
 rw[B1 n]
 exact h
theorem DaAll.both{K:Fg}{F:Hp}{xs:List V}{d e:D}(h:DaAll K F xs [d,e]):∃u v,xs=[u,v]/\Da K F u d/\Da K F v e:=by
 cases h with
 | cons h1 h =>
  cases h with
  | cons h2 h=>cases h;exact ⟨_,_,rfl,h1,h2⟩
theorem qw{K:Fg}{x y i:Nat}{con:Con}{E:Ends}{σ:L2.St}{H:Hp}(h:oQ K (oj x y i con) E σ H) :
  bY (cK (kQ K con) [] E0 (zq (bK i) yq)) (nq K 2 (DG (yZ x) (DG (yZ y) wy))) E σ H:=by
 obtain⟨G,F,ρ,D,R,⟨ns,k,l,s,ei,wi,es,nx,ny,hxy,hix,hiy,w⟩,n,r,b,ct⟩:=h
 obtain⟨g,og,hvi,fg,hg,owg⟩:=R.ow i s ei wi
 rw[es]at owg
 cases og with
 | lst ys =>
  have owg:DaAll K F ys [OX ns,.int k,.int l]:=owg
  have key:∃c,ys=[.ref c,.int k,.int l]/\SqL K F c (ns.map V.int):=by
   cases owg with
   | cons d1 dt =>
    obtain⟨c,ec,hc⟩:=d1.scr_inv rfl
    cases dt with
    | cons d2 dt =>
     cases dt with
     | cons d3 dt=>cases d2;cases d3;cases dt;exact ⟨c,by rw[ec],hc⟩
  obtain⟨c,rfl,hc⟩:=key
  have d3:∀F':Hp,DaAll K F' [.int k,.int l] [.int k,.int l]:=λF'=>.cons (.int _) (.cons (.int _) .nil)
  obtain⟨F0,s0,c0,n0⟩:=mj hc
  have f0g:F0 g=none:=by
   cases z:F0 g with
   | none=>rfl
   | some o=>rw[s0 _ _ z]at fg;cases fg
  have Rc:=mw (K:=K) (d:=pB ns k l) (s0.trans R.sub) f0g hg (show DaAll K F0 _ _ from .cons (.scr c0) (d3 F0))
  refine ⟨_,hvi,⟨_,_,_,_,Rc,w,λv H1 F1 r1 ρ1 s1 R1 res1 ⟨k',l',p,q,rows,o1,er,w1⟩=>?_⟩⟩
  subst er
  have res1:Da K F1 v (.tuple [.tuple [tI p,tI q],kL rows]):=res1
  obtain⟨g',og',gv,fg1,hg1,owg1⟩:=R1.ow 0 _ o1 rfl
  cases gv
  cases res1 with
  | tup hta hda =>
   rename_i ta xs
   obtain⟨u1,u2,rfl,e1,e2⟩:=hda.both
   obtain⟨a,a',ep,zs,rfl,ha,hpd⟩:∃(a a':Addr) (ep:Nat) (zs:List (List Int×Addr×V)),u2=.ref a/\F1 a=some (TQ hL a' ep zs)/\DaPd K F1 zs (rows.map λq=>(q.1,u0 q.2)):=by
    rcases uY e2 with⟨_,_,z,_⟩|⟨a,a',ep,zs,qs,rfl,e1,g1,z⟩|⟨_,_,_,_,_,_,_,z⟩
    ·cases z
    ·refine ⟨a,a',ep,zs,rfl,e1,?_⟩
     rw[qB (ps:=rows.map λq=>(q.1,u0 q.2)) (qs:=qs) (by unfold xX;rw[z])]
     exact g1
    ·cases z
   have na:H a=none:=by
    rcases R1.fn a _ ha with z|z
    ·exact (n0 _ _ z).elim
    ·exact z
   have fa:F a=none:=R.f0 na
   obtain⟨F2,hF2⟩:∃F2:Hp,F2=λb=>if b=a then none else match F b with
    | some o=>some o
    | none=>F1 b:=⟨_,rfl⟩
   have f2a:F2 a=none:=by rw[hF2];exact if_pos rfl
   have sF:Sub F F2:=λb o e=>by
    have nb:b≠a:=λz=>by rw[z,fa]at e;cases e
    rw[hF2]
    show (if b=a then none else _)=_
    rw[if_neg nb,e]
   have s1F:∀b o,F1 b=some o->(∀φ,o≠.ext φ)->F2 b=some o:=λb o e ne=>by
    have nb:b≠a:=λz=>by rw[z,ha]at e;cases e;exact ne _ rfl
    rw[hF2]
    show (if b=a then none else _)=_
    rw[if_neg nb]
    cases z:F b with
    | none=>exact e
    | some o' =>
     rcases R1.fn b o e with q|q
     ·have:=s0 _ _ q
      rw[z]at this
      exact this
     ·have:=R.f0 q
      rw[z]at this;cases this
   have inv:∀b o,F2 b=some o->b≠a/\(F b=some o\/F b=none/\F1 b=some o):=λb o e=>by
    have nb:b≠a:=λz=>by rw[z,f2a]at e;cases e
    refine ⟨nb,?_⟩
    rw[hF2]at e
    have e:(if b=a then none else match F b with
      | some o=>some o
      | none=>F1 b)=some o:=e
    rw[if_neg nb]at e
    cases z:F b with
    | none=>rw[z]at e;exact .inr ⟨rfl,e⟩
    | some o'=>rw[z]at e;exact .inl e
   have f2g:F2 g=none:=by
    cases z:F2 g with
    | none=>rfl
    | some o =>
     rcases (inv g o z).2 with q|⟨_,q⟩
     ·rw[fg]at q;cases q
     ·rw[fg1]at q;cases q
   have kp:∀b o,H b=some o->b≠g->H1 b=some o:=λb o e nb=>R1.keep b o e λj hj=>by
    have hj:(if j=0 then some g else none)=some b:=hj
    split at hj
    ·cases hj;exact nb rfl
    ·cases hj
   have Rg:Rel K G F2 σ (NQ H1 g (.lst [.ref c,.int k,.int l])) ρ:=by
    refine R.grown sF (λb o e=>?_) (λb o e=>?_) λb o e=>?_
    ·have nb:b≠g:=λz=>by rw[z,f2g]at e;cases e
     rw[dQ nb]
     rcases (inv b o e).2 with q|⟨_,q⟩
     ·exact kp b o (R.sub _ _ q) nb
     ·exact R1.sub _ _ q
    ·rcases (inv b o e).2 with q|⟨q0,q⟩
     ·exact .inl q
     ·rcases R1.fn b o q with z|z
      ·have:=s0 _ _ z
       rw[q0]at this;cases this
      ·exact .inr z
    ·by_cases z:b=g
     ·subst z;rw[iQ,<- hg,e]
     ·rw[dQ z];exact kp b o e z
   have owg2:Own1 K F2 og' (pB ns k' l'):=by
    cases og' with
    | lst us =>
     have owg1:DaAll K F1 us [OX ns,.int k',.int l']:=owg1
     show DaAll K F2 us [OX ns,.int k',.int l']
     cases owg1 with
     | cons q1 qt =>
      obtain⟨c',ec',hc'⟩:=q1.scr_inv rfl
      subst ec'
      refine .cons (.scr (SqL.part hc' s1F)) ?_
      cases qt with
      | cons q2 qt =>
       cases qt with
       | cons q3 qt=>cases q2;cases q3;cases qt;exact .cons (.int _) (.cons (.int _) .nil)
    | _=>exact (owg1:False).elim
   have R2:=Rg.change (o':=og') (d':=pB ns k' l') ei wi hvi owg2
   have eh:NQ (NQ H1 g (.lst [.ref c,.int k,.int l])) g og'=H1:=by
    funext b
    by_cases z:b=g
    ·subst z;rw[iQ];exact hg1.symm
    ·rw[dQ z,dQ z]
   rw[eh]at R2
   have du1:Da K F2 u1 (.tuple [tI p,tI q]):=by
    cases e1 with
    | tup ht hd =>
     cases hd with
     | cons m1 hd =>
      cases hd with
      | cons m2 hd =>
       cases hd
       exact .tup (s1F _ _ ht λφ z=>by cases z) (.cons (zF s1F m1) (.cons (zF s1F m2) .nil))
   have R3:=R2.asg (s:=.fz (.tuple [tI p,tI q])) (rW hix nx) du1
   have hag:a≠g:=λz=>by rw[z,hg]at na;cases na
   have R4:=R3.asg (i:=y) (v:=.ref a) (s:=.ow (kL rows)) (rW hxy (rW hiy ny)) ⟨a,_,rfl,f2a,R1.sub _ _ ha,Own1.pd (DaPd.part s1F hpd),R.h0 na,λj t e wt z=>by
     rcases nQ e with⟨rfl,u⟩|⟨nj,u⟩
     · cases u;cases wt
     · rw[B1 (Z2 nj)]at z
       rcases nQ u with⟨rfl,u⟩|⟨nj2,u⟩
       · rw[hvi]at z;cases z;exact hag rfl
       · exact R.nobody na j t u wt z⟩
   refine ⟨ta,_,rfl,SqT.of (R1.sub _ _ hta),rfl,⟨_,_,rfl,⟨_,_,rfl,rfl,?_⟩⟩⟩
   exact n _ _ F2 _ sF R4 w1
 | _=>exact (owg:False).elim
section
variable {X:Cx}{K:Fg}{p p1 p2 p3 p4 pos pos':Pos}{f a x y:Str}
theorem tw{i n m k:Nat}{kk:Nat}{ps:List Str}{con:Con}(C:Cal X.prog X.w X.K X.mg X.base k f ps (kQ K con))(hr:Room k X.A)(hK:X.K=K)(hc:X.calm=true)(hi:WE X (.Name a p1) (uQ K (.inl i)))
  (hN:X.N.Nodup) (hx:X.N[n]?=some x) (hy:X.N[m]?=some y) (lx:ix X.env.scope x) (ly:ix X.env.scope y)
  (hfx:X.fn x=true\/X.env.scope.names.lookup x=some .local:=by first|exact .inl rfl|exact .inr rfl|assumption) (hfy:X.fn y=true\/X.env.scope.names.lookup y=some .local:=by first|exact .inl rfl|exact .inr rfl|assumption) (hg:Gl X f:=by rfl) (hdb:(f==("__debug__":Str))=false:=by decide)
  (hs:swapsWithSole [.Tuple [.Name x p2,.Name y p3] kk p4] (.Call (.Name f p) [.Name a p1] [] pos) pos'.line X.env=pure false:=by rfl) (hw:swappedStores [.Tuple [.Name x p2,.Name y p3] kk p4] (.Call (.Name f p) [.Name a p1] [] pos) X.env=pure none:=by rfl)
  (h1:(assignEach [.Tuple [.Name x p2,.Name y p3] kk p4] X.env).map (·.2)=[assign (.Tuple [.Name x p2,.Name y p3] kk p4) X.env]:=by rfl) :
  WS X (.Assign [.Tuple [.Name x p2,.Name y p3] kk p4] (.Call (.Name f p) [.Name a p1] [] pos) pos') (oQ K (oj n m i con)):=by
 subst hK
 exact ⟨xD (oq (sU C hr (EV hi.h DV) hg hdb) (RG rfl hc (zY (BV hN hx lx hfx) (zY (BV hN hy ly hfy) EG))) hs hw h1) qw⟩
end
end L3
namespace L2
open PySem PySem.Spec PyProof.Rows
theorem uw{prog:Program}{w:World}{A:Around}{E:Value->Shared->Prop}{s:Shared}{l sl m:Addr}{xs ys:Array Value}{n:Nat}{ol:Obj}{Q:Unit->Shared->Prop}(hl:s.heap.get? l=some ol)(hc:ol.cls=.type "list")(hd:ol.data=.seq xs n)
  (hs:s.heap.IsSliceOf sl .none .none .none) (hm:s.heap.IsList m ys) (hne:l≠m) (hz:xs.size+ys.size<=sizeLine) (q:Q () { s with heap:=s.heap.update l (B2 λzs=>zs.extract 0 0++ys++zs.extract xs.size zs.size) }) :
  wpAny (model prog w) A (setItem (.ref l) (.ref sl) (.ref m)) Q E s:=by
 have tl:s.TypeIs (.ref l) "list":=⟨ol,hl,hc⟩
 obtain⟨om,g1,g2,nm,g3⟩:=id hm
 obtain⟨os,e1,e2,e3⟩:=id hs
 have ts:s.TypeIs (.ref sl) "slice":=⟨os,e1,e2⟩
 unfold setItem
 try with_reducible refine wpAny_holding ?_
 first|refine wpAny_bind (wpAny_pure ?_)|skip
 refine wpAny_bind (wpAny_sequenceKey tl (by decide) (wpAny_bind (wpAny_callSpecial?_slot (name:=Str.ofString "__setitem__") tl slot_list_setitem (wpAny_call_entry slot_list_setitem tl entry_list_setitem ?_ (args_list_setitem _ _ _)))))
 show wpAny _ _ (i8 (.ref sl) >>= _) _ _ s
 refine wpAny_bind ?_
 unfold i8
 refine wpAny_bind (wpAny_specialOf ts slice_no_index ?_)
 simp only[M9,if_true]
 refine wpAny_pure ?_
 show wpAny _ _ (typeOf (.ref sl) >>= _) _ _ s
 refine wpAny_bind (wpAny_typeOf ts ?_)
 rw[if_neg (by decide),listSliceParts_eq]
 refine wpAny_bind (wpAny_bind (wpAny_field e1 e3 (x:=.none) rfl (wpAny_bind (wpAny_listPart .none ?_))))
 rw[if_neg (by exact J1)]
 refine wpAny_bind (wpAny_field e1 e3 (x:=.none) rfl (wpAny_bind (wpAny_listPart .none (wpAny_bind (wpAny_field e1 e3 (x:=.none) rfl (wpAny_bind (wpAny_listPart .none (wpAny_pure ?_))))))))
 have hsm:i6 (.ref l) (.ref m)=false:=by simp[i6,hne]
 dsimp only
 simp only[hsm,O2,if_false]
 refine wpAny_bind ?_
 unfold Builtin.List.listAllItems
 refine wpAny_bind (wpAny_typeOf (T:="list") ⟨om,g1,g2⟩ ?_)
 rw[if_pos (by decide)]
 unfold Builtin.List.listItems
 refine wpAny_bind (wpAny_seqItems g1 g3 (wpAny_pure ?_))
 refine wpAny_bind (wpAny_bind (wpAny_seqItems hl hd (wpAny_pure ?_)))
 refine wpAny_bind (wpAny_of_eq (sliceIndices_raw none none none xs.size (by simp)) ?_)
 have eb:sliceBounds none none none xs.size=(0,(xs.size:Int),1):=by simp[sliceBounds]
 have em:(max (0:Int) (xs.size:Int)).toNat=xs.size:=by omega
 have ez:(0:Int).toNat=0:=rfl
 have el:E4 (xs.size+ys.size)=false:=by unfold E4;exact decide_eq_false (by omega)
 simp only[eb,em,ez,el]
 rw[if_pos (by decide)]
 refine wpAny_bind (wpAny_rule ?_)
 simp only[O2,if_false]
 show wpAny _ _ (updateSeq l _ >>= _) _ _ s
 refine wpAny_bind (wpAny_updateSeq hl hd (wpAny_bind (wpAny_letGo (wpAny_pure ⟨.none,rfl,wpAny_pure q⟩))) (hz:=by omega) (_hz':=by simp;omega))
theorem rG(its jts:List Value)(n:Nat):∃n',B2 (λzs=>zs.extract 0 0++jts.toArray++zs.extract its.toArray.size zs.size) { cls:=.type "list",data:=.seq its.toArray n }={ cls:=.type "list",data:=.seq jts.toArray n' }:=by
 refine ⟨if jts.length=its.length then n else n+1,?_⟩
 by_cases z:jts.length=its.length
 ·simp[B2,z]
 ·simp[B2,z]
noncomputable def AF(td tv:TE):TS:=λE σ H=>tv σ H λv H1=>td σ H1 λx H2=>∃(p m:Addr) (xs ys:List V),x=.ref p/\v=.ref m/\p≠m/\H2 p=some (.lst xs)/\H2 m=some (.lst ys)/\xs.length+ys.length<=sizeLine/\E.nx σ (NQ H2 p (.lst ys))
theorem UD{X:Cx}{o value:Expr}{td tv:TE}{p2 pos pos':Pos}(ho:PE X o td)(hv:PE X value tv)(hs:swapsWith value (some (.Subscript o (.Slice none none none p2) pos')) pos.line X.env=pure false) :
  PS X (.Assign [.Subscript o (.Slice none none none p2) pos'] value pos) (AF td tv):=by
 intro pins s σ H D I h
 refine wpAny_Assign_Subscript (wX (hv pins s σ H _ I h) λr s1 ⟨v,H1,I1,rv,q1⟩=>wX (ho pins s1 σ H1 _ I1 q1) λu s2 ⟨x,H2,I2,rx,p,m,xs,ys,ex,ev,ne,e1,e2,hz,q2⟩=>?_) hs
 subst ex ev
 obtain rfl:u=U1 p:=rx
 obtain rfl:r=U1 m:=rv
 refine wpAny_Slice ?_
 rw[evalPart_none]
 refine wpAny_pure (wpAny_pure (wpAny_pure ?_))
 obtain⟨its,n,r1,g1,z1⟩:=I2.lst e1
 obtain⟨jts,n2,r2,g2,z2⟩:=I2.lst e2
 have l1:=r1.length
 have l2:=r2.length
 have I3:Inv X pins σ H2 { s2 with heap:=s2.heap.push { cls:=.type "slice",data:=.fields #[.none,.none,.none] } }:=I2.kept (t':=s2.toks) λb ob q=>j0 _ q
 have k1:=j0 { cls:=.type "slice",data:=.fields #[.none,.none,.none] } g1
 have k2:=j0 { cls:=.type "slice",data:=.fields #[.none,.none,.none] } g2
 obtain⟨n',hn'⟩:=rG its jts n
 refine uw (xs:=its.toArray) (ys:=jts.toArray) (n:=n) k1 rfl rfl (Heap.IsSliceOf.new ..) ⟨_,k2,rfl,n2,rfl⟩ ne (by simp;omega) ⟨σ,_,I3.lstUpd (t:=s2.toks) e1 k1 (its':=jts) (n':=n') hn' r2 (by omega),q2⟩
end L2
namespace L3
open PySem PySem.Spec PyProof.Rows L2
noncomputable def BF(j:Nat)(te:TD):DJ:=λE ρ=>te ρ λr ρ1=>match ρ1[j]? with
 | some (some s)=>∃ds es:List D,s.d=.list ds/\OQ s=true/\r=.ow (.list es)/\ds.length+es.length<=sizeLine/\E.nx (ρ1.set j (some (s.put (.list es))))
 | _=>False
theorem qj{K:Fg}{j:Nat}{te:TD}{σ:L2.St}{H:Hp}{E:Ends}(h:oQ K (BF j te) E σ H):AF (bK j) (lift K te) E σ H:=by
 obtain⟨G,F,ρ,D,R,w,n,r,b,c⟩:=h
 refine ⟨G,F,ρ,_,R,w,λv H1 F1 x ρ1 s1 R1 r1 w1=>?_⟩
 split at w1
 ·rename_i s e
  obtain⟨ds,es,p1,p2,rfl,hz,w1⟩:=w1
  obtain⟨a,o,rfl,g2,g3,g4,g5,g6⟩:=r1
  obtain⟨p,o',q1,q2,q3,q4⟩:=R1.ow j s e p2
  rw[p1]at q4
  cases o with
  | lst ys =>
   cases o' with
   | lst xs =>
    have q4:DaAll K F1 xs ds:=q4
    have g4:DaAll K F1 ys es:=g4
    refine ⟨_,q1,p,a,xs,ys,rfl,rfl,λz=>g6 j s e p2 (by rw[q1,z]),q3,g3,by rw[q4.length,g4.length];exact hz,?_⟩
    exact n σ _ F1 _ s1 (R1.change (o':=.lst ys) (d':=.list es) e p2 q1 g4) w1
   | _=>exact (q4:False).elim
  | _=>exact (g4:False).elim
 ·exact w1.elim
section
variable {X:Cx}{K:Fg}{e e1:Expr}{td:TD}{p2 pos pos':Pos}
theorem rj{j:Nat}(ho:WE X e1 (uQ K (.inl j)))(hv:WE X e (lift K td))(hs:yJ e=true:=by rfl):WS X (.Assign [.Subscript e1 (.Slice none none none p2) pos'] e pos) (oQ K (BF j td)):=⟨xD (UD ho.h hv.h (mJ hs)) qj⟩
end
noncomputable def ZL(a b c:Addr):Nat->Option Addr:=λj=>match j with
 | 0=>some a
 | 2=>some b
 | 3=>some c
 | _=>none
theorem fH{a b c x:Addr}{j:Nat}(h:ZL a b c j=some x):(j=0/\x=a)\/(j=2/\x=b)\/(j=3/\x=c):=by
 unfold ZL at h
 split at h
 ·cases h;exact .inl ⟨rfl,rfl⟩
 ·cases h;exact .inr (.inl ⟨rfl,rfl⟩)
 ·cases h;exact .inr (.inr ⟨rfl,rfl⟩)
 ·cases h
section
variable {K:Fg}{G:Gh}{F F' H H':Hp}{σ:L2.St}{ρ:Ev}
theorem RE{v1 v5:V}{a b c x:Addr}{d e f d1 d5:D}{i:Nat}{t:Sl}(q:([some (.io d),some (.fz d1),some (.io e),some (.io f),some (.fz d5)]:Ev)[i]?=some (some t))(w:OQ t=true)(z:([some (.ref a),some v1,some (.ref b),some (.ref c),some v5]:L2.St)[i]?=some (some (.ref x))) :
  (i=0/\x=a)\/(i=2/\x=b)\/(i=3/\x=c):=by
 match i,q,z with
 | 0,q,z=>cases z;exact .inl ⟨rfl,rfl⟩
 | 1,q,z=>cases q;cases w
 | 2,q,z=>cases z;exact .inr (.inl ⟨rfl,rfl⟩)
 | 3,q,z=>cases z;exact .inr (.inr ⟨rfl,rfl⟩)
 | 4,q,z=>cases q;cases w
 | i+5,q,z=>cases q
theorem VD{v1 v5:V}{d1 d5 d e f:D}{a b c:Addr}{o p r:HO}(s:Sub F H)(hab:a≠b)(hac:a≠c)(hbc:b≠c)(h1:F a=none)(h2:H a=some o)(h3:Own1 K F o d)(g1:F b=none)(g2:H b=some p)(g3:Own1 K F p e)(k1:F c=none)(k2:H c=some r)(k3:Own1 K F r f)
  (da1:Da K F v1 d1) (da5:Da K F v5 d5):Rel K ⟨H,F,ZL a b c⟩ F [some (.ref a),some v1,some (.ref b),some (.ref c),some v5] H [some (.io d),some (.fz d1),some (.io e),some (.io f),some (.fz d5)] where
 len:=rfl
 sub:=s
 sub0:=Sub.refl _
 fn:=λ_ _ e=>.inl e
 keep:=λ_ _ e _=>e
 fz:=λi d' q=>by
  match i,q with
  | 0,q=>cases q
  | 1,q=>cases q;exact ⟨v1,rfl,da1⟩
  | 2,q=>cases q
  | 3,q=>cases q
  | 4,q=>cases q;exact ⟨v5,rfl,da5⟩
  | i+5,q=>cases q
 ow:=λi t q w=>by
  match i,q with
  | 0,q=>cases q;exact ⟨a,o,rfl,h1,h2,h3⟩
  | 1,q=>cases q;cases w
  | 2,q=>cases q;exact ⟨b,p,rfl,g1,g2,g3⟩
  | 3,q=>cases q;exact ⟨c,r,rfl,k1,k2,k3⟩
  | 4,q=>cases q;cases w
  | i+5,q=>cases q
 new:=λi d' x q _=>by
  match i,q with
  | 0,q=>cases q
  | 1,q=>cases q
  | 2,q=>cases q
  | 3,q=>cases q
  | 4,q=>cases q
  | i+5,q=>cases q
 io:=λi x q=>by
  rcases fH q with⟨rfl,rfl⟩|⟨rfl,rfl⟩|⟨rfl,rfl⟩
  ·exact ⟨d,rfl,rfl⟩
  ·exact ⟨e,rfl,rfl⟩
  ·exact ⟨f,rfl,rfl⟩
 ioi:=λi d' q=>by
  match i,q with
  | 0,q=>exact ⟨a,rfl⟩
  | 1,q=>cases q
  | 2,q=>exact ⟨b,rfl⟩
  | 3,q=>exact ⟨c,rfl⟩
  | 4,q=>cases q
  | i+5,q=>cases q
 ap:=λi j t u x e1 w1 e2 w2 x1 x2=>by
  rcases RE e1 w1 x1 with⟨rfl,rfl⟩|⟨rfl,rfl⟩|⟨rfl,rfl⟩<;>rcases RE e2 w2 x2 with⟨rfl,z⟩|⟨rfl,z⟩|⟨rfl,z⟩
  ·rfl
  ·exact (hab z).elim
  ·exact (hac z).elim
  ·exact (hab z.symm).elim
  ·rfl
  ·exact (hbc z).elim
  ·exact (hac z.symm).elim
  ·exact (hbc z.symm).elim
  ·rfl
theorem OpdsAt.five{vs:List V}{x1 x2 x3 x4 x5:IV}(h:OpdsAt K F σ vs [x1,x2,x3,x4,x5]):∃v1 v2 v3 v4 v5,vs=[v1,v2,v3,v4,v5]/\oV K F σ v1 x1/\oV K F σ v2 x2/\oV K F σ v3 x3/\oV K F σ v4 x4/\oV K F σ v5 x5:=by
 cases h with
 | cons h1 h =>
  cases h with
  | cons h2 h =>
   cases h with
   | cons h3 h =>
    cases h with
    | cons h4 h =>
     cases h with
     | cons h5 h=>cases h;exact ⟨_,_,_,_,_,rfl,h1,h2,h3,h4,h5⟩
noncomputable def sj(con:Con)(i j m:Nat)(ta tb:TD):TD:=λρ Q=>JX [.inl i,.inr ta,.inl j,.inl m,.inr tb] ρ λxs ρ1=>match xs with
 | [.inl i,.inr d1,.inl j,.inl m,.inr d5]=>match ρ1[i]?,ρ1[j]?,ρ1[m]? with
  | some (some s),some (some t),some (some u)=>OQ s=true/\OQ t=true/\OQ u=true/\i≠j/\i≠m/\j≠m/\con [.io s.d,.fz d1,.io t.d,.io u.d,.fz d5] λr outs=>match r,outs with
   | .fz d0,some (.io d') :: _ :: some (.io e') :: some (.io f') :: _=>Q (.fz d0) (((ρ1.set i (some (s.put d'))).set j (some (t.put e'))).set m (some (u.put f')))
   | _,_=>False
  | _,_,_=>False
 | _=>False
theorem vw{con:Con}{i j m:Nat}{ta tb:TD}{E:XK}{Q:VK}(h:lift K (sj con i j m ta tb) σ H Q):cK (kQ K con) [] E (CQ ([.inl i,.inr ta,.inl j,.inl m,.inr tb].map (uQ K))) σ H Q:=by
 obtain⟨G,F,ρ,Qd,R,w,k⟩:=h
 refine yX R w λvs H1 F1 xs ρ1 s1 R1 op w1=>?_
 split at w1
 rotate_left
 ·exact w1.elim
 rename_i i d1 j m d5
 split at w1
 rotate_left
 ·exact w1.elim
 rename_i s t u e1 e2 e3
 obtain⟨ws,wt,wu,hij,him,hjm,w1⟩:=w1
 obtain⟨v0,v1,v2,v3,v4,rfl,o1,o2,o3,o4,o5⟩:=op.five
 have o1:σ[i]?=some (some v0):=o1
 have o3:σ[j]?=some (some v2):=o3
 have o4:σ[m]?=some (some v3):=o4
 obtain⟨a,o,a1,a2,a3,a4⟩:=R1.ow i s e1 ws
 obtain⟨b,p,b1,b2,b3,b4⟩:=R1.ow j t e2 wt
 obtain⟨c,r0,c1,c2,c3,c4⟩:=R1.ow m u e3 wu
 rw[o1]at a1;cases a1
 rw[o3]at b1;cases b1
 rw[o4]at c1;cases c1
 have hab:a≠b:=λz=>hij (R1.ap i j s t a e1 ws e2 wt o1 (by rw[o3,z]))
 have hac:a≠c:=λz=>him (R1.ap i m s u a e1 ws e3 wu o1 (by rw[o4,z]))
 have hbc:b≠c:=λz=>hjm (R1.ap j m t u b e2 wt e3 wu o3 (by rw[o4,z]))
 refine ⟨_,F1,[.io s.d,.fz d1,.io t.d,.io u.d,.fz d5],_,VD R1.sub hab hac hbc a2 a3 a4 b2 b3 b4 c2 c3 c4 o2 o5,w1,λv H' F' r ρ' s' R' r' q=>?_⟩
 split at q
 ·rename_i d0 d' y e' f' ρ2
  obtain⟨a',oa,x1,x2,x3,x4⟩:=R'.ow 0 (.io d') rfl rfl
  cases x1
  obtain⟨b',pb,y1,y2,y3,y4⟩:=R'.ow 2 (.io e') rfl rfl
  cases y1
  obtain⟨c',rc,z1,z2,z3,z4⟩:=R'.ow 3 (.io f') rfl rfl
  cases z1
  have R2:Rel K G F' σ (NQ (NQ (NQ H' a o) b p) c r0) ρ1:=by
   refine R1.grown R'.sub0 (λx u z=>?_) (λx u z=>R'.fn x u z) λx u z=>?_
   ·have n1:x≠a:=λe=>by rw[e,x2]at z;cases z
    have n2:x≠b:=λe=>by rw[e,y2]at z;cases z
    have n3:x≠c:=λe=>by rw[e,z2]at z;cases z
    rw[dQ n3,dQ n2,dQ n1]
    exact R'.sub _ _ z
   ·by_cases n3:x=c
    ·subst n3;rw[iQ,<- c3,z]
    ·rw[dQ n3]
     by_cases n2:x=b
     ·subst n2;rw[iQ,<- b3,z]
     ·rw[dQ n2]
      by_cases n1:x=a
      ·subst n1;rw[iQ,<- a3,z]
      ·rw[dQ n1]
       refine R'.keep x u z λl zl=>?_
       rcases fH zl with⟨_,h⟩|⟨_,h⟩|⟨_,h⟩
       ·exact n1 h
       ·exact n2 h
       ·exact n3 h
  have R3:=R2.change (o':=oa) (d':=d') e1 ws o1 x4
  have e2':(ρ1.set i (some (s.put d')))[j]?=some (some t):=by rw[B1 hij];exact e2
  have R4:=R3.change (o':=pb) (d':=e') e2' wt o3 y4
  have e3':((ρ1.set i (some (s.put d'))).set j (some (t.put e')))[m]?=some (some u):=by rw[B1 hjm,B1 him];exact e3
  have R5:=R4.change (o':=rc) (d':=f') e3' wu o4 z4
  have eh:NQ (NQ (NQ (NQ (NQ (NQ H' a o) b p) c r0) a oa) b pb) c rc=H':=by
   funext x
   by_cases n3:x=c
   ·subst n3;rw[iQ];exact z3.symm
   ·rw[dQ n3]
    by_cases n2:x=b
    ·subst n2;rw[iQ];exact y3.symm
    ·rw[dQ n2]
     by_cases n1:x=a
     ·subst n1;rw[iQ];exact x3.symm
     ·rw[dQ n1,dQ n3,dQ n2,dQ n1]
  rw[eh]at R5
  exact k v H' F' (.fz d0) _ (s1.trans s') R5 r' q
 ·exact q.elim
end
section
variable {X:Cx}{K:Fg}{e:Expr}{es:List Expr}{x:Str}{p pos:Pos}
theorem SE{k i j m:Nat}{ta tb:TD}{ps:List Str}{con:Con}(C:Cal X.prog X.w X.K X.mg X.base k x ps (kQ K con))(hr:Room k X.A)(ha:WA X (e :: es) (CQ ([Sum.inl i,Sum.inr ta,Sum.inl j,Sum.inl m,Sum.inr tb].map (uQ K))))(hg:Gl X x:=by rfl)(hdb:(x==("__debug__":Str))=false:=by decide)
  (he:EQ e=true:=by rfl) (hpl:es.all EQ=true:=by rfl):WE X (.Call (.Name x p) (e :: es) [] pos) (lift K (sj con i j m ta tb)):=⟨MV (sU C hr ha.h hg hdb (tQ he) (gX hpl)) vw⟩
end
end L3
namespace L2
open PySem PySem.Spec PyProof.Rows
theorem WD{prog:Program}{w:World}{d:Addr}(hd:(d==sysModules)=false):MeetsIn prog w (Builtin.«dict.__len__» ⟨[.ref d],[]⟩) λ_ R s=>∃(o:Obj) (es:Array DictEntry) (ep:Nat),s.heap.get? d=some o/\o.data=.dict es ep/\R (.ok (.ret (.int es.size s.toks))) { s with toks:=s.toks+1 } :=
 .of_wp λA R s ⟨o,es,ep,ho,hdat,h⟩=>by
  show wpAny _ _ (dictSize d >>= _) _ _ s
  unfold dictSize
  refine wpAny_bind (wpAny_bind (wpAny_dictEntries ho hdat (wpAny_pure ?_)))
  show wpAny _ _ (Builtin.Dict.pendingCount d >>= _) _ _ s
  refine wpAny_bind (wpAny_pendingCount_other hd (wpAny_ret_mkInt ?_))
  rw[Nat.add_zero]
  exact h
theorem ww{prog:Program}{w:World}{A:Around}{E:Value->Shared->Prop}{s:Shared}{d:Addr}{o:Obj}{es:Array DictEntry}{ep:Nat}{Q:Value->Shared->Prop}(hd:(d==sysModules)=false)(ho:s.heap.get? d=some o)(hx:o.ExactDict)(hdat:o.data=.dict es ep)(hfit:(es.size:Int) < 2 ^ 63)
  (h:Q (.int es.size (s.toks+1)) { s with toks:=s.toks+1+1 }):wpAny (model prog w) A (call (.builtin "len") [.ref d]) Q E s:=by
 refine Calls.call_function_entry kind_len plain_len entry_len (args_len1 _) ?_
 have ty:s.TypeIs (.ref d) "dict":=⟨o,ho,hx.1⟩
 unfold Builtin.«len»
 refine wpAny_bind (m:=oneArg "len" _) (wpAny_pure (wpAny_bind (m:=callSpecial? (.ref d) (Str.ofString "__len__")) (wpAny_callSpecial?_slot (name:=Str.ofString "__len__") ty F.slot_dict_len (call_meetsIn F.slot_dict_len ty F.entry_dict_len (F.args_dict_len_1 _) (WD hd) ⟨o,es,ep,ho,hdat,?_⟩))))
 show wpAny _ _ _ _ _ { s with toks:=s.toks+1 }
 refine wpAny_bind (wpAny_holding (wpAny_pure (wpAny_bind (wpAny_letGo ?_))))
 show wpAny _ _ (if ((es.size:Nat):Int) < 0 then _ else _) _ _ _
 rw[if_neg (by omega)]
 show wpAny _ _ (if ((es.size:Nat):Int) ≥ 2 ^ 63 then _ else _) _ _ _
 rw[if_neg (by omega)]
 exact wpAny_bind (wpAny_mkInt (wpAny_pure ⟨_,rfl,h⟩))
noncomputable def Hv:List V->Hp->VK->Prop:=λxs H Q=>∃(d d':Addr) (ep:Nat) (ys:List (List Int×Addr×V)),xs=[.ref d]/\H d=some (TQ hL d' ep ys)/\Q (.int ys.length) H
theorem XD{X:Cx}:BX X (.builtin "len") Hv:=by
 intro pins s σ H xs us Q I r h
 obtain⟨d,d',ep,ys,rfl,hd,q⟩:=h
 obtain⟨u,rfl,ru⟩:=aJ r
 cases ru
 obtain⟨vs,o,es,pr,e1,e2,e3,e4,hz,nd,hl,hm⟩:=ext_at I hd
 have hs:sizeLine=16777216:=sizeLine_eq
 refine ww hm e1 e2 e3 (by omega) ⟨.int ys.length,H,I.tok _,⟨_,by rw[hz]⟩,q⟩
end L2
namespace L3
open PySem PySem.Spec PyProof.Rows L2
noncomputable def tj:D->(Sl->Prop)->Prop
 | .dict [(.bool false,.list L)],Q=>Q (.fz (.int L.length))
 | _,_=>False
theorem zw{K:Fg}:eX K Hv (o1 tj):=by
 intro G F σ H ρ vs ds Q Qd R a w k
 match ds,a,w with
 | [d],a,w =>
  obtain⟨v,rfl,h1⟩:=a.one
  have w:tj d Qd:=w
  unfold tj at w
  split at w
  rotate_left
  ·exact w.elim
  rename_i L w
  obtain⟨b,b',ep,ys,qs,rfl,hb,t,rfl⟩:=Gv R.sub h1
  have hl:=t.length
  rw[A0,<- hl]at w
  exact ⟨b,b',ep,ys,rfl,hb,k _ _ F (.fz (.int ys.length)) (Sub.refl _) R (Da.int _) w⟩
end L3
namespace R22
open PySem L2 L3 PyProof.Rows
noncomputable def top(i:Nat):Stmt:=PySem.Challenge.pw_boxsums_k22_pieces_met_and_answers.main.body.getD i (.Pass ⟨0,0,0,0⟩)
structure Txt(mg:Str->Option Value):Prop where
 len_:mg "len"=none
 abs_:mg "abs"=none
 max_:mg "max"=none
 min_:mg "min"=none
 zip_:mg "zip"=none
 int_:mg "int"=none
 bool_:mg "bool"=none
 range_:mg "range"=none
 repr_:mg "repr"=none
 sorted_:mg "sorted"=none
 isinstance_:mg "isinstance"=none
 list_:mg "list"=none
 tuple_:mg "tuple"=none
 all_:mg "all"=none
 sum_:mg "sum"=none
 dict_:mg "dict"=none
 set_:mg "set"=none
section
variable {P:Program}{w:World}{K:J0}{mg:Str->Option Value}{base:Heap}
noncomputable abbrev QQ(ns:List Int)(k l:Int):PyData:=.list [OX ns,.int k,.int l]
noncomputable def UE:Con:=λargs Q=>∃ns:List Int,args=[.fz (OX ns)]/\∀o,Q (.ow (QQ ns 0 0)) o
theorem VE:FnScope ["_law_script"] ["_law_script"] (gQ (top 11)):=⟨rfl,rfl,rfl,by decide +kernel,rfl,by decide +kernel,by decide +kernel⟩
theorem rB{f:Addr}{fd:FuncData}(F:Fun K "_law_pen" "_law_pen" (top 11) f fd):FnOk P w K mg base VZ 1 f fd ["_law_script"] (kQ K UE):=by
 have S:=VE
 refine fY F S (λcdv A outer s H E hr=>(pQ (XQ (jX (aQ (wx (wv 0)) (aQ (wx cQ) (aQ (wx cQ) bQ))))))) ?_ ?_
 ·rintro args Qd ⟨ns,rfl,_⟩;rfl
 ·rintro args Qd ⟨ns,rfl,q⟩
  exact ⟨yQ rfl,q _⟩
noncomputable def uj:Con:=λargs Q=>∃(ns:List Int) (k l m:Int),args=[.io (QQ ns k l),.fz (.int m)]/\0<=k/\0<=l/\0 < m/\m < 1000000 /\
 ∀(r k' l':Int) (o:Ev),0<=r->r < m->0<=k'->0<=l'->Q (.fz (.int r)) (some (.io (QQ ns k' l')) :: o)
theorem sB:FnScope ["_law_pen_here","_law_most","_law_found","_law_at","_law_cell","_law_number_here"] ["_law_pen_here","_law_most"] (gQ (top 12)):=⟨rfl,rfl,rfl,by decide +kernel,rfl,by decide +kernel,by decide +kernel⟩
theorem Aw{f:Addr}{fd:FuncData}(F:Fun K "_law_take" "_law_take" (top 12) f fd)(T:Txt mg):FnOk P w K mg base VZ 1 f fd ["_law_pen_here","_law_most"] (kQ K uj):=by
 have S:=sB
 refine fY F S (λcdv A outer s H E hr=>(eQ (BJ (EX pV cV (wx (dX rfl (wn 0) (wx cQ))) (wx cQ)) (eQ (wQ (i:=2) S.nd rfl (Or.inl rfl) (w_bin MJ IJ (wx (dX rfl (wn 0) (wx cQ))) (wn 1)))
     (eQ (Nu (w_bin nY iY (wx (dX rfl (wn 0) (wx cQ))) (wn 1)) (wn 0) (wx cQ))
     (pQ (OJ (wn 2))))) nZ)
     (eQ (wQ (i:=3) S.nd rfl (Or.inl rfl) (dX rfl (wn 0) (wx cQ)))
     (eQ (Nu (w_bin YQ JQ (wn 3) (wx cQ)) (wn 0) (wx cQ))
     (eQ (wQ (i:=4) S.nd rfl (Or.inl rfl) cQ)
     (eQ (BJ (EX pV cV (wx (DQ lJ (HX (K:=K) rfl) T.len_ PySem.boot_len (aQ (wx (dX rfl (wn 0) (wx cQ))) bQ))) (wx cQ)) (pQ (wQ (i:=4) S.nd rfl (Or.inl rfl) (dX rfl (wx (dX rfl (wn 0) (wx cQ))) (wx (w_bin MJ IJ (wn 3) (wx (DQ lJ (HX (K:=K) rfl) T.len_ PySem.boot_len (aQ (wx (dX rfl (wn 0) (wx cQ))) bQ)))))))) nZ)
     (eQ (BJ (oE (Yw (EX DU nU (wn 3) (wx (DQ lJ (HX (K:=K) rfl) T.len_ PySem.boot_len (aQ (wx (dX rfl (wn 0) (wx cQ))) bQ)))) (zz (EX iE qC (wx (DQ FH CY T.abs_ boot_abs (aQ (wn 4) bQ))) (wx (w_bin PH tH (wx cQ) (wx cQ))))))) (eQ (Nu (w_bin nY iY (wx (DQ FH CY T.abs_ boot_abs (aQ (wn 4) bQ))) (wn 1)) (wn 0) (wx cQ))
     (pQ (XQ (w_bin MJ IJ (wx (DQ FH CY T.abs_ boot_abs (aQ (wn 4) bQ))) (wn 1))))) nZ)
     (eQ (wQ (i:=5) S.nd rfl (Or.inl rfl) (w_bin MJ IJ (wx (w_bin LZ fZ (wx (w_bin YQ JQ (wx (w_bin YQ JQ (wx (w_bin MJ IJ (wn 4) (wx cQ))) (wx (w_bin LZ fZ (wx cQ) (wn 3))))) (wx cQ))) (wx cQ))) (wx cQ)))
     (eQ (wQ (i:=5) S.nd rfl (Or.inl rfl) (w_bin MJ IJ (wx (w_bin YQ JQ (wx (w_bin YQ JQ (wx (w_bin LZ fZ (wn 5) (wn 5))) (wx (w_bin LZ fZ (wx cQ) (wn 5))))) (wn 3))) (wx cQ)))
     (pQ (XQ (w_bin MJ IJ (wx (w_bin nY iY (wn 5) (wx cQ))) (wn 1))))))))))))) ?_ ?_
 ·rintro args Qd ⟨ns,k,l,m,rfl,_⟩;rfl
 ·rintro args Qd ⟨ns,k,l,m,rfl,hk,hl,m0,m1,q⟩
  have hmd:∀x:Int,0<=x % m/\x % m < m:=λx=>⟨Int.emod_nonneg _ (by omega),Int.emod_lt_of_pos _ m0⟩
  refine ⟨yQ rfl,?_⟩
  refine ⟨_,rfl,?_⟩
  refine mZ (λh1=>?_) (λh1=>?_)
  ·refine ⟨_,rfl,m0,_,rfl,⟨m0,by omega⟩,2,rfl,?_⟩
   exact q _ _ _ _ (hmd _).1 (hmd _).2 hk (Int.ediv_nonneg hl (by omega))
  refine ⟨_,rfl,?_⟩
  refine ⟨1,rfl,?_⟩
  refine ⟨_,rfl,ns,rfl,?_⟩
  have ab:∀c:Int,0<=(if c < 0 then -c else c):=λc=>by split<;>omega
  have pos:∀n:Nat,0 < n->0<=k % (n:Int)/\k % (n:Int) < n:=λn hn=>⟨Int.emod_nonneg _ (by omega),Int.emod_lt_of_pos _ (by omega)⟩
  refine mZ (λh2=>?_) (λh2=>?_)
  ·have h2:0 < ns.length:=by have:(0:Int) < (ns.length:Int):=of_decide_eq_true h2;omega
   obtain⟨j,hj⟩:=Int.eq_ofNat_of_zero_le (pos _ h2).1
   have hjl:j < ns.length:=by have:=(pos _ h2).2;omega
   refine ⟨_,rfl,_,rfl,ns,rfl,by show (0:Int) < (ns.length:Int);omega,ns,ns[j],rfl,by rw[hj];exact fK (P0 hjl),?_⟩
   refine ⟨_,rfl,ns,rfl,?_⟩
   refine mZ (λh3=>?_) (λh3=>?_)
   ·refine ⟨⟨by decide,by decide,by decide⟩,?_⟩
    refine mZ (λh4=>?_) (λh4=>?_)
    ·refine ⟨⟨m0,by omega⟩,2,rfl,m0,?_⟩
     exact q _ _ _ _ (hmd _).1 (hmd _).2 (by omega) (Int.ediv_nonneg (ab _) (by omega))
    ·refine ⟨by show (0:Int) < 2147483587;decide,.inl ⟨by decide,by decide⟩,.inr ⟨by decide,by decide⟩,by show (0:Int) < 2147483647;decide,?_⟩
     refine ⟨.inl ⟨by omega,by omega⟩,.inl ⟨by decide,by decide⟩,by show (0:Int) < 2147483629;decide,?_⟩
     exact ⟨⟨by decide,by decide⟩,m0,q _ _ _ _ (hmd _).1 (hmd _).2 (by omega) hl⟩
   ·refine ⟨by show (0:Int) < 2147483587;decide,.inl ⟨by decide,by decide⟩,.inr ⟨by decide,by decide⟩,by show (0:Int) < 2147483647;decide,?_⟩
    refine ⟨.inl ⟨by omega,by omega⟩,.inl ⟨by decide,by decide⟩,by show (0:Int) < 2147483629;decide,?_⟩
    exact ⟨⟨by decide,by decide⟩,m0,q _ _ _ _ (hmd _).1 (hmd _).2 (by omega) hl⟩
  ·refine ⟨_,rfl,ns,rfl,?_⟩
   refine mZ (λh3=>?_) (λh3=>?_)
   ·exfalso
    have h3:k < (ns.length:Int):=of_decide_eq_true h3
    refine h2 (decide_eq_true ?_)
    omega
   ·refine ⟨by show (0:Int) < 2147483587;decide,.inl ⟨by decide,by decide⟩,.inr ⟨by decide,by decide⟩,by show (0:Int) < 2147483647;decide,?_⟩
    refine ⟨.inl ⟨by omega,by omega⟩,.inl ⟨by decide,by decide⟩,by show (0:Int) < 2147483629;decide,?_⟩
    exact ⟨⟨by decide,by decide⟩,m0,q _ _ _ _ (hmd _).1 (hmd _).2 (by omega) hl⟩
end
open PySem PySem.Spec L2 L3 PyProof.Rows
theorem aY(lo:Int)(n:Nat):MQ lo (n+1)=u0 lo :: MQ (lo+1) n:=by
 simp only[MQ,List.range_succ_eq_map,J3,Q0]
 refine congr (congrArg List.cons (by simp)) (V4 λa _=>?_)
 simp only[Function.comp_def,PyData.int.injEq,Int.natCast_succ]
 omega
noncomputable def tX:List Int->Int
 | []=>1
 | a :: r=>a * tX r
theorem RK:∀{l:List Int},(∀c∈l,1<=c)->1<=tX l
 | [],_=>e7 _
 | a :: r,h=>by
  have h1:=h a O0
  have h2:=RK (l:=r) λc hc=>h c (K0 _ hc)
  show 1<=a * tX r
  have:=m8 h1 h2 (by decide) (by omega)
  omega
structure Sd(sd:List Int):Prop where
 l1:1<=sd.length
 l3:sd.length<=3
 p:∀c∈sd,1<=c
 m:tX sd<=120
noncomputable abbrev fQ(p:List Int):PyData:=.tuple (p.map u0)
noncomputable def rQ{α:Type}(acc:List (List α)):List (List α)->List (List α)
 | []=>acc
 | c :: cs=>rQ (acc.flatMap λp=>c.map λx=>p++[x]) cs
noncomputable def cZ{α:Type}:List (List α)->Nat
 | []=>1
 | c :: cs=>c.length * cZ cs
theorem vJ{α:Type}:∀{cs:List (List α)},(∀c∈cs,c≠[])->1<=cZ cs
 | [],_=>R0 _
 | c :: cs,h=>by
  have h1:1<=c.length:=j6.mpr (h c O0)
  have h2:=vJ (cs:=cs) λd hd=>h d (K0 _ hd)
  exact Nat.mul_le_mul h1 h2
theorem xK{α:Type}(c:List α):∀acc:List (List α),(acc.flatMap λp=>c.map λx=>p++[x]).length=acc.length * c.length
 | []=>by simp
 | p :: acc=>by rw[T3,A1,xK c acc,A0,X1,Z7,Nat.add_comm]
theorem ZQ{α:Type}:∀(cs acc:List (List α)),(rQ acc cs).length=acc.length * cZ cs
 | [],acc=>by simp[rQ,cZ]
 | c :: cs,acc=>by rw[rQ,ZQ cs,xK,cZ,E9]
noncomputable def rng(s:Int):List Int:=(X2 s.toNat).map λ(n:Nat)=>(n:Int)
theorem sW(s:Int):MQ 0 s.toNat=(rng s).map u0:=by simp[MQ,rng,Q0,Function.comp_def]
theorem TZ(s:Int):(rng s).length=s.toNat:=by simp[rng]
noncomputable def nX(sd:List Int):List (List Int):=rQ [[]] (sd.map rng)
theorem tW:∀{sd:List Int},(∀c∈sd,1<=c)->(cZ (sd.map rng):Int)=tX sd
 | [],_=>rfl
 | a :: r,h=>by
  have h1:=h a O0
  have h2:=tW (sd:=r) λc hc=>h c (K0 _ hc)
  show ((((rng a).length * cZ (r.map rng):Nat)):Int)=a * tX r
  rw[TZ,Int.natCast_mul,h2]
  congr 1
  omega
theorem lZ(a b:List Int):VY (a.map u0) (b.map u0)=(a.zip b).map λp=>U0 [.int p.1,.int p.2]:=by
 rw[VY,R9,Q0];rfl
noncomputable def ZX(a b:Int):List Int:=(X2 (b+1 - a).toNat).map λ(n:Nat)=>a+(n:Int)
theorem Iv(a b:Int):MQ a (b+1 - a).toNat=(ZX a b).map u0:=by simp[MQ,ZX,Q0,Function.comp_def]
theorem wV(s:Int):ZX 0 (s - 1)=rng s:=by
 unfold ZX rng
 rw[show s - 1+1 - 0=s by omega]
 simp
noncomputable def Bw(low high:List Int):List (List Int):=rQ [[]] ((low.zip high).map λp=>ZX p.1 p.2)
theorem uX:∀{sd:List Int},(∀c∈sd,1<=c)->∀c∈sd,c<=tX sd
 | a :: r,h,c,hc=>by
  have h1:=h a O0
  have hr:∀c∈r,1<=c:=λc hc=>h c (K0 _ hc)
  have h2:=RK hr
  show c<=a * tX r
  rcases V0.mp hc with rfl|hc
  ·have:=Int.mul_le_mul_of_nonneg_left h2 (show (0:Int)<=c by omega);omega
  ·have h3:=uX hr c hc
   have:=Q7 h1 (show (0:Int)<=tX r by omega);omega
noncomputable def XE(sd pl:List Int):Int:=(sd.zip pl).foldl (λi p=>i * p.1+p.2) 0
noncomputable def kU{α:Type}:List α->List (List α)->Prop
 | [],[]=>True
 | x :: xs,c :: cs=>x∈c/\kU xs cs
 | _,_=>False
theorem gH{α:Type}:∀{cs acc:List (List α)}{p:List α},p∈rQ acc cs->∃a∈acc,∃q,p=a++q/\kU q cs
 | [],acc,p,h=>⟨p,h,[],by simp,trivial⟩
 | c :: cs,acc,p,h=>by
  obtain⟨a',ha',q,rfl,hq⟩:=gH (cs:=cs) h
  obtain⟨a,ha,hb⟩:=P4.mp ha'
  obtain⟨x,hx,rfl⟩:=M0.mp hb
  exact ⟨a,ha,x :: q,by simp,hx,hq⟩
theorem UQ{α:Type}{cs:List (List α)}{p:List α}(h:p∈rQ [[]] cs):kU p cs:=by
 obtain⟨a,ha,q,rfl,hq⟩:=gH h
 simp at ha
 subst ha
 exact hq
theorem CF{x s:Int}(h:x∈rng s):0<=x/\x < s:=by
 unfold rng at h
 obtain⟨n,hn,rfl⟩:=M0.mp h
 have:=o6.mp hn
 omega
noncomputable def Wi:List Int->List Int->Prop
 | [],[]=>True
 | x :: xs,s :: ss=>(0<=x/\x < s)/\Wi xs ss
 | _,_=>False
theorem ZV{sd p:List Int}(hm:p∈nX sd):Wi p sd:=by
 have h:=UQ hm
 clear hm
 induction sd generalizing p with
 | nil=>cases p with
  | nil=>trivial
  | cons _ _=>exact h.elim
 | cons s ss ih=>cases p with
  | nil=>exact h.elim
  | cons x xs=>exact ⟨CF h.1,ih h.2⟩
theorem zJ{sd:List Int}(hp:∀c∈sd,1<=c):((nX sd).length:Int)=tX sd:=by
 rw[nX,ZQ,<- tW hp]
 simp
theorem aU:∀{p sd:List Int},Wi p sd->p.length=sd.length
 | [],[],_=>rfl
 | [],_ :: _,h=>h.elim
 | _ :: _,[],h=>h.elim
 | _ :: _,_ :: _,h=>by simp[aU h.2]
theorem Jv:∀{sd pl:List Int}{i m:Int},Wi pl sd->0<=i->i < m->0<=(sd.zip pl).foldl (λi p=>i * p.1+p.2) i/\(sd.zip pl).foldl (λi p=>i * p.1+p.2) i < m * tX sd
 | [],[],i,m,_,h0,h1=>by simp[tX];omega
 | [],_ :: _,_,_,h,_,_=>h.elim
 | _ :: _,[],_,_,h,_,_=>h.elim
 | s :: ss,x :: xs,i,m,h,h0,h1=>by
  have hx:=h.1
  have hs:0<=s:=by omega
  have e1:0<=i * s:=Int.mul_nonneg h0 hs
  have e2:i * s<=(m - 1) * s:=Q7 (by omega) hs
  rw[Int.sub_mul,R7]at e2
  have:=Jv (sd:=ss) (pl:=xs) (i:=i * s+x) (m:=m * s) h.2 (by omega) (by omega)
  rw[Int.mul_assoc]at this
  exact this
theorem uB{s:Int}{j:Nat}{x:Int}(h:(rng s)[j]?=some x):x=j/\(j:Int) < s:=by
 unfold rng at h
 rw[X0,w6]at h
 obtain⟨n,hn,rfl⟩:=h
 rw[K1]at hn
 obtain⟨h1,h2⟩:=hn
 simp at h1 h2
 omega
theorem DF{s:Int}(hs:1<=s):∀{acc:List (List Int)}{j':Nat}{a':List Int},(acc.flatMap λp=>(rng s).map λx=>p++[x])[j']?=some a' ->
  ∃(j:Nat) (a:List Int) (x:Int),acc[j]?=some a/\a'=a++[x]/\(0<=x/\x < s)/\(j':Int)=j * s+x
 | [],j',a',h=>by simp at h
 | a :: acc,j',a',h=>by
  rw[T3]at h
  rcases Q9 j' ((rng s).map λx=>a++[x]).length with g|g
  ·rw[B3 g,X0,w6]at h
   obtain⟨x,hx,rfl⟩:=h
   obtain⟨rfl,h2⟩:=uB hx
   exact ⟨0,a,_,rfl,rfl,⟨by omega,h2⟩,by simp⟩
  ·rw[Y1 g]at h
   obtain⟨j,b,x,h1,h2,h3,h4⟩:=DF hs h
   rw[A0,TZ]at g h4
   refine ⟨j+1,b,x,h1,h2,h3,?_⟩
   rw[show ((j+1:Nat):Int)=(j:Int)+1 by omega,Int.add_mul,R7]
   omega
theorem EF:∀{sd:List Int}{acc:List (List Int)}{k:Nat}{p:List Int},(∀c∈sd,1<=c)->(rQ acc (sd.map rng))[k]?=some p ->
  ∃(j:Nat) (a q:List Int),acc[j]?=some a/\p=a++q/\Wi q sd/\(sd.zip q).foldl (λi p=>i * p.1+p.2) (j:Int)=k
 | [],acc,k,p,_,h=>⟨k,p,[],h,by simp,trivial,rfl⟩
 | s :: ss,acc,k,p,hp,h=>by
  obtain⟨j',a',q',h1,h2,h3,h4⟩:=EF (sd:=ss) (λc hc=>hp c (K0 _ hc)) h
  obtain⟨j,a,x,g1,g2,g3,g4⟩:=DF (hp s O0) h1
  refine ⟨j,a,x :: q',g1,by rw[h2,g2];simp,⟨g3,h3⟩,?_⟩
  rw[g4]at h4
  exact h4
theorem sG{sd:List Int}(hp:∀c∈sd,1<=c){k:Nat}{p:List Int}(h:(nX sd)[k]?=some p):Wi p sd/\XE sd p=k:=by
 obtain⟨j,a,q,h1,h2,h3,h4⟩:=EF hp h
 have hj:j=0:=by
  rcases j with _|j
  ·rfl
  ·simp at h1
 subst hj
 simp at h1
 subst h1
 simp at h2
 subst h2
 exact ⟨h3,h4⟩
theorem FF:∀{a b:List Int} (x y:Int),a.length=b.length->HT.lexLt a b=true->HT.lexLt (a++[x]) (b++[y])=true
 | [],[],x,y,_,h=>by cases h
 | [],_ :: _,x,y,e,_=>by simp at e
 | _ :: _,[],x,y,e,_=>by simp at e
 | u :: a,v :: b,x,y,e,h=>by
  rw[P6,P6,HT.lexLt_cons]
  rw[HT.lexLt_cons]at h
  by_cases q:u=v
  ·rw[if_pos q]at h ⊢
   exact FF x y (by simpa using e) h
  ·rw[if_neg q]at h ⊢
   exact h
theorem GF:∀(a:List Int) {x y:Int},x < y->HT.lexLt (a++[x]) (a++[y])=true
 | [],x,y,h=>by
  show HT.lexLt [x] [y]=true
  rw[HT.lexLt_cons,if_neg (by omega)]
  exact decide_eq_true h
 | u :: a,x,y,h=>by
  rw[P6,P6,HT.lexLt_cons,if_pos rfl]
  exact GF a h
theorem mX:∀{cs acc:List (List Int)}{n:Nat},acc.Pairwise (λa b=>HT.lexLt a b=true)->(∀p∈acc,p.length=n)->(∀c∈cs,c.Pairwise (· < ·))->(rQ acc cs).Pairwise (λa b=>HT.lexLt a b=true)
 | [],_,_,h,_,_=>h
 | c :: cs,acc,n,h,hn,hc=>by
  refine mX (cs:=cs) (n:=n+1) ?_ ?_ λd hd=>hc d (K0 _ hd)
  ·rw[B7]
   refine ⟨λp hp=>?_,?_⟩
   ·rw[m5]
    exact (hc c O0).imp λh=>GF p h
   ·refine List.Pairwise.imp_of_mem (λ{a b} ha hb h=>?_) h
    intro x hx y hy
    obtain⟨u,_,rfl⟩:=M0.mp hx
    obtain⟨v,_,rfl⟩:=M0.mp hy
    exact FF u v (by rw[hn a ha,hn b hb]) h
  ·intro p hp
   obtain⟨q,hq,hx⟩:=P4.mp hp
   obtain⟨x,_,rfl⟩:=M0.mp hx
   rw[A1,hn q hq]
   rfl
theorem vY(a b:Int):(ZX a b).Pairwise (· < ·):=by
 unfold ZX
 rw[m5]
 exact X8.imp λh=>by omega
theorem tG(lo hi:List Int):(Bw lo hi).Pairwise (λa b=>HT.lexLt b a=false):=by
 have h:=mX (cs:=(lo.zip hi).map λp=>ZX p.1 p.2) (acc:=[[]]) (n:=0) (G2 _ _) (by simp) λc hc=>by
  obtain⟨p,_,rfl⟩:=M0.mp hc
  exact vY _ _
 refine List.Pairwise.imp (λ{a b} h=>?_) h
 cases e:HT.lexLt b a
 ·rfl
 ·have:=SG.lex_wk.tr a b a h e
  rw[SG.lex_wk.irr]at this
  cases this
theorem YE(a b:Int):(ZX a b).length=(b+1 - a).toNat:=by simp[ZX]
theorem vX{α:Type}:∀{cs acc:List (List α)}{a q:List α},a∈acc->kU q cs->a++q∈rQ acc cs
 | [],acc,a,[],ha,_=>by simpa [rQ]using ha
 | [],_,_,_ :: _,_,h=>h.elim
 | _ :: _,_,_,[],_,h=>h.elim
 | c :: cs,acc,a,x :: q,ha,h=>by
  have:=vX (cs:=cs) (acc:=acc.flatMap λp=>c.map λx=>p++[x]) (a:=a++[x]) (q:=q) (P4.mpr ⟨a,ha,M0.mpr ⟨x,h.1,rfl⟩⟩) h.2
  simpa [rQ]using this
theorem HF{x s:Int}(h0:0<=x)(h1:x < s):x∈rng s:=M0.mpr ⟨x.toNat,o6.mpr (by omega),by omega⟩
theorem vj:∀{p sd:List Int},Wi p sd->kU p (sd.map rng)
 | [],[],_=>trivial
 | [],_ :: _,h=>h.elim
 | _ :: _,[],h=>h.elim
 | x :: p,s :: sd,h=>⟨HF h.1.1 h.1.2,vj h.2⟩
theorem uG{p sd:List Int}(h:Wi p sd):p∈nX sd:=vX (a:=[]) (by simp) (vj h)
noncomputable abbrev yK(sd cl:List Int):PyData:=.tuple [fQ sd,fQ cl]
noncomputable def YB(sd cl p:List Int):Int:=cl.getD (XE sd p).toNat 0
mutual
noncomputable def kN:PyData->Bool
 | .dict es=>Pu es
 | .list xs=>okAll xs
 | .tuple xs=>okAll xs
 | .none=>true
 | .bool _=>true
 | .int _=>true
 | .str _=>true
noncomputable def okAll:List PyData->Bool
 | []=>true
 | x :: xs=>kN x&&okAll xs
end
noncomputable def nN:PyData->Bool
 | .int _=>true
 | _=>false
noncomputable def ZE:PyData->Int
 | .int i=>i
 | _=>0
theorem IF(ns:List Int):(ns.map u0).map ZE=ns:=by
 rw[Q0];exact List.map_id ns
section
variable {P:Program}{w:World}{K:J0}{mg:Str->Option Value}{base:Heap}
end
theorem xV{α β:Type}(f:α->β):∀(cs acc:List (List α)),(rQ acc cs).map (N5 f)=rQ (acc.map (N5 f)) (cs.map (N5 f))
 | [],acc=>rfl
 | c :: cs,acc=>by
  show (rQ (acc.flatMap λp=>c.map λx=>p++[x]) cs).map (N5 f)=rQ ((acc.map (N5 f)).flatMap λp=>(c.map f).map λx=>p++[x]) (cs.map (N5 f))
  rw[xV f cs]
  congr 1
  rw[List.map_flatMap,List.flatMap_map]
  congr 1
  funext p
  simp[Q0,Function.comp_def]
section
variable {P:Program}{w:World}{K:J0}{mg:Str->Option Value}{base:Heap}
noncomputable def wj:Con:=λargs Q=>∃cs:List (List PyData),args=[.fz (.list (cs.map E1))]/\(∀c∈cs,c≠[])/\cZ cs<=1000/\cs.length<=1000/\∀o,Q (.ow (.list ((rQ [[]] cs).map U0))) o
theorem vB:FnScope ["choices","chosen","things","longer","ahead","thing"] ["choices"] (gQ (top 1)):=⟨rfl,rfl,rfl,by decide +kernel,rfl,by decide +kernel,by decide +kernel⟩
theorem Cw{f:Addr}{fd:FuncData}(F:Fun K "one_of_each" "one_of_each" (top 1) f fd):FnOk P w K mg base VZ 1 f fd ["choices"] (kQ K wj):=by
 have S:=vB
 refine fY F S (λcdv A outer s H E hr=>(eQ (wQ (i:=1) S.nd rfl (Or.inl rfl) (jX (aQ (wx (AX bQ)) bQ)))
     (eQ (RX [2,3,4] PassesOwn.never rfl (qX rfl (wv 0)) (lQ (i:=2) S.nd rfl (Or.inl rfl)) (eQ (wQ (i:=3) S.nd rfl (Or.inl rfl) (jX bQ))
     (eQ (RX [4,5] PassesOwn.never rfl (qX rfl (wv 1)) (lQ (i:=4) S.nd rfl (Or.inl rfl)) (pQ (RX [5] PassesOwn.never rfl (qX rfl (wv 2)) (lQ (i:=5) S.nd rfl (Or.inl rfl)) (pQ (PJ (Mu xJ rfl PySem.F.slot_list_append PySem.F.type_list_append wJ (wn 3) (aQ (wx (w_bin YQ JQ (wn 4) (wx (AX (aQ (wx (wv 5)) bQ))))) bQ)))))))
     (pQ (ZY (i:=1) S.nd rfl (Or.inl rfl) (wn 3))))))
     (pQ (OJ (wn 1)))))) ?_ ?_
 ·rintro args Qd ⟨cs,rfl,_⟩;rfl
 ·rintro args Qd ⟨cs,rfl,hne,hlen,hcl,q⟩
  refine ⟨yQ rfl,?_⟩
  refine LX (λrest ρ=>∃(acc rs:List (List PyData)),ρ=[some (.fz (.list (cs.map E1))),some (.ow (.list (acc.map U0))),none,none,none,none]/\rest=rs.map E1/\(∀c∈rs,c≠[])/\acc.length * cZ rs=cZ cs/\rQ acc rs=rQ [[]] cs/\(∀p∈acc,p.length+rs.length<=1000)) ?_ ?_
   ⟨[[]],cs,rfl,rfl,hne,by simp,rfl,λp hp=>by simp at hp;subst hp;simpa using hcl⟩
  ·rintro d ds ρ ⟨acc,rs,rfl,er,hne',hln,hacc,hpl⟩ N hN
   cases rs with
   | nil=>cases er
   | cons c rs =>
    cases er
    have hr2:∀c∈rs,c≠[]:=λc hc=>hne' c (K0 _ hc)
    have hlp:=vJ hr2
    have htot:(acc.flatMap λp=>c.map λx=>p++[x]).length<=1000:=by
     rw[xK]
     have h1:acc.length * (c.length * cZ rs)=cZ cs:=hln
     rw[<- E9]at h1
     have:acc.length * c.length<=acc.length * c.length * cZ rs:=g7 _ hlp
     omega
    refine LX (λrest ρ=>∃(lg rp:List (List PyData)),ρ=[some (.fz (.list (cs.map E1))),some (.fz (.list (acc.map U0))),some (.fz (.list c)),some (.ow (.list (lg.map U0))),none,none]/\rest=rp.map U0/\(lg++rp.flatMap λp=>c.map λx=>p++[x])=(acc.flatMap λp=>c.map λx=>p++[x])/\(∀p∈rp,p∈acc)) ?_ ?_
     ⟨[],acc,rfl,rfl,rfl,λp hp=>hp⟩
    ·rintro d ds ρ ⟨lg,rp,rfl,er,he,hin⟩ M hM
     cases rp with
     | nil=>cases er
     | cons p rp =>
      cases er
      have hp1:=hpl p (hin p O0)
      have hl5:lg.length+c.length<=1000:=by
       have:=congrArg L4 he
       rw[A1,T3,A1,A0]at this
       omega
      refine LX (λrest ρ=>∃(pre:List PyData),c=pre++rest/\ρ=[some (.fz (.list (cs.map E1))),some (.fz (.list (acc.map U0))),some (.fz (.list c)),some (.ow (.list ((lg++pre.map λx=>p++[x]).map U0))),some (.fz (.tuple p)),none]) ?_ ?_
       ⟨[],rfl,by simp;rfl⟩
      ·rintro x ds' ρ ⟨pre,hc,rfl⟩ L hL
       refine ⟨by simp at hp1 ⊢;exact sQ (by omega),by rw[A0,A1,A0];have:=congrArg L4 hc;simp at this;exact S0 (show _ < 1000 by omega) (by decide),?_⟩
       refine hL _ ⟨pre++[x],by rw[hc];simp,?_⟩
       have e1:((lg++pre.map λx=>p++[x]).map U0)++[U0 (p++[x])]=((lg++(pre++[x]).map λx=>p++[x]).map U0):=by simp
       rw[<- e1];rfl
      ·rintro ρ ⟨pre,hc,rfl⟩
       rw[Q1]at hc
       subst hc
       exact hM _ ⟨lg++c.map λx=>p++[x],rp,rfl,rfl,by rw[P2,<- he,T3],λp' hp'=>hin p' (K0 _ hp')⟩
    ·rintro ρ ⟨lg,rp,rfl,er,he,hin⟩
     cases rp with
     | cons p rp=>cases er
     | nil =>
      rw[O7,Q1]at he
      refine hN _ ⟨acc.flatMap λp=>c.map λx=>p++[x],rs,by rw[he];rfl,rfl,hr2,?_,hacc,λp hp=>?_⟩
      ·rw[xK,E9];exact hln
      ·obtain⟨p',hp',hx⟩:=P4.mp hp
       obtain⟨x,_,rfl⟩:=M0.mp hx
       have:=hpl p' hp'
       simp at this ⊢
       omega
  ·rintro ρ ⟨acc,rs,rfl,er,hne',hln,hacc,hpl⟩
   cases rs with
   | cons a rs=>cases er
   | nil =>
    have hacc:acc=rQ [[]] cs:=hacc
    rw[hacc]
    exact q _
structure CalsBt(P:Program)(w:World)(K:J0)(mg:Str->Option Value)(base:Heap):Prop where
 one_of_each:Cal P w K mg base 1 "one_of_each" ["choices"] (kQ K wj)
end
noncomputable def Bx:List Int->List Int->List Int->Prop
 | [],[],[]=>True
 | x :: lo,y :: hi,s :: sd=>(0<=x/\x<=y/\y < s)/\Bx lo hi sd
 | _,_,_=>False
theorem wZ:∀{lo hi sd:List Int},Bx lo hi sd->lo.length=sd.length/\hi.length=sd.length
 | [],[],[],_=>⟨rfl,rfl⟩
 | x :: lo,y :: hi,s :: sd,h=>by
  have:=wZ h.2
  simp[this.1,this.2]
 | [],[],_ :: _,h=>h.elim
 | [],_ :: _,z,h=>by cases z<;>exact h.elim
 | _ :: _,[],z,h=>by cases z<;>exact h.elim
 | _ :: _,_ :: _,[],h=>h.elim
theorem JF:∀{lo hi sd:List Int}{x y s:Int},Bx lo hi sd->0<=x->x<=y->y < s->Bx (lo++[x]) (hi++[y]) (sd++[s])
 | [],[],[],_,_,_,_,h1,h2,h3=>⟨⟨h1,h2,h3⟩,trivial⟩
 | a :: lo,b :: hi,c :: sd,_,_,_,h,h1,h2,h3=>⟨h.1,JF h.2 h1 h2 h3⟩
 | [],[],_ :: _,_,_,_,h,_,_,_=>h.elim
 | [],_ :: _,z,_,_,_,h,_,_,_=>by cases z<;>exact h.elim
 | _ :: _,[],z,_,_,_,h,_,_,_=>by cases z<;>exact h.elim
 | _ :: _,_ :: _,[],_,_,_,h,_,_,_=>h.elim
theorem iH{a b x:Int}(h:x∈ZX a b):a<=x/\x<=b:=by
 unfold ZX at h
 obtain⟨n,hn,rfl⟩:=M0.mp h
 have:=o6.mp hn
 omega
theorem xj:∀{lo hi sd p:List Int},Bx lo hi sd->kU p ((lo.zip hi).map λq=>ZX q.1 q.2)->Wi p sd
 | [],[],[],[],_,_=>trivial
 | [],[],[],_ :: _,_,h=>h.elim
 | x :: lo,y :: hi,s :: sd,[],_,h=>h.elim
 | x :: lo,y :: hi,s :: sd,z :: p,h,k=>by
  have:=iH k.1
  have hx:=h.1
  simp only at this
  exact ⟨by omega,xj h.2 k.2⟩
 | [],[],_ :: _,_,h,_=>h.elim
 | [],_ :: _,z,_,h,_=>by cases z<;>exact h.elim
 | _ :: _,[],z,_,h,_=>by cases z<;>exact h.elim
 | _ :: _,_ :: _,[],_,h,_=>h.elim
theorem yj{lo hi sd p:List Int}(h:Bx lo hi sd)(hp:p∈Bw lo hi):Wi p sd:=xj h (UQ hp)
theorem wY:∀{lo hi sd:List Int},Bx lo hi sd->∀p∈lo.zip hi,0<=p.1/\p.1<=p.2/\∃s∈sd,p.2 < s
 | [],[],[],_,p,hp=>by simp at hp
 | x :: lo,y :: hi,s :: sd,h,p,hp=>by
  rw[i5]at hp
  rcases V0.mp hp with rfl|hp
  ·exact ⟨h.1.1,h.1.2.1,s,O0,h.1.2.2⟩
  ·obtain⟨h1,h2,t,ht,h3⟩:=wY h.2 p hp
   exact ⟨h1,h2,t,K0 _ ht,h3⟩
 | [],[],_ :: _,h,_,_=>h.elim
 | [],_ :: _,z,h,_,_=>by cases z<;>exact h.elim
 | _ :: _,[],z,h,_,_=>by cases z<;>exact h.elim
 | _ :: _,_ :: _,[],h,_,_=>h.elim
theorem uW{α:Type}(c:List α):∀(cs acc:List (List α)),rQ acc (cs++[c])=(rQ acc cs).flatMap λp=>c.map λx=>p++[x]
 | [],acc=>rfl
 | d :: cs,acc=>uW c cs _
theorem wB{sd p:List Int}(h:Wi p sd):0<=XE sd p/\XE sd p < tX sd:=by
 have:=Jv h (e7 0) (by decide:(0:Int) < 1)
 rw[R7]at this
 exact this
noncomputable def PQ(sd cl lo hi:List Int):List Int:=(Bw lo hi).map (YB sd cl)
section
variable {P:Program}{w:World}{K:J0}{mg:Str->Option Value}{base:Heap}
end
noncomputable def Kv(c:Int):Prop:=-(10 ^ 27) < c/\c < 10 ^ 27
noncomputable def LeP:List Int->List Int->Prop
 | [],[]=>True
 | c :: cs,m :: ms=>(1<=c/\c<=m)/\LeP cs ms
 | _,_=>False
theorem LeP.snoc:∀{cs ms:List Int}{c m:Int},LeP cs ms->1<=c->c<=m->LeP (cs++[c]) (ms++[m])
 | [],[],_,_,_,h1,h2=>⟨⟨h1,h2⟩,trivial⟩
 | _ :: _,_ :: _,_,_,h,h1,h2=>⟨h.1,LeP.snoc h.2 h1 h2⟩
 | [],_ :: _,_,_,h,_,_=>h.elim
 | _ :: _,[],_,_,h,_,_=>h.elim
theorem LeP.len:∀{cs ms:List Int},LeP cs ms->cs.length=ms.length
 | [],[],_=>rfl
 | _ :: _,_ :: _,h=>by simp[LeP.len h.2]
 | [],_ :: _,h=>h.elim
 | _ :: _,[],h=>h.elim
theorem LeP.pos:∀{cs ms:List Int},LeP cs ms->∀c∈cs,1<=c
 | [],[],_,_,hc=>by cases hc
 | c :: cs,m :: ms,h,x,hx=>by
  rcases V0.mp hx with z|z
  ·subst z;exact h.1.1
  ·exact LeP.pos h.2 x z
 | [],_ :: _,h,_,_=>h.elim
 | _ :: _,[],h,_,_=>h.elim
theorem LeP.prod:∀{cs ms:List Int},LeP cs ms->tX cs<=tX ms
 | [],[],_=>e7 _
 | c :: cs,m :: ms,h=>by
  have h1:=LeP.prod h.2
  have h2:=RK (LeP.pos h.2)
  show c * tX cs<=m * tX ms
  exact m8 h.1.2 h1 (by omega) (by have:=h.1.1;have:=h.1.2;omega)
 | [],_ :: _,h=>h.elim
 | _ :: _,[],h=>h.elim
structure Mst(ms:List Int):Prop where
 l1:1<=ms.length
 l3:ms.length<=3
 p:∀c∈ms,1<=c/\c<=120
 m:tX ms<=120
theorem LeP.sd{cs ms:List Int}(h:LeP cs ms)(hm:Mst ms):Sd cs:=⟨by rw[h.len];exact hm.l1,by rw[h.len];exact hm.l3,h.pos,Int.le_trans h.prod hm.m⟩
theorem aI{r:Int}(r0:0<=r)(r1:r < 2):∃a b:List Int,GW [E1 ([10,6].map u0),E1 ([2,30].map u0)] r=some (.list (a.map u0))/\Mst a/\GW [E1 ([4,4,4].map u0),E1 ([2,2,14].map u0)] r=some (.list (b.map u0))/\Mst b:=by
 rcases (show r=0\/r=1 by omega) with rfl|rfl
 ·exact ⟨[10,6],[4,4,4],rfl,⟨by decide,by decide,by decide,by decide⟩,rfl,⟨by decide,by decide,by decide,by decide⟩⟩
 ·exact ⟨[2,30],[2,2,14],rfl,⟨by decide,by decide,by decide,by decide⟩,rfl,⟨by decide,by decide,by decide,by decide⟩⟩
section
variable {P:Program}{w:World}{K:J0}{mg:Str->Option Value}{base:Heap}
structure CalsB(P:Program)(w:World)(K:J0)(mg:Str->Option Value)(base:Heap):Prop where
 law_take:Cal P w K mg base 1 "_law_take" ["_law_pen_here","_law_most"] (kQ K uj)
noncomputable def KF:Con:=λargs Q=>∃(ns:List Int) (k l:Int),args=[.io (QQ ns k l)]/\0<=k/\0<=l/\∀(r k' l':Int) (o:Ev),Kv r->0<=k'->0<=l'->Q (.fz (.int r)) (some (.io (QQ ns k' l')) :: o)
theorem zj:FnScope ["_law_pen_here","_law_way"] ["_law_pen_here"] (gQ (top 13)):=⟨rfl,rfl,rfl,by decide +kernel,rfl,by decide +kernel,by decide +kernel⟩
theorem YD{f:Addr}{fd:FuncData}(F:Fun K "_law_number" "_law_number" (top 13) f fd)(T:Txt mg)(C:CalsB P w K mg base):FnOk P w K mg base VZ 2 f fd ["_law_pen_here"] (kQ K KF):=by
 have S:=zj
 refine fY F S (λcdv A outer s H E hr=>(eQ (wQ (i:=1) S.nd rfl (Or.inl rfl) (YX C.law_take (hr.mono (by first|decide|omega)) (aQ (wn 0) (aQ (wx cQ) bQ))))
     (eQ (BJ (EX WK (nJ (K:=K) rfl hr.units) (wn 1) (wx cQ)) (pQ (XQ (w_bin LZ fZ (wx (w_bin hX fX (wx (w_bin hX fX (wx (w_bin PH tH (wx cQ) (wx cQ))) (wx cQ))) (wx (YX C.law_take (hr.mono (by first|decide|omega)) (aQ (wn 0) (aQ (wx cQ) bQ)))))) (wx (w_bin hX fX (wx cQ) (wx (w_bin LZ fZ (wx cQ) (wx (YX C.law_take (hr.mono (by first|decide|omega)) (aQ (wn 0) (aQ (wx cQ) bQ))))))))))) nZ)
     (eQ (BJ (EX pV cV (wn 1) (wx cQ)) (pQ (XQ (w_bin hX fX (wx (YX C.law_take (hr.mono (by first|decide|omega)) (aQ (wn 0) (aQ (wx cQ) bQ)))) (wx cQ)))) nZ)
     (pQ (XQ (w_bin hX fX (wx (YX C.law_take (hr.mono (by first|decide|omega)) (aQ (wn 0) (aQ (wx cQ) bQ)))) (wx cQ)))))))) ?_ ?_
 ·rintro args Qd ⟨ns,k,l,rfl,_⟩;rfl
 ·rintro args Qd ⟨ns,k,l,rfl,hk,hl,q⟩
  refine ⟨yQ rfl,?_⟩
  refine ⟨ns,k,l,_,rfl,hk,hl,by decide,by decide,λr k1 l1 _ r0 r1 hk1 hl1=>?_⟩
  refine mZ (λh=>?_) (λh=>?_)
  ·refine ⟨⟨by decide,by decide,by decide⟩,?_⟩
   refine ⟨ns,k1,l1,_,rfl,hk1,hl1,by decide,by decide,λa k2 l2 _ a0 a1 hk2 hl2=>?_⟩
   refine ⟨ns,k2,l2,_,rfl,hk2,hl2,by decide,by decide,λb k3 l3 _ b0 b1 hk3 hl3=>?_⟩
   refine ⟨.inl ⟨by decide,by decide⟩,.inr ⟨by omega,by omega⟩,?_⟩
   refine q _ _ _ _ ?_ hk3 hl3
   show Kv ((10 ^ (27:Int).toNat - 1 - a) * (1 - 2 * b))
   have e:(10:Int) ^ (27:Int).toNat=10 ^ 27:=rfl
   rw[e]
   rcases (show b=0\/b=1 by omega) with rfl|rfl
   ·exact ⟨by omega,by omega⟩
   ·exact ⟨by omega,by omega⟩
  refine mZ (λh=>?_) (λh=>?_)
  ·refine ⟨ns,k1,l1,_,rfl,hk1,hl1,by decide,by decide,λa k2 l2 _ a0 a1 hk2 hl2=>?_⟩
   exact q _ _ _ _ ⟨by omega,by omega⟩ hk2 hl2
  ·refine ⟨ns,k1,l1,_,rfl,hk1,hl1,by decide,by decide,λa k2 l2 _ a0 a1 hk2 hl2=>?_⟩
   exact q _ _ _ _ ⟨by omega,by omega⟩ hk2 hl2
noncomputable def Aj:Con:=λargs Q=>∃(ns:List Int) (k l:Int),args=[.io (QQ ns k l)]/\0<=k/\0<=l/\∀(sd:List Int) (k' l':Int) (o:Ev),Sd sd->0<=k'->0<=l'->Q (.fz (fQ sd)) (some (.io (QQ ns k' l')) :: o)
theorem Dw:FnScope ["_law_pen_here","_law_most","_law_wide"] ["_law_pen_here"] (gQ (top 14)):=⟨rfl,rfl,rfl,by decide +kernel,rfl,by decide +kernel,by decide +kernel⟩
theorem Bj{f:Addr}{fd:FuncData}(F:Fun K "_law_sides" "_law_sides" (top 14) f fd)(T:Txt mg)(C:CalsB P w K mg base):FnOk P w K mg base VZ 2 f fd ["_law_pen_here"] (kQ K Aj):=by
 have S:=Dw
 refine fY F S (λcdv A outer s H E hr=>(eQ (wQ (i:=1) S.nd rfl (Or.inl rfl) (dX rfl (wx (jX (aQ (wx (jX (aQ (wx cQ) bQ))) (aQ (wx (jX (aQ (wx cQ) (aQ (wx cQ) bQ)))) (aQ (wx (jX (aQ (wx cQ) (aQ (wx cQ) (aQ (wx cQ) bQ))))) bQ))))) (wx (YX C.law_take (hr.mono (by first|decide|omega)) (aQ (wn 0) (aQ (wx cQ) bQ))))))
     (eQ (BJ (EX WK (nJ (K:=K) rfl hr.units) (wx (YX C.law_take (hr.mono (by first|decide|omega)) (aQ (wn 0) (aQ (wx cQ) bQ)))) (wx cQ)) (eQ (wQ (i:=2) S.nd rfl (Or.inl rfl) (YX C.law_take (hr.mono (by first|decide|omega)) (aQ (wn 0) (aQ (wx cQ) bQ))))
     (pQ (wQ (i:=1) S.nd rfl (Or.inl rfl) (dX rfl (wx (jX (aQ (wx (jX (aQ (wx cQ) bQ))) (aQ (wx (dX rfl (wx (jX (aQ (wx (jX (aQ (wx cQ) (aQ (wx cQ) bQ)))) (aQ (wx (jX (aQ (wx cQ) (aQ (wx cQ) bQ)))) bQ)))) (wn 2))) (aQ (wx (dX rfl (wx (jX (aQ (wx (jX (aQ (wx cQ) (aQ (wx cQ) (aQ (wx cQ) bQ))))) (aQ (wx (jX (aQ (wx cQ) (aQ (wx cQ) (aQ (wx cQ) bQ))))) bQ)))) (wn 2))) bQ))))) (wx (w_bin hX fX (wx (DQ lJ (HX (K:=K) rfl) T.len_ PySem.boot_len (aQ (wn 1) bQ))) (wx cQ))))))) nZ)
     (pQ (XQ (kX bX (BQ (K:=K) rfl) T.tuple_ boot_tuple (aQ (wx (iX rfl (own:=["_law_side"]) (fr:=[0]) (by kernel_rfl) (qX rfl (wv 1)) (λ_ _ _ _=>(lQ (i:=0) (by decide +kernel:T1 (["_law_side","_law_pen_here"]:List Str)) rfl (Or.inl rfl))) (λ_ _ _ _=>HW) (λ_ _ _ _=>(w_bin YQ JQ (wx cQ) (wx (YX C.law_take (hr.mono (by first|decide|omega)) (aQ (wn 1) (aQ (wn 0) bQ)))))))) bQ))))))) ?_ ?_
 ·rintro args Qd ⟨ns,k,l,rfl,_⟩;rfl
 ·rintro args Qd ⟨ns,k,l,rfl,hk,hl,q⟩
  refine ⟨yQ rfl,?_⟩
  with_reducible refine FQ (λρ=>∃(ms:List Int) (k1 l1:Int),Mst ms/\0<=k1/\0<=l1/\ρ=[some (.io (QQ ns k1 l1)),some (.fz (.list (ms.map u0))),none]) ?_ ?_
  ·intro N hN
   refine ⟨ns,k,l,3,rfl,hk,hl,by decide,by decide,λr k1 l1 _ r0 r1 hk1 hl1=>?_⟩
   rcases (show r=0\/r=1\/r=2 by omega) with rfl|rfl|rfl
   ·exact ⟨.list ([16].map u0),rfl,hN _ ⟨[16],k1,l1,⟨by decide,by decide,by decide,by decide⟩,hk1,hl1,rfl⟩⟩
   ·exact ⟨.list ([6,5].map u0),rfl,hN _ ⟨[6,5],k1,l1,⟨by decide,by decide,by decide,by decide⟩,hk1,hl1,rfl⟩⟩
   ·exact ⟨.list ([3,3,3].map u0),rfl,hN _ ⟨[3,3,3],k1,l1,⟨by decide,by decide,by decide,by decide⟩,hk1,hl1,rfl⟩⟩
  rintro _ ⟨ms,k1,l1,hM,hk1,hl1,rfl⟩
  with_reducible refine FQ (λρ=>∃(ms:List Int) (k1 l1:Int) (o2:Option Sl),Mst ms/\0<=k1/\0<=l1/\ρ=[some (.io (QQ ns k1 l1)),some (.fz (.list (ms.map u0))),o2]) ?_ ?_
  ·intro N hN
   refine ⟨ns,k1,l1,8,rfl,hk1,hl1,by decide,by decide,λr k2 l2 _ r0 r1 hk2 hl2=>?_⟩
   refine mZ (λh=>?_) (λh=>hN _ ⟨ms,k2,l2,none,hM,hk2,hl2,rfl⟩)
   with_reducible refine FQ (λρ=>∃(wd:Int) (k1 l1:Int),0<=wd/\wd < 2/\0<=k1/\0<=l1/\ρ=[some (.io (QQ ns k1 l1)),some (.fz (.list (ms.map u0))),some (.fz (.int wd))]) ?_ ?_
   ·intro M hM'
    exact ⟨ns,k2,l2,2,rfl,hk2,hl2,by decide,by decide,λr k3 l3 _ r0 r1 hk3 hl3=>hM' _ ⟨r,k3,l3,r0,r1,hk3,hl3,rfl⟩⟩
   rintro _ ⟨wd,k3,l3,w0,w1,hk3,hl3,rfl⟩
   obtain⟨a,b,ha,hA,hb,hB⟩:=aI w0 w1
   have hml:(ms.map u0).length=ms.length:=A0 _
   have h1:=hM.l1
   have h3:=hM.l3
   refine ⟨_,ha,_,hb,?_⟩
   obtain⟨c,hc,hC⟩:∃c:List Int,GW [E1 ([120].map u0),.list (a.map u0),.list (b.map u0)] (((ms.map u0).length:Int) - 1)=some (.list (c.map u0))/\Mst c:=by
    rw[hml]
    rcases (show ms.length=1\/ms.length=2\/ms.length=3 by omega) with e|e|e<;>rw[e]
    ·exact ⟨[120],rfl,⟨by decide,by decide,by decide,by decide⟩⟩
    ·exact ⟨a,rfl,hA⟩
    ·exact ⟨b,rfl,hB⟩
   exact ⟨_,hc,hN _ ⟨c,k3,l3,_,hC,hk3,hl3,rfl⟩⟩
  rintro _ ⟨ms,k2,l2,o2,hM,hk2,hl2,rfl⟩
  have h3:=hM.l3
  refine ⟨sQ (by rw[A0];omega),EU (λrest acc τ=>∃(dn rs cs:List Int) (k4 l4:Int),ms=dn++rs/\rest=rs.map u0/\acc=cs.map u0/\LeP cs dn/\τ=[none,some (.io (QQ ns k4 l4))]/\0<=k4/\0<=l4) ?_ ?_ ⟨[],ms,[],k2,l2,rfl,rfl,rfl,trivial,rfl,hk2,hl2⟩⟩
  ·rintro d ds acc τ ⟨dn,rs,cs,k4,l4,em,er,rfl,hle,rfl,hk4,hl4⟩ N' hN'
   cases rs with
   | nil=>cases er
   | cons m rs =>
    cases er
    have hm:=hM.p m (by rw[em];simp)
    refine ⟨ns,k4,l4,m,rfl,hk4,hl4,by omega,by omega,λx k5 l5 _ x0 x1 hk5 hl5=>?_⟩
    exact hN' _ _ ⟨dn++[m],rs,cs++[1+x],k5,l5,by rw[em];simp,rfl,by simp[Sl.d],hle.snoc (by omega) (by omega),rfl,hk5,hl5⟩
  ·rintro acc τ ⟨dn,rs,cs,k4,l4,em,er,rfl,hle,rfl,hk4,hl4⟩
   cases rs with
   | cons _ _=>cases er
   | nil =>
    rw[Q1]at em
    subst em
    exact q cs k4 l4 _ (hle.sd hM) hk4 hl4
noncomputable def bU:Con:=λargs Q=>∃sd:List Int,args=[.fz (fQ sd)]/\(∀c∈sd,1<=c)/\tX sd<=1000/\sd.length<=3/\∀o,Q (.ow (.list ((nX sd).map fQ))) o
theorem Cj:FnScope ["_law_sides_here","_law_found","_law_side","_law_longer","_law_place"] ["_law_sides_here"] (gQ (top 15)):=⟨rfl,rfl,rfl,by decide +kernel,rfl,by decide +kernel,by decide +kernel⟩
theorem ZD{f:Addr}{fd:FuncData}(F:Fun K "_law_places" "_law_places" (top 15) f fd)(T:Txt mg):FnOk P w K mg base VZ 1 f fd ["_law_sides_here"] (kQ K bU):=by
 have S:=Cj
 refine fY F S (λcdv A outer s H E hr=>(eQ (wQ (i:=1) S.nd rfl (Or.inl rfl) (jX (aQ (wx (AX bQ)) bQ)))
     (eQ (RX [2,3,4] PassesOwn.never rfl (qX rfl (wv 0)) (lQ (i:=2) S.nd rfl (Or.inl rfl)) (eQ (wQ (i:=3) S.nd rfl (Or.inl rfl) (jX bQ))
     (eQ (RX [4] PassesOwn.never rfl (qX rfl (wv 1)) (lQ (i:=4) S.nd rfl (Or.inr rfl)) (pQ (PJ (Mu IK rfl PySem.F.slot_list_extend PySem.F.type_list_extend DK (wn 3) (aQ (wx (iX rfl (own:=["_law_number_here"]) (fr:=[4]) (by kernel_rfl) (NJ T.range_ (aQ (wn 2) bQ)) (λ_ _ _ _=>(lQ (i:=0) (by decide +kernel:T1 (["_law_number_here","_law_place"]:List Str)) rfl (Or.inl rfl))) (λ_ _ _ _=>HW) (λ_ _ _ _=>(w_bin YQ JQ (wn 1) (wx (AX (aQ (wx (wv 0)) bQ))))))) bQ)))))
     (pQ (ZY (i:=1) S.nd rfl (Or.inl rfl) (wn 3))))))
     (pQ (OJ (wn 1)))))) ?_ ?_
 ·rintro args Qd ⟨sd,rfl,_⟩;rfl
 ·rintro args Qd ⟨sd,rfl,hp,hm,h3,q⟩
  refine ⟨yQ rfl,?_⟩
  with_reducible refine FQ (λρ=>ρ=[some (.fz (fQ sd)),some (.ow (.list [.tuple []])),none,none,none]) ?_ ?_
  ·intro N hN
   exact hN _ rfl
  rintro _ rfl
  with_reducible refine FQ (λρ=>ρ=[some (.fz (fQ sd)),some (.ow (.list ((nX sd).map fQ))),none,none,none]) ?_ ?_
  rotate_left
  ·rintro _ rfl
   exact q _
  intro NE hE
  refine LX (λrest ρ=>∃(acc:List (List Int)) (rs:List Int),ρ=[some (.fz (fQ sd)),some (.ow (.list (acc.map fQ))),none,none,none]/\rest=rs.map u0/\(∀c∈rs,1<=c)/\rQ acc (rs.map rng)=nX sd/\(∀p∈acc,p.length+rs.length<=3)) ?_ ?_
   ⟨[[]],sd,rfl,rfl,hp,rfl,λp hp=>by simp at hp;subst hp;simpa using h3⟩
  ·rintro d ds ρ ⟨acc,rs,rfl,er,hr1,hacc,hl3⟩ N hN
   cases rs with
   | nil=>cases er
   | cons a rs =>
    cases er
    have ha1:=hr1 a O0
    have hr2:∀c∈rs,1<=c:=λc hc=>hr1 c (K0 _ hc)
    have hlp:=vJ (cs:=rs.map rng) λc hc=>by
     obtain⟨x,hx,rfl⟩:=M0.mp hc
     intro z
     have:=congrArg L4 z
     rw[TZ]at this
     have:=hr2 x hx
     simp at *
     omega
    have htot:(acc.flatMap λp=>(rng a).map λx=>p++[x]).length<=1000:=by
     have h1:=ZQ (rs.map rng) (acc.flatMap λp=>(rng a).map λx=>p++[x])
     have h2:(rQ (acc.flatMap λp=>(rng a).map λx=>p++[x]) (rs.map rng))=nX sd:=hacc
     rw[h2]at h1
     have h3:=ZQ (sd.map rng) [[]]
     have h4:=tW hp
     unfold nX at h1
     have:(acc.flatMap λp=>(rng a).map λx=>p++[x]).length<=(acc.flatMap λp=>(rng a).map λx=>p++[x]).length * cZ (rs.map rng):=g7 _ hlp
     simp only[E6,Nat.one_mul]at h3
     omega
    refine LX (λrest ρ=>∃(lg rp:List (List Int)),ρ=[some (.fz (fQ sd)),some (.fz (.list (acc.map fQ))),some (.fz (.int a)),some (.ow (.list (lg.map fQ))),none]/\rest=rp.map fQ/\(lg++rp.flatMap λp=>(rng a).map λx=>p++[x])=(acc.flatMap λp=>(rng a).map λx=>p++[x])/\(∀p∈rp,p∈acc)) ?_ ?_
     ⟨[],acc,rfl,rfl,rfl,λp hp=>hp⟩
    ·rintro d ds ρ ⟨lg,rp,rfl,er,he,hin⟩ M hM
     cases rp with
     | nil=>cases er
     | cons p rp =>
      cases er
      have hpl:=hl3 p (hin p O0)
      have hl5:lg.length+(rng a).length<=1000:=by
       have:=congrArg L4 he
       rw[A1,T3,A1,A0]at this
       omega
      have hra:a.toNat<=1000:=by rw[TZ]at hl5;omega
      refine ⟨by omega,by omega,by rw[MQ,A0,Y5];exact sQ hra,XZ (λd=>.tuple (p.map u0++[d])) ?_ ?_⟩
      ·rintro d hd R hR
       exact ⟨by simp only[A0,E6];simp at hpl;exact sQ (by omega),hR⟩
      ·refine ⟨by rw[A0,A0,MQ,A0,Y5];rw[TZ]at hl5;exact sQ (by omega),?_⟩
       refine hM _ ⟨lg++(rng a).map λx=>p++[x],rp,?_,rfl,by rw[P2,<- he,T3],λp' hp'=>hin p' (K0 _ hp')⟩
       have e1:(lg.map fQ)++((MQ 0 a.toNat).map λd=>U0 (p.map u0++[d]))=(lg++(rng a).map λx=>p++[x]).map fQ:=by
        rw[sW,W4,Q0,Q0]
        congr 1
        refine V4 λx _=>?_
        simp[fQ]
       rw[<- e1];rfl
    ·rintro ρ ⟨lg,rp,rfl,er,he,hin⟩
     cases rp with
     | cons p rp=>cases er
     | nil =>
      rw[O7,Q1]at he
      refine hN _ ⟨acc.flatMap λp=>(rng a).map λx=>p++[x],rs,?_,rfl,hr2,hacc,λp hp=>?_⟩
      ·rw[he];rfl
      ·obtain⟨p',hp',hx⟩:=P4.mp hp
       obtain⟨x,_,rfl⟩:=M0.mp hx
       have:=hl3 p' hp'
       simp at this ⊢
       omega
  ·rintro ρ ⟨acc,rs,rfl,er,hr1,hacc,hl3⟩
   cases rs with
   | cons a rs=>cases er
   | nil =>
    have hacc:acc=nX sd:=hacc
    rw[hacc]
    exact hE _ rfl
end
theorem yV{sd:List Int}(hp:∀c∈sd,1<=c):(nX sd).Nodup:=by
 rw[List.nodup_iff_pairwise_ne,S2]
 intro i j hi hj hij e
 have h1:=sG hp (k:=i) (p:=(nX sd)[i]) (by simp[hi])
 have h2:=sG hp (k:=j) (p:=(nX sd)[j]) (by simp[hj])
 rw[e]at h1
 have:=h1.2.symm.trans h2.2
 omega
theorem Dj{a b:List Int}(h:HT.lexLt a b=true):HT.lexLt b a=false:=by
 cases e:HT.lexLt b a
 ·rfl
 ·have:=SG.lex_wk.tr a b a h e
  rw[SG.lex_wk.irr]at this
  cases this
theorem vG(sd:List Int):(nX sd).Pairwise (λa b=>HT.lexLt b a=false):=by
 have h:=mX (cs:=sd.map rng) (acc:=[[]]) (n:=0) (G2 _ _) (by simp) λc hc=>by
  obtain⟨s,_,rfl⟩:=M0.mp hc
  rw[<- wV]
  exact vY _ _
 exact h.imp Dj
theorem Ej{l:List (List Int)}(h:l.Pairwise (λa b=>HT.lexLt a b=true)):l.Nodup:=h.imp λ{a b} z e=>by
 rw[e,SG.lex_wk.irr]at z
 cases z
theorem aq(lo hi:List Int):(Bw lo hi).Nodup:=by
 unfold Bw
 exact Ej (mX (cs:=(lo.zip hi).map λp=>ZX p.1 p.2) (acc:=[[]]) (n:=0) (G2 _ _) (by simp) λc hc=>by
   obtain⟨p,_,rfl⟩:=M0.mp hc
   exact vY _ _)
noncomputable def YJ:List Int->List Int->List Int->Bool
 | a :: lo,x :: p,b :: hi=>(decide (a<=x)&&decide (x<=b))&&YJ lo p hi
 | _,_,_=>true
theorem rng2_mem{a b x:Int}:x∈ZX a b ↔ a<=x/\x<=b:=by
 refine ⟨iH,λh=>?_⟩
 unfold ZX
 exact M0.mpr ⟨(x - a).toNat,o6.mpr (by omega),by omega⟩
theorem LF:∀{lo hi sd p:List Int},Bx lo hi sd->p.length=sd.length->YJ lo p hi=true->kU p ((lo.zip hi).map λq=>ZX q.1 q.2)
 | [],[],[],[],_,_,_=>trivial
 | a :: lo,b :: hi,s :: sd,x :: p,h,hl,hi'=>by
  have hi':((decide (a<=x)&&decide (x<=b))&&YJ lo p hi)=true:=hi'
  rw[L5,L5,decide_eq_true_eq,decide_eq_true_eq]at hi'
  exact ⟨rng2_mem.mpr hi'.1,LF h.2 (by simpa using hl) hi'.2⟩
 | [],[],[],_ :: _,_,h,_=>by simp at h
 | _ :: _,_ :: _,_ :: _,[],_,h,_=>by simp at h
 | [],[],_ :: _,_,h,_,_=>h.elim
 | [],_ :: _,z,_,h,_,_=>by cases z<;>exact h.elim
 | _ :: _,[],z,_,h,_,_=>by cases z<;>exact h.elim
 | _ :: _,_ :: _,[],_,h,_,_=>h.elim
theorem MF:∀{lo hi p:List Int},lo.length=hi.length->kU p ((lo.zip hi).map λq=>ZX q.1 q.2)->YJ lo p hi=true
 | [],_,_,_,_=>by simp[YJ]
 | a :: lo,b :: hi,x :: p,hl,h=>by
  show ((decide (a<=x)&&decide (x<=b))&&YJ lo p hi)=true
  have h1:=rng2_mem.mp h.1
  rw[MF (by simpa using hl) h.2,decide_eq_true h1.1,decide_eq_true h1.2]
  rfl
 | _ :: _,[],_,hl,_=>by simp at hl
 | _ :: _,_ :: _,[],_,h=>h.elim
theorem Fj{lo hi sd:List Int}(h:Bx lo hi sd):(nX sd).filter (λp=>YJ lo p hi)=Bw lo hi:=by
 have hl:=wZ h
 have hp:∀c∈sd,1<=c:=by
  have gen:∀{lo hi sd:List Int},Bx lo hi sd->∀c∈sd,1<=c:=by
   intro lo
   induction lo with
   | nil=>intro hi sd h c hc;cases hi<;>cases sd<;>first|exact h.elim|cases hc
   | cons a lo ih =>
    intro hi sd h c hc
    cases hi with
    | nil=>cases sd<;>exact h.elim
    | cons b hi =>
     cases sd with
     | nil=>exact h.elim
     | cons s sd =>
      rcases V0.mp hc with z|z
      ·subst z;have:=h.1;omega
      ·exact ih h.2 c z
  exact gen h
 refine SG.sorted_uniq (lt:=HT.lexLt) (λa b=>SG.lex_eq) ((List.perm_ext_iff_of_nodup ((yV hp).filter _) (aq lo hi)).mpr λp=>?_) ((vG sd).filter _) (tG lo hi)
 rw[S7]
 constructor
 ·rintro⟨h1,h2⟩
  exact vX (a:=[]) (by simp) (LF h (aU (ZV h1)) h2)
 ·intro h1
  exact ⟨uG (yj h h1),MF (by omega) (UQ h1)⟩
noncomputable def bI(sd cl lo hi:List Int):List Int:=(((nX sd).zip cl).filter λr=>YJ lo r.1 hi).map (·.2)
theorem Ew{sd cl:List Int}(hp:∀c∈sd,1<=c)(hl:cl.length=(nX sd).length):(nX sd).zip cl=(nX sd).map λp=>(p,YB sd cl p):=by
 refine B8 λi=>?_
 by_cases hi:i < (nX sd).length
 ·have hz:i < ((nX sd).zip cl).length:=by rw[P1];omega
  rw[X0,P0 hi,P0 hz,Q6]
  have h1:=sG hp (k:=i) (p:=(nX sd)[i]) (by simp[hi])
  show some ((nX sd)[i],cl[i])=some ((nX sd)[i],YB sd cl (nX sd)[i])
  have e:YB sd cl (nX sd)[i]=cl[i]:=by
   unfold YB
   rw[h1.2,show ((i:Int)).toNat=i by omega,Y3,P0 (by omega)]
   rfl
  rw[e]
 ·rw[X4.mpr (by rw[P1];omega),X4.mpr (by rw[A0];omega)]
theorem vW{sd cl lo hi:List Int}(hp:∀c∈sd,1<=c)(hl:cl.length=(nX sd).length)(h:Bx lo hi sd):bI sd cl lo hi=PQ sd cl lo hi:=by
 unfold bI PQ
 rw[Ew hp hl,List.filter_map,Q0,<- Fj h]
 rfl
theorem SK(a b c:List Int):WY (a.map u0) (b.map u0) (c.map u0)=(a.zip (b.zip c)).map λq=>U0 [.int q.1,.int q.2.1,.int q.2.2]:=by
 unfold WY
 rw[R9,R9,Q0]
 rfl
noncomputable def Gj:PyData->Bool
 | .tuple [.int a,.int p,.int b]=>decide (p < a)||decide (b < p)
 | _=>false
theorem cU:∀{lo p hi:List Int},(((lo.zip (p.zip hi)).map λq=>U0 [.int q.1,.int q.2.1,.int q.2.2]).filter Gj=[] ↔ YJ lo p hi=true)
 | [],_,_=>by simp[YJ]
 | _ :: _,[],_=>by simp[YJ]
 | _ :: _,_ :: _,[]=>by simp[YJ]
 | a :: lo,x :: p,b :: hi=>by
  have ih:=cU (lo:=lo) (p:=p) (hi:=hi)
  rw[i5,i5,J3,N8]
  show (if (decide (x < a)||decide (b < x))=true then _ else _)=[] ↔ ((decide (a<=x)&&decide (x<=b))&&YJ lo p hi)=true
  by_cases h:a<=x/\x<=b
  ·rw[if_neg (by simp;omega),decide_eq_true h.1,decide_eq_true h.2]
   simpa using ih
  ·rw[if_pos (by simp;omega)]
   constructor
   ·intro z;cases z
   ·intro z
    rw[L5,L5,decide_eq_true_eq,decide_eq_true_eq]at z
    exact absurd z.1 h
noncomputable def qQ(sd cl:List Int):List (List Int×PyData):=((nX sd).zip cl).map λr=>(r.1,u0 r.2)
section
variable {P:Program}{w:World}{K:J0}{mg:Str->Option Value}{base:Heap}
structure CalsFd(P:Program)(w:World)(K:J0)(mg:Str->Option Value)(base:Heap):Prop where
 law_sides:Cal P w K mg base 2 "_law_sides" ["_law_pen_here"] (kQ K Aj)
 law_places:Cal P w K mg base 1 "_law_places" ["_law_sides_here"] (kQ K bU)
 law_number:Cal P w K mg base 2 "_law_number" ["_law_pen_here"] (kQ K KF)
noncomputable def Hj:Con:=λargs Q=>∃(ns:List Int) (k l:Int),args=[.io (QQ ns k l)]/\0<=k/\0<=l/\∀(sd cl:List Int) (k' l':Int) (o:Ev),Sd sd->cl.length=(nX sd).length->(∀c∈cl,Kv c)->0<=k'->0<=l'->Q (.fz (.tuple [yK sd cl,xX (qQ sd cl)])) (some (.io (QQ ns k' l')) :: o)
theorem Fw:FnScope ["_law_pen_here","_law_sides_here","_law_places_here","_law_cells"] ["_law_pen_here"] (gQ (top 16)):=⟨rfl,rfl,rfl,by decide +kernel,rfl,by decide +kernel,by decide +kernel⟩
theorem Ij{f:Addr}{fd:FuncData}(F:Fun K "_law_field" "_law_field" (top 16) f fd)(T:Txt mg)(C:CalsFd P w K mg base):FnOk P w K mg base VZ 3 f fd ["_law_pen_here"] (kQ K Hj):=by
 have S:=Fw
 refine fY F S (λcdv A outer s H E hr=>(eQ (wQ (i:=1) S.nd rfl (Or.inl rfl) (YX C.law_sides (hr.mono (by first|decide|omega)) (aQ (wn 0) bQ)))
     (eQ (wQ (i:=2) S.nd rfl (Or.inl rfl) (iZ C.law_places (hr.mono (by first|decide|omega)) (aQ (wn 1) bQ)))
     (eQ (wQ (i:=3) S.nd rfl (Or.inl rfl) (kX bX (BQ (K:=K) rfl) T.tuple_ boot_tuple (aQ (wx (iX rfl (own:=["_law_place"]) (fr:=[0]) (by kernel_rfl) (qX rfl (wv 2)) (λ_ _ _ _=>(lQ (i:=0) (by decide +kernel:T1 (["_law_place","_law_pen_here"]:List Str)) rfl (Or.inl rfl))) (λ_ _ _ _=>HW) (λ_ _ _ _=>(YX C.law_number (hr.mono (by first|decide|omega)) (aQ (wn 1) bQ))))) bQ)))
     (pQ (XQ (AX (aQ (wx (AX (aQ (wx (wv 1)) (aQ (wx (wv 3)) bQ)))) (aQ (wx (XL rfl rfl (UH hr) T.dict_ (by decide +kernel) T.zip_ (aQ (wn 2) (aQ (wn 3) bQ)))) bQ))))))))) ?_ ?_
 ·rintro args Qd ⟨ns,k,l,rfl,_⟩;rfl
 ·rintro args Qd ⟨ns,k,l,rfl,hk,hl,q⟩
  refine ⟨yQ rfl,?_⟩
  with_reducible refine FQ (λρ=>∃(sd:List Int) (k1 l1:Int),Sd sd/\0<=k1/\0<=l1/\ρ=[some (.io (QQ ns k1 l1)),some (.fz (fQ sd)),none,none]) ?_ ?_
  ·intro N hN
   exact ⟨ns,k,l,rfl,hk,hl,λsd k1 l1 _ hsd hk1 hl1=>hN _ ⟨sd,k1,l1,hsd,hk1,hl1,rfl⟩⟩
  rintro _ ⟨sd,k1,l1,hsd,hk1,hl1,rfl⟩
  have hm:=hsd.m
  have hpl:=zJ hsd.p
  with_reducible refine FQ (λρ=>ρ=[some (.io (QQ ns k1 l1)),some (.fz (fQ sd)),some (.ow (.list ((nX sd).map fQ))),none]) ?_ ?_
  ·intro N hN
   exact ⟨sd,rfl,hsd.p,by omega,hsd.l3,λo=>hN _ rfl⟩
  rintro _ rfl
  with_reducible refine FQ (λρ=>∃(cl:List Int) (k1 l1:Int),cl.length=(nX sd).length/\(∀c∈cl,Kv c)/\0<=k1/\0<=l1/\ρ=[some (.io (QQ ns k1 l1)),some (.fz (fQ sd)),some (.fz (.list ((nX sd).map fQ))),some (.fz (fQ cl))]) ?_ ?_
  ·intro N hN
   refine ⟨sQ (by rw[A0];omega),EU (λrest acc τ=>∃(cs:List Int) (k4 l4:Int),acc=cs.map u0/\cs.length+rest.length=(nX sd).length/\(∀c∈cs,Kv c)/\τ=[none,some (.io (QQ ns k4 l4))]/\0<=k4/\0<=l4) ?_ ?_ ⟨[],k1,l1,rfl,by simp,λc hc=>(by cases hc),rfl,hk1,hl1⟩⟩
   ·rintro d ds acc τ ⟨cs,k4,l4,rfl,hlen,hB,rfl,hk4,hl4⟩ N' hN'
    refine ⟨ns,k4,l4,rfl,hk4,hl4,λx k5 l5 _ hx hk5 hl5=>?_⟩
    refine hN' _ _ ⟨cs++[x],k5,l5,by simp[Sl.d],by simp at hlen ⊢;omega,λc hc=>?_,rfl,hk5,hl5⟩
    rcases G4.mp hc with z|z
    ·exact hB c z
    ·rw[Y2.mp z];exact hx
   ·rintro acc τ ⟨cs,k4,l4,rfl,hlen,hB,rfl,hk4,hl4⟩
    exact hN _ ⟨cs,k4,l4,by simpa using hlen,hB,hk4,hl4,rfl⟩
  rintro _ ⟨cl,k2,l2,hcl,hB,hk2,hl2,rfl⟩
  have e1:(nX sd).map fQ=(qQ sd cl).map λp=>tI p.1:=by
   unfold qQ
   rw[Q0]
   have e:(nX sd).map fQ=(((nX sd).zip cl).map (·.1)).map fQ:=by rw[P7 (by omega)]
   rw[e,Q0]
   rfl
  have e2:cl.map u0=(qQ sd cl).map (·.2):=by
   unfold qQ
   rw[Q0]
   have e:cl.map u0=(((nX sd).zip cl).map (·.2)).map u0:=by rw[List.map_snd_zip (by omega)]
   rw[e,Q0]
   rfl
  have e3:(qQ sd cl).map (·.1)=nX sd:=by
   unfold qQ
   rw[Q0]
   exact P7 (by omega)
  refine ⟨qQ sd cl,congrArg some e1,congrArg some e2,by rw[e3];exact yV hsd.p,?_⟩
  exact q sd cl k2 l2 _ hsd hcl hB hk2 hl2
noncomputable def xY:Con:=λargs Q=>∃sd cl lo hi:List Int,args=[.fz (xX (qQ sd cl)),.fz (fQ lo),.fz (fQ hi)]/\(nX sd).length<=1000/\lo.length<=3/\∀o,Q (.ow (.list ((bI sd cl lo hi).map u0))) o
theorem Jj:FnScope ["_law_known","_law_low","_law_high","_law_found","_law_place","_law_number_here"] ["_law_known","_law_low","_law_high"] (gQ (top 17)):=⟨rfl,rfl,rfl,by decide +kernel,rfl,by decide +kernel,by decide +kernel⟩
theorem bq{f:Addr}{fd:FuncData}(F:Fun K "_law_within" "_law_within" (top 17) f fd)(T:Txt mg):FnOk P w K mg base VZ 1 f fd ["_law_known","_law_low","_law_high"] (kQ K xY):=by
 have S:=Jj
 refine fY F S (λcdv A outer s H E hr=>(eQ (wQ (i:=3) S.nd rfl (Or.inl rfl) (jX bQ))
     (eQ (RX [4,5] PassesOwn.never rfl (dw (wn 0)) (UZ rfl rfl (zQ (lQ (i:=4) S.nd rfl (Or.inl rfl)) (zQ (lQ (i:=5) S.nd rfl (Or.inl rfl)) aZ))) (pQ (BJ (EX WK (nJ (K:=K) rfl hr.units) (wx (iX rfl (own:=["_law_a","_law_p","_law_b"]) (fr:=[]) (by kernel_rfl) (QH rfl T.zip_ (aQ (wn 1) (aQ (wn 4) (aQ (wn 2) bQ)))) (λ_ _ _ _=>(UZ rfl rfl (zQ (lQ (i:=0) (by decide +kernel:T1 (["_law_a","_law_p","_law_b"]:List Str)) rfl (Or.inl rfl)) (zQ (lQ (i:=1) (by decide +kernel:T1 (["_law_a","_law_p","_law_b"]:List Str)) rfl (Or.inl rfl)) (zQ (lQ (i:=2) (by decide +kernel:T1 (["_law_a","_law_p","_law_b"]:List Str)) rfl (Or.inl rfl)) aZ))))) (λ_ _ _ _=>LM (oE (Ek (EX DU nU (wn 1) (wn 0)) (Az (EX pV cV (wn 1) (wn 2)))))) (λ_ _ _ _=>cQ))) (wx (jX bQ))) (pQ (PJ (Mu xJ rfl PySem.F.slot_list_append PySem.F.type_list_append wJ (wn 3) (aQ (wx (wv 5)) bQ)))) nZ)))
     (pQ (OJ (wn 3)))))) ?_ ?_
 ·rintro args Qd ⟨sd,cl,lo,hi,rfl,_⟩;rfl
 ·rintro args Qd ⟨sd,cl,lo,hi,rfl,hn,h3,q⟩
  refine ⟨yQ rfl,?_⟩
  with_reducible refine FQ (λρ=>ρ=[some (.fz (xX (qQ sd cl))),some (.fz (fQ lo)),some (.fz (fQ hi)),some (.ow (.list [])),none,none]) ?_ ?_
  ·intro N hN
   exact hN _ rfl
  rintro _ rfl
  with_reducible refine FQ (λρ=>ρ=[some (.fz (xX (qQ sd cl))),some (.fz (fQ lo)),some (.fz (fQ hi)),some (.ow (.list ((bI sd cl lo hi).map u0))),none,none]) ?_ ?_
  ·intro N hN
   have hzl:((nX sd).zip cl).length<=1000:=by rw[P1];omega
   refine (?_:GX _ _ _ _ ((qQ sd cl).map λp=>.tuple [tI p.1,p.2]) _)
   have er:(qQ sd cl).map (λp=>U0 [tI p.1,p.2])=((nX sd).zip cl).map λr=>U0 [fQ r.1,.int r.2]:=by
    unfold qQ
    rw[Q0]
    rfl
   rw[er]
   unfold bI at hN
   generalize (nX sd).zip cl=zs at hN hzl ⊢
   refine LX (λrest ρ=>∃dn rs:List (List Int×Int),zs=dn++rs/\rest=rs.map (λr=>U0 [fQ r.1,.int r.2])/\ρ=[some (.fz (xX (qQ sd cl))),some (.fz (fQ lo)),some (.fz (fQ hi)),some (.ow (.list (((dn.filter λr=>YJ lo r.1 hi).map (·.2)).map u0))),none,none]) ?_ ?_ ⟨[],zs,rfl,rfl,rfl⟩
   ·rintro d ds ρ ⟨dn,rs,ez,es,rfl⟩ M hM
    cases rs with
    | nil=>cases es
    | cons r rs =>
     cases es
     obtain⟨p,c⟩:=r
     refine ⟨rfl,?_⟩
     have hz:=SK lo p hi
     have hdl:(dn.filter λr=>YJ lo r.1 hi).length<=dn.length:=List.length_filter_le _ _
     have hzd:dn.length<=1000:=by rw[ez,A1]at hzl;omega
     refine ⟨by rw[hz,A0,P1];exact sQ (by omega),kE Gj (λ_=>.int 1) ?_ ?_⟩
     ·intro d hd N' M' hN' hM'
      rw[hz]at hd
      obtain⟨⟨a,x,b⟩,_,rfl⟩:=M0.mp hd
      refine ⟨rfl,mZ (λh=>?_) (λh=>mZ (λh2=>?_) (λh2=>?_))⟩
      ·have h:decide (x < a)=true:=h
       exact hN' (by show (decide (x < a)||decide (b < x))=true;rw[h];rfl)
      ·have h2:decide (b < x)=true:=h2
       exact hN' (by show (decide (x < a)||decide (b < x))=true;rw[h2,Bool.or_true])
      ·have h:¬decide (x < a)=true:=h
       have h2:¬decide (b < x)=true:=h2
       exact hM' (by show (decide (x < a)||decide (b < x))=false;rw[u5.mpr h,u5.mpr h2];rfl)
     rw[hz]
     have eo:=cU (lo:=lo) (p:=p) (hi:=hi)
     generalize ((lo.zip (p.zip hi)).map λq=>U0 [.int q.1,.int q.2.1,.int q.2.2]).filter Gj=us at eo
     have el:us.map (λ_=>u0 1)=(us.map λ_=>(1:Int)).map u0:=by rw[Q0];rfl
     rw[el]
     have n1:=Nice.ints (us.map λ_=>(1:Int))
     have n2:=Nice.ints []
     have es:same (.list ((us.map λ_=>(1:Int)).map u0)) (.list [])=decide (us=[]):=by
      cases us<;>simp[same,sameAll]
     have em:SeqAt.noMix (.list ((us.map λ_=>(1:Int)).map u0)) (.list [])=true:=by
      cases us<;>simp[SeqAt.noMix,SeqAt.noMixAll]
     refine ⟨n1.p,n2.p,n1.sh (by decide),n2.sh (by decide),em,mZ (λh=>?_) (λh=>?_)⟩
     ·have h:same (.list ((us.map λ_=>(1:Int)).map u0)) (.list [])=true:=h
      rw[es,decide_eq_true_eq]at h
      have hin:=eo.mp h
      refine ⟨by rw[A0,A0];exact W3 (show _<=1000 by omega) (by decide),?_⟩
      refine hM _ ⟨dn++[(p,c)],rs,by rw[ez];simp,rfl,?_⟩
      rw[N9,N8,if_pos hin]
      simp only[List.filter_nil,W4,J3,O9]
      rfl
     ·have h:¬same (.list ((us.map λ_=>(1:Int)).map u0)) (.list [])=true:=h
      have hin:¬YJ lo p hi=true:=λz=>h (by rw[es,eo.mpr z];rfl)
      refine hM _ ⟨dn++[(p,c)],rs,by rw[ez];simp,rfl,?_⟩
      rw[N9,N8,if_neg hin]
      simp only[List.filter_nil,Q1]
      rfl
   ·rintro ρ ⟨dn,rs,ez,es,rfl⟩
    cases rs with
    | cons _ _=>cases es
    | nil =>
     rw[Q1]at ez
     subst ez
     exact hN _ rfl
  rintro _ rfl
  exact q _
end
noncomputable def ZJ:List Int->Int
 | []=>0
 | [x]=>x
 | x :: y :: l=>min x (ZJ (y :: l))
noncomputable def aK:List Int->Int
 | []=>0
 | [x]=>x
 | x :: y :: l=>max x (aK (y :: l))
theorem oZ:∀{l:List Int},l≠[]->ZJ l∈l/\∀y∈l,ZJ l<=y
 | [],h=>absurd rfl h
 | [x],_=>⟨by simp[ZJ],λy hy=>by
   have e:y=x:=by simpa using hy
   rw[e]
   exact e7 _⟩
 | x :: y :: l,_=>by
  obtain⟨h1,h2⟩:=oZ (l:=y :: l) (by simp)
  show min x (ZJ (y :: l))∈x :: y :: l/\_
  constructor
  ·rcases (show min x (ZJ (y :: l))=x\/min x (ZJ (y :: l))=ZJ (y :: l) by omega) with e|e<;>rw[e]
   ·exact O0
   ·exact K0 _ h1
  ·intro z hz
   show min x (ZJ (y :: l))<=z
   rcases V0.mp hz with e|e
   ·omega
   ·have:=h2 z e;omega
theorem pZ:∀{l:List Int},l≠[]->aK l∈l/\∀y∈l,y<=aK l
 | [],h=>absurd rfl h
 | [x],_=>⟨by simp[aK],λy hy=>by
   have e:y=x:=by simpa using hy
   rw[e]
   exact e7 _⟩
 | x :: y :: l,_=>by
  obtain⟨h1,h2⟩:=pZ (l:=y :: l) (by simp)
  show max x (aK (y :: l))∈x :: y :: l/\_
  constructor
  ·rcases (show max x (aK (y :: l))=x\/max x (aK (y :: l))=aK (y :: l) by omega) with e|e<;>rw[e]
   ·exact O0
   ·exact K0 _ h1
  ·intro z hz
   show z<=max x (aK (y :: l))
   rcases V0.mp hz with e|e
   ·omega
   ·have:=h2 z e;omega
theorem wW{l:List Int}{m:Int}(h1:m∈l)(h2:∀y∈l,m<=y):m=ZJ l:=by
 have hs:=oZ (l:=l) (λz=>by rw[z]at h1;cases h1)
 have a:=h2 _ hs.1
 have b:=hs.2 _ h1
 omega
theorem xW{l:List Int}{m:Int}(h1:m∈l)(h2:∀y∈l,y<=m):m=aK l:=by
 have hs:=pZ (l:=l) (λz=>by rw[z]at h1;cases h1)
 have a:=h2 _ hs.1
 have b:=hs.2 _ h1
 omega
theorem xB{lo hi sd:List Int}(h:Bx lo hi sd):Bw lo hi≠[]:=λz=>by
 have:lo∈Bw lo hi:=by
  refine vX (a:=[]) (by simp) ?_
  clear z
  induction lo generalizing hi sd with
  | nil=>cases hi with
   | nil=>trivial
   | cons b hi=>cases sd<;>exact h.elim
  | cons a lo ih =>
   cases hi with
   | nil=>cases sd<;>exact h.elim
   | cons b hi =>
    cases sd with
    | nil=>exact h.elim
    | cons s sd=>exact ⟨rng2_mem.mpr ⟨e7 _,h.1.2.1⟩,ih h.2⟩
 rw[z]at this
 cases this
theorem tZ{sd cl lo hi:List Int}(h:Bx lo hi sd):PQ sd cl lo hi≠[]:=λz=>xB h (m6.mp z)
theorem yW{α:Type}:∀{cs:List (List α)}{acc:List (List α)},acc.Nodup->(∀c∈cs,c.Nodup)->(rQ acc cs).Nodup
 | [],_,h,_=>h
 | c :: cs,acc,h,hc=>by
  refine yW (cs:=cs) ?_ λd hd=>hc d (K0 _ hd)
  refine B7.mpr ⟨λp hp=>?_,h.imp λ{a b} hab x hx y hy z=>?_⟩
  ·refine m5.mpr ((hc c O0).imp λ{a b} hab z=>hab ?_)
   have:=List.append_cancel_left z
   injection this
  ·obtain⟨u,_,rfl⟩:=M0.mp hx
   obtain⟨v,_,rfl⟩:=M0.mp hy
   exact hab (List.append_inj' z rfl).1
noncomputable def gpw(n:Int):Nat:=n.toNat.log2
theorem AJ{n:Int}(h:1<=n)(k:Nat):k<=gpw n ↔ (2:Int) ^ k<=n:=by
 unfold gpw
 rw[Nat.le_log2 (by omega)]
 have e:((2 ^ k:Nat):Int)=2 ^ k:=by rw[V7];rfl
 omega
theorem zW{n:Int}(h:1<=n):(gpw n:Int)+1<=n:=by
 have h1:=(AJ h (gpw n)).mp (R0 _)
 have h2:gpw n < 2 ^ gpw n:=A9
 have e:((2 ^ gpw n:Nat):Int)=2 ^ gpw n:=by rw[V7];rfl
 omega
theorem Kj{n:Int}(h:1<=n):(G5 n:Int) - 1=gpw n:=by
 unfold G5 gpw
 have e:(n==0)=false:=by rw[beq_eq_false_iff_ne];omega
 rw[e]
 have e2:n.natAbs=n.toNat:=by omega
 rw[e2]
 show (((n.toNat.log2+1:Nat):Int)) - 1=_
 omega
noncomputable def dU(sd p:List Int):List (List Int):=(sd.zip p).map λq=>rng ((gpw (q.1 - q.2):Nat)+1)
noncomputable def NX(sd:List Int):List qZ:=(nX sd).flatMap λp=>(rQ [[]] (dU sd p)).map λw=>(p,w)
noncomputable def Pc:List Int->List Int->List Int->Prop
 | [],[],[]=>True
 | x :: p,k :: w,s :: sd=>(0<=x/\x < s/\0<=k/\(2:Int) ^ k.toNat<=s - x)/\Pc p w sd
 | _,_,_=>False
theorem Lv:∀{sd p w:List Int},Wi p sd->kU w (dU sd p)->Pc p w sd
 | [],[],[],_,_=>trivial
 | s :: sd,x :: p,k :: w,h1,h2=>by
  have hx:=h1.1
  have hk:0<=k/\k < ((gpw (s - x):Nat):Int)+1:=CF h2.1
  refine ⟨⟨hx.1,hx.2,hk.1,(AJ (by omega) _).mp (by omega)⟩,Lv h1.2 h2.2⟩
 | [],[],_ :: _,_,h=>h.elim
 | _ :: _,_ :: _,[],_,h=>h.elim
 | [],_ :: _,_,h,_=>h.elim
 | _ :: _,[],_,h,_=>h.elim
theorem Mv:∀{sd p w:List Int},Pc p w sd->Wi p sd/\kU w (dU sd p)
 | [],[],[],_=>⟨trivial,trivial⟩
 | s :: sd,x :: p,k :: w,h=>by
  obtain⟨⟨h1,h2,h3,h4⟩,h5⟩:=h
  obtain⟨g1,g2⟩:=Mv h5
  refine ⟨⟨⟨h1,h2⟩,g1⟩,⟨?_,g2⟩⟩
  have:=(AJ (by omega) k.toNat).mpr h4
  exact HF h3 (by show k < ((gpw (s - x):Nat):Int)+1;omega)
 | [],[],_ :: _,h=>h.elim
 | [],_ :: _,z,h=>by cases z<;>exact h.elim
 | _ :: _,[],z,h=>by cases z<;>exact h.elim
 | _ :: _,_ :: _,[],h=>h.elim
theorem pcs_mem{sd:List Int}{b:qZ}:b∈NX sd ↔ Pc b.1 b.2 sd:=by
 unfold NX
 constructor
 ·intro h
  obtain⟨p,hp,hw⟩:=P4.mp h
  obtain⟨w,hw2,rfl⟩:=M0.mp hw
  exact Lv (ZV hp) (UQ hw2)
 ·intro h
  obtain⟨h1,h2⟩:=Mv h
  exact P4.mpr ⟨b.1,uG h1,M0.mpr ⟨b.2,vX (a:=[]) (by simp) h2,rfl⟩⟩
theorem TK:∀{p w sd:List Int},Pc p w sd->p.length=sd.length/\w.length=sd.length
 | [],[],[],_=>⟨rfl,rfl⟩
 | x :: p,k :: w,s :: sd,h=>by
  have:=TK h.2
  simp only[X1]
  omega
 | [],[],_ :: _,h=>h.elim
 | [],_ :: _,z,h=>by cases z<;>exact h.elim
 | _ :: _,[],z,h=>by cases z<;>exact h.elim
 | _ :: _,_ :: _,[],h=>h.elim
noncomputable def xZ(p w:List Int):List Int:=(p.zip w).map λq=>q.1+2 ^ q.2.toNat - 1
theorem NF(k:Nat):(1:Int)<=2 ^ k:=by
 have:1<=2 ^ k:=Nat.one_le_two_pow
 have e:((2 ^ k:Nat):Int)=2 ^ k:=by rw[V7];rfl
 omega
theorem GJ:∀{p w sd:List Int},Pc p w sd->Bx p (xZ p w) sd
 | [],[],[],_=>trivial
 | x :: p,k :: w,s :: sd,h=>by
  obtain⟨⟨h1,h2,h3,h4⟩,h5⟩:=h
  have:=NF k.toNat
  exact ⟨⟨h1,by show x<=x+2 ^ k.toNat - 1;omega,by show x+2 ^ k.toNat - 1 < s;omega⟩,GJ h5⟩
 | [],[],_ :: _,h=>h.elim
 | [],_ :: _,z,h=>by cases z<;>exact h.elim
 | _ :: _,[],z,h=>by cases z<;>exact h.elim
 | _ :: _,_ :: _,[],h=>h.elim
noncomputable def v2(sd cl:List Int)(b:qZ):List Int:=[ZJ (PQ sd cl b.1 (xZ b.1 b.2)),aK (PQ sd cl b.1 (xZ b.1 b.2))]
theorem Lj(s:Int):(rng s).Pairwise (· < ·):=by rw[<- wV];exact vY _ _
theorem yB(sd p:List Int):∀c∈dU sd p,c.Pairwise (· < ·):=λc hc=>by
 obtain⟨q,_,rfl⟩:=M0.mp hc
 exact Lj _
theorem zB(sd:List Int):(nX sd).Pairwise (λa b=>HT.lexLt a b=true):=mX (cs:=sd.map rng) (acc:=[[]]) (n:=0) (G2 _ _) (by simp) λc hc=>by
 obtain⟨s,_,rfl⟩:=M0.mp hc
 exact Lj _
theorem Mj(sd:List Int):(NX sd).Pairwise λa b=>YZ a b=true:=by
 unfold NX
 refine B7.mpr ⟨λp hp=>?_,(zB sd).imp λ{a b} hab x hx y hy=>?_⟩
 ·refine m5.mpr ((mX (cs:=dU sd p) (acc:=[[]]) (n:=0) (G2 _ _) (by simp) (yB sd p)).imp λ{a b} h=>?_)
  show YZ (p,a) (p,b)=true
  unfold YZ
  rw[if_pos rfl]
  exact h
 ·obtain⟨u,_,rfl⟩:=M0.mp hx
  obtain⟨v,_,rfl⟩:=M0.mp hy
  show YZ (a,u) (b,v)=true
  unfold YZ
  rw[if_neg (λz=>by
    have z:a=b:=z
    rw[z,SG.lex_wk.irr]at hab
    cases hab)]
  exact hab
theorem Nj{sd:List Int}{rows:List qZ}(h1:rows.Perm (NX sd))(h2:rows.Pairwise λa b=>YZ b a=false):rows=NX sd :=
 SG.sorted_uniq (lt:=YZ) (λa b=>bB) h1 h2 ((Mj sd).imp λ{a b} h=>by
   cases e:YZ b a with
   | false=>rfl
   | true=>have:=ltB_wk.tr _ _ _ h e;rw[ltB_wk.irr]at this;cases this)
theorem AW:∀{sd p:List Int},Wi p sd->(cZ (dU sd p):Int)<=tX sd/\1<=tX sd
 | [],[],_=>⟨by show (1:Int)<=1;decide,by show (1:Int)<=1;decide⟩
 | s :: sd,x :: p,h=>by
  obtain⟨i1,i2⟩:=AW (sd:=sd) (p:=p) h.2
  have hx:=h.1
  have h1:=zW (n:=s - x) (by omega)
  have e:(cZ (dU (s :: sd) (x :: p)):Int)=(((gpw (s - x):Nat):Int)+1) * (cZ (dU sd p):Int):=by
   show (((rng (((gpw (s - x):Nat):Int)+1)).length * cZ (dU sd p):Nat):Int)=_
   rw[TZ,Int.natCast_mul]
   congr 1
  rw[e]
  show _<=s * tX sd/\1<=s * tX sd
  refine ⟨m8 (by omega) i1 (by omega) (by omega),?_⟩
  have:=m8 (show (1:Int)<=s by omega) i2 (by decide) (by omega)
  omega
 | [],_ :: _,h=>h.elim
 | _ :: _,[],h=>h.elim
theorem jH{α β:Type}{f:α->List β}{c:Nat}:∀{l:List α},(∀p∈l,(f p).length<=c)->(l.flatMap f).length<=l.length * c
 | [],_=>by simp
 | p :: l,h=>by
  have h1:=h p O0
  have h2:=jH (l:=l) λq hq=>h q (K0 _ hq)
  rw[T3,A1,X1,Z7]
  omega
theorem kH{sd:List Int}(h:Sd sd){l:List (List Int)}(hl:∀p∈l,p∈nX sd)(hn:l.length<=120):(l.flatMap λp=>(rQ [[]] (dU sd p)).map λw=>((p,w):qZ)).length<=14400:=by
 have h1:=jH (f:=λp=>(rQ [[]] (dU sd p)).map λw=>((p,w):qZ)) (c:=120) (l:=l) λp hp=>by
  rw[A0,ZQ]
  have h2:=(AW (ZV (hl p hp))).1
  have h3:=h.m
  simp
  omega
 have h4:=Nat.mul_le_mul_right 120 hn
 omega
theorem OF{sd:List Int}(h:Sd sd):(nX sd).length<=120:=by
 have h1:=zJ h.p
 have h2:=h.m
 omega
theorem zK{sd:List Int}(h:Sd sd):(NX sd).length<=14400:=kH h (λp hp=>hp) (OF h)
noncomputable abbrev zX(sd cl:List Int)(b:qZ):PyData:=.tuple [fQ b.1,fQ b.2,.int (ZJ (PQ sd cl b.1 (xZ b.1 b.2))),.int (aK (PQ sd cl b.1 (xZ b.1 b.2)))]
theorem lH{n:Nat}(h:n<=100000):n<=sizeLine:=L1 h (by decide)
noncomputable def oN:PyData->PyData
 | .tuple [.int s,.int x]=>.list ((rng ((gpw (s - x):Nat)+1)).map u0)
 | _=>.none
noncomputable def ZB:PyData->PyData
 | .tuple [.int x,.int k]=>.int (x+2 ^ k.toNat - 1)
 | _=>.none
noncomputable def aM(sd cl:List Int):PyData->PyData
 | .tuple [.tuple p,.tuple w]=>zX sd cl (p.map ZE,w.map ZE)
 | _=>.none
theorem Oj(sd cl:List Int)(b:qZ):aM sd cl (mQ b)=zX sd cl b:=by
 show zX sd cl ((b.1.map u0).map ZE,(b.2.map u0).map ZE)=_
 rw[IF,IF]
section
variable {P:Program}{w:World}{K:J0}{mg:Str->Option Value}{base:Heap}
noncomputable def QM:Con:=λargs Q=>∃k:Int,args=[.fz (.int k)]/\0<=k/\k<=1000/\∀o,Q (.fz (.int (2 ^ k.toNat))) o
theorem bM:FnScope ["power","number","turn"] ["power"] (gQ (top 4)):=⟨rfl,rfl,rfl,by decide +kernel,rfl,by decide +kernel,by decide +kernel⟩
theorem cI{f:Addr}{fd:FuncData}(F:Fun K "two_to" "two_to" (top 4) f fd)(T:Txt mg):FnOk P w K mg base VZ 1 f fd ["power"] (kQ K QM):=by
 have S:=bM
 refine fY F S (λcdv A outer s H E hr=>(eQ (wQ (i:=1) S.nd rfl (Or.inl rfl) cQ)
     (eQ (RX [2] PassesOwn.never rfl (NJ T.range_ (aQ (wn 0) bQ)) (lQ (i:=2) S.nd rfl (Or.inl rfl)) (pQ (wQ (i:=1) S.nd rfl (Or.inl rfl) (w_bin LZ fZ (wn 1) (wx cQ)))))
     (pQ (OJ (wn 1)))))) ?_ ?_
 ·rintro args Qd ⟨k,rfl,_⟩;rfl
 ·rintro args Qd ⟨k,rfl,k0,k1,q⟩
  refine ⟨yQ rfl,?_⟩
  with_reducible refine FQ (λρ=>ρ=[some (.fz (.int k)),some (.fz (.int 1)),none]) ?_ ?_
  ·intro N hN
   exact hN _ rfl
  rintro _ rfl
  with_reducible refine FQ (λρ=>ρ=[some (.fz (.int k)),some (.fz (.int (2 ^ k.toNat))),none]) ?_ ?_
  ·intro N hN
   refine ⟨by omega,by omega,?_⟩
   refine LX (λrest ρ=>∃j:Nat,j+rest.length=k.toNat/\ρ=[some (.fz (.int k)),some (.fz (.int (2 ^ j))),none]) ?_ ?_ ⟨0,by rw[MQ,A0,Y5];omega,rfl⟩
   ·rintro d ds ρ ⟨j,hj,rfl⟩ M hM
    refine ⟨.inr ⟨by decide,by decide⟩,?_⟩
    refine hM _ ⟨j+1,by simp at hj;omega,?_⟩
    rw[S9]
    rfl
   ·rintro ρ ⟨j,hj,rfl⟩
    have e:j=k.toNat:=by simpa using hj
    subst e
    exact hN _ rfl
  rintro _ rfl
  exact q _
noncomputable def RM:Con:=λargs Q=>∃n:Int,args=[.fz (.int n)]/\1<=n/\∀o,Q (.fz (.int (gpw n:Nat))) o
theorem cM:FnScope ["length"] ["length"] (gQ (top 5)):=⟨rfl,rfl,rfl,by decide +kernel,rfl,by decide +kernel,by decide +kernel⟩
theorem dI{f:Addr}{fd:FuncData}(F:Fun K "greatest_power" "greatest_power" (top 5) f fd):FnOk P w K mg base VZ 1 f fd ["length"] (kQ K RM):=by
 have S:=cM
 refine fY F S (λcdv A outer s H E hr=>(pQ (XQ (w_bin hX fX (wx (Yu (wn 0))) (wx cQ))))) ?_ ?_
 ·rintro args Qd ⟨n,rfl,_⟩;rfl
 ·rintro args Qd ⟨n,rfl,h,q⟩
  refine ⟨yQ rfl,?_⟩
  have q1:∀o,Qd (.fz (.int ((G5 n:Nat) - 1))) o:=λo=>by rw[Kj h];exact q o
  exact q1 _
theorem eU:∀{p w sd:List Int},Pc p w sd->∀q∈p.zip w,0<=q.2/\∃s∈sd,(2:Int) ^ q.2.toNat<=s
 | [],_,_,_,q,hq=>by simp at hq
 | _ :: _,[],z,h,_,_=>by cases z<;>exact h.elim
 | x :: p,k :: w,[],h,_,_=>h.elim
 | x :: p,k :: w,s :: sd,h,q,hq=>by
  rw[i5]at hq
  rcases V0.mp hq with z|z
  ·subst z
   exact ⟨h.1.2.2.1,s,O0,by have h1:=h.1;show (2:Int) ^ k.toNat<=s;omega⟩
  ·obtain⟨g1,s',g2,g3⟩:=eU h.2 q z
   exact ⟨g1,s',K0 _ g2,g3⟩
theorem wG{k:Nat}{n:Int}(h:(2:Int) ^ k<=n):(k:Int)<=n:=by
 have h2:k < 2 ^ k:=A9
 have e:((2 ^ k:Nat):Int)=2 ^ k:=by rw[V7];rfl
 omega
end
theorem xG:∀{p sd:List Int},Wi p sd->∀q∈sd.zip p,0<=q.2/\q.2 < q.1
 | [],_,_,q,hq=>by simp at hq
 | y :: p,[],h,q,hq=>h.elim
 | y :: p,t :: sd,h,q,hq=>by
  rw[i5]at hq
  rcases V0.mp hq with z|z
  ·rw[z];exact h.1
  ·exact xG h.2 q z
theorem Gw{sd p:List Int}(hsd:Sd sd)(h:Wi p sd)(q:Int×Int)(hq:q∈sd.zip p):1<=q.1 - q.2/\q.1 - q.2<=120:=by
 have h1:=xG h q hq
 have h2:=uX hsd.p q.1 (V6 hq).1
 have h3:=hsd.m
 omega
theorem dM{gs:List KJ}{ds:List PyData}{ρ ρ':Ev}{Q:Ev->Prop}(h:QC gs ds ρ Q=Q ρ')(w:Q ρ'):QC gs ds ρ Q:=by rw[h];exact w
section
variable {P:Program}{w:World}{K:J0}{mg:Str->Option Value}{base:Heap}
noncomputable def AB:Con:=λargs Q=>∃n:Int,args=[.fz (.int n)]/\1<=n/\n<=1000/\∀o,Q (.fz (.int (gpw n:Nat))) o
theorem eI:FnScope ["_law_length","_law_found"] ["_law_length"] (gQ (top 20)):=⟨rfl,rfl,rfl,by decide +kernel,rfl,by decide +kernel,by decide +kernel⟩
theorem BB{f:Addr}{fd:FuncData}(F:Fun K "_law_most_power" "_law_most_power" (top 20) f fd):FnOk P w K mg base VZ 1 f fd ["_law_length"] (kQ K AB):=by
 have S:=eI
 refine fY F S (λcdv A outer s H E hr=>(eQ (wQ (i:=1) S.nd rfl (Or.inl rfl) cQ)
     (eQ (fF PassesOwn.never (EX fE pC (wx (w_bin XY AY (wx cQ) (wn 1))) (wn 0)) (pQ (wQ (i:=1) S.nd rfl (Or.inl rfl) (w_bin YQ JQ (wn 1) (wx cQ)))))
     (pQ (OJ (wn 1)))))) ?_ ?_
 ·rintro args Qd ⟨n,rfl,_⟩;rfl
 ·rintro args Qd ⟨n,rfl,h1,h2,q⟩
  refine ⟨yQ rfl,?_⟩
  have hlt:=zW h1
  with_reducible refine FQ (λρ=>ρ=[some (.fz (.int n)),some (.fz (.int 0))]) ?_ ?_
  ·intro N hN
   exact hN _ rfl
  rintro _ rfl
  with_reducible refine FQ (λρ=>ρ=[some (.fz (.int n)),some (.fz (.int (gpw n:Nat)))]) ?_ ?_
  ·intro N hN
   refine ⟨λm ρ=>∃j:Nat,j<=gpw n/\m=gpw n - j/\ρ=[some (.fz (.int n)),some (.fz (.int (j:Nat)))],⟨gpw n,0,Q3 _,rfl,rfl⟩,?_⟩
   rintro m ρ ⟨j,hj,rfl,rfl⟩
   refine ⟨⟨by omega,by omega,by decide⟩,?_⟩
   have e:(2:Int) * 2 ^ (j:Int).toNat=2 ^ (j+1):=by
    rw[show (j:Int).toNat=j by omega,S9,Int.mul_comm]
   have hi:=AJ h1 (j+1)
   rw[<- e]at hi
   refine mZ (λh=>?_) (λh=>?_)
   ·have hj2:j+1<=gpw n:=hi.mpr (of_decide_eq_true h)
    exact ⟨λρ=>ρ=[some (.fz (.int n)),some (.fz (.int ((j+1:Nat):Int)))],λρ' e=>⟨gpw n - (j+1),by omega,j+1,hj2,rfl,e⟩,rfl⟩
   ·have hj2:¬j+1<=gpw n:=λz=>h (decide_eq_true (hi.mp z))
    have ej:j=gpw n:=by omega
    rw[ej]
    exact hN _ rfl
  rintro _ rfl
  exact q _
structure CalsLpc(P:Program)(w:World)(K:J0)(mg:Str->Option Value)(base:Heap):Prop where
 law_places:Cal P w K mg base 1 "_law_places" ["_law_sides_here"] (kQ K bU)
 law_most_power:Cal P w K mg base 1 "_law_most_power" ["_law_length"] (kQ K AB)
noncomputable def iI:Con:=λargs Q=>∃sd:List Int,args=[.fz (fQ sd)]/\Sd sd/\∀o,Q (.ow (.list ((NX sd).map mQ))) o
noncomputable def eM(p:List Int):PyData->PyData
 | .int k=>fQ (p++[k])
 | _=>.none
noncomputable def SM(p:List Int):PyData->PyData
 | d=>.tuple [fQ p,d]
theorem jI:FnScope ["_law_sides_here","_law_found","_law_place","_law_some","_law_side","_law_number_here","_law_longer","_law_powers"] ["_law_sides_here"] (gQ (top 21)):=⟨rfl,rfl,rfl,by decide +kernel,rfl,by decide +kernel,by decide +kernel⟩
theorem CB{f:Addr}{fd:FuncData}(F:Fun K "_law_pieces" "_law_pieces" (top 21) f fd)(T:Txt mg)(C:CalsLpc P w K mg base):FnOk P w K mg base VZ 2 f fd ["_law_sides_here"] (kQ K iI):=by
 have S:=jI
 refine fY F S (λcdv A outer s H E hr=>(eQ (wQ (i:=1) S.nd rfl (Or.inl rfl) (jX bQ))
     (eQ (RX [2,3,4,5] PassesOwn.never rfl (qX rfl (iZ C.law_places (hr.mono (by first|decide|omega)) (aQ (wn 0) bQ))) (lQ (i:=2) S.nd rfl (Or.inr rfl)) (eQ (wQ (i:=3) S.nd rfl (Or.inl rfl) (jX (aQ (wx (AX bQ)) bQ)))
     (eQ (RX [4,5,6,7] PassesOwn.never rfl (KK rfl T.zip_ (aQ (wn 0) (aQ (wn 2) bQ))) (UZ rfl rfl (zQ (lQ (i:=4) S.nd rfl (Or.inl rfl)) (zQ (lQ (i:=5) S.nd rfl (Or.inl rfl)) aZ))) (eQ (wQ (i:=6) S.nd rfl (Or.inl rfl) (jX bQ))
     (eQ (RX [7] PassesOwn.never rfl (qX rfl (wv 3)) (lQ (i:=7) S.nd rfl (Or.inr rfl)) (pQ (PJ (Mu IK rfl PySem.F.slot_list_extend PySem.F.type_list_extend DK (wn 6) (aQ (wx (iX rfl (own:=["_law_k"]) (fr:=[7]) (by kernel_rfl) (NJ T.range_ (aQ (wx (w_bin YQ JQ (wx (iZ C.law_most_power (hr.mono (by first|decide|omega)) (aQ (wx (w_bin hX fX (wn 4) (wn 5))) bQ))) (wx cQ))) bQ)) (λ_ _ _ _=>(lQ (i:=0) (by decide +kernel:T1 (["_law_k","_law_powers"]:List Str)) rfl (Or.inl rfl))) (λ_ _ _ _=>HW) (λ_ _ _ _=>(w_bin YQ JQ (wn 1) (wx (AX (aQ (wx (wv 0)) bQ))))))) bQ)))))
     (pQ (ZY (i:=3) S.nd rfl (Or.inl rfl) (wn 6))))))
     (pQ (PJ (Mu IK rfl PySem.F.slot_list_extend PySem.F.type_list_extend DK (wn 1) (aQ (wx (iX rfl (own:=["_law_powers"]) (fr:=[2]) (by kernel_rfl) (qX rfl (wv 3)) (λ_ _ _ _=>(lQ (i:=0) (by decide +kernel:T1 (["_law_powers","_law_place"]:List Str)) rfl (Or.inl rfl))) (λ_ _ _ _=>HW) (λ_ _ _ _=>(AX (aQ (wx (wv 1)) (aQ (wx (wv 0)) bQ)))))) bQ)))))))
     (pQ (XQ (DQ Rz (YU rfl (UH hr)) T.sorted_ boot_sorted (aQ (wn 1) bQ))))))) ?_ ?_
 ·rintro args Qd ⟨sd,rfl,_⟩;rfl
 ·rintro args Qd ⟨sd,rfl,hsd,q⟩
  refine ⟨yQ rfl,?_⟩
  have h3:=hsd.l3
  have hm:=hsd.m
  have h120:=OF hsd
  with_reducible refine FQ (λρ=>ρ=[some (.fz (fQ sd)),some (.ow (.list [])),none,none,none,none,none,none]) ?_ ?_
  ·intro N hN
   exact hN _ rfl
  rintro _ rfl
  with_reducible refine FQ (λρ=>ρ=[some (.fz (fQ sd)),some (.ow (.list ((NX sd).map mQ))),none,none,none,none,none,none]) ?_ ?_
  ·intro N hN
   refine ⟨sd,rfl,hsd.p,by omega,by omega,λo=>?_⟩
   refine (?_:GX _ _ _ _ ((nX sd).map fQ) [some (.fz (fQ sd)),some (.ow (.list [])),none,none,none,none,none,none])
   refine LX (λrest ρ=>∃dn rs:List (List Int),nX sd=dn++rs/\rest=rs.map fQ/\ρ=[some (.fz (fQ sd)),some (.ow (.list ((dn.flatMap λp=>(rQ [[]] (dU sd p)).map λw=>((p,w):qZ)).map mQ))),none,none,none,none,none,none]) ?_ ?_ ⟨[],nX sd,rfl,rfl,rfl⟩
   ·rintro d ds ρ ⟨dn,rs,ez,es,rfl⟩ M hM
    cases rs with
    | nil=>cases es
    | cons p rs =>
     cases es
     have hp:p∈nX sd:=by rw[ez];simp
     have hwi:=ZV hp
     have hwl:=aU hwi
     have hlp:=AW hwi
     have hdn:(dn.flatMap λp=>(rQ [[]] (dU sd p)).map λw=>((p,w):qZ)).length<=14400:=kH hsd (λx hx=>by rw[ez];exact M6 _ hx) (by rw[ez,A1]at h120;omega)
     generalize hB0:(dn.flatMap λp=>(rQ [[]] (dU sd p)).map λw=>((p,w):qZ))=B0 at hdn ⊢
     have hel:(rQ [[]] (dU sd p)).length<=120:=by
      rw[ZQ]
      have:=hlp.1
      simp
      omega
     with_reducible refine xv rfl ?_
     with_reducible refine FQ (λρ=>ρ=[some (.fz (fQ sd)),some (.ow (.list (B0.map mQ))),some (.fz (fQ p)),some (.ow (.list [.tuple []])),none,none,none,none]) ?_ ?_
     ·intro M2 hM2
      exact hM2 _ rfl
     rintro _ rfl
     with_reducible refine FQ (λρ=>ρ=[some (.fz (fQ sd)),some (.ow (.list (B0.map mQ))),some (.fz (fQ p)),some (.ow (.list ((rQ [[]] (dU sd p)).map fQ))),none,none,none,none]) ?_ ?_
     ·intro M2 hM2
      have hz:=lZ sd p
      refine (?_:GX _ _ _ _ (VY (sd.map u0) (p.map u0)) [some (.fz (fQ sd)),some (.ow (.list (B0.map mQ))),some (.fz (fQ p)),some (.ow (.list [.tuple []])),none,none,none,none])
      rw[hz]
      have hzl:(sd.zip p).length<=3:=by rw[P1];omega
      have hzb:∀q∈sd.zip p,1<=q.1 - q.2/\q.1 - q.2<=120:=λq hq=>Gw hsd hwi q hq
      have hinv:∀p'∈([[]]:List (List Int)),p'.length+(sd.zip p).length<=3:=λp' hp'=>by
       have e:p'=[]:=by simpa using hp'
       rw[e]
       simpa using hzl
      have hec:rQ [[]] ((sd.zip p).map λq=>rng ((gpw (q.1 - q.2):Nat)+1))=rQ [[]] (dU sd p):=rfl
      generalize sd.zip p=zs at hzb hinv hec ⊢
      generalize rQ [[]] (dU sd p)=E at hec hM2 hel
      clear hz hM
      refine LX (λrest ρ=>∃(acc:List (List Int)) (rs:List (Int×Int)),rest=(rs.map λq=>U0 [u0 q.1,u0 q.2])/\(∀q∈rs,1<=q.1 - q.2/\q.1 - q.2<=120)/\rQ acc (rs.map λq=>rng ((gpw (q.1 - q.2):Nat)+1))=E/\(∀p'∈acc,p'.length+rs.length<=3)/\ρ=[some (.fz (fQ sd)),some (.ow (.list (B0.map mQ))),some (.fz (fQ p)),some (.ow (.list (acc.map fQ))),none,none,none,none]) ?_ ?_ ⟨[[]],zs,rfl,hzb,hec,hinv,rfl⟩
      ·rintro d ds ρ ⟨acc,rs,er,hr1,hacc,hl3,rfl⟩ M3 hM3
       cases rs with
       | nil=>cases er
       | cons x rs =>
        cases er
        have hx:=hr1 x O0
        have hrs:∀q∈rs,1<=q.1 - q.2/\q.1 - q.2<=120:=λc hc=>hr1 c (K0 _ hc)
        have hacc':rQ (acc.flatMap λp=>(rng ((gpw (x.1 - x.2):Nat)+1)).map λx=>p++[x]) (rs.map λq=>rng ((gpw (q.1 - q.2):Nat)+1))=E:=hacc
        have hgl:=zW hx.1
        have hlp:=vJ (cs:=rs.map λq=>rng ((gpw (q.1 - q.2):Nat)+1)) λc hc=>by
         obtain⟨x,hx,rfl⟩:=M0.mp hc
         intro z
         have h1:=congrArg L4 z
         rw[TZ,J4]at h1
         omega
        have htot:(acc.flatMap λp=>(rng ((gpw (x.1 - x.2):Nat)+1)).map λx=>p++[x]).length<=120:=by
         have h1:=ZQ (rs.map λq=>rng ((gpw (q.1 - q.2):Nat)+1)) (acc.flatMap λp=>(rng ((gpw (x.1 - x.2):Nat)+1)).map λx=>p++[x])
         rw[hacc']at h1
         have h2:(acc.flatMap λp=>(rng ((gpw (x.1 - x.2):Nat)+1)).map λx=>p++[x]).length<=(acc.flatMap λp=>(rng ((gpw (x.1 - x.2):Nat)+1)).map λx=>p++[x]).length * cZ (rs.map λq=>rng ((gpw (q.1 - q.2):Nat)+1)):=g7 _ hlp
         omega
        refine ⟨rfl,?_⟩
        with_reducible refine dM (ρ':=[some (.fz (fQ sd)),some (.ow (.list (B0.map mQ))),some (.fz (fQ p)),some (.ow (.list (acc.map fQ))),some (.fz (.int x.1)),some (.fz (.int x.2)),none,none]) rfl ?_
        with_reducible refine FQ (λρ=>ρ=[some (.fz (fQ sd)),some (.ow (.list (B0.map mQ))),some (.fz (fQ p)),some (.ow (.list (acc.map fQ))),some (.fz (.int x.1)),some (.fz (.int x.2)),some (.ow (.list [])),none]) ?_ ?_
        ·intro M2 hM2
         exact hM2 _ rfl
        rintro _ rfl
        generalize hG:gpw (x.1 - x.2)=g at hacc' htot hgl
        with_reducible refine FQ (λρ=>ρ=[some (.fz (fQ sd)),some (.ow (.list (B0.map mQ))),some (.fz (fQ p)),some (.fz (.list (acc.map fQ))),some (.fz (.int x.1)),some (.fz (.int x.2)),some (.ow (.list ((acc.flatMap λp=>(rng ((g:Nat)+1)).map λx=>p++[x]).map fQ))),none]) ?_ ?_
        ·intro M4 hM4
         refine LX (λrest ρ=>∃(lg rp:List (List Int)),rest=rp.map fQ/\(lg++rp.flatMap λp=>(rng ((g:Nat)+1)).map λx=>p++[x])=(acc.flatMap λp=>(rng ((g:Nat)+1)).map λx=>p++[x])/\(∀p∈rp,p∈acc)/\ρ=[some (.fz (fQ sd)),some (.ow (.list (B0.map mQ))),some (.fz (fQ p)),some (.fz (.list (acc.map fQ))),some (.fz (.int x.1)),some (.fz (.int x.2)),some (.ow (.list (lg.map fQ))),none]) ?_ ?_ ⟨[],acc,rfl,rfl,λp hp=>hp,rfl⟩
         ·rintro d ds ρ ⟨lg,rp,er,he,hin,rfl⟩ M5 hM5
          cases rp with
          | nil=>cases er
          | cons u rp =>
           cases er
           have hpl:=hl3 u (hin u O0)
           have hl5:lg.length+(rng ((g:Nat)+1)).length<=120:=by
            have:=congrArg L4 he
            rw[A1,T3,A1,A0]at this
            omega
           refine ⟨x.1 - x.2,rfl,hx.1,by omega,λo=>?_⟩
           rw[hG]
           refine ⟨by omega,by omega,by rw[MQ,A0,Y5];exact sQ (by omega),?_⟩
           rw[sW]
           refine XZ (eM u) ?_ ?_
           ·intro d hd N' hN'
            obtain⟨k,_,rfl⟩:=M0.mp hd
            refine ⟨sQ (by simp;simp at hpl;omega),?_⟩
            have e:eM u (.int k)=.tuple (u.map u0++[.int k]):=by
             show fQ (u++[k])=_
             unfold fQ
             rw[W4]
             rfl
            rw[e]at hN'
            exact hN'
           ·have e1:((rng ((g:Nat)+1)).map u0).map (eM u)=((rng ((g:Nat)+1)).map λx=>u++[x]).map fQ:=by
             rw[Q0,Q0]
             rfl
            rw[e1]
            refine ⟨sQ (by simp;omega),hM5 _ ⟨lg++(rng ((g:Nat)+1)).map λx=>u++[x],rp,rfl,by rw[P2,<- he,T3],λp' hp'=>hin p' (K0 _ hp'),?_⟩⟩
            rw[W4]
            rfl
         ·rintro ρ ⟨lg,rp,er,he,hin,rfl⟩
          cases rp with
          | cons _ _=>cases er
          | nil =>
           rw[O7,Q1]at he
           rw[<- he]at hM4
           exact hM4 _ rfl
        rintro _ rfl
        refine hM3 _ ⟨acc.flatMap λp=>(rng ((g:Nat)+1)).map λx=>p++[x],rs,rfl,hrs,hacc',λp hp=>?_,rfl⟩
        obtain⟨p',hp',hx⟩:=P4.mp hp
        obtain⟨x,_,rfl⟩:=M0.mp hx
        have:=hl3 p' hp'
        simp at this ⊢
        omega
      ·rintro ρ ⟨acc,rs,er,hr1,hacc,hl3,rfl⟩
       cases rs with
       | cons _ _=>cases er
       | nil =>
        have hacc:acc=E:=hacc
        rw[<- hacc]at hM2
        exact hM2 _ rfl
     rintro _ rfl
     generalize hE:rQ [[]] (dU sd p)=ws at hel ⊢
     refine ⟨sQ (by rw[A0];omega),XZ (SM p) (λd _ N' hN'=>hN') ?_⟩
     have e1:(ws.map fQ).map (SM p)=(ws.map λw=>((p,w):qZ)).map mQ:=by
      rw[Q0,Q0]
      rfl
     rw[e1]
     refine ⟨lH (by rw[A0,A0,A0];omega),?_⟩
     refine hM _ ⟨dn++[p],rs,by rw[ez];simp,rfl,?_⟩
     rw[B9,hB0]
     simp only[T3,O7,Q1]
     rw[hE,W4]
     rfl
   ·rintro ρ ⟨dn,rs,ez,es,rfl⟩
    cases rs with
    | cons _ _=>cases es
    | nil =>
     rw[Q1]at ez
     unfold NX at hN
     rw[ez]at hN
     exact hN _ rfl
  rintro _ rfl
  refine ⟨NX sd,rfl,lH (by have:=zK hsd;omega),λrows hp hu=>?_⟩
  rw[Nj hp hu]
  exact q _
structure CalsDu(P:Program)(w:World)(K:J0)(mg:Str->Option Value)(base:Heap):Prop where
 law_pieces:Cal P w K mg base 2 "_law_pieces" ["_law_sides_here"] (kQ K iI)
 law_within:Cal P w K mg base 1 "_law_within" ["_law_known","_law_low","_law_high"] (kQ K xY)
noncomputable def fM:Con:=λargs Q=>∃sd cl:List Int,args=[.fz (fQ sd),.fz (xX (qQ sd cl))]/\Sd sd/\cl.length=(nX sd).length/\∀o,Q (.ow (.list ((NX sd).map (zX sd cl)))) o
theorem gM:FnScope ["_law_sides_here","_law_known","_law_found","_law_place","_law_powers","_law_high","_law_some"] ["_law_sides_here","_law_known"] (gQ (top 22)):=⟨rfl,rfl,rfl,by decide +kernel,rfl,by decide +kernel,by decide +kernel⟩
theorem kI{f:Addr}{fd:FuncData}(F:Fun K "_law_due" "_law_due" (top 22) f fd)(T:Txt mg)(C:CalsDu P w K mg base):FnOk P w K mg base VZ 3 f fd ["_law_sides_here","_law_known"] (kQ K fM):=by
 have S:=gM
 refine fY F S (λcdv A outer s H E hr=>(eQ (wQ (i:=2) S.nd rfl (Or.inl rfl) (jX bQ))
     (eQ (RX [3,4,5,6] PassesOwn.never rfl (qX rfl (iZ C.law_pieces (hr.mono (by first|decide|omega)) (aQ (wn 0) bQ))) (UZ rfl rfl (zQ (lQ (i:=3) S.nd rfl (Or.inl rfl)) (zQ (lQ (i:=4) S.nd rfl (Or.inl rfl)) aZ))) (eQ (wQ (i:=5) S.nd rfl (Or.inl rfl) (kX bX (BQ (K:=K) rfl) T.tuple_ boot_tuple (aQ (wx (iX rfl (own:=["_law_number_here","_law_k"]) (fr:=[]) (by kernel_rfl) (KK rfl T.zip_ (aQ (wn 3) (aQ (wn 4) bQ))) (λ_ _ _ _=>(UZ rfl rfl (zQ (lQ (i:=0) (by decide +kernel:T1 (["_law_number_here","_law_k"]:List Str)) rfl (Or.inl rfl)) (zQ (lQ (i:=1) (by decide +kernel:T1 (["_law_number_here","_law_k"]:List Str)) rfl (Or.inl rfl)) aZ)))) (λ_ _ _ _=>HW) (λ_ _ _ _=>(w_bin hX fX (wx (w_bin YQ JQ (wn 0) (wx (w_bin XY AY (wx cQ) (wn 1))))) (wx cQ))))) bQ)))
     (eQ (wQ (i:=6) S.nd rfl (Or.inl rfl) (iZ C.law_within (hr.mono (by first|decide|omega)) (aQ (wn 1) (aQ (wn 3) (aQ (wn 5) bQ)))))
     (pQ (PJ (Mu xJ rfl PySem.F.slot_list_append PySem.F.type_list_append wJ (wn 2) (aQ (wx (AX (aQ (wx (wv 3)) (aQ (wx (wv 4)) (aQ (wx (DQ PV (rK (K:=K) rfl rfl) T.min_ boot_min (aQ (wn 6) bQ))) (aQ (wx (DQ QV (sK (K:=K) rfl rfl) T.max_ boot_max (aQ (wn 6) bQ))) bQ)))))) bQ)))))))
     (pQ (OJ (wn 2)))))) ?_ ?_
 ·rintro args Qd ⟨sd,cl,rfl,_⟩;rfl
 ·rintro args Qd ⟨sd,cl,rfl,hsd,hcl,q⟩
  refine ⟨yQ rfl,?_⟩
  have hl:=zK hsd
  have hm:=hsd.m
  have h3:=hsd.l3
  have hpl:=zJ hsd.p
  with_reducible refine FQ (λρ=>ρ=[some (.fz (fQ sd)),some (.fz (xX (qQ sd cl))),some (.ow (.list [])),none,none,none,none]) ?_ ?_
  ·intro N hN
   exact hN _ rfl
  rintro _ rfl
  with_reducible refine FQ (λρ=>ρ=[some (.fz (fQ sd)),some (.fz (xX (qQ sd cl))),some (.ow (.list ((NX sd).map (zX sd cl)))),none,none,none,none]) ?_ ?_
  ·intro N hN
   refine ⟨sd,rfl,hsd,λo=>?_⟩
   refine (?_:GX _ _ _ _ ((NX sd).map mQ) [some (.fz (fQ sd)),some (.fz (xX (qQ sd cl))),some (.ow (.list [])),none,none,none,none])
   refine LX (λrest ρ=>∃dn rs:List qZ,NX sd=dn++rs/\rest=rs.map mQ/\ρ=[some (.fz (fQ sd)),some (.fz (xX (qQ sd cl))),some (.ow (.list (dn.map (zX sd cl)))),none,none,none,none]) ?_ ?_ ⟨[],NX sd,rfl,rfl,rfl⟩
   ·rintro d ds ρ ⟨dn,rs,ez,es,rfl⟩ M hM
    cases rs with
    | nil=>cases es
    | cons b rs =>
     cases es
     have hb:b∈NX sd:=by rw[ez];simp
     have hp:=pcs_mem.mp hb
     have hpl2:=TK hp
     have hbx:=GJ hp
     have hbl:=wZ hbx
     have hne:=tZ (cl:=cl) hbx
     have h0:0 < (PQ sd cl b.1 (xZ b.1 b.2)).length:=j6.mpr hne
     have hdl:dn.length<=14400:=by rw[ez,A1]at hl;omega
     refine ⟨rfl,?_⟩
     with_reducible refine dM (ρ':=[some (.fz (fQ sd)),some (.fz (xX (qQ sd cl))),some (.ow (.list (dn.map (zX sd cl)))),some (.fz (fQ b.1)),some (.fz (fQ b.2)),none,none]) rfl ?_
     with_reducible refine FQ (λρ=>ρ=[some (.fz (fQ sd)),some (.fz (xX (qQ sd cl))),some (.ow (.list (dn.map (zX sd cl)))),some (.fz (fQ b.1)),some (.fz (fQ b.2)),some (.fz (fQ (xZ b.1 b.2))),none]) ?_ ?_
     ·intro N2 hN2
      have hz:=lZ b.1 b.2
      refine ⟨by rw[hz,A0,P1];exact sQ (by omega),XZ ZB ?_ ?_⟩
      ·intro d hd N' hN'
       rw[hz]at hd
       obtain⟨⟨x,k⟩,hxk,rfl⟩:=M0.mp hd
       obtain⟨g1,s,hs,g2⟩:=eU hp (x,k) hxk
       have hs2:=uX hsd.p s hs
       have hk:=wG g2
       simp only at g1 hk
       refine ⟨rfl,⟨g1,by omega,by decide⟩,?_⟩
       have e:ZB (.tuple [.int x,.int k])=.int (x+1 * 2 ^ k.toNat - 1):=by
        show u0 (x+2 ^ k.toNat - 1)=_
        rw[R7]
       rw[e]at hN'
       exact hN'
      ·have e:(VY (b.1.map u0) (b.2.map u0)).map ZB=(xZ b.1 b.2).map u0:=by
        rw[hz]
        unfold xZ
        rw[Q0,Q0]
        rfl
       rw[e]
       exact hN2 _ rfl
     rintro _ rfl
     with_reducible refine FQ (λρ=>ρ=[some (.fz (fQ sd)),some (.fz (xX (qQ sd cl))),some (.ow (.list (dn.map (zX sd cl)))),some (.fz (fQ b.1)),some (.fz (fQ b.2)),some (.fz (fQ (xZ b.1 b.2))),some (.ow (.list ((PQ sd cl b.1 (xZ b.1 b.2)).map u0)))]) ?_ ?_
     ·intro N2 hN2
      refine ⟨sd,cl,b.1,xZ b.1 b.2,rfl,by omega,by omega,λo=>?_⟩
      rw[vW hsd.p hcl hbx]
      exact hN2 _ rfl
     rintro _ rfl
     refine ⟨PQ sd cl b.1 (xZ b.1 b.2),rfl,h0,λm hm' hmy=>⟨PQ sd cl b.1 (xZ b.1 b.2),rfl,h0,λM2 hM2 hMy=>?_⟩⟩
     rw[wW hm' hmy,xW hM2 hMy]
     refine ⟨W3 (show _<=20000 by rw[A0];omega) (by decide),?_⟩
     refine hM _ ⟨dn++[b],rs,by rw[ez];simp,rfl,?_⟩
     rw[W4]
     rfl
   ·rintro ρ ⟨dn,rs,ez,es,rfl⟩
    cases rs with
    | cons _ _=>cases es
    | nil =>
     rw[Q1]at ez
     rw[<- ez]at *
     exact hN _ rfl
  rintro _ rfl
  exact q _
end
theorem zV(val:Nat->Int):∀i,(firstMet val i).Nodup
 | 0=>by rw[firstMet_zero];exact j7
 | i+1=>by
  rw[firstMet_succ]
  have ih:=zV val i
  unfold step_dedup
  split
  ·exact ih
  ·rename_i h
   rw[F8]
   refine ⟨ih,T5.mpr ⟨by simp,j7⟩,λa ha b hb e=>?_⟩
   rw[Y2]at hb
   subst hb
   subst e
   exact h (M7.mpr ⟨_,ha,by simp⟩)
theorem Hw(ns:List Int)(z:Int):z∈firstMet (λi=>ns.getD i 0) ns.length ↔ z∈ns:=by
 have e:(X2 ns.length).map (λi=>ns.getD i 0)=ns:=by
  refine N7 (by simp) λi h1 h2=>?_
  simp[h2]
 have h:=firstMet_any (λi=>ns.getD i 0) ns.length z
 rw[e]at h
 have t:∀l:List Int,(l.any (·==z))=true ↔ z∈l:=λl=>by simp
 rw[<- t,h,t]
noncomputable def gY(x y:Int):List Int:=if x=y then [x] else [x,y]
theorem stL_mem{x y z:Int}:z∈gY x y ↔ z=x\/z=y:=by
 unfold gY
 by_cases e:x=y
 ·rw[if_pos e];simp[e]
 ·rw[if_neg e];simp
theorem DB{x y:Int}(h:x<=y){ms:List Int}(h1:ms.Perm (firstMet (λi=>[x,y].getD i 0) [x,y].length))(h2:ms.Pairwise (·<=·)):ms=gY x y:=by
 have nd:=h1.nodup_iff.mpr (zV _ _)
 have hl:ms.Pairwise (· < ·):=(h2.and nd).imp λ⟨a,b⟩=>by omega
 have hm:∀z,z∈ms ↔ z∈gY x y:=λz=>by rw[h1.mem_iff,Hw,stL_mem];simp
 have hs:(gY x y).Pairwise (· < ·):=by
  unfold gY
  by_cases e:x=y
  ·rw[if_pos e];exact G2 _ _
  ·rw[if_neg e]
   refine X3.mpr ⟨λz hz=>?_,G2 _ _⟩
   have:z=y:=by simpa using hz
   omega
 have gen:∀{a b:List Int},a.Pairwise (· < ·)->b.Pairwise (· < ·)->(∀z,z∈a ↔ z∈b)->a=b:=by
  intro a
  induction a with
  | nil =>
   intro b _ _ h
   cases b with
   | nil=>rfl
   | cons c b=>exact absurd ((h c).mpr O0) (by simp)
  | cons c a ih =>
   intro b ha hb h
   cases b with
   | nil=>exact absurd ((h c).mp O0) (by simp)
   | cons d b =>
    obtain⟨ha1,ha2⟩:=X3.mp ha
    obtain⟨hb1,hb2⟩:=X3.mp hb
    have e:c=d:=by
     have p1:=(h c).mp O0
     have p2:=(h d).mpr O0
     rcases V0.mp p1 with z|z
     ·exact z
     ·rcases V0.mp p2 with w|w
      ·exact w.symm
      ·have:=hb1 c z;have:=ha1 d w;omega
    subst e
    rw[ih ha2 hb2 λz=>⟨λhz=>?_,λhz=>?_⟩]
    ·rcases V0.mp ((h z).mp (K0 _ hz)) with w|w
     ·have:=ha1 z hz;omega
     ·exact w
    ·rcases V0.mp ((h z).mpr (K0 _ hz)) with w|w
     ·have:=hb1 z hz;omega
     ·exact w
 exact gen hl hs hm
noncomputable def ZZ(lo hi:List Int):List Int:=(lo.zip hi).map λq=>((gpw (q.2 - q.1+1):Nat):Int)
noncomputable def dZ(lo hi:List Int):List (List Int):=(lo.zip hi).map λq=>gY q.1 (q.2+1 - 2 ^ gpw (q.2 - q.1+1))
noncomputable def eZ(lo hi:List Int):List qZ:=(rQ [[]] (dZ lo hi)).map λp=>(p,ZZ lo hi)
theorem AK{n:Int}(h:1<=n):(2:Int) ^ gpw n<=n/\n < 2 * 2 ^ gpw n:=by
 refine ⟨(AJ h _).mp (R0 _),?_⟩
 have h1:¬gpw n+1<=gpw n:=by omega
 rw[AJ h,S9,Int.mul_comm]at h1
 omega
theorem Nv:∀{lo hi sd p:List Int},Bx lo hi sd->kU p (dZ lo hi)->Pc p (ZZ lo hi) sd
 | [],[],[],[],_,_=>trivial
 | x :: lo,y :: hi,s :: sd,z :: p,h,hp=>by
  have hx:=h.1
  obtain⟨g1,g2⟩:=AK (n:=y - x+1) (by omega)
  have hz:=stL_mem.mp hp.1
  simp only at hz
  refine ⟨?_,Nv h.2 hp.2⟩
  have e:((gpw (y - x+1):Nat):Int).toNat=gpw (y - x+1):=by omega
  show 0<=z/\z < s/\0<=((gpw (y - x+1):Nat):Int)/\(2:Int) ^ ((gpw (y - x+1):Nat):Int).toNat<=s - z
  rw[e]
  have h2:=NF (gpw (y - x+1))
  omega
 | [],[],[],_ :: _,_,hp=>hp.elim
 | _ :: _,_ :: _,_ :: _,[],_,hp=>hp.elim
 | [],[],_ :: _,_,h,_=>h.elim
 | [],_ :: _,z,_,h,_=>by cases z<;>exact h.elim
 | _ :: _,[],z,_,h,_=>by cases z<;>exact h.elim
 | _ :: _,_ :: _,[],_,h,_=>h.elim
theorem Pj:∀{lo hi sd p q:List Int},Bx lo hi sd->kU p (dZ lo hi)->kU q ((p.zip (xZ p (ZZ lo hi))).map λr=>ZX r.1 r.2)->kU q ((lo.zip hi).map λr=>ZX r.1 r.2)
 | [],[],[],[],q,_,_,hq=>hq
 | x :: lo,y :: hi,s :: sd,z :: p,q,h,hp,hq=>by
  cases q with
  | nil=>exact hq.elim
  | cons u q =>
   have hx:=h.1
   obtain⟨g1,g2⟩:=AK (n:=y - x+1) (by omega)
   have hz:=stL_mem.mp hp.1
   simp only at hz
   have e:((gpw (y - x+1):Nat):Int).toNat=gpw (y - x+1):=by omega
   have hu:u∈ZX z (z+2 ^ ((gpw (y - x+1):Nat):Int).toNat - 1):=hq.1
   rw[e]at hu
   have hu:=rng2_mem.mp hu
   exact ⟨rng2_mem.mpr (by simp only;omega),Pj h.2 hp.2 hq.2⟩
 | [],[],[],_ :: _,_,_,hp,_=>hp.elim
 | _ :: _,_ :: _,_ :: _,[],_,_,hp,_=>hp.elim
 | [],[],_ :: _,_,_,h,_,_=>h.elim
 | [],_ :: _,z,_,_,h,_,_=>by cases z<;>exact h.elim
 | _ :: _,[],z,_,_,h,_,_=>by cases z<;>exact h.elim
 | _ :: _,_ :: _,[],_,_,h,_,_=>h.elim
theorem yG:∀{lo hi sd q:List Int},Bx lo hi sd->kU q ((lo.zip hi).map λr=>ZX r.1 r.2)->∃p,kU p (dZ lo hi)/\kU q ((p.zip (xZ p (ZZ lo hi))).map λr=>ZX r.1 r.2)
 | [],[],[],q,_,hq=>⟨[],trivial,hq⟩
 | x :: lo,y :: hi,s :: sd,q,h,hq=>by
  cases q with
  | nil=>exact hq.elim
  | cons u q =>
   have hx:=h.1
   obtain⟨g1,g2⟩:=AK (n:=y - x+1) (by omega)
   have e:((gpw (y - x+1):Nat):Int).toNat=gpw (y - x+1):=by omega
   have hu:u∈ZX x y:=hq.1
   have hu:=rng2_mem.mp hu
   obtain⟨p,hp,hpq⟩:=yG h.2 hq.2
   by_cases c:u<=x+2 ^ gpw (y - x+1) - 1
   ·refine ⟨x :: p,⟨stL_mem.mpr (.inl rfl),hp⟩,⟨?_,hpq⟩⟩
    show u∈ZX x (x+2 ^ ((gpw (y - x+1):Nat):Int).toNat - 1)
    rw[e]
    exact rng2_mem.mpr ⟨hu.1,c⟩
   ·refine ⟨(y+1 - 2 ^ gpw (y - x+1)) :: p,⟨stL_mem.mpr (.inr rfl),hp⟩,⟨?_,hpq⟩⟩
    show u∈ZX (y+1 - 2 ^ gpw (y - x+1)) (y+1 - 2 ^ gpw (y - x+1)+2 ^ ((gpw (y - x+1):Nat):Int).toNat - 1)
    rw[e]
    exact rng2_mem.mpr (by omega)
 | [],[],_ :: _,_,h,_=>h.elim
 | [],_ :: _,z,_,h,_=>by cases z<;>exact h.elim
 | _ :: _,[],z,_,h,_=>by cases z<;>exact h.elim
 | _ :: _,_ :: _,[],_,h,_=>h.elim
theorem TX{lo hi sd:List Int}(h:Bx lo hi sd){b:qZ}(hb:b∈eZ lo hi):Pc b.1 b.2 sd:=by
 obtain⟨p,hp,rfl⟩:=M0.mp hb
 exact Nv h (UQ hp)
theorem yY{lo hi sd cl:List Int}(h:Bx lo hi sd){x:Int}:x∈PQ sd cl lo hi ↔ ∃b∈eZ lo hi,x∈PQ sd cl b.1 (xZ b.1 b.2):=by
 constructor
 ·intro hx
  obtain⟨q,hq,rfl⟩:=M0.mp hx
  obtain⟨p,hp,hpq⟩:=yG h (UQ hq)
  exact ⟨(p,ZZ lo hi),M0.mpr ⟨p,vX (a:=[]) (by simp) hp,rfl⟩,M0.mpr ⟨q,vX (a:=[]) (by simp) hpq,rfl⟩⟩
 ·rintro⟨b,hb,hx⟩
  obtain⟨p,hp,rfl⟩:=M0.mp hb
  obtain⟨q,hq,rfl⟩:=M0.mp hx
  exact M0.mpr ⟨q,vX (a:=[]) (by simp) (Pj h (UQ hp) (UQ hq)),rfl⟩
theorem BW(lo hi:List Int):∀c∈dZ lo hi,c≠[]/\c.length<=2:=λc hc=>by
 obtain⟨q,_,rfl⟩:=M0.mp hc
 unfold gY
 split
 ·exact ⟨by simp,by simp⟩
 ·exact ⟨by simp,by simp⟩
theorem Qj(lo hi:List Int):eZ lo hi≠[]:=λz=>by
 have h:=congrArg L4 z
 unfold eZ at h
 rw[A0,ZQ]at h
 have:=vJ (cs:=dZ lo hi) λc hc=>(BW lo hi c hc).1
 simp at h
 omega
theorem lI{lo hi sd cl:List Int}(h:Bx lo hi sd):ZJ ((eZ lo hi).map λb=>ZJ (PQ sd cl b.1 (xZ b.1 b.2)))=ZJ (PQ sd cl lo hi)/\aK ((eZ lo hi).map λb=>aK (PQ sd cl b.1 (xZ b.1 b.2)))=aK (PQ sd cl lo hi):=by
 have hne:(eZ lo hi).map (λb=>ZJ (PQ sd cl b.1 (xZ b.1 b.2)))≠[]:=λz=>Qj lo hi (m6.mp z)
 have hnx:(eZ lo hi).map (λb=>aK (PQ sd cl b.1 (xZ b.1 b.2)))≠[]:=λz=>Qj lo hi (m6.mp z)
 constructor
 ·refine wW ?_ λy hy=>?_
  ·obtain⟨b,hb,e⟩:=M0.mp (oZ hne).1
   rw[<- e]
   exact (yY h).mpr ⟨b,hb,(oZ (tZ (GJ (TX h hb)))).1⟩
  ·obtain⟨b,hb,hy⟩:=(yY h).mp hy
   have h1:=(oZ (tZ (cl:=cl) (GJ (TX h hb)))).2 y hy
   have h2:=(oZ hne).2 _ (M0.mpr ⟨b,hb,rfl⟩)
   omega
 ·refine xW ?_ λy hy=>?_
  ·obtain⟨b,hb,e⟩:=M0.mp (pZ hnx).1
   rw[<- e]
   exact (yY h).mpr ⟨b,hb,(pZ (tZ (GJ (TX h hb)))).1⟩
  ·obtain⟨b,hb,hy⟩:=(yY h).mp hy
   have h1:=(pZ (tZ (cl:=cl) (GJ (TX h hb)))).2 y hy
   have h2:=(pZ hnx).2 _ (M0.mpr ⟨b,hb,rfl⟩)
   omega
theorem mI{L:List qZ}(hl:L.Pairwise λa b=>YZ a b=true){t:Nat}{b:qZ}(hb:L[t]?=some b){m:Nat}{c:qZ}(hc:L[m]?=some c):YZ c b=decide (m < t):=by
 obtain⟨h1,e1⟩:=K1.mp hb
 obtain⟨h2,e2⟩:=K1.mp hc
 have hp:=S2.mp hl
 by_cases q:m < t
 ·rw[decide_eq_true q,<- e1,<- e2]
  exact hp m t h2 h1 q
 ·rw[decide_eq_false q]
  by_cases q2:m=t
  ·subst q2
   rw[e1]at e2
   rw[<- e2]
   exact ltB_wk.irr b
  ·have h3:=hp t m h1 h2 (by omega)
   rw[e1,e2]at h3
   cases h4:YZ c b with
   | false=>rfl
   | true =>
    have:=ltB_wk.tr _ _ _ h3 h4
    rw[ltB_wk.irr]at this
    cases this
noncomputable def lL:PyData->PyData
 | .tuple [.int x,.int y]=>.int (gpw (y - x+1):Nat)
 | _=>.none
noncomputable def TM:PyData->PyData
 | .tuple [.int x,.int y,.int k]=>.list ((gY x (y+1 - 2 ^ k.toNat)).map u0)
 | _=>.none
noncomputable def UM:PyData->PyData
 | .tuple [_,_,c,d]=>.tuple [c,d]
 | _=>.none
theorem Rj:∀lo hi:List Int,lo.zip (hi.zip (ZZ lo hi))=(lo.zip hi).map λq=>(q.1,q.2,((gpw (q.2 - q.1+1):Nat):Int))
 | [],_=>by simp
 | _ :: _,[]=>by simp
 | x :: lo,y :: hi=>by
  have ih:=Rj lo hi
  show (x,y,((gpw (y - x+1):Nat):Int)) :: lo.zip (hi.zip (ZZ lo hi))=_
  rw[ih]
  rfl
theorem CW{cs:List (List Int)}(h:∀c∈cs,c.length<=2):cZ cs<=2 ^ cs.length:=by
 induction cs with
 | nil=>exact R0 _
 | cons c cs ih =>
  have h1:=h c O0
  have h2:=ih λd hd=>h d (K0 _ hd)
  show c.length * cZ cs<=2 ^ (cs.length+1)
  rw[Nat.pow_succ,Nat.mul_comm (2 ^ cs.length)]
  exact Nat.mul_le_mul h1 h2
theorem Sj(cs:List (List Int)):cZ (cs.map (N5 u0))=cZ cs:=by
 induction cs with
 | nil=>rfl
 | cons c cs ih=>show (c.map u0).length * _=c.length * _;rw[ih,A0]
theorem DW{lo hi sd:List Int}(hs:Sd sd)(h:Bx lo hi sd):(dZ lo hi).length<=3/\cZ (dZ lo hi)<=8/\(eZ lo hi).length<=8:=by
 have h3:=hs.l3
 have hbl:=wZ h
 have e:(dZ lo hi).length<=3:=by unfold dZ;rw[A0,P1];omega
 have h1:=CW λc hc=>(BW lo hi c hc).2
 have h2:2 ^ (dZ lo hi).length<=2 ^ 3:=u9 (by decide) e
 have h4:cZ (dZ lo hi)<=8:=by omega
 refine ⟨e,h4,?_⟩
 unfold eZ
 rw[A0,ZQ]
 simp
 exact h4
noncomputable def iM(kw:List Int):PyData->PyData
 | d=>.tuple [d,fQ kw]
section
variable {P:Program}{w:World}{K:J0}{mg:Str->Option Value}{base:Heap}
noncomputable def VM:Con:=λargs Q=>∃(sd cl:List Int) (b:qZ),args=[.fz (.list ((NX sd).map (zX sd cl))),.fz (mQ b)]/\Sd sd/\Pc b.1 b.2 sd/\∀o,Q (.fz (zX sd cl b)) o
theorem jM:FnScope ["table","key","low","high","middle"] ["table","key"] (gQ (top 2)):=⟨rfl,rfl,rfl,by decide +kernel,rfl,by decide +kernel,by decide +kernel⟩
theorem oI{f:Addr}{fd:FuncData}(F:Fun K "entry_at" "entry_at" (top 2) f fd)(T:Txt mg):FnOk P w K mg base VZ 1 f fd ["table","key"] (kQ K VM):=by
 have S:=jM
 refine fY F S (λcdv A outer s H E hr=>(eQ (wQ (i:=2) S.nd rfl (Or.inl rfl) cQ)
     (eQ (wQ (i:=3) S.nd rfl (Or.inl rfl) (w_bin hX fX (wx (DQ lJ (HX (K:=K) rfl) T.len_ PySem.boot_len (aQ (wn 0) bQ))) (wx cQ)))
     (eQ (fF PassesOwn.never (EX DU nU (wn 2) (wn 3)) (eQ (wQ (i:=4) S.nd rfl (Or.inl rfl) (w_bin nY iY (wx (w_bin YQ JQ (wn 2) (wn 3))) (wx cQ)))
     (pQ (BJ (EX lB (jB (UH hr)) (wx (dX rfl (wn 0) (wn 4))) (wn 1)) (pQ (wQ (i:=2) S.nd rfl (Or.inl rfl) (w_bin YQ JQ (wn 4) (wx cQ)))) (pQ (ZY (i:=3) S.nd rfl (Or.inl rfl) (wn 4)))))))
     (pQ (XQ (dX rfl (wn 0) (wn 2)))))))) ?_ ?_
 ·rintro args Qd ⟨sd,cl,b,rfl,_⟩;rfl
 ·rintro args Qd ⟨sd,cl,b,rfl,hsd,hb,q⟩
  refine ⟨yQ rfl,?_⟩
  have hn:=zK hsd
  obtain⟨t,ht,et⟩:=e6.mp (pcs_mem.mpr hb)
  have hbt:(NX sd)[t]?=some b:=by rw[P0 ht,et]
  have hlt:=Mj sd
  generalize NX sd=L at hn ht et hbt hlt ⊢
  have hat:∀{m:Nat},m < L.length->∃c,L[m]?=some c/\GW (L.map (zX sd cl)) (m:Int)=some (zX sd cl c):=λ{m} hm=>⟨L[m],P0 hm,fK (by rw[X0,P0 hm];rfl)⟩
  have hlen:(L.map (zX sd cl)).length=L.length:=A0 _
  with_reducible refine FQ (λρ=>ρ=[some (.fz (.list (L.map (zX sd cl)))),some (.fz (mQ b)),some (.fz (.int 0)),none,none]) ?_ ?_
  ·intro N hN
   exact hN _ rfl
  rintro _ rfl
  with_reducible refine FQ (λρ=>ρ=[some (.fz (.list (L.map (zX sd cl)))),some (.fz (mQ b)),some (.fz (.int 0)),some (.fz (.int ((L.length:Int) - 1))),none]) ?_ ?_
  ·intro N hN
   rw[<- hlen]at hN
   exact hN _ rfl
  rintro _ rfl
  with_reducible refine FQ (λρ=>∃mo:Option Sl,ρ=[some (.fz (.list (L.map (zX sd cl)))),some (.fz (mQ b)),some (.fz (.int (t:Nat))),some (.fz (.int (t:Nat))),mo]) ?_ ?_
  ·intro N hN
   refine ⟨λm ρ=>∃(lo hi:Nat) (mo:Option Sl),(mo=none\/∃d,mo=some (.fz d))/\lo<=t/\t<=hi/\hi < L.length/\m=hi - lo/\ρ=[some (.fz (.list (L.map (zX sd cl)))),some (.fz (mQ b)),some (.fz (.int (lo:Nat))),some (.fz (.int (hi:Nat))),mo],⟨L.length - 1,0,L.length - 1,none,.inl rfl,Q3 _,by omega,by omega,rfl,?_⟩,?_⟩
   ·rw[show ((L.length - 1:Nat):Int)=(L.length:Int) - 1 by omega]
    rfl
   rintro m ρ ⟨lo,hi,mo,hmo,h1,h2,h3,rfl,rfl⟩
   refine mZ (λh=>?_) (λh=>?_)
   ·have h:(lo:Int) < (hi:Int):=of_decide_eq_true h
    refine ⟨λρ=>∃(lo' hi':Nat) (d:PyData),hi' - lo' < hi - lo/\lo'<=t/\t<=hi'/\hi' < L.length/\ρ=[some (.fz (.list (L.map (zX sd cl)))),some (.fz (mQ b)),some (.fz (.int (lo':Nat))),some (.fz (.int (hi':Nat))),some (.fz d)],?_,?_⟩
    ·rintro ρ' ⟨lo',hi',d,k1,k2,k3,k4,rfl⟩
     exact ⟨hi' - lo',k1,lo',hi',some (.fz d),.inr ⟨d,rfl⟩,k2,k3,k4,rfl,rfl⟩
    have em:((lo:Int)+(hi:Int)) / 2=(((lo+hi) / 2:Nat):Int):=by omega
    have hmid:(lo+hi) / 2 < L.length:=by omega
    obtain⟨c,hc,hac⟩:=hat hmid
    have hltc:=mI hlt hbt hc
    with_reducible refine FQ (λρ=>ρ=[some (.fz (.list (L.map (zX sd cl)))),some (.fz (mQ b)),some (.fz (.int (lo:Nat))),some (.fz (.int (hi:Nat))),some (.fz (.int (((lo+hi) / 2:Nat):Int)))]) ?_ ?_
    ·intro N2 hN2
     rw[<- em]at hN2
     rcases hmo with rfl|⟨d,rfl⟩
     ·exact ⟨⟨by decide,by decide⟩,hN2 _ rfl⟩
     ·exact ⟨⟨by decide,by decide⟩,hN2 _ rfl⟩
    rintro _ rfl
    refine ⟨_,hac,c,b,.inl ⟨_,rfl,rfl⟩,?_⟩
    refine mZ (λh5=>?_) (λh5=>?_)
    ·have h5:YZ c b=true:=h5
     rw[hltc]at h5
     have h5:=of_decide_eq_true h5
     exact ⟨(lo+hi) / 2+1,hi,_,by omega,by omega,h2,h3,by rw[show (((lo+hi) / 2+1:Nat):Int)=(((lo+hi) / 2:Nat):Int)+1 by omega];rfl⟩
    ·have h5:¬YZ c b=true:=h5
     rw[hltc]at h5
     have h5:¬(lo+hi) / 2 < t:=λz=>h5 (decide_eq_true z)
     exact ⟨lo,(lo+hi) / 2,_,by omega,h1,by omega,by omega,rfl⟩
   ·have h:¬(lo:Int) < (hi:Int):=λz=>h (decide_eq_true z)
    have e1:lo=t:=by omega
    have e2:hi=t:=by omega
    subst e1
    subst e2
    exact hN _ ⟨mo,rfl⟩
  rintro _ ⟨mo,rfl⟩
  obtain⟨c,hc,hac⟩:=hat ht
  have ec:c=b:=by rw[hbt]at hc;injection hc with hc;exact hc.symm
  subst ec
  exact ⟨_,hac,q _⟩
structure CalsSt(P:Program)(w:World)(K:J0)(mg:Str->Option Value)(base:Heap):Prop where
 two_to:Cal P w K mg base 1 "two_to" ["power"] (kQ K QM)
noncomputable def WM:Con:=λargs Q=>∃x y k:Int,args=[.fz (.int x),.fz (.int y),.fz (.int k)]/\0<=k/\k<=1000/\x<=y+1 - 2 ^ k.toNat/\∀o,Q (.ow (.list ((gY x (y+1 - 2 ^ k.toNat)).map u0))) o
theorem kM:FnScope ["first","last","power"] ["first","last","power"] (gQ (top 8)):=⟨rfl,rfl,rfl,by decide +kernel,rfl,by decide +kernel,by decide +kernel⟩
theorem pI{f:Addr}{fd:FuncData}(F:Fun K "starts" "starts" (top 8) f fd)(T:Txt mg)(C:CalsSt P w K mg base):FnOk P w K mg base VZ 2 f fd ["first","last","power"] (kQ K WM):=by
 have S:=kM
 refine fY F S (λcdv A outer s H E hr=>(pQ (XQ (PD rfl rfl T.sorted_ T.set_ (aQ (wx (jX (aQ (wx (wv 0)) (aQ (wx (w_bin YQ JQ (wx (w_bin hX fX (wn 1) (wx (iZ C.two_to (hr.mono (by first|decide|omega)) (aQ (wn 2) bQ))))) (wx cQ))) bQ)))) bQ))))) ?_ ?_
 ·rintro args Qd ⟨x,y,k,rfl,_⟩;rfl
 ·rintro args Qd ⟨x,y,k,rfl,k0,k1,hxy,q⟩
  refine ⟨yQ rfl,?_⟩
  refine ⟨k,rfl,k0,k1,λo=>?_⟩
  refine ⟨[x,y - 2 ^ k.toNat+1],rfl,by show (2:Nat)+1 < scanBound;decide,λms h1 h2=>?_⟩
  have e:y - 2 ^ k.toNat+1=y+1 - 2 ^ k.toNat:=by omega
  rw[e]at h1
  rw[DB hxy h1 h2]
  exact q _
structure CalsMb(P:Program)(w:World)(K:J0)(mg:Str->Option Value)(base:Heap):Prop where
 greatest_power:Cal P w K mg base 1 "greatest_power" ["length"] (kQ K RM)
 starts:Cal P w K mg base 2 "starts" ["first","last","power"] (kQ K WM)
 one_of_each:Cal P w K mg base 1 "one_of_each" ["choices"] (kQ K wj)
noncomputable def mM:Con:=λargs Q=>∃sd lo hi:List Int,args=[.fz (fQ sd),.fz (mQ (lo,hi))]/\Sd sd/\Bx lo hi sd/\∀o,Q (.ow (.list ((eZ lo hi).map mQ))) o
theorem oM:FnScope ["sides","box","powers","choices"] ["sides","box"] (gQ (top 7)):=⟨rfl,rfl,rfl,by decide +kernel,rfl,by decide +kernel,by decide +kernel⟩
theorem qI{f:Addr}{fd:FuncData}(F:Fun K "met_by" "met_by" (top 7) f fd)(T:Txt mg)(C:CalsMb P w K mg base):FnOk P w K mg base VZ 3 f fd ["sides","box"] (kQ K mM):=by
 have S:=oM
 refine fY F S (λcdv A outer s H E hr=>(eQ (wQ (i:=2) S.nd rfl (Or.inr rfl) (kX bX (BQ (K:=K) rfl) T.tuple_ boot_tuple (aQ (wx (iX rfl (own:=["first","last"]) (fr:=[]) (by kernel_rfl) (KK rfl T.zip_ (aQ (wx (dX rfl (wn 1) (wx cQ))) (aQ (wx (dX rfl (wn 1) (wx cQ))) bQ))) (λ_ _ _ _=>(UZ rfl rfl (zQ (lQ (i:=0) (by decide +kernel:T1 (["first","last"]:List Str)) rfl (Or.inl rfl)) (zQ (lQ (i:=1) (by decide +kernel:T1 (["first","last"]:List Str)) rfl (Or.inl rfl)) aZ)))) (λ_ _ _ _=>HW) (λ_ _ _ _=>(iZ C.greatest_power (hr.mono (by first|decide|omega)) (aQ (wx (w_bin YQ JQ (wx (w_bin hX fX (wn 1) (wn 0))) (wx cQ))) bQ))))) bQ)))
     (eQ (NV (i:=3) S.nd rfl rfl rfl (own:=["first","last","power"]) (fr:=[]) (by kernel_rfl) (QH rfl T.zip_ (aQ (wx (dX rfl (wn 1) (wx cQ))) (aQ (wx (dX rfl (wn 1) (wx cQ))) (aQ (wn 2) bQ)))) (λ_ _ _ _=>(UZ rfl rfl (zQ (lQ (i:=0) (by decide +kernel:T1 (["first","last","power"]:List Str)) rfl (Or.inl rfl)) (zQ (lQ (i:=1) (by decide +kernel:T1 (["first","last","power"]:List Str)) rfl (Or.inl rfl)) (zQ (lQ (i:=2) (by decide +kernel:T1 (["first","last","power"]:List Str)) rfl (Or.inl rfl)) aZ))))) (λ_ _ _ _=>HW) (λ_ _ _ _=>(iZ C.starts (hr.mono (by first|decide|omega)) (aQ (wn 0) (aQ (wn 1) (aQ (wn 2) bQ))))))
     (pQ (XQ (iX rfl (own:=["place"]) (fr:=[2]) (by kernel_rfl) (qX rfl (iZ C.one_of_each (hr.mono (by first|decide|omega)) (aQ (wx (wv 3)) bQ))) (λ_ _ _ _=>(lQ (i:=0) (by decide +kernel:T1 (["place","powers"]:List Str)) rfl (Or.inl rfl))) (λ_ _ _ _=>HW) (λ_ _ _ _=>(AX (aQ (wx (wv 0)) (aQ (wx (wv 1)) bQ)))))))))) ?_ ?_
 ·rintro args Qd ⟨sd,lo,hi,rfl,_⟩;rfl
 ·rintro args Qd ⟨sd,lo,hi,rfl,hsd,hbx,q⟩
  refine ⟨yQ rfl,?_⟩
  have h3:=hsd.l3
  have hm:=hsd.m
  have hbl:=wZ hbx
  have hpr:=wY hbx
  with_reducible refine FQ (λρ=>ρ=[some (.fz (fQ sd)),some (.fz (mQ (lo,hi))),some (.fz (fQ (ZZ lo hi))),none]) ?_ ?_
  ·intro N hN
   have hz:=lZ lo hi
   refine ⟨_,rfl,_,rfl,by rw[hz,A0,P1];exact sQ (by omega),XZ lL ?_ ?_⟩
   ·intro d hd N' hN'
    rw[hz]at hd
    obtain⟨⟨x,y⟩,hxy,rfl⟩:=M0.mp hd
    obtain⟨p1,p2,s,hs,p3⟩:=hpr (x,y) hxy
    simp only at p1 p2 p3
    exact ⟨rfl,y - x+1,rfl,by omega,λo=>hN'⟩
   ·have e:(VY (lo.map u0) (hi.map u0)).map lL=(ZZ lo hi).map u0:=by
     rw[hz]
     unfold ZZ
     rw[Q0,Q0]
     rfl
    rw[e]
    exact hN _ rfl
  rintro _ rfl
  with_reducible refine FQ (λρ=>ρ=[some (.fz (fQ sd)),some (.fz (mQ (lo,hi))),some (.fz (fQ (ZZ lo hi))),some (.ow (.list (((dZ lo hi).map (N5 u0)).map E1)))]) ?_ ?_
  ·intro N hN
   have hz:=SK lo hi (ZZ lo hi)
   rw[Rj,Q0]at hz
   refine ⟨_,rfl,_,rfl,by rw[hz,A0,P1];exact sQ (by omega),XZ TM ?_ ?_⟩
   ·intro d hd N' hN'
    rw[hz]at hd
    obtain⟨⟨x,y⟩,hxy,rfl⟩:=M0.mp hd
    obtain⟨p1,p2,s,hs,p3⟩:=hpr (x,y) hxy
    have hs2:=uX hsd.p s hs
    simp only at p1 p2 p3
    have hg:=zW (n:=y - x+1) (by omega)
    obtain⟨g1,g2⟩:=AK (n:=y - x+1) (by omega)
    have e:((gpw (y - x+1):Nat):Int).toNat=gpw (y - x+1):=by omega
    exact ⟨rfl,x,y,((gpw (y - x+1):Nat):Int),rfl,by omega,by omega,by rw[e];omega,λo=>hN'⟩
   ·have e:(WY (lo.map u0) (hi.map u0) ((ZZ lo hi).map u0)).map TM=((dZ lo hi).map (N5 u0)).map E1:=by
     rw[hz]
     unfold dZ
     rw[Q0,Q0,Q0]
     refine V4 λq _=>?_
     show E1 ((gY q.1 (q.2+1 - 2 ^ ((gpw (q.2 - q.1+1):Nat):Int).toNat)).map u0)=_
     rw[show ((gpw (q.2 - q.1+1):Nat):Int).toNat=gpw (q.2 - q.1+1) by omega]
     rfl
    rw[e]
    exact hN _ rfl
  rintro _ rfl
  obtain⟨m1,m2,m3⟩:=DW hsd hbx
  refine ⟨(dZ lo hi).map (N5 u0),rfl,λc hc=>?_,by rw[Sj];omega,by rw[A0];omega,λo=>?_⟩
  ·obtain⟨c',hc',rfl⟩:=M0.mp hc
   intro z
   exact (BW lo hi c' hc').1 (m6.mp z)
  have e1:(rQ [[]] ((dZ lo hi).map (N5 u0))).map U0=(rQ [[]] (dZ lo hi)).map fQ:=by
   have:=xV u0 (dZ lo hi) [[]]
   have e:([[]]:List (List Int)).map (N5 u0)=[[]]:=rfl
   rw[e]at this
   rw[<- this,Q0]
   rfl
  have m4:(rQ [[]] (dZ lo hi)).length<=8:=by rw[ZQ];simp;exact m2
  rw[e1]
  refine ⟨sQ (by rw[A0];omega),XZ (iM (ZZ lo hi)) (λd _ N' hN'=>hN') ?_⟩
  have e2:((rQ [[]] (dZ lo hi)).map fQ).map (iM (ZZ lo hi))=(eZ lo hi).map mQ:=by
   unfold eZ
   rw[Q0,Q0]
   rfl
  rw[e2]
  exact q _
noncomputable def XM:Con:=λargs Q=>∃es:List (Int×Int),args=[.fz (.list (es.map λe=>fQ [e.1,e.2]))]/\es≠[]/\es.length<=1000/\∀o,Q (.fz (fQ [ZJ (es.map λe=>e.1),aK (es.map λe=>e.2)])) o
noncomputable def YM:PyData->PyData
 | .tuple [a,_]=>a
 | _=>.none
noncomputable def ZM:PyData->PyData
 | .tuple [_,b]=>b
 | _=>.none
theorem pM:FnScope ["parts"] ["parts"] (gQ (top 6)):=⟨rfl,rfl,rfl,by decide +kernel,rfl,by decide +kernel,by decide +kernel⟩
theorem sI{f:Addr}{fd:FuncData}(F:Fun K "put_together" "put_together" (top 6) f fd)(T:Txt mg):FnOk P w K mg base VZ 1 f fd ["parts"] (kQ K XM):=by
 have S:=pM
 refine fY F S (λcdv A outer s H E hr=>(pQ (XQ (AX (aQ (wx (DQ PV (rK (K:=K) rfl rfl) T.min_ boot_min (aQ (wx (iX rfl (own:=["part"]) (fr:=[]) (by kernel_rfl) (qX rfl (wv 0)) (λ_ _ _ _=>(lQ (i:=0) (by decide +kernel:T1 (["part"]:List Str)) rfl (Or.inl rfl))) (λ_ _ _ _=>HW) (λ_ _ _ _=>(dX rfl (wn 0) (wx cQ))))) bQ))) (aQ (wx (DQ QV (sK (K:=K) rfl rfl) T.max_ boot_max (aQ (wx (iX rfl (own:=["part"]) (fr:=[]) (by kernel_rfl) (qX rfl (wv 0)) (λ_ _ _ _=>(lQ (i:=0) (by decide +kernel:T1 (["part"]:List Str)) rfl (Or.inl rfl))) (λ_ _ _ _=>HW) (λ_ _ _ _=>(dX rfl (wn 0) (wx cQ))))) bQ))) bQ)))))) ?_ ?_
 ·rintro args Qd ⟨es,rfl,_⟩;rfl
 ·rintro args Qd ⟨es,rfl,hne,hl,q⟩
  refine ⟨yQ rfl,?_⟩
  have h0:0 < es.length:=j6.mpr hne
  refine ⟨sQ (by rw[A0];omega),XZ YM ?_ ?_⟩
  ·intro d hd N hN
   obtain⟨e,_,rfl⟩:=M0.mp hd
   exact ⟨_,rfl,hN⟩
  have e1:(es.map λe=>fQ [e.1,e.2]).map YM=(es.map λe=>e.1).map u0:=by rw[Q0,Q0];rfl
  have e2:(es.map λe=>fQ [e.1,e.2]).map ZM=(es.map λe=>e.2).map u0:=by rw[Q0,Q0];rfl
  rw[e1]
  refine ⟨es.map λe=>e.1,rfl,by rw[A0];exact h0,λm hm hmy=>?_⟩
  refine ⟨sQ (by rw[A0];omega),XZ ZM ?_ ?_⟩
  ·intro d hd N hN
   obtain⟨e,_,rfl⟩:=M0.mp hd
   exact ⟨_,rfl,hN⟩
  rw[e2]
  refine ⟨es.map λe=>e.2,rfl,by rw[A0];exact h0,λM hM hMy=>?_⟩
  rw[wW hm hmy,xW hM hMy]
  exact q _
structure CalsBp(P:Program)(w:World)(K:J0)(mg:Str->Option Value)(base:Heap):Prop where
 met_by:Cal P w K mg base 3 "met_by" ["sides","box"] (kQ K mM)
 entry_at:Cal P w K mg base 1 "entry_at" ["table","key"] (kQ K VM)
 put_together:Cal P w K mg base 1 "put_together" ["parts"] (kQ K XM)
noncomputable def qM:Con:=λargs Q=>∃sd cl lo hi:List Int,args=[.fz (fQ sd),.fz (.list ((NX sd).map (zX sd cl))),.fz (mQ (lo,hi))]/\Sd sd/\Bx lo hi sd/\∀o,Q (.fz (fQ [ZJ (PQ sd cl lo hi),aK (PQ sd cl lo hi)])) o
theorem rM:FnScope ["sides","table","box","entries"] ["sides","table","box"] (gQ (top 9)):=⟨rfl,rfl,rfl,by decide +kernel,rfl,by decide +kernel,by decide +kernel⟩
theorem uI{f:Addr}{fd:FuncData}(F:Fun K "by_powers" "by_powers" (top 9) f fd)(T:Txt mg)(C:CalsBp P w K mg base):FnOk P w K mg base VZ 4 f fd ["sides","table","box"] (kQ K qM):=by
 have S:=rM
 refine fY F S (λcdv A outer s H E hr=>(eQ (NV (i:=3) S.nd rfl rfl rfl (own:=["piece"]) (fr:=[1]) (by kernel_rfl) (qX rfl (iZ C.met_by (hr.mono (by first|decide|omega)) (aQ (wn 0) (aQ (wn 2) bQ)))) (λ_ _ _ _=>(lQ (i:=0) (by decide +kernel:T1 (["piece","table"]:List Str)) rfl (Or.inl rfl))) (λ_ _ _ _=>HW) (λ_ _ _ _=>(iZ C.entry_at (hr.mono (by first|decide|omega)) (aQ (wn 1) (aQ (wn 0) bQ)))))
     (pQ (XQ (iZ C.put_together (hr.mono (by first|decide|omega)) (aQ (wx (iX rfl (own:=["entry"]) (fr:=[]) (by kernel_rfl) (qX rfl (wv 3)) (λ_ _ _ _=>(lQ (i:=0) (by decide +kernel:T1 (["entry"]:List Str)) rfl (Or.inl rfl))) (λ_ _ _ _=>HW) (λ_ _ _ _=>(AX (aQ (wx (dX rfl (wn 0) (wx cQ))) (aQ (wx (dX rfl (wn 0) (wx cQ))) bQ)))))) bQ)))))) ?_ ?_
 ·rintro args Qd ⟨sd,cl,lo,hi,rfl,_⟩;rfl
 ·rintro args Qd ⟨sd,cl,lo,hi,rfl,hsd,hbx,q⟩
  refine ⟨yQ rfl,?_⟩
  obtain⟨_,_,m3⟩:=DW hsd hbx
  obtain⟨mm1,mm2⟩:=lI (cl:=cl) hbx
  with_reducible refine FQ (λρ=>ρ=[some (.fz (fQ sd)),some (.fz (.list ((NX sd).map (zX sd cl)))),some (.fz (mQ (lo,hi))),some (.ow (.list ((eZ lo hi).map (zX sd cl))))]) ?_ ?_
  ·intro N hN
   refine ⟨sd,lo,hi,rfl,hsd,hbx,λo=>⟨sQ (by rw[A0];omega),XZ (aM sd cl) ?_ ?_⟩⟩
   ·intro d hd N' hN'
    obtain⟨b,hb,rfl⟩:=M0.mp hd
    rw[Oj]at hN'
    exact ⟨sd,cl,b,rfl,hsd,TX hbx hb,λo=>hN'⟩
   ·have e:((eZ lo hi).map mQ).map (aM sd cl)=(eZ lo hi).map (zX sd cl):=by
     rw[Q0]
     exact V4 λb _=>Oj sd cl b
    rw[e]
    exact hN _ rfl
  rintro _ rfl
  refine ⟨sQ (by rw[A0];omega),XZ UM ?_ ?_⟩
  ·intro d hd N' hN'
   obtain⟨b,hb,rfl⟩:=M0.mp hd
   exact ⟨_,rfl,_,rfl,hN'⟩
  have e:((eZ lo hi).map (zX sd cl)).map UM=((eZ lo hi).map λb=>(ZJ (PQ sd cl b.1 (xZ b.1 b.2)),aK (PQ sd cl b.1 (xZ b.1 b.2)))).map λe=>fQ [e.1,e.2]:=by
   rw[Q0,Q0]
   rfl
  rw[e]
  refine ⟨_,rfl,λz=>Qj lo hi (m6.mp z),by rw[A0];omega,λo=>?_⟩
  rw[<- mm1,<- mm2]at q
  have q2:∀o,Qd (.fz (fQ [ZJ (((eZ lo hi).map λb=>(ZJ (PQ sd cl b.1 (xZ b.1 b.2)),aK (PQ sd cl b.1 (xZ b.1 b.2)))).map λe=>e.1),aK (((eZ lo hi).map λb=>(ZJ (PQ sd cl b.1 (xZ b.1 b.2)),aK (PQ sd cl b.1 (xZ b.1 b.2)))).map λe=>e.2)])) o:=λo=>by rw[Q0,Q0];exact q o
  exact q2 _
end
theorem zG:∀{sd:List Int},(∀c∈sd,1<=c)->Bx (sd.map λ_=>0) (sd.map λs=>s - 1) sd
 | [],_=>trivial
 | s :: sd,h=>by
  have h1:=h s O0
  exact ⟨⟨by show (0:Int)<=0;decide,by show (0:Int)<=s - 1;omega,by show s - 1 < s;omega⟩,zG λc hc=>h c (K0 _ hc)⟩
theorem Rv:∀{lo sd:List Int},Wi lo sd->Bx lo lo sd
 | [],[],_=>trivial
 | x :: lo,s :: sd,h=>⟨⟨h.1.1,e7 _,h.1.2⟩,Rv h.2⟩
 | [],_ :: _,h=>h.elim
 | _ :: _,[],h=>h.elim
theorem aN:∀{lo dn:List Int}{x s:Int},Wi lo dn->0<=x->x < s->Wi (lo++[x]) (dn++[s])
 | [],[],_,_,_,h1,h2=>⟨⟨h1,h2⟩,trivial⟩
 | y :: lo,t :: dn,_,_,h,h1,h2=>⟨h.1,aN h.2 h1 h2⟩
 | [],_ :: _,_,_,h,_,_=>h.elim
 | _ :: _,[],_,_,h,_,_=>h.elim
noncomputable def mL:PyData->PyData
 | _=>.int 0
noncomputable def nL:PyData->PyData
 | .int s=>.int (s - 1)
 | _=>.none
section
variable {P:Program}{w:World}{K:J0}{mg:Str->Option Value}{base:Heap}
noncomputable def vI:Con:=λargs Q=>∃lo hi p:List Int,args=[.fz (fQ lo),.fz (fQ hi),.fz (fQ p)]/\lo.length<=3/\∀o,Q (.fz (.bool (YJ lo p hi))) o
theorem wI:FnScope ["_law_low","_law_high","_law_place"] ["_law_low","_law_high","_law_place"] (gQ (top 24)):=⟨rfl,rfl,rfl,by decide +kernel,rfl,by decide +kernel,by decide +kernel⟩
theorem EB{f:Addr}{fd:FuncData}(F:Fun K "_law_has" "_law_has" (top 24) f fd)(T:Txt mg):FnOk P w K mg base VZ 1 f fd ["_law_low","_law_high","_law_place"] (kQ K vI):=by
 have S:=wI
 refine fY F S (λcdv A outer s H E hr=>(pQ (XQ (yz WK (nJ (K:=K) rfl hr.units) (wx (iX rfl (own:=["_law_a","_law_p","_law_b"]) (fr:=[]) (by kernel_rfl) (QH rfl T.zip_ (aQ (wn 0) (aQ (wn 2) (aQ (wn 1) bQ)))) (λ_ _ _ _=>(UZ rfl rfl (zQ (lQ (i:=0) (by decide +kernel:T1 (["_law_a","_law_p","_law_b"]:List Str)) rfl (Or.inl rfl)) (zQ (lQ (i:=1) (by decide +kernel:T1 (["_law_a","_law_p","_law_b"]:List Str)) rfl (Or.inl rfl)) (zQ (lQ (i:=2) (by decide +kernel:T1 (["_law_a","_law_p","_law_b"]:List Str)) rfl (Or.inl rfl)) aZ))))) (λ_ _ _ _=>LM (oE (Ek (EX DU nU (wn 1) (wn 0)) (Az (EX pV cV (wn 1) (wn 2)))))) (λ_ _ _ _=>cQ))) (wx (jX bQ)))))) ?_ ?_
 ·rintro args Qd ⟨lo,hi,p,rfl,_⟩;rfl
 ·rintro args Qd ⟨lo,hi,p,rfl,h3,q⟩
  refine ⟨yQ rfl,?_⟩
  have hz:=SK lo p hi
  refine ⟨by rw[hz,A0,P1];exact sQ (by omega),kE Gj (λ_=>.int 1) ?_ ?_⟩
  ·intro d hd N' M' hN' hM'
   rw[hz]at hd
   obtain⟨⟨a,x,b⟩,_,rfl⟩:=M0.mp hd
   refine ⟨rfl,mZ (λh=>?_) (λh=>mZ (λh2=>?_) (λh2=>?_))⟩
   ·have h:decide (x < a)=true:=h
    exact hN' (by show (decide (x < a)||decide (b < x))=true;rw[h];rfl)
   ·have h2:decide (b < x)=true:=h2
    exact hN' (by show (decide (x < a)||decide (b < x))=true;rw[h2,Bool.or_true])
   ·have h:¬decide (x < a)=true:=h
    have h2:¬decide (b < x)=true:=h2
    exact hM' (by show (decide (x < a)||decide (b < x))=false;rw[u5.mpr h,u5.mpr h2];rfl)
  rw[hz]
  have eo:=cU (lo:=lo) (p:=p) (hi:=hi)
  generalize ((lo.zip (p.zip hi)).map λq=>U0 [.int q.1,.int q.2.1,.int q.2.2]).filter Gj=us at eo
  have el:us.map (λ_=>u0 1)=(us.map λ_=>(1:Int)).map u0:=by rw[Q0];rfl
  rw[el]
  have n1:=Nice.ints (us.map λ_=>(1:Int))
  have n2:=Nice.ints []
  have es:same (.list ((us.map λ_=>(1:Int)).map u0)) (.list [])=YJ lo p hi:=by
   have e1:same (.list ((us.map λ_=>(1:Int)).map u0)) (.list [])=decide (us=[]):=by
    cases us<;>simp[same,sameAll]
   rw[e1]
   cases hb:YJ lo p hi with
   | true=>exact decide_eq_true (eo.mpr hb)
   | false=>exact decide_eq_false λz=>by rw[eo.mp z]at hb;cases hb
  have em:SeqAt.noMix (.list ((us.map λ_=>(1:Int)).map u0)) (.list [])=true:=by
   cases us<;>simp[SeqAt.noMix,SeqAt.noMixAll]
  rw[<- es]at q
  exact ⟨n1.p,n2.p,n1.sh (by decide),n2.sh (by decide),em,q _⟩
noncomputable def xI:Con:=λargs Q=>∃(ns:List Int) (k l:Int) (sd:List Int),args=[.io (QQ ns k l),.fz (fQ sd)]/\0<=k/\0<=l/\Sd sd /\
 ∀(lo hi:List Int) (k' l':Int) (o:Ev),Bx lo hi sd->0<=k'->0<=l'->Q (.fz (mQ (lo,hi))) (some (.io (QQ ns k' l')) :: o)
theorem yI:FnScope ["_law_pen_here","_law_sides_here","_law_way","_law_low","_law_high"] ["_law_pen_here","_law_sides_here"] (gQ (top 18)):=⟨rfl,rfl,rfl,by decide +kernel,rfl,by decide +kernel,by decide +kernel⟩
theorem FB{f:Addr}{fd:FuncData}(F:Fun K "_law_box" "_law_box" (top 18) f fd)(T:Txt mg)(C:CalsB P w K mg base):FnOk P w K mg base VZ 2 f fd ["_law_pen_here","_law_sides_here"] (kQ K xI):=by
 have S:=yI
 refine fY F S (λcdv A outer s H E hr=>(eQ (wQ (i:=2) S.nd rfl (Or.inl rfl) (YX C.law_take (hr.mono (by first|decide|omega)) (aQ (wn 0) (aQ (wx cQ) bQ))))
     (eQ (BJ (EX WK (nJ (K:=K) rfl hr.units) (wn 2) (wx cQ)) (pQ (XQ (AX (aQ (wx (kX bX (BQ (K:=K) rfl) T.tuple_ boot_tuple (aQ (wx (iX rfl (own:=["_law_side"]) (fr:=[]) (by kernel_rfl) (qX rfl (wv 1)) (λ_ _ _ _=>(lQ (i:=0) (by decide +kernel:T1 (["_law_side"]:List Str)) rfl (Or.inl rfl))) (λ_ _ _ _=>HW) (λ_ _ _ _=>cQ))) bQ))) (aQ (wx (kX bX (BQ (K:=K) rfl) T.tuple_ boot_tuple (aQ (wx (iX rfl (own:=["_law_side"]) (fr:=[]) (by kernel_rfl) (qX rfl (wv 1)) (λ_ _ _ _=>(lQ (i:=0) (by decide +kernel:T1 (["_law_side"]:List Str)) rfl (Or.inl rfl))) (λ_ _ _ _=>HW) (λ_ _ _ _=>(w_bin hX fX (wn 0) (wx cQ))))) bQ))) bQ))))) nZ)
     (eQ (NV (i:=3) S.nd rfl rfl rfl (own:=["_law_side"]) (fr:=[0]) (by kernel_rfl) (qX rfl (wv 1)) (λ_ _ _ _=>(lQ (i:=0) (by decide +kernel:T1 (["_law_side","_law_pen_here"]:List Str)) rfl (Or.inl rfl))) (λ_ _ _ _=>HW) (λ_ _ _ _=>(YX C.law_take (hr.mono (by first|decide|omega)) (aQ (wn 1) (aQ (wn 0) bQ)))))
     (eQ (BJ (EX WK (nJ (K:=K) rfl hr.units) (wn 2) (wx cQ)) (pQ (XQ (AX (aQ (wx (kX bX (BQ (K:=K) rfl) T.tuple_ boot_tuple (aQ (wn 3) bQ))) (aQ (wx (kX bX (BQ (K:=K) rfl) T.tuple_ boot_tuple (aQ (wn 3) bQ))) bQ))))) nZ)
     (eQ (NV (i:=4) S.nd rfl rfl rfl (own:=["_law_a","_law_side"]) (fr:=[0]) (by kernel_rfl) (KK rfl T.zip_ (aQ (wx (wv 3)) (aQ (wx (wv 1)) bQ))) (λ_ _ _ _=>(UZ rfl rfl (zQ (lQ (i:=0) (by decide +kernel:T1 (["_law_a","_law_side","_law_pen_here"]:List Str)) rfl (Or.inl rfl)) (zQ (lQ (i:=1) (by decide +kernel:T1 (["_law_a","_law_side","_law_pen_here"]:List Str)) rfl (Or.inl rfl)) aZ)))) (λ_ _ _ _=>HW) (λ_ _ _ _=>(w_bin YQ JQ (wn 0) (wx (YX C.law_take (hr.mono (by first|decide|omega)) (aQ (wn 2) (aQ (wx (w_bin hX fX (wn 1) (wn 0))) bQ)))))))
     (pQ (XQ (AX (aQ (wx (kX bX (BQ (K:=K) rfl) T.tuple_ boot_tuple (aQ (wn 3) bQ))) (aQ (wx (kX bX (BQ (K:=K) rfl) T.tuple_ boot_tuple (aQ (wn 4) bQ))) bQ))))))))))) ?_ ?_
 ·rintro args Qd ⟨ns,k,l,sd,rfl,_⟩;rfl
 ·rintro args Qd ⟨ns,k,l,sd,rfl,hk,hl,hsd,q⟩
  have h3:=hsd.l3
  have hm:=hsd.m
  refine ⟨yQ rfl,?_⟩
  with_reducible refine FQ (λρ=>∃(r k1 l1:Int),0<=k1/\0<=l1/\ρ=[some (.io (QQ ns k1 l1)),some (.fz (fQ sd)),some (.fz (.int r)),none,none]) ?_ ?_
  ·intro N hN
   exact ⟨ns,k,l,6,rfl,hk,hl,by decide,by decide,λr k1 l1 _ r0 r1 hk1 hl1=>hN _ ⟨r,k1,l1,hk1,hl1,rfl⟩⟩
  rintro _ ⟨r,k1,l1,hk1,hl1,rfl⟩
  with_reducible refine FQ (λρ=>ρ=[some (.io (QQ ns k1 l1)),some (.fz (fQ sd)),some (.fz (.int r)),none,none]) ?_ ?_
  ·intro N hN
   refine mZ (λh=>?_) (λh=>hN _ rfl)
   refine ⟨sQ (by rw[A0];omega),XZ mL (λd hd N' hN'=>hN') ?_⟩
   refine ⟨sQ (by rw[A0];omega),XZ nL (λd hd N' hN'=>?_) ?_⟩
   ·obtain⟨s,_,rfl⟩:=M0.mp hd
    exact hN'
   have e1:(sd.map u0).map mL=(sd.map λ_=>(0:Int)).map u0:=by rw[Q0,Q0];rfl
   have e2:(sd.map u0).map nL=(sd.map λs=>s - 1).map u0:=by rw[Q0,Q0];rfl
   rw[e1,e2]
   exact q (sd.map λ_=>0) (sd.map λs=>s - 1) k1 l1 _ (zG hsd.p) hk1 hl1
  rintro _ rfl
  with_reducible refine FQ (λρ=>∃(lo:List Int) (k2 l2:Int),Wi lo sd/\0<=k2/\0<=l2/\ρ=[some (.io (QQ ns k2 l2)),some (.fz (fQ sd)),some (.fz (.int r)),some (.ow (.list (lo.map u0))),none]) ?_ ?_
  ·intro N hN
   refine ⟨sQ (by rw[A0];omega),EU (λrest acc τ=>∃(dn rs lo:List Int) (k4 l4:Int),sd=dn++rs/\rest=rs.map u0/\acc=lo.map u0/\Wi lo dn/\τ=[none,some (.io (QQ ns k4 l4))]/\0<=k4/\0<=l4) ?_ ?_ ⟨[],sd,[],k1,l1,rfl,rfl,rfl,trivial,rfl,hk1,hl1⟩⟩
   ·rintro d ds acc τ ⟨dn,rs,lo,k4,l4,em,er,rfl,hw,rfl,hk4,hl4⟩ N' hN'
    cases rs with
    | nil=>cases er
    | cons s rs =>
     cases er
     have hs1:=hsd.p s (by rw[em];simp)
     have hs2:=uX hsd.p s (by rw[em];simp)
     refine ⟨ns,k4,l4,s,rfl,hk4,hl4,by omega,by omega,λx k5 l5 _ x0 x1 hk5 hl5=>?_⟩
     exact hN' _ _ ⟨dn++[s],rs,lo++[x],k5,l5,by rw[em];simp,rfl,by simp[Sl.d],aN hw x0 x1,rfl,hk5,hl5⟩
   ·rintro acc τ ⟨dn,rs,lo,k4,l4,em,er,rfl,hw,rfl,hk4,hl4⟩
    cases rs with
    | cons _ _=>cases er
    | nil =>
     rw[Q1]at em
     subst em
     exact hN _ ⟨lo,k4,l4,hw,hk4,hl4,rfl⟩
  rintro _ ⟨lo,k2,l2,hw,hk2,hl2,rfl⟩
  have hwl:=aU hw
  with_reducible refine FQ (λρ=>ρ=[some (.io (QQ ns k2 l2)),some (.fz (fQ sd)),some (.fz (.int r)),some (.ow (.list (lo.map u0))),none]) ?_ ?_
  ·intro N hN
   refine mZ (λh=>?_) (λh=>hN _ rfl)
   exact q lo lo k2 l2 _ (Rv hw) hk2 hl2
  rintro _ rfl
  with_reducible refine FQ (λρ=>∃(hi:List Int) (k2 l2:Int),Bx lo hi sd/\0<=k2/\0<=l2/\ρ=[some (.io (QQ ns k2 l2)),some (.fz (fQ sd)),some (.fz (.int r)),some (.fz (.list (lo.map u0))),some (.ow (.list (hi.map u0)))]) ?_ ?_
  ·intro N hN
   have hz:=lZ lo sd
   refine ⟨by rw[hz,A0,P1];exact sQ (by omega),?_⟩
   rw[hz]
   refine EU (λrest acc τ=>∃(dl ds rl rs hi:List Int) (k4 l4:Int),lo=dl++rl/\sd=ds++rs/\Wi rl rs/\rest=((rl.zip rs).map λq=>U0 [.int q.1,.int q.2])/\acc=hi.map u0/\Bx dl hi ds/\τ=[none,none,some (.io (QQ ns k4 l4))]/\0<=k4/\0<=l4) ?_ ?_ ⟨[],[],lo,sd,[],k2,l2,rfl,rfl,hw,rfl,rfl,trivial,rfl,hk2,hl2⟩
   ·rintro d dds acc τ ⟨dl,ds,rl,rs,hi,k4,l4,el,es,hwr,er,rfl,hbx,rfl,hk4,hl4⟩ N' hN'
    cases rl with
    | nil=>simp at er
    | cons x rl =>
     cases rs with
     | nil=>simp at er
     | cons s rs =>
      cases er
      have hx:=hwr.1
      have hs2:=uX hsd.p s (by rw[es];simp)
      refine ⟨rfl,ns,k4,l4,s - x,rfl,hk4,hl4,by omega,by omega,λy k5 l5 _ y0 y1 hk5 hl5=>?_⟩
      exact hN' _ _ ⟨dl++[x],ds++[s],rl,rs,hi++[x+y],k5,l5,by rw[el];simp,by rw[es];simp,hwr.2,rfl,by simp[Sl.d],JF hbx hx.1 (by omega) (by omega),rfl,hk5,hl5⟩
   ·rintro acc τ ⟨dl,ds,rl,rs,hi,k4,l4,el,es,hwr,er,rfl,hbx,rfl,hk4,hl4⟩
    cases rl with
    | cons x rl =>
     cases rs with
     | nil=>exact hwr.elim
     | cons s rs=>simp at er
    | nil =>
     cases rs with
     | cons s rs=>exact hwr.elim
     | nil =>
      rw[Q1]at el es
      subst el
      subst es
      exact hN _ ⟨hi,k4,l4,hbx,hk4,hl4,rfl⟩
  rintro _ ⟨hi,k4,l4,hbx,hk4,hl4,rfl⟩
  exact q lo hi k4 l4 _ hbx hk4 hl4
end
theorem fU{lo hi sd p:List Int}(h:Bx lo hi sd)(hp:p∈nX sd):YJ lo p hi=true ↔ p∈Bw lo hi:=by
 rw[<- Fj h,S7]
 exact ⟨λz=>⟨hp,z⟩,λz=>z.2⟩
theorem GB{lo hi sd p:List Int}(h:Bx lo hi sd)(hp:p∈nX sd):((eZ lo hi).any λb=>YJ b.1 p (xZ b.1 b.2))=YJ lo p hi:=by
 rw[B6,M7,fU h hp]
 constructor
 ·rintro⟨b,hb,hi'⟩
  have h2:=(fU (GJ (TX h hb)) hp).mp hi'
  obtain⟨q,hq,rfl⟩:=M0.mp hb
  exact vX (a:=[]) (by simp) (Pj h (UQ hq) (UQ h2))
 ·intro hb
  obtain⟨q,hq,hpq⟩:=yG h (UQ hb)
  have hm:(q,ZZ lo hi)∈eZ lo hi:=M0.mpr ⟨q,vX (a:=[]) (by simp) hq,rfl⟩
  exact ⟨_,hm,(fU (GJ (TX h hm)) hp).mpr (vX (a:=[]) (by simp) hpq)⟩
section
variable {P:Program}{w:World}{K:J0}{mg:Str->Option Value}{base:Heap}
structure CalsFl(P:Program)(w:World)(K:J0)(mg:Str->Option Value)(base:Heap):Prop where
 law_has:Cal P w K mg base 1 "_law_has" ["_law_low","_law_high","_law_place"] (kQ K vI)
noncomputable def AI:Con:=λargs Q=>∃sd cl lo hi:List Int,args=[.fz (xX (qQ sd cl)),.fz (.list ((eZ lo hi).map mQ)),.fz (mQ (lo,hi))]/\Sd sd/\cl.length=(nX sd).length/\Bx lo hi sd/\∀o,Q (.fz (.bool true)) o
theorem BI:FnScope ["_law_known","_law_told","_law_box_here","_law_place","_law_there","_law_low","_law_powers","_law_high"] ["_law_known","_law_told","_law_box_here"] (gQ (top 25)):=⟨rfl,rfl,rfl,by decide +kernel,rfl,by decide +kernel,by decide +kernel⟩
theorem HB{f:Addr}{fd:FuncData}(F:Fun K "_law_filled" "_law_filled" (top 25) f fd)(T:Txt mg)(C:CalsFl P w K mg base):FnOk P w K mg base VZ 2 f fd ["_law_known","_law_told","_law_box_here"] (kQ K AI):=by
 have S:=BI
 refine fY F S (λcdv A outer s H E hr=>(eQ (RX [3,4,5,6] PassesOwn.never rfl (aj (wn 0)) (lQ (i:=3) S.nd rfl (Or.inl rfl)) (eQ (wQ (i:=4) S.nd rfl (Or.inl rfl) eY)
     (eQ (RX [5,6,7] PassesOwn.never rfl (qX rfl (wv 1)) (UZ rfl rfl (zQ (lQ (i:=5) S.nd rfl (Or.inl rfl)) (zQ (lQ (i:=6) S.nd rfl (Or.inl rfl)) aZ))) (eQ (wQ (i:=7) S.nd rfl (Or.inl rfl) (kX bX (BQ (K:=K) rfl) T.tuple_ boot_tuple (aQ (wx (iX rfl (own:=["_law_number_here","_law_k"]) (fr:=[]) (by kernel_rfl) (KK rfl T.zip_ (aQ (wn 5) (aQ (wn 6) bQ))) (λ_ _ _ _=>(UZ rfl rfl (zQ (lQ (i:=0) (by decide +kernel:T1 (["_law_number_here","_law_k"]:List Str)) rfl (Or.inl rfl)) (zQ (lQ (i:=1) (by decide +kernel:T1 (["_law_number_here","_law_k"]:List Str)) rfl (Or.inl rfl)) aZ)))) (λ_ _ _ _=>HW) (λ_ _ _ _=>(w_bin hX fX (wx (w_bin YQ JQ (wn 0) (wx (w_bin XY AY (wx cQ) (wn 1))))) (wx cQ))))) bQ)))
     (pQ (wQ (i:=4) S.nd rfl (Or.inl rfl) (OL (wv 4) (Xw (iZ C.law_has (hr.mono (by first|decide|omega)) (aQ (wn 5) (aQ (wn 7) (aQ (wn 3) bQ))))))))))
     (pQ (BJ (EX Vw (tz (K:=K) rfl hr.units) (wn 4) (wx (iZ C.law_has (hr.mono (by first|decide|omega)) (aQ (wx (dX rfl (wn 2) (wx cQ))) (aQ (wx (dX rfl (wn 2) (wx cQ))) (aQ (wn 3) bQ)))))) (pQ (XQ eY)) nZ)))))
     (pQ (XQ eY)))) ?_ ?_
 ·rintro args Qd ⟨sd,cl,lo,hi,rfl,_⟩;rfl
 ·rintro args Qd ⟨sd,cl,lo,hi,rfl,hsd,hcl,hbx,q⟩
  refine ⟨yQ rfl,?_⟩
  have h3:=hsd.l3
  have hm:=hsd.m
  have hbl:=wZ hbx
  with_reducible refine FQ (λρ=>ρ=[some (.fz (xX (qQ sd cl))),some (.fz (.list ((eZ lo hi).map mQ))),some (.fz (mQ (lo,hi))),none,none,none,none,none]) ?_ ?_
  ·intro N hN
   refine (?_:GX _ _ _ _ (uJ ((qQ sd cl).map λp=>.tuple [tI p.1,p.2])) _)
   have er:uJ ((qQ sd cl).map λp=>U0 [tI p.1,p.2])=(nX sd).map fQ:=by
    rw[EZ]
    unfold qQ
    rw[Q0]
    have e:((λp:List Int×PyData=>tI p.1) ∘ λr:List Int×Int=>(r.1,u0 r.2))=fQ ∘ Prod.fst:=rfl
    first|rw[e]|skip
    rw[<- Q0,P7 (by omega)]
   rw[er]
   refine LX (λrest ρ=>∃dn rs:List (List Int),nX sd=dn++rs/\rest=rs.map fQ/\ρ=[some (.fz (xX (qQ sd cl))),some (.fz (.list ((eZ lo hi).map mQ))),some (.fz (mQ (lo,hi))),none,none,none,none,none]) ?_ ?_ ⟨[],nX sd,rfl,rfl,rfl⟩
   ·rintro d ds ρ ⟨dn,rs,ez,es,rfl⟩ M hM
    cases rs with
    | nil=>cases es
    | cons p rs =>
     cases es
     have hp:p∈nX sd:=by rw[ez];simp
     have hany:=GB hbx hp
     with_reducible refine xv rfl ?_
     with_reducible refine FQ (λρ=>ρ=[some (.fz (xX (qQ sd cl))),some (.fz (.list ((eZ lo hi).map mQ))),some (.fz (mQ (lo,hi))),some (.fz (fQ p)),some (.fz (.bool false)),none,none,none]) ?_ ?_
     ·intro M2 hM2
      exact hM2 _ rfl
     rintro _ rfl
     with_reducible refine FQ (λρ=>ρ=[some (.fz (xX (qQ sd cl))),some (.fz (.list ((eZ lo hi).map mQ))),some (.fz (mQ (lo,hi))),some (.fz (fQ p)),some (.fz (.bool (YJ lo p hi))),none,none,none]) ?_ ?_
     ·intro M2 hM2
      have hmem:∀b∈eZ lo hi,Pc b.1 b.2 sd:=λb hb=>TX hbx hb
      generalize eZ lo hi=L at hany hmem hM2 ⊢
      refine LX (λrest ρ=>∃dn rs:List qZ,L=dn++rs/\rest=rs.map mQ/\ρ=[some (.fz (xX (qQ sd cl))),some (.fz (.list (L.map mQ))),some (.fz (mQ (lo,hi))),some (.fz (fQ p)),some (.fz (.bool (dn.any λb=>YJ b.1 p (xZ b.1 b.2)))),none,none,none]) ?_ ?_ ⟨[],L,rfl,rfl,rfl⟩
      ·rintro d ds ρ ⟨dn,rs,ez,es,rfl⟩ M3 hM3
       cases rs with
       | nil=>cases es
       | cons b rs =>
        cases es
        have hpc:=hmem b (by rw[ez];simp)
        have hpl2:=TK hpc
        have hany2:((dn++[b]).any λb=>YJ b.1 p (xZ b.1 b.2))=((dn.any λb=>YJ b.1 p (xZ b.1 b.2))||YJ b.1 p (xZ b.1 b.2)):=by simp
        generalize (dn.any λb=>YJ b.1 p (xZ b.1 b.2))=th at hany2
        refine ⟨rfl,?_⟩
        with_reducible refine dM (ρ':=[some (.fz (xX (qQ sd cl))),some (.fz (.list (L.map mQ))),some (.fz (mQ (lo,hi))),some (.fz (fQ p)),some (.fz (.bool th)),some (.fz (fQ b.1)),some (.fz (fQ b.2)),none]) rfl ?_
        with_reducible refine FQ (λρ=>ρ=[some (.fz (xX (qQ sd cl))),some (.fz (.list (L.map mQ))),some (.fz (mQ (lo,hi))),some (.fz (fQ p)),some (.fz (.bool th)),some (.fz (fQ b.1)),some (.fz (fQ b.2)),some (.fz (fQ (xZ b.1 b.2)))]) ?_ ?_
        ·intro N2 hN2
         have hz:=lZ b.1 b.2
         refine ⟨by rw[hz,A0,P1];exact sQ (by omega),XZ ZB ?_ ?_⟩
         ·intro d hd N' hN'
          rw[hz]at hd
          obtain⟨⟨x,k⟩,hxk,rfl⟩:=M0.mp hd
          obtain⟨g1,s,hs,g2⟩:=eU hpc (x,k) hxk
          have hs2:=uX hsd.p s hs
          have hk:=wG g2
          simp only at g1 hk
          refine ⟨rfl,⟨g1,by omega,by decide⟩,?_⟩
          have e:ZB (.tuple [.int x,.int k])=.int (x+1 * 2 ^ k.toNat - 1):=by
           show u0 (x+2 ^ k.toNat - 1)=_
           rw[R7]
          rw[e]at hN'
          exact hN'
         ·have e:(VY (b.1.map u0) (b.2.map u0)).map ZB=(xZ b.1 b.2).map u0:=by
           rw[hz]
           unfold xZ
           rw[Q0,Q0]
           rfl
          rw[e]
          exact hN2 _ rfl
        rintro _ rfl
        have fin:∀t:Bool,t=(th||YJ b.1 p (xZ b.1 b.2))->M3 [some (.fz (xX (qQ sd cl))),some (.fz (.list (L.map mQ))),some (.fz (mQ (lo,hi))),some (.fz (fQ p)),some (.fz (.bool t)),none,none,none]:=λt ht=>by
         refine hM3 _ ⟨dn++[b],rs,by rw[ez];simp,rfl,?_⟩
         rw[hany2,ht]
        cases th with
        | true=>exact fin true rfl
        | false=>exact ⟨b.1,xZ b.1 b.2,p,rfl,by omega,λo=>fin _ (by simp)⟩
      ·rintro ρ ⟨dn,rs,ez,es,rfl⟩
       cases rs with
       | cons _ _=>cases es
       | nil =>
        rw[Q1]at ez
        subst ez
        rw[hany]
        exact hM2 _ rfl
     rintro _ rfl
     refine ⟨_,rfl,_,rfl,lo,hi,p,rfl,by omega,λo=>?_⟩
     cases YJ lo p hi with
     | true=>exact ⟨rfl,rfl,rfl,rfl,rfl,hM _ ⟨dn++[p],rs,by rw[ez];simp,rfl,rfl⟩⟩
     | false=>exact ⟨rfl,rfl,rfl,rfl,rfl,hM _ ⟨dn++[p],rs,by rw[ez];simp,rfl,rfl⟩⟩
   ·rintro ρ ⟨dn,rs,ez,es,rfl⟩
    cases rs with
    | cons _ _=>cases es
    | nil=>exact hN _ rfl
  rintro _ rfl
  exact q _
end
theorem app_one{p q:List Int}{x y:Int}:p++[x]=q++[y] ↔ p=q/\x=y:=by
 constructor
 ·intro h
  have h1:=List.append_inj' h rfl
  exact ⟨h1.1,by simpa using h1.2⟩
 ·rintro⟨rfl,rfl⟩;rfl
theorem gU{α:Type}:∀{p:List α}{cs:List (List α)},kU p cs->p.length=cs.length
 | [],[],_=>rfl
 | _ :: _,_ :: _,h=>by rw[X1,X1,gU h.2]
 | [],_ :: _,h=>h.elim
 | _ :: _,[],h=>h.elim
noncomputable def BK(l:List (List Int)):List (List Int×PyData):=l.map λp=>(p,K5 true)
theorem Iw(l:List (List Int)):(BK l).map (·.1)=l:=by unfold BK;rw[Q0];simp[Function.comp_def]
theorem AG(l:List (List Int))(k:List Int):FZ (BK l) k (.bool true)=BK (if k∈l then l else l++[k]):=by
 unfold FZ
 rw[Iw]
 split
 ·unfold BK
  rw[Q0]
  refine V4 λp _=>?_
  simp only[Function.comp]
  split<;>rfl
 ·unfold BK
  rw[W4]
  rfl
theorem IB{dn:List (List Int)}{p:List Int}{x y:Int}(hp:p∉dn)(l:List (List Int))(e:l=dn.flatMap λq=>(gY x y).map λz=>q++[z]) :
  FZ (FZ (BK l) (p++[x]) (.bool true)) (p++[y]) (.bool true)=BK ((dn++[p]).flatMap λq=>(gY x y).map λz=>q++[z]):=by
 have no:∀z,p++[z]∉l:=λz hz=>by
  rw[e]at hz
  obtain⟨q,hq,hz⟩:=P4.mp hz
  obtain⟨u,_,hu⟩:=M0.mp hz
  exact hp ((app_one.mp hu).1 ▸ hq)
 rw[AG,if_neg (no x),AG]
 rw[B9,<- e]
 congr 1
 by_cases c:x=y
 ·subst c
  rw[if_pos (by simp)]
  simp[gY]
 ·rw[if_neg]
  ·simp[gY,c]
  ·intro hz
   rcases G4.mp hz with hz|hz
   ·exact no y hz
   ·have hz:p++[y]=p++[x]:=by simpa using hz
    exact c (app_one.mp hz).2.symm
theorem Sv{lo hi sd:List Int}(h:Bx lo hi sd):∀c∈dZ lo hi,c.Pairwise (· < ·):=λc hc=>by
 obtain⟨⟨x,y⟩,hq,rfl⟩:=M0.mp hc
 obtain⟨p1,p2,s,hs,p3⟩:=wY h (x,y) hq
 simp only at p1 p2 p3 ⊢
 obtain⟨g1,g2⟩:=AK (n:=y - x+1) (by omega)
 unfold gY
 split
 ·exact G2 _ _
 ·rename_i ne
  refine X3.mpr ⟨λz hz=>?_,G2 _ _⟩
  have:z=y+1 - 2 ^ gpw (y - x+1):=by simpa using hz
  omega
theorem Jw{lo hi sd:List Int}(h:Bx lo hi sd):(rQ [[]] (dZ lo hi)).Pairwise (λa b=>HT.lexLt a b=true):=mX (cs:=dZ lo hi) (acc:=[[]]) (n:=0) (G2 _ _) (by simp) (Sv h)
section
variable {P:Program}{w:World}{K:J0}{mg:Str->Option Value}{base:Heap}
structure CalsMe(P:Program)(w:World)(K:J0)(mg:Str->Option Value)(base:Heap):Prop where
 law_most_power:Cal P w K mg base 1 "_law_most_power" ["_law_length"] (kQ K AB)
noncomputable def bN:Con:=λargs Q=>∃sd lo hi:List Int,args=[.fz (mQ (lo,hi))]/\Sd sd/\Bx lo hi sd/\∀o,Q (.ow (.list ((eZ lo hi).map mQ))) o
theorem tM:FnScope ["_law_box_here","_law_powers","_law_found","_law_k","_law_longer","_law_place"] ["_law_box_here"] (gQ (top 23)):=⟨rfl,rfl,rfl,by decide +kernel,rfl,by decide +kernel,by decide +kernel⟩
theorem CI{f:Addr}{fd:FuncData}(F:Fun K "_law_met" "_law_met" (top 23) f fd)(T:Txt mg)(C:CalsMe P w K mg base):FnOk P w K mg base VZ 2 f fd ["_law_box_here"] (kQ K bN):=by
 have S:=tM
 refine fY F S (λcdv A outer s H E hr=>(eQ (wQ (i:=1) S.nd rfl (Or.inr rfl) (kX bX (BQ (K:=K) rfl) T.tuple_ boot_tuple (aQ (wx (iX rfl (own:=["_law_low","_law_high"]) (fr:=[]) (by kernel_rfl) (KK rfl T.zip_ (aQ (wx (dX rfl (wn 0) (wx cQ))) (aQ (wx (dX rfl (wn 0) (wx cQ))) bQ))) (λ_ _ _ _=>(UZ rfl rfl (zQ (lQ (i:=0) (by decide +kernel:T1 (["_law_low","_law_high"]:List Str)) rfl (Or.inl rfl)) (zQ (lQ (i:=1) (by decide +kernel:T1 (["_law_low","_law_high"]:List Str)) rfl (Or.inl rfl)) aZ)))) (λ_ _ _ _=>HW) (λ_ _ _ _=>(iZ C.law_most_power (hr.mono (by first|decide|omega)) (aQ (wx (w_bin YQ JQ (wx (w_bin hX fX (wn 1) (wn 0))) (wx cQ))) bQ))))) bQ)))
     (eQ (wQ (i:=2) S.nd rfl (Or.inl rfl) (lw (Ou hr) (Bq DV) Pw))
     (eQ (RX [3,4,5] PassesOwn.never rfl (NJ T.range_ (aQ (wx (DQ lJ (HX (K:=K) rfl) T.len_ PySem.boot_len (aQ (wn 1) bQ))) bQ)) (lQ (i:=3) S.nd rfl (Or.inl rfl)) (eQ (wQ (i:=4) S.nd rfl (Or.inl rfl) iw)
     (eQ (RX [5] PassesOwn.never rfl (aj (wx (wv 2))) (lQ (i:=5) S.nd rfl (Or.inl rfl)) (eQ (oG (Kq hr) (wn 4) (wx (w_bin YQ JQ (wn 5) (wx (AX (aQ (wx (dX rfl (wx (dX rfl (wn 0) (wx cQ))) (wn 3))) bQ))))) eY)
     (pQ (oG (Kq hr) (wn 4) (wx (w_bin YQ JQ (wn 5) (wx (AX (aQ (wx (w_bin hX fX (wx (w_bin YQ JQ (wx (dX rfl (wx (dX rfl (wn 0) (wx cQ))) (wn 3))) (wx cQ))) (wx (w_bin XY AY (wx cQ) (wx (dX rfl (wn 1) (wn 3))))))) bQ))))) eY))))
     (pQ (ZY (i:=2) S.nd rfl (Or.inl rfl) (wn 4))))))
     (pQ (XQ (iX rfl (own:=["_law_place"]) (fr:=[1]) (by kernel_rfl) (qX rfl (DQ Hz (LU rfl) T.sorted_ boot_sorted (aQ (wx (kX lj (qG rfl) T.list_ boot_list (aQ (wn 2) bQ))) bQ))) (λ_ _ _ _=>(lQ (i:=0) (by decide +kernel:T1 (["_law_place","_law_powers"]:List Str)) rfl (Or.inl rfl))) (λ_ _ _ _=>HW) (λ_ _ _ _=>(AX (aQ (wx (wv 0)) (aQ (wx (wv 1)) bQ))))))))))) ?_ ?_
 ·rintro args Qd ⟨sd,lo,hi,rfl,_⟩;rfl
 ·rintro args Qd ⟨sd,lo,hi,rfl,hsd,hbx,q⟩
  refine ⟨yQ rfl,?_⟩
  have h3:=hsd.l3
  have h1:=hsd.l1
  have hm:=hsd.m
  have hbl:=wZ hbx
  have hpr:=wY hbx
  obtain⟨m1,m2,m3⟩:=DW hsd hbx
  have hkl:(ZZ lo hi).length=lo.length:=by unfold ZZ;rw[A0,P1];omega
  have hcl:(dZ lo hi).length=lo.length:=by unfold dZ;rw[A0,P1];omega
  with_reducible refine FQ (λρ=>ρ=[some (.fz (mQ (lo,hi))),some (.fz (fQ (ZZ lo hi))),none,none,none,none]) ?_ ?_
  ·intro N hN
   have hz:=lZ lo hi
   refine ⟨_,rfl,_,rfl,by rw[hz,A0,P1];exact sQ (by omega),XZ lL ?_ ?_⟩
   ·intro d hd N' hN'
    rw[hz]at hd
    obtain⟨⟨x,y⟩,hxy,rfl⟩:=M0.mp hd
    obtain⟨p1,p2,s,hs,p3⟩:=hpr (x,y) hxy
    have hs2:=uX hsd.p s hs
    simp only at p1 p2 p3
    exact ⟨rfl,y - x+1,rfl,by omega,by omega,λo=>hN'⟩
   ·have e:(VY (lo.map u0) (hi.map u0)).map lL=(ZZ lo hi).map u0:=by
     rw[hz]
     unfold ZZ
     rw[Q0,Q0]
     rfl
    rw[e]
    exact hN _ rfl
  rintro _ rfl
  with_reducible refine FQ (λρ=>ρ=[some (.fz (mQ (lo,hi))),some (.fz (fQ (ZZ lo hi))),some (.ow (xX (BK [[]]))),none,none,none]) ?_ ?_
  ·intro N hN
   exact hN _ rfl
  rintro _ rfl
  with_reducible refine FQ (λρ=>ρ=[some (.fz (mQ (lo,hi))),some (.fz (fQ (ZZ lo hi))),some (.ow (xX (BK (rQ [[]] (dZ lo hi))))),none,none,none]) ?_ ?_
  ·intro N hN
   have ekl:((((ZZ lo hi).map u0).length:Nat):Int)=(lo.length:Nat):=by rw[A0,hkl]
   refine ⟨by rw[ekl];omega,by rw[ekl];omega,?_⟩
   refine (?_:GX _ _ _ _ (MQ 0 ((((ZZ lo hi).map u0).length:Nat):Int).toNat) _)
   rw[ekl,S4]
   refine LX (λrest ρ=>∃j m:Nat,j+m=lo.length/\rest=MQ j m/\ρ=[some (.fz (mQ (lo,hi))),some (.fz (fQ (ZZ lo hi))),some (.ow (xX (BK (rQ [[]] ((dZ lo hi).take j))))),none,none,none]) ?_ ?_ ⟨0,lo.length,by omega,rfl,rfl⟩
   ·rintro d ds ρ ⟨j,m,hj,er,rfl⟩ M hM
    cases m with
    | zero=>cases er
    | succ m =>
     rw[aY]at er
     cases er
     have hjl:j < lo.length:=by omega
     obtain⟨x,hx⟩:∃x,lo[j]?=some x:=⟨_,P0 hjl⟩
     obtain⟨y,hy⟩:∃y,hi[j]?=some y:=⟨_,P0 (by omega)⟩
     have hzj:(lo.zip hi)[j]?=some (x,y):=by rw[S5];exact ⟨hx,hy⟩
     have hkj:(ZZ lo hi)[j]?=some ((gpw (y - x+1):Nat):Int):=by unfold ZZ;rw[X0,hzj];rfl
     have hcj:(dZ lo hi)[j]?=some (gY x (y+1 - 2 ^ gpw (y - x+1))):=by unfold dZ;rw[X0,hzj];rfl
     obtain⟨p1,p2,s,hs,p3⟩:=hpr (x,y) (W2 hzj)
     simp only at p1 p2 p3
     have hs2:=uX hsd.p s hs
     have hg:=zW (n:=y - x+1) (by omega)
     have ets:(dZ lo hi).take (j+1)=(dZ lo hi).take j++[gY x (y+1 - 2 ^ gpw (y - x+1))]:=by rw[List.take_add_one,hcj];rfl
     have hnd:(rQ [[]] ((dZ lo hi).take j)).Nodup:=yW (T5.mpr ⟨by simp,j7⟩) λc hc=>(Sv hbx c (N6 hc)).imp λ{a b} h=>by omega
     have hel:=uW (gY x (y+1 - 2 ^ gpw (y - x+1))) ((dZ lo hi).take j) [[]]
     have hlen:(rQ [[]] ((dZ lo hi).take j)).length<=8:=by
      rw[ZQ]
      have h5:=CW (cs:=(dZ lo hi).take j) λc hc=>(BW lo hi c (N6 hc)).2
      have h6:2 ^ ((dZ lo hi).take j).length<=2 ^ 3:=u9 (by decide) (by rw[Z3];omega)
      simp
      omega
     rw[<- ets]at hel
     have hM':=hM _ ⟨j+1,m,by omega,congrArg (MQ · m) (by omega),rfl⟩
     clear hM
     generalize rQ [[]] ((dZ lo hi).take (j+1))=L2 at hel hM'
     have hl3:∀p∈rQ [[]] ((dZ lo hi).take j),p.length<=3:=λp hp=>by
      have:=gU (UQ hp)
      rw[Z3]at this
      omega
     generalize rQ [[]] ((dZ lo hi).take j)=L at hel hnd hlen hl3
     have hxa:GW (lo.map u0) (j:Int)=some (.int x):=fK (by rw[X0,hx];rfl)
     have hya:GW (hi.map u0) (j:Int)=some (.int y):=fK (by rw[X0,hy];rfl)
     have hka:GW ((ZZ lo hi).map u0) (j:Int)=some (.int (gpw (y - x+1):Nat)):=fK (by rw[X0,hkj];rfl)
     with_reducible refine xv rfl ?_
     with_reducible refine FQ (λρ=>ρ=[some (.fz (mQ (lo,hi))),some (.fz (fQ (ZZ lo hi))),some (.ow (xX (BK L))),some (.fz (.int j)),some (.ow (xX (BK []))),none]) ?_ ?_
     ·intro N2 hN2
      exact hN2 _ rfl
     rintro _ rfl
     with_reducible refine FQ (λρ=>ρ=[some (.fz (mQ (lo,hi))),some (.fz (fQ (ZZ lo hi))),some (.fz (xX (BK L))),some (.fz (.int j)),some (.ow (xX (BK L2))),none]) ?_ ?_
     ·intro N2 hN2
      refine (?_:GX _ _ _ _ (uJ ((BK L).map λp=>.tuple [tI p.1,p.2])) _)
      rw[EZ]
      have ek:(BK L).map (λp=>tI p.1)=L.map fQ:=by unfold BK;rw[Q0];rfl
      rw[ek]
      refine LX (λrest ρ=>∃dn rs:List (List Int),L=dn++rs/\rest=rs.map fQ/\ρ=[some (.fz (mQ (lo,hi))),some (.fz (fQ (ZZ lo hi))),some (.fz (xX (BK L))),some (.fz (.int j)),some (.ow (xX (BK (dn.flatMap λq=>(gY x (y+1 - 2 ^ gpw (y - x+1))).map λz=>q++[z])))),none]) ?_ ?_ ⟨[],L,rfl,rfl,rfl⟩
      ·rintro d ds ρ ⟨dn,rs,ez,es,rfl⟩ M3 hM3
       cases rs with
       | nil=>cases es
       | cons p rs =>
        cases es
        have hpd:p∉dn:=λz=>by
         rw[ez,F8]at hnd
         exact hnd.2.2 p z p O0 rfl
        have hpl:p.length<=3:=hl3 p (by rw[ez];simp)
        have hdl:(dn.flatMap λq=>(gY x (y+1 - 2 ^ gpw (y - x+1))).map λz=>q++[z]).length<=16:=by
         have h7:dn.length<=8:=by have:=congrArg L4 ez;rw[A1]at this;omega
         rw[List.length_flatMap]
         have h8:∀l:List (List Int),(l.map λq=>((gY x (y+1 - 2 ^ gpw (y - x+1))).map λz=>q++[z]).length).sum<=2 * l.length:=λl=>by
          induction l with
          | nil=>simp
          | cons a l ih =>
           rw[J3,List.sum_cons,A0,X1]
           have:(gY x (y+1 - 2 ^ gpw (y - x+1))).length<=2:=by unfold gY;split<;>simp
           omega
         have:=h8 dn
         omega
        have htwo:=IB (x:=x) (y:=y+1 - 2 ^ gpw (y - x+1)) hpd _ rfl
        have hM3':=hM3 _ ⟨dn++[p],rs,by rw[ez];simp,rfl,rfl⟩
        clear hM3
        rw[<- htwo]at hM3'
        clear htwo
        generalize (dn.flatMap λq=>(gY x (y+1 - 2 ^ gpw (y - x+1))).map λz=>q++[z])=l at hdl hM3'
        have hdl2:(BK l).length<=16:=by unfold BK;rw[A0];exact hdl
        have hdl3:(FZ (BK l) (p++[x]) (.bool true)).length<=17:=by
         rw[AG]
         unfold BK
         rw[A0]
         split
         ·omega
         ·rw[A1];simp;omega
        generalize BK l=tl at hdl2 hdl3 hM3'
        with_reducible refine xv rfl ?_
        with_reducible refine FQ (λρ=>ρ=[some (.fz (mQ (lo,hi))),some (.fz (fQ (ZZ lo hi))),some (.fz (xX (BK L))),some (.fz (.int j)),some (.ow (xX (FZ tl (p++[x]) (.bool true)))),some (.fz (fQ p))]) ?_ ?_
        ·intro N3 hN3
         refine ⟨_,rfl,_,hxa,by rw[A0];exact sQ (L1 (v9 hpl _) (show 3+1<=1000 by decide)),p++[x],tl,?_,rfl,rfl,W3 hdl2 (by decide),hN3 _ rfl⟩
         show [U0 (p.map u0++[u0 x])]=_
         simp
        rintro _ rfl
        generalize FZ tl (p++[x]) (.bool true)=tm at hdl3 hM3'
        have ee:((gpw (y - x+1):Nat):Int).toNat=gpw (y - x+1):=by omega
        refine ⟨_,rfl,_,hya,_,hka,⟨by omega,by omega,by decide⟩,by rw[A0];exact sQ (L1 (v9 hpl _) (show 3+1<=1000 by decide)),p++[y+1 - 2 ^ gpw (y - x+1)],tm,?_,rfl,rfl,W3 hdl3 (by decide),hM3'⟩
        show [U0 (p.map u0++[u0 (y+1 - 1 * 2 ^ ((gpw (y - x+1):Nat):Int).toNat)])]=_
        simp[ee]
      ·rintro ρ ⟨dn,rs,ez,es,rfl⟩
       cases rs with
       | cons _ _=>cases es
       | nil =>
        rw[Q1]at ez
        subst ez
        rw[<- hel]
        exact hN2 _ rfl
     rintro _ rfl
     exact hM'
   ·rintro ρ ⟨j,m,hj,er,rfl⟩
    cases m with
    | succ m=>rw[aY]at er;cases er
    | zero =>
     have e:(dZ lo hi).take j=dZ lo hi:=u7 (by omega)
     rw[e]
     exact hN _ rfl
  rintro _ rfl
  have hw:=Jw hbx
  have hml:(rQ [[]] (dZ lo hi)).length<=8:=by have:=m3;unfold eZ at this;rw[A0]at this;exact this
  have hne:∀r∈rQ [[]] (dZ lo hi),r≠[]:=λr hr z=>by
   have:=gU (UQ hr)
   rw[z]at this
   simp at this
   omega
  have ek:uJ ((BK (rQ [[]] (dZ lo hi))).map λp=>.tuple [tI p.1,p.2])=(rQ [[]] (dZ lo hi)).map λr=>.tuple (r.map u0):=by
   rw[EZ]
   unfold BK
   rw[Q0]
   rfl
  have q':∀o,Qd (.ow (.list ((rQ [[]] (dZ lo hi)).map λp=>mQ (p,ZZ lo hi)))) o:=by
   have e:(rQ [[]] (dZ lo hi)).map (λp=>mQ (p,ZZ lo hi))=(eZ lo hi).map mQ:=by unfold eZ;rw[Q0];rfl
   rw[e]
   exact q
  refine ⟨rQ [[]] (dZ lo hi),ek,sQ (by omega),hne,λrows hp hs=>?_⟩
  have e:=SG.sorted_uniq (lt:=HT.lexLt) (λa b=>SG.lex_eq) hp hs (hw.imp λ{a b} h=>Dj h)
  subst e
  refine ⟨by rw[A0];exact sQ (by omega),XZ (iM (ZZ lo hi)) (λd hd N' hN'=>hN') ?_⟩
  rw[Q0]
  exact q' _
end
theorem Tj{s:Str}:(!decide (s=s))=false:=by simp
theorem hU{c:Int}(h:c.natAbs < 10 ^ 32):(u0 c).shown.length<=33/\(u0 c).showable=true :=
 ⟨yD (k:=32) (by decide) h,OV (k:=140) (S0 h (by decide)) (by decide)⟩
theorem EW{l:List Int}(h:∀c∈l,c.natAbs < 10 ^ 32):(fQ l).shown.length<=l.length * 35+3/\(fQ l).showable=true:=by
 refine ⟨?_,L3.showableAll_of λd hd=>?_⟩
 ·have h2:=pJ (l:=l.map u0) (b:=33) λd hd=>by
   obtain⟨c,hc,rfl⟩:=M0.mp hd
   exact (hU (h c hc)).1
  rw[A0]at h2
  exact L1 h2 (by omega)
 ·obtain⟨c,hc,rfl⟩:=M0.mp hd
  exact (hU (h c hc)).2
theorem JB{a b:PyData}{n:Nat}(ha:a.shown.length<=n/\a.showable=true)(hb:b.shown.length<=n/\b.showable=true):(U0 [a,b]).shown.length<=2 * n+7/\(U0 [a,b]).showable=true:=by
 refine ⟨?_,L3.showableAll_of λd hd=>?_⟩
 ·have h2:=pJ (l:=[a,b]) (b:=n) λd hd=>by
   simp only[V0,j4,or_false]at hd
   rcases hd with rfl|rfl
   ·exact ha.1
   ·exact hb.1
  exact L1 h2 (by simp only[X1,J4];omega)
 ·simp only[V0,j4,or_false]at hd
  rcases hd with rfl|rfl
  ·exact ha.2
  ·exact hb.2
theorem Uj:∀{lo hi sd:List Int},Bx lo hi sd->Wi lo sd
 | [],[],[],_=>trivial
 | a :: lo,b :: hi,s :: sd,h=>⟨⟨h.1.1,by have:=h.1;omega⟩,Uj h.2⟩
 | [],[],_ :: _,h=>h.elim
 | [],_ :: _,z,h=>by cases z<;>exact h.elim
 | _ :: _,[],z,h=>by cases z<;>exact h.elim
 | _ :: _,_ :: _,[],h=>h.elim
theorem mH{sd:List Int}{b:qZ}(hsd:Sd sd)(h:Pc b.1 b.2 sd):(∀c∈b.1,c.natAbs < 10 ^ 32)/\∀c∈b.2,c.natAbs < 10 ^ 32:=by
 have hbl:=TK h
 have hm:=hsd.m
 have hbx:=GJ h
 have e:(120:Nat) < 10 ^ 32:=by decide
 constructor
 ·intro c hc
  have hw:=Uj hbx
  obtain⟨i,hi,e1⟩:=e6.mp hc
  have h1:=xG hw (sd[i]'(by omega),b.1[i]) (by
    have hz:i < (sd.zip b.1).length:=by rw[P1];omega
    rw[<- Q6 (h:=hz)]
    exact P3 _)
  have h2:=uX hsd.p (sd[i]'(by omega)) (P3 _)
  simp only at h1
  rw[e1]at h1
  omega
 ·intro c hc
  obtain⟨i,hi,e1⟩:=e6.mp hc
  obtain⟨g1,s,hs,g2⟩:=eU h (b.1[i]'(by omega),b.2[i]) (by
    have hz:i < (b.1.zip b.2).length:=by rw[P1];omega
    rw[<- Q6 (h:=hz)]
    exact P3 _)
  have h2:=uX hsd.p s hs
  have h4:=wG g2
  simp only at g1 h4
  rw[e1]at g1 h4
  omega
noncomputable def Sm(cl:List Int):Prop:=∀c∈cl,c.natAbs < 10 ^ 32
theorem Vj{cl:List Int}(h:∀c∈cl,Kv c):Sm cl:=λc hc=>by
 obtain⟨h1,h2⟩:=h c hc
 omega
theorem nH{sd cl:List Int}(hsd:Sd sd)(hl:cl.length=(nX sd).length)(hB:Sm cl){lo hi:List Int}(hb:Bx lo hi sd):(ZJ (PQ sd cl lo hi)).natAbs < 10 ^ 32/\(aK (PQ sd cl lo hi)).natAbs < 10 ^ 32:=by
 have hc:∀x∈PQ sd cl lo hi,x.natAbs < 10 ^ 32:=λx hx=>by
  obtain⟨p,hp,rfl⟩:=M0.mp hx
  have hw:=yj hb hp
  have hi:=wB hw
  have hpl:=zJ hsd.p
  have hlt:(XE sd p).toNat < cl.length:=by omega
  unfold YB
  rw[Y3,P0 hlt]
  exact hB _ (P3 _)
 have hne:=tZ (cl:=cl) hb
 exact ⟨hc _ (oZ hne).1,hc _ (pZ hne).1⟩
noncomputable def KB(k:List Int)(v:Int)(ps:List (List Int))(cs:List Int):List Int:=(ps.zip cs).map λr=>if r.1=k then v else r.2
theorem PF(k:List Int)(v:Int):∀(ps:List (List Int)) (cs:List Int),((ps.zip cs).map λr=>(r.1,u0 r.2)).map (λx=>if x.1=k then (x.1,u0 v) else x)=(ps.zip (KB k v ps cs)).map λr=>(r.1,u0 r.2)
 | [],_=>by simp
 | _ :: _,[]=>by simp[KB]
 | p :: ps,c :: cs=>by
  have ih:=PF k v ps cs
  show (if p=k then (p,u0 v) else (p,u0 c)) :: _=(p,u0 (if p=k then v else c)) :: _
  have ih':N5 (λx:List Int×PyData=>if x.1=k then (x.1,u0 v) else x) (N5 (λr:List Int×Int=>(r.1,u0 r.2)) (T9 Prod.mk ps cs))=N5 (λr:List Int×Int=>(r.1,u0 r.2)) (T9 Prod.mk ps (N5 (λr:List Int×Int=>if r.1=k then v else r.2) (T9 Prod.mk ps cs))):=ih
  rw[ih']
  by_cases e:p=k
  ·rw[if_pos e,if_pos e]
  ·rw[if_neg e,if_neg e]
theorem LB{sd cl k:List Int}(v:Int)(hl:cl.length=(nX sd).length)(hk:k∈nX sd):FZ (qQ sd cl) k (.int v)=qQ sd (KB k v (nX sd) cl):=by
 unfold FZ
 have e:(qQ sd cl).map (·.1)=nX sd:=by
  unfold qQ
  rw[Q0]
  show ((nX sd).zip cl).map (λr=>r.1)=_
  exact P7 (by omega)
 rw[e,if_pos hk]
 exact PF k v _ _
theorem MB{sd cl k:List Int}{v:Int}(hl:cl.length=(nX sd).length):(KB k v (nX sd) cl).length=(nX sd).length:=by unfold KB;rw[A0,P1];omega
theorem DI{sd cl k:List Int}{v:Int}(hB:Sm cl)(hv:v.natAbs < 10 ^ 32):Sm (KB k v (nX sd) cl):=λc hc=>by
 obtain⟨r,hr,rfl⟩:=M0.mp hc
 split
 ·exact hv
 ·exact hB _ (V6 hr).2
theorem FW(sd cl:List Int):∀l:List qZ,noMutAll (l.map (zX sd cl))=true
 | []=>rfl
 | b :: l=>by
  show (noMut (zX sd cl b)&&noMutAll (l.map (zX sd cl)))=true
  rw[FW sd cl l,Bool.and_true]
  show (noMutAll (b.1.map u0)&&(noMutAll (b.2.map u0)&&(true&&(true&&true))))=true
  rw[DX,DX]
  rfl
theorem NB{lo hi sd:List Int}(h:Bx lo hi sd):lo∈nX sd:=uG (Uj h)
theorem Tv{sd cl:List Int}(hsd:Sd sd)(hl:cl.length=(nX sd).length)(hB:Sm cl){lo hi:List Int}(hb:Bx lo hi sd):(fQ [ZJ (PQ sd cl lo hi),aK (PQ sd cl lo hi)]).showable=true/\(fQ [ZJ (PQ sd cl lo hi),aK (PQ sd cl lo hi)]).shown.length<=sizeLine:=by
 obtain⟨m1,m2⟩:=nH hsd hl hB hb
 have t:=EW (l:=[ZJ (PQ sd cl lo hi),aK (PQ sd cl lo hi)]) λc hc=>by
  simp only[V0,j4,or_false]at hc
  rcases hc with rfl|rfl
  ·exact m1
  ·exact m2
 exact ⟨t.2,L1 t.1 (by simp only[X1,J4];decide)⟩
section
variable {P:Program}{w:World}{K:J0}{mg:Str->Option Value}{base:Heap}
noncomputable def Wj:Con:=λargs Q=>∃(n:Nat) (d:PyData),args=[.fz d,.fz d]/\Nice n d/\n<=60/\d.showable=true/\d.shown.length<=sizeLine/\((∃l,d=.list l)\/∃l,d=.tuple l)/\∀o,Q (.fz (.bool true)) o
theorem OB:FnScope ["_law_found","_law_due_here"] ["_law_found","_law_due_here"] (gQ (top 19)):=⟨rfl,rfl,rfl,by decide +kernel,rfl,by decide +kernel,by decide +kernel⟩
theorem Kw{f:Addr}{fd:FuncData}(F:Fun K "_law_same" "_law_same" (top 19) f fd)(T:Txt mg):FnOk P w K mg base VZ 1 f fd ["_law_found","_law_due_here"] (kQ K Wj):=by
 have S:=OB
 refine fY F S (λcdv A outer s H E hr=>(pQ (XQ (nE (yz WK (nJ (K:=K) rfl hr.units) (wn 0) (wn 1)) (Xw (yz WK (nJ (K:=K) rfl hr.units) (wx (DQ oY (MZ (K:=K) rfl hr) T.repr_ boot_repr (aQ (wn 0) bQ))) (wx (DQ oY (MZ (K:=K) rfl hr) T.repr_ boot_repr (aQ (wn 1) bQ))))))))) ?_ ?_
 ·rintro args Qd ⟨n,d,rfl,_⟩;rfl
 ·rintro args Qd ⟨n,d,rfl,nc,hn,hs,hz,hk,q⟩
  refine ⟨yQ rfl,?_⟩
  have hd:=nc.d
  have fin:∀o,Qd (.fz (.bool (decide (d.shown=d.shown)))) o:=λo=>by rw[decide_eq_true (rfl:d.shown=d.shown)];exact q o
  rcases hk with⟨l,rfl⟩|⟨l,rfl⟩
  ·refine ⟨nc.p,nc.p,nc.sh (by omega),nc.sh (by omega),RJ _ nc.p,?_⟩
   refine mZ (λh=>?_) (λh=>?_)
   ·exact ⟨nc.p,hs,by show (E1 l).depth+1<=64;omega,hz,nc.p,hs,by show (E1 l).depth+1<=64;omega,hz,fin _⟩
   ·exact absurd (same_self _) h
  ·refine ⟨nc.p,nc.p,nc.sh (by omega),nc.sh (by omega),RJ _ nc.p,?_⟩
   refine mZ (λh=>?_) (λh=>?_)
   ·exact ⟨nc.p,hs,by show (U0 l).depth+1<=64;omega,hz,nc.p,hs,by show (U0 l).depth+1<=64;omega,hz,fin _⟩
   ·exact absurd (same_self _) h
structure CalsRr(P:Program)(w:World)(K:J0)(mg:Str->Option Value)(base:Heap):Prop where
 law_take:Cal P w K mg base 1 "_law_take" ["_law_pen_here","_law_most"] (kQ K uj)
 law_due:Cal P w K mg base 3 "_law_due" ["_law_sides_here","_law_known"] (kQ K fM)
 law_within:Cal P w K mg base 1 "_law_within" ["_law_known","_law_low","_law_high"] (kQ K xY)
 law_same:Cal P w K mg base 1 "_law_same" ["_law_found","_law_due_here"] (kQ K Wj)
 by_powers:Cal P w K mg base 4 "by_powers" ["sides","table","box"] (kQ K qM)
noncomputable def cN:Con:=λargs Q=>∃(ns:List Int) (k l:Int) (sd cl lo hi:List Int),args=[.io (QQ ns k l),.fz (fQ sd),.io (xX (qQ sd cl)),.io (.list ((NX sd).map (zX sd cl))),.fz (mQ (lo,hi))]/\0<=k/\0<=l/\Sd sd/\cl.length=(nX sd).length/\(∀c∈cl,Kv c)/\Bx lo hi sd /\
 ∀(k' l':Int) (e' f':PyData) (x:Option Sl) (o:Ev),0<=k'->0<=l'->Q (.fz (.bool true)) (some (.io (QQ ns k' l')) :: x :: some (.io e') :: some (.io f') :: o)
theorem uM:FnScope ["_law_pen_here","_law_sides_here","_law_known","_law_table","_law_box_here","_law_one","_law_some"] ["_law_pen_here","_law_sides_here","_law_known","_law_table","_law_box_here"] (gQ (top 26)):=⟨rfl,rfl,rfl,by decide +kernel,rfl,by decide +kernel,by decide +kernel⟩
theorem EI{f:Addr}{fd:FuncData}(F:Fun K "_law_refilled_right" "_law_refilled_right" (top 26) f fd)(T:Txt mg)(C:CalsRr P w K mg base):FnOk P w K mg base VZ 5 f fd ["_law_pen_here","_law_sides_here","_law_known","_law_table","_law_box_here"] (kQ K cN):=by
 have S:=uM
 refine fY F S (λcdv A outer s H E hr=>(eQ (oG (Kq hr) (wn 2) (wx (dX rfl (wn 4) (wx cQ))) (w_bin LZ fZ (wx (w_bin hX fX (wx cQ) (wx (w_bin LZ fZ (wx cQ) (wx (YX C.law_take (hr.mono (by first|decide|omega)) (aQ (wn 0) (aQ (wx cQ) bQ)))))))) (wx (w_bin hX fX (wx (w_bin PH tH (wx cQ) (wx cQ))) (wx (YX C.law_take (hr.mono (by first|decide|omega)) (aQ (wn 0) (aQ (wx cQ) bQ))))))))
     (eQ (rj (wn 3) (iF C.law_due (hr.mono (by first|decide|omega)) (aQ (wn 1) (aQ (wn 2) bQ))))
     (eQ (RX [5,6] PassesOwn.never rfl (qX rfl (jX (aQ (wx (wv 4)) (aQ (wx (AX (aQ (wx (kX bX (BQ (K:=K) rfl) T.tuple_ boot_tuple (aQ (wx (iX rfl (own:=["_law_side"]) (fr:=[]) (by kernel_rfl) (qX rfl (wv 1)) (λ_ _ _ _=>(lQ (i:=0) (by decide +kernel:T1 (["_law_side"]:List Str)) rfl (Or.inl rfl))) (λ_ _ _ _=>HW) (λ_ _ _ _=>cQ))) bQ))) (aQ (wx (kX bX (BQ (K:=K) rfl) T.tuple_ boot_tuple (aQ (wx (iX rfl (own:=["_law_side"]) (fr:=[]) (by kernel_rfl) (qX rfl (wv 1)) (λ_ _ _ _=>(lQ (i:=0) (by decide +kernel:T1 (["_law_side"]:List Str)) rfl (Or.inl rfl))) (λ_ _ _ _=>HW) (λ_ _ _ _=>(w_bin hX fX (wn 0) (wx cQ))))) bQ))) bQ)))) bQ)))) (lQ (i:=5) S.nd rfl (Or.inl rfl)) (eQ (wQ (i:=6) S.nd rfl (Or.inl rfl) (iF C.law_within (hr.mono (by first|decide|omega)) (aQ (wn 2) (aQ (wx (dX rfl (wn 5) (wx cQ))) (aQ (wx (dX rfl (wn 5) (wx cQ))) bQ)))))
     (pQ (BJ (FU (GU (iZ C.law_same (hr.mono (by first|decide|omega)) (aQ (wx (iZ C.by_powers (hr.mono (by first|decide|omega)) (aQ (wn 1) (aQ (wn 3) (aQ (wn 5) bQ))))) (aQ (wx (AX (aQ (wx (DQ PV (rK (K:=K) rfl rfl) T.min_ boot_min (aQ (wn 6) bQ))) (aQ (wx (DQ QV (sK (K:=K) rfl rfl) T.max_ boot_max (aQ (wn 6) bQ))) bQ)))) bQ))))) (pQ (XQ eY)) nZ))))
     (pQ (XQ eY)))))) ?_ ?_
 ·rintro args Qd ⟨ns,k,l,sd,cl,lo,hi,rfl,_⟩;rfl
 ·rintro args Qd ⟨ns,k,l,sd,cl,lo,hi,rfl,hk,hl,hsd,hcl,hB,hbx,q⟩
  refine ⟨yQ rfl,?_⟩
  have hlen:=zK hsd
  have hpl:=zJ hsd.p
  have hm:=hsd.m
  have h3:=hsd.l3
  have hrl:(qQ sd cl).length<=120:=by unfold qQ;rw[A0,P1];omega
  with_reducible refine FQ (λρ=>∃(cm:List Int) (k1 l1:Int),cm.length=(nX sd).length/\Sm cm/\0<=k1/\0<=l1/\ρ=[some (.io (QQ ns k1 l1)),some (.fz (fQ sd)),some (.io (xX (qQ sd cm))),some (.io (.list ((NX sd).map (zX sd cl)))),some (.fz (mQ (lo,hi))),none,none]) ?_ ?_
  ·intro N hN
   refine ⟨ns,k,l,_,rfl,hk,hl,by decide,by decide,λa k2 l2 _ a0 a1 hk2 hl2=>?_⟩
   refine ⟨.inl ⟨by decide,by decide⟩,⟨by decide,by decide,by decide⟩,?_⟩
   refine ⟨ns,k2,l2,_,rfl,hk2,hl2,by decide,by decide,λb k3 l3 _ b0 b1 hk3 hl3=>?_⟩
   refine ⟨.inl ⟨by omega,by omega⟩,_,rfl,lo,qQ sd cl,rfl,rfl,rfl,W3 hrl (by decide),?_⟩
   have e:(10:Int) ^ (28:Int).toNat=10 ^ 28:=rfl
   have hv:((1 - 2 * a) * (10 ^ 28 - b)).natAbs < 10 ^ 32:=by
    rcases (show a=0\/a=1 by omega) with rfl|rfl
    ·omega
    ·omega
   refine hN _ ⟨KB lo ((1 - 2 * a) * (10 ^ 28 - b)) (nX sd) cl,k3,l3,MB hcl,DI (Vj hB) hv,hk3,hl3,?_⟩
   rw[<- LB _ hcl (NB hbx)]
   rfl
  rintro _ ⟨cm,k1,l1,hcm,hS,hk1,hl1,rfl⟩
  with_reducible refine FQ (λρ=>ρ=[some (.io (QQ ns k1 l1)),some (.fz (fQ sd)),some (.io (xX (qQ sd cm))),some (.io (.list ((NX sd).map (zX sd cm)))),some (.fz (mQ (lo,hi))),none,none]) ?_ ?_
  ·intro N hN
   refine ⟨sd,cm,rfl,hsd,hcm,λo=>⟨FW sd cm _,(NX sd).map (zX sd cl),(NX sd).map (zX sd cm),rfl,rfl,rfl,?_,hN _ rfl⟩⟩
   rw[A0,A0]
   exact L1 (show _<=40000 by omega) (by decide)
  rintro _ rfl
  have hz0:(sd.map u0).map mL=(sd.map λ_=>(0:Int)).map u0:=by rw[Q0,Q0];rfl
  have hz1:(sd.map u0).map nL=(sd.map λs=>s - 1).map u0:=by rw[Q0,Q0];rfl
  have hall:=zG hsd.p
  with_reducible refine FQ (λρ=>ρ=[some (.io (QQ ns k1 l1)),some (.fz (fQ sd)),some (.io (xX (qQ sd cm))),some (.io (.list ((NX sd).map (zX sd cm)))),some (.fz (mQ (lo,hi))),none,none]) ?_ ?_
  ·intro N hN
   refine ⟨sQ (by rw[A0];omega),XZ mL (λd hd N' hN'=>hN') ?_⟩
   refine ⟨sQ (by rw[A0];omega),XZ nL (λd hd N' hN'=>?_) ?_⟩
   ·obtain⟨s,_,rfl⟩:=M0.mp hd
    exact hN'
   rw[hz0,hz1]
   refine (?_:GX _ _ _ _ _ _)
   refine (?_:GX _ _ _ _ ([(lo,hi),(sd.map (λ_=>(0:Int)),sd.map λs=>s - 1)].map mQ) _)
   have hbs:∀b∈[(lo,hi),(sd.map (λ_=>(0:Int)),sd.map λs=>s - 1)],Bx b.1 b.2 sd:=λb hb=>by
    simp only[V0,j4,or_false]at hb
    rcases hb with rfl|rfl
    ·exact hbx
    ·exact hall
   generalize [(lo,hi),(sd.map (λ_=>(0:Int)),sd.map λs=>s - 1)]=L at hbs ⊢
   refine LX (λrest ρ=>∃dn rs:List qZ,L=dn++rs/\rest=rs.map mQ/\ρ=[some (.io (QQ ns k1 l1)),some (.fz (fQ sd)),some (.io (xX (qQ sd cm))),some (.io (.list ((NX sd).map (zX sd cm)))),some (.fz (mQ (lo,hi))),none,none]) ?_ ?_ ⟨[],L,rfl,rfl,rfl⟩
   ·rintro d ds ρ ⟨dn,rs,ez,es,rfl⟩ M hM
    cases rs with
    | nil=>cases es
    | cons b rs =>
     cases es
     have hb:=hbs b (by rw[ez];simp)
     have hbl:=wZ hb
     have hne:=tZ (cl:=cm) hb
     have h0:0 < (PQ sd cm b.1 b.2).length:=j6.mpr hne
     obtain⟨sM,lM⟩:=Tv hsd hcm hS hb
     with_reducible refine xv rfl ?_
     with_reducible refine FQ (λρ=>ρ=[some (.io (QQ ns k1 l1)),some (.fz (fQ sd)),some (.io (xX (qQ sd cm))),some (.io (.list ((NX sd).map (zX sd cm)))),some (.fz (mQ (lo,hi))),some (.fz (mQ b)),some (.ow (.list ((PQ sd cm b.1 b.2).map u0)))]) ?_ ?_
     ·intro N2 hN2
      refine ⟨_,rfl,_,rfl,sd,cm,b.1,b.2,rfl,by omega,by omega,λo=>?_⟩
      rw[vW hsd.p hcm hb]
      exact ⟨DX _,hN2 _ rfl⟩
     rintro _ rfl
     refine ⟨sd,cm,b.1,b.2,rfl,hsd,hb,λo=>⟨rfl,?_⟩⟩
     refine ⟨PQ sd cm b.1 b.2,rfl,h0,λm hm' hmy=>⟨PQ sd cm b.1 b.2,rfl,h0,λM2 hM2 hMy=>?_⟩⟩
     rw[wW hm' hmy,xW hM2 hMy]
     refine ⟨1,fQ [ZJ (PQ sd cm b.1 b.2),aK (PQ sd cm b.1 b.2)],rfl,Nice.tup _,by decide,sM,lM,.inr ⟨_,rfl⟩,λo=>?_⟩
     exact hM _ ⟨dn++[b],rs,by rw[ez];simp,rfl,rfl⟩
   ·rintro ρ ⟨dn,rs,ez,es,rfl⟩
    cases rs with
    | cons _ _=>cases es
    | nil=>exact hN _ rfl
  rintro _ rfl
  exact q _ _ _ _ _ _ hk1 hl1
end
theorem Lw(b:qZ):Nice 2 (mQ b):=.tuple λd hd=>by
 have hd:d=fQ b.1\/d=fQ b.2:=by simpa using hd
 rcases hd with rfl|rfl
 ·exact Nice.tup _
 ·exact Nice.tup _
theorem FI{lo hi sd:List Int}(hsd:Sd sd)(hbx:Bx lo hi sd):Nice 3 (.list ((eZ lo hi).map mQ))/\(E1 ((eZ lo hi).map mQ)).showable=true/\(E1 ((eZ lo hi).map mQ)).shown.length<=sizeLine:=by
 obtain⟨m1,m2,m3⟩:=DW hsd hbx
 have h3:=hsd.l3
 have key:∀b∈eZ lo hi,(mQ b).shown.length<=250/\(mQ b).showable=true:=λb hb=>by
  have hp:=TX hbx hb
  have hbl:=TK hp
  obtain⟨s1,s2⟩:=mH hsd hp
  have t1:=EW s1
  have t2:=EW s2
  have t:=JB (a:=fQ b.1) (b:=fQ b.2) (n:=110) ⟨by omega,t1.2⟩ ⟨by omega,t2.2⟩
  exact ⟨L1 t.1 (by decide),t.2⟩
 refine ⟨.list λd hd=>?_,L3.showableAll_of λd hd=>?_,?_⟩
 ·obtain⟨b,_,rfl⟩:=M0.mp hd
  exact Lw b
 ·obtain⟨b,hb,rfl⟩:=M0.mp hd
  exact (key b hb).2
 ·have h2:=bW (l:=(eZ lo hi).map mQ) (b:=250) λd hd=>by
   obtain⟨b,hb,rfl⟩:=M0.mp hd
   exact (key b hb).1
  rw[A0]at h2
  exact L1 h2 (L1 (show _<=10000 by omega) (by decide))
theorem PB{lo hi sd:List Int}(hbx:Bx lo hi sd):(eZ lo hi).length<=2 ^ sd.length:=by
 have h1:=CW λc hc=>(BW lo hi c hc).2
 have hbl:=wZ hbx
 have e:(dZ lo hi).length=sd.length:=by unfold dZ;rw[A0,P1];omega
 rw[e]at h1
 unfold eZ
 rw[A0,ZQ]
 simp
 exact h1
theorem Uv{sd cl:List Int}(hsd:Sd sd)(hl:cl.length=(nX sd).length)(hB:Sm cl){b:qZ}(hb:Pc b.1 b.2 sd):(zX sd cl b).shown.length<=600/\(zX sd cl b).showable=true:=by
 have hbl:=TK hb
 have h3:=hsd.l3
 obtain⟨s1,s2⟩:=mH hsd hb
 obtain⟨m1,m2⟩:=nH hsd hl hB (GJ hb)
 have t1:=EW s1
 have t2:=EW s2
 have i1:=hU m1
 have i2:=hU m2
 have key:∀d∈[fQ b.1,fQ b.2,.int (ZJ (PQ sd cl b.1 (xZ b.1 b.2))),.int (aK (PQ sd cl b.1 (xZ b.1 b.2)))],d.shown.length<=110/\d.showable=true:=λd hd=>by
  simp only[V0,j4,or_false]at hd
  rcases hd with rfl|rfl|rfl|rfl
  ·exact ⟨by omega,t1.2⟩
  ·exact ⟨by omega,t2.2⟩
  ·exact ⟨by omega,i1.2⟩
  ·exact ⟨by omega,i2.2⟩
 refine ⟨?_,L3.showableAll_of λd hd=>(key d hd).2⟩
 have h2:=pJ (b:=110) λd hd=>(key d hd).1
 exact L1 h2 (by simp only[X1,J4];omega)
theorem Mw(sd cl:List Int):Nice 3 (.list ((NX sd).map (zX sd cl))):=.list λd hd=>by
 obtain⟨b,_,rfl⟩:=M0.mp hd
 refine .tuple λd hd=>?_
 have hd:d=fQ b.1\/d=fQ b.2\/d=.int (ZJ (PQ sd cl b.1 (xZ b.1 b.2)))\/d=.int (aK (PQ sd cl b.1 (xZ b.1 b.2))):=by simpa using hd
 rcases hd with rfl|rfl|rfl|rfl
 ·exact Nice.tup _
 ·exact Nice.tup _
 ·exact Nice.int _ _
 ·exact Nice.int _ _
theorem GI{sd cl:List Int}(hsd:Sd sd)(hl:cl.length=(nX sd).length)(hB:Sm cl):(E1 ((NX sd).map (zX sd cl))).showable=true/\(E1 ((NX sd).map (zX sd cl))).shown.length<=sizeLine:=by
 have hlen:=zK hsd
 refine ⟨L3.showableAll_of λd hd=>?_,?_⟩
 ·obtain⟨b,hb,rfl⟩:=M0.mp hd
  exact (Uv hsd hl hB (pcs_mem.mp hb)).2
 ·have h2:=bW (l:=(NX sd).map (zX sd cl)) (b:=600) λd hd=>by
   obtain⟨b,hb,rfl⟩:=M0.mp hd
   exact (Uv hsd hl hB (pcs_mem.mp hb)).1
  rw[A0]at h2
  exact L1 h2 (L1 (show _<=10000000 by omega) (by decide))
section
variable {P:Program}{w:World}{K:J0}{mg:Str->Option Value}{base:Heap}
structure CalsL(P:Program)(w:World)(K:J0)(mg:Str->Option Value)(base:Heap):Prop where
 law_pen:Cal P w K mg base 1 "_law_pen" ["_law_script"] (kQ K UE)
 law_field:Cal P w K mg base 3 "_law_field" ["_law_pen_here"] (kQ K Hj)
 law_due:Cal P w K mg base 3 "_law_due" ["_law_sides_here","_law_known"] (kQ K fM)
 law_box:Cal P w K mg base 2 "_law_box" ["_law_pen_here","_law_sides_here"] (kQ K xI)
 law_met:Cal P w K mg base 2 "_law_met" ["_law_box_here"] (kQ K bN)
 met_by:Cal P w K mg base 3 "met_by" ["sides","box"] (kQ K mM)
 law_same:Cal P w K mg base 1 "_law_same" ["_law_found","_law_due_here"] (kQ K Wj)
 law_filled:Cal P w K mg base 2 "_law_filled" ["_law_known","_law_told","_law_box_here"] (kQ K AI)
 law_within:Cal P w K mg base 1 "_law_within" ["_law_known","_law_low","_law_high"] (kQ K xY)
 by_powers:Cal P w K mg base 4 "by_powers" ["sides","table","box"] (kQ K qM)
 law_refilled_right:Cal P w K mg base 5 "_law_refilled_right" ["_law_pen_here","_law_sides_here","_law_known","_law_table","_law_box_here"] (kQ K cN)
noncomputable def Xj:Con:=λargs Q=>∃ns:List Int,args=[.fz (OX ns)]/\ns.length<=63/\∀o,Q (.fz (.bool true)) o
theorem Nw{K:J0}{H:Hp}{a:Addr}{ns:List Int}(hl:ns.length<=63)(h:SqL K H a (ns.map V.int)):kQ K Xj [.ref a] H (λv _=>v=.bl true) λ_ _ _=>False:=by
 refine ⟨⟨H,H,λ_=>none⟩,H,[.fz (OX ns)],λr _=>r=.fz (.bool true),?_,⟨ns,rfl,hl,λ_=>rfl⟩,?_⟩
 ·refine ⟨rfl,Sub.refl _,Sub.refl _,λa o h=>.inl h,λa o h _=>h,?_,?_,?_,?_,?_,?_⟩
  ·intro i d e
   cases i with
   | zero=>cases e;exact ⟨_,rfl,.scr h⟩
   | succ i=>cases e
  ·intro i s e w
   cases i with
   | zero=>cases e;cases w
   | succ i=>cases e
  ·intro i d a e
   cases i with
   | zero=>cases e
   | succ i=>cases e
  ·intro i a e;cases e
  ·intro i d e
   cases i with
   | zero=>cases e
   | succ i=>cases e
  ·intro i j s t a e w
   cases i with
   | zero=>cases e;cases w
   | succ i=>cases e
 ·intro v H' F' r ρ' _ _ hr e
  subst e
  have hr:Da K F' v (.bool true):=hr
  cases hr
  rfl
theorem HI:FnScope ["_law_script","_law_pen_here","_law_k","_law_field_here","_law_known","_law_table","_law_kept","_law_turn","_law_box_here","_law_due_here","_law_again","_law_told","_law_some"] ["_law_script"] (gQ (top 27)):=⟨rfl,rfl,rfl,by decide +kernel,rfl,by decide +kernel,by decide +kernel⟩
theorem QB{f:Addr}{fd:FuncData}(F:Fun K "law" "law" (top 27) f fd)(T:Txt mg)(C:CalsL P w K mg base):FnOk P w K mg base VZ 6 f fd ["_law_script"] (kQ K Xj):=by
 have S:=HI
 refine fY F S (λcdv A outer s H E hr=>(eQ (wQ (i:=1) S.nd rfl (Or.inl rfl) (iZ C.law_pen (hr.mono (by first|decide|omega)) (aQ (wn 0) bQ)))
     (eQ (RX [2,5,6,7,3,4] PassesOwn.never rfl (NJ T.range_ (aQ (wx cQ) bQ)) (lQ (i:=2) S.nd rfl (Or.inl rfl)) (eQ (tw C.law_field (hr.mono (by first|decide|omega)) rfl rfl (wn 1) S.nd (n:=3) (m:=4) rfl rfl (Or.inl rfl) (Or.inl rfl))
     (eQ (wQ (i:=5) S.nd rfl (Or.inl rfl) (iF C.law_due (hr.mono (by first|decide|omega)) (aQ (wx (dX rfl (wn 3) (wx cQ))) (aQ (wn 4) bQ))))
     (eQ (wQ (i:=6) S.nd rfl (Or.inl rfl) (DQ oY (MZ (K:=K) rfl hr) T.repr_ boot_repr (aQ (wn 5) bQ)))
     (eQ (RX [7,9,10,12] PassesOwn.never rfl (NJ T.range_ (aQ (wx cQ) bQ)) (lQ (i:=7) S.nd rfl (Or.inl rfl)) (eQ (wQ (i:=8) S.nd rfl (Or.inl rfl) (YX C.law_box (hr.mono (by first|decide|omega)) (aQ (wn 1) (aQ (wx (dX rfl (wn 3) (wx cQ))) bQ))))
     (eQ (wQ (i:=9) S.nd rfl (Or.inl rfl) (iZ C.law_met (hr.mono (by first|decide|omega)) (aQ (wn 8) bQ)))
     (eQ (RX [10,11] PassesOwn.never rfl (NJ T.range_ (aQ (wx cQ) bQ)) (lQ (i:=10) S.nd rfl (Or.inl rfl)) (eQ (wQ (i:=11) S.nd rfl (Or.inl rfl) (iZ C.met_by (hr.mono (by first|decide|omega)) (aQ (wx (dX rfl (wn 3) (wx cQ))) (aQ (wn 8) bQ))))
     (eQ (BJ (oE (Ek (FU (GU (iZ C.law_same (hr.mono (by first|decide|omega)) (aQ (wn 11) (aQ (wn 9) bQ))))) (Ek (EX pV cV (wx (DQ lJ (HX (K:=K) rfl) T.len_ PySem.boot_len (aQ (wn 11) bQ))) (wx (w_bin XY AY (wx cQ) (wx (DQ lJ (HX (K:=K) rfl) T.len_ PySem.boot_len (aQ (wx (dX rfl (wn 3) (wx cQ))) bQ)))))) (Az (FU (GU (iZ C.law_filled (hr.mono (by first|decide|omega)) (aQ (wn 4) (aQ (wn 11) (aQ (wn 8) bQ)))))))))) (pQ (XQ eY)) nZ)
     (pQ (PJ (Mu xJ rfl PySem.F.slot_list_append PySem.F.type_list_append wJ (wn 11) (aQ (wx mE) bQ)))))))
     (eQ (wQ (i:=12) S.nd rfl (Or.inl rfl) (iF C.law_within (hr.mono (by first|decide|omega)) (aQ (wn 4) (aQ (wx (dX rfl (wn 8) (wx cQ))) (aQ (wx (dX rfl (wn 8) (wx cQ))) bQ)))))
     (pQ (BJ (FU (GU (iZ C.law_same (hr.mono (by first|decide|omega)) (aQ (wx (iZ C.by_powers (hr.mono (by first|decide|omega)) (aQ (wx (dX rfl (wn 3) (wx cQ))) (aQ (wn 5) (aQ (wn 8) bQ))))) (aQ (wx (AX (aQ (wx (DQ PV (rK (K:=K) rfl rfl) T.min_ boot_min (aQ (wn 12) bQ))) (aQ (wx (DQ QV (sK (K:=K) rfl rfl) T.max_ boot_max (aQ (wn 12) bQ))) bQ)))) bQ))))) (pQ (XQ eY)) nZ)))))))
     (eQ (BJ (EX Vw (tz (K:=K) rfl hr.units) (wx (DQ oY (MZ (K:=K) rfl hr) T.repr_ boot_repr (aQ (wn 5) bQ))) (wn 6)) (pQ (XQ eY)) nZ)
     (pQ (BJ (oE (Yw (EX DU nU (wx (DQ zw XD T.len_ PySem.boot_len (aQ (wn 4) bQ))) (wx cQ)) (zz (FU (GU (SE C.law_refilled_right (hr.mono (by first|decide|omega)) (aQ (wn 1) (aQ (wx (dX rfl (wn 3) (wx cQ))) (aQ (wn 4) (aQ (wn 5) (aQ (wx (wv 8)) bQ))))))))))) (pQ (XQ eY)) nZ))))))))
     (pQ (XQ eY))))) ?_ ?_
 ·rintro args Qd ⟨ns,rfl,_⟩;rfl
 ·rintro args Qd ⟨ns,rfl,hn,q⟩
  refine ⟨yQ rfl,?_⟩
  with_reducible refine FQ (λρ=>ρ=[some (.fz (OX ns)),some (.ow (QQ ns 0 0)),none,none,none,none,none,none,none,none,none,none,none]) ?_ ?_
  ·intro N hN
   exact ⟨ns,rfl,λo=>hN _ rfl⟩
  rintro _ rfl
  with_reducible refine FQ (λρ=>∃(a b:Int) (bo:Option Sl),ρ=[some (.fz (OX ns)),some (.ow (QQ ns a b)),none,none,none,none,none,none,bo,none,none,none,none]) ?_ ?_
  ·intro N0 hN0
   refine ⟨by decide,by decide,?_⟩
   generalize MQ 0 (3:Int).toNat=L
   refine LX (λrest ρ=>∃(a b:Int) (bo:Option Sl),0<=a/\0<=b/\(bo=none\/∃z,bo=some (.fz z))/\ρ=[some (.fz (OX ns)),some (.ow (QQ ns a b)),none,none,none,none,none,none,bo,none,none,none,none]) ?_ ?_ ⟨0,0,none,by decide,by decide,.inl rfl,rfl⟩
   ·rintro d ds ρ ⟨a,b,bo,ha,hb,hbo,rfl⟩ N hN
    have nb:∀j,j≠8->True:=λ_ _=>trivial
    with_reducible refine xv rfl ?_
    with_reducible refine FQ (λρ=>∃(sd cl:List Int) (a b:Int),Sd sd/\cl.length=(nX sd).length/\(∀c∈cl,Kv c)/\0<=a/\0<=b/\ρ=[some (.fz (OX ns)),some (.ow (QQ ns a b)),some (.fz d),some (.fz (yK sd cl)),some (.ow (xX (qQ sd cl))),none,none,none,bo,none,none,none,none]) ?_ ?_
    ·intro M hM
     exact ⟨ns,a,b,.ow (QQ ns a b),rfl,rfl,rfl,trivial,trivial,by decide,by decide,by decide,ns,a,b,rfl,ha,hb,λsd cl a1 b1 o hsd hcl hB ha1 hb1=>⟨a1,b1,sd,cl,(nX sd).zip cl,rfl,rfl,hM _ ⟨sd,cl,a1,b1,hsd,hcl,hB,ha1,hb1,rfl⟩⟩⟩
    clear ha hb
    rintro _ ⟨sd,cl,a,b,hsd,hcl,hB,ha,hb,rfl⟩
    have hS:=Vj hB
    obtain⟨sD,lD⟩:=GI hsd hcl hS
    have nD:=Mw sd cl
    have dD:=nD.d
    have h3:=hsd.l3
    have hm:=hsd.m
    have hpl:=zJ hsd.p
    with_reducible refine FQ (λρ=>ρ=[some (.fz (OX ns)),some (.ow (QQ ns a b)),some (.fz d),some (.fz (yK sd cl)),some (.ow (xX (qQ sd cl))),some (.ow (.list ((NX sd).map (zX sd cl)))),none,none,bo,none,none,none,none]) ?_ ?_
    ·intro M hM
     exact ⟨_,rfl,sd,cl,rfl,hsd,hcl,λo=>⟨FW sd cl _,hM _ rfl⟩⟩
    rintro _ rfl
    with_reducible refine FQ (λρ=>ρ=[some (.fz (OX ns)),some (.ow (QQ ns a b)),some (.fz d),some (.fz (yK sd cl)),some (.ow (xX (qQ sd cl))),some (.ow (.list ((NX sd).map (zX sd cl)))),some (.fz (.str (E1 ((NX sd).map (zX sd cl))).shown)),none,bo,none,none,none,none]) ?_ ?_
    ·intro M hM
     exact ⟨nD.p,sD,by show (E1 ((NX sd).map (zX sd cl))).depth+1<=64;omega,lD,hM _ rfl⟩
    rintro _ rfl
    with_reducible refine FQ (λρ=>∃(a b:Int) (lo hi:List Int),0<=a/\0<=b/\Bx lo hi sd/\ρ=[some (.fz (OX ns)),some (.ow (QQ ns a b)),some (.fz d),some (.fz (yK sd cl)),some (.ow (xX (qQ sd cl))),some (.ow (.list ((NX sd).map (zX sd cl)))),some (.fz (.str (E1 ((NX sd).map (zX sd cl))).shown)),none,some (.fz (mQ (lo,hi))),none,none,none,none]) ?_ ?_
    ·intro N1 hN1
     refine ⟨by decide,by decide,?_⟩
     have hL6:(MQ 0 (6:Int).toNat).length=6:=by rw[MQ,A0,Y5];rfl
     generalize MQ 0 (6:Int).toNat=L6 at hL6 ⊢
     refine LX (λrest ρ=>∃(a b:Int) (bo:Option Sl),0<=a/\0<=b/\(rest.length=6/\(bo=none\/∃z,bo=some (.fz z))\/∃lo hi,Bx lo hi sd/\bo=some (.fz (mQ (lo,hi))))/\rest.length<=6/\ρ=[some (.fz (OX ns)),some (.ow (QQ ns a b)),some (.fz d),some (.fz (yK sd cl)),some (.ow (xX (qQ sd cl))),some (.ow (.list ((NX sd).map (zX sd cl)))),some (.fz (.str (E1 ((NX sd).map (zX sd cl))).shown)),none,bo,none,none,none,none]) ?_ ?_ ⟨a,b,bo,ha,hb,.inl ⟨hL6,hbo⟩,by omega,rfl⟩
     ·clear ha hb hbo
      rintro e es ρ ⟨a,b,bo,ha,hb,hbo,hrl,rfl⟩ N2 hN2
      have hbo:(bo=none\/∃z,bo=some (.fz z)):=by
       rcases hbo with⟨_,h⟩|⟨lo,hi,_,h⟩
       ·exact h
       ·exact .inr ⟨_,h⟩
      with_reducible refine xv rfl ?_
      with_reducible refine FQ (λρ=>∃(a b:Int) (lo hi:List Int),0<=a/\0<=b/\Bx lo hi sd/\ρ=[some (.fz (OX ns)),some (.ow (QQ ns a b)),some (.fz d),some (.fz (yK sd cl)),some (.ow (xX (qQ sd cl))),some (.ow (.list ((NX sd).map (zX sd cl)))),some (.fz (.str (E1 ((NX sd).map (zX sd cl))).shown)),some (.fz e),some (.fz (mQ (lo,hi))),none,none,none,none]) ?_ ?_
      ·intro M hM
       rcases hbo with rfl|⟨z,rfl⟩
       ·exact ⟨_,rfl,ns,a,b,sd,rfl,ha,hb,hsd,λlo hi a1 b1 o hbx ha1 hb1=>hM _ ⟨a1,b1,lo,hi,ha1,hb1,hbx,rfl⟩⟩
       ·exact ⟨_,rfl,ns,a,b,sd,rfl,ha,hb,hsd,λlo hi a1 b1 o hbx ha1 hb1=>hM _ ⟨a1,b1,lo,hi,ha1,hb1,hbx,rfl⟩⟩
      clear ha hb hbo
      rintro _ ⟨a,b,lo,hi,ha,hb,hbx,rfl⟩
      obtain⟨nM,sM,lM⟩:=FI hsd hbx
      obtain⟨m1,m2,m3⟩:=DW hsd hbx
      have htw:=PB hbx
      have hbl:=wZ hbx
      have hne:=tZ (cl:=cl) hbx
      have h0:0 < (PQ sd cl lo hi).length:=j6.mpr hne
      obtain⟨sC,lC⟩:=Tv hsd hcl hS hbx
      with_reducible refine FQ (λρ=>ρ=[some (.fz (OX ns)),some (.ow (QQ ns a b)),some (.fz d),some (.fz (yK sd cl)),some (.ow (xX (qQ sd cl))),some (.ow (.list ((NX sd).map (zX sd cl)))),some (.fz (.str (E1 ((NX sd).map (zX sd cl))).shown)),some (.fz e),some (.fz (mQ (lo,hi))),some (.ow (.list ((eZ lo hi).map mQ))),none,none,none]) ?_ ?_
      ·intro M hM
       exact ⟨sd,lo,hi,rfl,hsd,hbx,λo=>hM _ rfl⟩
      rintro _ rfl
      with_reducible refine FQ (λρ=>ρ=[some (.fz (OX ns)),some (.ow (QQ ns a b)),some (.fz d),some (.fz (yK sd cl)),some (.ow (xX (qQ sd cl))),some (.ow (.list ((NX sd).map (zX sd cl)))),some (.fz (.str (E1 ((NX sd).map (zX sd cl))).shown)),some (.fz e),some (.fz (mQ (lo,hi))),some (.ow (.list ((eZ lo hi).map mQ))),none,none,none]) ?_ ?_
      ·intro N3 hN3
       refine ⟨by decide,by decide,?_⟩
       generalize MQ 0 (2:Int).toNat=L2
       refine LX (λrest ρ=>ρ=[some (.fz (OX ns)),some (.ow (QQ ns a b)),some (.fz d),some (.fz (yK sd cl)),some (.ow (xX (qQ sd cl))),some (.ow (.list ((NX sd).map (zX sd cl)))),some (.fz (.str (E1 ((NX sd).map (zX sd cl))).shown)),some (.fz e),some (.fz (mQ (lo,hi))),some (.ow (.list ((eZ lo hi).map mQ))),none,none,none]) ?_ ?_ rfl
       ·rintro g gs ρ rfl N4 hN4
        with_reducible refine xv rfl ?_
        with_reducible refine FQ (λρ=>ρ=[some (.fz (OX ns)),some (.ow (QQ ns a b)),some (.fz d),some (.fz (yK sd cl)),some (.ow (xX (qQ sd cl))),some (.ow (.list ((NX sd).map (zX sd cl)))),some (.fz (.str (E1 ((NX sd).map (zX sd cl))).shown)),some (.fz e),some (.fz (mQ (lo,hi))),some (.ow (.list ((eZ lo hi).map mQ))),some (.fz g),some (.ow (.list ((eZ lo hi).map mQ))),none]) ?_ ?_
        ·intro M hM
         exact ⟨_,rfl,sd,lo,hi,rfl,hsd,hbx,λo=>hM _ rfl⟩
        rintro _ rfl
        with_reducible refine FQ (λρ=>ρ=[some (.fz (OX ns)),some (.ow (QQ ns a b)),some (.fz d),some (.fz (yK sd cl)),some (.ow (xX (qQ sd cl))),some (.ow (.list ((NX sd).map (zX sd cl)))),some (.fz (.str (E1 ((NX sd).map (zX sd cl))).shown)),some (.fz e),some (.fz (mQ (lo,hi))),some (.ow (.list ((eZ lo hi).map mQ))),some (.fz g),some (.ow (.list ((eZ lo hi).map mQ))),none]) ?_ ?_
        ·intro M hM
         refine ⟨3,.list ((eZ lo hi).map mQ),rfl,nM,by decide,sM,lM,.inl ⟨_,rfl⟩,λo=>⟨rfl,?_⟩⟩
         refine ⟨_,rfl,⟨by omega,by rw[A0];omega,by decide⟩,?_⟩
         refine mZ (λh=>absurd (show decide ((1:Int) * 2 ^ (((sd.map u0).length:Nat):Int).toNat < ((((eZ lo hi).map mQ).length:Nat):Int))=true from h) ?_) (λ_=>?_)
         ·rw[A0,A0,S4,R7]
          have h2:((2 ^ sd.length:Nat):Int)=(2:Int) ^ sd.length:=by simp
          rw[<- h2]
          intro z
          have z:=of_decide_eq_true z
          omega
         ·exact ⟨sd,cl,lo,hi,rfl,hsd,hcl,hbx,λo=>⟨rfl,hM _ rfl⟩⟩
        rintro _ rfl
        refine ⟨W3 (show ((eZ lo hi).map mQ).length<=8 by rw[A0];exact m3) (by decide),?_⟩
        exact hN4 _ rfl
       ·rintro ρ rfl
        exact hN3 _ rfl
      rintro _ rfl
      with_reducible refine FQ (λρ=>ρ=[some (.fz (OX ns)),some (.ow (QQ ns a b)),some (.fz d),some (.fz (yK sd cl)),some (.ow (xX (qQ sd cl))),some (.ow (.list ((NX sd).map (zX sd cl)))),some (.fz (.str (E1 ((NX sd).map (zX sd cl))).shown)),some (.fz e),some (.fz (mQ (lo,hi))),some (.ow (.list ((eZ lo hi).map mQ))),none,none,some (.ow (.list ((PQ sd cl lo hi).map u0)))]) ?_ ?_
      ·intro M hM
       refine ⟨_,rfl,_,rfl,sd,cl,lo,hi,rfl,by omega,by omega,λo=>?_⟩
       rw[vW hsd.p hcl hbx]
       exact ⟨DX _,hM _ rfl⟩
      rintro _ rfl
      refine ⟨_,rfl,sd,cl,lo,hi,rfl,hsd,hbx,λo=>⟨rfl,?_⟩⟩
      refine ⟨PQ sd cl lo hi,rfl,h0,λm hm' hmy=>⟨PQ sd cl lo hi,rfl,h0,λM2 hM2 hMy=>?_⟩⟩
      rw[wW hm' hmy,xW hM2 hMy]
      refine ⟨1,fQ [ZJ (PQ sd cl lo hi),aK (PQ sd cl lo hi)],rfl,Nice.tup _,by decide,sC,lC,.inr ⟨_,rfl⟩,λo=>?_⟩
      exact hN2 _ ⟨a,b,_,ha,hb,.inr ⟨lo,hi,hbx,rfl⟩,by simp at hrl;omega,rfl⟩
     ·rintro ρ ⟨a,b,bo,ha,hb,hbo,hrl,rfl⟩
      rcases hbo with⟨h,_⟩|⟨lo,hi,hbx,rfl⟩
      ·simp at h
      ·exact hN1 _ ⟨a,b,lo,hi,ha,hb,hbx,rfl⟩
    clear ha hb hbo
    rintro _ ⟨a,b,lo,hi,ha,hb,hbx,rfl⟩
    with_reducible refine FQ (λρ=>ρ=[some (.fz (OX ns)),some (.ow (QQ ns a b)),some (.fz d),some (.fz (yK sd cl)),some (.ow (xX (qQ sd cl))),some (.ow (.list ((NX sd).map (zX sd cl)))),some (.fz (.str (E1 ((NX sd).map (zX sd cl))).shown)),none,some (.fz (mQ (lo,hi))),none,none,none,none]) ?_ ?_
    ·intro M hM
     refine ⟨nD.p,sD,by show (E1 ((NX sd).map (zX sd cl))).depth+1<=64;omega,lD,?_⟩
     refine mZ (λh=>absurd (show (!decide ((E1 ((NX sd).map (zX sd cl))).shown=(E1 ((NX sd).map (zX sd cl))).shown))=true from h) (by rw[Tj];decide)) (λ_=>hM _ rfl)
    rintro _ rfl
    refine mZ (λh=>?_) (λh=>hN _ ⟨a,b,_,ha,hb,.inr ⟨_,rfl⟩,rfl⟩)
    exact ⟨_,rfl,rfl,rfl,rfl,by decide,by decide,by decide,ns,a,b,sd,cl,lo,hi,rfl,ha,hb,hsd,hcl,hB,hbx,λa1 b1 e' f' x o ha1 hb1=>hN _ ⟨a1,b1,_,ha1,hb1,.inr ⟨_,rfl⟩,rfl⟩⟩
   ·rintro ρ ⟨a,b,bo,_,_,_,rfl⟩
    exact hN0 _ ⟨a,b,bo,rfl⟩
  rintro _ ⟨a,b,bo,rfl⟩
  exact q _
end
theorem vM{p:List Value->Prop}(h:p []):∀us:List Value,us.length=0->p us:=λus e=>by
 cases us with
 | nil=>exact h
 | cons x us=>cases e
theorem len1{p:List Value->Prop}(h:∀x0,p [x0]):∀us:List Value,us.length=1->p us:=λus e=>by
 cases us with
 | nil=>cases e
 | cons x us=>exact vM (p:=λl=>p (x :: l)) (h x) us (b8 e)
theorem len2{p:List Value->Prop}(h:∀x0 x1,p [x0,x1]):∀us:List Value,us.length=2->p us:=λus e=>by
 cases us with
 | nil=>cases e
 | cons x us=>exact len1 (p:=λl=>p (x :: l)) (λx1=>h x x1) us (b8 e)
theorem len3{p:List Value->Prop}(h:∀x0 x1 x2,p [x0,x1,x2]):∀us:List Value,us.length=3->p us:=λus e=>by
 cases us with
 | nil=>cases e
 | cons x us=>exact len2 (p:=λl=>p (x :: l)) (λx1 x2=>h x x1 x2) us (b8 e)
theorem wM{p:List Value->Prop}(h:∀x0 x1 x2 x3,p [x0,x1,x2,x3]):∀us:List Value,us.length=4->p us:=λus e=>by
 cases us with
 | nil=>cases e
 | cons x us=>exact len3 (p:=λl=>p (x :: l)) (λx1 x2 x3=>h x x1 x2 x3) us (b8 e)
theorem xM{p:List Value->Prop}(h:∀x0 x1 x2 x3 x4,p [x0,x1,x2,x3,x4]):∀us:List Value,us.length=5->p us:=λus e=>by
 cases us with
 | nil=>cases e
 | cons x us=>exact wM (p:=λl=>p (x :: l)) (λx1 x2 x3 x4=>h x x1 x2 x3 x4) us (b8 e)
structure Df(K:J0)(mg:Str->Option Value)(x:Str)(st:Stmt)(f:Addr)(d:FuncData):Prop where
 F:Fun K x x st f d
 m:mg x=some (.ref f)
 k:O5 K (.ref f)=true
section
variable {K:J0}{mg:Str->Option Value}
theorem df_mk{h:Heap}(X:K.In h)(G:h.Ns mainGlobals mg){x:Str}{st:Stmt}{f:Addr}{oc:Value}{od an:Option Addr}{osl:Array (Option Value)}{kV doc pm cdv ct:Value}(a:E3 K mainGlobals x=some (some (.ref f)))(l:K.lookup f=some ⟨oc,od,.func (V5 x x (HZ st) (XX st) (gQ st) .none kV doc pm an cdv ct),osl⟩)(c:j8 K cdv x=true)(k:O5 K (.ref f)=true):Df K mg x st f (V5 x x (HZ st) (XX st) (gQ st) .none kV doc pm an cdv ct) :=
 ⟨Py l c k,PySem.W.mg_of X G a,k⟩
theorem kZ(P:Program)(w:World)(base:Heap){k:Nat}{x:Str}{ps:List Str}{sp:Sp}{st:Stmt}{f:Addr}{d:FuncData}(D:Df K mg x st f d)(h:FnOk P w K mg base VZ k f d ps sp)(b:∀(kV doc pm:Value) (an:Option Addr) (cdv ct:Value) (us:List Value),us.length=ps.length->bindArgs (V5 x x (HZ st) (XX st) (gQ st) .none kV doc pm an cdv ct) ⟨us,[]⟩=pure (ps.zip us)):Cal P w K mg base k x ps sp :=
 ⟨⟨f,d,h,D.m,D.k,D.F.binds b⟩⟩
end
theorem all_mk{l:Y8}{w:World}{K:J0}{h:Heap}{mg:Str->Option Value}{fa f0 f1 f2 f3 f4 f5 f6 f7 f8 f9 f10 f11 f12 f13 f14 f15 f16 f17 f18 f19 f20 f21 f22 f23 f24:Addr}{d0 d1 d2 d3 d4 d5 d6 d7 d8 d9 d10 d11 d12 d13 d14 d15 d16 d17 d18 d19 d20 d21 d22 d23 d24:FuncData}(X:K.In h)(G:h.Ns mainGlobals mg)(hfa:mg "law"=some (.ref fa))
  (D0:Df K mg "_law_pen" (top 11) f0 d0) (D1:Df K mg "_law_take" (top 12) f1 d1) (D2:Df K mg "_law_sides" (top 14) f2 d2) (D3:Df K mg "_law_places" (top 15) f3 d3) (D4:Df K mg "_law_number" (top 13) f4 d4) (D5:Df K mg "_law_field" (top 16) f5 d5) (D6:Df K mg "_law_most_power" (top 20) f6 d6) (D7:Df K mg "_law_pieces" (top 21) f7 d7) (D8:Df K mg "_law_within" (top 17) f8 d8) (D9:Df K mg "_law_due" (top 22) f9 d9) (D10:Df K mg "_law_box" (top 18) f10 d10) (D11:Df K mg "_law_met" (top 23) f11 d11) (D12:Df K mg "greatest_power" (top 5) f12 d12) (D13:Df K mg "two_to" (top 4) f13 d13) (D14:Df K mg "starts" (top 8) f14 d14) (D15:Df K mg "one_of_each" (top 1) f15 d15) (D16:Df K mg "met_by" (top 7) f16 d16) (D17:Df K mg "_law_same" (top 19) f17 d17) (D18:Df K mg "_law_has" (top 24) f18 d18) (D19:Df K mg "_law_filled" (top 25) f19 d19) (D20:Df K mg "entry_at" (top 2) f20 d20) (D21:Df K mg "put_together" (top 6) f21 d21) (D22:Df K mg "by_powers" (top 9) f22 d22) (D23:Df K mg "_law_refilled_right" (top 26) f23 d23) (D24:Df K mg "law" (top 27) f24 d24)
  (z0:E3 K mainGlobals "len"=some none) (z1:E3 K mainGlobals "abs"=some none) (z2:E3 K mainGlobals "max"=some none) (z3:E3 K mainGlobals "min"=some none) (z4:E3 K mainGlobals "zip"=some none) (z5:E3 K mainGlobals "int"=some none) (z6:E3 K mainGlobals "bool"=some none) (z7:E3 K mainGlobals "range"=some none) (z8:E3 K mainGlobals "repr"=some none) (z9:E3 K mainGlobals "sorted"=some none) (z10:E3 K mainGlobals "isinstance"=some none) (z11:E3 K mainGlobals "list"=some none) (z12:E3 K mainGlobals "tuple"=some none) (z13:E3 K mainGlobals "all"=some none) (z14:E3 K mainGlobals "sum"=some none) (z15:E3 K mainGlobals "dict"=some none) (z16:E3 K mainGlobals "set"=some none) :
  ∃fd:FuncData,(∀(s:Shared) (v:Value),BindsTo s fd ⟨[v],[]⟩ [("_law_script",v)])/\∀base:Heap,K.In base->base.Ns mainGlobals mg->FnOk l.prog w K mg base VZ 6 fa fd ["_law_script"] (kQ K Xj):=by
 cases hfa.symm.trans D24.m
 have T:Txt mg:=⟨W1 X G z0,W1 X G z1,W1 X G z2,W1 X G z3,W1 X G z4,W1 X G z5,W1 X G z6,W1 X G z7,W1 X G z8,W1 X G z9,W1 X G z10,W1 X G z11,W1 X G z12,W1 X G z13,W1 X G z14,W1 X G z15,W1 X G z16⟩
 obtain⟨oc,od,kV,doc,pm,an,cdv,ct,osl,e,lk,hcd⟩:=D24.F.ex
 refine ⟨d24,λs v=>by subst e;exact .of_eq rfl,λb _ _=>?_⟩
 have C0:=kZ l.prog w b D0 (rB D0.F) λ_ _ _ _ _ _=>len1 λ_=>rfl
 have C1:=kZ l.prog w b D1 (Aw D1.F T) λ_ _ _ _ _ _=>len2 λ_ _=>rfl
 have C2:=kZ l.prog w b D2 (Bj D2.F T ⟨C1⟩) λ_ _ _ _ _ _=>len1 λ_=>rfl
 have C3:=kZ l.prog w b D3 (ZD D3.F T) λ_ _ _ _ _ _=>len1 λ_=>rfl
 have C4:=kZ l.prog w b D4 (YD D4.F T ⟨C1⟩) λ_ _ _ _ _ _=>len1 λ_=>rfl
 have C5:=kZ l.prog w b D5 (Ij D5.F T ⟨C2,C3,C4⟩) λ_ _ _ _ _ _=>len1 λ_=>rfl
 have C6:=kZ l.prog w b D6 (BB D6.F) λ_ _ _ _ _ _=>len1 λ_=>rfl
 have C7:=kZ l.prog w b D7 (CB D7.F T ⟨C3,C6⟩) λ_ _ _ _ _ _=>len1 λ_=>rfl
 have C8:=kZ l.prog w b D8 (bq D8.F T) λ_ _ _ _ _ _=>len3 λ_ _ _=>rfl
 have C9:=kZ l.prog w b D9 (kI D9.F T ⟨C7,C8⟩) λ_ _ _ _ _ _=>len2 λ_ _=>rfl
 have C10:=kZ l.prog w b D10 (FB D10.F T ⟨C1⟩) λ_ _ _ _ _ _=>len2 λ_ _=>rfl
 have C11:=kZ l.prog w b D11 (CI D11.F T ⟨C6⟩) λ_ _ _ _ _ _=>len1 λ_=>rfl
 have C12:=kZ l.prog w b D12 (dI D12.F) λ_ _ _ _ _ _=>len1 λ_=>rfl
 have C13:=kZ l.prog w b D13 (cI D13.F T) λ_ _ _ _ _ _=>len1 λ_=>rfl
 have C14:=kZ l.prog w b D14 (pI D14.F T ⟨C13⟩) λ_ _ _ _ _ _=>len3 λ_ _ _=>rfl
 have C15:=kZ l.prog w b D15 (Cw D15.F) λ_ _ _ _ _ _=>len1 λ_=>rfl
 have C16:=kZ l.prog w b D16 (qI D16.F T ⟨C12,C14,C15⟩) λ_ _ _ _ _ _=>len2 λ_ _=>rfl
 have C17:=kZ l.prog w b D17 (Kw D17.F T) λ_ _ _ _ _ _=>len2 λ_ _=>rfl
 have C18:=kZ l.prog w b D18 (EB D18.F T) λ_ _ _ _ _ _=>len3 λ_ _ _=>rfl
 have C19:=kZ l.prog w b D19 (HB D19.F T ⟨C18⟩) λ_ _ _ _ _ _=>len3 λ_ _ _=>rfl
 have C20:=kZ l.prog w b D20 (oI D20.F T) λ_ _ _ _ _ _=>len2 λ_ _=>rfl
 have C21:=kZ l.prog w b D21 (sI D21.F T) λ_ _ _ _ _ _=>len1 λ_=>rfl
 have C22:=kZ l.prog w b D22 (uI D22.F T ⟨C16,C20,C21⟩) λ_ _ _ _ _ _=>len3 λ_ _ _=>rfl
 have C23:=kZ l.prog w b D23 (EI D23.F T ⟨C1,C9,C8,C17,C22⟩) λ_ _ _ _ _ _=>xM λ_ _ _ _ _=>rfl
 exact QB D24.F T ⟨C0,C5,C9,C10,C11,C16,C17,C19,C8,C22,C23⟩
theorem walk{l:Y8}{q:Program}{loose:List Str}{XP:(Str->Option Value)->Heap->Prop}{YP:World->Heap->Prop}{d:DefRec}{K:Params->J0}(hn:l.most=some 63)(hdf:d.params.defaults=[])
  (hY:∀(w:World) (h:Heap),YP w h->(K w.params).In h)
  (F:∀(w:World) (mg:Str->Option Value) (fa:Addr) (h:Heap),(K w.params).In h->h.Ns mainGlobals mg->mg d.name=some (.ref fa) ->
    ∃fd:FuncData,(∀(s:Shared) (u:Value),BindsTo s fd ⟨[u],[]⟩ [("_law_script",u)])/\∀base:Heap,(K w.params).In base->base.Ns mainGlobals mg->FnOk l.prog w (K w.params) mg base VZ 6 fa fd ["_law_script"] (kQ (K w.params) Xj)) :
  PySem.W.WalkO q loose XP YP l.row.toRowW d [] (λf vs=>PySem.call f vs) :=
 L2.walk_of (n:=63) (k:=6) (x:="_law_script") (CX:=λ_=>VZ) (sp:=λw=>kQ (K w.params) Xj) hn (by decide) hdf ⟨rfl,by decide,by decide,rfl⟩ hY F (λ_ _ a ns hl _ hS=>Nw hl hS) λ_ _ _ _ _ z=>z
end R22
open PySem PySem.W PyProof.Rows
namespace PySem.W.Fast
def tw12345968563544929109:Unit:=()
def tw12524830110044476001:Unit:=()
def tw15973523287071831216:Unit:=()
def tw9429537953828204805:Unit:=()
def tw10997979917819058714:Unit:=()
def tw8470040718631585587:Unit:=()
def tw16104214551975543060:Unit:=()
def tw3905143784511689821:Unit:=()
def tw3998775900420764621:Unit:=()
def tw18085635691583417063:Unit:=()
def tw8489587813426156072:Unit:=()
def tw1799230574202240787:Unit:=()
def tw13165482390250214634:Unit:=()
def tw12743922866539672261:Unit:=()
def tw602194012900414886:Unit:=()
def tw5099007583218963054:Unit:=()
def tw7926992967021007983:Unit:=()
def tw12416695041485613691:Unit:=()
def tw3029145936436092372:Unit:=()
def tw8638082776903373079:Unit:=()
def tw18395133541532087713:Unit:=()
def tw6361132145697067073:Unit:=()
def tw4059684001581711232:Unit:=()
def tw18047770078006021789:Unit:=()
def tw10788337668644944873:Unit:=()
def tw9195020827206500634:Unit:=()
def tw8350061138156480409:Unit:=()
def tw12133832736193832250:Unit:=()
def tw14144214194072441638:Unit:=()
def tw988419558233211257:Unit:=()
def tw13508625456954341271:Unit:=()
def tw4002643072954360654:Unit:=()
def tw14215196236924967456:Unit:=()
def tw9540724652153915064:Unit:=()
def tw7932478195845386363:Unit:=()
def tw616739624497095156:Unit:=()
def tw15989810793245012279:Unit:=()
def tw16032305873724529138:Unit:=()
def tw10864845054943745545:Unit:=()
def tw7079248139503317335:Unit:=()
def tw6487434220189259768:Unit:=()
def tw13730181282690587086:Unit:=()
def tw6245185859173880416:Unit:=()
def tw9121250726728611773:Unit:=()
def tw14620813624106361859:Unit:=()
def tw7392164555205238919:Unit:=()
def tw16217983124647595150:Unit:=()
def tw6366684682890615756:Unit:=()
def tw15854079039479223130:Unit:=()
def tw17134936641868249608:Unit:=()
def tw14024482229024646409:Unit:=()
def tw7106048156394073939:Unit:=()
def tw9024710500772639424:Unit:=()
def tw8953399878127377630:Unit:=()
end PySem.W.Fast
set_option maxRecDepth 100000 in
set_option maxHeartbeats 0 in
theorem PySem.Challenge.cw_boxsums_k22_pieces_met_and_answers_holds : PySem.Challenge.rw_boxsums_k22_pieces_met_and_answers.Holds := by
 w_on;o_law;k_head;(case hw=>w_witness2)
 k_fill
 refine R22.walk (l:=PySem.Challenge.rw_boxsums_k22_pieces_met_and_answers) rfl rfl (λw h Y=>PySem.W.kIn_of Y) ?F
 case F =>
  intro w mg fa h KX G hmg
  refine' R22.all_mk KX G hmg (R22.df_mk KX G ?a0 ?l0 ?c0 ?k0) (R22.df_mk KX G ?a1 ?l1 ?c1 ?k1) (R22.df_mk KX G ?a2 ?l2 ?c2 ?k2) (R22.df_mk KX G ?a3 ?l3 ?c3 ?k3) (R22.df_mk KX G ?a4 ?l4 ?c4 ?k4) (R22.df_mk KX G ?a5 ?l5 ?c5 ?k5) (R22.df_mk KX G ?a6 ?l6 ?c6 ?k6) (R22.df_mk KX G ?a7 ?l7 ?c7 ?k7) (R22.df_mk KX G ?a8 ?l8 ?c8 ?k8) (R22.df_mk KX G ?a9 ?l9 ?c9 ?k9) (R22.df_mk KX G ?a10 ?l10 ?c10 ?k10) (R22.df_mk KX G ?a11 ?l11 ?c11 ?k11) (R22.df_mk KX G ?a12 ?l12 ?c12 ?k12) (R22.df_mk KX G ?a13 ?l13 ?c13 ?k13) (R22.df_mk KX G ?a14 ?l14 ?c14 ?k14) (R22.df_mk KX G ?a15 ?l15 ?c15 ?k15) (R22.df_mk KX G ?a16 ?l16 ?c16 ?k16) (R22.df_mk KX G ?a17 ?l17 ?c17 ?k17) (R22.df_mk KX G ?a18 ?l18 ?c18 ?k18) (R22.df_mk KX G ?a19 ?l19 ?c19 ?k19) (R22.df_mk KX G ?a20 ?l20 ?c20 ?k20) (R22.df_mk KX G ?a21 ?l21 ?c21 ?k21) (R22.df_mk KX G ?a22 ?l22 ?c22 ?k22) (R22.df_mk KX G ?a23 ?l23 ?c23 ?k23) (R22.df_mk KX G ?a24 ?l24 ?c24 ?k24) ?z0 ?z1 ?z2 ?z3 ?z4 ?z5 ?z6 ?z7 ?z8 ?z9 ?z10 ?z11 ?z12 ?z13 ?z14 ?z15 ?z16
  case a0|l0|c0|k0|a1|l1|c1|k1|a2|l2|c2|k2|a3|l3|c3|k3|a4|l4|c4|k4|a5|l5|c5|k5|a6|l6|c6|k6|a7|l7|c7|k7|a8|l8|c8|k8|a9|l9|c9|k9|a10|l10|c10|k10|a11|l11|c11|k11|a12|l12|c12|k12|a13|l13|c13|k13|a14|l14|c14|k14|a15|l15|c15|k15|a16|l16|c16|k16|a17|l17|c17|k17|a18|l18|c18|k18|a19|l19|c19|k19|a20|l20|c20|k20|a21|l21|c21|k21|a22|l22|c22|k22|a23|l23|c23|k23|a24|l24|c24|k24|z0|z1|z2|z3|z4|z5|z6|z7|z8|z9|z10|z11|z12|z13|z14|z15|z16=>k_is
